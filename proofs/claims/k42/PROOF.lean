import PyProof.Rows.All
import Wide.All
import Wide.FinOn
import PyProof.EqAt
import PyProof.EqKinds
import PyProof.TupleCall
import PyProof.AttrMissHeap
import PyProof.StrWalks
import PyProof.ListStr
import PyProof.EnumMake
import PyProof.SumWalk
import PyProof.DictWalks
import PyProof.FitsBits
import PyProof.Rows.RuleIs
import PyProof.DictTruth
import PyProof.MinMaxWalk
import PyProof.FactsAll.tuple_2
import PyProof.WalkInts
import PyProof.WalksMore
import PyProof.SetScanFacts
import PyProof.Draws
import PyProof.TupleKey
import PyProof.IsRules
import PyProof.NeKinds
import PyProof.FactsAll.dict_2
import PyProof.InstStoreFacts
import PyProof.AssignAttr
import KE.KDictList
import KE.KDictOf
import KE.KDictSum
import KE.KIsAll
import KE.KItem
import KE.KRevSl
import KE.KSortAsk
import KE.KSortTup
import OpenK.KCall
import OpenK.KCls
import OpenK.KDescr
import OpenK.KDict
import OpenK.KGet
import OpenK.KLine
import OpenK.KList
import OpenK.KMake
import OpenK.KMore
import OpenK.KNot
import OpenK.KOps
import OpenK.KWalk
import OpenK.Peek
import PySem.Challenge.RW_stickytiles_k42_spoilt_grows_on
set_option maxHeartbeats 8000000
set_option maxRecDepth 100000
open PySem renaming wpAny_bind→Aa,wpAny_pure→Ae,wpAny_holding→AO,wpAny_newObj_type→AR,mem_of_lookup→AX,wpAny_callSpecial?_slot→A6,wpAny_field→Ba,wpAny_call_entry→Bc,wpAny_truthy_bool→Bp,wpAny_mono→Bu,wpAny_seqItems→By,codeAny_builtin→BB,plainId_quiet→BE,tupleKind_room_in1→BK,wpAny_letGo→BP,wpAny_rule→BR,wpAny_dictEntries→BU,wpAny_typeNameOfWhole_keyiter→BX,wpAny_setField_rec→B6,wpAny_passesOwn→B7,wpAny_notOrdered_dict→B8,wpAny_getItem_str_slice→Cn,wpAny_pyNext_list_item→Cs,sizeLine_eq→Ct,wpAny_pyIter_list→Cy,wpAny_pyNext_list_end→CD,wpAny_tryCatch→CF,post_val_or_str→CT,wpAny_Call_Name_kw→C1,wpAny_newList→Dj,wpAny_execs_nil→Do,call_meetsIn→Dr,wpAny_typeOf→Ds,pushCells_keeps→Dv,wpAny_updateSeq_pair→DA,wpAny_setField→DI,wpAny_standAt→DR,wpAny_attempt→DU,wpAny_onRaise→DV,wpAny_Call_method→DZ,call_meets→D2,wpAny_missedRemoval_other→D4,codeAny_mono→D7,wpAny_pyNext_tuple_item→Eg,wpAny_dictEpoch→Es,size_of_entries→Et,wpAny_updateSeq→Eu,wpAny_pyNext_tuple_end→Ez,wpAny_isTrue_Compare1→EL,wpAny_newTuple→ES,builtinLookup_eq_fast→EX,wpAny_isOneOf_keyiter→EY,wpAny_pyIter_keyiter→Fg,evalPart_none→Fj,wpAny_dictSet_pairs→Fn,wpAny_dictFind_heap→Fp,Within→Ft,seqIndex_neg→FC,sub_AttributeError→FG,call_function_tree→FH,wpAny_assign_Name→FL,wpAny_sequenceKey→FQ,wpAny_pyIter_enum→FX,seqIndex_of→F6,wpAny_of_eq→F7,wpAny_Name→Gi,typeIs_str→Gj,call→Gk
open PySem.W renaming Frag→Ab,keepIn→Bi,findIn→Bq,fnOf→Bw,emptyDict→Bz,instObj→BQ,codeIn→Cd,plainGet→CI,hasDictIn→Da,isFn→Dp,makesIn→Dq,nsIn→Dt,plainGet_of→DB,lookIn→DG,callWith_K→DM,KitAt→DS,methodObj→DX,plainOver→DY,kitx_dict→D0,takerIn→Ek,cellsFrom_some→EA,methodCall_KW→EM,kitx_list→FU,handedIn→F9,kat_kind→Gd,kas_ask→Gs,kitOne→GF,KdlSrc→GG
open Option renaming bind_some→Ac,map_some→AL,isSome_map→Be,isNone_none→Cq,getD_some→Dk,isSome_some→Fx,getD_none→Gb,map_none→GB,bind→GY
open PySem.Heap renaming get?_push_of_some→Ad,lt_size→Ak,get?_push_size→Ao,size_push→Bb,SameBut→BC,get?_update_self→BL,get?_update_other→Cw,ExtBut→EJ
open List renaming length_map→Af,getElem?_set_ne→Ah,getElem?_eq_getElem→Ai,append_assoc→Aj,mem_cons_of_mem→Al,getElem?_append_left→Am,map_cons→An,append_nil→Ap,mem_cons_self→Ar,getElem?_set_self→As,getD_eq_getElem?_getD→Au,range→Av,getElem?_map→Ax,length_cons→Ay,size_toArray→Az,length_append→AD,mem_of_getElem?→AG,mem_append_right→AH,map_map→AJ,mem_append_left→AK,length_filter_le→AQ,take_length→AU,find?_cons→AV,map_append→AZ,getElem?_append_right→A0,lookup_cons→A3,mem_cons→A4,getElem_mem→A5,take_add_one→A7,not_mem_nil→Bd,length_nil→Bj,length_set→Bk,length_take→Bn,length_singleton→Br,map_nil→Bx,replicate→BG,filter_cons→BI,length_replicate→BJ,any_cons→BV,eq_nil_of_length_eq_zero→BW,filterMap_cons→BY,toArray→B5,length_range→Cb,getElem?_replicate→Cm,getElem?_cons_zero→Co,range_succ→Cr,lookup→Cu,findIdx_cons→CB,getElem_of_mem→CN,mergeSort_perm→CO,map_congr_left→CQ,of_mem_zip→CS,mem_of_find?_eq_some→CW,nil_append→CY,mem_append→CZ,forIn_nil→C4,pairwise_mergeSort→C7,length_eraseIdx_le→C8,getElem?_cons_succ→C9,getElem?_set→De,reverse_cons→Dg,filter_eq_nil_iff→Di,nodup_cons→Dw,getElem?_range→DD,flatten_append→DE,zip_cons_cons→DN,filter_append→DO,mem_singleton→DP,find?_append→D1,drop_eq_getElem_cons→D3,all_eq_true→Ec,mem_of_mem_eraseIdx→Ed,mem_flatten→Ef,forIn_cons→El,filter_nil→Er,foldl_cons→Ew,mem_filter→Ey,drop_eq_nil_of_le→EH,getElem?_toArray→EN,countP_mono_left→EO,eraseIdx_sublist→EZ,dropLast_eq_take→E4,mem_of_mem_take→Ff,length_reverse→Fo,replicate_succ→Fq,filter_sublist→Fs,filterMap_map→Fz,find?_eq_none→FI,mem_map→FJ,any_eq_false→FN,take_sublist→FO,zip_nil_left→FP,nodup_append→FR,getElem?_inj→FS,foldl_append→FY,ext_getElem?→F3,flatten_cons→F4,length→F5,map_id→F8,length_drop→Ga,countP_cons→Gc,getElem_map→Ge,zipIdx_cons→Gf,zipIdx_nil→Gv,length_zip→Gx,find?_some→GA,nodup_nil→GC,drop_zero→GD,mem_range→GH,all_cons→GK,sum_cons→GO
open Nat renaming le_refl→Ag,ne_of_lt→Aw,le_trans→AB,lt_of_lt_of_le→AC,lt_irrefl→AN,zero_le→A9,lt_of_le_of_lt→BM,lt_trans→B3,le_of_succ_le→Cc,mul_le_mul→Cf,lt_succ_self→Cg,le_add_right→Cj,le_succ→Cv,le_of_lt→CC,succ_le_succ→CL,ne_of_gt→C0,lt_succ_of_lt→Df,sub_self→Du,not_lt_zero→Dz,add_le_add_left→DC,add_mul→DJ,le_of_eq→D5,min_le_right→D9,le_succ_of_le→FZ,min_le_left→Gm
open Bool renaming and_eq_true→Aq,false_eq_true→AM,false_ne_true→AW,not_eq_true'→BS,and_comm→DW,or_eq_true→Em,not_false→Fb,eq_iff_iff→Gp,and_true→GL,and_self→GQ
open Option.some renaming inj→AA
open PySem.Value renaming ref→AE,none→Bo,bool→CH,int→DK,str→Ej,type→Gh,isStrOf→GJ,builtin→GM,isInt→GU,bytes→GV,float→GW
open PySem.PassesOwn renaming never→AF
open PySem.NameKind renaming free→AI,cell→AY
open Array renaming length_toList→AS,getElem?_toList→Bs,getD_eq_getD_getElem?→B4,toList→GR
open Int renaming toNat_of_nonneg→A2,toNat_natCast→BA,emod_lt_of_pos→BN,emod_nonneg→B9,le_trans→Ci,le_refl→Dh,le_of_lt→Dy,natCast_mul→Gn,le_antisymm→Gq
open PySem.Around renaming under_plainId→A8,under→D6
open Or renaming inr→Bf,inl→Bl
open PySem.Paired renaming length→Bg,snoc→GX
open PySem.PyData renaming strOk→Bm,eqv→Bv,canLay0→B0,eqvAll→Ca,canLayAll0→CA,depth→C2,depthAll→Eo,int→Fi
open Prod.mk renaming inj→Bt
open PySem.Str renaming ofString→BD,empty→Fv
open Ne renaming symm→BF
open PySem.Obj renaming mapSeq→BH,data_mapFields→C3,isFreed_of_fields→EW,data_mapDictKeys→Fh,cls_mapFields→FW,mapFields→GP
open PyProof.Rows renaming slot_tuple_getitem→BO,callWith_type1→B2,slot_tupleiter_next→CP,assignInOrder_cons→DL,listUpdate_at→DT,entry_list_sort→Ep,subscriptTail_builtinR→EG,seqEpoch_at→EI,slot_list_sort→ET,args_list_sort→EU,Subscript_→Fc,entry_tupleiter_next→Fe,entry_tuple_getitem→Fk,args_tupleiter_next→Fm,args_tuple_getitem→FA,args_sorted1→FD,assignInOrder_nil→FM,lt_int→Gg
open PySem.Heap.SameBut renaming update→BZ
open PySem.Calls renaming callWith_builtin→B1,spliced_cons→Cp,evalArgs_plain→CK,call_function_entry→CV,spliced_nil→Dc,Name_function_global→DQ
open PySem.AutoSeq1 renaming wpAny_loadPart'→Ck
open List.Pairwise renaming nil→Cz,sublist→Dm
open PySem.F renaming slot_dict_pop→CG,plainAttrs_dict→C5,plainAttrs_list→C6,slot_dict_get→Dl,args_tuple_add_2→D8,args_dict_get_2→Eh,entry_tuple_add→Ei,entry_dict_get→EB,slot_tuple_add→EF,entry_dict_pop→EK,type_dict_pop→E3
open True renaming intro→CJ
open Sum renaming inl→CM,inr→DF
open Array.Perm renaming refl→CU
open ForInStep renaming yield→Dx
open PySem.Heap.IsList renaming «at»→DH
open PySem.Txt renaming slice_le→Eb,slice→GI
open Nat.succ renaming inj→Ee
open PySem.W.Looks renaming of_pure→ER
open PySem.W.KasFin renaming intro→Fd
open PySem.P renaming truthy_str→Fu
open PySem.Code renaming isFrame→Fw,isGuard→GS
open PySem.SeqAt.EqAt renaming int_int→Fy
open PySem.Heap.IsSliceOf renaming new→FB
open PySem.Heap.IsListIter renaming «at»→FE
open PySem.W.UpdF renaming head→FV
open StateT renaming run_pure→Gu
open PyProof.Rows.Fr renaming set→Gy
open PySem.Heap.DictOf renaming new→Gz
open Nat.le renaming dest→GZ
open PySem.W.KatTups renaming cons→G4,nil→G6
open PyProof.Rows.SortSt renaming mk'→G5
set_option Elab.async false
set_option linter.all false
open PySem renaming Value→IR,model→KB,Expr→Pv,Heap→P3,compareOp→SL,Program→SZ,bootBuiltins→UF,mainGlobals→UV,eval→Wp,Stmt→W1
open List renaming getElem?_eq_some_iff→KF,mem_singleton→KM,mem_append→On,mem_cons→Os,mem_map→Re
noncomputable section
local macro_rules|`(!0)=>`(by omega)
local macro_rules|`(!1)=>`(by decide)
local macro_rules|`(!2)=>`(by simp)
set_option hygiene false in
local macro_rules|`(!3)=>`(Hs e stk ks w h sd)
set_option hygiene false in
local macro_rules|`(!4)=>`(KB X.prog X.w)
set_option hygiene false in
local macro_rules|`(!5)=>`(KB prog w)
set_option hygiene false in
local macro_rules|`(!6)=>`(List Str)
set_option hygiene false in
local macro_rules|`(!7)=>`(names4 ks P x y)
set_option hygiene false in
local macro_rules|`(!8)=>`(m U st)
set_option hygiene false in
local macro_rules|`(tactic|exists 0)=>`(tactic|rintro qp s σ H xs us Q I r ⟨ds,st,io,d,st',R,S,e,k⟩)
set_option hygiene false in
local macro_rules|`(tactic|exists 1)=>`(tactic|rintro σ H Q ⟨U,st,io,d,st',E,S,e,k⟩)
set_option hygiene false in
local macro_rules|`(tactic|exists 2)=>`(tactic|obtain⟨U,st,io,f,st',E,S,e,w⟩:=La.mp h)
set_option hygiene false in
local macro_rules|`(tactic|exists 3)=>`(tactic|obtain⟨hf,e⟩:=IA e)
set_option hygiene false in
local macro_rules|`(tactic|exists 4)=>`(tactic|generalize Hs e stk ks w h sd=bed at *)
set_option hygiene false in
local macro_rules|`(tactic|exists 5)=>`(tactic|refine callType_codes (Q₁:=λobj s₁=>obj=.ref s.heap.objs.size/\s₁={s with heap:=s.heap.push Qqd}) F.kt_called_dict (F.kt_typeCall_dict_1 _) F.entry_dict_init (kt_code_dict_new _ ⟨rfl,rfl⟩) ?_)
set_option hygiene false in
local macro_rules|`(tactic|exists 6)=>`(tactic|intro qp s σ H Q I h)
set_option hygiene false in
local macro_rules|`(tactic|exists 7)=>`(tactic|have hd:(s.heap.objs.size==sysModules)=false:=beq_eq_false_iff_ne.mpr<|BF<|Aw I.big)
set_option hygiene false in
local macro_rules|`(tactic|exists 8)=>`(tactic|rw[show IP f v ((k,x)::r)=(if k=f then(k,v)::r else(k,x)::IP f v r) from rfl])
set_option hygiene false in
local macro_rules|`(tactic|exists 9)=>`(tactic|rintro σ H Q ⟨U,st,io,v,st',E,S,e,k⟩)
set_option hygiene false in
local macro_rules|`(tactic|exists 10)=>`(tactic|rcases Os.mp h with h|h)
set_option hygiene false in
local macro_rules|`(tactic|exists 11)=>`(tactic|dsimp only at e)
set_option hygiene false in
local macro_rules|`(tactic|exists 12)=>`(tactic|rintro σ H R ⟨U,st,io,W,st',E,S,e,k⟩)
set_option hygiene false in
local macro_rules|`(tactic|exists 13)=>`(tactic|refine CV kind_sorted plain_sorted entry_sorted (FD _) ?_)
set_option hygiene false in
local macro_rules|`(tactic|exists 14)=>`(tactic|intro qp s σ H D I h)
set_option hygiene false in
local macro_rules|`(tactic|exists 15)=>`(tactic|exact⟨this.2.2.2.2.1,this.2.2.2.2.2⟩)
set_option hygiene false in
local macro_rules|`(tactic|exists 16)=>`(tactic|exact I1.fpOk (Ag _)<|I1.hok.fresh<|Ag _)
set_option hygiene false in
local macro_rules|`(tactic|exists 17)=>`(tactic|obtain⟨xs,f,s',e,h⟩:=ON (W:=W) (g:=g) (c:=c) (m:=m) (ds:=ds) (Inv:=λk=>Inv (k+1)) j n l)
abbrev Qqa:=PySem.Value->PySem.Shared->Prop
abbrev Qqb (v:PySem.Env) (e:PySem.Expr) (l:List PySem.Expr):Prop:=PySem.starEach (e::l) v=(false,PySem.eval e v)::PySem.starEach l v
abbrev Qqc (p:PySem.Pos) (l:List PySem.Expr) (v:PySem.Env):Prop:=(PySem.backTo p (PySem.starEach l v)).any (·.1)=false
abbrev Qqd:PySem.Obj:={cls:=.type "dict",data:=.dict #[]}
namespace L2
open PySem PySem.Spec PyProof.Rows
noncomputable abbrev Key:=Sum Int Str
def PN:Key->IR->Bool
 |.inl k,v=>GU k v
 |.inr x,v=>GJ x v
def YC(w:World):Key->Int
 |.inl k=>hashInt k
 |.inr x=>hashStr w x
def NF:∀{k:Key}{v:IR},PN k v=true->(∃i t,k=CM i/\v=DK i t)\/(∃x t,k=DF x/\v=Ej x t)
 |.inl i,v,h=>by obtain⟨t,e⟩:=Value.isInt_shape (k:=i) (v:=v) h;exact .inl ⟨i,t,rfl,e⟩
 |.inr x,v,h=>by obtain⟨t,e⟩:=Value.isStrOf_shape (x:=x) (v:=v) h;exact .inr ⟨x,t,rfl,e⟩
def zm8(i:Int)(t:Tok):PN (.inl i) (.int i t)=true:=by simp[PN,GU]
def zm7(x:Str)(t:Tok):PN (.inr x) (.str x t)=true:=by simp[PN,GJ]
def nN(a b:Int):decide ((CM a:Key)=CM b)=(a==b):=by
 by_cases e:a=b
 ·subst e;simp
 have h:¬(CM a:Key)=CM b:=λq=>e<|Sum.inl.inj q;rw[decide_eq_false h];exact(beq_eq_false_iff_ne.mpr e).symm
def nQ(a b:Str):decide ((DF a:Key)=DF b)=decide (a=b):=by
 by_cases e:a=b
 ·subst e;simp
 have h:¬(DF a:Key)=DF b:=λq=>e<|Sum.inr.inj q;rw[decide_eq_false h,decide_eq_false e]
def nO(a:Int)(b:Str):decide ((CM a:Key)=DF b)=false:=decide_eq_false λq=>nomatch q
def nP(a:Str)(b:Int):decide ((DF a:Key)=CM b)=false:=decide_eq_false λq=>nomatch q
def Jm(prog:SZ)(w:World):PySem.KeyKind prog w Key where
 is:=PN
 hash:=YC w
 inj:=λv a b f d=>by
  rcases NF f with⟨i,t,rfl,rfl⟩|⟨x,t,rfl,rfl⟩
  ·rcases NF d with⟨j,u,rfl,e⟩|⟨y,u,rfl,e⟩
   ·injection e with e1 _;rw[e1]
   exact nomatch e
  ·rcases NF d with⟨j,u,rfl,e⟩|⟨y,u,rfl,e⟩
   ·exact nomatch e
   injection e with e1 _;rw[e1]
 byValue:=λk v h=>by rcases NF h with⟨i,t,rfl,rfl⟩|⟨x,t,rfl,rfl⟩<;>rfl
 pyHash:=λc h=>by
  rcases NF c with⟨i,t,rfl,rfl⟩|⟨x,t,rfl,rfl⟩
  ·exact wpAny_pyHash_int h
  exact wpAny_pyHash_str h
 eqBool:=λg c h=>by
  rcases NF g with⟨i,t,rfl,rfl⟩|⟨x,t,rfl,rfl⟩
  ·rcases NF c with⟨j,u,rfl,rfl⟩|⟨y,u,rfl,rfl⟩
   ·rw[nN]at h;exact wpAny_eqBool_int h
   rw[nO]at h;exact SeqAt.EqAt.int_str i t y u _ _ _ _ h
  ·rcases NF c with⟨j,u,rfl,rfl⟩|⟨y,u,rfl,rfl⟩
   ·rw[nP]at h;exact SeqAt.EqAt.str_int x t j u _ _ _ _ h
   rw[nQ]at h;exact wpAny_eqBool_str h
 «strs»:=λk x t v h=>by
  rcases NF h with⟨i,u,rfl,e⟩|⟨y,u,rfl,e⟩
  ·exact nomatch e
  ·injection e with e1 _
   subst e1;cases v<;>rfl
def zjx(prog:SZ)(w:World)(i:Int)(t:Tok):(Jm prog w).is (.inl i) (.int i t)=true:=zm8 i t
def zjw(prog:SZ)(w:World)(x:Str)(t:Tok):(Jm prog w).is (.inr x) (.str x t)=true:=zm7 x t
inductive V where
 |non|bl (b:Bool)|int (i:Int)|str (x:Str)|byt (b:Array UInt8)|flt (b:UInt64)|ref (a:Addr)|ty (n:String)
 deriving DecidableEq
def RelV:V->IR->Prop
 |.non,u=>u=Bo
 |.bl b,u=>u=CH b
 |.int i,u=>∃t,u=DK i t
 |.str x,u=>∃t,u=Ej x t
 |.byt b,u=>∃t,u=GV b t
 |.flt b,u=>∃t,u=GW b t
 |.ref a,u=>u=AE a
 |.ty n,u=>u=Gh n
noncomputable abbrev Vals:List V->List IR->Prop:=Paired RelV
variable {us:List IR}
def Vals.length{xs:List V}{us:List IR}(r:Vals xs us):xs.length=us.length:=Bg r
theorem Vals.get:∀{xs:List V}{us:List IR}{i:Nat}{x:V},Vals xs us->xs[i]?=some x->∃u,us[i]?=some u/\RelV x u
 |_,_,_,_,.nil,e=>by simp at e
 |_,_,0,_,.cons r _,e=>by simp at e;subst e;exact⟨_,rfl,r⟩
 |_,_,i+1,x,.cons _ t,e=>by obtain⟨u,a,b⟩:=Vals.get (i:=i) (x:=x) t (by simpa using e);exact⟨u,by simpa using a,b⟩
variable {u:IR}
theorem Vals.set{x:V}{u:IR}(r:RelV x u):∀{xs:List V}{us:List IR} (i:Nat),Vals xs us->Vals (xs.set i x) (us.set i u)
 |_,_,_,.nil=>.nil
 |_,_,0,.cons _ t=>.cons r t
 |_,_,i+1,.cons q t=>.cons q<|Vals.set r i t
theorem Vals.append:∀{xs a:List V}{us ws:List IR},Vals xs us->Vals a ws->Vals (xs++a) (us++ws)
 |_,_,_,_,.nil,s=>s
 |_,_,_,_,.cons r t,s=>.cons r<|Vals.append t s
theorem Vals.take:∀{xs:List V}{us:List IR} (n:Nat),Vals xs us->Vals (xs.take n) (us.take n)
 |_,_,0,_=>.nil
 |_,_,_+1,.nil=>.nil
 |_,_,n+1,.cons r t=>.cons r<|Vals.take n t
theorem Vals.drop:∀{xs:List V}{us:List IR} (n:Nat),Vals xs us->Vals (xs.drop n) (us.drop n)
 |_,_,0,r=>r
 |_,_,_+1,.nil=>.nil
 |_,_,n+1,.cons _ t=>Vals.drop n t
def Jn:Option V->Option IR->Prop
 |some v,some u=>RelV v u
 |none,none=>True
 |_,_=>False
variable {κ:Type}
def KV:List (κ×V)->List (κ×IR)->Prop:=Paired λ(p:κ×V) (q:κ×IR)=>p.1=q.1/\RelV p.2 q.2
def kV:Key->V
 |.inl i=>.int i
 |.inr x=>.str x
inductive HO where
  |lst (xs:List V)
  |tup (xs:List V)
  |dK (kvs:List (Key×V))|dT (kvs:List (List Key×V))
  |set (S:Int->Bool) (n:Nat)
  |ins (C dx:Addr) (fs:List (Str×V))
  |own (x:Addr)
  |xd (fs:List (Str×V))
  |met (f x:Addr)
  |rng (lo hi:Int)
  |frz (o:Obj) (u:HO)
  |tbl (ps:Array IR)
  |ext (φ:P3->Prop)
noncomputable abbrev Hp:=Addr->Option HO
def upd(H:Hp)(a:Addr)(o:HO):Hp:=λb=>if b=a then some o else H b
variable {H:Hp}{a:Addr}{o:HO}
def Lc:upd H a o a=some o:=by unfold upd;rw[if_pos rfl]
variable {b:Addr}
def HV(h:b≠a):upd H a o b=H b:=by unfold upd;rw[if_neg h]
def QT{u:HO}(h:H a=some o)(h':H b=some u)(d:o≠u):a≠b:=by intro e;subst e;rw[h]at h';exact d<|AA h'
def Kk(h:H a=some o)(h':H b=none):a≠b:=by intro e;subst e;rw[h]at h';cases h'
def Li(h:P3)(a:Addr)(items:Array IR):Prop:=∃o,h.get? a=some o/\o.cls=.type "tuple"/\o.dict=none/\∃n,o.data=.seq items n
variable {h:P3}{items:Array IR}
def Li.t(x:Li h a items):IsTup h a items:=let ⟨o,ho,hc,_,r⟩:=x;⟨o,ho,hc,r⟩
variable {h':P3}
def Li.keeps(x:Li h a items)(hk:∀b o,h.get? b=some o->h'.get? b=some o):Li h' a items:=let ⟨o,ho,r⟩:=x;⟨o,hk a o ho,r⟩
def Li.new(h:P3)(items:Array IR):Li (h.push {cls:=.type "tuple",data:=.seq items}) h.objs.size items:=⟨_,Ao _ rfl,rfl,rfl,0,rfl⟩
section
variable (P:SZ) (w:World)
def Jy(H:Hp)(h:P3)(a:Addr):HO->Prop
 |.lst xs=>xs.length<=sizeLine/\∃(its:List IR) (n:Nat),Vals xs its/\h.get? a=some {cls:=.type "list",data:=.seq its.toArray n}
 |.tup xs=>xs.length<=sizeLine/\∃its:List IR,Vals xs its/\Li h a its.toArray
 |.dK kvs=>kvs.length<=sizeLine/\(a==sysModules)=false/\∃vs,KV kvs vs/\h.DictOf (Jm P w) a vs
 |.dT kvs=>kvs.length<=sizeLine/\(a==sysModules)=false/\∃xs:List (List Key×Addr×IR),
   Paired (λ(p:List Key×V) (q:List Key×Addr×IR)=>p.1=q.1/\H q.2.1=some (.tup<|p.1.map kV)/\RelV p.2 q.2.2) kvs xs /\
   ∃o es ep,h.get? a=some o/\o.ExactDict/\o.data=.dict es ep/\es.toList=xs.map (entryOfKey<|tupleKind<|Jm P w)/\(xs.map (·.1)).Nodup
 |.set S n=>h.SetOf (intKind P w) a S n
 |.ins C d fs=>H d=some (.own a)/\fs.length<=1000/\d≠a/\h.get? a=some (BQ C d) /\
   ∃c,h.Ns1 d c/\(∀f,Jn (fs.lookup f) (c f))/\Ft c (fs.map (·.1))
 |.own _=>∃o,h.get? a=some o
 |.xd fs=>∃c,h.Ns1 a c/\∀f,Jn (fs.lookup f) (c f)
 |.rng lo hi=>∃t u v,h.get? a=some {cls:=.type "range",data:=.fields #[.int lo t,.int hi u,.int 1 v]}
 |.frz o u=>h.get? a=some o/\Jy H h a u
 |.tbl ps=>h.get? a=some {cls:=.none,data:=.fields ps}
 |.met f x=>h.get? a=some (DX (.ref f)<|.ref x)
 |.ext φ=>φ h/\(∃o,h.get? a=some o)/\∀e g:P3,φ e->(∀o,e.get? a=some o->g.get? a=some o)->φ g
def JD(H:Hp)(h:P3):Prop:=∀a o,H a=some o->Jy P w H h a o
end
variable {P:SZ}{w:World}{H':Hp}{α:Type}
def Jy.lt(x:Jy P w H h a o):a<h.objs.size:=by
 cases o with
 |lst xs=>obtain⟨_,_,_,_,e⟩:=x;exact Ak e
 |tup xs=>obtain⟨_,_,_,p⟩:=x;exact p.t.lt
 |dK b=>obtain⟨_,_,_,_,o,_,_,e,_⟩:=x;exact Ak e
 |dT b=>obtain⟨_,_,_,_,o,_,_,e,_⟩:=x;exact Ak e
 |set S n=>obtain⟨o,_,_,_,e,_⟩:=x;exact Ak e
 |ins C c fs=>obtain⟨_,_,_,e,_⟩:=x;exact Ak e
 |own y=>obtain⟨_,e⟩:=x;exact Ak e
 |xd fs=>obtain⟨_,⟨_,_,_,e,_⟩,_⟩:=x;exact Ak e
 |rng lo d=>obtain⟨_,_,_,e⟩:=x;exact Ak e
 |frz ob u=>obtain⟨e,_⟩:=x;exact Ak e
 |tbl g=>exact Ak (show h.get? a=some _ from x)
 |met f y=>exact Ak (show h.get? a=some _ from x)
 |ext φ=>obtain⟨_,⟨_,e⟩,_⟩:=x;exact Ak e
theorem Paired.mapP{α β:Type}{F G:α->β->Prop}:∀{l₁:List α}{l₂:List β},Paired F l₁ l₂->(∀a b,F a b->G a b)->Paired G l₁ l₂
 |_,_,.nil,_=>.nil
 |_,_,.cons r t,f=>.cons (f _ _ r)<|Paired.mapP t f
def Jy.stay(x:Jy P w H h a o)(k:∀b u,(b=a\/H b=some (.own a))->h.get? b=some u->h'.get? b=some u)(B:∀b,H b=some (.own a)->H' b=some (.own a)) (E:∀b xs,H b=some (.tup xs)->H' b=some (.tup xs)):Jy P w H' h' a o:=by
 induction o with
 |lst xs=>obtain⟨z,j,n,r,e⟩:=x;exact⟨z,j,n,r,k _ _ (.inl rfl) e⟩
 |tup xs=>obtain⟨z,j,r,ob,e,c⟩:=x;exact⟨z,j,r,ob,k _ _ (.inl rfl) e,c⟩
 |dK l=>obtain⟨z,y,F,r,ob,g,i,e,c⟩:=x;exact⟨z,y,F,r,ob,g,i,k _ _ (.inl rfl) e,c⟩
 |dT l=>
  obtain⟨z,y,xs,r,ob,g,i,e,c⟩:=x;exact⟨z,y,xs,Paired.mapP r λp q z=>⟨z.1,E _ _ z.2.1,z.2.2⟩,ob,g,i,k _ _ (.inl rfl) e,c⟩
 |set S n=>obtain⟨ob,g,i,t,e,c⟩:=x;exact⟨ob,g,i,t,k _ _ (.inl rfl) e,c⟩
 |ins C J fs=>
  obtain⟨d,z,ne,e,m,⟨s,g,i,G,c⟩,r⟩:=x;exact⟨B _ d,z,ne,k _ _ (.inl rfl) e,m,⟨s,g,i,k _ _ (.inr d) G,c⟩,r⟩
 |own y=>obtain⟨ob,e⟩:=x;exact⟨ob,k _ _ (.inl rfl) e⟩
 |xd fs=>obtain⟨m,⟨s,g,i,e,c⟩,r⟩:=x;exact⟨m,⟨s,g,i,k _ _ (.inl rfl) e,c⟩,r⟩
 |rng lo K=>obtain⟨t,u,v,e⟩:=x;exact⟨t,u,v,k _ _ (.inl rfl) e⟩
 |frz ob u I=>obtain⟨e,q⟩:=x;exact⟨k _ _ (.inl rfl) e,I q⟩
 |tbl A=>
  have e:h.get? a=some {cls:=.none,data:=.fields A}:=x;show h'.get? a=some {cls:=.none,data:=.fields A};exact k a _ (.inl rfl) e
 |met f y=>
  have e:h.get? a=some (DX (.ref f)<|.ref y):=x;show h'.get? a=some (DX (.ref f)<|.ref y);exact k a _ (.inl rfl) e
 |ext φ=>obtain⟨p,⟨o,e⟩,st⟩:=x;exact⟨st _ _ p λo q=>k _ _ (.inl rfl) q,⟨o,k _ _ (.inl rfl) e⟩,st⟩
def JD.lt(x:JD P w H h)(e:H a=some o):a<h.objs.size:=(x a o e).lt
def JD.fresh(x:JD P w H h)(e:h.objs.size<=a):H a=none:=by
 cases q:H a with
 |none=>rfl
 |some u=>exact absurd (AC (x.lt q) e)<|AN _
def JD.kept(x:JD P w H h)(k:∀b u,h.get? b=some u->h'.get? b=some u):JD P w H h':=λa o e=>
 (x a o e).stay (λb u _ q=>k b u q) (λ_ q=>q) λ_ _ q=>q
def JD.laid(x:JD P w H h)(k:∀b u,h.get? b=some u->h'.get? b=some u)(f:h.objs.size<=a)(new:Jy P w (upd H a o) h' a o):JD P w (upd H a o) h':=λb u e=>by
 have d:=x.fresh f;by_cases hb:b=a
 ·subst hb;rw[Lc]at e;cases e;exact new
 rw[HV hb]at e;exact(x b u e).stay (λc v _ q=>k c v q) (λc q=>by rw[HV (Kk q d)];exact q) λc xs q=>by rw[HV (Kk q d)];exact q
def Rd(H:Hp)(a:Addr)(u:HO):Prop:=H a=some u\/∃o,H a=some (.frz o u)
def Rd.ok{u:HO}(r:Rd H a u)(x:JD P w H h):Jy P w H h a u:=by
 rcases r with r|⟨o,r⟩
 ·exact x a u r
 obtain⟨_,q⟩:=x a _ r;exact q
def SD:Option HO->Prop
 |some (.lst _)=>True
 |some (.dK _)=>True
 |some (.dT _)=>True
 |some (.set _ _)=>True
 |some (.ins _ _ _)=>True
 |some (.ext _)=>True
 |_=>False
section
variable {x e:Addr}{o':HO}
def JD.write(ok:JD P w H h)(d:SD (H x))(he:e=x\/H e=some (.own x))(k:∀b u,b≠e->h.get? b=some u->h'.get? b=some u)(f:∃u,h'.get? e=some u)(new:Jy P w (upd H x o') h' x o'):JD P w (upd H x o') h':=λb u q=>by
 have a:∀c y,H c=some (.own y)->c≠x:=λc y r z=>by subst z;rw[r]at d;exact d
 have o:∀c xs,H c=some (.tup xs)->c≠x:=λc xs r z=>by subst z;rw[r]at d;exact d
 by_cases hb:b=x
 ·subst hb;rw[Lc]at q;cases q;exact new
 ·rw[HV hb]at q
  by_cases hbe:b=e
  ·have g:H b=some (.own x):=by
    rcases he with z|z
    ·exact absurd (hbe.trans z) hb
    rw[hbe];exact z
   rw[q]at g;cases g;obtain⟨v,i⟩:=f;exact⟨v,by rw[hbe];exact i⟩
  ·refine(ok b u q).stay (λc v hc r=>k c v ?_ r) (λc r=>by rw[HV (a c b r)];exact r) λc xs r=>by rw[HV (o c xs r)];exact r
   rcases hc with rfl|hc
   ·exact hbe
   ·rintro rfl
    rcases he with z|z
    ·exact a c b hc z
    rw[hc]at z;cases z;exact hb rfl
end
structure Un(fs ex:List Addr)(H H':Hp)(h h':P3):Prop where
 keep:∀b o,h.get? b=some o->H b=none->b∉fs->b∉ex->h'.get? b=some o
 slot:∀b o,h.get? b=some o->H b=none->b∈fs->b∉ex->∃sl,h'.get? b=some {o with slots:=sl}
 free:∀b o,h.get? b=some o->H b=none->b∉ex->H' b=none
 there:∀b o,h.get? b=some o->b∉ex->∃o',h'.get? b=some o'
 tups:∀b xs,H b=some (.tup xs)->H' b=some (.tup xs)
 frzs:∀b o u,H b=some (.frz o u)->H' b=some (.frz o u)
 tbls:∀b ps,H b=some (.tbl ps)->∃more,H' b=some (.tbl (ps++more))
section
variable {fs fs' ex ex':List Addr}{H1 H2:Hp}{h1 h2:P3}{x e:Addr}
def Un.any(u:Un fs ex H H1 h h1){ob:Obj}(q:h.get? b=some ob)(n:H b=none)(c:b∉ex):∃d,h1.get? b=some {ob with slots:=d}:=by
 by_cases hb:b∈fs
 ·exact u.slot b ob q n hb c
 exact⟨ob.slots,u.keep b ob q n hb c⟩
def Un.kept(k:∀b u,h.get? b=some u->h'.get? b=some u):Un fs ex H H h h':=⟨λb ob q _ _ _=>k b ob q,λb ob q _ _ _=>⟨ob.slots,k b ob q⟩,λ_ _ _ n _=>n,λb ob q _=>⟨ob,k b ob q⟩,λ_ _ q=>q,λ_ _ _ q=>q,λ_ a q=>⟨#[],by rw[q];simp⟩⟩
def Un.refl:Un fs ex H H h h:=Un.kept λ_ _ q=>q
def Un.laid(k:∀b u,h.get? b=some u->h'.get? b=some u)(c:h.objs.size<=a)(hn:H a=none):Un fs ex H (upd H a o) h h' where
 keep:=λb u q _ _ _=>k b u q
 slot:=λb u q _ _ _=>⟨u.slots,k b u q⟩
 free:=λb u q n _=>by rw[HV (Aw<|AC (Ak q) c)];exact n
 there:=λb u q _=>⟨u,k b u q⟩
 tups:=λb xs q=>by rw[HV (Kk q hn)];exact q
 frzs:=λb u xs q=>by rw[HV (Kk q hn)];exact q
 tbls:=λb e q=>⟨#[],by rw[HV (Kk q hn),q];simp⟩
def Un.write(c:SD (H x))(he:e=x\/H e=some (.own x))(k:∀b u,b≠e->h.get? b=some u->h'.get? b=some u)(d:∃u,h'.get? e=some u):Un fs ex H (upd H x o) h h':=by
 have a:∀b,H b=none->b≠x:=λb n z=>by subst z;rw[n]at c;exact c
 have w:∀b,H b=none->b≠e:=λb n z=>by
  subst z;rcases he with r|r
  ·exact a b n r
  rw[n]at r;cases r
 have hm:∀b u,H b=some u->¬SD (some u)->b≠x:=λb u q nm z=>by subst z;rw[q]at c;exact nm c
 refine⟨λb u q n _ _=>k b u (w b n) q,λb u q n _ _=>⟨u.slots,k b u (w b n) q⟩,λb u q n _=>by rw[HV (a b n)];exact n,λb u q _=>?_,
  λb xs q=>by rw[HV (hm b _ q λz=>z)];exact q,λb u xs q=>by rw[HV (hm b _ q λz=>z)];exact q,λb P q=>⟨#[],by rw[HV (hm b _ q λz=>z),q];simp⟩⟩
 by_cases hbe:b=e
 ·subst hbe;exact d
 exact⟨u,k b u hbe q⟩
end
def Vb(h:P3)(H:Hp):List Addr:=(Av h.objs.size).filter λa=>(H a).isSome
def KI(h:P3)(H:Hp):P3:=PySem.W.hideAll h<|Vb h H
def zK(h:P3)(H:Hp):(KI h H).objs.size=h.objs.size:=PySem.W.hideAll_size _ _
def wG{o:Obj}(e:h.get? b=some o)(n:H b=none):(KI h H).get? b=some o:=PySem.W.hideAll_get _ e λhm=>by have q:(H b).isSome=true:=(List.mem_filter.mp hm).2;rw[n]at q;simp at q
def sT{o:Obj}(e:(KI h H).get? b=some o):h.get? b=some o/\H b=none:=by
 have a:h.get? b=some o:=PySem.W.of_hideAll (Vb h H) e;refine⟨a,?_⟩;cases q:H b with
 |none=>rfl
 |some x=>
  have hm:b∈Vb h H:=List.mem_filter.mpr ⟨List.mem_range.mpr<|Ak a,by simp[q]⟩;have z:(KI h H).get? b=none:=PySem.W.hideAll_none (Vb h H) hm;rw[z]at e;cases e
def O9(g h:P3)(L:Addr):List (Addr×Obj):=(Av h.objs.size).filterMap λa=>if a=L\/(g.get? a).isSome=true then none else(h.get? a).map λo=>(a,o)
variable {g:P3}{L:Addr}
def Xh{o:Obj}(d:a≠L)(e:g.get? a=none)(c:h.get? a=some o):(a,o)∈O9 g h L:=List.mem_filterMap.mpr ⟨a,List.mem_range.mpr<|Ak c,by simp[d,e,c]⟩
def zgw{p:Addr×Obj}(c:p∈O9 g h L):p.1≠L/\g.get? p.1=none/\h.get? p.1=some p.2:=by
 obtain⟨b,_,e⟩:=List.mem_filterMap.mp c;split at e
 ·cases e
 ·rename_i a
  cases q:h.get? b with
  |none=>rw[q]at e;simp at e
  |some u=>
   rw[q]at e;simp only[AL,Option.some.injEq]at e;subst e;refine⟨λz=>a (.inl z),?_,q⟩;show g.get? b=none;cases r:g.get? b with
   |none=>rfl
   |some v=>exact(a<|.inr<|by simp[r]).elim
def WC:News g L h (O9 g h L):=λp o=>let ⟨a,b,c⟩:=zgw o;⟨c,a,b⟩
structure Mod(K:Ab)(mg:Str->Option IR)(base:P3):Prop where
 kin:K.In base
 glob:base.Ns UV mg
 blt:∃mb,base.Ns builtinsNs mb/\∀x:Str,x≠"__name__"->mb x=UF x
 nolimit:base.NoLimit
structure Cx where
 prog:SZ
 w:World
 K:Ab
 mg:Str->Option IR
 base:P3
 A:Around
 N:List Str
 s₀:Shared
 H₀:Hp
 env:Env
 outer:List Env
 stack:List Env
 ex:List Addr
 fn:Str->Bool
 calm:Bool
 pn:List (Addr×Obj)
 xe:Qqa
def L3(l:List Env):List Addr:=l.filterMap (·.frame)
noncomputable abbrev Cx.fs (X:Cx):List Addr:=L3 X.outer
def YR(sc:Scope)(x:Str):Prop:=sc.names.lookup x=some .local\/sc.names.lookup x=some .cell\/sc.names.lookup x=some .free
def Loc(sc:Scope)(x:Str):Prop:=sc.names.lookup x=some .local\/sc.names.lookup x=some .cell
def Look(env:Env)(h:P3)(m:Str->Option IR)(x:Str)(u:IR):Prop:=(env.kindOf x=some .local/\m x=some u)\/((env.kindOf x=some .cell\/env.kindOf x=some .free)/\∃c,env.cells.lookup x=some c/\h.IsCell c (some u))
structure Cx.Ok(X:Cx):Prop where
 mod:Mod X.K X.mg X.base
 kind:X.env.scope.kind=.function
 glob:X.env.globals=UV
 blt:X.env.builtins=builtinsNs
 above:X.s₀.heap.objs.size<=X.env.locals
 inj:∀x y c,X.env.cells.lookup x=some c->X.env.cells.lookup y=some c->x=y
 has:∀x,(X.env.kindOf x=some .cell\/X.env.kindOf x=some .free)->∃c,X.env.cells.lookup x=some c
 cab:∀x c,X.fn x=true->X.env.cells.lookup x=some c->X.s₀.heap.objs.size<=c
 hd:X.calm=true->X.A.handled=none
 frames:X.A.frames=some X.stack
 stk:X.stack=X.outer\/(X.stack=X.env::X.outer/\X.env.frame=some X.env.locals)
 exf:∀b∈X.ex,b≠X.env.locals/\∀x c,X.env.cells.lookup x=some c->c≠b
 bs:∀b o,X.base.get? b=some o->X.s₀.heap.get? b=some o/\X.H₀ b=none
 bsz:X.base.objs.size<=X.s₀.heap.objs.size
 noex:∀b o,X.base.get? b=some o->b∉X.ex
 exfs:∀b∈X.ex,b∉X.fs
 funs:X.s₀.heap.FunFrames X.base X.outer
 frf:∀b∈X.fs,X.H₀ b=none
structure Inv(X:Cx)(qp:List (Addr×Obj))(σ:List (Option V))(H:Hp)(s:Shared):Prop where
 ok:X.Ok
 os:s.os=X.s₀.os
 bare:AllBare s.gens
 base:Un X.fs X.ex X.H₀ H X.s₀.heap s.heap
 loc:∃m,s.heap.Ns X.env.locals m/\∀(i:Nat) (x:Str) (v:V),X.N[i]?=some x->σ[i]?=some (some v)->YR X.env.scope x->∃u,RelV v u/\Look X.env s.heap m x u
 cell:∀x c,X.env.cells.lookup x=some c->∃v,s.heap.IsCell c v
 free:H X.env.locals=none
 freeC:∀x c,X.env.cells.lookup x=some c->H c=none
 pin:∀p∈X.pn++qp,s.heap.get? p.1=some p.2/\H p.1=none/\p.1≠X.env.locals/\p.1∉X.fs/\∀v,p.2.data≠.cell v
 hok:JD X.prog X.w H s.heap
 len:σ.length=X.N.length
variable {x:Str}{X:Cx}{qp:List (Addr×Obj)}{s s':Shared}{g':Array GenState}{t' i j:Nat}{d':Drawn}{ch:List Addr}{it:Addr}{N:List Str}{M:Model}{A:Around}{E:Qqa}{v:V}
section
variable {σ:List (Option V)}
def Cx.Ok.nofr(ok:X.Ok){o:Obj}(e:X.base.get? b=some o):b∉X.fs:=λa=>by have:=(ok.funs.mem a).1;rw[e]at this;cases this
def Inv.bs(I:Inv X qp σ H s):∀b o,X.base.get? b=some o->s.heap.get? b=some o/\H b=none:=λb o e=>
 ⟨I.base.keep b o (I.ok.bs b o e).1 (I.ok.bs b o e).2 (I.ok.nofr e)<|I.ok.noex b o e,I.base.free b o (I.ok.bs b o e).1 (I.ok.bs b o e).2<|I.ok.noex b o e⟩
def Inv.bk(I:Inv X qp σ H s):∀b o,X.base.get? b=some o->s.heap.get? b=some o:=λb o e=>(I.bs b o e).1
def Inv.mod(I:Inv X qp σ H s):Mod X.K X.mg X.base:=I.ok.mod
def Inv.kIn(I:Inv X qp σ H s):X.K.In s.heap:=I.ok.mod.kin.keeps I.bk
def Inv.fr(I:Inv X qp σ H s):∃m,Fr X.base X.env.locals s.heap m:=
 let ⟨m,hn,_⟩:=I.loc
 ⟨m,hn,I.bk,AB I.ok.bsz I.ok.above⟩
def Inv.lt(I:Inv X qp σ H s):X.env.locals<s.heap.objs.size:=let ⟨_,hn,_⟩:=I.loc;hn.lt
def Inv.sz(I:Inv X qp σ H s):X.s₀.heap.objs.size<=s.heap.objs.size:=AB I.ok.above<|CC I.lt
def Inv.nofs(I:Inv X qp σ H s)(h:s.heap.objs.size<=a):a∉X.fs:=λb=>by obtain⟨_,o,g,_⟩:=I.ok.funs.mem b;exact absurd (AC (Ak g)<|AB I.sz h)<|AN _
def Inv.cne(I:Inv X qp σ H s):∀x c,X.env.cells.lookup x=some c->c≠X.env.locals:=λx c e z=>by obtain⟨v,o,g,hd⟩:=I.cell x c e;obtain⟨m,⟨h,i,j,a,b,_⟩,_⟩:=I.loc;rw[z,a]at g;cases g;rw[b]at hd;cases hd
def Inv.funs(I:Inv X qp σ H s):s.heap.FunFrames X.base X.outer:=by
 have all:∀(l:List Env),(∀b∈L3 l,b∈X.fs)->X.s₀.heap.FunFrames X.base l->s.heap.FunFrames X.base l:=by
  intro l
  induction l with
  |nil=>intro _ _;trivial
  |cons env r i=>
   intro h j;obtain⟨hk,⟨L,o,hf,u,v,hd⟩,w⟩:=j;have a:L∈X.fs:=h L (by unfold L3;rw[BY,hf];exact Ar);obtain⟨x,e⟩:=I.base.slot L o v (I.ok.frf L a) a λz=>I.ok.exfs L z a;exact⟨hk,⟨L,_,hf,u,e,hd⟩,i (λb g=>h b (by unfold L3;rw[BY,hf];exact Al _ g)) w⟩
 exact all X.outer (λ_ g=>g) I.ok.funs
def Inv.stack(I:Inv X qp σ H s):s.heap.FunFrames X.base X.stack:=by
 rcases I.ok.stk with e|⟨e,hf⟩
 ·rw[e];exact I.funs
 rw[e];obtain⟨m,a,_⟩:=I.loc;refine .cons (by rw[I.ok.kind];decide) hf a ?_ I.funs;exact Heap.get?_none_of_le<|AB I.ok.bsz I.ok.above
def Inv.stkSub(I:Inv X qp σ H s):∀b∈L3 X.stack,b∈X.env.locals::X.fs:=λb a=>by
 rcases I.ok.stk with e|⟨e,hf⟩
 ·rw[e]at a;exact Al _ a
 rw[e]at a;unfold L3 at a;rw[BY,hf]at a;exact a
def Inv.stkFree(I:Inv X qp σ H s):∀b∈L3 X.stack,H b=none:=λb hb=>by
 rcases Os.mp (I.stkSub b hb)with e|hb
 ·rw[e];exact I.free
 obtain⟨_,o,a,_⟩:=I.ok.funs.mem hb;exact I.base.free b o a (I.ok.frf b hb) λz=>I.ok.exfs b z hb
def Inv.step{ch:List Addr}(I:Inv X qp σ H s)(f:∀b∈ch,(b∈X.ex\/X.s₀.heap.objs.size<=b)/\b≠X.env.locals/\(∀x c,X.env.cells.lookup x=some c->c≠b)/\∀p∈X.pn++qp,p.1≠b)(keep:∀b o,b≠X.env.locals->b∉X.fs->b∉ch->s.heap.get? b=some o->H b=none->h'.get? b=some o)(slot:∀b o,b≠X.env.locals->b∈X.fs->b∉ch->s.heap.get? b=some o->H b=none->∃G,h'.get? b=some {o with slots:=G}) (free:∀b o,b∉ch->s.heap.get? b=some o->H b=none->H' b=none)(there:∀b o,b∉ch->s.heap.get? b=some o->∃y,h'.get? b=some y)(B:∀b xs,H b=some (.tup xs)->H' b=some (.tup xs)) (C:∀b o u,H b=some (.frz o u)->H' b=some (.frz o u)) (F:∀b ps,H b=some (.tbl ps)->∃more,H' b=some (.tbl<|ps++more))(ns:∀m,s.heap.Ns X.env.locals m->h'.Ns X.env.locals m) (J:JD X.prog X.w H' h') (Q:AllBare g'):
  Inv X qp σ H' {s with heap:=h',gens:=g',drawn:=d',toks:=t'}:=by
 have L:∀b o,X.s₀.heap.get? b=some o->b≠X.env.locals:=λb o e=>Aw<|AC (Ak e) I.ok.above;have h:∀b o,X.s₀.heap.get? b=some o->b∉X.ex->b∉ch:=λb o e a A=>by
  rcases(f b A).1 with z|z
  ·exact a z
  exact absurd (AC (Ak e) z)<|AN _
 have cellK:∀x c,X.env.cells.lookup x=some c->∀v,s.heap.IsCell c v->h'.IsCell c v:=by
  rintro x c e v ⟨o,E,hd⟩;have g:c∉ch:=λz=>(f c z).2.2.1 x c e rfl;by_cases hc:c∈X.fs
  ·obtain⟨G,q⟩:=slot c o (I.cne x c e) hc g E<|I.freeC x c e;exact⟨_,q,hd⟩
  exact⟨o,keep c o (I.cne x c e) hc g E<|I.freeC x c e,hd⟩
 refine⟨I.ok,I.os,Q,⟨λb o e n A a=>?_,λb o e n A a=>?_,λb o e n a=>?_,λb o e a=>?_,λb xs e=>B b xs (I.base.tups b xs e),λb o xs e=>C b o xs (I.base.frzs b o xs e),λb ps e=>?_⟩,?_,λx c e=>?_,?_,λx c e=>?_,λp P=>?_,J,I.len⟩
 ·exact keep b o (L b o e) A (h b o e a) (I.base.keep b o e n A a)<|I.base.free b o e n a
 ·obtain⟨G,j⟩:=I.base.slot b o e n A a;obtain⟨N,M⟩:=slot b _ (L b o e) A (h b o e a) j<|I.base.free b o e n a;exact⟨N,M⟩
 ·obtain⟨y,j⟩:=I.base.there b o e a;exact free b y (h b o e a) j<|I.base.free b o e n a
 ·obtain⟨y,j⟩:=I.base.there b o e a;exact there b y (h b o e a) j
 ·obtain⟨S,j⟩:=I.base.tbls b ps e;obtain⟨T,M⟩:=F b _ j;exact⟨S++T,by rw[M,Array.append_assoc]⟩
 ·obtain⟨m,U,W⟩:=I.loc;refine⟨m,ns m U,λi x v j M Y=>?_⟩;obtain⟨u,r,l⟩:=W i x v j M Y;refine⟨u,r,?_⟩
  rcases l with l|⟨k,c,e,z⟩
  ·exact .inl l
  exact .inr ⟨k,c,e,cellK x c e _ z⟩
 ·obtain⟨v,z⟩:=I.cell x c e;exact⟨v,cellK x c e v z⟩
 ·obtain⟨m,⟨o,_,_,E,_⟩,_⟩:=I.loc;exact free _ o (λz=>(f _ z).2.1 rfl) E I.free
 ·obtain⟨v,o,E,hd⟩:=I.cell x c e;exact free c o (λz=>(f c z).2.2.1 x c e rfl) E<|I.freeC x c e
 obtain⟨e,n,ne,K,d⟩:=I.pin p P;have g:p.1∉ch:=λz=>(f p.1 z).2.2.2 p P rfl;exact⟨keep p.1 p.2 ne K g e n,free p.1 p.2 g e n,ne,K,d⟩
def Inv.un(I:Inv X qp σ H s)(u:Un X.fs [] H H' s.heap h')(c:JD X.prog X.w H' h'):Inv X qp σ H' {s with heap:=h',toks:=t'}:=by obtain⟨m,⟨o,A,E,j,r⟩,_⟩:=id I.loc;obtain⟨L,v⟩:=u.any j I.free (!2);exact I.step (g':=s.gens) (d':=s.drawn) (ch:=[]) (λ_ z=>nomatch z) (λb o _ g _ e n=>u.keep b o e n g (!2)) (λb o _ g _ e n=>u.slot b o e n g (!2)) (λb o _ e n=>u.free b o e n (!2)) (λb o _ e=>u.there b o e (!2)) u.tups u.frzs u.tbls (λM hm=>by obtain⟨N,h,i,a,x⟩:=hm;rw[j]at a;cases a;exact⟨_,h,i,v,x⟩) c I.bare
def Inv.call{ch:List Addr}(I:Inv X qp σ H s)(u:Un (L3 X.stack) ch H H' s.heap h')(f:JD X.prog X.w H' h')(l:AllBare g')(d:∀b∈ch,(b∈X.ex\/X.s₀.heap.objs.size<=b)/\b≠X.env.locals/\(∀x c,X.env.cells.lookup x=some c->c≠b)/\∀p∈X.pn++qp,p.1≠b):
  Inv X qp σ H' {s with heap:=h',gens:=g',drawn:=d',toks:=t'}:=by
 obtain⟨m,⟨o,L,M,v,r⟩,_⟩:=id I.loc;obtain⟨N,h⟩:=u.any v I.free λz=>(d _ z).2.1 rfl;exact I.step (ch:=ch) d (λb o h A a e n=>u.keep b o e n (λz=>(Os.mp<|I.stkSub b z).elim h A) a) (λb o _ _ a e n=>u.any e n a) (λb o a e n=>u.free b o e n a) (λb o a e=>u.there b o e a) u.tups u.frzs u.tbls (λP hm=>by obtain⟨q,i,j,g,E⟩:=hm;rw[v]at g;cases g;exact⟨_,i,j,h,E⟩) f l
def Inv.turned(I:Inv X qp σ H s)(k:∀b o,b≠it->s.heap.get? b=some o->h'.get? b=some o)(hn:H it=none)(d:it≠X.env.locals)(f:it∈X.ex\/X.s₀.heap.objs.size<=it) (l:∀x c,X.env.cells.lookup x=some c->c≠it) (y:∀p∈X.pn++qp,p.1≠it):Inv X qp σ H {s with heap:=h',toks:=t'}:=by
 have g:∀b u,H b=some u->b≠it:=λb u e z=>by rw[z,hn]at e;cases e
 refine I.step (g':=s.gens) (d':=s.drawn) (ch:=[it]) (λb h=>?_) (λb o _ _ a e _=>k b o (λz=>a (by simp[z])) e) (λb o _ _ a e _=>⟨o.slots,k b o (λz=>a (by simp[z])) e⟩) (λ_ _ _ _ n=>n)
  (λb o a e=>⟨o,k b o (λz=>a (by simp[z])) e⟩) (λ_ _ e=>e) (λ_ _ _ e=>e) (λb A e=>⟨#[],by rw[e];simp⟩) (λm hm=>?_) (λb u e=>?_) I.bare
 ·have e:b=it:=by simpa using h
  subst e;exact⟨f,d,l,y⟩
 ·obtain⟨o,i,j,w,r⟩:=hm;exact⟨o,i,j,k _ o (BF d) w,r⟩
 ·refine(I.hok b u e).stay (λc v a q=>k c v ?_ q) (λ_ q=>q) λ_ _ q=>q
  rcases a with z|z
  ·rw[z];exact g b u e
  exact g c _ z
def Inv.tok(I:Inv X qp σ H s)(t:Nat):Inv X qp σ H {s with toks:=t}:=I.un (h':=s.heap) (t':=t) Un.refl I.hok
def Inv.kept{t':Nat}(I:Inv X qp σ H s)(k:∀b u,s.heap.get? b=some u->h'.get? b=some u):Inv X qp σ H {s with heap:=h',toks:=t'}:=I.un (Un.kept k)<|I.hok.kept k
def Inv.laid{a:Addr}{o:HO}{t':Nat}(I:Inv X qp σ H s)(k:∀b u,s.heap.get? b=some u->h'.get? b=some u)(c:s.heap.objs.size<=a)(new:Jy X.prog X.w (upd H a o) h' a o):
  Inv X qp σ (upd H a o) {s with heap:=h',toks:=t'}:=I.un (Un.laid k c<|I.hok.fresh c) (I.hok.laid k c new)
def Inv.write{x e:Addr}{o:HO}{t':Nat}(I:Inv X qp σ H s)(d:SD (H x))(he:e=x\/H e=some (.own x))(k:∀b u,b≠e->s.heap.get? b=some u->h'.get? b=some u)(c:∃u,h'.get? e=some u)(new:Jy X.prog X.w (upd H x o) h' x o):Inv X qp σ (upd H x o) {s with heap:=h',toks:=t'}:=I.un (Un.write d he k c) (I.hok.write d he k c new)
def Inv.pins_of{c:List (Addr×Obj)}(I:Inv X qp σ H s)(h:∀p∈c,s.heap.get? p.1=some p.2/\H p.1=none/\p.1≠X.env.locals/\p.1∉X.fs/\∀v,p.2.data≠.cell v):Inv X c σ H s:=⟨I.ok,I.os,I.bare,I.base,I.loc,I.cell,I.free,I.freeC,λp a=>(On.mp a).elim (λz=>I.pin p (AK _ z)) (h p),I.hok,I.len⟩
def cG(c:N.Nodup)(a:N[i]?=some x)(b:N[j]?=some x):i=j:=by obtain⟨h,e1⟩:=KF.mp a;obtain⟨o,g⟩:=KF.mp b;exact(List.getElem_inj c).mp<|e1.trans g.symm
def dM{Q:Unit->Shared->Prop}(I:Inv X qp σ H s)(hN:X.N.Nodup)(hi:X.N[i]?=some x)(f:Loc X.env.scope x)(r:RelV v u)(h:∀s',Inv X qp (σ.set i<|some v) H s'->(∃a,BC a s.heap s'.heap/\(a=X.env.locals\/X.env.cells.lookup x=some a))->Q () s') (hf:X.fn x=true\/X.env.scope.names.lookup x=some .local:=by first|exact .inl rfl|exact .inr rfl|assumption):wpAny M A (storeName X.env x u) Q E s:=by
 obtain⟨m,U,hl⟩:=id I.loc;have F:(X.env.scope.kind==.class || (X.env.scope.kind==.module&&X.env.locals != X.env.globals))=false:=by rw[I.ok.kind];rfl
 have hiσ:i<σ.length:=by rw[I.len];exact(KF.mp hi).1
 have cne:=I.cne;have tracked:∀{a:Addr}{h':P3},(∃o,s.heap.get? a=some o/\H a=none)->BC a s.heap h'->JD X.prog X.w H h':=λ{a h'} ha g b ob e=>by
  obtain⟨_,_,P⟩:=ha;refine(I.hok b ob e).stay (λc S hc q=>(g.2 c ?_).trans q) (λ_ q=>q) λ_ _ q=>q;rintro rfl;rcases hc with rfl|hc
  ·rw[P]at e;cases e
  rw[P]at hc;cases hc
 rcases f with hk|hk
 ·refine wpAny_storeName_local hk U (λh' W g=>?_) F;obtain⟨oL,_,_,Y,_⟩:=id U;refine h _ ⟨I.ok,I.os,I.bare,⟨λb o e n B f=>?_,λb o e n B f=>?_,I.base.free,λb o e f=>?_,I.base.tups,I.base.frzs,I.base.tbls⟩,⟨_,W,λj y Z L l e3=>?_⟩,λy c e=>?_,I.free,I.freeC,λp hp=>?_,tracked ⟨oL,Y,I.free⟩ g,by simpa using I.len⟩ ⟨_,g,.inl rfl⟩
  ·exact(g.2 b<|Aw<|AC (Ak e) I.ok.above).trans<|I.base.keep b o e n B f
  ·obtain⟨sl,L⟩:=I.base.slot b o e n B f;exact⟨sl,(g.2 b<|Aw<|AC (Ak e) I.ok.above).trans L⟩
  ·obtain⟨o',L⟩:=I.base.there b o e f;exact⟨o',(g.2 b<|Aw<|AC (Ak e) I.ok.above).trans L⟩
  ·by_cases hj:j=i
   ·subst hj;rw[hi]at L;cases L;rw[As hiσ]at l;cases l;exact⟨u,r,.inl ⟨hk,by simp⟩⟩
   ·rw[Ah (BF hj)]at l;obtain⟨u',r',q⟩:=hl j y Z L l e3;refine⟨u',r',?_⟩
    rcases q with⟨k,e⟩|⟨k,c,e,z⟩
    ·refine .inl ⟨k,?_⟩;have:y≠x:=λe=>hj<|cG hN L<|e ▸ hi;simp[this,e]
    exact .inr ⟨k,c,e,z.sameBut g<|cne y c e⟩
  ·obtain⟨S,z⟩:=I.cell y c e;exact⟨S,z.sameBut g<|cne y c e⟩
  obtain⟨e,n,ne,nf,d⟩:=I.pin p hp;exact⟨(g.2 p.1 ne).trans e,n,ne,nf,d⟩
 ·have C:X.fn x=true:=by
   rcases hf with z|z
   ·exact z
   rw[z]at hk;cases hk
  obtain⟨c,hc⟩:=I.ok.has x<|.inl hk;obtain⟨S,z⟩:=I.cell x c hc;refine wpAny_storeName_cell I.ok.kind hk hc z λh' G g=>?_;obtain⟨oc,J,K⟩:=id z;refine h {s with heap:=h'} ⟨I.ok,I.os,I.bare,⟨λb o e n B f=>?_,λb o e n B f=>?_,I.base.free,λb o e f=>?_,I.base.tups,I.base.frzs,I.base.tbls⟩,⟨m,U.sameBut g<|BF<|cne x c hc,λj y Z L l e3=>?_⟩,λy T e=>?_,I.free,I.freeC,λp hp=>?_,tracked ⟨oc,J,I.freeC x c hc⟩ g,by simpa using I.len⟩ ⟨c,g,.inr hc⟩
  ·exact(g.2 b<|Aw<|AC (Ak e)<|I.ok.cab x c C hc).trans<|I.base.keep b o e n B f
  ·obtain⟨sl,L⟩:=I.base.slot b o e n B f;exact⟨sl,(g.2 b<|Aw<|AC (Ak e)<|I.ok.cab x c C hc).trans L⟩
  ·obtain⟨o',L⟩:=I.base.there b o e f;exact⟨o',(g.2 b<|Aw<|AC (Ak e)<|I.ok.cab x c C hc).trans L⟩
  ·by_cases hj:j=i
   ·subst hj;rw[hi]at L;cases L;rw[As hiσ]at l;cases l;exact⟨u,r,.inr ⟨.inl hk,c,hc,G⟩⟩
   ·rw[Ah (BF hj)]at l;obtain⟨u',r',q⟩:=hl j y Z L l e3;refine⟨u',r',?_⟩
    rcases q with q|⟨k,T,e,z'⟩
    ·exact .inl q
    refine .inr ⟨k,T,e,z'.sameBut g ?_⟩;rintro rfl;exact hj<|cG hN L<|I.ok.inj _ _ _ e hc ▸ hi
  ·by_cases hcc:T=c
   ·subst hcc;exact⟨_,G⟩
   obtain⟨w2,z2⟩:=I.cell y T e;exact⟨w2,z2.sameBut g hcc⟩
  obtain⟨e,n,ne,nf,d⟩:=I.pin p hp;refine⟨(g.2 p.1 ?_).trans e,n,ne,nf,d⟩;intro q;rw[q,J]at e;have q':oc=p.2:=AA e;exact d S (by rw[<-q'];exact K)
def Ui{Q:Unit->Shared->Prop}(I:Inv X qp σ H s)(c:X.N.Nodup)(hi:X.N[i]?=some x)(d:Loc X.env.scope x)(r:RelV v u)(h:∀s',Inv X qp (σ.set i<|some v) H s'->Q () s') (hf:X.fn x=true\/X.env.scope.names.lookup x=some .local:=by first|exact .inl rfl|exact .inr rfl|assumption):wpAny M A (storeName X.env x u) Q E s:=
 dM I c hi d r (λs' a _=>h s' a) hf
def Inv.call'{ch:List Addr}(I:Inv X qp σ H s)(l:s'.os=s.os)(u:Un (L3 X.stack) ch H H' s.heap s'.heap)(d:JD X.prog X.w H' s'.heap)(m:AllBare s'.gens)(f:∀b∈ch,(b∈X.ex\/X.s₀.heap.objs.size<=b)/\b≠X.env.locals/\(∀x c,X.env.cells.lookup x=some c->c≠b)/\∀p∈X.pn++qp,p.1≠b):Inv X qp σ H' s':=by
 obtain⟨h',g',d',t',a⟩:=s';have e:a=s.os:=l;subst e;exact I.call (g':=g') (t':=t') (d':=d') u d m f
end
noncomputable abbrev XK:=IR->Option Addr->Hp->Prop
noncomputable abbrev St:=List (Option V)
noncomputable abbrev VK:=V->Hp->Prop
noncomputable abbrev TE:=St->Hp->VK->Prop
noncomputable abbrev TT:=St->Hp->(Bool->Hp->Prop)->Prop
noncomputable abbrev TA:=St->Hp->(List V->Hp->Prop)->Prop
structure Ends where
 nx:St->Hp->Prop
 rt:VK
 bk:St->Hp->Prop:=λ_ _=>False
 ct:St->Hp->Prop:=λ_ _=>False
noncomputable abbrev TS:=Ends->St->Hp->Prop
def EP(X:Cx)(qp:List (Addr×Obj))(σ:St)(Q:VK)(u:IR)(s':Shared):Prop:=∃v H',Inv X qp σ H' s'/\RelV v u/\Q v H'
def TP(X:Cx)(qp:List (Addr×Obj))(σ:St)(Q:Bool->Hp->Prop)(b:Bool)(s':Shared):Prop:=∃H',Inv X qp σ H' s'/\Q b H'
def AP(X:Cx)(qp:List (Addr×Obj))(σ:St)(Q:List V->Hp->Prop)(us:List IR)(s':Shared):Prop:=∃a H',Inv X qp σ H' s'/\Vals a us/\Q a H'
def SP(X:Cx)(qp:List (Addr×Obj))(D:Ends)(f:Flow)(s':Shared):Prop:=
 match f with
 |.next=>∃σ' H',Inv X qp σ' H' s'/\D.nx σ' H'
 |.brk=>∃σ' H',Inv X qp σ' H' s'/\D.bk σ' H'
 |.cont=>∃σ' H',Inv X qp σ' H' s'/\D.ct σ' H'
 |.ret u=>∃v σ' H',Inv X qp σ' H' s'/\RelV v u/\D.rt v H'
def PE(X:Cx)(e:Pv)(t:TE):Prop:=∀(qp:List (Addr×Obj)) (s:Shared) (σ:St) (H:Hp) (Q:VK),Inv X qp σ H s->t σ H Q->wpAny (!4) X.A (Wp e X.env) (EP X qp σ Q) X.xe s
def PT(X:Cx)(e:Pv)(t:TT):Prop:=∀(qp:List (Addr×Obj)) (s:Shared) (σ:St) (H:Hp) (Q:Bool->Hp->Prop),Inv X qp σ H s->t σ H Q->wpAny (!4) X.A (isTrue e X.env<|Wp e X.env) (TP X qp σ Q) X.xe s
def PW(X:Cx)(e:Pv)(t:TT):Prop:=∀(whole:Sem IR) (qp:List (Addr×Obj)) (s:Shared) (σ:St) (H:Hp) (Q:Bool->Hp->Prop),Inv X qp σ H s->t σ H Q->wpAny (!4) X.A (isTrue e X.env whole) (TP X qp σ Q) X.xe s
variable {e:Pv}
def PW.pt{t:TT}(h:PW X e t):PT X e t:=h _
def PA(X:Cx)(es:List Pv)(t:TA):Prop:=∀(pos:Pos) (qp:List (Addr×Obj)) (s:Shared) (σ:St) (H:Hp) (Q:List V->Hp->Prop),Inv X qp σ H s->t σ H Q->wpAny (!4) X.A (spliced<|backTo pos<|starEach es X.env) (AP X qp σ Q) X.xe s
def PS(X:Cx)(st:W1)(t:TS):Prop:=∀(qp:List (Addr×Obj)) (s:Shared) (σ:St) (H:Hp) (D:Ends),Inv X qp σ H s->t D σ H->wpAny (!4) X.A (exec st X.env) (SP X qp D) X.xe s
def KN(X:Cx)(st:List W1)(t:TS):Prop:=∀(qp:List (Addr×Obj)) (s:Shared) (σ:St) (H:Hp) (D:Ends),Inv X qp σ H s->t D σ H->wpAny (!4) X.A (execs st X.env) (SP X qp D) X.xe s
def HD{t:Sem α}{Q c:α->Shared->Prop}{s:Shared}(h:wpAny M A t Q E s)(d:∀a s,Q a s->c a s):wpAny M A t c E s:=Bu h d λ_ _ x=>x
variable {σ:St}{Q:Qqa}{pos:Pos}{ta tb:TE}{op:CmpOp}{c:Pv}
section
def XS(i:Nat):TE:=λσ H Q=>∃v,σ[i]?=some (some v)/\Q v H
def tC(v:V):TE:=λ_ H Q=>Q v H
def pT(f:X.N[i]?=some x)(n:YR X.env.scope x)(hd:(x==("__debug__":Str))=false:=by decide)(d:(x==("__classdict__":Str))=false:=by decide):PE X (.Name x pos) (XS i):=by
 exists 6;obtain⟨v,e,h⟩:=h;obtain⟨m,g,j⟩:=I.loc;obtain⟨u,r,l⟩:=j i x v f e n;have fin:EP X qp σ Q u s:=⟨v,H,I,r,h⟩;rcases l with⟨hk,hm⟩|⟨hk,c,b,a⟩
 ·exact Gi (wpAny_loadName_local I.ok.kind hk g hm fin) hd
 ·rcases hk with hk|hk
  ·exact Gi (wpAny_loadName_cell I.ok.kind hk b a fin) hd
  exact Gi (wpAny_loadName_free I.ok.kind hk b a fin d) hd
def mH{i j pos}:PE X (.Constant (.int i) j pos) (tC<|.int i):=λ_ _ _ H _ I h=>wpAny_Constant_int ⟨.int i,H,I.tok _,⟨_,rfl⟩,h⟩
def kB{b j pos}:PE X (.Constant (.bool b) j pos) (tC<|.bl b):=λ_ _ _ H _ I h=>Constant_bool ⟨.bl b,H,I,rfl,h⟩
def mJ{j pos}:PE X (.Constant .none j pos) (tC .non):=λ_ _ _ H _ I h=>Constant_none ⟨.non,H,I,rfl,h⟩
def mP{x j pos}:PE X (.Constant (.str x) j pos) (tC<|.str x):=λ_ _ _ H _ I h=>Calls.Constant_str ⟨.str x,H,I.tok _,⟨_,rfl⟩,h⟩
def Gl(X:Cx)(x:Str):Prop:=X.env.kindOf x=some .globalImplicit
def bB(I:Inv X qp σ H s)(d:Gl X x)(hm:X.mg x=some u)(h:Q u s)(hd:(x==("__debug__":Str))=false:=by decide):wpAny (!4) X.A (Wp (.Name x pos) X.env) Q E s:=
 DQ I.ok.kind d (Calls.loadGlobal_global (by rw[I.ok.glob];exact I.mod.glob.keeps I.bk) hm h) hd
def PY(I:Inv X qp σ H s)(d:Gl X x)(hm:X.mg x=none)(f:UF x=some u)(h:Q u s)(hn:x≠"__name__":=by decide) (hd:(x==("__debug__":Str))=false:=by decide):wpAny (!4) X.A (Wp (.Name x pos) X.env) Q E s:=by
 obtain⟨c,a,b⟩:=I.mod.blt;exact DQ I.ok.kind d (Calls.loadGlobal_builtin (by rw[I.ok.glob];exact I.mod.glob.keeps I.bk) hm (by rw[I.ok.blt];exact a.keeps I.bk) ((b x hn).trans f) h) hd
def tJ(d:Gl X x)(hm:X.mg x=none)(f:UF x=some u)(r:RelV v u)(hn:x≠"__name__":=by decide)(hd:(x==("__debug__":Str))=false:=by decide):PE X (.Name x pos) (tC v):=λ_ _ _ H _ I h=>PY I d hm f ⟨v,H,I,r,h⟩ hn hd
variable {a b:Pv}
def PC(X:Cx)(op:CmpOp)(a b:Pv)(t:TE):Prop:=
 ∀(qp:List (Addr×Obj)) (s:Shared) (σ:St) (H:Hp) (Q:VK),Inv X qp σ H s->t σ H Q ->
  wpAny (!4) X.A (Wp a X.env) (λv s₁=>wpAny (!4) X.A (Wp b X.env) (λu s₂=>wpAny (!4) X.A (SL op v u) (EP X qp σ Q) X.xe s₂) X.xe s₁) X.xe s
def tB(t:TE):TT:=λσ H Q=>t σ H λx H1=>∃c,x=.bl c/\Q c H1
def mE{t:TE}(h:PC X op a b t)(f:behindInMarks op b=false:=by first|exact d _ (!1) (!1)|rfl):PE X (.Compare a [op] [b] pos) t:=λqp s σ H Q I hw=>wpAny_Compare1 (h qp s σ H Q I hw) f
def ZM{t:TE}(h:PC X op a b t)(l:behindInMarks op b=false:=by first|exact f _ (!1) (!1)|rfl):PT X (.Compare a [op] [b] pos) (tB t):=by intro qp s σ H Q I hw;refine EL (HD (h qp s σ H _ I hw) λv s1 l=>HD l λu s2 e=>HD e ?_) l;rintro c s3 ⟨x,H1,g,i,j⟩;obtain⟨d,rfl,q⟩:=j;cases i;exact Bp ⟨H1,g,q⟩
variable {tA tB':TT}{rest:List Pv}
def Yg(t u:TT):TT:=λσ H Q=>t σ H λc H1=>if c=true then u σ H1 Q else Q false H1
def tOr(t u:TT):TT:=λσ H Q=>t σ H λc H1=>if c=true then Q true H1 else u σ H1 Q
def XZ(t:TT):TT:=λσ H Q=>t σ H λc H1=>Q (!c) H1
def NM(d:PT X a tA):PW X (.BoolOp .And [a] pos) tA:=by
 intro b qp s σ H Q I h;refine isTrue_and<|HD (d qp s σ H Q I h) λc s1 e=>?_
 cases c with
 |true=>exact isTrue_and_nil e
 |false=>exact e
def Pr(d:PT X a tA):PW X (.BoolOp .Or [a] pos) tA:=by
 intro b qp s σ H Q I h;refine isTrue_or<|HD (d qp s σ H Q I h) λc s1 e=>?_
 cases c with
 |false=>exact isTrue_or_nil e
 |true=>exact e
def Pt(d:PT X a tA)(f:PW X (.BoolOp .And (b::rest) pos) tB'):PW X (.BoolOp .And (a::b::rest) pos) (Yg tA tB'):=by
 intro i qp s σ H Q I h;refine isTrue_and<|HD (d qp s σ H _ I h) ?_;rintro c s1 ⟨H1,e,g⟩
 cases c with
 |true=>exact f i qp s1 σ H1 Q e g
 |false=>exact⟨H1,e,g⟩
def Sh(d:PT X a tA)(f:PW X (.BoolOp .Or (b::rest) pos) tB'):PW X (.BoolOp .Or (a::b::rest) pos) (tOr tA tB'):=by
 intro i qp s σ H Q I h;refine isTrue_or<|HD (d qp s σ H _ I h) ?_;rintro c s1 ⟨H1,e,g⟩
 cases c with
 |true=>exact⟨H1,e,g⟩
 |false=>exact f i qp s1 σ H1 Q e g
def oU(ha:PT X a tA):PT X (.UnaryOp .Not a pos) (XZ tA):=by intro qp s σ H Q I h;exact isTrue_not<|ha qp s σ H (λc H1=>Q (!c) H1) I h
def kO(ta tb:TE):TE:=λσ H Q=>ta σ H λx H1=>∃c,x=.bl c/\if c=true then tb σ H1 Q else Q (.bl false) H1
def kU(ta:TE):TE:=λσ H Q=>ta σ H λx H1=>∃c,x=.bl c/\Q (.bl<|!c) H1
def mO{op}{t:TE}(h:PE X a t):PE X (.BoolOp op [a] pos) t:=λqp s σ H Q I hw=>BoolOp_one<|h qp s σ H Q I hw
def mC(d:PE X a ta)(f:PE X (.BoolOp .And (b::rest) pos) tb):PE X (.BoolOp .And (a::b::rest) pos) (kO ta tb):=by
 exists 6;refine BoolOp_and<|HD (d qp s σ H _ I h) ?_;rintro v s1 ⟨x,H1,g,i,e⟩;obtain⟨c,rfl,e⟩:=e;cases i;refine Bp ?_
 cases c with
 |true=>exact f qp s1 σ H1 Q g e
 |false=>exact⟨.bl false,H1,g,rfl,e⟩
def mM(d:PE X a ta):PE X (.UnaryOp .Not a pos) (kU ta):=by intro qp s σ H Q I h;refine UnaryOp_<|HD (d qp s σ H _ I h) ?_;rintro v s1 ⟨x,H1,e,g,b⟩;obtain⟨c,rfl,b⟩:=b;cases g;exact not_of<|Bp ⟨.bl<|!c,H1,e,rfl,b⟩
def tIf(t:TT)(ta tb:TE):TE:=λσ H Q=>t σ H λc H1=>if c=true then ta σ H1 Q else tb σ H1 Q
def wC(f:PT X c tA)(l:PE X a ta)(m:PE X b tb):PE X (.IfExp c a b pos) (tIf tA ta tb):=by
 exists 6;refine wpAny_IfExp<|HD (f qp s σ H _ I h) ?_;rintro d s1 ⟨H1,e,g⟩
 cases d with
 |true=>exact l qp s1 σ H1 Q e g
 |false=>exact m qp s1 σ H1 Q e g
end
def JT(K:Ab)(H:Hp)(a:Addr)(xs:List V):Prop:=
 Rd H a (.lst xs) \/
  ∃(o:Obj) (b:Array IR) (n:Nat),K.lookup a=some o/\o.cls=.type "list"/\o.dict=none/\o.data=.seq b n/\b.size<=sizeLine/\Vals xs b.toList
def IK(K:Ab)(H:Hp)(a:Addr)(xs:List V):Prop:=
 Rd H a (.tup xs) \/
  ∃(o:Obj) (b:Array IR) (n:Nat),K.lookup a=some o/\o.cls=.type "tuple"/\o.data=.seq b n/\b.size<=sizeLine/\Vals xs b.toList
def YQ:IR->Option V
 |.none=>some .non
 |.bool b=>some<|.bl b
 |.int i _=>some<|.int i
 |.str x _=>some<|.str x
 |.bytes b _=>some<|.byt b
 |.float b _=>some<|.flt b
 |.ref a=>some<|.ref a
 |.type n=>some<|.ty n
 |_=>none
def RelV.abs{x:V}(r:RelV x u):YQ u=some x:=by
 cases x with
 |non=>cases r;rfl
 |bl _=>cases r;rfl
 |int _=>obtain⟨t,rfl⟩:=r;rfl
 |str _=>obtain⟨t,rfl⟩:=r;rfl
 |byt _=>obtain⟨t,rfl⟩:=r;rfl
 |flt _=>obtain⟨t,rfl⟩:=r;rfl
 |ref _=>cases r;rfl
 |ty _=>cases r;rfl
variable {y:V}
def RelV.inj{x:V}(r:RelV x u)(q:RelV y u):x=y:=AA<|r.abs.symm.trans q.abs
theorem Vals.inj:∀{xs d:List V}{us:List IR},Vals xs us->Vals d us->xs=d
 |_,_,_,.nil,.nil=>rfl
 |_,_,_,.cons r t,.cons f t'=>by rw[r.inj f,Vals.inj t t']
variable {K:Ab}
section
variable {xs ys:List V}
def JT.of(h:H a=some (.lst xs)):JT K H a xs:=.inl<|.inl h
def IK.of(h:H a=some (.tup xs)):IK K H a xs:=.inl<|.inl h
def Inv.list(I:Inv X qp σ H s)(h:JT X.K H a xs):∃its:List IR,Vals xs its/\PlainL s.heap a its.toArray/\xs.length<=sizeLine:=by
 rcases h with h|⟨o,its,n,hk,b,hd,c,g,r⟩
 ·obtain⟨z,its,n,r,e⟩:=h.ok I.hok;exact⟨its,r,⟨_,n,e,rfl,rfl,rfl⟩,z⟩
 refine⟨its.toList,r,⟨o,n,I.kIn a o hk,b,hd,by simpa using c⟩,?_⟩;have e:=r.length;simp only[AS]at e;omega
def Inv.tuple(I:Inv X qp σ H s)(h:IK X.K H a xs):∃its:List IR,Vals xs its/\IsTup s.heap a its.toArray/\xs.length<=sizeLine:=by
 rcases h with h|⟨o,its,n,hk,b,c,g,r⟩
 ·obtain⟨z,its,r,p⟩:=h.ok I.hok;exact⟨its,r,p.t,z⟩
 refine⟨its.toList,r,⟨o,I.kIn a o hk,b,n,by simpa using c⟩,?_⟩;have e:=r.length;simp only[AS]at e;omega
def Inv.list_inj(I:Inv X qp σ H s)(h:JT X.K H a xs)(h':JT X.K H a ys):xs=ys:=by
 obtain⟨c,r,⟨o,n,e,_,_,d⟩,_⟩:=I.list h;obtain⟨b,i,⟨j,u,g,_,_,d'⟩,_⟩:=I.list h';rw[e]at g;cases g;rw[d]at d';injection d' with d1 _
 have:c=b:=by simpa using congrArg GR d1
 subst this;exact r.inj i
def Inv.tuple_inj(I:Inv X qp σ H s)(h:IK X.K H a xs)(h':IK X.K H a ys):xs=ys:=by
 obtain⟨c,r,⟨o,e,_,n,d⟩,_⟩:=I.tuple h;obtain⟨b,i,⟨j,g,_,u,d'⟩,_⟩:=I.tuple h';rw[e]at g;cases g;rw[d]at d';injection d' with d1 _
 have:c=b:=by simpa using congrArg GR d1
 subst this;exact r.inj i
end
noncomputable abbrev Cx.wish (X:Cx) (E:Qqa):Cx:={X with xe:=E}
noncomputable abbrev Cx.nox (X:Cx):Cx:=X.wish λ_ _=>False
def Cx.Ok.wish{X:Cx}(ok:X.Ok)(E:Qqa):(X.wish E).Ok:=⟨ok.mod,ok.kind,ok.glob,ok.blt,ok.above,ok.inj,ok.has,ok.cab,ok.hd,ok.frames,ok.stk,ok.exf,ok.bs,ok.bsz,ok.noex,ok.exfs,ok.funs,ok.frf⟩
def Cx.Ok.unwish(ok:(X.wish E).Ok):X.Ok:=⟨ok.mod,ok.kind,ok.glob,ok.blt,ok.above,ok.inj,ok.has,ok.cab,ok.hd,ok.frames,ok.stk,ok.exf,ok.bs,ok.bsz,ok.noex,ok.exfs,ok.funs,ok.frf⟩
def Inv.wish(I:Inv X qp σ H s)(E:Qqa):Inv (X.wish E) qp σ H s:=⟨I.ok.wish E,I.os,I.bare,I.base,I.loc,I.cell,I.free,I.freeC,I.pin,I.hok,I.len⟩
def Inv.unwish(I:Inv (X.wish E) qp σ H s):Inv X qp σ H s:=⟨I.ok.unwish,I.os,I.bare,I.base,I.loc,I.cell,I.free,I.freeC,I.pin,I.hok,I.len⟩
def SP.unwish{D:Ends}{f:Flow}{s':Shared}(h:SP (X.wish E) qp D f s'):SP X qp D f s':=by
 cases f with
 |next=>obtain⟨σ',H',I,q⟩:=h;exact⟨σ',H',I.unwish,q⟩
 |brk=>obtain⟨σ',H',I,q⟩:=h;exact⟨σ',H',I.unwish,q⟩
 |cont=>obtain⟨σ',H',I,q⟩:=h;exact⟨σ',H',I.unwish,q⟩
 |ret u=>obtain⟨v,σ',H',I,r,q⟩:=h;exact⟨v,σ',H',I.unwish,r,q⟩
def KN.nox{st:List W1}{t:TS}(h:KN X.nox st t):KN X st t:=λqp s σ H D I hw=>
 Bu (h qp s σ H D (I.wish _) hw) (λ_ _ q=>q.unwish) λ_ _ z=>False.elim z
variable {te:TE}{tc:TT}
section
variable {st:W1}{rest:List W1}{t u:TS}
def Zo:TS:=λD σ H=>D.nx σ H
def XW(t u:TS):TS:=λD σ H=>t {D with nx:=u D} σ H
def sC:KN X [] Zo:=λ_ _ σ H _ I h=>Do ⟨σ,H,I,h⟩
def xI(d:PS X st t)(l:KN X rest u):KN X (st::rest) (XW t u):=by
 exists 14;refine wpAny_execs_cons<|HD (d qp s σ H {D with nx:=u D} I h) λf s1 q=>?_
 cases f with
 |next=>
  obtain⟨σ',H',a,q⟩:=q;exact l qp s1 σ' H' D a q
 |ret v=>exact q
 |brk=>exact q
 |cont=>exact q
def sD(d:PS X st t):KN X [st] t:=by
 exists 14;refine wpAny_execs_cons<|HD (d qp s σ H D I h) λf s1 q=>?_
 cases f with
 |next=>exact Do q
 |ret v=>exact q
 |brk=>exact q
 |cont=>exact q
def sA:PS X (.Pass pos) Zo:=λ_ _ σ H _ I h=>wpAny_Pass ⟨σ,H,I,h⟩
def Inv.quiet(I:Inv X qp σ H s):interactive X.env=false:=by simp[interactive,I.ok.kind]
def kS(te:TE):TS:=λD σ H=>te σ H λ_ H1=>D.nx σ H1
def rZ(he:PE X e te)(d:swapsWith e none pos.line X.env=pure false:=by rfl):PS X (.Expr e pos) (kS te):=by intro qp s σ H D I h;exact wpAny_Expr_any (HD (he qp s σ H _ I h) λv s1 ⟨x,H1,a,c,b⟩=>⟨σ,H1,a,b⟩) I.quiet d
def XX(te:TE):TS:=λD σ H=>te σ H D.rt
def oR(he:PE X e te):PS X (.Return (some e) pos) (XX te):=by intro qp s σ H D I h;exact wpAny_Return_some<|HD (he qp s σ H _ I h) λv s1 ⟨x,H1,a,b,c⟩=>⟨x,σ,H1,a,b,c⟩
def Ya(c:TT)(t u:TS):TS:=λD σ H=>c σ H λb H1=>if b=true then t D σ H1 else u D σ H1
def kF{a b:List W1}(f:PT X c tc)(l:KN X a t)(m:KN X b u):PS X (.If c a b pos) (Ya tc t u):=by
 exists 14;refine wpAny_If<|HD (f qp s σ H _ I h) ?_;rintro d s1 ⟨H1,e,g⟩
 cases d with
 |true=>exact l qp s1 σ H1 D e g
 |false=>exact m qp s1 σ H1 D e g
end
noncomputable abbrev TG:=V->St->Hp->(St->Hp->Prop)->Prop
noncomputable abbrev OL:=List V->St->Hp->(St->Hp->Prop)->Prop
def PG(X:Cx)(target:Pv)(t:TG):Prop:=
 ∀(qp:List (Addr×Obj)) (s:Shared) (σ:St) (H:Hp) (v:V) (u:IR) (Q:St->Hp->Prop),Inv X qp σ H s->RelV v u->t v σ H Q ->
  wpAny (!4) X.A (assign target X.env u) (λ_ s'=>∃σ' H',Inv X qp σ' H' s'/\Q σ' H') X.xe s
def Nl(X:Cx)(ts:List Pv)(t:OL):Prop:=
 ∀(qp:List (Addr×Obj)) (s:Shared) (σ:St) (H:Hp) (a:List V) (us:List IR) (Q:St->Hp->Prop),Inv X qp σ H s->Vals a us->t a σ H Q ->
  wpAny (!4) X.A (assignInOrder ((assignEach ts X.env).map (·.2)) us) (λ_ s'=>∃σ' H',Inv X qp σ' H' s'/\Q σ' H') X.xe s
noncomputable abbrev PH:=V->V->V->Hp->(Hp->Prop)->Prop
def PK(X:Cx)(t:PH):Prop:=
 ∀(qp:List (Addr×Obj)) (s:Shared) (σ:St) (H:Hp) (o i v:V) (a b u:IR) (Q:Hp->Prop),Inv X qp σ H s->RelV o a->RelV i b->RelV v u->t o i v H Q ->
  wpAny (!4) X.A (setItem a b u) (λ_ s'=>∃H',Inv X qp σ H' s'/\Q H') X.xe s
variable {es:List Pv}{n:Nat}{tg:Pv}{pos':Pos}
def Zc(i:Nat):TG:=λv σ H Q=>Q (σ.set i<|some v) H
def rS(d:X.N.Nodup)(hi:X.N[i]?=some x)(f:Loc X.env.scope x)(hf:X.fn x=true\/X.env.scope.names.lookup x=some .local:=by first|exact .inl rfl|exact .inr rfl|assumption):PG X (.Name x pos) (Zc i):=by intro qp s σ H v u Q I r h;exact FL<|Ui I d hi f r (λs' a=>⟨_,H,a,h⟩) hf
def YI:OL:=λa σ H Q=>a=[]/\Q σ H
def jH(t:TG)(u:OL):OL:=λa σ H Q=>∃v r,a=v::r/\t v σ H λσ' H'=>u r σ' H' Q
def rT:Nl X [] YI:=by intro qp s σ H a us Q I r h;obtain⟨e,h⟩:=h;subst e;cases r;exact FM ⟨σ,H,I,h⟩
def yG{t:TG}{u:OL}(d:PG X e t)(f:Nl X es u)(l:(assignEach (e::es) X.env).map (·.2)=assign e X.env::(assignEach es X.env).map (·.2):=by rfl):Nl X (e::es) (jH t u):=by
 intro qp s σ H i us Q I r h;obtain⟨v,j,a,h⟩:=h;subst a;cases r with
 |cons r b=>
  rw[l];refine DL<|HD (d qp s σ H _ _ _ I r h) ?_;rintro _ s1 ⟨σ1,H1,c,g⟩;exact f qp s1 σ1 H1 _ _ Q c b g
def YG(K:Ab)(n:Nat)(t:OL):TG:=λv σ H Q=>∃a xs,v=.ref a/\IK K H a xs/\xs.length=n/\t xs σ H Q
def pV{k:Nat}{t:OL}(f:X.calm=true)(h:Nl X es t)(hn:(assignEach es X.env).length=n:=by rfl) (d:(assignEach es X.env).findIdx? (·.1)=none:=by rfl):PG X (.Tuple es k pos) (YG X.K n t):=by
 intro qp s σ H v u Q I r hw;obtain⟨a,xs,g,i,j,hw⟩:=hw;subst g;cases r;obtain⟨w,c,x,E⟩:=I.tuple i;refine assign_Tuple_tuple (I.ok.hd f) x (by simp[hn,<-j,c.length]) d λh' y=>?_;have A:Inv X qp σ H {s with heap:=h'}:=I.kept (t':=s.toks) λb o e=>y b o (Aw<|Ak e) e;exact h qp _ σ H xs _ Q A (by simpa using c) hw
def YH(to d:TE)(t:PH):TG:=λv σ H Q=>to σ H λo H1=>d σ H1 λi a=>t o i v a λb=>Q σ b
def pU{o i:Pv}{to l:TE}{t:PH}(m:PE X o to)(hi:PE X i l)(p:PK X t)(q:∀v,assign (.Subscript o i pos) X.env v=(do
   let d <-holding [v] (Wp o X.env)
   let f <-holding [v,d] (Wp i X.env)
   standAt pos
   holding [v,d,f] (setItem d f v)
   release [v,d,f] []):=by intro _;rfl):PG X (.Subscript o i pos) (YH to l t):=by
 intro qp s σ H v u Q I r h;rw[q];refine Aa<|AO<|HD (m qp s σ H _ I h) ?_;rintro d s1 ⟨x,H1,a,b,c⟩;refine Aa<|AO<|HD (hi qp s1 σ H1 _ a c) ?_;rintro f s2 ⟨y,e,g,j,n⟩;refine Aa<|DR<|Aa<|AO<|HD (p qp s2 σ e x y v d f u _ g b j r n) ?_;rintro _ s3 ⟨w,A,E⟩;exact wpAny_release ⟨σ,w,A,E⟩
def Pp(te:TE)(g:TG):TS:=λD σ H=>te σ H λx H1=>g x σ H1 D.nx
def pY{g:TG}(he:PE X e te)(d:PG X tg g)(f:swapsWithSole [tg] e pos.line X.env=pure false:=by rfl)(hw:swappedStores [tg] e X.env=pure none:=by rfl)(l:(assignEach [tg] X.env).map (·.2)=[assign tg X.env]:=by rfl):PS X (.Assign [tg] e pos) (Pp te g):=by
 exists 14;refine wpAny_Assign_stores (HD (he qp s σ H _ I h) ?_) f hw;rintro v s1 ⟨x,H1,a,b,c⟩;rw[l];exact HD (d qp s1 σ H1 x v _ a b c) λ_ s2 q=>q
def oT(d:X.N.Nodup)(hi:X.N[i]?=some x)(f:Loc X.env.scope x)(he:PE X e te)(l:swapsWith e (some<|.Name x pos') pos.line X.env=pure false:=by rfl)(hf:X.fn x=true\/X.env.scope.names.lookup x=some .local:=by first|exact .inl rfl|exact .inr rfl|assumption):
  PS X (.Assign [.Name x pos'] e pos) (Pp te<|Zc i):=by
 exists 14;refine wpAny_Assign_Name (HD (he qp s σ H _ I h) ?_) l;rintro v s1 ⟨y,H1,a,b,c⟩;exact Ui a d hi f b (λs2 g=>⟨_,H1,g,c⟩) hf
def XY(i j:Nat)(ta:TA):TS:=λD σ H=>ta σ H λa H1=>∃v w,a=[v,w]/\D.nx ((σ.set i<|some v).set j<|some w) H1
def qB{y:Str}{a b:Pv}{ta:TA}{d py pt:Pos}{kt k2 pt2}(z:X.calm=true)(l:X.N.Nodup)(hi:X.N[i]?=some x)(B:X.N[j]?=some y)(f:i≠j)(m:X.env.scope.names.lookup x=some .local) (r:X.env.scope.names.lookup y=some .local) (C:PA X [a,b] ta)(hw:swappedStores [.Tuple [.Name x d,.Name y py] kt pt] (.Tuple [a,b] k2 pt2) X.env=pure (some [x,y]))(F:swapsWithSole [.Tuple [.Name x d,.Name y py] kt pt] (.Tuple [a,b] k2 pt2) pos.line X.env=pure false:=by rfl):
  PS X (.Assign [.Tuple [.Name x d,.Name y py] kt pt] (.Tuple [a,b] k2 pt2) pos) (XY i j ta):=by
 exists 14;rw[exec_Assign_arm];refine Aa<|DR ?_;rw[F];refine Aa<|Ae ?_;rw[if_neg (!1)];refine Aa<|Tuple_<|HD (C _ qp s σ H _ I h) ?_;rintro us s1 ⟨T,H1,I1,L,n⟩;obtain⟨v,w,M,n⟩:=n;subst M;obtain⟨c,g,rfl,P,u⟩:∃c g,us=[c,g]/\RelV v c/\RelV w g:=by
  cases L with
  |cons p q=>
   cases q with
   |cons Q G=>
    cases G;exact⟨_,_,rfl,p,Q⟩
 refine AR ?_ (by show 2<=sizeLine;decide);have I2:Inv X qp σ H1 {s1 with heap:=s1.heap.push {cls:=.type "tuple",data:=.seq [c,g].toArray} }:=I1.kept (t':=s1.toks) λb o e=>Ad _ e;rw[hw];refine Aa<|Ae ?_;show wpAny (!4) X.A (do rule "assign.swapped-stores";let items <-unpackItems (.ref s1.heap.objs.size) 2 none;assignInOrder [λv=>bindName X.env y v,λv=>bindName X.env x v] items.reverse;pure Flow.next) _ _ _;refine Aa<|BR<|Aa<|unpackItems_tuple (items:=#[c,g]) (I.ok.hd z) (IsTup.new s1.heap _) λh' E=>?_;have J:=I2.kept (h':=h') (t':=s1.toks) λb o e=>E b o (Aw<|Ak e) e;show wpAny _ _ (assignInOrder [λv=>bindName X.env y v,λv=>bindName X.env x v] [g,c] >>= λ_=>pure Flow.next) _ _ _;refine Aa<|DL<|wpAny_bindName<|Ui J l B (.inl r) u (λs2 S=>?_)<|.inr r;refine DL<|wpAny_bindName<|Ui S l hi (.inl m) P (λs3 K=>FM (Ae ?_))<|.inr m;rw[List.set_comm _ _ (BF f)]at K;exact⟨_,H1,K,n⟩
variable {body:List W1}
def oK(c:TT)(tb:TS):TS:=λD σ H=>∃W:Nat->St->Hp->Prop,(∃m,W m σ H)/\∀m σ H,W m σ H ->
 c σ H λb H1=>if b=true then ∃N:St->Hp->Prop,(∀σ' H',N σ' H'->∃a,a<m/\W a σ' H')/\tb {D with nx:=N,ct:=N,bk:=D.nx} σ H1 else D.nx σ H1
def xH{tb:TS}(d:PassesOwn (!4) X.A X.env X.xe)(l:PT X c tc)(m:KN X body tb):PS X (.While c body [] pos) (oK tc tb):=by
 exists 14;obtain⟨W,⟨m0,K⟩,turn⟩:=h;refine wpAny_While<|codeAny_whileLoop (λn s'=>∃σ' H',Inv X qp σ' H' s'/\W n σ' H') ?_ m0 ⟨σ,H,I,K⟩;rintro n s1 ⟨σ1,H1,L,M⟩;refine B7 d<|HD (l qp s1 σ1 H1 _ L<|turn n σ1 H1 M) ?_;rintro b s2 ⟨x,y,e⟩
 cases b with
 |true=>
  obtain⟨N,E,e⟩:=e;rw[if_pos rfl];refine B7 d<|HD (m qp s2 σ1 x _ y e) λf s3 g=>?_
  cases f with
  |next=>
   obtain⟨σ3,a,i,j⟩:=g;obtain⟨o,hm,u⟩:=E σ3 a j;exact⟨o,hm,σ3,a,i,u⟩
  |cont=>
   obtain⟨σ3,a,i,j⟩:=g;obtain⟨o,hm,u⟩:=E σ3 a j;exact⟨o,hm,σ3,a,i,u⟩
  |brk=>exact g
  |ret v=>exact g
 |false=>
  rw[if_neg AW];exact Do ⟨σ1,x,y,e⟩
structure It where
 go:Nat->Hp->Prop
 yld:Nat->Hp->V->Hp->Prop
 stop:Nat->Hp->Prop
def Kq(X:Cx)(qp:List (Addr×Obj))(H:Hp)(b:Addr):Prop:=H b=none/\b≠X.env.locals/\b∉X.fs/\(b∈X.ex\/X.s₀.heap.objs.size<=b)/\(∀x c,X.env.cells.lookup x=some c->c≠b)/\∀p∈X.pn++qp,p.1≠b
def Inv.fpOk(I:Inv X qp σ H s)(d:s.heap.objs.size<=b)(hn:H' b=none):Kq X qp H' b:=by
 refine⟨hn,C0<|AC I.lt d,I.nofs d,.inr<|AB I.sz d,λx c e z=>?_,λp a z=>?_⟩
 ·obtain⟨v,q⟩:=I.cell x c e;exact absurd (AC q.lt (by rw[z];exact d))<|AN _
 exact absurd (AC (Ak (I.pin p a).1) (by rw[z];exact d))<|AN _
structure Turn(P:SZ)(w:World)(K:Ab)(tg:Pv)(J:It)(fp:List Addr)(it:Addr)(tn:Nat->P3->Prop):Prop where
 mem:it∈fp
 obj:∀i h,tn i h->∀b∈fp,∃o,h.get? b=some o/\∀v,o.data≠.cell v
 keep:∀i h h',tn i h->(∀b∈fp,∀o,h.get? b=some o->h'.get? b=some o)->tn i h'
 item:∀(X:Cx),X.prog=P->X.w=w->X.K=K->X.calm=true->∀(i:Nat) (qp:List (Addr×Obj)) (s:Shared) (σ:St) (H:Hp) (E:Qqa),Inv X qp σ H s->(∀b∈fp,Kq X qp H b)->tn i s.heap->J.go i H ->
  wpAny (KB P w) X.A (pyNext (.ref it)) (λr s1=>∃u,r=some u /\
   wpAny (KB P w) X.A (letOwnedTupleGo tg (.ref it) u) (λ_ s2=>∃x H',Inv X qp σ H' s2/\RelV x u/\J.yld i H x H'/\tn (i+1) s2.heap/\∀b∈fp,H' b=none) E s1) E s
 done:∀(X:Cx),X.prog=P->X.w=w->X.K=K->X.calm=true->∀(i:Nat) (qp:List (Addr×Obj)) (s:Shared) (σ:St) (H:Hp) (E:Qqa),Inv X qp σ H s->(∀b∈fp,Kq X qp H b)->tn i s.heap->J.stop i H ->
  wpAny (KB P w) X.A (pyNext (.ref it)) (λr s1=>r=none/\Inv X qp σ H s1) E s
 self:∀(A:Around) (i:Nat) (s:Shared) (Q:Qqa) (E:Qqa),tn i s.heap->Q (.ref it) s->wpAny (KB P w) A (pyIter (.ref it)) Q E s
noncomputable abbrev TI:=St->Hp->(It->Hp->Prop)->Prop
def iS(X:Cx)(qp:List (Addr×Obj))(σ:St)(tg:Pv)(R:It->Hp->Prop)(d:IR)(s2:Shared):Prop:=∃(it:Addr) (a:List Addr) (c:Nat->P3->Prop) (J:It) (H':Hp),d=.ref it/\Inv X qp σ H' s2/\Turn X.prog X.w X.K tg J a it c/\c 0 s2.heap/\(∀b∈a,Kq X qp H' b)/\R J H'
def PI(X:Cx)(tg iter:Pv)(d:TI):Prop:=
 ∀(qp:List (Addr×Obj)) (s:Shared) (σ:St) (H:Hp) (R:It->Hp->Prop),Inv X qp σ H s->d σ H R ->
  wpAny (!4) X.A (Wp iter X.env) (λv s1=>wpAny (!4) X.A (pyIter v) (iS X qp σ tg R) X.xe s1) X.xe s
def QG{o:Obj}{n:String}{vs:Array IR}{Q:Unit->Shared->Prop}(f:s.heap.get? it=some o)(l:o.cls=.type n)(hd:o.data=.fields vs)(hn:["enumerate","zip","dict_itemiterator","dict_reverseitemiterator","odict_iterator","itertools.zip_longest","itertools.pairwise"].contains n=false) (d:Q () s):wpAny M A (letOwnedTupleGo tg (.ref it) u) Q E s:=by
 unfold letOwnedTupleGo;cases tg<;>first
  |exact Ae d
  |(cases u<;>first
    |exact Ae d
    |(refine Aa (wpAny_load f ?_);rw[l,hd];show wpAny M A (if(["enumerate","zip","dict_itemiterator","dict_reverseitemiterator","odict_iterator","itertools.zip_longest","itertools.pairwise"].contains n&&vs[0]?==some (rawInt _))=true then _ else _) Q E s;rw[if_neg (by intro h;rw[hn,Bool.false_and]at h;cases h)];exact Ae d))
def YX(K:Ab)(a:Addr):It:=⟨λi H=>∃xs x,JT K H a xs/\xs[i]?=some x,λi H x H'=>H'=H/\∀xs,JT K H a xs->xs[i]?=some x,λi H=>∃xs,JT K H a xs/\xs.length<=i⟩
def YW(K:Ab)(a:Addr):It:=⟨λi H=>∃xs x,IK K H a xs/\xs[i]?=some x,λi H x H'=>H'=H/\∀xs,IK K H a xs->xs[i]?=some x,λi H=>∃xs,IK K H a xs/\xs.length<=i⟩
def Ve(lo:Int)(n:Nat):It:=⟨λi _=>i<n,λi H x H'=>H'=H/\x=.int (lo+i),λi _=>n<=i⟩
def zmb(a it:Addr):Turn P w K tg (YX K a) [it] it (λi h=>h.IsListIter it a i) where
 mem:=by simp
 obj:=λi h st b g=>by
  have e:b=it:=by simpa using g
  subst e;obtain⟨o,e,c,d⟩:=st;exact⟨o,e,λv z=>by rw[d]at z;cases z⟩
 keep:=λi h h' st k=>st.at λo e=>k it (!2) o e
 item:=by intro X y hw A m i qp s σ H E I hf st L;subst y hw A;obtain⟨xs,x,n,M⟩:=L;obtain⟨N,Q,p,q⟩:=I.list n;obtain⟨u,r,B⟩:=Q.get M;obtain⟨f0,f1,f2,f,f4,l⟩:=hf it (!2);refine Cs st p.isList (x:=u) (by simpa using r) λh' j sb=>?_;have C:Inv X qp σ H {s with heap:=h'}:=I.turned (t':=s.toks) (λb o g e=>(sb.2 b g).trans e) f0 f1 f f4 l;obtain⟨o,e,c,d⟩:=id j;exact⟨u,rfl,QG (s:={s with heap:=h'}) e c d (!1) ⟨x,H,C,B,⟨rfl,λJ F=>by rw[I.list_inj F n];exact M⟩,j,λb g=>(hf b g).1⟩⟩
 done:=by intro X y hw A m i qp s σ H E I hf st L;subst y hw A;obtain⟨xs,n,M⟩:=L;obtain⟨N,Q,p,q⟩:=I.list n;obtain⟨f0,f1,f2,f,f4,l⟩:=hf it (!2);have S:=Q.length;exact CD (I.ok.hd m) st p.isList (by simp;omega) λh' G=>⟨rfl,I.turned (t':=s.toks) (λb o g e=>G b o g e) f0 f1 f f4 l⟩
 self:=λ_ _ _ _ _ st h=>wpAny_pyIter_listiter st h
def zjX(a it:Addr):Turn P w K tg (YW K a) [it] it (λi h=>h.IsTupleIter it a i) where
 mem:=by simp
 obj:=λi h st b g=>by
  have e:b=it:=by simpa using g
  subst e;obtain⟨o,e,c,d⟩:=st;exact⟨o,e,λv z=>by rw[d]at z;cases z⟩
 keep:=λi h h' st k=>st.at λo e=>k it (!2) o e
 item:=by intro X A hw L m i qp s σ H E I hf st M;subst A hw L;obtain⟨xs,x,y,N⟩:=M;obtain⟨j,Q,p,q⟩:=I.tuple y;obtain⟨u,r,B⟩:=Q.get N;obtain⟨f0,f1,f2,f,f4,l⟩:=hf it (!2);refine Eg st (show s.heap.IsTuple a j.toArray from p) (x:=u) (by simpa using r) λh' n sb=>?_;have C:Inv X qp σ H {s with heap:=h'}:=I.turned (t':=s.toks) (λb o g e=>(sb.2 b g).trans e) f0 f1 f f4 l;obtain⟨o,e,c,d⟩:=id n;exact⟨u,rfl,QG (s:={s with heap:=h'}) e c d (!1) ⟨x,H,C,B,⟨rfl,λJ F=>by rw[I.tuple_inj F y];exact N⟩,n,λb g=>(hf b g).1⟩⟩
 done:=by intro X A hw L m i qp s σ H E I hf st M;subst A hw L;obtain⟨xs,y,N⟩:=M;obtain⟨j,Q,p,q⟩:=I.tuple y;obtain⟨f0,f1,f2,f,f4,l⟩:=hf it (!2);have S:=Q.length;exact Ez (I.ok.hd m) st (show s.heap.IsTuple a j.toArray from p) (by simp;omega) λh' G=>⟨rfl,I.turned (t':=s.toks) (λb o g e=>G b o g e) f0 f1 f f4 l⟩
 self:=λ_ _ _ _ _ st h=>wpAny_pyIter_tupleiter st h
def zjY(it:Addr)(lo:Int)(n:Nat):Turn P w K tg (Ve lo n) [it] it (λi h=>IsRangeIter h it (lo+(i:Nat)*1) ((n:Int)-(i:Nat)) 1) where
 mem:=by simp
 obj:=λi h st b a=>by
  have e:b=it:=by simpa using a
  subst e;exact⟨_,st,λv z=>by have L:Data.fields _=Data.cell v:=z;cases L⟩
 keep:=λi h h' st k=>k it (!2) _ st
 item:=by intro X g hw j u i qp s σ H E I hf st x;subst g hw j;obtain⟨f0,f1,f2,y,f4,A⟩:=hf it (!2);have W:=Walks.range (prog:=X.prog) (w:=X.w) (I.ok.hd u) it lo 1 n;refine W.item i s _ _ x st λv h' tk M c N=>?_;obtain⟨t,rfl⟩:=M;have Q:Inv X qp σ H {s with heap:=h',toks:=tk}:=I.turned (λb o a e=>N b o (by simpa using a) e) f0 f1 y f4 A;refine⟨_,rfl,QG (s:={s with heap:=h',toks:=tk}) (n:="range_iterator") c rfl rfl (!1) ⟨.int<|lo+i,H,Q,⟨t,?_⟩,⟨rfl,rfl⟩,c,λb a=>(hf b a).1⟩⟩;rw[Int.mul_one]
 done:=by intro X g hw j u i qp s σ H E I hf st x;subst g hw j;obtain⟨f0,f1,f2,y,f4,A⟩:=hf it (!2);exact wpAny_pyNext_range_end (I.ok.hd u) st (by have:n<=i:=x;omega) λh' d=>⟨rfl,I.turned (t':=s.toks) (λb o a e=>d b o a e) f0 f1 y f4 A⟩
 self:=λ_ _ _ _ _ st h=>wpAny_pyIter_rangeiter st h
variable {p:Pos}{l:Pv}{tl:TE}{fp:List Addr}
def jJ(K:Ab)(tl:TE):TI:=λσ H R=>tl σ H λx H1=>∃a,x=.ref a/\(∃xs,JT K H1 a xs)/\R (YX K a) H1
def YE(K:Ab)(tl:TE):TI:=λσ H R=>tl σ H λx H1=>∃a,x=.ref a/\(∃xs,IK K H1 a xs)/\R (YW K a) H1
def rV(d:PE X l tl):PI X tg l (jJ X.K tl):=by
 intro qp s σ H R I h;refine HD (d qp s σ H _ I h) ?_;rintro v s1 ⟨x,H1,I1,c,g⟩;obtain⟨a,e,⟨xs,i⟩,q⟩:=g;subst e;cases c;obtain⟨j,u,p,w⟩:=I1.list i;refine Cy p.isList ?_;refine⟨s1.heap.objs.size,[s1.heap.objs.size],_,_,H1,rfl,I1.kept (t':=s1.toks) λb o e=>Ad _ e,zmb a _,⟨_,Ao _ rfl,rfl,rfl⟩,λb n=>?_,q⟩;have e:b=s1.heap.objs.size:=by simpa using n
 subst e;exists 16
def pX(d:PE X l tl):PI X tg l (YE X.K tl):=by
 intro qp s σ H R I h;refine HD (d qp s σ H _ I h) ?_;rintro v s1 ⟨x,H1,I1,g,i⟩;obtain⟨a,e,⟨xs,j⟩,q⟩:=i;subst e;cases g;obtain⟨c,u,p,w⟩:=I1.tuple j;refine wpAny_pyIter_tuple (show s1.heap.IsTuple a c.toArray from p) ?_;refine⟨s1.heap.objs.size,[s1.heap.objs.size],_,_,H1,rfl,I1.kept (t':=s1.toks) λb o e=>Ad _ e,zjX a _,⟨_,Ao _ rfl,rfl,rfl⟩,λb n=>?_,q⟩;have e:b=s1.heap.objs.size:=by simpa using n
 subst e;exists 16
def xM{R:It->Hp->Prop}{lo hi:Int}{t u v:Tok}{tk:Nat}(I:Inv X qp σ H s)(d:-(2^62)<=lo)(f:lo<2^62)(m:-(2^62)<=hi)(r:hi<2^62)(q:R (Ve lo (hi-lo).toNat) H):wpAny (!4) X.A (pyIter<|.ref s.heap.objs.size) (iS X qp σ tg R) E {s with heap:=s.heap.push {cls:=.type "range",data:=.fields #[.int lo t,.int hi u,.int 1 v]},toks:=tk}:=by
 refine wpAny_pyIter_range (IsRange.new ..) (small_one d f m r) ?_;have I1:Inv X qp σ H {s with heap:=s.heap.push {cls:=.type "range",data:=.fields #[.int lo t,.int hi u,.int 1 v]},toks:=tk}:=I.kept λb o e=>Ad _ e;refine⟨(s.heap.push {cls:=.type "range",data:=.fields #[.int lo t,.int hi u,.int 1 v]}).objs.size,[(s.heap.push {cls:=.type "range",data:=.fields #[.int lo t,.int hi u,.int 1 v]}).objs.size],_,_,H,rfl,
  I1.kept (t':=tk) λb o e=>Ad _ e,zjY _ lo (hi-lo).toNat,?_,λb a=>?_,q⟩
 ·have c:lo+((0:Nat):Int)*1=lo:=by simp
  have g:(((hi-lo).toNat:Nat):Int)-((0:Nat):Int)=Builtin.Range.rangeSize lo hi 1:=by rw[rangeSize_one];split<;>omega
  show IsRangeIter _ _ (lo+((0:Nat):Int)*1) ((((hi-lo).toNat:Nat):Int)-((0:Nat):Int)) 1;rw[c,g];exact Ao _ rfl
 ·have e:b=(s.heap.push {cls:=.type "range",data:=.fields #[.int lo t,.int hi u,.int 1 v]}).objs.size:=by simpa using a
  subst e;exists 16
def jK(ta:TA):TI:=λσ H R=>ta σ H λa H1=>∃j:Int,a=[.int j]/\-(2^62)<=j/\j<2^62/\R (Ve 0 j.toNat) H1
def zmE{a:Pv}{ta:TA}(d:Gl X "range")(hm:X.mg "range"=none)(f:PA X [a] ta)(m:starEach [a] X.env=[(false,Wp a X.env)]:=by rfl):PI X tg (.Call (.Name "range" p) [a] [] pos) (jK ta):=by
 intro qp s σ H R I h;refine Call_<|PY I d hm boot_range<|B2 (HD (f pos qp s σ H _ I h) ?_) m rfl;rintro us s1 ⟨n,H1,c,g,b⟩;obtain⟨j,e,b,i,q⟩:=b;subst e
 cases g with
 |cons r l=>
  cases l;obtain⟨t,rfl⟩:=r;exact call_range_1<|xM c (!0) (!0) b i<|by simpa using q
def Yb(d:TI)(g:TG)(tb:TS):TS:=λD σ H=>d σ H λJ H1=>∃W:Nat->Nat->St->Hp->Prop,(∃m,W 0 m σ H1)/\∀i m σ H,W i m σ H ->
 (J.stop i H/\D.nx σ H)\/(J.go i H/\∃N:St->Hp->Prop,(∀σ' H',N σ' H'->∃a,a<m/\W (i+1) a σ' H')/\∀x H',J.yld i H x H'->g x σ H' λσ2 b=>tb {D with nx:=N,ct:=N,bk:=D.nx} σ2 b)
def Rc(fp:List Addr)(h:P3):List (Addr×Obj):=fp.filterMap λb=>(h.get? b).map λo=>(b,o)
def UG{o:Obj}(d:b∈fp)(e:h.get? b=some o):(b,o)∈Rc fp h:=List.mem_filterMap.mpr ⟨b,d,by rw[e];rfl⟩
def zmM{p:Addr×Obj}(d:p∈Rc fp h):p.1∈fp/\h.get? p.1=some p.2:=by
 obtain⟨b,a,e⟩:=List.mem_filterMap.mp d;cases q:h.get? b with
 |none=>rw[q]at e;cases e
 |some o=>
  rw[q]at e;have c:(b,o)=p:=AA e;subst c;exact⟨a,q⟩
def Inv.pinned{fp:List Addr}(I:Inv X qp σ H s)(hf:∀b∈fp,Kq X qp H b)(f:∀b∈fp,∃o,s.heap.get? b=some o/\∀v,o.data≠.cell v):Inv X (qp++Rc fp s.heap) σ H s:=I.pins_of λp g=>(On.mp g).elim (λz=>I.pin p (AH _ z)) λz=>by obtain⟨a,e⟩:=zmM z;obtain⟨f0,f1,f2,_⟩:=hf p.1 a;obtain⟨o,c,d⟩:=f p.1 a;rw[e]at c;cases c;exact⟨e,f0,f1,f2,d⟩
def Inv.unpinned{pl:List (Addr×Obj)}(I:Inv X (qp++pl) σ H s):Inv X qp σ H s:=I.pins_of λp a=>I.pin p<|AH _<|AK _ a
def qA{iter:Pv}{C:TI}{g:TG}{tb:TS}(z:PassesOwn (!4) X.A X.env X.xe)(F:X.calm=true)(hi:PI X tg iter C)(Y:PG X tg g)(q:KN X body tb)(Z:∀x,foldedSetIterable iter X.env x=pure x:=by intro _;rfl):PS X (.For tg iter body [] pos) (Yb C g tb):=by
 exists 14;refine wpAny_For (HD (hi qp s σ H _ I h) λv s1 h1=>HD h1 λitv s2 h2=>?_) Z;obtain⟨it,fp,G,J,H2,e,I2,T,L,f2,W,⟨m0,w0⟩,turn⟩:=h2;subst e;have a:∀{H':Hp},(∀b∈fp,H' b=none)->∀b∈fp,Kq X qp H' b:=λhn b q=>⟨hn b q,(f2 b q).2⟩;refine codeAny_forLoop_any (λn s'=>∃i σ' H',Inv X qp σ' H' s'/\G i s'.heap/\(∀b∈fp,H' b=none)/\W i n σ' H') ?_ m0 ⟨0,σ,H2,I2,L,λb q=>(f2 b q).1,w0⟩;rintro n s3 ⟨i,σ3,K,S,p,y,w3⟩;rcases turn i n σ3 K w3 with⟨stop,qn⟩|⟨go,N,hN,step⟩
 ·refine B7 z (HD (T.done X rfl rfl rfl F i qp s3 σ3 K X.xe S (a y) p stop) ?_);rintro r s4 ⟨M,I4⟩;subst M;exact Do ⟨σ3,K,I4,qn⟩
 ·refine B7 z (HD (T.item X rfl rfl rfl F i qp s3 σ3 K X.xe S (a y) p go) ?_);rintro r s4 ⟨u,M,h4⟩;subst M;refine B7 z (HD h4 ?_);rintro _ s5 ⟨x,U,I5,r5,y5,l,P⟩;have Q:=I5.pinned (a P) (T.obj _ _ l);refine B7 z (HD (Y _ s5 σ3 U x u _ Q r5 (step x U y5)) ?_);rintro _ s6 ⟨σ6,H6,I6,q6⟩;refine B7 z (HD (q _ s6 σ6 H6 _ I6 q6) λf B j=>?_);have again:∀{σ7:St}{c:Hp},Inv X (qp++Rc fp s5.heap) σ7 c B->N σ7 c->∃m,m<n/\∃i σ' H',Inv X qp σ' H' B/\G i B.heap/\(∀b∈fp,H' b=none)/\W i m σ' H':=λ{σ7 c} I7 E=>by
   obtain⟨m',hm,w7⟩:=hN σ7 c E;refine⟨m',hm,i+1,σ7,c,I7.unpinned,T.keep _ _ _ l λb q o e=>(I7.pin (b,o) (AH _ (AH _ (UG q e)))).1,λb q=>?_,w7⟩;obtain⟨o,e,d⟩:=T.obj _ _ l b q;exact(I7.pin (b,o) (AH _ (AH _ (UG q e)))).2.1
  cases f with
  |next=>obtain⟨σ7,c,I7,E⟩:=j;exact again I7 E
  |cont=>obtain⟨σ7,c,I7,E⟩:=j;exact again I7 E
  |brk=>obtain⟨σ7,c,I7,j⟩:=j;exact⟨σ7,c,I7.unpinned,j⟩
  |ret v=>obtain⟨x7,σ7,c,I7,r7,j⟩:=j;exact⟨x7,σ7,c,I7.unpinned,r7,j⟩
noncomputable abbrev R2:=V->V->Hp->VK->Prop
def J6(X:Cx)(f:IR->IR->Sem IR)(r:R2):Prop:=
 ∀(qp:List (Addr×Obj)) (s:Shared) (σ:St) (H:Hp) (x y:V) (v u:IR) (Q:VK),Inv X qp σ H s->RelV x v->RelV y u->r x y H Q ->
  wpAny (!4) X.A (f v u) (EP X qp σ Q) X.xe s
def YS(X:Cx)(f:IR->Sem IR)(r:V->Hp->VK->Prop):Prop:=
 ∀(qp:List (Addr×Obj)) (s:Shared) (σ:St) (H:Hp) (x:V) (v:IR) (Q:VK),Inv X qp σ H s->RelV x v->r x H Q ->
  wpAny (!4) X.A (f v) (EP X qp σ Q) X.xe s
def MM(X:Cx)(f:IR)(r:List V->Hp->VK->Prop):Prop:=
 ∀(qp:List (Addr×Obj)) (s:Shared) (σ:St) (H:Hp) (xs:List V) (us:List IR) (Q:VK),Inv X qp σ H s->Vals xs us->r xs H Q ->
  wpAny (!4) X.A (call f us) (EP X qp σ Q) X.xe s
def YT(X:Cx)(r:V->Hp->(Bool->Hp->Prop)->Prop):Prop:=
 ∀(qp:List (Addr×Obj)) (s:Shared) (σ:St) (H:Hp) (x:V) (v:IR) (Q:Bool->Hp->Prop),Inv X qp σ H s->RelV x v->r x H Q ->
  wpAny (!4) X.A (truthy v) (TP X qp σ Q) X.xe s
def R9(r:R2)(ta tb:TE):TE:=λσ H Q=>ta σ H λx H1=>tb σ H1 λy a=>r x y a Q
def tUn(r:V->Hp->VK->Prop)(ta:TE):TE:=λσ H Q=>ta σ H λx H1=>r x H1 Q
def rI(C:Int->Int->Prop)(g:Int->Int->V):R2:=λx y H Q=>∃i j,x=.int i/\y=.int j/\C i j/\Q (g i j) H
def NL(g:Int->Int->V):R2:=λx y H Q=>∃i j,x=.int i/\y=.int j/\Q (g i j) H
def rU(g:Int->V):V->Hp->VK->Prop:=λx H Q=>∃i,x=.int i/\Q (g i) H
variable {f:IR->IR->Sem IR}{r:R2}
section
variable {a b:Pv}{tc:TE}
def PD(m:PE X a ta)(q:PE X b tb){R:V->V->Hp->Prop}(I:Inv X qp σ H s)(h:ta σ H λx H1=>tb σ H1 λy d=>R x y d)  
  (hf:∀v u s2 x y d,Inv X qp σ d s2->RelV x v->RelV y u->R x y d->wpAny (!4) X.A (f v u) Q X.xe s2):
  wpAny (!4) X.A (Wp a X.env) (λv s₁=>wpAny (!4) X.A (Wp b X.env) (λu s₂=>wpAny (!4) X.A (f v u) Q X.xe s₂) X.xe s₁) X.xe s:=by
 refine HD (m qp s σ H _ I h) ?_;rintro v s1 ⟨x,H1,c,e,g⟩;refine HD (q qp s1 σ H1 _ c g) ?_;rintro u s2 ⟨y,d,i,j,l⟩;exact hf v u s2 x y d i e j l
def kD{op:Operator}(d:J6 X (binaryOp op) r)(m:PE X a ta)(z:PE X b tb):PE X (.BinOp a op b pos) (R9 r ta tb):=by intro qp s σ H Q I h;exact wpAny_BinOp<|PD m z I h λv u s2 x y c e f g q=>d qp s2 σ c x y v u Q e f g q
def kE{op:UnaryOp}{r:V->Hp->VK->Prop}(d:YS X (unaryOp op) r)(m:PE X a ta):PE X (.UnaryOp op a pos) (tUn r ta):=by intro qp s σ H Q I h;exact UnaryOp_<|HD (m qp s σ H _ I h) λv s1 ⟨x,H1,b,c,e⟩=>d qp s1 σ H1 x v Q b c e
def Sk{C:Int->Int->Prop}{g:Int->Int->Int}(rule:∀(i j:Int) (t u:Tok) (s:Shared) (Q:Qqa) (E:Qqa),C i j->Q (.int (g i j) s.toks) {s with toks:=s.toks+1}->wpAny (!4) X.A (f (.int i t)<|.int j u) Q E s):
  J6 X f (rI C λi j=>.int (g i j)):=by
 intro qp s σ H x y v u Q I a b h;obtain⟨i,j,rfl,rfl,c,q⟩:=h;obtain⟨t,rfl⟩:=a;obtain⟨t',rfl⟩:=b;exact rule i j t t' s _ _ c ⟨.int<|g i j,H,I.tok _,⟨_,rfl⟩,q⟩
def Sj{g:Int->Int->Int}(rule:∀(i j:Int) (t u:Tok) (s:Shared) (Q:Qqa) (E:Qqa),Q (.int (g i j) s.toks) {s with toks:=s.toks+1}->wpAny (!4) X.A (f (.int i t)<|.int j u) Q E s):
  J6 X f (NL λi j=>.int (g i j)):=by
 intro qp s σ H x y v u Q I a b h;obtain⟨i,j,rfl,rfl,q⟩:=h;obtain⟨t,rfl⟩:=a;obtain⟨t',rfl⟩:=b;exact rule i j t t' s _ _ ⟨.int<|g i j,H,I.tok _,⟨_,rfl⟩,q⟩
def NO{g:Int->Int->Bool}(rule:∀(i j:Int) (t u:Tok) (s:Shared) (Q:Qqa) (E:Qqa),Q (.bool<|g i j) s->wpAny (!4) X.A (f (.int i t)<|.int j u) Q E s):
  J6 X f (NL λi j=>.bl (g i j)):=by
 intro qp s σ H x y v u Q I a b h;obtain⟨i,j,rfl,rfl,q⟩:=h;obtain⟨t,rfl⟩:=a;obtain⟨t',rfl⟩:=b;exact rule i j t t' s _ _ ⟨.bl<|g i j,H,I,rfl,q⟩
def PM(i j:Int):Prop:=(-(2^64)<i/\i<2^64)\/(-(2^64)<j/\j<2^64)
def PM.ok{i j:Int}(h:PM i j):IntMulOk i j:=by
 rcases h with⟨a,b⟩|⟨a,b⟩
 ·exact .of_left<|intBits_le_64 a b
 exact .of_right<|intBits_le_64 a b
def lR:J6 X (binaryOp .Add) (NL λi j=>.int (i+j)):=Sj λ_ _ _ _ _ _ _ q=>add_int q
def lW:J6 X (binaryOp .Sub) (NL λi j=>.int (i-j)):=Sj λ_ _ _ _ _ _ _ q=>sub_int q
def lV:J6 X (binaryOp .Mult) (rI PM λi j=>.int (i*j)):=Sk λ_ _ _ _ _ _ _ a q=>mul_int q a.ok
def lU:J6 X (binaryOp .Mod) (rI (λ_ j=>0<j) λi j=>.int (i % j)):=Sk λi j _ _ _ _ _ a q=>by have b:(0:Int)<j:=a;exact mod_int' (!0) (by rw[Int.fmod_eq_emod_of_nonneg i (!0)];exact q)
def unI{f:IR->Sem IR}{g:Int->Int}(rule:∀(i:Int) (t:Tok) (s:Shared) (Q:Qqa) (E:Qqa),Q (.int (g i) s.toks) {s with toks:=s.toks+1}->wpAny (!4) X.A (f<|.int i t) Q E s):
  YS X f (rU λi=>.int (g i)):=by
 intro qp s σ H x v Q I a h;obtain⟨i,rfl,q⟩:=h;obtain⟨t,rfl⟩:=a;exact rule i t s _ _ ⟨.int<|g i,H,I.tok _,⟨_,rfl⟩,q⟩
def oO:YS X (unaryOp .USub) (rU λi=>.int (-i)):=unI λ_ _ _ _ _ q=>neg_int q
end
variable {op':CmpOp}{r':R2}
section
variable {a b:Pv}{tc:TE}
def VC{Q:VK}{k d:Bool}(I:Inv X qp σ H s)(q:Q (.bl k) H)(e:k=d):EP X qp σ Q (.bool d) s:=by subst e;exact⟨.bl k,H,I,rfl,q⟩
def lJ:J6 X (SL .Lt) (NL λi j=>.bl (decide (i<j))):=NO λ_ _ _ _ _ _ _ q=>Gg q
def lI:J6 X (SL .LtE) (NL λi j=>.bl (decide (i<=j))):=NO λ_ _ _ _ _ _ _ q=>le_int q
def lH:J6 X (SL .Gt) (NL λi j=>.bl (decide (j<i))):=NO λ_ _ _ _ _ _ _ q=>gt_int q
def lG:J6 X (SL .GtE) (NL λi j=>.bl (decide (j<=i))):=NO λ_ _ _ _ _ _ _ q=>ge_int q
def zmK:J6 X (SL .In) (λx y H Q=>∃i j,x=.str i/\y=.str j/\Q (.bl<|!(Builtin.Str.occurrences j i 0 j.length 1).isEmpty) H):=by intro qp s σ H x y v u Q I a b h;obtain⟨i,j,rfl,rfl,q⟩:=h;obtain⟨t,rfl⟩:=a;obtain⟨t',rfl⟩:=b;exact in_str<|VC I q rfl
def tF:J6 X (SL .IsNot) (λx y H Q=>y=.non/\Q (.bl<|!decide (x=.non)) H):=by
 intro qp s σ H x y v u Q I a b h;obtain⟨rfl,q⟩:=h;cases b;refine isnot_none_gen<|VC I q ?_
 cases x<;>first
  |(cases a;rfl)
  |(obtain⟨t,rfl⟩:=a;rfl)
def zh0:J6 X (SL .NotIn) (λx y H Q=>∃i j,x=.str i/\y=.str j/\Q (.bl<|!(!(Builtin.Str.occurrences j i 0 j.length 1).isEmpty)) H):=by intro qp s σ H x y v u Q I a b h;obtain⟨i,j,rfl,rfl,q⟩:=h;obtain⟨t,rfl⟩:=a;obtain⟨t',rfl⟩:=b;exact notIn_str<|VC I q rfl
def tL(d:J6 X (SL op) r)(m:PE X a ta)(z:PE X b tb)(hm:behindInMarks op b=false):PE X (.Compare a [op] [b] pos) (R9 r ta tb):=by intro qp s σ H Q I h;exact wpAny_Compare1 (PD m z I h λv u s2 x y c e f g q=>d qp s2 σ c x y v u Q e f g q) hm
def Zq(t:TE):TT:=λσ H Q=>t σ H λx H'=>∃k,x=.bl k/\Q k H'
def sE(d:J6 X (SL op) r)(m:PE X a ta)(q:PE X b tb)(hm:behindInMarks op b=false):PT X (.Compare a [op] [b] pos) (Zq<|R9 r ta tb):=by
 exists 6;refine EL (HD (m qp s σ H _ I h) λv s1 ⟨x,H1,f,g,i⟩=>HD (q qp s1 σ H1 _ f i) λu s2 ⟨y,j,l,n,o⟩=>
  HD (d qp s2 σ j x y v u _ l g n o) λc s3 ⟨z,p,w,A,k,e,E⟩=>?_) hm
 subst e;cases A;exact Bp ⟨p,w,E⟩
def VJ(r r':R2)(ta tb tc:TE):TE:=λσ H Q=>ta σ H λx H1=>tb σ H1 λy b=>r x y b λz a=>∃k,z=.bl k /\
 (if k=true then tc σ a λc e=>r' y c e Q else Q (.bl false) a)
def vY(q:J6 X (SL op) r)(m:J6 X (SL op') r')(B:PE X a ta)(C:PE X b tb)(F:PE X c tc)(hm:lastMarks [op,op'] [b,c]=false:=by with_unfolding_all rfl):PE X (.Compare a [op,op'] [b,c] pos) (VJ r r' ta tb tc):=by
 exists 6;refine Compare_chain (HD (B qp s σ H _ I h) λv s1 ⟨x,H1,l,n,o⟩=>chain_link (HD (C qp s1 σ H1 _ l o) λu s2 ⟨y,p,w,f,A⟩=>
  HD (q qp s2 σ p x y v u _ w n f A) λd s3 ⟨z,g,i,E,k,e,j⟩=>?_)) hm
 subst e;cases E;refine Bp ?_;cases k with
 |false=>exact ite_ff ⟨.bl false,g,i,rfl,j⟩
 |true=>exact ite_tt<|chain_last<|HD (F qp s3 σ g _ i j) λK s4 ⟨L,M,N,P,G⟩=>m qp s4 σ M y L u K Q N f P G
def xJ(q:J6 X (SL op) r)(m:J6 X (SL op') r')(B:PE X a ta)(C:PE X b tb)(F:PE X c tc)(hm:lastMarks [op,op'] [b,c]=false:=by with_unfolding_all rfl):PT X (.Compare a [op,op'] [b,c] pos) (Zq<|VJ r r' ta tb tc):=by
 exists 6;refine isTrue_chain (HD (B qp s σ H _ I h) λv s1 ⟨x,H1,l,n,o⟩=>test_link (HD (C qp s1 σ H1 _ l o) λu s2 ⟨y,p,w,f,A⟩=>
  HD (q qp s2 σ p x y v u _ w n f A) λd s3 ⟨z,g,i,E,k,e,j⟩=>?_)) hm
 subst e;cases E;refine Bp ?_;cases k with
 |false=>
  obtain⟨k',K,L⟩:=j;cases K;exact ite_ff ⟨g,i,L⟩
 |true=>
  refine ite_tt<|test_last<|HD (F qp s3 σ g _ i j) λM s4 ⟨N,P,G,J,S⟩=>HD (m qp s4 σ P y N u M _ G f J S) ?_;rintro d' s5 ⟨z2,T,U,W,k2,Y,Z⟩;subst Y;cases W;exact Bp ⟨T,U,Z⟩
def Sx(K:Ab)(x:V)(H:Hp)(k:Bool):Prop:=
 match x with
 |.non=>k=false
 |.bl b=>k=b
 |.int i=>k=(i != 0)
 |.str y=>y.length<=sizeLine/\k=((y.length:Int) != 0)
 |.byt y=>y.size<=sizeLine/\k=((y.size:Int) != 0)
 |.ref p=>(∃xs,JT K H p xs/\k=!xs.isEmpty)\/(∃xs,IK K H p xs/\k=!xs.isEmpty)\/∃a,H p=some (.dK a)/\k=!a.isEmpty
 |_=>False
def zle{kvs:List (κ×V)}{vs:List (κ×IR)}(r:KV kvs vs):(!vs.isEmpty)=!kvs.isEmpty:=by cases r<;>rfl
def fB{xs:List V}{its:List IR}(r:Vals xs its):(!its.toArray.isEmpty)=!xs.isEmpty:=by cases r<;>simp
def O6:(sizeLine:Nat)<2^63:=by rw[Ct];decide
def oM:YT X (λx H Q=>∃k,Sx X.K x H k/\Q k H):=by
 intro qp s σ H x v Q I f h;obtain⟨k,e,q⟩:=h;have A:=O6;have E:sizeLine=16777216:=Ct;cases x with
 |non=>
  cases f;have a:k=false:=e;subst a;exact truthy_none ⟨H,I,q⟩
 |bl b=>
  cases f;have a:k=b:=e;subst a;exact Bp ⟨H,I,q⟩
 |int i=>
  obtain⟨t,rfl⟩:=f;have a:k=(i != 0):=e;subst a;exact PySem.P.truthy_int ⟨H,I,q⟩
 |str y=>
  obtain⟨t,rfl⟩:=f;obtain⟨o,a⟩:y.length<=sizeLine/\k=((y.length:Int) != 0):=e;subst a;exact Fu (!0) ⟨H,I.tok _,q⟩
 |byt y=>
  obtain⟨t,rfl⟩:=f;obtain⟨o,a⟩:y.size<=sizeLine/\k=((y.size:Int) != 0):=e;subst a;exact PySem.W.truthy_bytes (!0) ⟨H,I.tok _,q⟩
 |ref p=>
  cases f;have a:(∃xs,JT X.K H p xs/\k=!xs.isEmpty)\/(∃xs,IK X.K H p xs/\k=!xs.isEmpty)\/∃c,H p=some (.dK c)/\k=!c.isEmpty:=e;rcases a with⟨xs,g,a⟩|⟨xs,g,a⟩|⟨c,g,a⟩
  ·subst a;obtain⟨l,r,pl,n⟩:=I.list g;have hlen:=r.length;exact wpAny_truthy_list pl.isList (by simp only[Az];omega) ⟨H,I.tok _,by rw[fB r];exact q⟩
  ·subst a;obtain⟨l,r,pl,n⟩:=I.tuple g;have hlen:=r.length;exact truthy_tuple pl (by simp only[Az];omega) ⟨H,I.tok _,by rw[fB r];exact q⟩
  subst a;obtain⟨n,u,j,r,m⟩:c.length<=sizeLine/\(p==sysModules)=false/\∃j,KV c j/\s.heap.DictOf (Jm X.prog X.w) p j:=I.hok p _ g;have hlen:c.length=j.length:=Bg r;exact wpAny_truthy_dict u m (!0) ⟨H,I.tok _,by rw[zle r];exact q⟩
 |_=>exact(show False from e).elim
def cM(d:PE X a ta)(he:∀whole,isTrue a X.env whole=(do let v <-whole;standAt a.pos;holding [v] (truthy v))):
  PT X a (λσ H Q=>ta σ H λx H'=>∃k,Sx X.K x H' k/\Q k H'):=by
 exists 6;exact isTrue_plain (HD (d qp s σ H _ I h) λv s1 ⟨x,H1,b,c,e⟩=>oM qp s1 σ H1 x v Q b c e)<|he _
def zkL:J6 X (binaryOp .Add) (λx y H Q=>∃i j,x=.str i/\y=.str j/\i.length+j.length<=sizeLine/\Q (.str<|i++j) H):=by intro qp s σ H x y v u Q I a b h;obtain⟨i,j,rfl,rfl,c,q⟩:=h;obtain⟨t,rfl⟩:=a;obtain⟨t',rfl⟩:=b;exact add_str (λt' tk=>⟨.str<|i++j,H,I.tok _,⟨_,rfl⟩,q⟩) c
def vals1{x:V}(r:Vals [x] us):∃u,us=[u]/\RelV x u:=by
 cases r with
 |cons a b=>cases b;exact⟨_,rfl,a⟩
def vals2{x:V}(r:Vals [x,y] us):∃u d,us=[u,d]/\RelV x u/\RelV y d:=by
 cases r with
 |cons a b=>
  cases b with
  |cons c e=>cases e;exact⟨_,_,rfl,a,c⟩
def yX(d:X.calm=true):MM X (.builtin "min") (λxs H Q=>∃i j,xs=[.int i,.int j]/\Q (.int<|if j<i then j else i) H):=by
 intro qp s σ H xs us Q I r h;obtain⟨i,j,rfl,q⟩:=h;obtain⟨u,a,rfl,⟨t,rfl⟩,⟨t',rfl⟩⟩:=vals2 r;refine min_two_ints (I.ok.hd d) λh' tk k=>⟨_,H,I.kept k,?_,q⟩;by_cases hj:j<i
 ·rw[if_pos hj,if_pos hj];exact⟨_,rfl⟩
 rw[if_neg hj,if_neg hj];exact⟨_,rfl⟩
def eO:MM X (.type "int") (λxs H Q=>(∃i,xs=[.int i]/\Q (.int i) H)\/∃k,xs=[.bl k]/\Q (.int<|if k then 1 else 0) H):=by
 intro qp s σ H xs us Q I r h;rcases h with⟨i,rfl,q⟩|⟨k,rfl,q⟩
 ·obtain⟨u,rfl,t,rfl⟩:=vals1 r;exact call_int_int ⟨.int i,H,I,⟨_,rfl⟩,q⟩
 obtain⟨u,rfl,a⟩:=vals1 r;cases a;exact call_int_bool ⟨.int<|if k then 1 else 0,H,I.tok _,⟨_,rfl⟩,q⟩
end
structure Ly(h:P3)(x dx C:Addr)(mA:Str->Option IR):Prop where
 obj:h.get? x=some (BQ C dx)
 ns:h.Ns1 dx mA
 ne:dx≠x
variable {dx:Addr}{mA:Str->Option IR}
def zm0(n:h.Ns1 dx mA):∃d,h.get? dx=some d/\∀name,DG name d=some (mA name):=by
 obtain⟨o,es,i,c,hd,hk,_,hm⟩:=n;refine⟨o,c,λname=>?_⟩;have e:=hm name;unfold nsFind findBy at e;rw[<-Array.find?_toList]at e;unfold DG;rw[hd];dsimp only;split
 ·rename_i y q;rw[q]at e;exact congrArg some e
 ·rename_i q;rw[q]at e;have a:es.toList.any (·.refKey)=false:=by
   rw[FN];intro y f;obtain⟨z,t,b⟩:=hk y<|Array.mem_toList_iff.mp f;simp[DictEntry.refKey,b]
  have g:¬es.toList.any (·.refKey)=true:=by rw[a];exact AW
  rw[if_neg g];exact congrArg some e
variable {C:Addr}
def Ly.look{x:Addr}(I:Ly h x dx C mA):∃d,PySem.W.InstAt h x (BQ C dx) C (some d)/\∀name,DG name d=some (mA name):=
 let ⟨d,ho,hl⟩:=zm0 I.ns
 ⟨d,⟨I.obj,rfl,rfl,ho⟩,hl⟩
variable {pl:Sem Bool}{prog:SZ}{name:Str}{kw:List (Str×IR)}
section
variable {x f:Addr}{v:IR}
def get_map{expr:Bool}(X:K.In s.heap)(I:Ly s.heap x dx C mA)(m:CI K C name=true)(q:Da K C=true)(z:Bq K (.ref C) name=some none) (B:mA name=some v) (d:F9 v=true) (h:Q v {s with toks:=s.toks+1}):
  wpAny (!5) A (getAttr (.ref x) name expr) Q E s:=by
 obtain⟨b,J,a⟩:=I.look;exact PySem.W.get_value X J (DB m).1 (PySem.W.findObj_own q z rfl<|by rw[a,B]) d h
def wF{Q:IR×List IR->Shared->Prop}(X:K.In s.heap)(I:Ly s.heap x dx C mA)(d:CI K C name=true)(hf:Bq K (.ref C) name=some (some<|.ref f)) (m:Dp K (.ref f)=true) (q:mA name=none) (h:Q (.ref f,[.ref x]) s):
  wpAny (!5) A (getMethod (.ref x) name pl) Q E s:=by
 obtain⟨a,J,b⟩:=I.look;exact PySem.W.method_fn X J (DB d).1 (DB d).2 hf (beq_iff_eq.mp m) (by show(DG name a).map (·.isSome)=some false;rw[b,q];rfl) h
def vI{ns:List Str}{Q:Unit->Shared->Prop}(X:K.In s.heap)(I:Ly s.heap x dx C mA)(d:Bq K (.ref C) "__setattr__"=some (some<|.builtin "object.__setattr__")) (m:DY K C=true) (q:Ek K C name=some none) (z:Da K C=true)(hw:Ft mA ns) (hsz:ns.length<=sizeLine)(h:∀h',Ly h' x dx C (λy=>if y=name then some v else mA y)->BC dx s.heap h'->Q () {s with heap:=h',toks:=s.toks+2}):
  wpAny (!5) A (setAttr (.ref x) name v) Q E s:=by
 obtain⟨u,J,H⟩:=I.look;refine PySem.W.set_plain X J d<|PySem.W.osa_open (s:={s with toks:=s.toks+1}) (r:=none) X J m q λb=>?_;obtain⟨cd,l,f⟩:=PySem.W.any_some z;have n:s.heap.get? x=some ⟨.ref C,some dx,.plain,#[]⟩:=I.obj;refine Aa<|Ae<|Aa<|Aa<|wpAny_loadPart n<|Aa<|PySem.W.Looks.here (s:={s with toks:=s.toks+1}) (PySem.W.looks_clsIn X l) ?_;rw[f];refine Ae (a:=some dx)<|Aa<|Ae<|Aa ?_;refine wpAny_nsSet1 (s:={s with toks:=s.toks+1}) I.ns λh' c e=>?_;obtain⟨L,o,p,g,i,j⟩:=c.count<|PySem.Within.cons name v hw;refine Aa<|wpAny_lookBehind g (by rw[i];exact pastItsLine_dict (AB j (by rw[Ay];omega))) ?_;exact Ae<|h _ ⟨(e.2 _<|BF I.ne).trans I.obj,c,I.ne⟩ e
def vJ{R:Result->Shared->Prop}{vs:List IR}(X:K.In s.heap)(hm:Dq K C=true)(hi:Bq K (.ref C) "__init__"=some (some<|.ref f)) (hf:PySem.W.typeIn K (.ref f)=some (.type "function"))(h:codeAny (!5) (A.under<|.builtin "type.__call__" ⟨.ref C::vs,kw⟩) (.call (.ref f) ⟨.ref (s.heap.objs.size+1)::vs,kw⟩) (PySem.W.InitBack (s.heap.objs.size+1) R)
   {s with heap:=(s.heap.push Bz).push (BQ C s.heap.objs.size)}):
  codeAny (!5) A (.call (.ref C) ⟨vs,kw⟩) R s:=by
 obtain⟨a,g,d,t,os⟩:=s;exact PySem.W.make_core (PySem.W.makes_of X hm) (PySem.W.looks_findIn X hi) (λself=>PySem.W.bind_fn X self hf) (.inl rfl) h
end
def IP(f:Str)(v:V):List (Str×V)->List (Str×V)
 |[]=>[(f,v)]
 |(g,x)::r=>if g=f then(g,v)::r else(g,x)::IP f v r
theorem fT(f g:Str)(v:V):∀fs:List (Str×V),(IP f v fs).lookup g=if g=f then some v else fs.lookup g
 |[]=>by
  show Cu g [(f,v)]=_;by_cases h:g=f
  ·have d:(g==f)=true:=beq_iff_eq.mpr h;simp only[Cu,d,if_pos h]
  have d:(g==f)=false:=beq_eq_false_iff_ne.mpr h;simp only[Cu,d,if_neg h]
 |(k,x)::r=>by
  have a:=fT f g v r;exists 8
  by_cases hk:k=f
  ·rw[if_pos hk]
   by_cases h:g=k
   ·have d:(g==k)=true:=beq_iff_eq.mpr h;simp only[Cu,d,if_pos (h.trans hk)]
   have d:(g==k)=false:=beq_eq_false_iff_ne.mpr h;simp only[Cu,d,if_neg (λe:g=f=>h (e.trans hk.symm))]
  ·rw[if_neg hk]
   by_cases h:g=k
   ·have d:(g==k)=true:=beq_iff_eq.mpr h;simp only[Cu,d,if_neg (λe:g=f=>hk (h.symm.trans e))]
   have d:(g==k)=false:=beq_eq_false_iff_ne.mpr h;simp only[Cu,d];exact a
theorem WT(f:Str)(v:V):∀fs:List (Str×V),f∈(IP f v fs).map (·.1)/\∀g,g∈fs.map (·.1)->g∈(IP f v fs).map (·.1)
 |[]=>⟨by simp[IP],λg h=>by simp at h⟩
 |(k,x)::r=>by
  obtain⟨d,i2⟩:=WT f v r;exists 8
  by_cases hk:k=f
  ·rw[if_pos hk];subst hk;exact⟨by simp,λg h=>by simpa using h⟩
  ·rw[if_neg hk];refine⟨?_,λg h=>?_⟩
   ·rw[An];exact Al _ d
   ·rw[An]at h ⊢
    rcases Os.mp h with e|e
    ·exact Os.mpr<|.inl e
    exact Al _<|i2 g e
theorem fR(f:Str)(v:V):∀fs:List (Str×V),(IP f v fs).length<=fs.length+1
 |[]=>by simp[IP]
 |(k,x)::r=>by
  have d:=fR f v r;exists 8
  by_cases hk:k=f
  ·rw[if_pos hk,Ay,Ay];omega
  rw[if_neg hk,Ay,Ay];omega
def Jn.some_of{o:Option IR}(r:Jn (some v) o):∃u,o=some u/\RelV v u:=by
 cases o with
 |none=>exact(show False from r).elim
 |some u=>exact⟨u,rfl,r⟩
def Jn.none_of{o:Option IR}(r:Jn none o):o=none:=by
 cases o with
 |none=>rfl
 |some u=>exact(show False from r).elim
def zJ(r:RelV v u):F9 u=true:=by
 cases v with
 |non=>cases (show u=Bo from r);rfl
 |bl b=>cases (show u=CH b from r);rfl
 |int i=>obtain⟨t,e⟩:=(show ∃t,u=DK i t from r);cases e;rfl
 |str x=>obtain⟨t,e⟩:=(show ∃t,u=Ej x t from r);cases e;rfl
 |byt b=>obtain⟨t,e⟩:=(show ∃t,u=GV b t from r);cases e;rfl
 |flt b=>obtain⟨t,e⟩:=(show ∃t,u=GW b t from r);cases e;rfl
 |ref a=>cases (show u=AE a from r);rfl
 |ty n=>cases (show u=Gh n from r);rfl
section
variable {fs fs':List (Str×V)}
def VV(m:JD P w H h)(e:H a=some (.ins C dx fs)):∃mA,Ly h a dx C mA/\(∀f,Jn (fs.lookup f) (mA f))/\Ft mA (fs.map (·.1))/\fs.length<=1000/\H dx=some (.own a):=by
 obtain⟨d,z,ne,ob,mA,n,r,q⟩:=(show Jy P w H h a (.ins C dx fs) from m a _ e)
 exact⟨mA,⟨ob,n,ne⟩,r,q,z,d⟩
end
structure LB(K:Ab)(C:Addr):Prop where
 pg:CI K C Fv=true
 hd:Da K C=true
 po:DY K C=true
 sa:Bq K (.ref C) "__setattr__"=some (some (.builtin "object.__setattr__"))
def LB.get(c:LB K C)(f:Str):CI K C f=true:=c.pg
def Nq(K:Ab)(C:Addr)(f:Str):Prop:=Bq K (.ref C) f=some none
def Nq.taker{f:Str}(n:Nq K C f):Ek K C f=some none:=by unfold Ek;rw[show Bq K (.ref C) f=some none from n];rfl
structure Meth(K:Ab)(C:Addr)(m:Str)(f:Addr):Prop where
 at_:Bq K (.ref C) m=some (some (.ref f))
 fn:Dp K (.ref f)=true
 kp:Bi K (.ref f)=true
variable {m:Str}{env:Env}
section
variable {fs:List (Str×V)} {f:Str}
def zln{b:Bool}(I:Inv X qp σ H s)(e:H a=some (.ins C dx fs))(c:LB X.K C)(n:Nq X.K C f)(l:fs.lookup f=some v)(h:∀u s',Inv X qp σ H s'->RelV v u->Q u s'):wpAny (!4) A (getAttr (.ref a) f b) Q E s:=by
 obtain⟨mA,O,r,_,_,_⟩:=VV I.hok e;obtain⟨u,i,g⟩:=Jn.some_of (v:=v) (o:=mA f) (by rw[<-l];exact r f);exact get_map I.kIn O (c.get f) c.hd n i (zJ g)<|h u _ (I.tok _) g
def eZ{g:Addr}{Q:IR×List IR->Shared->Prop}(I:Inv X qp σ H s)(e:H a=some (.ins C dx fs))(c:LB X.K C)(k:Meth X.K C m g)(l:fs.lookup m=none)(h:Q (.ref g,[.ref a]) s):wpAny (!4) A (getMethod (.ref a) m pl) Q E s:=by
 obtain⟨mA,O,r,_,_,_⟩:=VV I.hok e;have b:mA m=none:=Jn.none_of (by rw[<-l];exact r m);exact wF I.kIn O (c.get m) k.at_ k.fn b h
def zki{Q:Unit->Shared->Prop}(I:Inv X qp σ H s)(e:H a=some (.ins C dx fs))(c:LB X.K C)(n:Nq X.K C f)(B:fs.length<1000)(d:RelV y u)(h:∀s',Inv X qp σ (upd H a<|.ins C dx<|IP f y fs) s'->Q () s'):wpAny (!4) A (setAttr (.ref a) f u) Q E s:=by
 obtain⟨mA,O,r,wi,_,i⟩:=VV I.hok e;have j:(fs.map (·.1)).length<=sizeLine:=by rw[Af,Ct];omega
 refine vI I.kIn O c.sa c.po n.taker c.hd wi j λh' O' sb=>h _ ?_;have hd:∃o,h'.get? dx=some o:=let ⟨o,_,_,e',_⟩:=O'.ns;⟨o,e'⟩;refine I.write (x:=a) (e:=dx) (by rw[e];exact CJ) (.inr i) (λb q l z=>(sb.2 b l).trans z) hd ?_;refine⟨by rw[HV O.ne];exact i,?_,O.ne,O'.obj,_,O'.ns,λg=>?_,λg m=>?_⟩
 ·have:=fR f y fs;omega
 ·show Jn ((IP f y fs).lookup g) (if g=f then some u else mA g);rw[fT]
  by_cases q:g=f
  ·rw[if_pos q,if_pos q];exact d
  rw[if_neg q,if_neg q];exact r g
 ·by_cases q:g=f
  ·rw[q];exact(WT f y fs).1
  refine(WT f y fs).2 g<|wi g λz=>m ?_;show(if g=f then some u else mA g)=none;rw[if_neg q];exact z
def Inv.made(I:Inv X qp σ H s):Inv X qp σ (upd (upd H s.heap.objs.size<|.own<|s.heap.objs.size+1) (s.heap.objs.size+1)<|.ins C s.heap.objs.size [])
  {s with heap:=(s.heap.push Bz).push (BQ C s.heap.objs.size)}:=by
 have c:(s.heap.push Bz).get? s.heap.objs.size=some Bz:=Ao s.heap rfl;have f:((s.heap.push Bz).push<|BQ C s.heap.objs.size).get? (s.heap.objs.size+1)=some (BQ C s.heap.objs.size):=by
  have:=Ao (s.heap.push Bz) (o:=BQ C s.heap.objs.size) rfl
  rwa [Bb]at this
 have g:(s.heap.push Bz).Ns s.heap.objs.size (λ_=>none):=⟨Bz,#[],_,c,rfl,(λe he=>absurd he (!2)),λ_=>rfl⟩
 have I1:=I.laid (a:=s.heap.objs.size) (o:=.own (s.heap.objs.size+1)) (h':=s.heap.push Bz) (t':=s.toks) (λb u q=>Ad _ q) (Ag _) ⟨_,c⟩;refine I1.laid (a:=s.heap.objs.size+1) (o:=.ins C s.heap.objs.size []) (t':=s.toks) (λb u q=>Ad _ q) (D5<|Bb _ _) ?_;have ne:s.heap.objs.size≠s.heap.objs.size+1:=Aw<|Cg _;refine⟨by rw[HV ne,Lc],A9 _,ne,f,λ_=>none,(Heap.Ns1.of_empty g).at λo q=>Ad _ q,λ_=>CJ,λy h=>absurd rfl h⟩
def rN{f:Str}(d:attributeBase e f env (Wp e env)=Wp e env)(h:wpAny (!5) A (Wp e env) (λo s₁=>wpAny (!5) A (getAttr o f true) Q E s₁) E s):wpAny (!5) A (Wp (.Attribute e f pos) env) Q E s:=
 Attribute_any_ h (by rw[arm_eval_Attribute,d])
end
def Yc(K:Ab)(ta:TE)(f:Str):TE:=λσ H Q=>ta σ H λx H1=>∃a C dx fs v,x=.ref a/\H1 a=some (.ins C dx fs)/\LB K C/\Nq K C f/\fs.lookup f=some v/\Q v H1
def Yk(K:Ab)(ta d:TE)(f:Str):TS:=λD σ H=>d σ H λy H1=>ta σ H1 λx b=>∃a C dx fs,x=.ref a/\b a=some (.ins C dx fs)/\LB K C/\Nq K C f/\fs.length<1000 /\
 D.nx σ (upd b a<|.ins C dx<|IP f y fs)
variable {value:Pv}{tpos:Pos}{tv:TE}
section
variable {o:Pv}{f:Str}
def mG(he:PE X e ta)(d:attributeBase e f X.env (Wp e X.env)=Wp e X.env):PE X (.Attribute e f pos) (Yc X.K ta f):=by intro qp s σ H Q I h;refine rN d<|HD (he qp s σ H _ I h) ?_;rintro u s1 ⟨x,H1,b,g,a,C,dx,fs,v,ex,i,c,n,l,q⟩;subst ex;obtain rfl:u=AE a:=g;exact zln b i c n l λo s2 j m=>⟨v,H1,j,m,q⟩
def pZ(d:PE X o ta)(z:PE X value tv)(B:swapsWith value (some<|.Attribute o f pos') pos.line X.env=pure false):PS X (.Assign [.Attribute o f pos'] value pos) (Yk X.K ta tv f):=by intro qp s σ H D I h;refine plainObj_wpAny_Assign_Attribute (HD (z qp s σ H _ I h) λu s1 ⟨y,H1,b,e,q⟩=>HD (d qp s1 σ H1 _ b q) ?_) B;rintro g s2 ⟨x,v,i,j,a,C,dx,fs,ex,m,c,n,l,p⟩;subst ex;obtain rfl:g=AE a:=j;exact zki i m c n l e λs3 r=>⟨σ,_,r,p⟩
end
structure HP(k:Nat)(A:Around):Prop where
 hd:A.handled=none
 dp:A.depth+3*k+5<recursionLimit
 un:A.units+16*k+200<cLine
 gd:A.guards=some []
def HP.mono{k:Nat}(r:HP k A)(h:j<=k):HP j A:=⟨r.hd,by have:=r.dp;omega,by have:=r.un;omega,r.gd⟩
def HP.deeper{k:Nat}{A:Around}(r:HP (k+1) A)(env:Env):HP k (A.deeper env):=⟨r.hd,by have:=r.dp;show A.depth+1+3*k+5<_;omega,by have:=r.un;show A.units+3+16*k+200<_;omega,r.gd⟩
def zk4:(A.under<|.builtin "type.__call__" ⟨.ref C::us,kw⟩).depth=A.depth+1:=by first|rfl|simp[D6,Code.weight,Code.isCreation,GS,Code.isCaller,Code.frames,Fw,guardIds]
def zk3:(A.under<|.builtin "type.__call__" ⟨.ref C::us,kw⟩).units=A.units+1:=by first|rfl|simp[D6,Code.cUnits,Code.frames,Fw]
def zjy:(A.under<|.builtin "type.__call__" ⟨.ref C::us,kw⟩).guards=A.guards:=by
 have h:(Code.builtin "type.__call__" ⟨.ref C::us,kw⟩).guards=[]:=by first|rfl|simp[Code.guards,GS,guardIds]
 dsimp only[D6];rw[h];cases A.guards<;>rfl
def HP.make{k:Nat}(r:HP (k+1) A)(C:Addr)(us:List IR)(kw:List (Str×IR)):HP k (A.under<|.builtin "type.__call__" ⟨.ref C::us,kw⟩):=⟨r.hd,by have:=r.dp;rw[zk4];omega,by have:=r.un;rw[zk3];omega,by rw[zjy];exact r.gd⟩
def HP.depth{k:Nat}{A:Around}(r:HP k A):A.depth<recursionLimit:=by have:=r.dp;omega
def HP.units{k:Nat}{A:Around}(r:HP k A):A.units+64<cLine:=by have:=r.un;omega
def Sd:TA:=λ_ H Q=>Q [] H
def kQ(ta:TE)(d:TA):TA:=λσ H Q=>ta σ H λx H1=>d σ H1 λxs a=>Q (x::xs) a
section
variable {t:TA}
def ZV:PA X [] Sd:=λ_ _ _ _ H Q I h=>Dc ⟨[],H,I,.nil,h⟩
def We(d:PE X e te)(q:PA X es t)(z:Qqb X.env e es:=by rfl):PA X (e::es) (kQ te t):=by intro pos qp s σ H Q I h;rw[z];show wpAny _ _ (spliced ((false,Wp e X.env)::backTo pos (starEach es X.env))) _ _ s;refine Cp<|HD (d qp s σ H _ I h) ?_;rintro u s1 ⟨x,H1,a,b,c⟩;exact HD (q pos qp s1 σ H1 _ a c) λus s2 ⟨xs,f,g,i,j⟩=>⟨x::xs,f,g,.cons b i,j⟩
def XT(t:TA):TE:=λσ H Q=>t σ H λxs H1=>xs.length<=sizeLine/\∀p,H1 p=none->Q (.ref p) (upd H1 p<|.tup xs)
def X0(t:TA):TE:=λσ H Q=>t σ H λxs H1=>xs.length<=sizeLine/\∀p,H1 p=none->Q (.ref p) (upd H1 p<|.lst xs)
def pS{x1}(h:PA X es t):PE X (.Tuple es x1 pos) (XT t):=by intro qp s σ H Q I a;refine wpAny_Tuple_spliced<|HD (h pos qp s σ H _ I a) λus s1 ⟨xs,H1,I1,r,z,q⟩=>⟨by rw[<-r.length];exact z,?_⟩;have hf:H1 s1.heap.objs.size=none:=I1.hok.fresh<|Ag _;refine⟨.ref s1.heap.objs.size,upd H1 s1.heap.objs.size<|.tup xs,I1.laid (t':=s1.toks) (λb u e=>Ad _ e) (Ag _) ?_,rfl,q _ hf⟩;exact⟨z,us,r,⟨_,Ao _ rfl,rfl,rfl,_,rfl⟩⟩
def mI(h:PA X es t):PE X (.List es pos) (X0 t):=by intro qp s σ H Q I a;refine wpAny_List_spliced<|HD (h pos qp s σ H _ I a) λus s1 ⟨xs,H1,I1,r,z,q⟩=>⟨by rw[<-r.length];exact z,?_⟩;have hf:H1 s1.heap.objs.size=none:=I1.hok.fresh<|Ag _;refine⟨.ref s1.heap.objs.size,upd H1 s1.heap.objs.size<|.lst xs,I1.laid (t':=s1.toks) (λb u e=>Ad _ e) (Ag _) ?_,rfl,q _ hf⟩;exact⟨z,us,0,r,Ao _ rfl⟩
end
noncomputable abbrev Sp:=List V->Hp->VK->XK->Prop
noncomputable abbrev N8:=List Env->Hp->Shared->XK->Qqa
structure LA(P:SZ)(w:World)(K:Ab)(mg:Str->Option IR)(base:P3)(A:Around)(outer:List Env)(s:Shared)(H:Hp):Prop where
 frames:A.frames=some outer
 mod:Mod K mg base
 bs:∀b o,base.get? b=some o->s.heap.get? b=some o/\H b=none
 bsz:base.objs.size<=s.heap.objs.size
 funs:s.heap.FunFrames base outer
 frf:∀b∈L3 outer,H b=none
 hok:JD P w H s.heap
 bare:AllBare s.gens
def CE(outer:List Env)(P:SZ)(w:World)(H:Hp)(s:Shared)(Q:VK)(u:IR)(s':Shared):Prop:=∃v H',s'.os=s.os/\AllBare s'.gens/\Un (L3 outer) [] H H' s.heap s'.heap/\JD P w H' s'.heap/\RelV v u/\Q v H'
def CR(CX:N8)(outer:List Env)(P:SZ)(w:World)(H:Hp)(s:Shared)(Q:VK)(E:XK)(r:Result)(s':Shared):Prop:=
 match r with
 |.ok (.ret u)=>CE outer P w H s Q u s'
 |.ok _=>False
 |.error e=>CX outer H s E e s'
structure Jj(P:SZ)(w:World)(K:Ab)(mg:Str->Option IR)(base:P3)(CX:N8)(k:Nat)(f:Addr)(fd:FuncData)(ps:List Str)(sp:Sp):Prop where
 len:∀vs H Q E,sp vs H Q E->vs.length=ps.length
 run:∀(A:Around) (outer:List Env) (s:Shared) (H:Hp) (args:Args) (us:List IR) (vs:List V) (Q:VK) (E:XK),HP k A->LA P w K mg base A outer s H->BindsTo s fd args (ps.zip us)->Vals vs us->sp vs H Q E ->
  codeAny (KB P w) A (.call (.ref f) args) (CR CX outer P w H s Q E) s
variable {mg:Str->Option IR}{base:P3}{outer:List Env}
def LA.make(e:LA P w K mg base A outer s H)(C:Addr)(us:List IR)(kw:List (Str×IR)):
  LA P w K mg base (A.under<|.builtin "type.__call__" ⟨.ref C::us,kw⟩) outer s H:=⟨by first|exact e.frames|(simpa[D6,Code.envs,Fw,pushEnvs]using e.frames),e.mod,e.bs,e.bsz,e.funs,e.frf,e.hok,e.bare⟩
def Inv.env0(I:Inv X qp σ H s):LA X.prog X.w X.K X.mg X.base X.A X.stack s H:=⟨I.ok.frames,I.ok.mod,I.bs,AB I.ok.bsz I.sz,I.stack,I.stkFree,I.hok,I.bare⟩
def Inv.after{Q:VK}(I:Inv X qp σ H s)(h:CE X.stack X.prog X.w H s Q u s'):EP X qp σ Q u s':=by obtain⟨v,H',os,bare,un,a,r,q⟩:=h;obtain⟨e,g,d,t,c⟩:=s';obtain rfl:c=s.os:=os;exact⟨v,H',I.call (h':=e) (g':=g) (d':=d) (t':=t) (ch:=[]) un a bare λb z=>absurd z (!2),r,q⟩
def kP(sp:Sp)(d:List V)(E:XK)(t:TA):TE:=λσ H Q=>t σ H λa H1=>sp (a++d) H1 Q E
def Vr(C:Addr)(m:Str)(sp:Sp)(d:List V)(E:XK)(ta:TE)(t:TA):TE:=λσ H Q=>ta σ H λx H1=>∃a dx fs,x=.ref a/\H1 a=some (.ins C dx fs)/\fs.lookup m=none /\
 t σ H1 λb c=>sp (x::(b++d)) c Q E
def kT(C:Addr)(sp:Sp)(d:List V)(E:XK)(t:TA):TE:=λσ H Q=>t σ H λa H1=>∀x dx,H1 x=none->H1 dx=none->dx≠x ->
 sp (.ref x::(a++d)) (upd (upd H1 dx<|.own x) x<|.ins C dx []) (λv b=>v=.non/\Q (.ref x) b) E
def Binds(K:Ab)(fd:FuncData)(ps:List Str)(ds:List IR):Prop:=∀(s:Shared) (us:List IR),K.In s.heap->(us++ds).length=ps.length->BindsTo s fd ⟨us,[]⟩ (ps.zip<|us++ds)
variable {fd:FuncData}{ps:List Str}
def Binds.all(h:∀us:List IR,us.length=ps.length->bindArgs fd ⟨us,[]⟩=pure (ps.zip us)):Binds K fd ps []:=λs us _ a=>by rw[Ap]at a ⊢;exact .of_eq<|h us a
def Passes(CX:N8)(X:Cx)(E:XK):Prop:=∀(qp:List (Addr×Obj)) (σ:St) (H:Hp) (s:Shared) (e:IR) (s':Shared),Inv X qp σ H s->CX X.stack H s E e s'->X.xe e s'
variable {CX:N8}{sp:Sp}{apos:Pos}
section
variable {k:Nat}{f:Addr}{dvs:List V}{ds:List IR}{E:XK}{o:Pv}{t:TA}
def VS{Q:VK}{vs:List V}(F:Jj X.prog X.w X.K X.mg X.base CX k f fd ps sp)(d:HP k X.A)(q:Binds X.K fd ps ds)(hd:Vals dvs ds)(z:Passes CX X E)(I:Inv X qp σ H s) (r:Vals vs us) (h:sp (vs++dvs) H Q E):wpAny (!4) X.A (call (.ref f) us) (EP X qp σ Q) X.xe s:=by
 have b:Vals (vs++dvs) (us++ds):=r.append hd;have c:(us++ds).length=ps.length:=by rw[<-b.length];exact F.len _ _ _ _ h
 refine wpAny_call<|D7 (F.run X.A X.stack s H ⟨us,[]⟩ (us++ds) (vs++dvs) Q E d I.env0 (q s us I.kIn c) b h) λr s' a=>?_
 cases r with
 |error e=>exact z qp σ H s e s' I a
 |ok fl=>
  cases fl with
  |ret u=>exact I.after a
  |next=>exact False.elim a
  |brk=>exact False.elim a
  |cont=>exact False.elim a
def tK(F:Jj X.prog X.w X.K X.mg X.base CX k f fd ps sp)(B:HP k X.A)(G:Gl X x)(hm:X.mg x=some (.ref f))(hk:Bi X.K (.ref f)=true)(J:Binds X.K fd ps ds)(hd:Vals dvs ds)(S:Passes CX X E)(T:PA X (e::es) t) (d:(x==("__debug__":Str))=false:=by decide) (he:Qqb X.env e es:=by rfl) (z:Qqc pos es X.env:=by rfl):
  PE X (.Call (.Name x p) (e::es) [] pos) (kP sp dvs E t):=by
 exists 6;refine C1<|bB I G hm ?_ d;refine DM (h₀:=X.base) I.ok.mod.kin hk (HD (T pos qp s σ H _ I h) λus s1 ⟨a,H1,I1,r,q⟩=>⟨I1.kIn,?_⟩) he z;exact VS F B J hd S I1 r q
def rQ(he:PE X o ta)(c:LB X.K C)(hm:Meth X.K C m f)(F:Jj X.prog X.w X.K X.mg X.base CX k f fd ps sp)(G:HP k X.A)(J:Binds X.K fd ps ds)(hd:Vals dvs ds)(S:Passes CX X E)(T:PA X (e::es) t)(d:Qqb X.env e es:=by rfl) (z:Qqc pos es X.env:=by rfl)(U:Wp (.Call (.Attribute o m apos) (e::es) [] pos) X.env=(do
   let B <-Wp o X.env
   standAt apos.atName
   let (f,first) <-holding [B] (getMethod B m pl)
   callWith pos f first (backTo pos<|starEach (e::es) X.env) (backToKw pos<|keywordEach [] X.env)):=by rfl):
  PE X (.Call (.Attribute o m apos) (e::es) [] pos) (Vr C m sp dvs E ta t):=by
 exists 6;refine EM (pl:=pl) (HD (he qp s σ H _ I h) ?_) U;rintro u s1 ⟨x,H1,b,i,a,dx,fs,ex,j,l,q⟩;subst ex;obtain rfl:u=AE a:=i;refine eZ b j c hm l ?_;refine DM (first:=[.ref a]) (h₀:=X.base) I.ok.mod.kin hm.kp (HD (T pos qp s1 σ H1 _ b q) λus s2 ⟨g,p,I2,r,n⟩=>⟨I2.kIn,?_⟩) d z;exact VS (us:=.ref a::us) (vs:=.ref a::g) F G J hd S I2 (.cons rfl r) n
def yF(he:PE X o ta)(c:LB X.K C)(hm:Meth X.K C m f)(F:Jj X.prog X.w X.K X.mg X.base CX k f fd ps sp)(z:HP k X.A)(B:Binds X.K fd ps ds)(hd:Vals dvs ds)(G:Passes CX X E)(J:Wp (.Call (.Attribute o m apos) [] [] pos) X.env=(do
   let d <-Wp o X.env
   standAt apos.atName
   let (f,first) <-holding [d] (getMethod d m pl)
   callWith pos f first (backTo pos<|starEach [] X.env) (backToKw pos<|keywordEach [] X.env)):=by rfl):
  PE X (.Call (.Attribute o m apos) [] [] pos) (Vr C m sp dvs E ta Sd):=by
 exists 6;refine EM (pl:=pl) (HD (he qp s σ H _ I h) ?_) J;rintro u s1 ⟨x,H1,I1,b,a,dx,fs,ex,e,l,q⟩;subst ex;obtain rfl:u=AE a:=b;refine eZ I1 e c hm l ?_;exact PySem.W.callWith_K0 (first:=[.ref a]) I1.kIn hm.kp<|VS (us:=[.ref a]) (vs:=[.ref a]) F z B hd G I1 (.cons rfl .nil) q
structure Mk(K:Ab)(C f:Addr):Prop where
 makes:Dq K C=true
 init:Bq K (.ref C) "__init__"=some (some (.ref f))
 fn:Dp K (.ref f)=true
 kp:Bi K (.ref C)=true
def xQ{Q:VK}{vs:List V}(M:Mk X.K C f)(F:Jj X.prog X.w X.K X.mg X.base CX k f fd ps sp)(d:HP (k+1) X.A)(q:Binds X.K fd ps ds)(hd:Vals dvs ds)(z:Passes CX X E) (I:Inv X qp σ H s) (r:Vals vs us)(h:∀x dx,H x=none->H dx=none->dx≠x->sp (.ref x::(vs++dvs)) (upd (upd H dx<|.own x) x<|.ins C dx []) (λv B=>v=.non/\Q (.ref x) B) E):
  wpAny (!4) X.A (call (.ref C) us) (EP X qp σ Q) X.xe s:=by
 have b:=h (s.heap.objs.size+1) s.heap.objs.size (I.hok.fresh<|Cv _) (I.hok.fresh<|Ag _)<|Aw<|Cg _;have I2:=Inv.made (C:=C) I;have c:Vals (V.ref (s.heap.objs.size+1)::(vs++dvs)) (AE (s.heap.objs.size+1)::(us++ds)):=.cons rfl<|r.append hd;have g:(AE (s.heap.objs.size+1)::us++ds).length=ps.length:=by have e:=c.length;rw[F.len _ _ _ _ b]at e;exact e.symm
 refine wpAny_call (vJ (f:=f) I.kIn M.makes M.init (beq_iff_eq.mp M.fn) (D7 (F.run _ X.stack _ _ ⟨AE (s.heap.objs.size+1)::us,[]⟩ (AE (s.heap.objs.size+1)::(us++ds)) _ _ E (d.make C us [])
  (I2.env0.make C us []) (q _ (AE (s.heap.objs.size+1)::us) I2.kIn g) c b) λr s' a=>?_))
 cases r with
 |error e=>exact z qp σ _ _ e s' I2 a
 |ok fl=>
  cases fl with
  |ret u=>
   obtain⟨v,H',i,j,ev,l⟩:=I2.after a;subst ev;exact⟨j,⟨V.ref<|s.heap.objs.size+1,H',i,rfl,l⟩⟩
  |next=>exact False.elim a
  |brk=>exact False.elim a
  |cont=>exact False.elim a
def rP(M:Mk X.K C f)(F:Jj X.prog X.w X.K X.mg X.base CX k f fd ps sp)(B:HP (k+1) X.A)(G:Gl X x)(hm:X.mg x=some (.ref C))(J:Binds X.K fd ps ds)(hd:Vals dvs ds)(S:Passes CX X E)(T:PA X (e::es) t) (d:(x==("__debug__":Str))=false:=by decide) (he:Qqb X.env e es:=by rfl) (z:Qqc pos es X.env:=by rfl):
  PE X (.Call (.Name x p) (e::es) [] pos) (kT C sp dvs E t):=by
 exists 6;refine C1<|bB I G hm ?_ d;refine DM (h₀:=X.base) I.ok.mod.kin M.kp (HD (T pos qp s σ H _ I h) λus s1 ⟨a,H1,I1,r,q⟩=>⟨I1.kIn,?_⟩) he z;exact xQ M F B J hd S I1 r q
end
structure IQ(N P:List Str)(sc:Scope):Prop where
 kind:sc.kind=.function
 co:sc.isCoroutine=false
 gen:sc.isGenerator=false
 nd:N.Nodup
 pre:N.take P.length=P
 par:∀x∈P,sc.names.lookup x=some .local\/sc.names.lookup x=some .cell
 nofree:∀y∈sc.names,y.2≠.free
variable {kindOf:Str->Option NameKind}
theorem cV{kindOf:Str->Option NameKind}{x:Str}:∀{binds:List (Str×IR)} {m:Str->Option IR},(∀v,(x,v)∉binds)->bindL kindOf binds m x=m x
 |[],_,_=>rfl
 |(n,v)::r,m,h=>by
  unfold bindL;rw[cV λw hw=>h w (Al _ hw)];split
  ·have:x≠n:=by rintro rfl;exact h v Ar
   simp[this]
  rfl
theorem cT{kindOf:Str->Option NameKind}{x:Str}:∀{binds:List (Str×IR)} {m:Str->Option IR},(∀v,(x,v)∉binds)->bindC kindOf binds m x=m x
 |[],_,_=>rfl
 |(n,v)::r,m,h=>by
  unfold bindC;rw[cT λw hw=>h w (Al _ hw)];split
  ·rfl
  ·have:x≠n:=by rintro rfl;exact h v Ar
   simp[this]
theorem cU{kindOf:Str->Option NameKind}{x:Str}{v:IR}:∀{P:List Str}{vs:List IR}{i:Nat}{m:Str->Option IR},P.Nodup->P[i]?=some x->vs[i]?=some v->kindOf x=some .local ->
  bindL kindOf (P.zip vs) m x=some v
 |[],_,_,_,_,h,_,_=>by simp at h
 |_::_,[],_,_,_,_,h,_=>by simp at h
 |p::P,w::vs,0,m,z,d,q,hk=>by simp at d q;subst d;subst q;show bindL kindOf ((p,w)::P.zip vs) m p=_;unfold bindL;rw[cV λv B=>(List.nodup_cons.mp z).1 (CS B).1,if_pos hk];simp
 |p::P,w::vs,i+1,m,z,d,q,hk=>by show bindL kindOf ((p,w)::P.zip vs) m x=_;unfold bindL;exact cU (i:=i) (List.nodup_cons.mp z).2 (by simpa using d) (by simpa using q) hk
theorem cR{kindOf:Str->Option NameKind}{x:Str}{v:IR}:∀{P:List Str}{vs:List IR}{i:Nat}{m:Str->Option IR},P.Nodup->P[i]?=some x->vs[i]?=some v->kindOf x≠some .local ->
  bindC kindOf (P.zip vs) m x=some v
 |[],_,_,_,_,h,_,_=>by simp at h
 |_::_,[],_,_,_,_,h,_=>by simp at h
 |p::P,w::vs,0,m,z,d,q,hk=>by simp at d q;subst d;subst q;show bindC kindOf ((p,w)::P.zip vs) m p=_;unfold bindC;rw[cT λv B=>(List.nodup_cons.mp z).1 (CS B).1,if_neg hk];simp
 |p::P,w::vs,i+1,m,z,d,q,hk=>by show bindC kindOf ((p,w)::P.zip vs) m x=_;unfold bindC;exact cR (i:=i) (List.nodup_cons.mp z).2 (by simpa using d) (by simpa using q) hk
def start(N:List Str)(vs:List V):St:=vs.map some++BG (N.length-vs.length) none
def JR(CX:N8)(P:SZ)(w:World)(K:Ab)(mg:Str->Option IR)(base:P3)(N:List Str)(qual:Str)(scope:Scope)(f:Addr)(cd:IR)(A:Around)(outer:List Env)(s:Shared)(H:Hp)(E:XK):Cx where
 prog:=P
 w:=w
 K:=K
 mg:=mg
 base:=base
 A:=A.deeper (envOfC qual scope s.heap.objs.size f cd)
 N:=N
 s₀:=s
 H₀:=H
 env:=envOfC qual scope s.heap.objs.size f cd
 outer:=outer
 stack:=envOfC qual scope s.heap.objs.size f cd::outer
 ex:=[]
 calm:=true
 fn:=λ_=>true
 pn:=[]
 xe:=λe s'=>wpAny (KB P w) (A.deeper<|envOfC qual scope s.heap.objs.size f cd) (leaving (envOfC qual scope s.heap.objs.size f cd) e) (λ_ a=>CX outer H s E e a) (λb a=>CX outer H s E b a) s'
def bP{sc:Scope}(h:sc.names.lookup x=some .cell):∃c,(cellsFrom n sc.names []).lookup x=some c:=by have q:=EA sc.names n []<|.inl h;exact Option.isSome_iff_exists.mp q
variable {qual:Str}{scope:Scope}
def zm9{f:Addr}{cd:IR}{s1:Shared}{E:XK}{vs:List V}(S:IQ N ps scope) (hd:A.handled=none) (d:LA P w K mg base A outer s H) (B:vs.length=ps.length) (r:Vals vs us)(x:InCallC s s.heap.objs.size (bindL (envOfC qual scope s.heap.objs.size f cd).kindOf (ps.zip us) λ_=>none) (cellsFrom (s.heap.objs.size+1) scope.names []) (bindC (envOfC qual scope s.heap.objs.size f cd).kindOf (ps.zip us) λ_=>none) s1):
  Inv (JR CX P w K mg base N qual scope f cd A outer s H E) [] (start N vs) H s1:=by
 have M:ps.length<=N.length:=by have:=congrArg F5 S.pre;rw[Bn]at this;omega
 obtain⟨o,tk,rfl,hk⟩:=x.done;have j:∀b:Addr,b∉(JR CX P w K mg base N qual scope f cd A outer s H E).ex:=λb z=>absurd (show b∈([]:List Addr) from z) (!2);refine⟨⟨d.mod,S.kind,rfl,rfl,Ag _,λy z c o g=>?_,λy hy=>?_,λy c _ h=>?_,λ_=>hd,Around.frames_deeper d.frames,.inr ⟨rfl,rfl⟩,λb z=>absurd z (j b),d.bs,d.bsz,λb _ _=>j b,λb z=>absurd z (j b),d.funs,d.frf⟩,
  rfl,d.bare,Un.kept hk,⟨_,x.toInCall.ns,λi y v o g F=>?_⟩,λy c h=>⟨_,x.cell y c h⟩,d.hok.fresh (Ag _),λy c h=>?_,λp l=>absurd (show p∈([]:List (Addr×Obj)) from l) (!2),d.hok.kept hk,?_⟩
 ·exact name_of_addr x.apart (AX o)<|AX g
 ·have hy:scope.names.lookup y=some .cell\/scope.names.lookup y=some .free:=hy
  rcases hy with hy|hy
  ·exact bP hy
  exact absurd rfl<|S.nofree _<|AX hy
 ·exact CC<|x.above y c<|AX h
 ·have C:i<vs.length:=by
   unfold start at g;by_cases C:i<vs.length
   ·exact C
   ·rw[A0 (by simpa using C)]at g;rw[Cm]at g
    split at g<;>cases g
  have Q:vs[i]?=some v:=by
   unfold start at g;rw[Am (by simpa using C),Ax]at g
   cases e:vs[i]? with
   |none=>rw[e]at g;cases g
   |some a=>rw[e]at g;cases g;rfl
  obtain⟨u,L,X⟩:=r.get Q;have l:ps[i]?=some y:=by rw[<-S.pre,List.getElem?_take_of_lt (!0)];exact o
  have m:ps.Nodup:=by rw[<-S.pre];exact S.nd.sublist<|FO _ _
  refine⟨u,X,?_⟩;rcases S.par y (AG l)with k|k
  ·exact .inl ⟨k,cU m l L k⟩
  obtain⟨c,e⟩:=bP (n:=s.heap.objs.size+1) k;refine .inr ⟨.inl k,c,e,?_⟩;have q:=x.cell y c e;rw[cR m l L (by show scope.names.lookup y≠_;rw[k];decide)]at q;exact q
 ·exact d.hok.fresh<|CC<|x.above y c<|AX h
 unfold start;show _=N.length;rw[AD,Af,BJ];omega
def jG{k:Nat}{f:Addr}{name qual:Str}{params:Arguments}{body:List W1}{scope:Scope}{G kV doc pm d T U:IR}{an Y:Option Addr}{B:Array (Option IR)}   (Z:K.lookup f=some ⟨U,Y,.func<|Bw name qual params body scope G kV doc pm an d T,B⟩) (F:Cd K d qual=true) (S:IQ N ps scope)(len:∀vs H Q E,sp vs H Q E->vs.length=ps.length)(z:∀(A:Around) (outer:List Env) (s:Shared) (H:Hp) (vs:List V) (Q:VK) (E:XK),HP k (A.deeper<|envOfC qual scope s.heap.objs.size f d)->sp vs H Q E ->
   ∃t,KN (JR CX P w K mg base N qual scope f d A outer s H E) body t/\t {nx:=λ_ H'=>Q .non H',rt:=Q} (start N vs) H):
  Jj P w K mg base CX (k+1) f (Bw name qual params body scope G kV doc pm an d T) ps sp:=by
 refine⟨len,λA outer s H args us vs Q E i g hb r h=>?_⟩;have m:=len _ _ _ _ h;have l:K.In s.heap:=g.mod.kin.keeps λb o e=>(g.bs b o e).1;have lim:s.heap.NoLimit:=g.mod.nolimit.keeps λb o e=>(g.bs b o e).1;have a:∀y∈ps.zip us,scope.names.lookup y.1=some .local\/(scope.names.lookup y.1=some .cell/\((cellsFrom (s.heap.objs.size+1) scope.names []).lookup y.1).isSome=true):=by
  rintro⟨n,v⟩ p;rcases S.par n (CS p).1 with q|q
  ·exact .inl q
  exact .inr ⟨q,EA _ _ _<|.inl q⟩
 refine codeAny_call_function i.depth (l _ _ Z) rfl S.co S.gen rfl (PySem.W.codeRec_of l F)<|hb _ _ _ _ ?_;refine wpAny_newFunctionEnv_cells S.kind a λenv he s1 x=>?_;subst he;refine⟨lim.keeps x.toInCall.keep,codeAny_func ?_⟩;obtain⟨t,C,L⟩:=z A outer s H vs Q E (i.deeper _) h;have I:Inv (JR CX P w K mg base N qual scope f d A outer s H E) [] (start N vs) H s1:=zm9 S i.hd g m r x;refine Bu (C [] s1 (start N vs) H _ I L) (λfl s' c=>?_) λe s' c=>c;have fin:∀{σ':St}{H':Hp}{v:V}{u:IR},Inv (JR CX P w K mg base N qual scope f d A outer s H E) [] σ' H' s'->RelV v u->Q v H'->CE outer P w H s Q u s':=
  λ{σ' H' v u} J j q=>⟨v,H',J.os,J.bare,J.base,J.hok,j,q⟩
 cases fl with
 |ret u=>
  obtain⟨v,σ',H',J,j,q⟩:=c;exact fin J j q
 |next=>
  obtain⟨σ',H',J,q⟩:=c;exact fin (v:=V.non) (u:=Bo) J rfl q
 |brk=>
  obtain⟨_,_,_,q⟩:=c;exact False.elim q
 |cont=>
  obtain⟨_,_,_,q⟩:=c;exact False.elim q
variable {id T:String}
section
variable {t:TA}{r:List V->Hp->VK->Prop}
def Ye(r:List V->Hp->VK->Prop)(t:TA):TE:=λσ H Q=>t σ H λa H1=>r a H1 Q
def cK(z:MM X (.builtin id) r)(B:Gl X x)(hm:X.mg x=none)(F:UF x=some (.builtin id))(G:PA X (e::es) t)(hn:x≠"__name__":=by decide)(d:(x==("__debug__":Str))=false:=by decide)(he:Qqb X.env e es:=by rfl) (q:Qqc pos es X.env:=by rfl):PE X (.Call (.Name x p) (e::es) [] pos) (Ye r t):=by
 exists 6;refine C1<|PY I B hm F ?_ hn d;exact PyProof.Rows.callWith_builtin1 (HD (G pos qp s σ H _ I h) λus s1 ⟨a,H1,b,c,f⟩=>z qp s1 σ H1 a us Q b c f) he q
def zmG(z:MM X (.type T) r)(B:Gl X x)(hm:X.mg x=none)(F:UF x=some (.type T))(G:PA X (e::es) t)(hn:x≠"__name__":=by decide)(d:(x==("__debug__":Str))=false:=by decide)(he:Qqb X.env e es:=by rfl) (q:Qqc pos es X.env:=by rfl):PE X (.Call (.Name x p) (e::es) [] pos) (Ye r t):=by
 exists 6;refine C1<|PY I B hm F ?_ hn d;exact B2 (HD (G pos qp s σ H _ I h) λus s1 ⟨a,H1,b,c,f⟩=>z qp s1 σ H1 a us Q b c f) he q
end
variable {d:V}
section
variable [DecidableEq κ]
def IB(kvs:List (κ×V))(k:κ):Option V:=(kvs.find? λa=>decide (a.1=k)).map (·.2)
def putK(kvs:List (κ×V))(k:κ)(v:V):List (κ×V):=if(kvs.any λa=>decide (a.1=k))=true then kvs.map (λa=>if a.1=k then(a.1,v)else a)else kvs++[(k,v)]
def Wz{p:κ×V}{r:List (κ×V)}{k:κ}(e:p.1=k):IB (p::r) k=some p.2:=by simp[IB,AV,e]
def Wy{p:κ×V}{r:List (κ×V)}{k:κ}(e:¬p.1=k):IB (p::r) k=IB r k:=by simp[IB,AV,e]
theorem cW(k:κ):∀kvs:List (κ×V),(kvs.any λq=>decide (q.1=k))=(IB kvs k).isSome
 |[]=>rfl
 |p::r=>by
  rw[BV];by_cases e:p.1=k
  ·simp only[Wz e,decide_eq_true e,Bool.true_or,Fx]
  rw[Wy e,decide_eq_false e,Bool.false_or];exact cW k r
def Xf(kvs:List (κ×V))(k:κ)(v:V):(putK kvs k v).length<=kvs.length+1:=by
 unfold putK;split
 ·rw[Af];omega
 rw[AD,Ay,Bj];omega
def Jn.isSome_eq{o:Option V}{u:Option IR}(r:Jn o u):o.isSome=u.isSome:=by
 cases o with
 |none=>cases u with
  |none=>rfl
  |some _=>exact(show False from r).elim
 |some _=>cases u with
  |none=>exact(show False from r).elim
  |some _=>rfl
def Jn.getD{o:Option V}{u:Option IR}{d:V}{d':IR}(r:Jn o u)(q:RelV d d'):RelV (o.getD d) (u.getD d'):=by
 cases o with
 |none=>cases u with
  |none=>exact q
  |some _=>exact(show False from r).elim
 |some _=>cases u with
  |none=>exact(show False from r).elim
  |some _=>exact r
def KV.val{kvs:List (κ×V)}{vs:List (κ×IR)}(r:KV kvs vs)(k:κ):Jn (IB kvs k) (valueAt vs k):=by
 unfold KV at r
 induction r with
 |nil=>exact CJ
 |@cons p q ps a h t d=>
  obtain⟨h1,f⟩:=h;by_cases e:p.1=k
  ·have c:q.1=k:=h1.symm.trans e;have b:valueAt (q::a) k=some q.2:=by simp[valueAt,AV,c]
   rw[Wz e,b];exact f
  ·have c:¬q.1=k:=λz=>e<|h1.trans z;have b:valueAt (q::a) k=valueAt a k:=by simp[valueAt,AV,c]
   rw[Wy e,b];exact d
def KV.any{kvs:List (κ×V)}{vs:List (κ×IR)}(r:KV kvs vs)(k:κ):(kvs.any λq=>decide (q.1=k))=vs.any λq=>decide (q.1=k):=by
 unfold KV at r
 induction r with
 |nil=>rfl
 |cons h t a=>rw[BV,BV,a,h.1]
def KV.repl{kvs:List (κ×V)}{vs:List (κ×IR)}(r:KV kvs vs)(k:κ)(F:RelV y u):
  KV (kvs.map λB=>if B.1=k then(B.1,y)else B) (vs.map λB=>if B.1=k then(B.1,u)else B):=by
 unfold KV at r ⊢
 induction r with
 |nil=>exact .nil
 |@cons p q ps d h t b=>
  rw[An,An];refine .cons ?_ b;obtain⟨a,c⟩:=h;by_cases e:p.1=k
  ·rw[if_pos e,if_pos (a.symm.trans e)];exact⟨a,F⟩
  rw[if_neg e,if_neg (λz=>e (a.trans z))];exact⟨a,c⟩
def KV.put{kvs:List (κ×V)}{vs:List (κ×IR)}(r:KV kvs vs)(k:κ)(q:RelV y u):KV (putK kvs k y) (stored vs k u):=by
 unfold putK stored;rw[r.any k];by_cases e:(vs.any λa=>decide (a.1=k))=true
 ·rw[if_pos e,if_pos e];exact r.repl k q
 rw[if_neg e,if_neg e];exact GX r ⟨rfl,q⟩
def KV.length{kvs:List (κ×V)}{vs:List (κ×IR)}(r:KV kvs vs):kvs.length=vs.length:=Bg r
end
def OW{k:Key}(r:RelV (kV k) u):(Jm P w).is k u=true:=by
 cases k with
 |inl i=>obtain⟨t,e⟩:=(show ∃t,u=DK i t from r);subst e;exact zjx P w i t
 |inr x=>obtain⟨t,e⟩:=(show ∃t,u=Ej x t from r);subst e;exact zjw P w x t
theorem dW{P:SZ}{w:World}:∀{ks:List Key}{us:List IR},Vals (ks.map kV) us->ItemsAre (Jm P w) ks us
 |[],_,r=>by rw[Bx]at r;cases r;exact .nil
 |k::ks,_,r=>by
  rw[An]at r;cases r with
  |cons h t=>exact .cons (OW h)<|dW t
noncomputable abbrev KT (H:Hp):List (List Key×V)->List (List Key×Addr×IR)->Prop:=Paired λp q=>p.1=q.1/\H q.2.1=some (.tup<|p.1.map kV)/\RelV p.2 q.2.2
variable {xs:List (List Key×Addr×IR)}{kvs:List (List Key×V)}
def KT.val(r:KT H kvs xs)(k:List Key):Jn (IB kvs k) ((atKey xs k).map (·.2)):=by
 induction r with
 |nil=>exact CJ
 |@cons p q ps a h t d=>
  obtain⟨h1,_,f⟩:=h;by_cases e:p.1=k
  ·have c:q.1=k:=h1.symm.trans e;have b:atKey (q::a) k=some q.2:=by simp[atKey,AV,c]
   rw[Wz e,b];exact f
  ·have c:¬q.1=k:=λz=>e<|h1.trans z;have b:atKey (q::a) k=atKey a k:=by simp[atKey,AV,c]
   rw[Wy e,b];exact d
def KT.repl(r:KT H kvs xs)(k:List Key)(F:RelV y u):
  KT H (kvs.map λB=>if B.1=k then(B.1,y)else B) (xs.map<|putAt k u):=by
 induction r with
 |nil=>exact .nil
 |@cons p q ps f h t c=>
  rw[An,An];refine .cons ?_ c;obtain⟨a,b,d⟩:=h;unfold putAt;by_cases e:p.1=k
  ·rw[if_pos e,if_pos (a.symm.trans e)];exact⟨a,b,F⟩
  rw[if_neg e,if_neg (λz=>e (a.trans z))];exact⟨a,b,d⟩
def KT.put(r:KT H kvs xs)(k:List Key)(B:H b=some (.tup<|k.map kV))(z:RelV y u):
  KT H (putK kvs k y) (storedH xs k b u):=by
 have e:(kvs.any λa=>decide (a.1=k))=(atKey xs k).isSome:=by rw[cW,(r.val k).isSome_eq,Be]
 unfold putK storedH;rw[e];by_cases q:(atKey xs k).isSome=true
 ·rw[if_pos q,if_pos q];exact r.repl k z
 rw[if_neg q,if_neg q];exact GX r ⟨rfl,B,z⟩
def KT.keeps(r:KT H kvs xs)(B:∀b q,H b=some (.tup q)->H' b=some (.tup q)):KT H' kvs xs:=Paired.mapP r λ_ _ z=>⟨z.1,B _ _ z.2.1,z.2.2⟩
def Zl{u:HO}(ok:JD P w H h)(e:Rd H a u):Jy P w H h a u:=e.ok ok
def OQ{kvs:List (Key×V)}(ok:JD P w H h)(e:Rd H a (.dK kvs)):kvs.length<=sizeLine/\(a==sysModules)=false/\∃vs,KV kvs vs/\h.DictOf (Jm P w) a vs:=show Jy P w H h a (.dK kvs) from Zl ok e
def iY{kvs:List (Key×V)}(ok:JD P w H h)(e:H a=some (.dK kvs)):kvs.length<=sizeLine/\(a==sysModules)=false/\∃vs,KV kvs vs/\h.DictOf (Jm P w) a vs:=OQ ok<|.inl e
def Nu{ks:List Key}(ok:JD P w H h)(e:H a=some (.tup<|ks.map kV)):(tupleKind<|Jm P w).is h ks a:=by
 obtain⟨_,b,r,o,c,d,_,n,f⟩:=(show Jy P w H h a (.tup<|ks.map kV) from ok a _ e)
 exact⟨o,b.toArray,n,c,d,f,by simpa using dW r⟩
def O1(ok:JD P w H h)(e:Rd H a (.dT kvs)):kvs.length<=sizeLine/\(a==sysModules)=false /\
  ∃xs,KT H kvs xs/\h.DictOfH (tupleKind<|Jm P w) a xs:=by
 obtain⟨z,y,xs,r,o,es,c,d,f,g,i,j⟩:=(show Jy P w H h a (.dT kvs) from Zl ok e)
 refine⟨z,y,xs,r,o,es,c,d,f,g,i,λx hx=>?_,j⟩;have all:∀{l:List (List Key×V)} {m:List (List Key×Addr×IR)},KT H l m->∀x∈m,(tupleKind<|Jm P w).is h x.1 x.2.1:=by
  intro l m q
  induction q with
  |nil=>intro x hx;exact nomatch hx
  |@cons p q ps s b t n=>
   intro x hx;rcases Os.mp hx with e|hx
   ·subst e;exact Nu ok (by rw[<-b.1];exact b.2.1)
   exact n x hx
 exact all r x hx
def Vp(ok:JD P w H h)(e:H a=some (.dT kvs)):kvs.length<=sizeLine/\(a==sysModules)=false /\
  ∃xs,KT H kvs xs/\h.DictOfH (tupleKind<|Jm P w) a xs:=O1 ok (.inl e)
def Jk(H:Hp)(a:Addr)(y:V)(r:Option V):Prop:=(∃kvs k,Rd H a (.dK kvs)/\y=kV k/\r=IB kvs k)\/∃kvs k b,Rd H a (.dT kvs)/\y=.ref b/\H b=some (.tup<|k.map kV)/\r=IB kvs k
def KQ(H:Hp)(a:Addr)(y v:V)(H':Hp):Prop:=
 (∃kvs k,H a=some (.dK kvs)/\y=kV k/\kvs.length<sizeLine/\H'=upd H a (.dK<|putK kvs k v)) \/
 ∃kvs k b,H a=some (.dT kvs)/\y=.ref b/\H b=some (.tup<|k.map kV)/\kvs.length<sizeLine/\H'=upd H a (.dT<|putK kvs k v)
def Jk.k{H:Hp}{a:Addr}{kvs:List (Key×V)}{k:Key}(e:H a=some (.dK kvs)):Jk H a (kV k) (IB kvs k):=.inl ⟨kvs,k,.inl e,rfl,rfl⟩
def Jk.t{k:List Key}(e:H a=some (.dT kvs))(q:H b=some (.tup<|k.map kV)):Jk H a (.ref b) (IB kvs k):=.inr ⟨kvs,k,b,.inl e,rfl,q,rfl⟩
def KQ.k{H:Hp}{a:Addr}{kvs:List (Key×V)}{k:Key}{v:V}(e:H a=some (.dK kvs))(q:kvs.length<sizeLine):KQ H a (kV k) v (upd H a<|.dK<|putK kvs k v):=.inl ⟨kvs,k,e,rfl,q,rfl⟩
def KQ.t{k:List Key}(e:H a=some (.dT kvs))(q:H b=some (.tup<|k.map kV))(z:kvs.length<sizeLine):
  KQ H a (.ref b) v (upd H a<|.dT<|putK kvs k v):=.inr ⟨kvs,k,b,e,rfl,q,z,rfl⟩
section
variable {r:IR}{o:Option V}
def Inv.big(I:Inv X qp σ H s):sysModules<s.heap.objs.size:=by have h:UV<s.heap.objs.size:=(I.mod.glob.keeps I.bk).lt;exact B3 (!1) h
def zD(F:A.units+1<cLine)(I:Inv X qp σ H s)(g:Jk H a y (some v))(B:RelV y u)(h:∀q s',Inv X qp σ H s'->RelV v q->Q q s'):
  wpAny (!4) A (getItem (.ref a) u) Q E s:=by
 rcases g with⟨kvs,k,e,d,l⟩|⟨kvs,k,b,e,d,j,l⟩
 ·subst d;obtain⟨z,hd,m,rel,f⟩:=OQ I.hok e;obtain⟨q,hw,c⟩:=Jn.some_of (v:=v) (o:=valueAt m k) (by rw[l];exact rel.val k);exact wpAny_getItem_of (OW B) f.mapOf hw<|h q _ (I.tok _) c
 ·subst d
  cases (show u=AE b from B)
  obtain⟨z,hd,xs,rel,f⟩:=O1 I.hok e;obtain⟨q,hw,c⟩:=Jn.some_of (v:=v) (o:=(atKey xs k).map (·.2)) (by rw[l];exact rel.val k);obtain⟨p,n,i⟩:=Option.map_eq_some_iff.mp hw;refine wpAny_getItem_heap (BK F) (Nu I.hok j) f n ?_;rw[i];exact h q _ (I.tok _) c
def YL(F:A.units+1<cLine)(I:Inv X qp σ H s)(g:Jk H a y o)(B:RelV y u)(h:∀s',Inv X qp σ H s'->Q (.bool o.isSome) s'):
  wpAny (!4) A (SL .In u<|.ref a) Q E s:=by
 rcases g with⟨kvs,k,e,c,l⟩|⟨kvs,k,b,e,c,f,l⟩
 ·subst c;obtain⟨z,hd,i,rel,d⟩:=OQ I.hok e;refine wpAny_in_of (OW B) hd d.mapOf ?_;rw[<-(rel.val k).isSome_eq,<-l];exact h _<|I.tok _
 ·subst c
  cases (show u=AE b from B)
  obtain⟨z,hd,xs,rel,d⟩:=O1 I.hok e;refine wpAny_in_heap (BK F) (Nu I.hok f) hd d ?_;have q:=(rel.val k).isSome_eq;rw[Be]at q;rw[<-q,<-l];exact h _<|I.tok _
def rD(F:A.units+1<cLine)(I:Inv X qp σ H s)(g:Jk H a y o)(B:RelV y u)(h:∀s',Inv X qp σ H s'->Q (.bool<|!o.isSome) s'):
  wpAny (!4) A (SL .NotIn u<|.ref a) Q E s:=by
 rcases g with⟨kvs,k,e,c,l⟩|⟨kvs,k,b,e,c,f,l⟩
 ·subst c;obtain⟨z,hd,i,rel,d⟩:=OQ I.hok e;refine wpAny_notIn_of (OW B) hd d.mapOf ?_;rw[<-(rel.val k).isSome_eq,<-l];exact h _<|I.tok _
 ·subst c
  cases (show u=AE b from B)
  obtain⟨z,hd,xs,rel,d⟩:=O1 I.hok e;refine wpAny_notIn_heap (BK F) (Nu I.hok f) hd d ?_;have q:=(rel.val k).isSome_eq;rw[Be]at q;rw[<-q,<-l];exact h _<|I.tok _
def T8{ob:HO}(I:Inv X qp σ H s)(B:SD (H a))(F:BC a s.heap h')(he:∃q,h'.get? a=some q)(new:Jy X.prog X.w (upd H a ob) h' a ob):
  Inv X qp σ (upd H a ob) {s with heap:=h',toks:=t'}:=
 I.write (x:=a) (e:=a) B (.inl rfl) (λb q c z=>(F.2 b c).trans z) he new
def Vw{kvs:List (Key×V)}{vs:List (Key×IR)}(z:kvs.length<=sizeLine)(hd:(a==sysModules)=false)(rel:KV kvs vs)(dd:h'.DictOf (Jm P w) a vs):
  Jy P w H' h' a (.dK kvs):=⟨z,hd,vs,rel,dd⟩
def zE{Q:Unit->Shared->Prop}(G:A.units+1<cLine)(I:Inv X qp σ H s)(g:KQ H a y v H')(B:RelV y u)(F:RelV v r)(h:∀s',Inv X qp σ H' s'->Q () s'):
  wpAny (!4) A (setItem (.ref a) u r) Q E s:=by
 rcases g with⟨kvs,k,e,i,l,j⟩|⟨kvs,k,b,e,i,x,l,j⟩
 ·subst i j;obtain⟨z,hd,K,rel,m⟩:=iY I.hok e;have n:K.length<=sizeLine:=by rw[<-rel.length];exact z
  have o:(putK kvs k v).length<=sizeLine:=by have:=Xf kvs k v;omega
  refine wpAny_setItem_pairs (hsz:=n) (OW B) m λh' d p=>h _ ?_;have he:∃q,h'.get? a=some q:=let ⟨q,_,_,f,_⟩:=d;⟨q,f⟩;exact T8 I (by rw[e];exact CJ) p he<|Vw o hd (rel.put k F) d
 ·subst i j
  cases (show u=AE b from B)
  obtain⟨z,hd,xs,rel,m⟩:=Vp I.hok e;have n:xs.length<=sizeLine:=by rw[<-Bg rel];exact z
  have o:(putK kvs k v).length<=sizeLine:=by have:=Xf kvs k v;omega
  refine wpAny_setItem_heap (hsz:=n) (BK G) (Nu I.hok x) m λh' d p=>h _ ?_;obtain⟨q,es,L,f,M,N,P,_,T⟩:=d;refine T8 I (by rw[e];exact CJ) p ⟨q,f⟩ ⟨o,hd,_,(rel.put k x F).keeps λc J C=>?_,q,es,L,f,M,N,P,T⟩;rw[HV (QT C e λz=>nomatch z)];exact C
end
def MK(i:Pv):Prop:=∀a b,subscripted i false a b=operate [a,b] (getItem a b)
def uU{slice:Pv}(q:typeLookup (.type T) "__getitem__"=pure (some<|.builtin id)) (z:MK slice)(h:wpAny (!5) A (Wp value env) (λo s₁=>wpAny (!5) A (Wp slice env) (λi s₂=>s₂.TypeIs o T/\wpAny (!5) A (getItem o i) Q E s₂) E s₁) E s):
  wpAny (!5) A (Wp (.Subscript value slice pos) env) Q E s:=by
 refine Fc<|Bu h (λo s₁ h₁=>Bu h₁ (λi s₂ h₂=>?_) λ_ _ x=>x) λ_ _ x=>x;obtain⟨a,h₂⟩:=h₂;unfold subscriptTail;refine Aa ?_;rw[getitemInPython_of_ne a.not_modules];refine Aa<|wpAny_specialOf a q ?_;have fin:wpAny (!5) A (subscripted slice false o i) (λr s₃=>wpAny (!5) A (letTemporaryGo value o r >>= λ_=>pure r) Q E s₃) E s₂:=by rw[z o i];exact wpAny_operating<|Bu h₂ (λr s₃ h₃=>Aa (wpAny_letTemporaryGo<|Ae h₃)) λ_ _ x=>x
 first
  |exact Ae (Aa fin)
  |exact Aa (Ae<|Aa fin)
  |exact Aa fin
def zjB{o:Option V}(I:Inv X qp σ H s)(g:Jk H a y o):s.TypeIs (.ref a) "dict":=by
 rcases g with⟨kvs,k,e,_,_⟩|⟨kvs,k,b,e,_,_,_⟩
 ·obtain⟨_,_,d,_,c⟩:=OQ I.hok e;exact c.typeIs
 obtain⟨_,_,xs,_,c⟩:=O1 I.hok e;exact c.typeIs
def kR(q ty:TE):TE:=λσ H Q=>q σ H λx H1=>ty σ H1 λy b=>∃a v,x=.ref a/\Jk b a y (some v)/\Q v b
def Yd(ty q:TE):TE:=λσ H Q=>ty σ H λy H1=>q σ H1 λx b=>∃a o,x=.ref a/\Jk b a y o/\Q (.bl o.isSome) b
def uV(ty q:TE):TE:=λσ H Q=>ty σ H λy H1=>q σ H1 λx b=>∃a o,x=.ref a/\Jk b a y o/\Q (.bl<|!o.isSome) b
def kJ(q ty tv:TE):TS:=λD σ H=>tv σ H λv H1=>q σ H1 λx c=>ty σ c λy d=>∃a b,x=.ref a/\KQ d a y v b/\D.nx σ b
variable {td ty:TE}
section
variable {o i:Pv}
def aF(q:X.A.units+1<cLine)(z:PE X o td)(hi:PE X i ty)(B:MK i):PE X (.Subscript o i pos) (kR td ty):=by intro qp s σ H Q I h;refine uU PySem.F.slot_dict_getitem.lookup B<|HD (z qp s σ H _ I h) λu s1 ⟨x,H1,d,e,f⟩=>HD (hi qp s1 σ H1 _ d f) ?_;rintro p s2 ⟨y,j,c,l,a,v,ex,g,m⟩;subst ex;obtain rfl:u=AE a:=e;exact⟨zjB c g,zD q c g l λr s3 n b=>⟨v,j,n,b,m⟩⟩
def ZW(q:X.A.units+1<cLine)(hi:PE X i ty)(z:PE X o td):PC X .In i o (Yd ty td):=by intro qp s σ H Q I h;refine HD (hi qp s σ H _ I h) λp s1 ⟨y,H1,b,c,d⟩=>HD (z qp s1 σ H1 _ b d) ?_;rintro u s2 ⟨x,e,f,j,a,l,ex,g,m⟩;subst ex;obtain rfl:u=AE a:=j;exact YL q f g c λs3 n=>⟨.bl l.isSome,e,n,rfl,m⟩
def zmH(q:X.A.units+1<cLine)(hi:PE X i ty)(z:PE X o td):PC X .NotIn i o (uV ty td):=by intro qp s σ H Q I h;refine HD (hi qp s σ H _ I h) λp s1 ⟨y,H1,b,c,d⟩=>HD (z qp s1 σ H1 _ b d) ?_;rintro u s2 ⟨x,e,f,j,a,l,ex,g,m⟩;subst ex;obtain rfl:u=AE a:=j;exact rD q f g c λs3 n=>⟨.bl<|!l.isSome,e,n,rfl,m⟩
def rY(q:X.A.units+1<cLine)(z:PE X o td)(hi:PE X i ty)(B:PE X value tv)(F:swapsWith value (some<|.Subscript o i pos') pos.line X.env=pure false):
  PS X (.Assign [.Subscript o i pos'] value pos) (kJ td ty tv):=by
 exists 14;refine wpAny_Assign_Subscript (HD (B qp s σ H _ I h) λr s1 ⟨v,H1,b,c,d⟩=>HD (z qp s1 σ H1 _ b d) λu s2 ⟨x,e,f,j,l⟩=>HD (hi qp s2 σ e _ f l) ?_) F;rintro E s3 ⟨y,K,m,n,a,p,ex,g,w⟩;subst ex;obtain rfl:u=AE a:=j;exact zE q m g n c λs4 C=>⟨σ,p,C,w⟩
end
def wU(h:P3)(q:sysModules<h.objs.size):Jy P w H (h.push Qqd) h.objs.size (.dT []):=⟨A9 _,beq_eq_false_iff_ne.mpr<|BF<|Aw q,[],.nil,_,#[],0,Ao _ rfl,⟨rfl,rfl,rfl⟩,rfl,rfl,GC⟩
def oI:TE:=λ_ H Q=>∀p,H p=none->Q (.ref p) (upd H p<|.dT [])
def wA:PE X (.Dict [] [] pos) oI:=λqp s σ H Q I h=>
 wpAny_Dict_empty ⟨.ref s.heap.objs.size,_,I.laid (a:=s.heap.objs.size) (o:=.dT []) (t':=s.toks) (λ_ _ q=>Ad _ q) (Ag _)<|wU s.heap I.big,rfl,h _<|I.hok.fresh<|Ag _⟩
def M5(kvs more:List (Key×V)):List (Key×V):=more.foldl (λacc a=>putK acc a.1 a.2) kvs
def KV.merge:∀{more:List (Key×V)} {rs:List (Key×IR)} {kvs:List (Key×V)} {vs:List (Key×IR)},KV more rs->KV kvs vs->KV (M5 kvs more) (merged vs rs):=by
 intro more rs kvs vs r;unfold KV at r
 induction r generalizing kvs vs with
 |nil=>intro q;exact q
 |@cons p q ps c h t a=>
  intro b;have e:KV (putK kvs p.1 p.2) (stored vs q.1 q.2):=by have:=b.put p.1 h.2;rw[<-h.1];exact this
  exact a e
theorem XO:∀(more kvs:List (Key×V)),(M5 kvs more).length<=kvs.length+more.length
 |[],kvs=>by show kvs.length<=kvs.length+0;omega
 |p::r,kvs=>by have q:=XO r<|putK kvs p.1 p.2;have a:=Xf kvs p.1 p.2;show(M5 (putK kvs p.1 p.2) r).length<=_;rw[Ay];omega
structure M1(X:Cx)(o:Pv)(m:Str)(apos:Pos)(e:Pv)(cpos:Pos):Prop where
 base:attributeBase o m X.env (Wp o X.env)=Wp o X.env
 few:((backTo cpos (starEach [e] X.env)).all (λx=>!x.1)&&(backToKw cpos (keywordEach [] X.env)).all (λx=>x.1.isSome)
  &&decide (([e]:List Pv).length+([]:List Keyword).length+(if([]:List Keyword).isEmpty then 0 else 1)<30))=true
 line:(apos.endLine==cpos.line)=true
 trees:backTo cpos (starEach [e] X.env)=[(false,Wp e X.env)]
structure M2(X:Cx)(o:Pv)(m:Str)(apos:Pos)(e f:Pv)(cpos:Pos):Prop where
 base:attributeBase o m X.env (Wp o X.env)=Wp o X.env
 few:((backTo cpos (starEach [e,f] X.env)).all (λx=>!x.1)&&(backToKw cpos (keywordEach [] X.env)).all (λx=>x.1.isSome)
  &&decide (([e,f]:List Pv).length+([]:List Keyword).length+(if([]:List Keyword).isEmpty then 0 else 1)<30))=true
 line:(apos.endLine==cpos.line)=true
 trees:backTo cpos (starEach [e,f] X.env)=[(false,Wp e X.env),(false,Wp f X.env)]
def SJ(H:Hp)(a:Addr):Prop:=(∃kvs,Rd H a (.dK kvs))\/∃kvs,Rd H a (.dT kvs)
def Nt(I:Inv X qp σ H s)(d:SJ H a):
  s.TypeIs (.ref a) "dict"/\(∀b,AE a=.ref b->∃ob,s.heap.get? b=some ob/\ob.dict=none)/\(a==sysModules)=false:=by
 rcases d with⟨kvs,e⟩|⟨kvs,e⟩
 ·obtain⟨_,hd,h,_,c⟩:=OQ I.hok e;refine⟨c.typeIs,λb q=>?_,hd⟩;cases q;obtain⟨ob,_,_,f,g,_⟩:=c;exact⟨ob,f,g.2.1⟩
 obtain⟨_,hd,xs,_,c⟩:=O1 I.hok e;refine⟨c.typeIs,λb q=>?_,hd⟩;cases q;obtain⟨ob,_,_,f,g,_⟩:=c;exact⟨ob,f,g.2.1⟩
section
variable {r:IR}{o:Option V}
def oB(F:A.units+1<cLine)(I:Inv X qp σ H s)(g:Jk H a y o)(q:RelV y u)(h:∀B s',Inv X qp σ H s'->RelV (o.getD .non) B->Q B s'):
  wpAny (!4) A (call (.builtin "dict.get") [.ref a,u]) Q E s:=by
 rcases g with⟨kvs,k,e,d,l⟩|⟨kvs,k,b,e,d,f,l⟩
 ·subst d;obtain⟨z,hd,i,rel,c⟩:=OQ I.hok e;refine Dr Dl c.typeIs EB (Eh _ _) (meets_dict_get (Jm X.prog X.w) a (OW q) hd) ⟨_,c.mapOf,h _ _ (I.tok _) ?_⟩;rw[l];exact(rel.val k).getD rfl
 ·subst d
  cases (show u=AE b from q)
  obtain⟨z,hd,xs,rel,c⟩:=O1 I.hok e;refine Dr Dl c.typeIs EB (Eh _ _) (meetsH_dict_get (tupleKind<|Jm X.prog X.w) a b hd) ⟨BK F,k,xs,Nu I.hok f,c,h _ _ (I.tok _) ?_⟩;rw[l];exact(rel.val k).getD rfl
end
def oH(td ty:TE):TE:=λσ H Q=>td σ H λx H1=>∃a,x=.ref a/\SJ H1 a/\ty σ H1 λy b=>∃o,Jk b a y o/\Q (o.getD .non) b
section
variable {o f:Pv}{cpos:Pos}{tx:TE}
def vZ(q:X.A.units+1<cLine)(z:PE X o td)(he:PE X e ty)(m:M1 X o "get" apos e cpos):PE X (.Call (.Attribute o "get" apos) [e] [] cpos) (oH td ty):=by intro qp s σ H Q I h;refine DZ m.base m.few m.line C5 Dl PySem.F.type_dict_get<|HD (z qp s σ H _ I h) ?_;rintro u s1 ⟨x,H1,c,f,a,ex,d,i⟩;subst ex;obtain rfl:u=AE a:=f;obtain⟨t1,j,_⟩:=Nt c d;refine⟨t1,j,?_⟩;rw[m.trees];refine B1 rfl<|CK<|Cp<|HD (he qp s1 σ H1 _ c i) λw s2 ⟨y,l,n,p,C,g,r⟩=>Dc ?_;exact oB q n g p λE s3 v b=>⟨_,l,v,b,r⟩
end
end L2
namespace HT
open PySem PyProof.Rows
def lexLt:List Int->List Int->Bool
 |[],[]=>false
 |[],_::_=>true
 |_::_,[]=>false
 |x::xs,y::a=>if x=y then lexLt xs a else decide (x<y)
theorem Ih(x y:Int)(xs a:List Int):lexLt (x::xs) (y::a)=if x=y then lexLt xs a else decide (x<y):=rfl
theorem IT:lexLt [] []=false:=rfl
theorem HR(y:Int)(a:List Int):lexLt [] (y::a)=true:=rfl
theorem Ig(x:Int)(xs:List Int):lexLt (x::xs) []=false:=rfl
def wX(A:Around)(s:Shared)(a:Int)(t:Tok)(c:Int)(u:Tok):∃e,SeqAt.EqAt A s (.int a t) (.int c u) e/\(e=true ↔ a=c):=⟨(a==c),Fy a t c u,by simp⟩
def xO(A:Around)(s:Shared)(a:Int)(t:Tok)(c:Int)(u:Tok)(prog:SZ)(w:World)(E:Qqa)(Q:Qqa)(h:Q (.bool<|decide (a<c)) s):
  wpAny (!5) A (richCompare .Lt (.int a t)<|.int c u) Q E s:=
 (Gg h:wpAny (!5) A (SL .Lt (.int a t)<|.int c u) Q E s)
section
open PySem.SeqAt
open PySem.MeetsSeq PySem.MeetsSeq2 PySem.MeetsSeq3
def zgV(l b:Addr)(items items2:Array IR)(n L:Nat)(dd F:Option Addr)(M G:Array (Option IR))(ns ms:List Int)(hi:IntsAre items.toList ns)(J:IntsAre items2.toList ms):
  Meets (Builtin.«tuple.__lt__» ⟨[.ref l,.ref b],[]⟩)
   (λ_ R s=>s.heap.get? l=some {cls:=.type "tuple",dict:=dd,data:=.seq items n,slots:=M}/\s.heap.get? b=some {cls:=.type "tuple",dict:=F,data:=.seq items2 L,slots:=G} /\
    R (.ok<|.ret<|.bool<|lexLt ns ms) s):=
 .of_wp λprog w A R s h=>by
  obtain⟨C,g,d,tk,os⟩:=s;obtain⟨N,P,h⟩:=h;have f2:=AutoSeq1.sub_tuple_tuple;have Q:items.size=ns.length:=by rw[<-hi.length];simp
  have S:items2.size=ms.length:=by rw[<-J.length];simp
  wp_walk using wpAny_loadPart' N,wpAny_loadPart' P,wpAny_forIn_list _ (λrest b H=>b.1=none/\H=⟨C,g,d,tk,os⟩/\∃(E ws:List IR) (f i:List Int),rest=E.zip ws /\
   IntsAre E f/\IntsAre ws i/\f.length+items2.size=i.length+items.size/\R (.ok<|.ret<|.bool<|lexLt f i) ⟨C,g,d,tk,os⟩) _
  case turn=>
   rintro⟨y,x⟩ rest b H ⟨r,rfl,E,ws,f,i,j,v,m,hlen,o⟩;cases v with
   |nil=>rw[FP]at j;cases j
   |cons a t z=>
    cases m with
    |nil=>rw[List.zip_nil_right]at j;cases j
    |cons c u B=>
     rw[DN]at j;injection j with hyx hrest
     injection hyx with hy hx
     subst hy hx;rw[Ih]at o;simp only[Ay]at hlen;obtain⟨e,he,p⟩:=wX A.in1 ⟨C,g,d,tk,os⟩ a t c u;refine Aa<|he prog w _ _ ?_
     cases e with
     |true=>
      rw[if_pos (p.mp rfl)]at o
      wp_walk
      exact⟨rfl,rfl,_,_,_,_,hrest,z,B,by omega,o⟩
     |false=>
      rw[if_neg (λq=>absurd (p.mpr q) AW)]at o;have I:=xO A.in1 ⟨C,g,d,tk,os⟩ a t c u prog w
      wp_walk using I
      exact⟨_,rfl,by simpa using o⟩
  case fin=>
   rintro⟨b1,T⟩ H ⟨r,rfl,E,ws,f,i,j,v,m,hlen,o⟩;simp only at r;subst r;have K:lexLt f i=decide (items.size<items2.size):=by
    cases v with
    |nil=>
     cases m with
     |nil=>
      simp only[Bj]at hlen;rw[IT];exact(decide_eq_false<|by omega).symm
     |cons c u hw=>
      simp only[Bj,Ay]at hlen;rw[HR];exact(decide_eq_true<|by omega).symm
    |cons a t K=>
     cases m with
     |nil=>
      simp only[Bj,Ay]at hlen;rw[Ig];exact(decide_eq_false<|by omega).symm
     |cons c u hw=>
      rw[DN]at j;cases j
   rw[K]at o
   wp_walk
   exact⟨_,rfl,by simpa[Builtin.Tuple.tupleCompareSizes]using o⟩
  case h=>
   exact⟨rfl,rfl,items.toList,items2.toList,ns,ms,rfl,hi,J,by omega,h⟩
end
variable {b t sl:Addr}{items:Array IR}{Q:Qqa}{vl vu:IR}{lo hi:Option Int}
section
variable {prog:SZ}{w:World}{A:Around}{E:Qqa}{s:Shared}
def Ls{l:Addr}{items2:Array IR}{ns ms:List Int}(j:IsTup s.heap l items)(m:IsTup s.heap b items2)(hi:IntsAre items.toList ns)(o:IntsAre items2.toList ms)(p:A.units<cLine) (h:Q (.bool<|lexLt ns ms) s):wpAny (!5) A (SL .Lt (.ref l)<|.ref b) Q E s:=by
 obtain⟨⟨cls,q,data,sl⟩,f,g,n,hd⟩:=id j;obtain⟨⟨i,d,data2,e⟩,a,c,r,hd2⟩:=id m;simp only at g hd c hd2;subst g hd c hd2;exact richCompare_meets_room (op:=.Lt) ⟨_,f,rfl⟩ ⟨_,a,rfl⟩ PySem.F.slot_tuple_lt PySem.F.entry_tuple_lt (PySem.F.args_tuple_lt_2 _ _) (zgV l b items items2 n r q d sl e ns ms hi o)
  ⟨f,a,show CH (lexLt ns ms)≠Value.notImplemented/\Q (.bool<|lexLt ns ms) s from⟨(λx=>nomatch x),h⟩⟩ p
def N0{vs ws:List IR}(o:IsTup s.heap t vs.toArray)(p:IsTup s.heap b ws.toArray)(h:vs≠[])(q:ws=[]->Q (.ref t) s) (r:ws≠[]->Q (.ref s.heap.objs.size) {s with heap:=s.heap.push {cls:=.type "tuple",data:=.seq (vs++ws).toArray} })(hsz:vs.length+ws.length<=sizeLine):wpAny (!5) A (binaryOp .Add (.ref t)<|.ref b) Q E s:=by
 obtain⟨⟨cls,i,data,sl⟩,g,j,n,hd⟩:=id o;obtain⟨⟨l,c,data2,d⟩,a,f,m,hd2⟩:=id p;simp only at j hd f hd2;subst j hd f hd2;have e:vs.toArray++ws.toArray=(vs++ws).toArray:=by simp
 by_cases hw:ws=[]
 ·exact concat_meets ⟨_,g,rfl⟩ ⟨_,a,rfl⟩ noFill_tuple_add seq_tuple_add EF Ei (D8 _ _)
   (tuple_addW1 t b vs.toArray ws.toArray n m i c sl d (by simpa using h)<|by simp[hw]) ⟨g,a,q hw⟩
 ·refine concat_meets ⟨_,g,rfl⟩ ⟨_,a,rfl⟩ noFill_tuple_add seq_tuple_add EF Ei (D8 _ _)
   (tuple_addW2 t b vs.toArray ws.toArray n m i c sl d (by simpa using h) (by simpa using hw) (by rw[Az,Az];exact hsz)) ⟨g,a,?_⟩
  rw[e];exact r hw
def Ip(n d:Nat):Option Int->Nat
 |none=>d
 |some v=>if v<0 then(v+(n:Int)).toNat else min v.toNat n
def pA(n d:Nat)(hd:d<=n)(o:Option Int):Ip n d o<=n:=by
 cases o with
 |none=>exact hd
 |some v=>
  show(if v<0 then(v+(n:Int)).toNat else min v.toNat n)<=n;by_cases hv:v<0
  ·rw[if_pos hv];omega
  rw[if_neg hv];exact D9 _ _
def aU(v:Int)(n d:Nat):(if v<0 then max (v+(n:Int)) 0 else min v (n:Int))=((Ip n d (some v):Nat):Int):=by
 show(if v<0 then max (v+(n:Int)) 0 else min v (n:Int))=(((if v<0 then(v+(n:Int)).toNat else min v.toNat n):Nat):Int);by_cases hv:v<0
 ·simp only[if_pos hv];omega
 simp only[if_neg hv];omega
def zlW(lo hi:Option Int)(n:Nat):Builtin.Slice.sliceAdjust lo hi 1 (n:Int)=(((Ip n 0 lo:Nat):Int),((Ip n n hi:Nat):Int)):=by
 have b:¬((1:Int)<0):=by omega
 unfold Builtin.Slice.sliceAdjust;simp only[b,if_false];refine Prod.ext ?_ ?_
 ·cases lo with
  |none=>rfl
  |some v=>exact aU v n 0
 ·cases hi with
  |none=>rfl
  |some v=>exact aU v n n
def zkB(i j:Nat):Builtin.Slice.slicePlaces (i:Int) (j:Int) 1=j-i:=by
 unfold Builtin.Slice.slicePlaces;have b:(1:Int) > 0:=by omega
 simp only[b,if_true,Int.ediv_one];split<;>omega
def II{v:IR}{o:Option Int}{Q:Option Int->Shared->Prop}(p:IsPart v o)(h:Q o s):wpAny (!5) A (Builtin.Slice.slicePartIndex v) Q E s:=by
 cases p with
 |none=>exact slicePart_none h
 |int i t=>exact slicePart_int h
def zeW{n:Nat}{Q:Int×Int×Nat->Shared->Prop}(c:s.heap.IsSliceOf sl vl vu .none)(pl:IsPart vl lo)(pu:IsPart vu hi)(h:Q (((Ip n 0 lo:Nat):Int),1,Ip n n hi-Ip n 0 lo) s):wpAny (!5) A (Builtin.Slice.sliceApplied (.ref sl)<|pure (n:Int)) Q E s:=by
 obtain⟨os,b,d,a⟩:=id c;unfold Builtin.Slice.sliceApplied Builtin.Slice.sliceFields;refine Aa<|Aa<|Ba b a (x:=vl) rfl<|Aa<|Ba b a (x:=vu) rfl<|Aa<|Ba b a (x:=.none) rfl<|Ae ?_;refine Aa<|slicePart_none ?_;show wpAny _ _ (if((1:Int)==0)=true then _ else _) _ _ s;rw[if_neg (!1)];refine Aa<|II pl<|Aa<|II pu<|Aa<|Ae ?_;show wpAny _ _ (match Builtin.Slice.sliceAdjust lo hi 1 (n:Int) with|(lo,hi)=>pure (lo,(1:Int),Builtin.Slice.slicePlaces lo hi 1)) _ _ s;rw[zlW lo hi n];show wpAny _ _ (pure (((Ip n 0 lo:Nat):Int),(1:Int),Builtin.Slice.slicePlaces ((Ip n 0 lo:Nat):Int) ((Ip n n hi:Nat):Int) 1)) _ _ s;rw[zkB];exact Ae h
def yM(xs:Array IR)(i k:Nat):((Av k).filterMap λ(m:Nat)=>xs[((i:Int)+(m:Int)*1).toNat]?).toArray=((xs.toList.drop i).take k).toArray:=by
 have e:(λ(m:Nat)=>xs[((i:Int)+(m:Int)*1).toNat]?)=λm=>xs[i+m]?:=by
  funext m
  have:((i:Int)+(m:Int)*1).toNat=i+m:=by omega
  rw[this]
 rw[e];have:=pick_run xs i k;rw[Fz]at this;have b:((λx=>xs[x]?) ∘ λx=>i+x)=λm=>xs[i+m]?:=rfl;rw[b]at this;rw[this]
def JQ(a:IsTup s.heap t items)(g:s.heap.IsSliceOf sl vl vu .none)(pl:IsPart vl lo)(pu:IsPart vu hi)(hw:¬(Ip items.size 0 lo=0/\Ip items.size items.size hi=items.size))(h:Q (.ref s.heap.objs.size) {s with heap:=s.heap.push {cls:=.type "tuple",data:=.seq ((items.toList.drop<|Ip items.size 0 lo).take<|Ip items.size items.size hi-Ip items.size 0 lo).toArray} })(hsz:items.size<=sizeLine):wpAny (!5) A (getItem (.ref t)<|.ref sl) Q E s:=by
 have b:sizeOk (.seq ((items.toList.drop<|Ip items.size 0 lo).take<|Ip items.size items.size hi-Ip items.size 0 lo).toArray):=by show((items.toList.drop<|Ip items.size 0 lo).take<|Ip items.size items.size hi-Ip items.size 0 lo).toArray.size<=sizeLine;rw[Az,Bn,Ga,AS];omega
 have j:Ip items.size items.size hi<=items.size:=pA _ _ (Ag _) hi;obtain⟨os,c,d,i⟩:=id g;have e:s.TypeIs (.ref sl) "slice":=⟨os,c,d⟩;unfold getItem
 try with_reducible refine AO ?_
 first|refine Aa (Ae ?_)|skip
 refine Aa (FQ a.typeIs (!1) ?_);refine Aa (A6 (name:=BD "__getitem__") a.typeIs BO
  (Bc BO a.typeIs Fk ?_<|FA _ _))
 show wpAny _ _ (Builtin.Tuple.tupleItemsOf (.ref t) >>= _) _ _ s;refine Aa<|tupleItemsOf_ a ?_;refine Aa<|Ds e ?_;rw[if_pos (!1)];refine Aa<|zeW g pl pu ?_;have f:¬((((Ip items.size 0 lo:Nat):Int)==0&&(1:Int)==1&&(Ip items.size items.size hi-Ip items.size 0 lo)==items.size)=true):=by intro q;rw[Aq,Aq]at q;have l:((Ip items.size 0 lo:Nat):Int)=0:=eq_of_beq q.1.1;have n:Ip items.size items.size hi-Ip items.size 0 lo=items.size:=eq_of_beq q.2;exact hw ⟨by omega,by omega⟩
 show wpAny _ _ (if(((Ip items.size 0 lo:Nat):Int)==0&&(1:Int)==1&&(Ip items.size items.size hi-Ip items.size 0 lo)==items.size)=true then _ else _) _ _ s;rw[if_neg f,yM]
 first
  |exact Aa (m:=Builtin.Tuple.tupleExact _) (AR (Ae ⟨_,rfl,Ae h⟩) b)
  |exact Aa (m:=Builtin.Tuple.tupleExact _) (AR (Aa<|Ae<|Ae ⟨_,rfl,Ae h⟩) b)
  |exact Aa (Aa (m:=Builtin.Tuple.tupleExact _)<|AR (Ae<|Ae ⟨_,rfl,Ae h⟩) b)
  |exact Aa (Aa (m:=Builtin.Tuple.tupleExact _)<|AR (Ae ⟨_,rfl,Ae h⟩) b)
end
end HT
namespace L2
open PySem PySem.Spec PyProof.Rows
noncomputable abbrev TO:=St->Hp->(Option Int->Hp->Prop)->Prop
def PO(X:Cx)(e:Option Pv)(t:TO):Prop:=
 ∀(a:List (Addr×Obj)) (s:Shared) (σ:St) (H:Hp) (Q:Option Int->Hp->Prop),Inv X a σ H s->t σ H Q ->
  wpAny (!4) X.A (evalPart e X.env) (λu c=>∃o b,Inv X a σ b c/\IsPart u o/\Q o b) X.xe s
def uX:TO:=λ_ H Q=>Q none H
def kW(t:TE):TO:=λσ H Q=>t σ H λx H1=>∃i,x=.int i/\Q (some i) H1
def intsAre_of{ns:List Int}:∀{us:List IR},Vals (ns.map V.int) us->IntsAre us ns:=by
 induction ns with
 |nil=>intro us r;rw[Bx]at r;cases r;exact .nil
 |cons n ns ih=>
  intro us r;rw[An]at r;cases r with
  |cons a b=>
   obtain⟨t,e⟩:=a;subst e;exact .cons n t<|ih b
variable {X:Cx}{e:Pv}{pos:Pos}{xs:List V}{us:List IR}
section
variable {te:TE}{lo hi:Option Pv}{tl th:TO}{p2:Pos}
def rW:PO X none uX:=by intro e s σ H Q I h;rw[Fj];exact Ae ⟨none,H,I,.none,h⟩
def aG(h:PE X e te):PO X (some e) (kW te):=by intro a s σ H Q I hw;rw[evalPart_some];refine HD (h a s σ H _ I hw) ?_;rintro u s1 ⟨x,H1,b,c,d⟩;obtain⟨i,rfl,q⟩:=d;obtain⟨t,rfl⟩:=c;exact⟨some i,H1,b,.int i t,q⟩
def Sy(X:Cx)(r:V->Option Int->Option Int->Hp->VK->Prop):Prop:=
 ∀(e:List (Addr×Obj)) (s:Shared) (σ:St) (H:Hp) (x:V) (v a b:IR) (lo hi:Option Int) (c:Addr) (Q:VK),Inv X e σ H s->RelV x v->s.heap.IsSliceOf c a b .none->IsPart a lo->IsPart b hi->r x lo hi H Q ->
  ∃T id,typeLookup (.type T) "__getitem__"=pure (some<|.builtin id)/\s.TypeIs v T/\wpAny (!4) X.A (getItem v<|.ref c) (EP X e σ Q) X.xe s
def tSl(r:V->Option Int->Option Int->Hp->VK->Prop)(te:TE)(tl th:TO):TE:=λσ H Q=>te σ H λx H1=>tl σ H1 λl e=>th σ e λu X=>r x l u X Q
def Wo{r:V->Option Int->Option Int->Hp->VK->Prop}(g:Sy X r)(he:PE X e te)(i:PO X lo tl)(j:PO X hi th):PE X (.Subscript e (.Slice lo hi none p2) pos) (tSl r te tl th):=by intro a s σ H Q I h;refine Fc<|HD (he a s σ H _ I h) ?_;rintro v s1 ⟨x,H1,m,n,o⟩;refine wpAny_Slice<|HD (i a s1 σ H1 _ m o) λc s2 ⟨l,p,y,pl,z⟩=>HD (j a s2 σ p _ y z) ?_;rintro d s3 ⟨u,f,I3,pu,B⟩;rw[Fj];refine Ae ?_;have C:Inv X a σ f {s3 with heap:=s3.heap.push {cls:=.type "slice",data:=.fields #[c,d,.none]} }:=I3.kept (t':=s3.toks) λb ob q=>Ad _ q;obtain⟨T,id,E,F,G⟩:=g a {s3 with heap:=s3.heap.push {cls:=.type "slice",data:=.fields #[c,d,.none]} } σ f x v c d l u s3.heap.objs.size Q C n (FB ..) pl pu B;show wpAny (!4) X.A (subscriptTail e (.Slice lo hi none p2) v<|.ref s3.heap.objs.size) (EP X a σ Q) X.xe {s3 with heap:=s3.heap.push {cls:=.type "slice",data:=.fields #[c,d,.none]} };exact tail_any (ops:=[.ref s3.heap.objs.size,v]) F E G<|by with_unfolding_all rfl
def K8(xs:List V)(lo hi:Option Int):List V:=(xs.drop<|HT.Ip xs.length 0 lo).take<|HT.Ip xs.length xs.length hi-HT.Ip xs.length 0 lo
def gO(xs:List V)(lo hi:Option Int):(K8 xs lo hi).length<=xs.length:=by unfold K8;rw[Bn,Ga];omega
def Se(K:Ab):V->Option Int->Option Int->Hp->VK->Prop:=λx lo hi H Q=>∃a xs,x=.ref a/\IK K H a xs /\
 ¬(HT.Ip xs.length 0 lo=0/\HT.Ip xs.length xs.length hi=xs.length)/\∀p,H p=none->Q (.ref p) (upd H p<|.tup<|K8 xs lo hi)
def pP:Sy X (Se X.K):=by
 intro j s σ H x v l m lo hi n Q I f g pl pu h;obtain⟨a,xs,rfl,i,hw,q⟩:=h;cases f;obtain⟨e,r,c,d⟩:=I.tuple i;have hlen:e.toArray.size=xs.length:=by rw[Az];exact r.length.symm
 refine⟨"tuple",_,PyProof.Rows.slot_tuple_getitem.lookup,c.typeIs,?_⟩;refine HT.JQ c g pl pu (by rw[hlen];exact hw) ?_ (by rw[hlen];exact d);rw[hlen];refine⟨.ref s.heap.objs.size,_,I.laid (t':=s.toks) (o:=.tup (K8 xs lo hi)) (λb ob q=>Ad _ q) (Ag _) ?_,rfl,q _<|I.hok.fresh<|Ag _⟩;exact⟨AB (gO xs lo hi) d,_,(r.drop<|HT.Ip xs.length 0 lo).take<|HT.Ip xs.length xs.length hi-HT.Ip xs.length 0 lo,Li.new _ _⟩
def kG(K:Ab):R2:=λx y H Q=>∃a b xs e,x=.ref a/\y=.ref b/\IK K H a xs/\IK K H b e/\xs≠[]/\xs.length+e.length<=sizeLine /\
 (e=[]->Q (.ref a) H)/\(e≠[]->∀p,H p=none->Q (.ref p) (upd H p<|.tup<|xs++e))
def Vals.nil_iff(r:Vals xs us):us=[] ↔ xs=[]:=by
 cases r with
 |nil=>simp
 |cons _ _=>simp
def sY:J6 X (binaryOp .Add) (kG X.K):=by intro B s σ H x y v u Q I f g h;obtain⟨a,b,xs,i,rfl,rfl,j,l,m,c,n,p⟩:=h;cases f;cases g;obtain⟨r,e,A,_⟩:=I.tuple j;obtain⟨d,r2,p2,_⟩:=I.tuple l;refine HT.N0 A p2 (λz=>m (e.nil_iff.mp z)) (λz=>⟨.ref a,H,I,rfl,n<|r2.nil_iff.mp z⟩) (λz=>?_) (by rw[<-e.length,<-r2.length];exact c);refine⟨.ref s.heap.objs.size,_,I.laid (t':=s.toks) (o:=.tup (xs++i)) (λb ob q=>Ad _ q) (Ag _) ?_,rfl,p (λw=>z (r2.nil_iff.mpr w)) _<|I.hok.fresh<|Ag _⟩;exact⟨by rw[AD];exact c,_,e.append r2,Li.new _ _⟩
end
def Ml(n:Nat)(i:Int):Option Nat:=if 0<=i then(if i<n then some i.toNat else none)else if -(n:Int)<=i then some (i+n).toNat else none
variable {α:Type}
def Le(xs:List α)(i:Int):Option α:=(Ml xs.length i).bind λj=>xs[j]?
variable {n:Nat}{i:Int}
def aY{j:Nat}(h:Ml n i=some j):seqIndex? i n=some j/\j<n/\-(n:Int)<=i/\i<n:=by
 unfold Ml at h;by_cases h0:0<=i
 ·rw[if_pos h0]at h
  by_cases h1:i<n
  ·rw[if_pos h1]at h;have e:i.toNat=j:=AA h;exact⟨by rw[F6 h0 h1,e],by omega,by omega,h1⟩
  rw[if_neg h1]at h;cases h
 ·rw[if_neg h0]at h
  by_cases h1:-(n:Int)<=i
  ·rw[if_pos h1]at h;have e:(i+n).toNat=j:=AA h;exact⟨by rw[FC (!0) h1,e],by omega,h1,by omega⟩
  rw[if_neg h1]at h;cases h
def VZ{xs:List α}{v:α}(h:Le xs i=some v):∃j,seqIndex? i xs.length=some j/\xs[j]?=some v/\j<xs.length/\-(xs.length:Int)<=i/\i<xs.length:=by
 unfold Le at h;cases e:Ml xs.length i with
 |none=>rw[e]at h;cases h
 |some j=>
  rw[e]at h;obtain⟨n,X,a,b⟩:=aY e;exact⟨j,n,h,X,a,b⟩
def VX(b:Pv):Prop:=∀o i,subscripted b false o i=operate [o,i] (getItem o i)
def SH(X:Cx)(r:R2):Prop:=
 ∀(value slice:Pv) (e:List (Addr×Obj)) (s:Shared) (σ:St) (H:Hp) (x y:V) (v u:IR) (Q:VK),Inv X e σ H s->RelV x v->RelV y u->r x y H Q ->
  subscripted slice false v u=operate [v,u] (getItem v u)->wpAny (!4) X.A (subscriptTail value slice v u) (EP X e σ Q) X.xe s
def SF(X:Cx)(id:String)(r:V->List V->Hp->VK->Prop):Prop:=
 ∀(e:List (Addr×Obj)) (s:Shared) (σ:St) (H:Hp) (x:V) (xs:List V) (v:IR) (us:List IR) (Q:VK),Inv X e σ H s->RelV x v->Vals xs us->r x xs H Q ->
  wpAny (!4) X.A (call (.builtin id) (v::us)) (EP X e σ Q) X.xe s
variable {qp:List (Addr×Obj)}{σ:St}{H:Hp}{s:Shared}{p:Addr}{ys:List V}{its its':List IR}{T:String}{x:V}
section
variable {a b:Pv}{ta tb:TE}
def kC{r:R2}(c:SH X r)(d:PE X a ta)(f:PE X b tb)(g:VX b):PE X (.Subscript a b pos) (R9 r ta tb):=by intro qp s σ H Q I h;exact Fc<|PD d f I h λv u s2 x y e i n p q=>c a b qp s2 σ e x y v u Q i n p q (g _ _)
def Yr(K:Ab):R2:=λx y H Q=>∃p xs i v,x=.ref p/\y=.int i/\JT K H p xs/\Le xs i=some v/\Q v H
def Yo(K:Ab):R2:=λx y H Q=>∃p xs i v,x=.ref p/\y=.int i/\IK K H p xs/\Le xs i=some v/\Q v H
def Yp:R2:=λx y H Q=>∃z i c,x=.str z/\y=.int i/\z.length<=sizeLine/\Le z.cps.toList i=some c/\Q (.str ⟨#[c]⟩) H
def aZ:SH X (Yr X.K):=by
 intro value slice qp s σ H x y v u Q I c d h n;obtain⟨p,xs,i,z,rfl,rfl,f,he,q⟩:=h;cases c;obtain⟨t,rfl⟩:=d;obtain⟨its,r,pl,B⟩:=I.list f;obtain⟨j,a,g,C,l,m⟩:=VZ he;obtain⟨w,T,b⟩:=r.get g;have o:=r.length;have E:=O6;have fin:EP X qp σ Q w s:=⟨z,H,I,b,q⟩;by_cases h0:0<=i
 ·have e:i.toNat=j:=by
   rw[F6 h0 m]at a;exact AA a
  exact item_listR pl.isList h0 (!0) (by rw[e];simpa using T) fin n
 ·have e:(i+(its.toArray.size:Int)).toNat=j:=by
   rw[FC (!0) l]at a;rw[Az,<-o];exact AA a
  exact EG (x:=w) pl.isList.typeIs slot_list_getitem.lookup
   (wpAny_getItem_list_neg (Q:=λr A=>r=w/\EP X qp σ Q r A) pl.isList (!0) (by rw[Az]<;>omega) (!0) (by rw[e];simpa using T) ⟨rfl,fin⟩) n
def Im:SH X (Yo X.K):=by
 intro value slice qp s σ H x y v u Q I b e h n;obtain⟨p,xs,i,z,rfl,rfl,T,he,q⟩:=h;cases b;obtain⟨t,rfl⟩:=e;obtain⟨its,r,pl,m⟩:=I.tuple T;obtain⟨j,c,d,o,A,B⟩:=VZ he;obtain⟨w,f,a⟩:=r.get d;have g:=r.length;have C:=O6;have fin:EP X qp σ Q w s:=⟨z,H,I,a,q⟩;exact EG (x:=w) pl.typeIs slot_tuple_getitem.lookup
  (getItem_tuple (j:=j) (Q:=λr l=>r=w/\EP X qp σ Q r l) pl (!0) (!0) (by rw[Az,<-g];exact c) (by simpa using f) ⟨rfl,fin⟩) n
def Q2:SH X Yp:=by
 intro value slice qp s σ H x y v u Q I b e h n;obtain⟨z,i,c,rfl,rfl,m,he,q⟩:=h;obtain⟨t,rfl⟩:=b;obtain⟨o,rfl⟩:=e;obtain⟨j,a,p,r,T,d⟩:=VZ he;have f:z.cps.toList.length=z.length:=by simp[Str.length]
 rw[f]at a T d;have w:=O6;exact tail_any (Gj s z t) slot_str_getitem.lookup (getItem_str (c:=c) (by
  have g:decide (i < -(2^63:Int))=false:=decide_eq_false (!0);have l:decide (i ≥ 2^63)=false:=decide_eq_false (!0);rw[g,l,Bool.or_false]) (by rw[a];simpa using p) ⟨.str ⟨#[c]⟩,H,I.tok _,⟨_,rfl⟩,q⟩) n
def zk2(its:List IR)(n j:Nat)(u:IR):BH (·.setIfInBounds j u) {cls:=.type "list",data:=.seq its.toArray n}={cls:=.type "list",data:=.seq (its.set j u).toArray n}:=by simp[BH]
def Inv.lst{qp:List (Addr×Obj)}{σ:St}{H:Hp}{s:Shared}{p:Addr}{xs:List V}(I:Inv X qp σ H s)(h:H p=some (.lst xs)):
  ∃(its:List IR) (n:Nat),Vals xs its/\s.heap.get? p=some {cls:=.type "list",data:=.seq its.toArray n}/\xs.length<=sizeLine:=by
 obtain⟨z,its,n,r,e⟩:=I.hok p _ h;exact⟨its,n,r,e,z⟩
def Inv.lstUpd{c:Nat}{f:Obj->Obj}(I:Inv X qp σ H s)(h:H p=some (.lst xs))(d:s.heap.get? p=some {cls:=.type "list",data:=.seq its.toArray n}) (hf:f {cls:=.type "list",data:=.seq its.toArray n}={cls:=.type "list",data:=.seq its'.toArray c}) (r:Vals ys its') (hz:ys.length<=sizeLine) (t:Nat):
  Inv X qp σ (upd H p<|.lst ys) {s with heap:=s.heap.update p f,toks:=t}:=by
 have e:(s.heap.update p f).get? p=some {cls:=.type "list",data:=.seq its'.toArray c}:=by rw[BL f d (by rw[hf]<;>rfl),hf]
 refine I.write (x:=p) (e:=p) (by rw[h];trivial) (.inl rfl) (λb u a q=>(Cw _ _<|BF a).trans q) ⟨_,e⟩ ?_;exact⟨hz,its',c,r,e⟩
def kH:V->V->V->Hp->(Hp->Prop)->Prop:=λo i v H Q=>∃p xs k j,o=.ref p/\i=.int k/\H p=some (.lst xs)/\Ml xs.length k=some j/\Q (upd H p<|.lst<|xs.set j v)
def set_list:PK X kH:=by
 intro qp s σ H o i v y z u Q I f g l h;obtain⟨p,xs,k,j,rfl,rfl,x,m,q⟩:=h;cases f;obtain⟨t,rfl⟩:=g;obtain⟨its,n,r,b,w⟩:=I.lst x;obtain⟨a,A,T,c⟩:=aY m;have e:=r.length;have B:=O6;have d:Inv X qp σ (upd H p<|.lst<|xs.set j v) {s with heap:=s.heap.update p (BH (·.setIfInBounds j u))}:=
  I.lstUpd x b (zk2 its n j u) (r.set l j) (by rw[Bk];exact w) s.toks
 by_cases h0:0<=k
 ·have hk:k.toNat=j:=by
   rw[F6 h0 c]at a;exact AA a
  exact PySem.W.ki_setAt b h0 (!0) (by rw[Az,<-e];exact c) (by rw[hk];exact⟨_,d,q⟩)
 ·have hk:(k+(its.toArray.size:Int)).toNat=j:=by
   rw[FC (!0) T]at a;rw[Az,<-e];exact AA a
  exact PySem.W.ki_setBack b (!0) (by rw[Az,<-e];exact T) (!0) (by rw[hk];exact⟨_,d,q⟩)
def zhR(lo hi:Option Int)(n:Nat):(sliceBounds lo hi none n).1=((HT.Ip n 0 lo:Nat):Int)/\(sliceBounds lo hi none n).2.1=((HT.Ip n n hi:Nat):Int)/\(sliceBounds lo hi none n).2.2=1:=by
 refine⟨?_,?_,rfl⟩
 ·cases lo with
  |none=>simp[sliceBounds,HT.Ip]
  |some i=>
   simp only[sliceBounds,HT.Ip,Gb,show(1:Int) > 0 by decide,if_true]
   by_cases h:i<0
   ·simp only[h,if_true]<;>omega
   simp only[h,if_false]<;>omega
 ·cases hi with
  |none=>simp[sliceBounds,HT.Ip]
  |some i=>
   simp only[sliceBounds,HT.Ip,Gb,show(1:Int) > 0 by decide,if_true]
   by_cases h:i<0
   ·simp only[h,if_true]<;>omega
   simp only[h,if_false]<;>omega
def zgZ(its:List IR)(lo hi:Option Int):slicePick its.toArray lo hi none=((its.drop<|HT.Ip its.length 0 lo).take<|HT.Ip its.length its.length hi-HT.Ip its.length 0 lo).toArray:=by obtain⟨a,b,e⟩:=zhR lo hi its.toArray.size;unfold slicePick;rw[a,b,e];simp only[sliceRange_one,pick_run,Az]<;>rfl
def Sf(K:Ab):V->Option Int->Option Int->Hp->VK->Prop:=λx lo b H Q=>∃a xs,x=.ref a/\JT K H a xs/\∀p,H p=none->Q (.ref p) (upd H p<|.lst<|K8 xs lo b)
def aO:Sy X (Sf X.K):=by intro qp s σ H x v d f lo e g Q I n p pl pu h;obtain⟨a,xs,rfl,T,q⟩:=h;cases n;obtain⟨its,r,i,c⟩:=I.list T;have hlen:=r.length;refine⟨"list",_,slot_list_getitem.lookup,i.isList.typeIs,?_⟩;refine wpAny_getItem_list_slice i.isList p pl pu .none (!2) ?_ (by rw[Az]<;>omega);rw[zgZ,<-hlen];refine⟨.ref s.heap.objs.size,_,I.laid (t':=s.toks) (o:=.lst (K8 xs lo e)) (λb ob q=>Ad _ q) (Ag _) ?_,rfl,q _<|I.hok.fresh<|Ag _⟩;exact⟨AB (gO xs lo e) c,_,0,(r.drop<|HT.Ip xs.length 0 lo).take<|HT.Ip xs.length xs.length e-HT.Ip xs.length 0 lo,Ao _ rfl⟩
def Xy:MM X (.builtin "len") (λxs H Q=>∃p ys,xs=[.ref p]/\(JT X.K H p ys\/IK X.K H p ys)/\Q (.int ys.length) H):=by
 intro qp s σ H xs us Q I r h;obtain⟨p,ys,rfl,hq,q⟩:=h;obtain⟨u,rfl,b⟩:=vals1 r;cases b;have i:=O6;rcases hq with hq|hq
 ·obtain⟨its,a,pl,e⟩:=I.list hq;have hlen:=a.length;exact Calls.call_len_list pl.isList (by simp only[Az]<;>omega) ⟨.int ys.length,H,I.tok _,⟨s.toks+1,by rw[Az,hlen]⟩,q⟩
 obtain⟨its,a,pl,e⟩:=I.tuple hq;have hlen:=a.length;exact len_tuple pl (by simp only[Az]<;>omega) ⟨.int ys.length,H,I.tok _,⟨s.toks+1,by rw[Az,hlen]⟩,q⟩
def zij:MM X (.builtin "len") (λxs H Q=>∃z,xs=[.str z]/\z.length<=sizeLine/\Q (.int z.length) H):=by intro qp s σ H xs us Q I r h;obtain⟨z,rfl,a,q⟩:=h;obtain⟨u,rfl,t,rfl⟩:=vals1 r;have b:=O6;exact len_str (!0) ⟨.int z.length,H,I.tok _,⟨_,rfl⟩,q⟩
def Xz:MM X (.type "list") (λxs H Q=>∃p ys,xs=[.ref p]/\(JT X.K H p ys\/IK X.K H p ys)/\∀l,H l=none->Q (.ref l) (upd H l<|.lst ys)):=by
 intro qp s σ H xs us Q I r h;obtain⟨p,ys,rfl,hq,q⟩:=h;obtain⟨u,rfl,g⟩:=vals1 r;cases g;have fin:∀(its:List IR),Vals ys its->ys.length<=sizeLine->∀(a:P3) (i:Nat),(∀b f,s.heap.get? b=some f->a.get? b=some f) ->
   a.get? s.heap.objs.size=some {cls:=.type "list",dict:=none,data:=.seq its.toArray i,slots:=#[]}->EP X qp σ Q (.ref s.heap.objs.size) {s with heap:=a}:=λits x T a i kp e=>
  ⟨.ref s.heap.objs.size,_,I.laid (t':=s.toks) kp (Ag _) (show Jy X.prog X.w _ a _ (.lst ys) from⟨T,its,i,x,e⟩),rfl,q _<|I.hok.fresh<|Ag _⟩
 rcases hq with hq|hq
 ·obtain⟨its,x,pl,T⟩:=I.list hq;have hlen:=x.length;obtain⟨o,c,d,n,hd⟩:=pl.isList;exact call_list_seq p (.inl rfl) c d hd (λa i kp e=>fin its x T a i kp e) (by simp only[Az]<;>omega)
 obtain⟨its,x,pl,T⟩:=I.tuple hq;have hlen:=x.length;obtain⟨o,c,d,n,hd⟩:=pl;exact call_list_seq p (.inr rfl) c d hd (λa i kp e=>fin its x T a i kp e) (by simp only[Az]<;>omega)
def gX:MM X (.type "tuple") (λxs H Q=>∃p ys,xs=[.ref p]/\((JT X.K H p ys/\∀l,H l=none->Q (.ref l) (upd H l<|.tup ys))\/(IK X.K H p ys/\Q (.ref p) H))):=by
 intro qp s σ H xs us Q I r h;obtain⟨p,ys,rfl,h⟩:=h;obtain⟨u,rfl,T⟩:=vals1 r;cases T;rcases h with⟨i,q⟩|⟨i,q⟩
 ·obtain⟨its,n,pl,x⟩:=I.list i;have hlen:=n.length;refine call_tuple_list pl.isList (λa kp=>?_) (by simp only[Az]<;>omega);have I1:Inv X qp σ H {s with heap:=a}:=I.kept (t':=s.toks) kp;have c:Inv X qp σ (upd H a.objs.size<|.tup ys) {s with heap:=a.push {cls:=.type "tuple",data:=.seq its.toArray} }:=
   I1.laid (t':=s.toks) (λb o e=>Ad _ e) (Ag _) (show Jy X.prog X.w _ _ _ (.tup ys) from⟨x,its,n,Li.new _ _⟩)
  exact⟨.ref a.objs.size,_,c,rfl,q _<|I1.hok.fresh<|Ag _⟩
 obtain⟨its,n,pl,x⟩:=I.tuple i;exact call_tuple_same pl ⟨.ref p,H,I,rfl,q⟩
def Va(K:Ab)(T:String)(x:V)(H:Hp):Prop:=match x with
 |.str _=>T="str"
 |.int _=>T="int"
 |.ref p=>(T="list"/\∃xs,JT K H p xs)\/(T="tuple"/\∃o,K.lookup p=some o/\o.cls=.type "tuple"/\o.dict=none) \/
   (T="dict"/\((∃a,H p=some (.dK a))\/∃a,H p=some (.dT a)))\/(T="set"/\∃S n,H p=some (.set S n))
 |_=>False
def Z2{v:IR}(I:Inv X qp σ H s)(r:RelV x v)(ty:Va X.K T x H):
  s.TypeIs v T/\∀a,v=.ref a->∃ob,s.heap.get? a=some ob/\ob.dict=none:=by
 cases x with
 |str z=>
  obtain⟨t,rfl⟩:=r;cases (show T="str" from ty)
  exact⟨Gj s z t,λ_ e=>nomatch e⟩
 |int i=>
  obtain⟨t,rfl⟩:=r;cases (show T="int" from ty)
  exact⟨typeIs_int s i t,λ_ e=>nomatch e⟩
 |ref p=>
  cases r;rcases ty with⟨rfl,xs,f⟩|⟨rfl,o,hk,g,hd⟩|⟨rfl,hk⟩|⟨rfl,S,n,hk⟩
  ·obtain⟨its,_,pl,_⟩:=I.list f;refine⟨pl.isList.typeIs,λa e=>?_⟩;cases e;obtain⟨o,n,e,c,hd,_⟩:=pl;exact⟨o,e,hd⟩
  ·refine⟨⟨o,I.kIn p o hk,g⟩,λa e=>?_⟩;cases e;exact⟨o,I.kIn _ o hk,hd⟩
  ·have z:∃o,s.heap.get? p=some o/\o.ExactDict:=by
    rcases hk with⟨b,hk⟩|⟨b,hk⟩
    ·obtain⟨_,_,_,_,o,_,_,e,ex,_⟩:=I.hok p _ hk;exact⟨o,e,ex⟩
    obtain⟨_,_,_,_,o,_,_,e,ex,_⟩:=I.hok p _ hk;exact⟨o,e,ex⟩
   obtain⟨o,e,ex⟩:=z;refine⟨⟨o,e,ex.1⟩,λa d=>?_⟩;cases d;exact⟨o,e,ex.2.1⟩
  obtain⟨o,_,_,_,e,ex,_⟩:=I.hok p _ hk;refine⟨⟨o,e,ex.1⟩,λa d=>?_⟩;cases d;exact⟨o,e,ex.2.1⟩
 |_=>exact False.elim ty
def Yf(K:Ab)(T:String)(r:V->List V->Hp->VK->Prop)(to:TE):TE:=λσ H Q=>to σ H λx H1=>Va K T x H1/\r x [] H1 Q
def tBM(K:Ab)(T:String)(r:V->List V->Hp->VK->Prop)(to:TE)(t:TA):TE:=λσ H Q=>to σ H λx H1=>Va K T x H1/\t σ H1 λxs a=>r x xs a Q
variable {o:Pv}{es:List Pv}{to:TE}{t:TA}{name:Str}{apos cpos:Pos}{id:String}{r:V->List V->Hp->VK->Prop}
def mD(g:PlainAttrs T)(slot:Slot T name id)(f:typeOf (.builtin id)=pure (.type "method_descriptor"))(hm:SF X id r)(j:PE X o to)(c:attributeBase o name X.env (Wp o X.env)=Wp o X.env:=by rfl) (d:(apos.endLine==cpos.line)=true:=by rfl):PE X (.Call (.Attribute o name apos) [] [] cpos) (Yf X.K T r to):=by
 exists 6;refine wpAny_Call_method0_late c d<|HD (j qp s σ H _ I h) ?_;rintro v s1 ⟨x,H1,a,b,ty,e⟩;obtain⟨i,n⟩:=Z2 a b ty;exact⟨T,id,g,slot,f,i,n,B1 rfl<|PySem.evalArgs_none<|hm qp s1 σ H1 x [] v [] Q a b .nil e⟩
def Zj(l:PlainAttrs T)(slot:Slot T name id)(j:typeOf (.builtin id)=pure (.type "method_descriptor"))(hm:SF X id r)(m:PE X o to)(q:PA X (e::es) t)(d:attributeBase o name X.env (Wp o X.env)=Wp o X.env:=by rfl)(g:((backTo cpos<|starEach (e::es) X.env).all (λx=>!x.1)&&(backToKw cpos<|keywordEach [] X.env).all (λx=>x.1.isSome)
   &&decide ((e::es).length+([]:List Keyword).length+(if([]:List Keyword).isEmpty then 0 else 1)<30))=true:=by rfl)
  (f:(apos.endLine==cpos.line)=true:=by rfl) (u:Qqb X.env e es:=by rfl) (c:Qqc cpos es X.env:=by rfl):
  PE X (.Call (.Attribute o name apos) (e::es) [] cpos) (tBM X.K T r to t):=by
 exists 6;refine wpAny_Call_method_late d g f rfl<|HD (m qp s σ H _ I h) ?_;rintro v s1 ⟨x,H1,a,b,ty,n⟩;obtain⟨p,w⟩:=Z2 a b ty;refine⟨T,id,l,slot,j,p,w,?_⟩;have i:=q cpos qp s1 σ H1 _ a n;rw[u]at i ⊢;refine B1 (by show(false || (backTo cpos<|starEach es X.env).any (·.1))=false;rw[c]<;>rfl)<|CK ?_;exact HD i λus s2 ⟨y,z,A,B,C⟩=>hm qp s2 σ z x y v us Q A b B C
end
def YV(X:Cx)(id:String)(r:V->List V->Hp->VK->Prop):Prop:=
 ∀(qp:List (Addr×Obj)) (s:Shared) (σ:St) (H:Hp) (x:V) (xs:List V) (v:IR) (us:List IR) (Q:VK),Inv X qp σ H s->RelV x v->Vals xs us->r x xs H Q ->
  wpAny (!4) X.A (call (.builtin id) (v::us)) (EP X qp σ Q) X.xe s
def Vals.one:∀{x:V}{us:List IR},Vals [x] us->∃u,us=[u]/\RelV x u
 |_,_,.cons r .nil=>⟨_,rfl,r⟩
def Vals.two{y:V}(h:Vals [x,y] us):∃u v,us=[u,v]/\RelV x u/\RelV y v:=by
 cases h with
 |cons r t=>
  cases t with
  |cons q t=>
   cases t;exact⟨_,_,rfl,r,q⟩
def Vals.zero:∀{us:List IR},Vals [] us->us=[]
 |_,.nil=>rfl
def Vals.dropLast{xs:List V}{us:List IR}(h:Vals xs us):Vals xs.dropLast us.dropLast:=by
 induction h with
 |nil=>exact .nil
 |cons r t e=>
  cases t with
  |nil=>exact .nil
  |cons q i=>exact .cons r e
def zlx(l:List α):l.eraseIdx (l.length-1)=l.dropLast:=by
 induction l with
 |nil=>rfl
 |cons a r i=>
  cases r with
  |nil=>rfl
  |cons b r=>
   have e:(a::b::r).length-1=((b::r).length-1)+1:=by have n:(a::b::r).length=r.length+2:=rfl;have p:(b::r).length=r.length+1:=rfl;omega
   rw[e,List.eraseIdx_cons_succ,i]
   all_goals rfl
variable {t':Nat}
section
variable {l b:Addr}{zs:List V}
def Inv.lset{f:Array IR->Array IR}(I:Inv X qp σ H s)(a:H l=some (.lst xs))(e:s.heap.get? l=some {cls:=.type "list",data:=.seq its.toArray n}) (hf:f its.toArray=its'.toArray) (c:Vals ys its') (hz:ys.length<=sizeLine):
  Inv X qp σ (upd H l<|.lst ys) {s with heap:=s.heap.update l (BH f),toks:=t'}:=by
 have q:=PySem.IsL.update e f;rw[hf]at q;refine I.write (x:=l) (e:=l) (by rw[a];exact trivial) (.inl rfl) (λp u b i=>(Cw s.heap (BH f)<|BF b).trans i) ⟨_,q⟩ ?_;exact⟨hz,its',_,c,q⟩
def Inv.lnew(I:Inv X qp σ H s)(a:Vals ys its)(hz:ys.length<=sizeLine):
  Inv X qp σ (upd H s.heap.objs.size<|.lst ys) {s with heap:=s.heap.push {cls:=.type "list",data:=.seq its.toArray},toks:=t'}:=
 I.laid (λ_ _ q=>Ad _ q) (Ag _) ⟨hz,its,0,a,Ao _ rfl⟩
def Inv.fresh(I:Inv X qp σ H s):H s.heap.objs.size=none:=I.hok.fresh<|Ag _
def Inv.lstM(I:Inv X qp σ H s)(a:H l=some (.lst xs)):xs.length<=sizeLine/\∃(its:List IR) (n:Nat),Vals xs its/\xs.length=its.length/\s.heap.get? l=some {cls:=.type "list",data:=.seq its.toArray n}:=by obtain⟨z,its,n,r,e⟩:=I.hok l _ a;exact⟨z,its,n,r,r.length,e⟩
def vU(h:n<=sizeLine):Builtin.List.listTooLong n=false:=by unfold Builtin.List.listTooLong;exact decide_eq_false<|by omega
end
def sF:V->List V->Hp->VK->Prop:=λx e H Q=>∃l xs y,x=.ref l/\e=[y]/\H l=some (.lst xs)/\xs.length<sizeLine/\Q .non (upd H l<|.lst<|xs++[y])
def eD:YV X "list.append" sF:=by intro qp s σ H x b v us Q I p T h;obtain⟨l,xs,y,rfl,rfl,i,c,q⟩:=h;cases p;obtain⟨u,rfl,a⟩:=T.one;obtain⟨z,its,n,r,d,e⟩:=I.lstM i;refine D2 F.slot_list_append ⟨_,e,rfl⟩ F.entry_list_append (F.args_list_append_2 _ _) (PySem.list_append l its.toArray n u (by rw[Az];omega)) ⟨e,?_⟩;refine⟨.non,_,I.lset (its':=its++[u]) i e (!2) (r.append<|.cons a .nil) ?_,rfl,q⟩;rw[AD,Br];omega
def sG:V->List V->Hp->VK->Prop:=λx e H Q=>∃l b xs zs,x=.ref l/\e=[.ref b]/\H l=some (.lst xs)/\H b=some (.lst zs)/\xs.length+zs.length<=sizeLine/\Q .non (upd H l<|.lst<|xs++zs)
def zmT:YV X "list.extend" sG:=by
 intro qp s σ H x y v us Q I c d h;obtain⟨l,b,xs,zs,rfl,rfl,a,f,A,q⟩:=h;cases c;obtain⟨u,rfl,g⟩:=d.one;cases g;obtain⟨z,its,n,r,B,e⟩:=I.lstM a;obtain⟨C,i,j,m,o,w⟩:=I.lstM f;have T:its.toArray.size+i.toArray.size<=sizeLine:=by rw[Az,Az];omega
 have p:¬(!its.toArray.isEmpty&&Builtin.List.listTooLong (its.toArray.size+i.toArray.size))=true:=by rw[vU T,Bool.and_false];exact AW
 refine D2 F.slot_list_extend ⟨_,e,rfl⟩ F.entry_list_extend (F.args_list_extend_2 _ _)
  (AutoSeq1.list_extend_list_list_0 l its.toArray n b i.toArray j p (by rw[Az];omega)<|by omega) ⟨e,w,?_⟩
 refine⟨.non,_,I.lset (its':=its++i) a e (!2) (r.append m) ?_,rfl,q⟩;rw[AD];omega
def Yn:V->List V->Hp->VK->Prop:=λx e H Q=>∃l xs y,x=.ref l/\e=[]/\H l=some (.lst xs)/\xs[xs.length-1]?=some y/\Q y (upd H l<|.lst xs.dropLast)
def lO:YV X "list.pop" Yn:=by
 intro qp s σ H x j v us Q I a b h;obtain⟨l,xs,y,rfl,rfl,T,c,q⟩:=h;cases a;have i:=b.zero;subst i;obtain⟨z,its,n,r,d,e⟩:=I.lstM T;obtain⟨u,f,g⟩:=r.get c;have p:its.toArray[its.toArray.size-1]?=some u:=by show its.toArray[its.length-1]?=some u;rw[<-Bs,<-d];exact f
 refine D2 F.slot_list_pop ⟨_,e,rfl⟩ F.entry_list_pop (F.args_list_pop_1 _) (MeetsSeq.list_pop_last l its.toArray n u p (by rw[Az];omega)) ⟨e,?_⟩;refine⟨y,_,I.lset (its':=its.dropLast) T e ?_ r.dropLast ?_,g,q⟩
 ·show its.toArray.eraseIdxIfInBounds (its.toArray.size-1)=its.dropLast.toArray;rw[Az,List.eraseIdxIfInBounds_toArray,zlx]
 rw[List.length_dropLast];omega
def Yt:R2:=λx y H Q=>∃l b xs zs,x=.ref l/\y=.ref b/\H l=some (.lst xs)/\H b=some (.lst zs)/\xs.length+zs.length<=sizeLine/\∀p,H p=none->Q (.ref p) (upd H p<|.lst<|xs++zs)
def lS:J6 X (binaryOp .Add) Yt:=by
 intro qp s σ H x y v u Q I p T h;obtain⟨l,b,xs,zs,rfl,rfl,a,c,m,q⟩:=h;cases p;cases T;obtain⟨z,its,n,r,o,e⟩:=I.lstM a;obtain⟨w,i,A,d,f,g⟩:=I.lstM c;refine PySem.P.add_list e g ?_ (by rw[Az,Az];omega);have j:its.toArray++i.toArray=(its++i).toArray:=by simp
 rw[j];exact⟨.ref _,_,I.lnew (t':=s.toks) (r.append d) (by rw[AD];omega),rfl,q _ I.fresh⟩
section
variable {prog:SZ}{w:World}{A:Around}{E:Qqa}
set_option maxRecDepth 100000 in
end
end L2
namespace Att
open PySem PySem.W PySem.Calls PyProof.Rows
def zfG{P:Params}{h:P3}:∀(ns:List Int) (vs:List IR),WellAll P h vs (ns.map WData.int)->IntsAre vs ns:=by
 intro ns
 induction ns with
 |nil=>
  intro vs w;rw[Bx]at w;cases w;exact .nil
 |cons n ns ih=>
  intro vs w;rw[An]at w;cases w with
  |cons a b=>
   cases a;exact .cons _ _<|ih _ b
def zP{l:OpenLaw}{n:Nat}(hn:l.most=some n){P:Params}{h:P3}{args:List WData}{vals:List IR}(b:l.row.toRowW.claim.pre args=true) (g:WellAll P h vals args):
  ∃a vs ns,vals=[AE a]/\args=[WData.list (ns.map WData.int)]/\h.get? a=some {cls:=.type "list",data:=.seq vs.toArray}/\IntsAre vs ns/\ns.length<=n:=by
 have i:WShape.hasAll [] args [.list .int]=true:=(pre_splitW b).1;have j:l.pre.holds [] {args:=args}=true:=(pre_splitW b).2;obtain⟨d,r,rfl,m,o⟩:=hasAllW_cons i;obtain rfl:=hasAllW_nil o;obtain⟨xs,rfl,p⟩:=hasW_list m;obtain⟨ns,rfl⟩:=items_int p;have hlen:ns.length<=n:=by
  unfold OpenLaw.pre at j;have e:(WTm.not<|.lt (.lit<|.int (n:Int))<|.len<|.arg 0).holds [] {args:=[.list (ns.map .int)]}=true:=by have e:=(holds_andW j).1;rw[hn]at e;exact e
  have f:=condW_of e<|w_not<|w_lt w_lit<|w_len_list<|w_arg rfl;rw[Af]at f;refine Nat.le_of_not_lt λq=>?_;have s:(n:Int)<((ns.length:Nat):Int):=by omega
  first
   |(rw[decide_eq_true s]at f;exact absurd f (!1))
   |(simp at f;omega)
 cases g with
 |cons u v=>
  cases v;cases u with
  |list w c=>exact⟨_,_,ns,rfl,rfl,w,zfG ns _ c,hlen⟩
def zmB(l:OpenLaw)(args:List WData):l.row.toRowW.claim.post args (.bool true) args=true:=
 postW_of (r:=l.row.toRowW) (X:=(true==true))
  (show WShape.has [] (.bool true) .bool=true by first|rfl|decide|simp[WShape.has,WShape.arms,WShape.armsAll])
  (show(WTm.eq .res<|.lit<|.bool true).value [] {args:=args,res:=some (.bool true),after:=args}=some (.bool<|true==true) from w_eq_bool (w_res rfl) w_lit) rfl
def K9{l:OpenLaw}{n:Nat}{q:SZ}{loose:List Str}{XP:(Str->Option IR)->P3->Prop}{YP:World->P3->Prop}{d:DefRec}(hn:l.most=some n) (h:d.params.defaults=[])(call:∀(w:World) (s₀ s₁:Shared) (g i:Str->Option IR) (b:Addr) (o:Obj) (pm cd doc:IR) (a:Addr) (vs:List IR) (ns:List Int),
   Ground q loose [] XP w s₀ g i s₁.heap->YP w s₁.heap ->
   s₁.heap.get? b=some o->o.data=.func (docDef d.name d.params d.body d.scope pm cd doc)->s₁.heap.CodeRec cd d.name->g d.name=some (.ref b) ->
   s₁.heap.get? a=some {cls:=.type "list",data:=.seq vs.toArray}->IntsAre vs ns->ns.length<=n->s₁.gens=#[] ->
   codeAny (KB l.prog w) callerA (.call (.ref b) ⟨[.ref a],[]⟩) (λr s'=>r=.ok (.ret<|.bool true)/\OldK s₁.heap s'.heap/\s'.os=s₁.os/\AllBare s'.gens) s₁):
  WalkO q loose XP YP l.row.toRowW d [] (λf vs=>Gk f vs):=by
 intro w s₀ s₁ g i G Y b o pm cd doc x kV y hd j u m z args vals as c v A p B;obtain rfl:x=.none:=Dflts.none u h;obtain rfl:kV=.none:=Dflts.noKw u;obtain⟨a,vs,ns,rfl,rfl,e,hints,hlen⟩:=zP hn c p;refine enter_call<|D7 (call w s₀ s₁ g i b o pm cd doc a vs ns G Y y (fd_plain hd) j m e hints hlen z) λr s' C=>?_;obtain⟨rfl,E,F,H⟩:=C;exact⟨.inl ⟨.bool true,.bool true,[],rfl,λ_=>rfl,.bool true,zmB l _,λ_=>⟨Cz,λ_ hm=>(nomatch hm)⟩⟩,E,F,H⟩
end Att
namespace L2
open PySem PySem.Spec PyProof.Rows
theorem dS:∀{vs:List IR}{ns:List Int},IntsAre vs ns->Vals (ns.map V.int) vs
 |_,_,.nil=>.nil
 |_,_,.cons n t h=>.cons ⟨t,rfl⟩<|dS h
def MJ(H:Hp):Prop:=∀b,H b=none\/∃o xs,H b=some (.frz o<|.lst xs)
variable {P:SZ}{w:World}{K:Ab}{mg:Str->Option IR}{k:Nat}{fd:FuncData}{x:Str}{sp:Sp}
def wM{J:Str->Option IR}{CX:N8}{L a:Addr}{x:Str}{s₁:Shared}{vs:List IR}{ns:List Int}(U:K.In s₁.heap) (j:s₁.heap.Ns UV mg) (f:s₁.heap.Ns builtinsNs J) (M:∀x:Str,x≠"__name__"->J x=UF x) (l:s₁.heap.NoLimit) (hg:s₁.gens=#[])(I:s₁.heap.get? a=some {cls:=.type "list",data:=.seq vs.toArray}) (hi:IntsAre vs ns) (W:ns.length<=sizeLine) (hr:HP k callerA)(F:∀base:P3,K.In base->base.Ns UV mg->Jj P w K mg base CX k L fd [x] sp) (i:∀(s:Shared) (u:IR),BindsTo s fd ⟨[u],[]⟩ [(x,u)])(N:∀H:Hp,MJ H->JT K H a (ns.map V.int)->sp [.ref a] H (λv _=>v=.bl true) λ_ _ _=>False)(Q:∀H e s',CX [] H s₁ (λ_ _ _=>False) e s'->False):
  codeAny (KB P w) callerA (.call (.ref L) ⟨[.ref a],[]⟩) (λr s'=>r=.ok (.ret (.bool true))/\OldK s₁.heap s'.heap/\s'.os=s₁.os/\AllBare s'.gens) s₁:=by
 have X:=dS hi;have p:=hi.length;have core:∀H:Hp,MJ H->JT K H a (ns.map V.int)->JD P w H s₁.heap->(∀b,H b≠none->b=a)->(H a≠none->K.lookup a=none) ->
   codeAny (KB P w) callerA (.call (.ref L) ⟨[.ref a],[]⟩) (λr s'=>r=.ok (.ret (.bool true))/\OldK s₁.heap s'.heap/\s'.os=s₁.os/\AllBare s'.gens) s₁:=by
  intro H Y hS y Z hK;have c:∀{b:Addr}{o:Obj},s₁.heap.get? b=some o->H b=none->(KI s₁.heap H).get? b=some o:=λe n=>wG e n;have S:∀{b:Addr}{o:Obj}{A:Array DictEntry}{B:Nat},s₁.heap.get? b=some o->o.data=.dict A B->H b=none:=λ{b o A B} e d=>by
   cases q:H b with
   |none=>rfl
   |some u=>
    have T:b=a:=Z b (by rw[q];simp);subst T;rw[I]at e;cases e;have d':Data.seq vs.toArray _=Data.dict A B:=d;cases d'
  have g:∀{b:Addr}{m:Str->Option IR},s₁.heap.Ns b m->(KI s₁.heap H).Ns b m:=λ{b m} ⟨o,A,B,e,d,r⟩=>⟨o,A,B,c e (S e d),d,r⟩;have C:K.In (KI s₁.heap H):=λb o e=>c (U b o e) (by
   cases q:H b with
   |none=>rfl
   |some u=>
    have T:b=a:=Z b (by rw[q];simp);subst T;rw[hK (by rw[q];simp)]at e;cases e)
  have hM:Mod K mg (KI s₁.heap H):=⟨C,g j,⟨J,g f,M⟩,let ⟨mc,h1,h2⟩:=l;⟨mc,g h1,h2⟩⟩;have e0:LA P w K mg (KI s₁.heap H) callerA [] s₁ H:=⟨rfl,hM,λb o e=>sT e,D5 (zK _ _),trivial,λb f=>absurd (show b∈([]:List Addr) from f) (!2),y,.of_eq hg⟩
  refine D7 ((F _ C (g j)).run callerA [] s₁ H ⟨[.ref a],[]⟩ [.ref a] [.ref a] _ _ hr e0 (i s₁ (.ref a)) (.cons rfl .nil) (N H Y hS)) λr s' h=>?_;cases r with
  |error e=>exact(Q H e s' h).elim
  |ok fl=>
   cases fl with
   |next=>exact False.elim h
   |brk=>exact False.elim h
   |cont=>exact False.elim h
   |ret u=>
    obtain⟨v,H',os,bare,un,E,r',q⟩:=h;have q':v=.bl true:=q;subst q';obtain rfl:u=CH true:=r';refine⟨rfl,OldK.of_keep λb o e=>?_,os,bare⟩;cases q:H b with
    |none=>exact un.keep b o e q (by intro z;exact absurd (show b∈([]:List Addr) from z) (!2)) (!2)
    |some u=>
     rcases Y b with z|⟨ob,xs,z⟩
     ·rw[q]at z;cases z
     have z2:=un.frzs b ob _ z;obtain⟨e1,_⟩:=y b _ z;obtain⟨e2,_⟩:=E b _ z2;rw[e]at e1;cases e1;exact e2
 cases hk:K.lookup a with
 |some o=>
  have e:=U a o hk;rw[I]at e;cases e;refine core (λ_=>none) (λ_=>.inl rfl) (.inr ⟨_,vs.toArray,_,hk,rfl,rfl,rfl,by rw[Az,p];exact W,by simpa using X⟩) (λb u z=>by have G:(none:Option HO)=some u:=z;cases G) (λb z=>absurd rfl z) λz=>absurd rfl z
 |none=>
  refine core (λb=>if b=a then some (.frz {cls:=.type "list",data:=.seq vs.toArray} (.lst (ns.map V.int)))else none) (λb=>?_) (.inl (.inr ⟨{cls:=.type "list",data:=.seq vs.toArray},if_pos rfl⟩)) (λb u z=>?_) (λb z=>?_) λ_=>hk
  ·by_cases f:b=a
   ·exact .inr ⟨_,_,if_pos f⟩
   exact .inl (if_neg f)
  ·by_cases f:b=a
   ·have G:=(if_pos f).symm.trans z;cases G;subst f;exact⟨I,by rw[Af];exact W,vs,_,X,I⟩
   have G:=(if_neg f).symm.trans z;cases G
  ·by_cases f:b=a
   ·exact f
   exact absurd (if_neg f) z
def NK{l:PySem.W.OpenLaw}{n:Nat}{q:SZ}{loose:List Str}{XP:(Str->Option IR)->P3->Prop}{YP:World->P3->Prop}{d:DefRec}{K:Params->Ab}{CX:World->N8}{sp:World->Sp}(hn:l.most=some n) (i:n<=sizeLine) (j:d.params.defaults=[]) (z:HP k callerA)(A:∀(w:World) (h:P3),YP w h->(K w.params).In h)(F:∀(w:World) (mg:Str->Option IR) (c:Addr) (h:P3),(K w.params).In h->h.Ns UV mg->mg d.name=some (.ref c) ->
   ∃fd:FuncData,(∀(s:Shared) (u:IR),BindsTo s fd ⟨[u],[]⟩ [(x,u)]) /\
    ∀base:P3,(K w.params).In base->base.Ns UV mg->Jj l.prog w (K w.params) mg base (CX w) k c fd [x] (sp w))
  (m:∀(w:World) (H:Hp) (a:Addr) (ns:List Int),ns.length<=n->MJ H->JT (K w.params) H a (ns.map V.int)->sp w [.ref a] H (λv _=>v=.bl true) λ_ _ _=>False)
  (p:∀(w:World) (H:Hp) (s:Shared) (e:IR) (s':Shared),CX w [] H s (λ_ _ _=>False) e s'->False):
  PySem.W.WalkO q loose XP YP l.row.toRowW d [] (λf vs=>Gk f vs):=by
 refine Att.K9 hn j λw s₀ s₁ mg M c o pm cd doc a vs ns G Y N hd B r P hints hlen C=>?_;have y:=A w _ Y;obtain⟨fd,E,I⟩:=F w mg c _ y G.T.g r;exact wM y G.T.g G.T.b G.T.builtins G.T.nolimit C P hints (AB hlen i) z I E (λH J L=>m w H a ns hlen J L) λH e s'=>p w H s₁ e s'
def inClass(s:W1)(j:Nat):W1:=match s with
 |.ClassDef _ _ _ body _ _ _ _ _ _ _=>body.getD j<|.Pass ⟨0,0,0,0⟩
 |_=>.Pass ⟨0,0,0,0⟩
def LQ(s:W1):Arguments:=match s with
 |.FunctionDef _ a _ _ _ _ _ _ _ _=>a
 |_=>{posonlyargs:=[],args:=[],vararg:=none,kwonlyargs:=[],kw_defaults:=[],kwarg:=none,defaults:=[]}
def Kw(s:W1):List W1:=match s with
 |.FunctionDef _ _ b _ _ _ _ _ _ _=>b
 |_=>[]
def Ja(s:W1):Scope:=match s with
 |.FunctionDef _ _ _ _ _ _ sc _ _ _=>sc
 |_=>{kind:=.function,names:=[],isGenerator:=false,isCoroutine:=false}
noncomputable abbrev KG:N8:=λ_ _ _ _ _ _=>False
noncomputable abbrev E0:XK:=λ_ _ _=>False
def Ti{X:Cx}:Passes KG X E0:=λ_ _ _ _ _ _ _ h=>h.elim
structure Mm(K:Ab)(x qual:Str)(st:W1)(f:Addr)(fd:FuncData):Prop where
 ex:∃(oc:IR) (od:Option Addr) (kV doc pm:IR) (an:Option Addr) (cdv ct:IR) (osl:Array (Option IR)),
  fd=Bw x qual (LQ st) (Kw st) (Ja st) .none kV doc pm an cdv ct/\K.lookup f=some ⟨oc,od,.func fd,osl⟩/\Cd K cdv qual=true
 kp:Bi K (.ref f)=true
variable {qual:Str}{st:W1}{f:Addr}{ps:List Str}
section
variable {base:P3}
def Mm.ok{N:List Str}(F:Mm K x qual st f fd)(S:IQ N ps (Ja st))(len:∀vs H Q E,sp vs H Q E->vs.length=ps.length)(b:∀(a:IR) (A:Around) (outer:List Env) (s:Shared) (H:Hp) (vs:List V) (Q:VK) (E:XK),HP k (A.deeper<|envOfC qual (Ja st) s.heap.objs.size f a)->sp vs H Q E ->
   ∃t,KN (JR KG P w K mg base N qual (Ja st) f a A outer s H E).nox (Kw st) t/\t {nx:=λ_ e=>Q .non e,rt:=Q} (start N vs) H):Jj P w K mg base KG (k+1) f fd ps sp:=by
 obtain⟨l,m,kV,doc,pm,an,a,n,g,rfl,i,c⟩:=F.ex;refine jG i c S len λA outer s H vs Q E j d=>?_;obtain⟨t,h,q⟩:=b a A outer s H vs Q E j d;exact⟨t,h.nox,q⟩
def Mm.binds(F:Mm K x qual st f fd)(h:∀(kV doc pm:IR) (an:Option Addr) (a b:IR) (us:List IR),us.length=ps.length->bindArgs (Bw x qual (LQ st) (Kw st) (Ja st) .none kV doc pm an a b) ⟨us,[]⟩=pure (ps.zip us)):Binds K fd ps []:=by
 obtain⟨c,d,kV,doc,pm,an,a,b,w,rfl,e,P⟩:=F.ex;exact .all<|h kV doc pm an a b
def O5{x qual:Str}{st:W1}{e:IR}{g an:Option Addr}{b:Array (Option IR)}{kV doc pm a d:IR}(l:K.lookup f=some ⟨e,g,.func<|Bw x qual (LQ st) (Kw st) (Ja st) .none kV doc pm an a d,b⟩)(c:Cd K a qual=true) (k:Bi K (.ref f)=true):Mm K x qual st f (Bw x qual (LQ st) (Kw st) (Ja st) .none kV doc pm an a d):=⟨⟨e,g,kV,doc,pm,an,a,d,b,rfl,l,c⟩,k⟩
end
def Hv{A:Around}(a:HP k A):A.units+1<cLine:=BM (DC (by decide:1<=64) _) a.units
end L2
namespace L2.MP
open PySem PySem.Spec PyProof.Rows
inductive D where
 |non|bl (b:Bool)|int (i:Int)|str (x:Str)|tup (xs:List D)|ref (n:Nat)|kl (xs:List D)|fn (x:Str)|er (b:Bool) (c:Str) (f:Option (Str×Int))
inductive O where
 |lst (xs:List D)|fz (xs:List D)|dk (kvs:List (Key×D))|dt (kvs:List (List Key×D))|fk (kvs:List (Key×D))|ft (kvs:List (List Key×D))|ob (C:Addr) (fs:List (Str×D))|sz (n:Nat)|dz
noncomputable abbrev Hg:=List O
noncomputable abbrev Ii:=List (Option D)
structure Kp(H H':Hp):Prop where
 tup:∀a xs,H a=some (.tup xs)->H' a=some (.tup xs)
 frz:∀a o u,H a=some (.frz o u)->H' a=some (.frz o u)
def Nk(K:Ab)(H:Hp)(a:Addr)(xs:List V):Prop:=(∃o,H a=some (.frz o<|.lst xs))\/∃(o:Obj) (b:Array IR) (n:Nat),K.lookup a=some o/\o.cls=.type "list"/\o.dict=none/\o.data=.seq b n/\b.size<=sizeLine/\Vals xs b.toList
variable {K:Ab}{H:Hp}{a:Addr}{xs:List V}
def Nk.sq(h:Nk K H a xs):JT K H a xs:=by
 rcases h with h|h
 ·exact .inl<|.inr h
 exact .inr h
variable {H':Hp}
def Nk.kp(T:Kp H H')(h:Nk K H a xs):Nk K H' a xs:=by
 rcases h with⟨o,h⟩|h
 ·exact .inl ⟨o,T.frz _ _ _ h⟩
 exact .inr h
def PL(K:Ab)(x:Str)(a:Addr):Prop:=Dt K UV x=some (some<|.ref a)
def iU(C a:Addr)(b:Option Addr)(h:P3):Prop:=∃o fs,h.get? a=some o/\o.cls=.ref C/\o.dict=b/\o.data=.fields fs
def Vg(K:Ab)(H:Hp)(v:V)(c:Str):Option (Str×Int)->Prop
 |none=>∃a C o,v=.ref a/\PL K c C/\H a=some (.frz o<|.ext<|iU C a none)
 |some (f,n)=>∃a C o b d,v=.ref a/\PL K c C/\H a=some (.frz o<|.ext<|iU C a<|some b)/\H b=some (.frz d<|.xd [(f,.int n)])
variable {v:V}
def Vg.kp{c:Str}{f:Option (Str×Int)}(T:∀a o u,H a=some (.frz o u)->(∀ps,u≠.dT ps)->H' a=some (.frz o u))(h:Vg K H v c f):Vg K H' v c f:=by
 cases f with
 |none=>
  obtain⟨a,C,o,e,q,r⟩:=h;exact⟨a,C,o,e,q,T _ _ _ r<|by simp⟩
 |some p=>
  obtain⟨a,C,o,b,d,e,q,r,z⟩:=h;exact⟨a,C,o,b,d,e,q,T _ _ _ r<|by simp,T _ _ _ z<|by simp⟩
mutual
def Rep(K:Ab)(H:Hp)(io:List Addr):V->D->Prop
 |v,.non=>v=.non
 |v,.bl b=>v=.bl b
 |v,.int i=>v=.int i
 |v,.str x=>v=.str x
 |v,.tup ds=>∃a xs,v=.ref a/\H a=some (.tup xs)/\Hj K H io xs ds
 |v,.ref n=>∃a,v=.ref a/\io[n]?=some a
 |v,.kl ds=>∃a xs,v=.ref a/\Nk K H a xs/\Hj K H io xs ds
 |v,.fn x=>∃a,v=.ref a/\PL K x a
 |v,.er b c f=>b=true/\Vg K H v c f
def Hj(K:Ab)(H:Hp)(io:List Addr):List V->List D->Prop
 |xs,[]=>xs=[]
 |xs,d::ds=>∃y b,xs=y::b/\Rep K H io y d/\Hj K H io b ds
end
variable {io ka:List Addr}
mutual
theorem Rep.mono{K:Ab}{H H':Hp}{io ka:List Addr}(T:Kp H H'):∀{v:V}{d:D},Rep K H io v d->Rep K H' (io++ka) v d
 |_,.non,h=>h
 |_,.bl _,h=>h
 |_,.int _,h=>h
 |_,.str _,h=>h
 |_,.tup ds,h=>by obtain⟨a,xs,e,q,r⟩:=h;exact⟨a,xs,e,T.tup a xs q,Hj.mono T r⟩
 |_,.ref n,h=>by obtain⟨a,e,q⟩:=h;exact⟨a,e,by rw[Am (KF.mp q).1];exact q⟩
 |_,.kl ds,h=>by obtain⟨a,xs,e,q,r⟩:=h;exact⟨a,xs,e,q.kp T,Hj.mono T r⟩
 |_,.fn _,h=>h
 |_,.er _ _ _,h=>⟨h.1,h.2.kp λa o u q _=>T.frz a o u q⟩
theorem Hj.mono{K:Ab}{H H':Hp}{io ka:List Addr}(T:Kp H H'):∀{xs:List V}{ds:List D},Hj K H io xs ds->Hj K H' (io++ka) xs ds
 |_,[],h=>h
 |_,d::ds,h=>by obtain⟨y,b,e,r,rs⟩:=h;exact⟨y,b,e,Rep.mono T r,Hj.mono T rs⟩
end
variable {H1 H2:Hp}{kb:List Addr}{st st':Hg}{d:D}{o:HO}{U:Ii}{p:Addr}{ob:O}
section
variable {ys:List V}{ds es:List D}
theorem Hj.length:∀{xs:List V}{ds:List D},Hj K H io xs ds->xs.length=ds.length
 |_,[],h=>by rw[show _=[] from h];rfl
 |_,d::ds,h=>by obtain⟨y,ys,e,_,rs⟩:=h;rw[e,Ay,Ay,Hj.length rs]
theorem Hj.get:∀{xs:List V}{ds:List D}{i:Nat}{d:D},Hj K H io xs ds->ds[i]?=some d->∃v,xs[i]?=some v/\Rep K H io v d
 |_,[],_,_,_,e=>by simp at e
 |_,a::ds,0,d,h,e=>by
  obtain⟨y,ys,rfl,r,_⟩:=h;have o:a=d:=by simpa using e
  subst o;exact⟨y,rfl,r⟩
 |_,a::ds,i+1,d,h,e=>by obtain⟨y,ys,rfl,_,rs⟩:=h;exact Hj.get (i:=i) rs<|by simpa using e
theorem Hj.append:∀{xs ys:List V}{ds es:List D},Hj K H io xs ds->Hj K H io ys es->Hj K H io (xs++ys) (ds++es)
 |_,_,[],_,h,q=>by rw[show _=[] from h];exact q
 |_,_,d::ds,_,h,q=>by obtain⟨y,ys,rfl,r,rs⟩:=h;exact⟨y,_,rfl,r,Hj.append rs q⟩
theorem Hj.set:∀{xs:List V}{ds:List D}{v:V}{d:D} (i:Nat),Hj K H io xs ds->Rep K H io v d->Hj K H io (xs.set i v) (ds.set i d)
 |_,[],_,_,_,h,_=>by rw[show _=[] from h];exact rfl
 |_,a::ds,v,d,0,h,q=>by obtain⟨y,ys,rfl,_,rs⟩:=h;exact⟨v,ys,rfl,q,rs⟩
 |_,a::ds,v,d,i+1,h,q=>by obtain⟨y,ys,rfl,r,rs⟩:=h;exact⟨y,_,rfl,r,Hj.set i rs q⟩
theorem Hj.take:∀{xs:List V}{ds:List D} (n:Nat),Hj K H io xs ds->Hj K H io (xs.take n) (ds.take n)
 |_,[],n,h=>by rw[show _=[] from h];simp[Hj]
 |_,_::_,0,_=>by simp[Hj]
 |_,d::ds,n+1,h=>by obtain⟨y,ys,rfl,r,rs⟩:=h;exact⟨y,_,rfl,r,Hj.take n rs⟩
theorem Hj.drop:∀{xs:List V}{ds:List D} (n:Nat),Hj K H io xs ds->Hj K H io (xs.drop n) (ds.drop n)
 |_,[],n,h=>by rw[show _=[] from h];simp[Hj]
 |_,_::_,0,h=>h
 |_,d::ds,n+1,h=>by obtain⟨y,ys,rfl,r,rs⟩:=h;exact Hj.drop n rs
theorem Hj.nil:Hj K H io [] []:=rfl
def Hj.cons(r:Rep K H io v d)(rs:Hj K H io xs ds):Hj K H io (v::xs) (d::ds):=⟨v,xs,rfl,r,rs⟩
def Hj.one(r:Hj K H io xs [d]):∃v,xs=[v]/\Rep K H io v d:=by
 obtain⟨y,ys,rfl,r,e⟩:=r;cases (show ys=[] from e)
 exact⟨y,rfl,r⟩
def Hj.two{e:D}(r:Hj K H io xs [d,e]):∃v u,xs=[v,u]/\Rep K H io v d/\Rep K H io u e:=by obtain⟨y,ys,rfl,r,q⟩:=r;obtain⟨v,rfl,a⟩:=q.one;exact⟨y,v,rfl,r,a⟩
noncomputable abbrev KR (κ:Type) (K:Ab) (H:Hp) (io:List Addr):List (κ×V)->List (κ×D)->Prop:=Paired λ(p:κ×V) (q:κ×D)=>p.1=q.1/\Rep K H io p.2 q.2
def YU(a:Addr)(n:Nat)(h:P3):Prop:=∃o es d t,h.get? a=some o/\o.ExactSet/\o.data=.set es d t/\es.size<scanBound/\t.fits es.size=true/\es.size=n
def iV(a:Addr)(h:P3):Prop:=∃o es d,h.get? a=some o/\o.ExactDict/\o.data=.dict es d
def OR(K:Ab)(H:Hp)(io:List Addr)(a:Addr):O->Prop
 |.lst ds=>∃xs,H a=some (.lst xs)/\Hj K H io xs ds
 |.fz ds=>∃o xs,H a=some (.frz o<|.lst xs)/\Hj K H io xs ds
 |.dk kvs=>∃ps,H a=some (.dK ps)/\KR Key K H io ps kvs
 |.dt kvs=>∃ps,H a=some (.dT ps)/\KR (List Key) K H io ps kvs
 |.fk kvs=>∃o ps,H a=some (.frz o<|.dK ps)/\KR Key K H io ps kvs
 |.ft kvs=>∃o ps,H a=some (.frz o<|.dT ps)/\KR (List Key) K H io ps kvs
 |.ob C fs=>∃b ps,H a=some (.ins C b ps)/\KR Str K H io ps fs
 |.sz n=>H a=some (.ext<|YU a n)
 |.dz=>H a=some (.ext<|iV a)
structure HC(K:Ab)(H:Hp)(io:List Addr)(st:Hg):Prop where
 len:io.length=st.length
 nd:io.Nodup
 ob:∀(n:Nat) (a:Addr) (o:O),io[n]?=some a->st[n]?=some o->OR K H io a o
structure HK(K:Ab)(H:Hp)(io:List Addr)(σ:St)(U:Ii):Prop where
 len:σ.length=U.length
 at_:∀(i:Nat) (d:D),U[i]?=some (some d)->∃v,σ[i]?=some (some v)/\Rep K H io v d
structure Ext(io ka:List Addr)(H H':Hp):Prop where
 keep:∀b o,H b=some o->b∉io->H' b=some o
 fresh:∀b,b∈ka->H b=none
 frz:∀b o u,H b=some (.frz o u)->H' b=some (.frz o u)
def OR.stands{o:O}(h:OR K H io a o):∃u,H a=some u/\∀xs,u≠.tup xs/\∀ob,u≠.frz ob (.tup xs):=by
 cases o with
 |lst ds=>obtain⟨xs,e,_⟩:=h;exact⟨_,e,λ_=>⟨by simp,by simp⟩⟩
 |fz ds=>obtain⟨ob,xs,e,_⟩:=h;exact⟨_,e,λ_=>⟨by simp,by simp⟩⟩
 |dk d=>obtain⟨xs,e,_⟩:=h;exact⟨_,e,λ_=>⟨by simp,by simp⟩⟩
 |dt d=>obtain⟨xs,e,_⟩:=h;exact⟨_,e,λ_=>⟨by simp,by simp⟩⟩
 |fk d=>obtain⟨ob,xs,e,_⟩:=h;exact⟨_,e,λ_=>⟨by simp,by simp⟩⟩
 |ft d=>obtain⟨ob,xs,e,_⟩:=h;exact⟨_,e,λ_=>⟨by simp,by simp⟩⟩
 |ob C fs=>obtain⟨p,xs,e,_⟩:=h;exact⟨_,e,λ_=>⟨by simp,by simp⟩⟩
 |sz n=>exact⟨_,h,λ_=>⟨by simp,by simp⟩⟩
 |dz=>exact⟨_,h,λ_=>⟨by simp,by simp⟩⟩
def HC.mem(S:HC K H io st)(h:a∈io):∃u,H a=some u/\∀xs,u≠.tup xs/\∀ob,u≠.frz ob (.tup xs):=by
 obtain⟨n,d,e⟩:=CN h;have o:io[n]?=some a:=by rw[Ai d,e]
 have p:n<st.length:=by rw[<-S.len];exact d
 exact(S.ob n a _ o<|Ai p).stands
def Ext.sqT(S:HC K H io st)(E:Ext io ka H H'):∀a xs,H a=some (.tup xs)->H' a=some (.tup xs):=by intro a xs h;refine E.keep _ _ h λm=>?_;obtain⟨u,e,q⟩:=S.mem m;rw[h]at e;exact(q xs).1 (AA e).symm
def Ext.kp(S:HC K H io st)(E:Ext io ka H H'):Kp H H':=⟨E.sqT S,E.frz⟩
def Ext.refl:Ext io [] H H:=⟨λ_ _ h _=>h,λ_ h=>absurd h (!2),λ_ _ _ h=>h⟩
def Ext.trans(S1:HC K H1 (io++ka) st)(E1:Ext io ka H H1)(E2:Ext (io++ka) kb H1 H2):Ext io (ka++kb) H H2 where
 keep:=λb o h n=>E2.keep b o (E1.keep b o h n) λm=>by
  rcases On.mp m with m|m
  ·exact n m
  rw[E1.fresh b m]at h;cases h
 fresh:=λb m=>by
  rcases On.mp m with m|m
  ·exact E1.fresh b m
  ·have a:=E2.fresh b m
   cases e:H b with
   |none=>rfl
   |some o=>
    by_cases d:b∈io
    ·obtain⟨u,p,_⟩:=S1.mem<|AK _ d;rw[p]at a;cases a
    rw[E1.keep b o e d]at a;cases a
 frz:=λb o u h=>E2.frz b o u (E1.frz b o u h)
def Ext.app(E:Ext io (ka++[]) H H'):Ext io ka H H':=by rw[Ap]at E;exact E
def Rep.ext(S:HC K H io st)(E:Ext io ka H H')(h:Rep K H io v d):Rep K H' (io++ka) v d:=Rep.mono (E.kp S) h
def Hj.ext(S:HC K H io st)(E:Ext io ka H H')(h:Hj K H io xs ds):Hj K H' (io++ka) xs ds:=Hj.mono (E.kp S) h
def HK.ext{σ:St}{U:Ii}(h:HK K H io σ U)(S:HC K H io st)(E:Ext io ka H H'):HK K H' (io++ka) σ U:=⟨h.len,λi d e=>let ⟨v,q,r⟩:=h.at_ i d e;⟨v,q,r.ext S E⟩⟩
def HK.set{σ:St}{U:Ii}{v:V}{d:D}(i:Nat)(h:HK K H io σ U)(r:Rep K H io v d):HK K H io (σ.set i<|some v) (U.set i<|some d):=by
 refine⟨by rw[Bk,Bk];exact h.len,λj e q=>?_⟩
 by_cases hij:i=j
 ·subst hij;rw[De]at q;rw[if_pos rfl]at q
  split at q
  ·rename_i a
   cases (AA<|AA q)
   exact⟨v,by rw[De,if_pos rfl,if_pos (by rw[h.len];exact a)],r⟩
  ·cases q
 rw[Ah hij]at q;obtain⟨u,o,p⟩:=h.at_ j e q;exact⟨u,by rw[Ah hij];exact o,p⟩
def HC.nil(S:HC K H io st):HC K H (io++[]) st:=by rw[Ap];exact S
def KR.mono{κ:Type}{ps:List (κ×V)}{kvs:List (κ×D)}(T:Kp H H')(h:KR κ K H io ps kvs):KR κ K H' (io++ka) ps kvs:=Paired.mapP h λ_ _ z=>⟨z.1,Rep.mono T z.2⟩
def OR.mono{a:Addr}{o:O}(T:Kp H H')(e:H' a=H a)(h:OR K H io a o):OR K H' (io++ka) a o:=by
 cases o with
 |lst ds=>obtain⟨xs,q,r⟩:=h;exact⟨xs,e.trans q,Hj.mono T r⟩
 |fz ds=>obtain⟨ob,xs,q,r⟩:=h;exact⟨ob,xs,e.trans q,Hj.mono T r⟩
 |dk d=>obtain⟨xs,q,r⟩:=h;exact⟨xs,e.trans q,KR.mono T r⟩
 |dt d=>obtain⟨xs,q,r⟩:=h;exact⟨xs,e.trans q,KR.mono T r⟩
 |fk d=>obtain⟨ob,xs,q,r⟩:=h;exact⟨ob,xs,e.trans q,KR.mono T r⟩
 |ft d=>obtain⟨ob,xs,q,r⟩:=h;exact⟨ob,xs,e.trans q,KR.mono T r⟩
 |ob C fs=>obtain⟨p,xs,q,r⟩:=h;exact⟨p,xs,e.trans q,KR.mono T r⟩
 |sz n=>exact e.trans h
 |dz=>exact e.trans h
def Rj(S:HC K H io st)(c:H p=none):Ext io [] H (upd H p o)/\HC K (upd H p o) (io++[]) st:=by
 have E:Ext io [] H (upd H p o):=⟨λb u h _=>by rw[HV (Kk h c)];exact h,λ_ h=>absurd h (!2),λb u v h=>by rw[HV (Kk h c)];exact h⟩
 refine⟨E,?_⟩;refine⟨by rw[Ap];exact S.len,by rw[Ap];exact S.nd,λn a ob d U=>?_⟩;rw[Ap]at d;obtain⟨u,e,_⟩:=(S.ob n a ob d U).stands;exact OR.mono (E.kp S) (HV<|Kk e c)<|S.ob n a ob d U
def PZ(S:HC K H io st)(c:H p=none)(new:∀H',Kp H H'->H' p=some o->OR K H' (io++[p]) p ob):Ext io [p] H (upd H p o)/\HC K (upd H p o) (io++[p]) (st++[ob]):=by
 have E:Ext io [p] H (upd H p o):=⟨λb u h _=>by rw[HV (Kk h c)];exact h,λb h=>by rw[KM.mp h];exact c,λb u v h=>by rw[HV (Kk h c)];exact h⟩
 have np:p∉io:=λm=>by obtain⟨u,g,_⟩:=S.mem m;rw[c]at g;cases g
 refine⟨E,by simp[S.len],?_,λn a U d f=>?_⟩
 ·rw[FR];refine⟨S.nd,by simp,λa i b j=>?_⟩;rw[KM.mp j];rintro rfl;exact np i
 ·by_cases hn:n<io.length
  ·rw[Am hn]at d;rw[Am (by rw[<-S.len];exact hn)]at f;obtain⟨u,g,_⟩:=(S.ob n a U d f).stands;exact OR.mono (E.kp S) (HV<|Kk g c)<|S.ob n a U d f
  ·have l:n<(io++[p]).length:=(KF.mp d).1;rw[AD,Br]at l;have e:n=io.length:=by omega
   subst e;rw[A0 (Ag _),Du]at d;rw[S.len,A0 (Ag _),Du]at f;cases (AA d);cases (AA f);exact new _ (E.kp S) Lc
def M6{n:Nat}{o:HO}{old:O}(S:HC K H io st)(hn:io[n]?=some p)(g:st[n]?=some old)(nf:∀o u,H p≠some (.frz o u))(new:∀H',Kp H H'->H' p=some o->OR K H' (io++[]) p ob):Ext io [] H (upd H p o)/\HC K (upd H p o) (io++[]) (st.set n ob):=by
 have f:p∈io:=AG hn;have E:Ext io [] H (upd H p o):=⟨λb u h nb=>by rw[HV (λe=>nb (by rw[e];exact f))];exact h,λb h=>absurd h (!2),λb u v h=>by
  by_cases hb:b=p
  ·subst hb;exact absurd h<|nf u v
  rw[HV hb];exact h⟩
 refine⟨E,by simp[S.len],by rw[Ap];exact S.nd,λm a U h1 d=>?_⟩;rw[Ap]at h1
 by_cases hm:m=n
 ·subst hm;rw[hn]at h1
  cases (AA h1);rw[De,if_pos rfl]at d;split at d
  ·cases (AA d)
   exact new _ (E.kp S) Lc
  ·cases d
 ·rw[Ah (λe=>hm e.symm)]at d;have c:a≠p:=λe=>by
   subst e;exact hm<|(FS (KF.mp h1).1 S.nd).mp<|h1.trans hn.symm
  exact OR.mono (E.kp S) (HV c)<|S.ob m a U h1 d
end
noncomputable abbrev ME:=Ii->Hg->Option (D×Hg)
noncomputable abbrev MT:=Ii->Hg->Option (Bool×Hg)
noncomputable abbrev MA:=Ii->Hg->Option (List D×Hg)
inductive Fl where
 |nx (U:Ii)|rt (d:D)|bk (U:Ii)|ct (U:Ii)
noncomputable abbrev MS:=Ii->Hg->Option (Fl×Hg)
noncomputable abbrev MG:=D->Ii->Hg->Option (Ii×Hg)
noncomputable abbrev N3:=List D->Ii->Hg->Option (Ii×Hg)
def Bh(K:Ab)(io:List Addr)(H:Hp)(st':Hg)(d:D)(Q:VK):Prop:=∀v H' ka,Ext io ka H H'->HC K H' (io++ka) st'->Rep K H' (io++ka) v d->Q v H'
inductive tE (K:Ab) (m:ME) (σ:L2.St) (H:Hp) (Q:VK):Prop
 |mk (U:Ii) (st:Hg) (io:List Addr) (d:D) (st':Hg) (h1:HK K H io σ U) (h2:HC K H io st) (h3:m U st=some (d,st')) (h4:Bh K io H st' d Q)
inductive tT (K:Ab) (m:MT) (σ:L2.St) (H:Hp) (Q:Bool->Hp->Prop):Prop
 |mk (U:Ii) (st:Hg) (io:List Addr) (b:Bool) (st':Hg) (h1:HK K H io σ U) (h2:HC K H io st) (h3:m U st=some (b,st')) (h4:∀H' ka,Ext io ka H H'->HC K H' (io++ka) st'->Q b H')
inductive tA (K:Ab) (m:MA) (σ:L2.St) (H:Hp) (Q:List V->Hp->Prop):Prop
 |mk (U:Ii) (st:Hg) (io:List Addr) (ds:List D) (st':Hg) (h1:HK K H io σ U) (h2:HC K H io st) (h3:m U st=some (ds,st')) (h4:∀vs H' ka,Ext io ka H H'->HC K H' (io++ka) st'->Hj K H' (io++ka) vs ds->Q vs H')
def tS(K:Ab)(m:MS):TS:=λN σ H=>∃U st io f st',HK K H io σ U/\HC K H io st/\m U st=some (f,st') /\
 match f with
 |.nx a=>∀σ' H' ka,Ext io ka H H'->HC K H' (io++ka) st'->HK K H' (io++ka) σ' a->N.nx σ' H'
 |.bk a=>∀σ' H' ka,Ext io ka H H'->HC K H' (io++ka) st'->HK K H' (io++ka) σ' a->N.bk σ' H'
 |.ct a=>∀σ' H' ka,Ext io ka H H'->HC K H' (io++ka) st'->HK K H' (io++ka) σ' a->N.ct σ' H'
 |.rt d=>Bh K io H st' d N.rt
inductive tG (K:Ab) (m:MG) (v:V) (σ:L2.St) (H:Hp) (Q:L2.St->Hp->Prop):Prop
 |mk (d:D) (U:Ii) (st:Hg) (io:List Addr) (U':Ii) (st':Hg) (h0:Rep K H io v d) (h1:HK K H io σ U) (h2:HC K H io st) (h3:m d U st=some (U',st')) (h4:∀σ' H' ka,Ext io ka H H'->HC K H' (io++ka) st'->HK K H' (io++ka) σ' U'->Q σ' H')
inductive tGs (K:Ab) (m:N3) (vs:List V) (σ:L2.St) (H:Hp) (Q:L2.St->Hp->Prop):Prop
 |mk (ds:List D) (U:Ii) (st:Hg) (io:List Addr) (U':Ii) (st':Hg) (h0:Hj K H io vs ds) (h1:HK K H io σ U) (h2:HC K H io st) (h3:m ds U st=some (U',st')) (h4:∀σ' H' ka,Ext io ka H H'->HC K H' (io++ka) st'->HK K H' (io++ka) σ' U'->Q σ' H')
def SE(X:Cx)(e:Pv)(m:ME):Prop:=PE X e<|tE X.K m
def SB(X:Cx)(e:Pv)(m:MT):Prop:=PT X e<|tT X.K m
def SA(X:Cx)(es:List Pv)(m:MA):Prop:=PA X es<|tA X.K m
def SS(X:Cx)(s:W1)(m:MS):Prop:=PS X s<|tS X.K m
def KL(X:Cx)(s:List W1)(m:MS):Prop:=KN X s<|tS X.K m
def SG(X:Cx)(e:Pv)(m:MG):Prop:=PG X e<|tG X.K m
def Vc(X:Cx)(e:List Pv)(m:N3):Prop:=Nl X e<|tGs X.K m
variable {σ:L2.St}{b:Bool}{pos:Pos}{t u:TT}{Q:VK}{op:CmpOp}{s1:Hg}{rs:List Pv}
section
variable {X:Cx}{e a b c:Pv}{es:List Pv}{st1 st2:W1}{rest body orelse:List W1}{m ma mb mc:ME}{mt mu:MT}{mm:MA}{ms mq mr:MS}{mg:MG}{mgs:N3}
def PE.imp{t u:TE}(h:PE X e t)(k:∀σ H Q,u σ H Q->t σ H Q):PE X e u:=λa s σ H Q I q=>h a s σ H Q I<|k σ H Q q
def PT.imp(h:PT X e t)(k:∀σ H Q,u σ H Q->t σ H Q):PT X e u:=λa s σ H Q I q=>h a s σ H Q I<|k σ H Q q
def PA.imp{t u:TA}(h:PA X es t)(k:∀σ H Q,u σ H Q->t σ H Q):PA X es u:=λp a s σ H Q I q=>h p a s σ H Q I<|k σ H Q q
def PS.imp{t u:TS}(h:PS X st1 t)(k:∀N σ H,u N σ H->t N σ H):PS X st1 u:=λa s σ H N I q=>h a s σ H N I<|k N σ H q
def KN.imp{t u:TS}(h:KN X rest t)(k:∀N σ H,u N σ H->t N σ H):KN X rest u:=λa s σ H N I q=>h a s σ H N I<|k N σ H q
def PG.imp{t u:TG}(h:PG X e t)(k:∀v σ H Q,u v σ H Q->t v σ H Q):PG X e u:=λa s σ H v w Q I r q=>h a s σ H v w Q I r<|k v σ H Q q
def Nl.imp{t u:OL}(h:Nl X es t)(k:∀v σ H Q,u v σ H Q->t v σ H Q):Nl X es u:=λa s σ H v w Q I r q=>h a s σ H v w Q I r<|k v σ H Q q
def Hu{α β:Type}{x:Option α}{f:α->Option β}{y:β}(h:x.bind f=some y):∃z,x=some z/\f z=some y:=by
 cases x with
 |none=>cases h
 |some z=>exact⟨z,rfl,h⟩
def Bh.now(h:Bh K io H st d Q)(S:HC K H io st)(r:Rep K H io v d):Q v H:=h v H [] Ext.refl S.nil (by rw[Ap];exact r)
def Bh.on(h:Bh K io H st' d Q)(f:HC K H1 (io++ka) st)(E:Ext io ka H H1):Bh K (io++ka) H1 st' d Q:=λv H' kb a b r=>
 h v H' (ka++kb) (E.trans f a) (by rw[<-Aj];exact b) (by rw[<-Aj];exact r)
noncomputable def mV(i:Nat):ME:=λU st=>match U[i]? with
 |some (some d)=>some (d,st)
 |_=>none
def He(i:Nat){x:Str}(h:X.N[i]?=some x:=by rfl)(f:YR X.env.scope x:=by first|exact Bl rfl|exact Bf (Bl rfl)|exact Bf (Bf rfl))(hd:(x==("__debug__":Str))=false:=by decide)(g:(x==("__classdict__":Str))=false:=by decide):SE X (.Name x pos) (mV i):=PE.imp (pT h f hd g) <| by
 exists 1;unfold mV at e;split at e
 ·rename_i a he;cases e;obtain⟨v,f,r⟩:=E.at_ i _ he;exact⟨v,f,k.now S r⟩
 ·cases e
def mK(d:D):ME:=λ_ st=>some (d,st)
def Hm{i j pos}:SE X (.Constant (.int i) j pos) (mK<|.int i):=PE.imp mH <| by
 exists 1;cases e;exact k.now S rfl
def MW{b j pos}:SE X (.Constant (.bool b) j pos) (mK<|.bl b):=PE.imp kB <| by
 exists 1;cases e;exact k.now S rfl
def Mq{x j pos}:SE X (.Constant (.str x) j pos) (mK<|.str x):=PE.imp mP <| by
 exists 1;cases e;exact k.now S rfl
def Tx{j pos}:SE X (.Constant .none j pos) (mK .non):=PE.imp mJ <| by
 exists 1;cases e;exact k.now S rfl
noncomputable abbrev G2:=D->D->Hg->Option (D×Hg)
inductive Sg (K:Ab) (g:G2) (x y:V) (H:Hp) (Q:VK):Prop
 |mk (dx dy:D) (st:Hg) (io:List Addr) (d:D) (st':Hg) (h0:Rep K H io x dx) (h1:Rep K H io y dy) (h2:HC K H io st) (h3:g dx dy st=some (d,st')) (h4:Bh K io H st' d Q)
def Jr(X:Cx)(f:IR->IR->Sem IR)(g:G2):Prop:=J6 X f<|Sg X.K g
def mB(g:G2)(ma mb:ME):ME:=λU st=>(ma U st).bind λ(x,s1)=>(mb U s1).bind λ(y,s2)=>g x y s2
def Ur{g:G2}(h:tE K (mB g ma mb) σ H Q):R9 (Sg K g) (tE K ma) (tE K mb) σ H Q:=by obtain⟨U,st,io,d,st',E,S,e,k⟩:=h;obtain⟨⟨x,s1⟩,p,e⟩:=Hu e;obtain⟨⟨y,s2⟩,u,v⟩:=Hu e;refine⟨U,st,io,x,s1,E,S,p,λv1 H1 b c a R1=>?_⟩;refine⟨U,s1,io++b,y,s2,E.ext S c,a,u,λv2 H2 X m o R2=>?_⟩;exact⟨x,y,s2,(io++b)++X,d,st',R1.ext a m,R2,o,v,(k.on a c).on o m⟩
def HU{op:Operator}{g:G2}(f:Jr X (binaryOp op) g)(i:SE X a ma)(j:SE X b mb):SE X (.BinOp a op b pos) (mB g ma mb):=PE.imp (kD f i j) λ_ _ _ h=>Ur h
def Tw{g:G2}(f:Jr X (SL op) g)(i:SE X a ma)(j:SE X b mb)(hm:behindInMarks op b=false):SE X (.Compare a [op] [b] pos) (mB g ma mb):=PE.imp (tL f i j hm) λ_ _ _ h=>Ur h
def mT(m:ME):MT:=λU st=>(!8).bind λ(x,s1)=>match x with
 |.bl b=>some (b,s1)
 |_=>none
def Tz{b:Bool}(e:mT m U st=some (b,st')):m U st=some (.bl b,st'):=by
 obtain⟨⟨x,s1⟩,a,e⟩:=Hu e;exists 11;split at e
 ·cases e;exact a
 ·cases e
def RE{Q:Bool->Hp->Prop}(h:tT K (mT m) σ H Q):tE K m σ H λx H'=>∃b,x=.bl b/\Q b H':=by obtain⟨U,st,io,b,st',E,S,e,k⟩:=h;exact⟨U,st,io,_,st',E,S,Tz e,λv H' ka a c d=>⟨b,d,k H' ka a c⟩⟩
def JW{g:G2}(f:Jr X (SL op) g)(i:SE X a ma)(j:SE X b mb)(hm:behindInMarks op b=false):SB X (.Compare a [op] [b] pos) (mT<|mB g ma mb):=PT.imp (sE f i j hm) λσ H Q h=>Ur (RE h)
def QO(h:SE X a m)(he:∀whole,isTrue a X.env whole=(do let v <-whole;standAt a.pos;holding [v] (truthy v)):=by intro _;rfl):SB X a (mT m):=PT.imp (cM h he) λσ H Q h=>by obtain⟨U,st,io,b,st',E,S,e,k⟩:=RE h;refine⟨U,st,io,b,st',E,S,e,λv H' ka d o p=>?_⟩;obtain⟨c,u,q⟩:=k v H' ka d o p;subst u;exact⟨c,rfl,q⟩
def MU(m:MT):MT:=λU st=>(!8).map λ(b,s)=>(!b,s)
def Tv(h:SB X a mt):SB X (.UnaryOp .Not a pos) (MU mt):=PT.imp (oU h) <| by
 rintro σ H Q ⟨U,st,io,b,st',E,S,e,k⟩;unfold MU at e;cases c:mt U st with
 |none=>rw[c]at e;cases e
 |some p=>rw[c]at e;cases e;exact⟨U,st,io,_,_,E,S,c,λH' ka d m=>k H' ka d m⟩
def J9(m n:MT):MT:=λU st=>(!8).bind λ(b,s)=>if b=true then n U s else some (false,s)
def Mz(m n:MT):MT:=λU st=>(!8).bind λ(b,s)=>if b=true then some (true,s)else n U s
def SW(X:Cx)(e:Pv)(m:MT):Prop:=PW X e<|tT X.K m
def PW.imp(h:PW X e t)(k:∀σ H Q,u σ H Q->t σ H Q):PW X e u:=λw a s σ H Q I q=>h w a s σ H Q I<|k σ H Q q
def SW.sb(h:SW X a mt):SB X a mt:=PW.pt h
def Ny(f:SB X a mt):SW X (.BoolOp .And [a] pos) mt:=NM f
def Z0(f:SB X a mt):SW X (.BoolOp .Or [a] pos) mt:=Pr f
def cI{n:MT}{Q:Bool->Hp->Prop}{b:Bool}(E:HK K H io σ U)(S:HC K H io st)(X1:Ext io ka H H1)(f:HC K H1 (io++ka) s1)(e:n U s1=some (b,st'))(k:∀H' ka,Ext io ka H H'->HC K H' (io++ka) st'->Q b H'):tT K n σ H1 Q:=⟨U,s1,io++ka,b,st',E.ext S X1,f,e,λH' kb a c=>k H' (ka++kb) (X1.trans f a) (by rw[<-Aj];exact c)⟩
def Mr(f:SB X a mt)(g:SW X (.BoolOp .And (b::rs) pos) mu):SW X (.BoolOp .And (a::b::rs) pos) (J9 mt mu):=PW.imp (Pt f g) <| by
 exists 9;obtain⟨⟨x,s1⟩,m,e⟩:=Hu e;refine⟨U,st,io,x,s1,E,S,m,λH1 o c d=>?_⟩;cases x with
 |true=>rw[if_pos rfl];exact cI E S c d e k
 |false=>
  rw[if_neg (!1)];have p:some (false,s1)=some (v,st'):=e;cases p;exact k H1 o c d
def Zn(f:SB X a mt)(g:SW X (.BoolOp .Or (b::rs) pos) mu):SW X (.BoolOp .Or (a::b::rs) pos) (Mz mt mu):=PW.imp (Sh f g) <| by
 exists 9;obtain⟨⟨x,s1⟩,m,e⟩:=Hu e;refine⟨U,st,io,x,s1,E,S,m,λH1 o c d=>?_⟩;cases x with
 |false=>rw[if_neg (!1)];exact cI E S c d e k
 |true=>
  rw[if_pos rfl];have p:some (true,s1)=some (v,st'):=e;cases p;exact k H1 o c d
def OY(m n:ME):ME:=λU st=>(mT m U st).bind λ(b,s)=>if b=true then n U s else some (.bl false,s)
def Td(m:ME):ME:=λU st=>(mT m U st).map λ(b,s)=>(.bl !b,s)
def Vz{n:ME}(E:HK K H io σ U)(S:HC K H io st)(f:Ext io ka H H1)(g:HC K H1 (io++ka) s1)(e:n U s1=some (d,st'))(k:Bh K io H st' d Q):tE K n σ H1 Q:=⟨U,s1,io++ka,d,st',E.ext S f,g,e,k.on g f⟩
def V7(f:SE X a ma):SE X (.BoolOp .And [a] pos) ma:=mO f
def Ra(f:SE X a ma)(g:SE X (.BoolOp .And (b::rs) pos) mb):SE X (.BoolOp .And (a::b::rs) pos) (OY ma mb):=PE.imp (mC f g) <| by
 exists 9;obtain⟨⟨x,s1⟩,m,e⟩:=Hu e;refine⟨U,st,io,.bl x,s1,E,S,Tz m,λv1 H1 o c d p=>⟨x,p,?_⟩⟩;cases x with
 |true=>rw[if_pos rfl];exact Vz E S c d e k
 |false=>
  rw[if_neg (!1)];have u:some (D.bl false,s1)=some (v,st'):=e;cases u;exact k _ H1 o c d rfl
def pI(f:SE X a ma):SE X (.UnaryOp .Not a pos) (Td ma):=PE.imp (mM f) <| by
 exists 9;unfold Td at e;cases b:mT ma U st with
 |none=>rw[b]at e;cases e
 |some p=>
  rw[b]at e;cases e;exact⟨U,st,io,_,_,E,S,Tz b,λv1 H1 c d m o=>⟨_,o,k _ H1 c d m rfl⟩⟩
def LX(c:MT)(m n:ME):ME:=λU st=>(c U st).bind λ(b,s)=>if b=true then m U s else n U s
def pG(f:SB X c mt)(g:SE X a ma)(h:SE X b mb):SE X (.IfExp c a b pos) (LX mt ma mb):=PE.imp (wC f g h) <| by
 exists 9;obtain⟨⟨x,s1⟩,o,e⟩:=Hu e;refine⟨U,st,io,x,s1,E,S,o,λH1 p d m=>?_⟩;cases x with
 |true=>rw[if_pos rfl];exact Vz E S d m e k
 |false=>rw[if_neg (!1)];exact Vz E S d m e k
end
end L2.MP
set_option linter.unusedVariables false
namespace L2.MP
open PySem PySem.Spec PyProof.Rows
variable {X:Cx}{e a b c i o tg iter:Pv}{es:List Pv}{st1 st2:W1}{rest body orelse:List W1}{pos pos':Pos}{m ma mb mc:ME}{mt mu:MT}{mm:MA}{ms mq mr:MS}{mg:MG}{mgs:N3}{K:Ab}{H H1 H2:Hp}{io ka kb:List Addr}{st st' s1:Hg}{α:Type}{x:Str}{ds:List D}{vs:List V}{Q:VK}{p:Addr}{σ:L2.St}{T:String}{k n:Nat}{f:Fl}{fd:FuncData}{U:Ii}{N:Ends}
def mZ:MA:=λ_ st=>some ([],st)
def Hc(m:ME)(mm:MA):MA:=λU st=>(!8).bind λ(x,s1)=>(mm U s1).bind λ(xs,s2)=>some (x::xs,s2)
def Hq:SA X [] mZ:=PA.imp ZV <| by
 rintro σ H Q ⟨U,st,io,ds,st',E,S,e,k⟩;cases e;exact k [] H [] Ext.refl S.nil Hj.nil
def Hh(d:SE X e m)(g:SA X es mm)(h:Qqb X.env e es:=by rfl):SA X (e::es) (Hc m mm):=PA.imp (We d g h) <| by rintro σ H Q ⟨U,st,io,ds,st',E,S,e,k⟩;obtain⟨⟨x,s1⟩,f,e⟩:=Hu e;obtain⟨⟨xs,s2⟩,i,e⟩:=Hu e;cases e;refine⟨U,st,io,x,s1,E,S,f,λv1 H1 b X1 a R1=>⟨U,s1,io++b,xs,_,E.ext S X1,a,i,λvs H2 n c o R2=>?_⟩⟩;exact k _ H2 (b++n) (X1.trans a c) (by rw[<-Aj];exact o) (by rw[<-Aj];exact Hj.cons (R1.ext a c) R2)
def fits(n:Nat):Bool:=decide (n<=sizeLine)
def mU(mm:MA):ME:=λU st=>(mm U st).bind λ(xs,s)=>if fits xs.length=true then some (.tup xs,s)else none
def mL(mm:MA):ME:=λU st=>(mm U st).bind λ(xs,s)=>if fits xs.length=true then some (.ref s.length,s++[.lst xs])else none
def IA{c:Prop}[Decidable c]{x:Option α}{y:α}(h:(if c then x else none)=some y):c/\x=some y:=by
 by_cases hc:c
 ·rw[if_pos hc]at h;exact⟨hc,h⟩
 rw[if_neg hc]at h;cases h
def Bh.tup{ds:List D}{vs:List V}{Q:VK}{p:Addr}(k:Bh K io H st (.tup ds) Q)(S:HC K H io st)(R:Hj K H io vs ds)(d:H p=none):Q (.ref p) (upd H p<|.tup vs):=by obtain⟨E,a⟩:=Rj (o:=.tup vs) S d;refine k _ _ [] E a ⟨p,vs,rfl,Lc,R.ext S E⟩
def getElem?_len(l:List α)(x:α):(l++[x])[l.length]?=some x:=by rw[A0 (Ag _),Du];rfl
def Bh.lst{ds:List D}{vs:List V}{Q:VK}{p:Addr}(k:Bh K io H (st++[.lst ds]) (.ref st.length) Q)(S:HC K H io st)(R:Hj K H io vs ds)(d:H p=none):Q (.ref p) (upd H p<|.lst vs):=by obtain⟨E,a⟩:=PZ (o:=.lst vs) (ob:=.lst ds) S d λb T e=>⟨vs,e,Hj.mono T R⟩;exact k _ _ [p] E a ⟨p,rfl,by rw[<-S.len];exact getElem?_len io p⟩
def IV{x1}(h:SA X es mm):SE X (.Tuple es x1 pos) (mU mm):=PE.imp (pS h) <| by rintro σ H Q ⟨U,st,io,d,st',E,S,e,k⟩;obtain⟨⟨xs,s1⟩,b,e⟩:=Hu e;obtain⟨hf,e⟩:=IA e;cases e;refine⟨U,st,io,xs,_,E,S,b,λvs H1 i c a R1=>⟨by rw[R1.length];exact of_decide_eq_true hf,λp f=>(k.on a c).tup a R1 f⟩⟩
def Ka(h:SA X es mm):SE X (.List es pos) (mL mm):=PE.imp (mI h) <| by rintro σ H Q ⟨U,st,io,d,st',E,S,e,k⟩;obtain⟨⟨xs,s1⟩,b,e⟩:=Hu e;obtain⟨hf,e⟩:=IA e;cases e;refine⟨U,st,io,xs,_,E,S,b,λvs H1 i c a R1=>⟨by rw[R1.length];exact of_decide_eq_true hf,λp f=>(k.on a c).lst a R1 f⟩⟩
noncomputable abbrev GN:=List D->Hg->Option (D×Hg)
inductive iL (K:Ab) (g:GN) (xs:List V) (H:Hp) (Q:VK):Prop
 |mk (ds:List D) (st:Hg) (io:List Addr) (d:D) (st':Hg) (h1:Hj K H io xs ds) (h2:HC K H io st) (h3:g ds st=some (d,st')) (h4:Bh K io H st' d Q)
def Jz(X:Cx)(f:IR)(g:GN):Prop:=MM X f<|iL X.K g
def Ho(g:GN)(mm:MA):ME:=λU st=>(mm U st).bind λ(xs,s)=>g xs s
def eW{g:GN}(h:tE K (Ho g mm) σ H Q):Ye (iL K g) (tA K mm) σ H Q:=by obtain⟨U,st,io,d,st',E,S,e,k⟩:=h;obtain⟨⟨xs,s1⟩,b,e⟩:=Hu e;exact⟨U,st,io,xs,s1,E,S,b,λvs H1 c f a i=>⟨xs,s1,io++c,d,st',i,a,e,k.on a f⟩⟩
def xT{p:Pos}{id:String}{g:GN}(l:Jz X (.builtin id) g)(q:Gl X x)(hm:X.mg x=none)(r:UF x=some (.builtin id))(s:SA X (e::es) mm)(hn:x≠"__name__":=by decide)(d:(x==("__debug__":Str))=false:=by decide)(he:Qqb X.env e es:=by rfl) (j:Qqc pos es X.env:=by rfl):SE X (.Call (.Name x p) (e::es) [] pos) (Ho g mm):=
 PE.imp (cK l q hm r s hn d he j) λ_ _ _ h=>eW h
def zQ{p:Pos}{g:GN}(l:Jz X (.type T) g)(q:Gl X x)(hm:X.mg x=none)(r:UF x=some (.type T))(s:SA X (e::es) mm)(hn:x≠"__name__":=by decide)(d:(x==("__debug__":Str))=false:=by decide)(he:Qqb X.env e es:=by rfl) (j:Qqc pos es X.env:=by rfl):SE X (.Call (.Name x p) (e::es) [] pos) (Ho g mm):=
 PE.imp (zmG l q hm r s hn d he j) λ_ _ _ h=>eW h
def Mw(K:Ab)(n:Nat)(g:GN):Sp:=λvs H Q _=>∃ds st io d st',vs.length=n/\Hj K H io vs ds/\HC K H io st/\g ds st=some (d,st')/\Bh K io H st' d Q
def sJ{p:Pos}{f:Addr}{ps:List Str}{g:GN}(F:Jj X.prog X.w X.K X.mg X.base KG k f fd ps (Mw X.K n g))(l:HP k X.A)(q:Gl X x)(hm:X.mg x=some (.ref f))(hk:Bi X.K (.ref f)=true)(r:Binds X.K fd ps [])(u:SA X (e::es) mm) (h:(x==("__debug__":Str))=false:=by decide) (he:Qqb X.env e es:=by rfl) (j:Qqc pos es X.env:=by rfl) (hn:(e::es).length=n:=by rfl)(v:∀U st xs s,mm U st=some (xs,s)->xs.length=n):
  SE X (.Call (.Name x p) (e::es) [] pos) (Ho g mm):=PE.imp (tK F l q hm hk r .nil Ti u h he j) <| by
 exists 1;obtain⟨⟨xs,s1⟩,a,e⟩:=Hu e;refine⟨U,st,io,xs,s1,E,S,a,λvs H1 c i b R1=>⟨xs,s1,io++c,d,st',?_,?_,b,e,k.on b i⟩⟩
 ·rw[Ap,R1.length];exact v _ _ _ _ a
 rw[Ap];exact R1
def wR{xs:List D}{s:Hg}(h:mZ U st=some (xs,s)):xs.length=0:=by cases h;rfl
def zmZ{U:Ii}{st:Hg}{xs:List D}{s:Hg}(d:∀U st xs s,mm U st=some (xs,s)->xs.length=n)(h:Hc m mm U st=some (xs,s)):xs.length=n+1:=by obtain⟨⟨x,s1⟩,b,e⟩:=Hu h;obtain⟨⟨c,s2⟩,a,e⟩:=Hu e;cases e;rw[Ay,d _ _ _ _ a]
def Wn(K:Ab)(io:List Addr)(H:Hp)(st':Hg)(N:Ends):Fl->Prop
 |.nx h=>∀σ' g ka,Ext io ka H g->HC K g (io++ka) st'->HK K g (io++ka) σ' h->N.nx σ' g
 |.bk h=>∀σ' g ka,Ext io ka H g->HC K g (io++ka) st'->HK K g (io++ka) σ' h->N.bk σ' g
 |.ct h=>∀σ' g ka,Ext io ka H g->HC K g (io++ka) st'->HK K g (io++ka) σ' h->N.ct σ' g
 |.rt d=>Bh K io H st' d N.rt
inductive tSi (K:Ab) (m:MS) (N:Ends) (σ:L2.St) (H:Hp):Prop
 |mk (U:Ii) (st:Hg) (io:List Addr) (f:Fl) (st':Hg) (h1:HK K H io σ U) (h2:HC K H io st) (h3:m U st=some (f,st')) (h4:Wn K io H st' N f)
def La:tS K ms N σ H ↔ tSi K ms N σ H:=by
 constructor
 ·rintro⟨U,st,io,f,st',E,S,e,k⟩;exact⟨U,st,io,f,st',E,S,e,by cases f<;>exact k⟩
 rintro⟨U,st,io,f,st',E,S,e,k⟩;exact⟨U,st,io,f,st',E,S,e,by cases f<;>exact k⟩
def Oo{P:L2.St->Hp->Prop}{g:Ii}(h:∀σ' d ka,Ext io ka H d->HC K d (io++ka) st'->HK K d (io++ka) σ' g->P σ' d)(X1:Ext io ka H H1)(j:HC K H1 (io++ka) st):
  ∀σ' d kb,Ext (io++ka) kb H1 d->HC K d ((io++ka)++kb) st'->HK K d ((io++ka)++kb) σ' g->P σ' d:=λσ' d kb a b c=>
 h σ' d (ka++kb) (X1.trans j a) (by rw[<-Aj];exact b) (by rw[<-Aj];exact c)
def Wn.on{N:Ends}{f:Fl}(h:Wn K io H st' N f)(g:Ext io ka H H1)(j:HC K H1 (io++ka) st):Wn K (io++ka) H1 st' N f:=by
 cases f with
 |nx a=>exact Oo h g j
 |bk a=>exact Oo h g j
 |ct a=>exact Oo h g j
 |rt d=>exact Bh.on h j g
def O3(E:HK K H io σ U)(S:HC K H io st)(e:ms U st=some (f,st'))(w:Wn K io H st' N f):tS K ms N σ H:=La.mpr ⟨U,st,io,f,st',E,S,e,w⟩
def Vs(g:Ext io ka H H1)(d:HC K H1 (io++ka) s1)(E:HK K H1 (io++ka) σ U)(e:ms U s1=some (f,st'))(w:Wn K io H st' N f):tS K ms N σ H1:=O3 E d e (w.on g d)
def Jd:MS:=λU st=>some (.nx U,st)
def uS:KL X [] Jd:=KN.imp sC λN σ H h=>by obtain⟨U,st,io,f,st',E,S,e,w⟩:=La.mp h;cases e;exact w σ H [] Ext.refl S.nil (by rw[Ap];exact E)
def uR:SS X (.Pass pos) Jd:=PS.imp sA λN σ H h=>by obtain⟨U,st,io,f,st',E,S,e,w⟩:=La.mp h;cases e;exact w σ H [] Ext.refl S.nil (by rw[Ap];exact E)
noncomputable def mS(m n:MS):MS:=λU st=>(!8).bind λ(f,s)=>match f with
 |.nx a=>n a s
 |f=>some (f,s)
def xA(g:SS X st1 ms)(j:KL X rest mq):KL X (st1::rest) (mS ms mq):=KN.imp (xI g j) λN σ H h=>by
 exists 2;obtain⟨⟨f1,s1⟩,b,e⟩:=Hu e;refine O3 E S b ?_;cases f1 with
 |nx a=>exact λσ' n ka c i m=>Vs c i m e w
 |bk a=>cases e;exact w
 |ct a=>cases e;exact w
 |rt d=>cases e;exact w
def uT(d:SS X st1 ms):KL X [st1] ms:=sD d
def IJ(m:ME):MS:=λU st=>(!8).map λ(_,s)=>(.nx U,s)
noncomputable def mR(m:ME):MS:=λU st=>(!8).map λ(d,s)=>(.rt d,s)
def Ie{β:Type}{x:Option α}{f:α->β}{y:β}(h:x.map f=some y):∃z,x=some z/\f z=y:=by
 cases x with
 |none=>cases h
 |some z=>exact⟨z,rfl,AA h⟩
def KW(he:SE X e m)(g:swapsWith e none pos.line X.env=pure false:=by rfl):SS X (.Expr e pos) (IJ m):=PS.imp (rZ he g) λN σ H h=>by obtain⟨U,st,io,f,st',E,S,e,w⟩:=La.mp h;obtain⟨⟨d,s1⟩,b,e⟩:=Ie e;cases e;exact⟨U,st,io,d,_,E,S,b,λv c ka a i n=>w σ c ka a i (E.ext S a)⟩
def IF(he:SE X e m):SS X (.Return (some e) pos) (mR m):=PS.imp (oR he) λN σ H h=>by obtain⟨U,st,io,f,st',E,S,e,w⟩:=La.mp h;obtain⟨⟨d,s1⟩,a,e⟩:=Ie e;cases e;exact⟨U,st,io,d,_,E,S,a,w⟩
def IX(c:MT)(m n:MS):MS:=λU st=>(c U st).bind λ(b,s)=>if b=true then m U s else n U s
def kM(d:SB X c mt)(g:KL X body ms)(j:KL X orelse mq):SS X (.If c body orelse pos) (IX mt ms mq):=PS.imp (kF d g j) λN σ H h=>by
 exists 2;obtain⟨⟨x,s1⟩,i,e⟩:=Hu e;refine⟨U,st,io,x,s1,E,S,i,λH1 m a b=>?_⟩;cases x with
 |true=>rw[if_pos rfl];exact Vs a b (E.ext S a) e w
 |false=>rw[if_neg (!1)];exact Vs a b (E.ext S a) e w
def Hl(i:Nat):MG:=λd U st=>some (U.set i (some d),st)
def uH{i:Nat}(g:X.N.Nodup)(hi:X.N[i]?=some x)(h:Loc X.env.scope x)(hf:X.fn x=true\/X.env.scope.names.lookup x=some .local:=by first|exact .inl rfl|exact .inr rfl|assumption):SG X (.Name x pos) (Hl i):=PG.imp (rS g hi h hf) <| by rintro v σ H Q ⟨d,U,st,io,a,st',R,E,S,e,k⟩;cases e;exact k _ H [] Ext.refl S.nil (by rw[Ap];exact E.set i R)
def JZ:N3:=λds U st=>match ds with
 |[]=>some (U,st)
 |_=>none
def gC(g:MG)(h:N3):N3:=λds U st=>match ds with
 |d::r=>(g d U st).bind λ(a,s1)=>h r a s1
 |[]=>none
def Na:Vc X [] JZ:=Nl.imp rT <| by
 rintro v σ H Q ⟨ds,U,st,io,a,st',R,E,S,e,k⟩;cases ds with
 |nil=>cases e;exact⟨R,k σ H [] Ext.refl S.nil (by rw[Ap];exact E)⟩
 |cons d r=>cases e
def Kb(g:SG X e mg)(h:Vc X es mgs)(j:(assignEach (e::es) X.env).map (·.2)=assign e X.env::(assignEach es X.env).map (·.2):=by rfl):Vc X (e::es) (gC mg mgs):=
 Nl.imp (yG g h j) <| by
  rintro v σ H Q ⟨ds,U,st,io,f,st',R,E,S,e,k⟩;cases ds with
  |nil=>cases e
  |cons d r=>
   obtain⟨y,i,rfl,m,rs⟩:=R;obtain⟨⟨a,s1⟩,n,e⟩:=Hu e;refine⟨y,i,rfl,d,U,st,io,a,s1,m,E,S,n,λσ1 H1 o b c p=>?_⟩;exact⟨r,a,s1,io++o,f,st',rs.ext S b,p,c,e,Oo k b c⟩
def JY(n:Nat)(h:N3):MG:=λd U st=>match d with
 |.tup ds=>if ds.length=n then h ds U st else none
 |_=>none
def MY(j:X.calm=true)(h:Vc X es mgs)(hn:(assignEach es X.env).length=n:=by rfl)(g:(assignEach es X.env).findIdx? (·.1)=none:=by rfl):SG X (.Tuple es k pos) (JY n mgs):=
 PG.imp (pV j h hn g) <| by
  rintro v σ H Q ⟨d,U,st,io,b,st',R,E,S,e,k⟩;cases d with
  |tup ds=>
   obtain⟨a,xs,rfl,c,rs⟩:=R;obtain⟨f,e⟩:=IA e;exact⟨a,xs,rfl,IK.of c,by rw[rs.length];exact f,ds,U,st,io,b,st',rs,E,S,e,k⟩
  |_=>cases e
noncomputable abbrev G3:=D->D->D->Hg->Option Hg
inductive R8 (K:Ab) (g:G3) (o i v:V) (H:Hp) (Q:Hp->Prop):Prop
 |mk (d1 d2 d3:D) (st:Hg) (io:List Addr) (st':Hg) (h0:Rep K H io o d1) (h1:Rep K H io i d2) (h2:Rep K H io v d3) (h3:HC K H io st) (h4:g d1 d2 d3 st=some st') (h5:∀H' ka,Ext io ka H H'->HC K H' (io++ka) st'->Q H')
def Sz(X:Cx)(g:G3):Prop:=PK X<|R8 X.K g
def Lv(g:G3)(mo mi:ME):MG:=λd U st=>(mo U st).bind λ(o,s1)=>(mi U s1).bind λ(i,s2)=>(g o i d s2).map λs3=>(U,s3)
def pJ{mo mi:ME}{g:G3}(l:SE X o mo)(hi:SE X i mi)(q:Sz X g)(r:∀v,assign (.Subscript o i pos) X.env v=(do
   let h <-holding [v] (Wp o X.env)
   let j <-holding [v,h] (Wp i X.env)
   standAt pos
   holding [v,h,j] (setItem h j v)
   release [v,h,j] []):=by intro _;rfl):SG X (.Subscript o i pos) (Lv g mo mi):=
 PG.imp (pU l hi q r) <| by rintro v σ H Q ⟨d,U,st,io,z,st',R,E,S,e,k⟩;obtain⟨⟨x,s1⟩,N,e⟩:=Hu e;obtain⟨⟨y,s2⟩,T,e⟩:=Hu e;obtain⟨s3,s,e⟩:=Ie e;cases e;refine⟨U,st,io,x,s1,E,S,N,λv1 H1 a X1 b R1=>⟨U,s1,io++a,y,s2,E.ext S X1,b,T,λv2 H2 f m c R2=>?_⟩⟩;have X12:=X1.trans b m;refine⟨x,y,d,s2,(io++a)++f,_,R1.ext b m,R2,(R.ext S X1).ext b m,c,s,λu w n p=>?_⟩;rw[Aj]at n c;rw[Aj,Aj]at p;refine k σ u ((a++f)++w) (X12.trans c n) (by simpa using p) ?_;have E2:HK X.K H2 (io++(a++f)) σ U:=E.ext S X12;have:=E2.ext c n;simpa using this
def Hr(m:ME)(g:MG):MS:=λU st=>(!8).bind λ(d,s1)=>(g d U s1).map λ(a,s2)=>(.nx a,s2)
def yS(h:tS K (Hr m mg) N σ H):Pp (tE K m) (tG K mg) N σ H:=by obtain⟨U,st,io,f,st',E,S,e,w⟩:=La.mp h;obtain⟨⟨x,s1⟩,c,e⟩:=Hu e;obtain⟨⟨i,s2⟩,n,e⟩:=Ie e;cases e;exact⟨U,st,io,x,s1,E,S,c,λv1 H1 o a b p=>⟨x,U,s1,io++o,i,_,p,E.ext S a,b,n,Oo w a b⟩⟩
def VH(he:SE X e m)(d:SG X tg mg)(g:swapsWithSole [tg] e pos.line X.env=pure false:=by rfl)(hw:swappedStores [tg] e X.env=pure none:=by rfl)(j:(assignEach [tg] X.env).map (·.2)=[assign tg X.env]:=by rfl):SS X (.Assign [tg] e pos) (Hr m mg):=PS.imp (pY he d g hw j) λ_ _ _ h=>yS h
def oF{i:Nat}(d:X.N.Nodup)(hi:X.N[i]?=some x)(g:Loc X.env.scope x)(he:SE X e m)(j:swapsWith e (some<|.Name x pos') pos.line X.env=pure false:=by rfl)(hf:X.fn x=true\/X.env.scope.names.lookup x=some .local:=by first|exact .inl rfl|exact .inr rfl|assumption):
  SS X (.Assign [.Name x pos'] e pos) (Hr m<|Hl i):=PS.imp (oT d hi g he j hf) λN σ H h=>by
 exists 2;obtain⟨⟨x,s1⟩,b,e⟩:=Hu e;obtain⟨⟨K,s2⟩,c,e⟩:=Ie e;cases e;cases c;exact⟨U,st,io,x,_,E,S,b,λv1 H1 n a o p=>w _ H1 n a o ((E.ext S a).set i p)⟩
structure Wk where
 ds:List D
 g:List (Nat×List D)
def stays(W:Wk)(st:Hg):Prop:=∀p,p∈W.g->st[p.1]?=some (.lst p.2)\/st[p.1]?=some (.fz p.2)
structure Lz(K:Ab)(H0:Hp)(io:List Addr)(W:Wk)(J:It):Prop where
 go:∀i d H ka st,W.ds[i]?=some d->Ext io ka H0 H->HC K H (io++ka) st->stays W st->J.go i H/\∀x H',J.yld i H x H'->Ext (io++ka) [] H H'/\HC K H' (io++ka) st/\Rep K H' (io++ka) x d
 stop:∀H ka st,Ext io ka H0 H->HC K H (io++ka) st->stays W st->J.stop W.ds.length H
 stop':∀H ka st i,W.ds.length<=i->Ext io ka H0 H->HC K H (io++ka) st->stays W st->J.stop i H
noncomputable abbrev MI:=Ii->Hg->Option (Wk×Hg)
inductive tI (K:Ab) (m:MI) (σ:L2.St) (H:Hp) (R:It->Hp->Prop):Prop
 |mk (U:Ii) (st:Hg) (io:List Addr) (W:Wk) (st':Hg) (h1:HK K H io σ U) (h2:HC K H io st) (h3:m U st=some (W,st')) (h4:∀J H' ka,Ext io ka H H'->HC K H' (io++ka) st'->Lz K H' (io++ka) W J->R J H')
def SI(X:Cx)(tg iter:Pv)(m:MI):Prop:=PI X tg iter<|tI X.K m
def PI.imp{t u:TI}(h:PI X tg iter t)(k:∀σ H R,u σ H R->t σ H R):PI X tg iter u:=λa s σ H R I q=>h a s σ H R I<|k σ H R q
mutual
def D.eqb:D->D->Bool
 |.non,.non=>true
 |.bl a,.bl b=>a==b
 |.int a,.int b=>decide (a=b)
 |.str a,.str b=>decide (a=b)
 |.tup a,.tup b=>D.eqbs a b
 |.ref a,.ref b=>decide (a=b)
 |.kl a,.kl b=>D.eqbs a b
 |.fn a,.fn b=>decide (a=b)
 |.er a b c,.er a2 d g=>decide (a=a2/\b=d/\c=g)
 |_,_=>false
def D.eqbs:List D->List D->Bool
 |[],[]=>true
 |a::as,b::bs=>D.eqb a b&&D.eqbs as bs
 |_,_=>false
end
mutual
theorem D.eqb_refl:∀a:D,D.eqb a a=true
 |.non=>rfl
 |.bl a=>by simp[D.eqb]
 |.int a=>by simp[D.eqb]
 |.str a=>by simp[D.eqb]
 |.tup a=>by rw[D.eqb];exact D.eqbs_refl a
 |.ref a=>by simp[D.eqb]
 |.kl a=>by rw[D.eqb];exact D.eqbs_refl a
 |.fn a=>by simp[D.eqb]
 |.er a b c=>by simp[D.eqb]
theorem D.eqbs_refl:∀a:List D,D.eqbs a a=true
 |[]=>rfl
 |a::as=>by rw[D.eqbs,D.eqb_refl a,D.eqbs_refl as];rfl
end
mutual
theorem D.eq_of:∀{a b:D},D.eqb a b=true->a=b
 |.non,b,h=>by cases b<;>simp[D.eqb]at h ⊢
 |.bl a,b,h=>by cases b<;>simp[D.eqb]at h ⊢;exact h
 |.int a,b,h=>by cases b<;>simp[D.eqb]at h ⊢;exact h
 |.str a,b,h=>by cases b<;>simp[D.eqb]at h ⊢;exact h
 |.tup a,.tup b,h=>by rw[D.eqb]at h;rw[D.eqs_of h]
 |.tup a,.non,h=>by simp[D.eqb]at h
 |.tup a,.bl _,h=>by simp[D.eqb]at h
 |.tup a,.int _,h=>by simp[D.eqb]at h
 |.tup a,.str _,h=>by simp[D.eqb]at h
 |.tup a,.ref _,h=>by simp[D.eqb]at h
 |.tup a,.kl _,h=>by simp[D.eqb]at h
 |.tup a,.fn _,h=>by simp[D.eqb]at h
 |.tup a,.er _ _ _,h=>by simp[D.eqb]at h
 |.kl a,.kl b,h=>by rw[D.eqb]at h;rw[D.eqs_of h]
 |.kl a,.non,h=>by simp[D.eqb]at h
 |.kl a,.bl _,h=>by simp[D.eqb]at h
 |.kl a,.int _,h=>by simp[D.eqb]at h
 |.kl a,.str _,h=>by simp[D.eqb]at h
 |.kl a,.ref _,h=>by simp[D.eqb]at h
 |.kl a,.tup _,h=>by simp[D.eqb]at h
 |.kl a,.fn _,h=>by simp[D.eqb]at h
 |.kl a,.er _ _ _,h=>by simp[D.eqb]at h
 |.fn a,b,h=>by cases b<;>simp[D.eqb]at h ⊢;exact h
 |.er a b c,d,h=>by cases d<;>simp[D.eqb]at h ⊢;exact h
 |.ref a,b,h=>by cases b<;>simp[D.eqb]at h ⊢;exact h
theorem D.eqs_of:∀{a b:List D},D.eqbs a b=true->a=b
 |[],[],_=>rfl
 |[],_::_,h=>by simp[D.eqbs]at h
 |_::_,[],h=>by simp[D.eqbs]at h
 |a::as,b::bs,h=>by rw[D.eqbs,Aq]at h;rw[D.eq_of h.1,D.eqs_of h.2]
end
noncomputable instance:DecidableEq D:=λa b=>if h:D.eqb a b=true then .isTrue (D.eq_of h)else .isFalse λe=>h (by rw[e];exact D.eqb_refl b)
def Q1(st:Hg)(n:Nat)(ds:List D):Bool:=match st[n]? with
 |some (.lst xs)=>D.eqbs xs ds
 |some (.fz xs)=>D.eqbs xs ds
 |_=>false
def zL(h:Q1 st n ds=true):st[n]?=some (.lst ds)\/st[n]?=some (.fz ds):=by
 unfold Q1 at h;split at h
 ·rename_i xs e;rw[D.eqs_of h]at e;exact .inl e
 ·rename_i xs e;rw[D.eqs_of h]at e;exact .inr e
 ·cases h
def zli(h:st[n]?=some (.lst ds)):Q1 st n ds=true:=by unfold Q1;rw[h];exact D.eqbs_refl ds
variable {mi:MI}{W:Wk}
def walked(W:Wk)(st:Hg):Bool:=W.g.all λp=>Q1 st p.1 p.2
def RF(h:walked W st=true):stays W st:=λp a=>zL<|List.all_eq_true.mp h p a
def Kf(W:Wk)(g:MG)(m:MS):List D->Ii->Hg->Option (Fl×Hg)
 |[],U,st=>if walked W st=true then some (.nx U,st)else none
 |d::ds,U,st=>if walked W st=true then(g d U st).bind λ(U1,s1)=>(m U1 s1).bind λ(f,s2)=>match f with
  |.nx h=>Kf W g m ds h s2
  |.ct h=>Kf W g m ds h s2
  |.bk h=>some (.nx h,s2)
  |.rt d=>some (.rt d,s2)else none
noncomputable def mF(mi:MI)(g:MG)(m:MS):MS:=λU st=>(mi U st).bind λ(W,s)=>Kf W g m W.ds U s
def pR(Y:PassesOwn (!4) X.A X.env X.xe)(Z:X.calm=true)(hi:SI X tg iter mi)(hg:SG X tg mg)(hb:KL X body ms)(hs:∀x,foldedSetIterable iter X.env x=pure x:=by intro _;rfl):SS X (.For tg iter body [] pos) (mF mi mg ms):=PS.imp (qA Y Z hi hg hb hs) λN σ H h=>by
 exists 2;obtain⟨⟨W,s1⟩,e1,e⟩:=Hu e;refine⟨U,st,io,W,s1,E,S,e1,λJ H1 a j l IO=>?_⟩;refine⟨λi n σ2 H2=>n=W.ds.length-i/\∃q s2 b,Ext (io++a) b H1 H2/\HC X.K H2 ((io++a)++b) s2/\HK X.K H2 ((io++a)++b) σ2 q/\Kf W mg ms (W.ds.drop i) q s2=some (f,st'),
  ⟨_,rfl,U,s1,[],Ext.refl,by rw[Ap];exact l,by rw[Ap];exact E.ext S j,by rw[GD];exact e⟩,?_⟩
 rintro i n σ2 H2 ⟨rfl,q,s2,b,X2,S2,E2,c⟩;have w2:Wn X.K ((io++a)++b) H2 st' N f:=(w.on j l).on X2 S2;cases hd:W.ds[i]? with
 |none=>
  have r:W.ds.length<=i:=List.getElem?_eq_none_iff.mp hd;rw[EH r]at c;obtain⟨hw,c⟩:=IA c;cases c;refine .inl ⟨?_,w2 σ2 H2 [] Ext.refl S2.nil (by rw[Ap];exact E2)⟩
  by_cases hi:i=W.ds.length
  ·rw[hi];exact IO.stop H2 b _ X2 S2 (RF hw)
  exact IO.stop' H2 b _ i r X2 S2 (RF hw)
 |some d=>
  have r:i<W.ds.length:=(KF.mp hd).1;have z:W.ds.drop i=d::W.ds.drop (i+1):=by rw[D3 r,(KF.mp hd).2]
  rw[z]at c;obtain⟨hw,c⟩:=IA c;obtain⟨⟨U3,s3⟩,e3,c⟩:=Hu c;obtain⟨⟨f4,s4⟩,e4,c⟩:=Hu c;obtain⟨go,yl⟩:=IO.go i d H2 b s2 hd X2 S2 (RF hw);refine .inr ⟨go,λσ5 s=>∃Q s5 m,Ext (io++a) m H1 s/\HC X.K s ((io++a)++m) s5/\HK X.K s ((io++a)++m) σ5 Q/\Kf W mg ms (W.ds.drop (i+1)) Q s5=some (f,st'),
   λσ5 s h5=>⟨W.ds.length-(i+1),by omega,rfl,h5⟩,λx F y=>?_⟩
  obtain⟨G,u,R3⟩:=yl x F y;have X23:Ext (io++a) b H1 F:=(X2.trans S2 G).app;refine⟨d,q,s2,(io++a)++b,U3,s3,R3,?_,u,e3,λσ6 I T B v E6=>?_⟩
  ·have:=E2.ext S2 G;rw[Ap]at this;exact this
  ·refine O3 E6 v e4 ?_;have X26:=X23.trans u B;have C:HC X.K I ((io++a)++(b++T)) s3:=by rw[<-Aj];exact v
   have fin:∀{o:Ii},Kf W mg ms (W.ds.drop (i+1)) o s4=some (f,st')->∀σ7 p g,Ext ((io++a)++b++T) g I p->HC X.K p ((io++a)++b++T++g) s4->HK X.K p ((io++a)++b++T++g) σ7 o ->
     ∃Q s5 m,Ext (io++a) m H1 p/\HC X.K p ((io++a)++m) s5/\HK X.K p ((io++a)++m) σ7 Q/\Kf W mg ms (W.ds.drop (i+1)) Q s5=some (f,st'):=by
    intro o e7 σ7 p g L M P;rw[Aj (io++a)]at L;rw[Aj (io++a),Aj (io++a)]at M P;exact⟨o,s4,(b++T)++g,X26.trans C L,M,P,e7⟩
   cases f4 with
   |nx o=>exact fin c
   |ct o=>exact fin c
   |bk o=>
    cases c;exact((w.on j l).on X23 u).on B v
   |rt dd=>
    cases c;exact((w.on j l).on X23 u).on B v
variable {xs:List V}{l:Pv}{d:D}
def Uo{x:D}{xs:List D}{s s2:Hg}(g:m U s=some (x,s1))(h:mm U s1=some (xs,s2)):Hc m mm U s=some (x::xs,s2):=by unfold Hc;rw[g];show GY (mm U s1) _=_;rw[h];rfl
def HZ(st:Hg)(n:Nat):Option (List D):=match st[n]? with
 |some (.lst ds)=>some ds
 |some (.fz ds)=>some ds
 |_=>none
def KA(S:HC K H io st)(hn:io[n]?=some p)(h:HZ st n=some ds):∃xs,JT K H p xs/\Hj K H io xs ds:=by
 unfold HZ at h;split at h
 ·rename_i o he;cases h;obtain⟨xs,e,r⟩:=S.ob n p _ hn he;exact⟨xs,JT.of e,r⟩
 ·rename_i o he;cases h;obtain⟨ob,xs,e,r⟩:=S.ob n p _ hn he;exact⟨xs,.inl<|.inr ⟨ob,e⟩,r⟩
 ·cases h
def Xg(hm:(n,ds)∈W.g)(h:stays W st):HZ st n=some ds:=by
 unfold HZ;rcases h _ hm with h|h
 ·have h:st[n]?=some (.lst ds):=h;rw[h]
 have h:st[n]?=some (.fz ds):=h;rw[h]
def iP(m:ME):MI:=λU st=>(!8).bind λ(d,s)=>match d with
 |.ref n=>(HZ s n).map λds=>(⟨ds,[(n,ds)]⟩,s)
 |_=>none
def iN(m:ME):MI:=λU st=>(!8).bind λ(d,s)=>match d with
 |.tup ds=>some (⟨ds,[]⟩,s)
 |_=>none
def LR(h:io[n]?=some p):(io++ka)[n]?=some p:=by rw[Am (KF.mp h).1];exact h
def nJ(hn:io[n]?=some p):Lz K H io ⟨ds,[(n,ds)]⟩ (YX K p) where
 go:=λi d H1 f s hd l a c=>by obtain⟨xs,b,r⟩:=KA a (LR hn)<|Xg Ar c;obtain⟨v,m,o⟩:=r.get hd;refine⟨⟨xs,v,b,m⟩,λx Q y=>?_⟩;obtain⟨rfl,y⟩:=y;have e:=y xs b;rw[m]at e;cases e;exact⟨Ext.refl,a,o⟩
 stop:=λH1 f s l a c=>by obtain⟨xs,b,r⟩:=KA a (LR hn)<|Xg Ar c;exact⟨xs,b,by rw[r.length];exact Ag _⟩
 stop':=λH1 f s i N l a c=>by obtain⟨xs,b,r⟩:=KA a (LR hn)<|Xg Ar c;exact⟨xs,b,by rw[r.length];exact N⟩
def uI(g:SE X l m):SI X tg l (iP m):=PI.imp (rV g) <| by
 exists 12;obtain⟨⟨d,s1⟩,c,e⟩:=Hu e;exists 11;split at e
 ·rename_i n;obtain⟨ds,f,e⟩:=Ie e;cases e;refine⟨U,st,io,_,_,E,S,c,λv H1 i o a x=>?_⟩;obtain⟨p,rfl,b⟩:=x;obtain⟨xs,K,r⟩:=KA a b f;exact⟨p,rfl,⟨xs,K⟩,k _ H1 i o a<|nJ b⟩
 ·cases e
def nL(S:HC K H io st)(g:H p=some (.tup xs))(r:Hj K H io xs ds):Lz K H io ⟨ds,[]⟩ (YW K p) where
 go:=λi d H1 b s hd X1 a c=>by obtain⟨v,f,m⟩:=(r.ext S X1).get hd;have l:IK K H1 p xs:=IK.of<|X1.sqT S p xs g;refine⟨⟨xs,v,l,f⟩,λx o y=>?_⟩;obtain⟨rfl,y⟩:=y;have e:=y xs l;rw[f]at e;cases e;exact⟨Ext.refl,a,m⟩
 stop:=λH1 b s X1 a c=>⟨xs,IK.of<|X1.sqT S p xs g,by rw[r.length];exact Ag _⟩
 stop':=λH1 b s i n X1 a c=>⟨xs,IK.of<|X1.sqT S p xs g,by rw[r.length];exact n⟩
def pL(g:SE X l m):SI X tg l (iN m):=PI.imp (pX g) <| by
 exists 12;obtain⟨⟨d,s1⟩,c,e⟩:=Hu e;exists 11;split at e
 ·rename_i ds;cases e;refine⟨U,st,io,_,_,E,S,c,λv H1 f i a n=>?_⟩;obtain⟨p,xs,rfl,b,r⟩:=n;exact⟨p,rfl,⟨xs,IK.of b⟩,k _ H1 f i a<|nL a b r⟩
 ·cases e
def run(lo:Int)(n:Nat):List D:=(Av n).map λ(k:Nat)=>D.int<|lo+(k:Int)
def Ld(lo:Int)(n:Nat):(run lo n).length=n:=by unfold run;rw[Af,Cb]
def run_get{lo:Int}{i:Nat}(h:(run lo n)[i]?=some d):i<n/\d=.int (lo+(i:Int)):=by
 have a:i<n:=by
  have q:=(KF.mp h).1
  rwa [Ld]at q
 unfold run at h;rw[Ax,DD a]at h;exact⟨a,(AA h).symm⟩
def nK(lo:Int)(n:Nat):Lz K H io ⟨run lo n,[]⟩ (Ve lo n) where
 go:=λi d H1 c s hd e b f=>by obtain⟨a,rfl⟩:=run_get hd;refine⟨a,λx l y=>?_⟩;obtain⟨rfl,rfl⟩:=y;exact⟨Ext.refl,b,rfl⟩
 stop:=λH1 c s e b f=>by show n<=_;rw[Ld];exact Ag _
 stop':=λH1 c s i a e b f=>by
  show n<=i;have a:(run lo n).length<=i:=a
  rwa [Ld]at a
def small(j:Int):Bool:=decide (-(2^62)<=j)&&decide (j<2^62)
def bY{j:Int}(h:small j=true):-(2^62)<=j/\j<2^62:=by unfold small at h;rw[Aq]at h;exact⟨of_decide_eq_true h.1,of_decide_eq_true h.2⟩
def IW(m:ME):MI:=λU st=>(!8).bind λ(d,s)=>match d with
 |.int j=>if small j=true then some (⟨run 0 j.toNat,[]⟩,s)else none
 |_=>none
def K5{p:Pos}(h:Gl X "range")(hm:X.mg "range"=none)(q:SE X a m)(g:starEach [a] X.env=[(false,Wp a X.env)]:=by rfl):SI X tg (.Call (.Name "range" p) [a] [] pos) (IW m):=
 PI.imp (zmE h hm (Hh q Hq g) g) <| by
  exists 12;obtain⟨⟨d,s1⟩,c,e⟩:=Hu e;exists 11;split at e
  ·rename_i j;obtain⟨b,e⟩:=IA e;cases e;refine⟨U,st,io,[.int j],_,E,S,(Uo c rfl),λvs H1 f i l R1=>?_⟩;obtain⟨v,rfl,rfl⟩:=R1.one;exact⟨j,rfl,(bY b).1,(bY b).2,k _ H1 f i l<|nK 0 _⟩
  ·cases e
def LJ(n:Nat)(ds:List D):Ii:=ds.map some++BG (n-ds.length) none
def Iv(n:Nat)(m:MS):GN:=λds st=>(m (LJ n ds) st).bind λ(f,s)=>match f with
 |.rt d=>some (d,s)
 |.nx _=>some (.non,s)
 |_=>none
def zG{N:List Str}(R:Hj K H io vs ds):HK K H io (start N vs) (LJ N.length ds):=by
 have a:=R.length;refine⟨by unfold start LJ;simp[a],λi d h=>?_⟩;unfold LJ at h;unfold start
 by_cases hi:i<ds.length
 ·rw[Am (by simpa using hi),Ax]at h
  cases e:ds[i]? with
  |none=>rw[e]at h;cases h
  |some c=>
   rw[e]at h;cases (AA<|AA h)
   obtain⟨v,b,r⟩:=R.get e;exact⟨v,by rw[Am (by simpa[a]using hi),Ax,b];rfl,r⟩
 ·rw[A0 (by simpa using hi),Cm]at h
  split at h<;>cases h
variable {w:World}
section
variable {P:SZ}{mg:Str->Option IR}{base:P3}
def NX{qual:Str}{st:W1}{f:Addr}{N ps:List Str}{m:MS}(F:Mm K x qual st f fd)(S:IQ N ps (Ja st))(j:∀(g:IR) (A:Around) (outer:List Env) (s:Shared) (H:Hp) (E:XK),HP k (A.deeper<|envOfC qual (Ja st) s.heap.objs.size f g) ->
   KL (JR KG P w K mg base N qual (Ja st) f g A outer s H E).nox (Kw st) m):Jj P w K mg base KG (k+1) f fd ps (Mw K ps.length<|Iv N.length m):=by
 refine F.ok S (λvs H Q E ⟨_,_,_,_,_,h,_⟩=>h) λg A outer s H vs Q E b h=>?_;obtain⟨ds,c,io,d,st',T,R,i,e,a⟩:=h;refine⟨_,j g A outer s H E b,?_⟩;obtain⟨⟨fl,s1⟩,l,e⟩:=Hu e;refine O3 (zG R) i l ?_;cases fl with
 |rt W=>cases e;exact a
 |nx U=>cases e;exact λσ' n ka o p X=>a .non n ka o p rfl
 |bk U=>cases e
 |ct U=>cases e
end
def Kd(cells:List (Str×Addr)):List (Str×NameKind)->List (Str×Addr)->List (Str×Addr)
 |[],acc=>acc
 |(n,k)::r,acc=>if k==.free then Kd cells r ((n,(cells.lookup n).getD 0)::acc)else Kd cells r acc
variable {env:Env}
theorem W4{env:Env}(f:Str×NameKind->List (Str×Addr)->Sem (ForInStep<|List<|Str×Addr))(hf:∀n k acc,f (n,k) acc=if k==.free then(do let c <-cellOf env n;pure (.yield ((n,c)::acc)))else pure (.yield acc)):
  ∀(names:List (Str×NameKind)) (acc:List (Str×Addr)),(∀n,(n,AI)∈names->∃c,env.cells.lookup n=some c)->(forIn names acc f:Sem (List<|Str×Addr))=pure (Kd env.cells names acc)
 |[],acc,_=>by rw[C4];rfl
 |(n,k)::r,acc,h=>by
  rw[El,hf];unfold Kd;cases hk:k==AI with
  |false=>
   rw[if_neg (!2),if_neg (!2)];have:=W4 f hf r acc λm hm=>h m<|Al _ hm;rw[<-this];rfl
  |true=>
   rw[if_pos rfl,if_pos rfl];have a:k=AI:=by simpa using hk
   obtain⟨c,b⟩:=h n (by rw[a];exact Ar);have:=W4 f hf r ((n,c)::acc) λm hm=>h m<|Al _ hm;rw[b,Dk,<-this];unfold cellOf;rw[b];rfl
variable {scope:Scope}
def zlG(h:∀n,(n,AI)∈scope.names->∃c,env.cells.lookup n=some c):closureFor scope env=pure (Kd env.cells scope.names []):=by unfold closureFor;have:=W4 (env:=env) (λx acc=>(match x with|(n,k)=>if k==.free then(do let c <-cellOf env n;pure (.yield ((n,c)::acc)))else pure (.yield acc))) (λ_ _ _=>rfl) scope.names [] h;refine Eq.trans ?_ this;simp only[bind_pure]
variable {cells:List (Str×Addr)}
theorem Wh{cells:List (Str×Addr)}:∀{names:List (Str×NameKind)} {acc:List (Str×Addr)} {p:Str×Addr},p∈Kd cells names acc->p∈acc\/((p.1,AI)∈names/\p.2=(cells.lookup p.1).getD 0)
 |[],acc,p,h=>.inl h
 |(n,k)::r,acc,p,h=>by
  unfold Kd at h;cases hk:k==AI with
  |false=>
   rw[hk,if_neg (!2)]at h
   rcases Wh h with h|h
   ·exact .inl h
   exact .inr ⟨Al _ h.1,h.2⟩
  |true=>
   rw[hk,if_pos rfl]at h;have g:k=AI:=by simpa using hk
   rcases Wh h with h|h
   ·exists 10
    ·subst h;exact .inr ⟨by rw[g];exact Ar,rfl⟩
    exact .inl h
   exact .inr ⟨Al _ h.1,h.2⟩
theorem Uj{cells:List (Str×Addr)}:∀{names:List (Str×NameKind)} {acc:List (Str×Addr)} {x:Str},((x,AI)∈names\/(acc.lookup x).isSome=true)->((Kd cells names acc).lookup x).isSome=true
 |[],acc,x,h=>by
  rcases h with h|h
  ·exact absurd h<|by simp
  exact h
 |(n,k)::r,acc,x,h=>by
  unfold Kd;cases hk:k==AI with
  |false=>
   rw[if_neg (!2)];refine Uj ?_
   rcases h with h|h
   ·exists 10
    ·have:k=AI:=(Bt h).2.symm;rw[this]at hk;exact absurd hk<|by decide
    exact .inl h
   exact .inr h
  |true=>
   rw[if_pos rfl];refine Uj ?_;by_cases hx:x=n
   ·subst hx;exact .inr<|by simp
   ·rcases h with h|h
    ·exists 10
     ·exact absurd (Bt h).1 hx
     exact .inl h
    ·refine .inr ?_;rw[A3];have:(x==n)=false:=by simpa using hx
     rw[this];exact h
theorem WG:∀{names:List (Str×NameKind)} {n:Nat} {acc:List (Str×Addr)} {p:Str×Addr},p∈cellsFrom n names acc->p∈acc\/n<=p.2
 |[],_,_,_,h=>.inl h
 |(x,k)::r,n,acc,p,h=>by
  unfold cellsFrom at h;split at h
  ·rcases WG h with h|h
   ·exists 10
    ·subst h;exact .inr<|Ag _
    exact .inl h
   exact .inr<|Cc h
  exact WG h
theorem Xd:∀{names:List (Str×NameKind)} {n:Nat} {acc:List (Str×Addr)},(acc.Pairwise λx y=>x.2≠y.2)->(∀p∈acc,p.2<n)->(cellsFrom n names acc).Pairwise λx y=>x.2≠y.2
 |[],_,_,h,_=>h
 |(x,k)::r,n,acc,h,hl=>by
  unfold cellsFrom;split
  ·refine Xd (List.pairwise_cons.mpr ⟨λy g e=>?_,h⟩) λp hp=>?_
   ·have q:=hl y g;have a:n=y.2:=e;rw[<-a]at q;exact AN _ q
   ·rcases Os.mp hp with rfl|hp
    ·exact Cg _
    exact Df<|hl p hp
  exact Xd h hl
theorem Wd:∀{names:List (Str×NameKind)} {n:Nat} {acc:List (Str×Addr)} {x:Str},((x,AY)∈names\/(acc.lookup x).isSome=true)->((cellsFrom n names acc).lookup x).isSome=true
 |[],n,acc,x,h=>by
  rcases h with h|h
  ·exact absurd h<|by simp
  exact h
 |(m,k)::r,n,acc,x,h=>by
  unfold cellsFrom;cases hk:k==AY with
  |false=>
   rw[if_neg (!2)];refine Wd ?_
   rcases h with h|h
   ·exists 10
    ·have:k=AY:=(Bt h).2.symm;rw[this]at hk;exact absurd hk<|by decide
    exact .inl h
   exact .inr h
  |true=>
   rw[if_pos rfl];refine Wd ?_;by_cases hx:x=m
   ·subst hx;exact .inr<|by simp
   ·rcases h with h|h
    ·exists 10
     ·exact absurd (Bt h).1 hx
     exact .inl h
    ·refine .inr ?_;rw[A3];have:(x==m)=false:=by simpa using hx
     rw[this];exact h
theorem Ub:∀{names:List (Str×NameKind)} {n:Nat} {acc:List (Str×Addr)} {x:Str},(x,AY)∉names->(cellsFrom n names acc).lookup x=acc.lookup x
 |[],_,_,_,_=>rfl
 |(m,k)::r,n,acc,x,h=>by
  unfold cellsFrom;cases hk:k==AY with
  |false=>rw[if_neg (!2)];exact Ub λq=>h (Al _ q)
  |true=>
   rw[if_pos rfl,Ub λq=>h (Al _ q),A3];have g:k=AY:=by simpa using hk
   have:(x==m)=false:=by
    cases e:x==m with
    |false=>rfl
    |true=>exact absurd (by rw[g,show x=m by simpa using e];exact Ar) h
   rw[this]
theorem Wc:∀{names:List (Str×NameKind)} {n:Nat} {acc:List (Str×Addr)} {x:Str}{c:Addr},(x,AY)∈names->(cellsFrom n names acc).lookup x=some c->n<=c
 |[],_,_,_,_,h,_=>absurd h<|by simp
 |(m,k)::r,n,acc,x,c,h,e=>by
  unfold cellsFrom at e;cases hk:k==AY with
  |false=>
   rw[hk,if_neg (!2)]at e
   exists 10
   ·have:k=AY:=(Bt h).2.symm;rw[this]at hk;exact absurd hk<|by decide
   exact Wc h e
  |true=>
   rw[hk,if_pos rfl]at e;by_cases a:(x,AY)∈r
   ·exact Cc<|Wc a e
   ·rw[Ub a]at e
    exists 10
    ·have b:x=m:=(Bt h).1;subst b;rw[List.lookup_cons_self]at e;exact D5<|AA e
    exact absurd h a
theorem WJ:∀{names:List (Str×NameKind)} {h:P3} {acc:List (Str×Addr)} {p:Str×Addr},p∈cellsFrom h.objs.size names acc->p∈acc\/(pushCells h names).IsCell p.2 none
 |[],_,_,_,h=>.inl h
 |(x,k)::r,h,acc,p,e=>by
  unfold cellsFrom at e;unfold pushCells;split at e
  ·rename_i hk;rw[if_pos hk];have sz:(h.push {cls:=.type "cell",data:=.cell none}).objs.size=h.objs.size+1:=Bb ..;rw[<-sz]at e
   rcases WJ e with q|q
   ·rcases Os.mp q with q|q
    ·subst q;exact .inr ⟨_,Dv _ _ _ _<|Ao _ rfl,rfl⟩
    exact .inl q
   exact .inr q
  rename_i hk;rw[if_neg hk];exact WJ e
def LG(X:Cx)(scope:Scope)(N':List Str)(cells:List (Str×Addr))(C:Addr)(s0:Shared)(g:Hp)(ex:List Addr):Cx:={X with N:=N',s₀:=s0,H₀:=g,env:=compEnvC scope cells C X.env,outer:=X.stack,ex:=ex,fn:=λx=>scope.names.any λp=>p.1==x&&p.2==.cell,pn:=[],xe:=λ_ _=>False}
structure JV(X:Cx)(scope:Scope)(N':List Str)(nt:Nat)(fr:List Nat):Prop where
 kind:scope.kind=.function
 nd:(scope.names.map (·.1)).Nodup
 len:N'.length=nt+fr.length
 cap:∀(i j:Nat) (x:Str),fr[i]?=some j->N'[nt+i]?=some x->X.N[j]?=some x/\(x,AI)∈scope.names
 out:∀x,(x,AI)∈scope.names->X.env.kindOf x=some .cell\/X.env.kindOf x=some .free
theorem lookup_mem:∀{l:List (Str×NameKind)} {x:Str}{k:NameKind},(l.map (·.1)).Nodup->(x,k)∈l->l.lookup x=some k
 |[],_,_,_,h=>absurd h<|by simp
 |(n,j)::r,x,k,g,h=>by
  rw[An,Dw]at g;rw[A3];exists 10
  ·cases h;simp
  ·have:x≠n:=λe=>g.1 (by rw[<-e];exact Re.mpr ⟨_,h,rfl⟩);have:(x==n)=false:=by simpa using this
   rw[this];exact lookup_mem g.2 h
theorem UM{env:Env}:∀{l:List (Str×NameKind)} {x:Str}{k:NameKind},(l.map λ(n,k)=>if(k==AI&&env.scope.kind==.function&&env.kindOf n==some .cell)then(n,AY)else(n,k)).lookup x=some k ->
  ∃q,l.lookup x=some q/\(q=k\/q=.free)
 |[],_,_,h=>by simp at h
 |(n,j)::r,x,k,h=>by
  rw[An]at h;dsimp only at h;by_cases hc:(j==AI&&env.scope.kind==.function&&env.kindOf n==some .cell)=true
  ·rw[if_pos hc,A3]at h;rw[A3]
   cases g:x==n with
   |true=>
    have:j=.free:=by rw[Aq,Aq]at hc;simpa using hc.1.1
    exact⟨j,rfl,.inr this⟩
   |false=>rw[g]at h;exact UM h
  ·rw[if_neg hc,A3]at h;rw[A3]
   cases g:x==n with
   |true=>rw[g]at h;cases h;exact⟨j,rfl,.inl rfl⟩
   |false=>rw[g]at h;exact UM h
theorem XC{env:Env}:∀{l:List (Str×NameKind)} {x:Str},l.lookup x=some .free ->
  (l.map λ(n,k)=>if(k==AI&&env.scope.kind==.function&&env.kindOf n==some .cell)then(n,AY)else(n,k)).lookup x=some .cell \/
  (l.map λ(n,k)=>if(k==AI&&env.scope.kind==.function&&env.kindOf n==some .cell)then(n,AY)else(n,k)).lookup x=some .free
 |[],_,h=>by simp at h
 |(n,j)::r,x,h=>by
  rw[An];dsimp only;rw[A3]at h;by_cases hc:(j==AI&&env.scope.kind==.function&&env.kindOf n==some .cell)=true
  ·rw[if_pos hc,A3]
   cases g:x==n with
   |true=>exact .inl rfl
   |false=>rw[g]at h;exact XC h
  ·rw[if_neg hc,A3]
   cases g:x==n with
   |true=>rw[g]at h;cases h;exact .inr rfl
   |false=>rw[g]at h;exact XC h
variable {s:Shared}{N':List Str}{nt:Nat}{fr:List Nat}{qp:List (Addr×Obj)}{A:Around}{E:Qqa}{fp:List Addr}
noncomputable abbrev QF (X:Cx) (scope:Scope):List (Str×Addr):=Kd X.env.cells scope.names []
noncomputable abbrev LF (X:Cx) (scope:Scope) (C:Nat):List (Str×Addr):=cellsFrom (C+1) scope.names (QF X scope)
def V2(Z:JV X scope N' nt fr)(ok:X.Ok){p:Str×Addr}(h:p∈QF X scope):(p.1,AI)∈scope.names/\X.env.cells.lookup p.1=some p.2:=by
 rcases Wh h with h|⟨a,b⟩
 ·exact absurd h<|by simp
 obtain⟨c,d⟩:=ok.has p.1<|Z.out p.1 a;rw[d,Dk]at b;exact⟨a,by rw[d,b]⟩
def zB(Z:JV X scope N' nt fr)(ok:X.Ok)(h:(x,AI)∈scope.names):∃c,X.env.cells.lookup x=some c/\∀C,(LF X scope C).lookup x=some c:=by
 obtain⟨c,d⟩:=ok.has x<|Z.out x h;refine⟨c,d,λC=>?_⟩;have no:(x,AY)∉scope.names:=λq=>by have a:=lookup_mem Z.nd h;have b:=lookup_mem Z.nd q;rw[a]at b;cases b
 rw[Ub no];have q:=Uj (cells:=X.env.cells) (acc:=[])<|.inl h;obtain⟨f,e⟩:=Option.isSome_iff_exists.mp q;have:=(V2 Z ok<|AX e).2;have this:X.env.cells.lookup x=some f:=this;rw[d]at this;rw[e,this]
def uC(Z:JV X scope N' nt fr)(ok:X.Ok):(QF X scope).Pairwise λx y=>x.2≠y.2:=by
 have gen:∀(names:List (Str×NameKind)) (acc:List (Str×Addr)),(∀n,(n,AI)∈names->∃c,X.env.cells.lookup n=some c)->(names.map (·.1)).Nodup->(∀p∈acc,p.1∉names.map (·.1)/\X.env.cells.lookup p.1=some p.2)->(acc.Pairwise λx y=>x.2≠y.2) ->
   (Kd X.env.cells names acc).Pairwise λx y=>x.2≠y.2:=by
  intro names
  induction names with
  |nil=>intro acc _ _ _ h;exact h
  |cons p r l=>
   intro acc hf b a d;obtain⟨n,k⟩:=p;rw[An,Dw]at b;unfold Kd;cases hk:k==AI with
   |false=>
    rw[if_neg (!2)];exact l acc (λm hm=>hf m (Al _ hm)) b.2 (λq hq=>⟨λz=>(a q hq).1 (by rw[An];exact Al _ z),(a q hq).2⟩) d
   |true=>
    rw[if_pos rfl];have f:k=AI:=by simpa using hk
    obtain⟨c,i⟩:=hf n (by rw[f];exact Ar);refine l _ (λm hm=>hf m (Al _ hm)) b.2 (λq hq=>?_)<|List.pairwise_cons.mpr ⟨λy o e=>?_,d⟩
    ·rcases Os.mp hq with rfl|hq
     ·exact⟨b.1,by rw[i];rfl⟩
     exact⟨λz=>(a q hq).1 (by rw[An];exact Al _ z),(a q hq).2⟩
    have s:(X.env.cells.lookup n).getD 0=y.2:=e;rw[i,Dk]at s;have w:=(a y o).2;rw[<-s]at w;have:=ok.inj _ _ _ w i;exact(a y o).1 (by rw[this,An];exact Ar)
 exact gen scope.names [] (λn A=>ok.has n (Z.out n A)) Z.nd (λp d=>absurd d (!2)) Cz
def uD{M:Model}{cl:List (Str×Addr)}{Q:Env->Shared->Prop}(h:Q {scope:=scope,locals:=s.heap.objs.size,globals:=env.globals,cells:=cellsFrom (s.heap.objs.size+1) scope.names cl,qual:=env.qual,func:=none,code:=env.code,frame:=env.frame,builtins:=env.builtins}
   {s with heap:=pushCells (s.heap.push Qqd) scope.names}):
  wpAny M A (newFunctionEnv scope env.globals cl [] env.qual none .none<|some env) Q E s:=by
 simp only[newFunctionEnv,Fx,if_true];refine Aa<|wpAny_alloc ?_;refine Aa<|wpAny_layCells _ (λname kind cells=>by cases a:kind==AY<;>simp[a]) _ _ _ _ ?_;rw[show({s with heap:=s.heap.push Qqd}:Shared).heap.objs.size=s.heap.objs.size+1 from Bb ..];rw[C4];exact Aa<|Ae<|Ae h
def Nm(σ:L2.St)(nt:Nat)(fr:List Nat):L2.St:=BG nt none++fr.map λ(j:Nat)=>(σ[j]?).join
def wI{fp:List Addr}(Z:JV X scope N' nt fr)(I:Inv X qp σ H s)(hf:∀b∈fp,Kq X qp H b)(g:∀b∈fp,b<s.heap.objs.size):
  Inv (LG X scope N' (LF X scope s.heap.objs.size) s.heap.objs.size s H fp) [] (Nm σ nt fr) H {s with heap:=pushCells (s.heap.push Qqd) scope.names}:=by
 have ok:=I.ok;have kp:∀b o,s.heap.get? b=some o->(pushCells (s.heap.push Qqd) scope.names).get? b=some o:=λb o e=>Dv _ _ b o (Ad _ e);have N:∀p∈QF X scope,p.2<s.heap.objs.size:=λp E=>by obtain⟨_,e⟩:=V2 Z ok E;obtain⟨v,q⟩:=I.cell p.1 p.2 e;exact q.lt
 have sz:(s.heap.push Qqd).objs.size=s.heap.objs.size+1:=Bb ..;have cells:∀x c,(LF X scope s.heap.objs.size).lookup x=some c->(X.env.cells.lookup x=some c)\/(s.heap.objs.size+1<=c/\(pushCells (s.heap.push Qqd) scope.names).IsCell c none):=λx c e=>by
  have m:=AX e;rcases WG m with h|h
  ·exact .inl (V2 Z ok h).2
  ·refine .inr ⟨h,?_⟩;have F:(x,c)∈cellsFrom (s.heap.push Qqd).objs.size scope.names (QF X scope):=by rw[sz];exact m
   rcases WJ F with q|q
   ·have l:=N _ q;exact absurd (AC l (Cc h)) (AN _)
   exact q
 refine⟨⟨ok.mod,Z.kind,ok.glob,ok.blt,Ag _,λx y c K d=>?_,λx hx=>?_,λx c K d=>?_,ok.hd,ok.frames,.inl rfl,λb A=>?_,I.bs,AB ok.bsz I.sz,λb o e A=>?_,λb A=>?_,I.stack,I.stkFree⟩,
  rfl,I.bare,Un.kept kp,⟨λ_=>none,?_,λi x v K d h3=>?_⟩,λx c e=>?_,I.hok.fresh (Ag _),λx c e=>?_,λp E=>absurd E (by simp[LG]),I.hok.kept kp,?_⟩
 ·exact name_of_addr (Xd (uC Z ok) λp E=>Df (N p E)) (AX K) (AX d)
 ·have hx:(relabel scope X.env).names.lookup x=some .cell\/(relabel scope X.env).names.lookup x=some .free:=hx;have q:(x,AY)∈scope.names\/(x,AI)∈scope.names:=by
   rcases hx with hx|hx
   ·obtain⟨G,e,z|z⟩:=UM hx
    ·subst z;exact .inl (AX e)
    subst z;exact .inr (AX e)
   ·obtain⟨G,e,z|z⟩:=UM hx
    ·subst z;exact .inr (AX e)
    subst z;exact .inr (AX e)
  refine Option.isSome_iff_exists.mp (Wd (n:=s.heap.objs.size+1) (acc:=QF X scope) ?_);rcases q with q|q
  ·exact .inl q
  exact .inr (Uj (.inl q))
 ·have K:(scope.names.any λp=>p.1==x&&p.2==AY)=true:=K;obtain⟨p,E,e⟩:=List.any_eq_true.mp K;rw[Aq]at e;have J:p.1=x:=by simpa using e.1
  have L:p.2=AY:=by simpa using e.2
  have hm:(x,AY)∈scope.names:=by rw[<-J,<-L];exact E
  exact Cc (Wc hm d)
 ·refine⟨Aw (g b A),λx c e z=>?_⟩
  rcases cells x c e with q|⟨q,_⟩
  ·exact(hf b A).2.2.2.2.1 x c q z
  have l:=g b A;rw[<-z]at l;exact absurd (AC l (Cc q)) (AN _)
 ·rcases(hf b A).2.2.2.1 with z|z
  ·exact ok.noex b o e z
  exact absurd (AC (Ak e) (AB ok.bsz z)) (AN _)
 ·intro M
  rcases Os.mp (I.stkSub b M)with e|e
  ·exact(hf b A).2.1 e
  exact(hf b A).2.2.1 e
 ·exact(Heap.Ns.new s.heap (.type "dict")).keeps (Dv _ _)
 ·
  have T:nt<=i:=by
   by_cases T:i<nt
   ·unfold Nm at d;rw[Am (by simpa using T),Cm,if_pos T]at d;cases d
   omega
  obtain⟨Q,rfl⟩:∃Q,i=nt+Q:=⟨i-nt,by omega⟩
  unfold Nm at d;rw[A0 (!2),BJ,Nat.add_sub_cancel_left,Ax]at d
  cases U:fr[Q]? with
  |none=>rw[U]at d;cases d
  |some j=>
   rw[U]at d;have d:(σ[j]?).join=some v:=AA d;have d:σ[j]?=some (some v):=by
    cases q:σ[j]? with
    |none=>rw[q]at d;cases d
    |some w=>rw[q]at d;cases w with
     |none=>cases d
     |some w=>cases d;rfl
   obtain⟨P,f⟩:=Z.cap Q j x U K;obtain⟨c,S,W⟩:=zB Z ok f;have B:=Z.out x f;obtain⟨m,hn,Y⟩:=I.loc;obtain⟨u,r,l⟩:=Y j x v P d (B.elim (λz=>.inr (.inl z)) λz=>.inr (.inr z));refine⟨u,r,.inr ⟨?_,c,W _,?_⟩⟩
   ·exact XC (lookup_mem Z.nd f)
   ·rcases l with⟨k,_⟩|⟨_,c',C,z⟩
    ·rcases B with q|q
     ·rw[k]at q;cases q
     rw[k]at q;cases q
    rw[S]at C;cases C;exact z.keeps kp
 ·rcases cells x c e with q|⟨_,q⟩
  ·obtain⟨v,z⟩:=I.cell x c q;exact⟨v,z.keeps kp⟩
  exact⟨none,q⟩
 ·rcases cells x c e with q|⟨q,_⟩
  ·exact I.freeC x c q
  exact I.hok.fresh (Cc q)
 show _=N'.length;unfold Nm;rw[Z.len,AD,BJ,Af]
noncomputable abbrev FF:Qqa:=λ_ _=>False
variable {elt:Pv}{ifs:List Pv}
def zjC{prog:SZ}{R:Result->Shared->Prop}{s:Shared}{target:Pv}{it acc:IR}(I:Nat->Shared->Prop)(turn:∀n s,I n s->wpAny (!5) A (pyNext it) (λr s1=>match r with
   |none=>R (.ok .next) s1
   |some v=>wpAny (!5) A (letOwnedTupleGo target it v) (λ_ s1=>wpAny (!5) A (assign target env v) (λ_ s2=>
     wpAny (!5) A (forIn ifs true λc r=>if r=true then do let ok <-isTrue c env (Wp c env);pure (Dx ok)else pure (Dx r)) (λok s3=>
      if ok=true then wpAny (!5) A (Wp elt env) (λx s4=>
       wpAny (!5) A (call (.builtin "list.append") [acc,x]) (λ_ s5=>∃m,m<n/\I m s5) FF s4) FF s3
      else ∃m,m<n/\I m s3) FF s2) FF s1) FF s1) FF s)
  (n:Nat) (h:I n s):
  codeAny (!5) A (.compLoop (.ListComp elt [⟨target,iter,ifs,0⟩] scope pos) 0 it acc env) R s:=by
 refine codeAny_loop rfl I (λn s b=>?_) n h;show wpAny _ A ((compTurn (.ListComp elt [⟨target,iter,ifs,0⟩] scope pos) 0 it acc env).onRaise (λx=>do noteFrame x env;theTreesLotGoes x)) _ _ s;refine wpAny_noted ?_;rw[compTurn_list];refine Aa<|DR<|Aa<|Bu (turn n s b) (λr s₁ h₁=>?_) λ_ _ a=>False.elim a
 cases r with
 |none=>exact Ae h₁
 |some v=>
  refine Aa<|Bu h₁ (λ_ s₂ h₂=>?_) λ_ _ a=>False.elim a;refine Aa<|Bu h₂ (λ_ s₂ h₂=>Aa (Bu h₂ (λok s₃ h₃=>?_) λ_ _ a=>False.elim a)) λ_ _ a=>False.elim a
  cases ok with
  |false=>exact Ae ⟨rfl,h₃⟩
  |true=>
   exact Aa<|Aa<|Bu h₃ (λx s₄ h₄=>Aa (Bu h₄ (λ_ s₅ h₅=>Ae (Ae ⟨rfl,h₅⟩)) λ_ _ a=>False.elim a)) λ_ _ a=>False.elim a
def Jc(W:Wk)(g:MG)(c:MT)(m:ME):List D->Ii->Hg->Option (List D×Hg)
 |[],U,st=>if walked W st=true then some ([],st)else none
 |d::ds,U,st=>if walked W st=true then(g d U st).bind λ(U1,s1)=>(c U1 s1).bind λ(b,s2)=>
   if b=true then(m U1 s2).bind λ(x,s3)=>(Jc W g c m ds U1 s3).map λ(xs,s4)=>(x::xs,s4)else Jc W g c m ds U1 s2 else none
def IL(U:Ii)(nt:Nat)(fr:List Nat):Ii:=BG nt none++fr.map λ(j:Nat)=>(U[j]?).join
def I0(mi:MI)(nt:Nat)(fr:List Nat)(g:MG)(c:MT)(m:ME):ME:=λU st=>(mi U st).bind λ(W,s1)=>(Jc W g c m W.ds (IL U nt fr) s1).bind λ(xs,s2)=>
 if fits xs.length=true then some (.ref s2.length,s2++[.lst xs])else none
def IU:MT:=λ_ st=>some (true,st)
def SC(X:Cx)(ifs:List Pv)(m:MT):Prop:=∀(qp:List (Addr×Obj)) (s:Shared) (σ:L2.St) (H:Hp) (Q:Bool->Hp->Prop),Inv X qp σ H s->tT X.K m σ H Q ->
 wpAny (!4) X.A (forIn ifs true λc r=>if r=true then do let ok <-isTrue c X.env (Wp c X.env);pure (Dx ok)else pure (Dx r)) (TP X qp σ Q) X.xe s
def MX:SC X [] IU:=by rintro qp s σ H Q I ⟨U,st,io,b,st',E,S,e,k⟩;cases e;rw[C4];exact Ae ⟨H,I,k H [] Ext.refl S.nil⟩
def Q9{m:MT}(h:SB X c m):SC X [c] m:=λqp s σ H Q I q=>PySem.wpAny_tests_one<|h qp s σ H Q I q
def wW(h:HK K H io σ U):HK K H io (Nm σ nt fr) (IL U nt fr):=by
 refine⟨by unfold Nm IL;simp,λi d e=>?_⟩;unfold IL at e;unfold Nm
 by_cases hi:i<nt
 ·rw[Am (by simpa using hi),Cm,if_pos hi]at e;cases e
 ·rw[A0 (by simpa using hi),BJ,Ax]at e ⊢
  cases a:fr[i-nt]? with
  |none=>rw[a]at e;cases e
  |some j=>
   rw[a]at e;have e:(U[j]?).join=some d:=AA e;have e:U[j]?=some (some d):=by
    cases q:U[j]? with
    |none=>rw[q]at e;cases e
    |some w=>rw[q]at e;cases w with
     |none=>cases e
     |some w=>cases e;rfl
   obtain⟨v,b,r⟩:=h.at_ j d e;exact⟨v,by simp[b],r⟩
def adopt(S:HC K H io st)(g:H p=some (.lst xs))(np:p∉io)(R:Hj K H io xs ds):HC K H (io++[p]) (st++[.lst ds]):=by
 refine⟨by simp[S.len],?_,λn a ob c d=>?_⟩
 ·rw[FR];refine⟨S.nd,by simp,λa f b i=>?_⟩;rw[KM.mp i];rintro rfl;exact np f
 ·by_cases hn:n<io.length
  ·rw[Am hn]at c;rw[Am (by rw[<-S.len];exact hn)]at d;exact OR.mono ⟨λ_ _ h=>h,λ_ _ _ h=>h⟩ rfl<|S.ob n a ob c d
  ·have l:n<(io++[p]).length:=(KF.mp c).1;rw[AD,Br]at l;have e:n=io.length:=by omega
   subst e;rw[A0 (Ag _),Du]at c;rw[S.len,A0 (Ag _),Du]at d;cases (AA c);cases (AA d);exact⟨xs,g,Hj.mono ⟨λ_ _ h=>h,λ_ _ _ h=>h⟩ R⟩
section
variable {g:MG}{c:MT}
structure CompEnd(X:Cx)(qp:List (Addr×Obj))(σ:L2.St)(H:Hp)(io:List Addr)(d:D)(st':Hg)(Dd C:Addr)(H5:Hp)(s6:Shared):Prop where
 inv:Inv X qp σ H5 s6
 ns:∃m,s6.heap.Ns C m
 free:H5 C=none
 ne:C≠X.env.locals
 young:X.s₀.heap.objs.size<=C
 cells:∀x c,X.env.cells.lookup x=some c->c≠C
 pin:∀p∈X.pn++qp,p.1≠C
 val:∃ka,Ext io ka H H5/\HC X.K H5 (io++ka) st'/\Rep X.K H5 (io++ka) (.ref Dd) d
inductive CompI (X Y:Cx) (W:Wk) (tn:Nat->P3->Prop) (fp io:List Addr) (H1:Hp) (Dd:Addr) (g:MG) (c:MT) (m:ME) (t2:Hg) (xs:List D) (n:Nat) (s5:Shared):Prop
 |mk (i:Nat) (σ5:L2.St) (H5:Hp) (U5:Ii) (st5:Hg) (k5:List Addr) (ac rs:List D) (h0:n=W.ds.length-i) (h1:Inv Y [] σ5 H5 s5) (h2:tn i s5.heap) (h3:∀b∈fp,H5 b=none) (h4:Ext io k5 H1 H5) (h5:Dd∉k5) (h6:HC X.K H5 (io++k5) st5) (h7:HK X.K H5 (io++k5) σ5 U5) (h8:∃vs,H5 Dd=some (.lst vs)/\Hj X.K H5 (io++k5) vs ac) (h9:Jc W g c m (W.ds.drop i) U5 st5=some (rs,t2)) (h10:xs=ac++rs)
def bQ(hx:X.xe=FF)(hc:X.calm=true)(Z:JV X scope N' nt fr)(hi:SI X tg iter mi)(hg:∀C s0 H0 fp,SG (LG X scope N' (LF X scope C) C s0 H0 fp) tg g) (ht:∀C s0 H0 fp,SC (LG X scope N' (LF X scope C) C s0 H0 fp) ifs c) (he:∀C s0 H0 fp,SE (LG X scope N' (LF X scope C) C s0 H0 fp) elt m)(hs:∀x,foldedSetIterable iter X.env x=pure x)         {use:Option (IR->Sem Unit)} {Qf:Qqa}{ps:Pos}(I:Inv X qp σ H s) (E:HK X.K H io σ U) (S:HC X.K H io st) (e:I0 mi nt fr g c m U st=some (d,st'))(kf:∀y C P s6,CompEnd X qp σ H io d st' y C P s6->compPost (!4) X.A X.xe use Qf (.ref y) C (.ok .next) s6):
  wpAny (!4) X.A (comprehension (.ListComp elt [⟨tg,iter,ifs,0⟩] scope pos) scope X.env ps (newList []) false (Wp iter X.env) use) Qf X.xe s:=by
 obtain⟨⟨W,t1⟩,e1,e⟩:=Hu e;obtain⟨⟨xs,t2⟩,e2,e⟩:=Hu e;obtain⟨hfit,e⟩:=IA e;cases e;refine wpAny_comprehension_free (use:=use) rfl hs (zlG λn hn=>I.ok.has n (Z.out n hn)) Z.kind (λx hx hl=>by
  obtain⟨n,k⟩:=x;cases (show k=.local from hl)
  exact lookup_mem Z.nd hx) ?_
 refine HD (hi qp s σ H (λJ H1=>∃ka,Ext io ka H H1/\HC X.K H1 (io++ka) t1/\Lz X.K H1 (io++ka) W J) I ⟨U,st,io,W,t1,E,S,e1,λJ H' ka X' S' O'=>⟨ka,X',S',O'⟩⟩) λv sa ha=>?_;refine HD ha ?_;rintro itv s2 ⟨it,fp,tn,J,H1,QE,I1,T,tn0,fpok,N,X1,S1,IO⟩;subst QE;refine AR ?_;have hD:H1 s2.heap.objs.size=none:=I1.hok.fresh (Ag _);have I3:Inv X qp σ (upd H1 s2.heap.objs.size (.lst [])) {s2 with heap:=s2.heap.push {cls:=.type "list",data:=.seq ([]:List IR).toArray},toks:=s2.toks}:=I1.lnew .nil (A9 _);obtain⟨X2,S2a⟩:=Rj (o:=.lst []) S1 hD;rw[Ap]at S2a;have S2:HC X.K (upd H1 s2.heap.objs.size (.lst [])) (io++N) t1:=S2a;clear S2a;generalize hH3:upd H1 s2.heap.objs.size (.lst [])=H3 at I3 X2 S2;have H3D:H3 s2.heap.objs.size=some (.lst []):=by rw[<-hH3];exact Lc
 generalize hD':s2.heap.objs.size=y at hD I3 X2 S2 hH3 H3D ⊢;generalize hs3:({s2 with heap:=s2.heap.push {cls:=.type "list",data:=.seq ([]:List IR).toArray},toks:=s2.toks}:Shared)=s3 at I3;have fplt:∀b∈fp,b<s3.heap.objs.size:=λb hb=>by obtain⟨o,ho,_⟩:=T.obj 0 _ tn0 b hb;rw[<-hs3];exact AC (Ak ho) (by show _<=(s2.heap.push _).objs.size;rw[Bb];exact Cv _)
 have fpD:∀b∈fp,b≠y:=λb hb z=>by obtain⟨o,ho,_⟩:=T.obj 0 _ tn0 b hb;have:=Ak ho;rw[z,<-hD']at this;exact AN _ this
 have L:∀b∈fp,Kq X qp H3 b:=λb hb=>⟨by rw[<-hH3,HV (fpD b hb)];exact(fpok b hb).1,(fpok b hb).2⟩
 have tn3:tn 0 s3.heap:=T.keep 0 _ _ tn0 λb _ o ho=>by rw[<-hs3];exact Ad _ ho
 refine uD ?_;have I4:=wI (fp:=fp) Z I3 L fplt;have tn4:tn 0 (pushCells (s3.heap.push Qqd) scope.names):=T.keep 0 _ _ tn3 λb _ o ho=>Dv _ _ _ _ (Ad _ ho);generalize hs4:({s3 with heap:=pushCells (s3.heap.push Qqd) scope.names}:Shared)=s4 at I4;have tn4:tn 0 s4.heap:=by rw[<-hs4];exact tn4
 show codeAny (!4) X.A (.compStart (.ListComp elt [⟨tg,iter,ifs,0⟩] scope pos) 0 (.ref it) (.ref y) (LG X scope N' (LF X scope s3.heap.objs.size) s3.heap.objs.size s3 H3 fp).env) _ _;generalize M:LG X scope N' (LF X scope s3.heap.objs.size) s3.heap.objs.size s3 H3 fp=Y at I4;have yP:Y.prog=X.prog:=by rw[<-M];rfl
 have yW:Y.w=X.w:=by rw[<-M];rfl
 have yK:Y.K=X.K:=by rw[<-M];rfl
 have yC:Y.calm=true:=by rw[<-M];exact hc
 have yA:Y.A=X.A:=by rw[<-M];rfl
 have yx:Y.xe=FF:=by rw[<-M];rfl
 have hg:=hg s3.heap.objs.size s3 H3 fp;have ht:=ht s3.heap.objs.size s3 H3 fp;have he:=he s3.heap.objs.size s3 H3 fp;rw[M]at hg ht he;have yex:Y.ex=fp:=by rw[<-M];rfl
 have yfs:∀b∈fp,b∉Y.fs:=λb hb hs=>by
  rw[<-M]at hs;have hs:b∈L3 X.stack:=hs;rcases Os.mp (I3.stkSub b hs)with z|z
  ·exact(L b hb).2.1 z
  exact(L b hb).2.2.1 z
 have yL:Y.env.locals=s3.heap.objs.size:=by rw[<-M];rfl
 have hio:y∉io++N:=λhm=>by obtain⟨u,hu,_⟩:=S1.mem hm;rw[hD]at hu;cases hu
 have start:∀{H':Hp}{sx:Shared}{σ':L2.St},Inv Y [] σ' H' sx->(∀b∈fp,H' b=none)->∀b∈fp,Kq Y [] H' b:=λ{H' sx σ'} I' hn b hb=>by
  refine⟨hn b hb,λz=>?_,yfs b hb,.inl (by rw[yex];exact hb),λx cc e z=>?_,λp hp=>absurd hp (by rw[<-M];simp[LG])⟩
  ·rw[yL]at z;exact absurd (fplt b hb) (by rw[z];exact AN _)
  exact(I'.ok.exf b (by rw[yex];exact hb)).2 x cc e z
 have loop:∀sx:Shared,Inv Y [] (Nm σ nt fr) H3 sx->tn 0 sx.heap->codeAny (!4) X.A (.compLoop (.ListComp elt [⟨tg,iter,ifs,0⟩] scope pos) 0 (.ref it) (.ref y) Y.env) (compPost (!4) X.A X.xe use Qf (.ref y) s3.heap.objs.size) sx:=by
  intro sx Ix tnx;refine zjC (CompI X Y W tn fp (io++N) H1 y g c m t2 xs) ?_ (W.ds.length-0)
   ⟨0,Nm σ nt fr,H3,IL U nt fr,t1,[],[],xs,rfl,Ix,tnx,λb hb=>(L b hb).1,X2,by simp,S2.nil,by rw[Ap];exact wW (by have:=(E.ext S X1).ext S1 X2;rw[Ap]at this;exact this),⟨[],H3D,rfl⟩,by rw[GD];exact e2,rfl⟩
  rintro n s5 ⟨i,σ5,P,U5,st5,l,ac,rs,rfl,I5,tn5,fr5,X25,nk5,S5,E5,⟨vs,hvs,Rvs⟩,G,exs⟩;have nD:∀{kk:List Addr},y∉kk->y∉(io++N)++kk:=λ{kk} hk hm=>(On.mp hm).elim hio hk;have nF:∀{kk jj:List Addr}{Ha Hb:Hp}{vv:List V},Ext jj kk Ha Hb->Ha y=some (.lst vv)->y∉kk:=λ{kk jj Ha Hb vv} Xx hv hm=>by have q:=Xx.fresh y hm;rw[hv]at q;cases q
  cases hd:W.ds[i]? with
  |none=>
   have hl:W.ds.length<=i:=List.getElem?_eq_none_iff.mp hd;rw[EH hl]at G;obtain⟨hw,G⟩:=IA G;cases G;have:=T.done Y yP yW yK yC i [] s5 σ5 P FF I5 (start I5 fr5) tn5 (IO.stop' P l _ i hl X25 S5 (RF hw));rw[yA]at this;refine HD this ?_;rintro r s6 ⟨hr,I6⟩;subst hr;obtain⟨mm,hn,_⟩:=id I6.loc;rw[yL]at hn;have base:Un (L3 X.stack) fp H3 P s3.heap s6.heap:=by have b:=I6.base;rw[<-M]at b;exact b
   have os:s6.os=s3.os:=by have b:=I6.os;rw[<-M]at b;exact b
   have free:P s3.heap.objs.size=none:=by have b:=I6.free;rw[yL]at b;exact b
   have hok:JD X.prog X.w P s6.heap:=by have b:=I6.hok;rw[yP,yW]at b;exact b
   have I7:Inv X qp σ P s6:=Inv.call' (s':=s6) (ch:=fp) I3 os base hok I6.bare λb hb=>⟨(L b hb).2.2.2.1,(L b hb).2.1,(L b hb).2.2.2.2.1,(L b hb).2.2.2.2.2⟩;have np:y∉(io++N)++l:=nD nk5;rw[Ap]at exs;subst exs;have SA:=adopt S5 hvs np Rvs;have X6:Ext io (N++l) H P:=X1.trans S1 X25;have lt3:X.env.locals<s3.heap.objs.size:=I3.lt;refine kf y s3.heap.objs.size P s6 ⟨I7,⟨mm,hn⟩,free,C0 lt3,I3.sz,λx cc e z=>?_,λp hp z=>?_,?_⟩
   ·obtain⟨vv,q⟩:=I3.cell x cc e;have:=q.lt;rw[z]at this;exact AN _ this
   ·have:=Ak (I3.pin p hp).1;rw[z]at this;exact AN _ this
   refine⟨(N++l)++[y],⟨λb o hb nb=>X6.keep b o hb nb,λb hb=>?_,X6.frz⟩,(by simpa using SA),⟨y,rfl,?_⟩⟩
   ·rcases On.mp hb with hb|hb
    ·exact X6.fresh b hb
    ·rw[KM.mp hb]
     cases q:H y with
     |none=>rfl
     |some o=>
      by_cases hb:y∈io
      ·exact absurd (AK _ hb) hio
      have:=X1.keep y o q hb;rw[hD]at this;cases this
   have:=getElem?_len ((io++N)++l) y;rw[<-S5.len];simpa using this
  |some dd=>
   have hl:i<W.ds.length:=(KF.mp hd).1;have hdr:W.ds.drop i=dd::W.ds.drop (i+1):=by rw[D3 hl,(KF.mp hd).2]
   rw[hdr]at G;obtain⟨hw,G⟩:=IA G;obtain⟨⟨U6,t6⟩,e6,G⟩:=Hu G;obtain⟨⟨b7,t7⟩,e7,G⟩:=Hu G;obtain⟨go,yl⟩:=IO.go i dd P l st5 hd X25 S5 (RF hw);have hit:=T.item Y yP yW yK yC i [] s5 σ5 P FF I5 (start I5 fr5) tn5 go;rw[yA]at hit;refine HD hit ?_;rintro r s6 ⟨u,hr,h6⟩;subst hr;refine HD h6 ?_;rintro _ s7 ⟨x,H7,I7,r7,y7,tn7,fr7⟩;obtain⟨X7,S7,R7⟩:=yl x H7 y7;have X57:Ext (io++N) l H1 H7:=(X25.trans S5 X7).app;have hv7:H7 y=some (.lst vs):=X7.keep _ _ hvs (nD nk5);have E7:HK X.K H7 ((io++N)++l) σ5 U5:=by have:=E5.ext S5 X7;rw[Ap]at this;exact this
   have R7v:Hj X.K H7 ((io++N)++l) vs ac:=by have:=Rvs.ext S5 X7;rw[Ap]at this;exact this
   have I7p:=I7.pinned (start I7 fr7) (T.obj _ _ tn7);rw[<-yA,<-yP,<-yW];rw[<-yx];refine HD (hg _ s7 σ5 H7 x u (λσ8 H8=>∃Q,Ext ((io++N)++l) Q H7 H8/\HC X.K H8 (((io++N)++l)++Q) t6/\HK X.K H8 (((io++N)++l)++Q) σ8 U6) I7p r7 (by rw[yK];exact⟨dd,U5,st5,(io++N)++l,U6,t6,R7,E7,S7,e6,λσ8 H8 Q X8 S8 E8=>⟨Q,X8,S8,E8⟩⟩)) ?_;rintro _ s8 ⟨σ8,H8,I8,Q,X8,S8,E8⟩;have S8':HC X.K H8 ((io++N)++(l++Q)) t6:=by rw[<-Aj];exact S8
   have E8':HK X.K H8 ((io++N)++(l++Q)) σ8 U6:=by rw[<-Aj];exact E8
   have X38:Ext (io++N) (l++Q) H1 H8:=X57.trans S7 X8;have nk8:y∉l++Q:=λhm=>(On.mp hm).elim nk5 (nF X8 hv7);refine HD (ht _ s8 σ8 H8 (λb H9=>b=b7/\∃F,Ext ((io++N)++(l++Q)) F H8 H9/\HC X.K H9 (((io++N)++(l++Q))++F) t7) I8 (by rw[yK];exact⟨U6,t6,(io++N)++(l++Q),b7,t7,E8',S8',e7,λH9 F X9 S9=>⟨rfl,F,X9,S9⟩⟩)) ?_;rintro ok s9 ⟨H9,I9,eb,F,X9,S9⟩;subst eb;have X39:Ext (io++N) ((l++Q)++F) H1 H9:=X38.trans S8' X9;have S9':HC X.K H9 ((io++N)++((l++Q)++F)) t7:=by rw[<-Aj];exact S9
   have E9:HK X.K H9 ((io++N)++((l++Q)++F)) σ8 U6:=by have:=E8'.ext S8' X9;rw[Aj]at this;exact this
   have hv8:H8 y=some (.lst vs):=X8.keep _ _ hv7 (nD nk5);have hv9:H9 y=some (.lst vs):=X9.keep _ _ hv8 (nD nk8);have nk9:y∉(l++Q)++F:=λhm=>(On.mp hm).elim nk8 (nF X9 hv8);have R8v:Hj X.K H8 ((io++N)++(l++Q)) vs ac:=by have:=R7v.ext S7 X8;rw[Aj]at this;exact this
   have R9v:Hj X.K H9 ((io++N)++((l++Q)++F)) vs ac:=by have:=R8v.ext S8' X9;rw[Aj]at this;exact this
   have back:∀{Hx:Hp}{sx:Shared}{σx:L2.St},Inv Y ([]++Rc fp s7.heap) σx Hx sx->Inv Y [] σx Hx sx/\tn (i+1) sx.heap/\∀b∈fp,Hx b=none:=λ{Hx sx σx} Ix=>by refine⟨Ix.unpinned,T.keep _ _ _ tn7 λb hb o e=>(Ix.pin (b,o) (AH _ (AH _ (UG hb e)))).1,λb hb=>?_⟩;obtain⟨o,e,dn⟩:=T.obj _ _ tn7 b hb;exact(Ix.pin (b,o) (AH _ (AH _ (UG hb e)))).2.1
   cases ok with
   |false=>
    rw[if_neg (!1)];have G:Jc W g c m (W.ds.drop (i+1)) U6 t7=some (rs,t2):=G;obtain⟨Ib,tnb,frb⟩:=back I9;exact⟨W.ds.length-(i+1),by omega,i+1,σ8,H9,U6,t7,(l++Q)++F,ac,rs,rfl,Ib,tnb,frb,X39,nk9,S9',E9,⟨vs,hv9,R9v⟩,G,exs⟩
   |true=>
    rw[if_pos rfl];have G:((m U6 t7).bind λ(x,s3)=>(Jc W g c m (W.ds.drop (i+1)) U6 s3).map λ(xs,s4)=>(x::xs,s4))=some (rs,t2):=G;obtain⟨⟨x10,t10⟩,e10,G⟩:=Hu G;obtain⟨⟨rs',t11⟩,e11,G⟩:=Ie G;cases G;refine HD (he _ s9 σ8 H9 (λv f=>∃B,Ext ((io++N)++((l++Q)++F)) B H9 f/\HC X.K f (((io++N)++((l++Q)++F))++B) t10/\Rep X.K f (((io++N)++((l++Q)++F))++B) v x10) I9
     (by rw[yK];exact⟨U6,t7,(io++N)++((l++Q)++F),x10,t10,E9,S9',e10,λv f B X10 S10 R10=>⟨B,X10,S10,R10⟩⟩)) λu10 s10 ⟨v10,f,I10,r10,B,X10,S10,R10⟩=>?_
    have X310:Ext (io++N) (((l++Q)++F)++B) H1 f:=X39.trans S9' X10;have nk10:y∉((l++Q)++F)++B:=λhm=>(On.mp hm).elim nk9 (nF X10 hv9);have S10':HC X.K f ((io++N)++(((l++Q)++F)++B)) t10:=by rw[<-Aj];exact S10
    have hv10:f y=some (.lst vs):=X10.keep _ _ hv9 (nD nk9);have E10:HK X.K f ((io++N)++(((l++Q)++F)++B)) σ8 U6:=by have:=E9.ext S9' X10;rw[Aj]at this;exact this
    have R10v:Hj X.K f ((io++N)++(((l++Q)++F)++B)) (vs++[v10]) (ac++[x10]):=by have a:=R9v.ext S9' X10;rw[Aj]at a;rw[Aj]at R10;exact a.append (Hj.cons R10 Hj.nil)
    have hlen:vs.length<sizeLine:=by rw[R9v.length];have:=of_decide_eq_true hfit;rw[exs]at this;simp at this;omega
    refine HD (eD _ s10 σ8 f (.ref y) [v10] (.ref y) [u10] (λ_ H11=>H11=upd f y (.lst (vs++[v10]))) I10 rfl (.cons r10 .nil) ⟨y,vs,v10,rfl,rfl,hv10,hlen,rfl⟩) ?_;rintro _ s11 ⟨_,H11,I11,_,e11'⟩;subst e11';have nD10:=nD nk10;have XU:∀b o,f b=some o->b≠y->upd f y (.lst (vs++[v10])) b=some o:=λb o hb hn=>by rw[HV hn];exact hb
    have TU:Kp f (upd f y (.lst (vs++[v10]))):=⟨λa ys hb=>XU a _ hb (QT hb hv10 (!2)),λa o u hb=>XU a _ hb (QT hb hv10 (!2))⟩
    have S11:HC X.K (upd f y (.lst (vs++[v10]))) ((io++N)++(((l++Q)++F)++B)) t10:=by refine⟨S10'.len,S10'.nd,λn a ob h1 h2=>?_⟩;have hne:a≠y:=λz=>nD10 (by rw[<-z];exact AG h1);have:=OR.mono (ka:=[]) TU (HV hne) (S10'.ob n a ob h1 h2);rw[Ap]at this;exact this
    have mono0:∀{v:V}{d:D},Rep X.K f ((io++N)++(((l++Q)++F)++B)) v d->Rep X.K (upd f y (.lst (vs++[v10]))) ((io++N)++(((l++Q)++F)++B)) v d:=λ{v d} h=>by have:=Rep.mono (ka:=[]) TU h;rw[Ap]at this;exact this
    have mono1:∀{v:List V}{d:List D},Hj X.K f ((io++N)++(((l++Q)++F)++B)) v d->Hj X.K (upd f y (.lst (vs++[v10]))) ((io++N)++(((l++Q)++F)++B)) v d:=λ{v d} h=>by have:=Hj.mono (ka:=[]) TU h;rw[Ap]at this;exact this
    obtain⟨Ib,tnb,frb⟩:=back I11;refine⟨W.ds.length-(i+1),by omega,i+1,σ8,upd f y (.lst (vs++[v10])),U6,t10,((l++Q)++F)++B,ac++[x10],rs',rfl,Ib,tnb,frb,⟨λb o hb nb=>XU b o (X310.keep b o hb nb) (λz=>by rw[z,hD]at hb;cases hb),X310.fresh,λb o u hb=>XU b _ (X310.frz b o u hb) (λz=>by rw[z,hD]at hb;cases hb)⟩,nk10,S11,⟨E10.len,λj dj hj=>?_⟩,⟨_,Lc,mono1 R10v⟩,e11,by rw[exs,Aj];rfl⟩;obtain⟨v,q,r⟩:=E10.at_ j dj hj;exact⟨v,q,mono0 r⟩
 have l4:=loop s4 I4 tn4;exact codeAny_compStart_list l4 (T.self _ 0 _ _ _ tn4 l4)
def Ms(j:X.xe=FF)(r:X.calm=true)(Z:JV X scope N' nt fr)(hi:SI X tg iter mi)(u:∀C s0 h fp,SG (LG X scope N' (LF X scope C) C s0 h fp) tg g) (v:∀C s0 h fp,SC (LG X scope N' (LF X scope C) C s0 h fp) ifs c) (he:∀C s0 h fp,SE (LG X scope N' (LF X scope C) C s0 h fp) elt m)(y:∀x,foldedSetIterable iter X.env x=pure x:=by intro _;rfl):SE X (.ListComp elt [⟨tg,iter,ifs,0⟩] scope pos) (I0 mi nt fr g c m):=by
 rintro qp s σ H Q I ⟨U,st,io,d,st',E,S,e,k⟩;rw[eval_ListComp];refine bQ (use:=none) j r Z hi u v he y I E S e λf C i l R=>?_;obtain⟨n,p⟩:=R.ns;refine⟨n,p,λT a=>?_⟩;obtain⟨ka,w,A,K⟩:=R.val;exact⟨.ref f,i,R.inv.turned (t':=l.toks) (it:=C) (λb o N q=>(a.2 b N).trans q) R.free R.ne (.inr R.young) R.cells R.pin,rfl,k _ _ ka w A K⟩
def Uz{i:Nat}{x:Str}{j:Pos}(F:X.xe=FF)(G:X.calm=true)(Z:JV X scope N' nt fr)(hi:SI X tg iter mi)(J:∀C s0 r fp,SG (LG X scope N' (LF X scope C) C s0 r fp) tg g) (L:∀C s0 r fp,SC (LG X scope N' (LF X scope C) C s0 r fp) ifs c) (he:∀C s0 r fp,SE (LG X scope N' (LF X scope C) C s0 r fp) elt m)(M:X.N.Nodup) (u:X.N[i]?=some x) (B:X.env.scope.names.lookup x=some .local)(y:swapsWith (.ListComp elt [⟨tg,iter,ifs,0⟩] scope pos) (some<|.Name x pos') j.line X.env=pure true:=by rfl)(P:∀x,foldedSetIterable iter X.env x=pure x:=by intro _;rfl):SS X (.Assign [.Name x pos'] (.ListComp elt [⟨tg,iter,ifs,0⟩] scope pos) j) (Hr (I0 mi nt fr g c m)<|Hl i):=by
 intro qp s σ H N I h;exists 2;obtain⟨⟨d,s1⟩,T,e⟩:=Hu e;obtain⟨⟨U',s2⟩,W,e⟩:=Ie e;cases e;cases W;rw[exec_Assign_Name_used _ _ _ _ y];refine Aa<|DR<|Aa ?_;show wpAny _ X.A (do let _ <-comprehension (.ListComp elt [⟨tg,iter,ifs,0⟩] scope pos) scope X.env _ (newList []) false (Wp iter X.env) (some<|assign (.Name x pos') X.env)) _ _ s;refine Aa<|HD (bQ (use:=some (assign (.Name x pos') X.env)) (Qf:=λ_ p=>SP X qp N .next p) F G Z hi J L he P I E S T λK C Y s6 R=>?_) λ_ p hq=>Ae (Ae hq);obtain⟨m5,hn⟩:=R.ns;obtain⟨ka,Q,S5,R5⟩:=R.val;show wpAny _ _ (assign (.Name x pos') X.env<|.ref K) _ _ _;refine FL<|dM (v:=.ref K) R.inv M u (.inl B) rfl (?_)<|.inr B;rintro s7 I7 ⟨a,sb,ha⟩;have l:C≠a:=λz=>by
  rcases ha with q|q
  ·exact R.ne<|z.trans q
  exact R.cells _ _ q z.symm
 refine⟨m5,hn.sameBut sb l,λh' n=>?_⟩;refine⟨_,Y,I7.turned (t':=s7.toks) (it:=C) (λb o hb q=>(n.2 b hb).trans q) R.free R.ne (.inr R.young) R.cells R.pin,?_⟩;exact w _ _ ka Q S5<|(E.ext S Q).set i R5
end
variable {v:V}
def HF:G2
 |.int i,.int j,st=>some (.int (i+j),st)
 |.str a,.str b,st=>if fits (a.length+b.length)=true then some (.str (a++b),st)else none
 |.tup a,.tup b,st=>if(!a.isEmpty&&fits (a.length+b.length))=true then some (.tup (a++b),st)else none
 |.ref a,.ref b,st=>match st[a]?,st[b]? with
  |some (.lst x),some (.lst y)=>if fits (x.length+y.length)=true then some (.ref st.length,st++[.lst (x++y)])else none
  |_,_=>none
 |_,_,_=>none
def Jv:Jr X (binaryOp .Add) HF:=by
 rintro qp s σ H x y v u Q I f l ⟨K,m,st,io,d,st',n,o,S,e,k⟩;cases K with
 |int i=>
  cases m with
  |int j=>cases e;exact lR qp s σ H x y v u Q I f l ⟨i,j,n,o,k.now S rfl⟩
  |_=>cases e
 |str i=>
  cases m with
  |str j=>
   exists 3;cases e;exact zkL qp s σ H x y v u Q I f l ⟨i,j,n,o,of_decide_eq_true hf,k.now S rfl⟩
  |_=>cases e
 |tup i=>
  cases m with
  |tup j=>
   exists 3;cases e;rw[Aq]at hf;obtain⟨p,xs,ex,a,b⟩:=n;obtain⟨q,w,A,E,c⟩:=o;refine sY qp s σ H x y v u Q I f l ⟨p,q,xs,w,ex,A,IK.of a,IK.of E,λz=>?_,by rw[b.length,c.length];exact of_decide_eq_true hf.2,λz=>?_,λz p a=>k.tup S (b.append c) a⟩
   ·have:=b.length;rw[z]at this;have:i=[]:=BW this.symm;rw[this]at hf;exact absurd hf.1<|by decide
   have:=c.length;rw[z]at this;have:j=[]:=BW this.symm;subst this;rw[Ap]at k;exact k.now S ⟨p,xs,rfl,a,b⟩
  |_=>cases e
 |ref i=>
  cases m with
  |ref j=>
   unfold HF at e;exists 11;split at e
   ·rename_i g h N T;exists 3;cases e;obtain⟨p,ex,a⟩:=n;obtain⟨q,A,E⟩:=o;obtain⟨xs,U,b⟩:=S.ob i p _ a N;obtain⟨w,W,c⟩:=S.ob j q _ E T;exact lS qp s σ H x y v u Q I f l ⟨p,q,xs,w,ex,A,U,W,by rw[b.length,c.length];exact of_decide_eq_true hf,λp a=>k.lst S (b.append c) a⟩
   ·cases e
  |_=>cases e
 |_=>cases e
def intD(c:Int->Int->Bool)(g:Int->Int->D):G2
 |.int i,.int j,st=>if c i j=true then some (g i j,st)else none
 |_,_,_=>none
def Qb{f:IR->IR->Sem IR}{C:Int->Int->Prop}{c:Int->Int->Bool}{g:Int->Int->Int}(h:J6 X f (rI C λi j=>.int (g i j)))(q:∀i j,c i j=true->C i j):Jr X f (intD c λi j=>.int (g i j)):=by
 rintro qp s σ H x y v u Q I a b ⟨l,m,st,io,d,st',n,o,S,e,k⟩;cases l with
 |int i=>
  cases m with
  |int j=>
   exists 3;cases e;exact h qp s σ H x y v u Q I a b ⟨i,j,n,o,q i j hf,k.now S rfl⟩
  |_=>cases e
 |_=>cases e
def tt2:Int->Int->Bool:=λ_ _=>true
def K6:G2:=intD tt2 λi j=>.int<|i-j
def Qd:Jr X (binaryOp .Sub) K6:=Qb (C:=λ_ _=>True) (λqp s σ H x y v u Q I a b ⟨i,j,c,d,_,q⟩=>lW qp s σ H x y v u Q I a b ⟨i,j,c,d,q⟩) λ_ _ _=>trivial
def Kc(i:Int):Bool:=decide (-(2^64)<i)&&decide (i<2^64)
def LW:G2:=intD (λi j=>Kc i || Kc j) λi j=>.int<|i*j
def sZ:Jr X (binaryOp .Mult) LW:=Qb lV λi j h=>by
 rw[Em]at h;unfold Kc at h;rw[Aq,Aq]at h;rcases h with h|h
 ·exact .inl ⟨of_decide_eq_true h.1,of_decide_eq_true h.2⟩
 exact .inr ⟨of_decide_eq_true h.1,of_decide_eq_true h.2⟩
def Io:G2:=intD (λ_ j=>decide (0<j)) λi j=>.int<|i % j
def Md:Jr X (binaryOp .Mod) Io:=Qb lU λi j h=>of_decide_eq_true h
def L4(g:Int->Int->Bool):G2
 |.int i,.int j,st=>some (.bl (g i j),st)
 |_,_,_=>none
def T5{f:IR->IR->Sem IR}{g:Int->Int->Bool}(h:J6 X f (NL λi j=>.bl (g i j))):Jr X f (L4 g):=by
 rintro qp s σ H x y v u Q I a b ⟨c,l,st,io,d,st',m,n,S,e,k⟩;cases c with
 |int i=>
  cases l with
  |int j=>cases e;exact h qp s σ H x y v u Q I a b ⟨i,j,m,n,k.now S rfl⟩
  |_=>cases e
 |_=>cases e
def Px:G2:=L4 λi j=>decide (i<j)
def QD:G2:=L4 λi j=>decide (i<=j)
def Nj:G2:=L4 λi j=>decide (j<i)
def L1:G2:=L4 λi j=>decide (j<=i)
def ZU:Jr X (SL .Lt) Px:=T5 lJ
def VA:Jr X (SL .LtE) QD:=T5 lI
def ZS:Jr X (SL .Gt) Nj:=T5 lH
def P0:Jr X (SL .GtE) L1:=T5 lG
def MR:D->Bool
 |.non=>true
 |_=>false
def Ob:G2:=λx y st=>match y with
 |.non=>some (.bl !MR x,st)
 |_=>none
def sH(h:Rep K H io v d):decide (v=.non)=MR d:=by
 cases d with
 |non=>cases (show v=.non from h);rfl
 |bl b=>cases (show v=.bl b from h);rfl
 |int b=>cases (show v=.int b from h);rfl
 |str b=>cases (show v=.str b from h);rfl
 |tup b=>obtain⟨a,xs,rfl,_⟩:=h;rfl
 |ref b=>obtain⟨a,rfl,_⟩:=h;rfl
 |kl b=>obtain⟨a,xs,rfl,_⟩:=h;rfl
 |fn b=>obtain⟨a,rfl,_⟩:=h;rfl
 |er b c f=>cases f<;>(obtain⟨_,_,_,_,h⟩:=h;first|(obtain⟨rfl,_⟩:=h;rfl)|(obtain⟨_,rfl,_⟩:=h;rfl)|(obtain⟨_,_,rfl,_⟩:=h;rfl))
def cJ:Jr X (SL .IsNot) Ob:=by
 rintro qp s σ H x y v u Q I a b ⟨l,c,st,io,d,st',f,i,S,e,k⟩;cases c with
 |non=>
  cases e;refine tF qp s σ H x y v u Q I a b ⟨i,?_⟩;rw[sH f];exact k.now S rfl
 |_=>cases e
def Sm:D->Hg->Option (D×Hg)
 |.int i,st=>some (.int (-i),st)
 |_,_=>none
def NQ(m:ME):ME:=λU st=>(!8).bind λ(x,s)=>Sm x s
def pH(g:SE X a ma):SE X (.UnaryOp .USub a pos) (NQ ma):=PE.imp (kE oO g) <| by
 exists 1;obtain⟨⟨x,s1⟩,b,e⟩:=Hu e;cases x with
 |int i=>
  cases e;exact⟨U,st,io,.int i,_,E,S,b,λv H1 c f l m=>⟨i,m,k _ H1 c f l rfl⟩⟩
 |_=>cases e
def Ko:G2
 |.tup ds,.int i,st=>(Le ds i).map λd=>(d,st)
 |.ref n,.int i,st=>(HZ st n).bind λds=>(Le ds i).map λd=>(d,st)
 |.kl ds,.int i,st=>(Le ds i).map λd=>(d,st)
 |.str z,.int i,st=>if fits z.length=true then(Le z.cps.toList i).map λc=>(.str ⟨#[c]⟩,st)else none
 |_,_,_=>none
def V0{i:Int}(r:Hj K H io xs ds)(h:Le ds i=some d):∃v,Le xs i=some v/\Rep K H io v d:=by unfold Le at h ⊢;rw[r.length];obtain⟨j,a,h⟩:=Hu h;obtain⟨v,b,c⟩:=r.get h;exact⟨v,by rw[a];exact b,c⟩
def YD:SH X (Sg X.K Ko):=by
 rintro value slice qp s σ H x y v u Q I c f ⟨T,U,st,io,d,st',l,m,S,e,k⟩ o;cases U with
 |int i=>
  cases T with
  |tup ds=>
   obtain⟨A,b,e⟩:=Ie e;cases e;obtain⟨p,xs,ex,E,r⟩:=l;obtain⟨w,hw,a⟩:=V0 r b;exact Im value slice qp s σ H x y v u Q I c f ⟨p,xs,i,w,ex,m,IK.of E,hw,k.now S a⟩ o
  |ref n=>
   obtain⟨ds,W,e⟩:=Hu e;obtain⟨A,b,e⟩:=Ie e;cases e;obtain⟨p,ex,E⟩:=l;obtain⟨xs,N,r⟩:=KA S E W;obtain⟨w,hw,a⟩:=V0 r b;exact aZ value slice qp s σ H x y v u Q I c f ⟨p,xs,i,w,ex,m,N,hw,k.now S a⟩ o
  |kl ds=>
   obtain⟨A,b,e⟩:=Ie e;cases e;obtain⟨p,xs,ex,N,r⟩:=l;obtain⟨w,hw,a⟩:=V0 r b;exact aZ value slice qp s σ H x y v u Q I c f ⟨p,xs,i,w,ex,m,N.sq,hw,k.now S a⟩ o
  |str z=>
   exists 3;obtain⟨A,b,e⟩:=Ie e;cases e;exact Q2 value slice qp s σ H x y v u Q I c f ⟨z,i,A,l,m,of_decide_eq_true hf,b,k.now S rfl⟩ o
  |_=>cases e
 |_=>cases T<;>cases e
def kK(g:SE X a ma)(j:SE X b mb)(q:VX b:=by intro _ _;rfl):SE X (.Subscript a b pos) (mB Ko ma mb):=PE.imp (kC YD g j q) λ_ _ _ h=>Ur h
def HM:GN
 |[.tup ds],st=>some (.int ds.length,st)
 |[.ref n],st=>(HZ st n).map λds=>(.int ds.length,st)
 |[.kl ds],st=>some (.int ds.length,st)
 |[.str z],st=>if fits z.length=true then some (.int z.length,st)else none
 |_,_=>none
def Mg:Jz X (.builtin "len") HM:=by
 exists 0;cases ds with
 |nil=>cases e
 |cons i m=>
 cases m with
 |cons w a=>cases i<;>cases e
 |nil=>
 cases i with
 |tup l=>
  cases e;obtain⟨v,rfl,p,b,rfl,c,a⟩:=R.one;refine Xy qp s σ H _ us Q I r ⟨p,b,rfl,.inr<|IK.of c,?_⟩;rw[a.length];exact k.now S rfl
 |ref n=>
  obtain⟨l,o,e⟩:=Ie e;cases e;obtain⟨v,rfl,p,rfl,c⟩:=R.one;obtain⟨b,f,a⟩:=KA S c o;refine Xy qp s σ H _ us Q I r ⟨p,b,rfl,.inl f,?_⟩;rw[a.length];exact k.now S rfl
 |kl l=>
  cases e;obtain⟨v,rfl,p,b,rfl,f,a⟩:=R.one;refine Xy qp s σ H _ us Q I r ⟨p,b,rfl,.inl f.sq,?_⟩;rw[a.length];exact k.now S rfl
 |str z=>
  exists 3;cases e;obtain⟨v,rfl,rfl⟩:=R.one;exact zij qp s σ H _ us Q I r ⟨z,rfl,of_decide_eq_true hf,k.now S rfl⟩
 |_=>cases e
def Lu:GN
 |[.int i],st=>some (.int i,st)
 |[.bl b],st=>some (.int (if b then 1 else 0),st)
 |_,_=>none
def yV:Jz X (.type "int") Lu:=by
 exists 0;cases ds with
 |nil=>cases e
 |cons a c=>
 cases c with
 |cons f l=>cases a<;>cases e
 |nil=>
 cases a with
 |int i=>
  cases e;obtain⟨v,rfl,rfl⟩:=R.one;exact eO qp s σ H _ us Q I r<|.inl ⟨i,rfl,k.now S rfl⟩
 |bl b=>
  cases e;obtain⟨v,rfl,rfl⟩:=R.one;exact eO qp s σ H _ us Q I r<|.inr ⟨b,rfl,k.now S rfl⟩
 |_=>cases e
def QS:GN
 |[.int i,.int j],st=>some (.int (if j<i then j else i),st)
 |_,_=>none
def yY(g:X.calm=true):Jz X (.builtin "min") QS:=by
 exists 0;unfold QS at e;split at e
 ·rename_i i j;cases e;obtain⟨v,u,rfl,rfl,rfl⟩:=R.two;exact yX g qp s σ H _ us Q I r ⟨i,j,rfl,k.now S rfl⟩
 ·cases e
def QJ:GN
 |[.tup ds],st=>if fits ds.length=true then some (.ref st.length,st++[.lst ds])else none
 |[.ref n],st=>(HZ st n).bind λds=>if fits ds.length=true then some (.ref st.length,st++[.lst ds])else none
 |[.kl ds],st=>if fits ds.length=true then some (.ref st.length,st++[.lst ds])else none
 |_,_=>none
def zlL:Jz X (.type "list") QJ:=by
 exists 0;cases ds with
 |nil=>cases e
 |cons m w=>
 cases w with
 |cons A a=>cases m<;>cases e
 |nil=>
 cases m with
 |tup o=>
  exists 3;cases e;obtain⟨v,rfl,p,b,rfl,f,a⟩:=R.one;exact Xz qp s σ H _ us Q I r ⟨p,b,rfl,.inr<|IK.of f,λl c=>k.lst S a c⟩
 |ref n=>
  obtain⟨o,x,e⟩:=Hu e;exists 3;cases e;obtain⟨v,rfl,p,rfl,f⟩:=R.one;obtain⟨b,i,a⟩:=KA S f x;exact Xz qp s σ H _ us Q I r ⟨p,b,rfl,.inl i,λl c=>k.lst S a c⟩
 |kl o=>
  exists 3;cases e;obtain⟨v,rfl,p,b,rfl,i,a⟩:=R.one;exact Xz qp s σ H _ us Q I r ⟨p,b,rfl,.inl i.sq,λl c=>k.lst S a c⟩
 |_=>cases e
def Ll:GN
 |[.tup ds],st=>some (.tup ds,st)
 |[.ref n],st=>(HZ st n).map λds=>(.tup ds,st)
 |_,_=>none
def Mv:Jz X (.type "tuple") Ll:=by
 exists 0;cases ds with
 |nil=>cases e
 |cons f i=>
 cases i with
 |cons A a=>cases f<;>cases e
 |nil=>
 cases f with
 |tup m=>
  cases e;obtain⟨v,rfl,p,b,rfl,c,a⟩:=R.one;exact gX qp s σ H _ us Q I r ⟨p,b,rfl,.inr ⟨IK.of c,k.now S ⟨p,b,rfl,c,a⟩⟩⟩
 |ref n=>
  obtain⟨m,o,e⟩:=Ie e;cases e;obtain⟨v,rfl,p,rfl,c⟩:=R.one;obtain⟨b,w,a⟩:=KA S c o;exact gX qp s σ H _ us Q I r ⟨p,b,rfl,.inl ⟨w,λl x=>k.tup S a x⟩⟩
 |_=>cases e
def Je(f:D->Option PyData):List D->Option (List PyData)
 |[]=>some []
 |d::ds=>(f d).bind λp=>(Je f ds).map λps=>p::ps
def IC:Nat->Hg->D->Option PyData
 |0,_,_=>none
 |n+1,st,d=>match d with
  |.non=>some .none
  |.bl b=>some<|.bool b
  |.int i=>some<|.int i
  |.str x=>if Bm x=true then some (.str x)else none
  |.tup ds=>(Je (IC n st) ds).map .tuple
  |.ref k=>(HZ st k).bind λds=>(Je (IC n st) ds).map .list
  |.kl _=>none
  |.fn _=>none
  |.er _ _ _=>none
theorem Xe{n:Nat}:∀{ps:List PyData},(∀p∈ps,p.depth<=n)->Eo ps<=n
 |[],_=>by rw[Eo];exact A9 _
 |p::ps,h=>by rw[Eo];exact Nat.max_le.mpr ⟨h p Ar,Xe λq g=>h q (Al _ g)⟩
def fO{ps:List PyData}:(∀p∈ps,p.canLay0=true)->CA ps=true:=by
 induction ps with
 |nil=>intro _;simp only[CA]
 |cons p ps a=>
  intro h;simp only[CA];rw[h p Ar,a λq b=>h q (Al _ b)];rfl
theorem Ww{f:D->Option PyData}:∀{ds:List D}{ps:List PyData},Je f ds=some ps->∀p∈ps,∃d,f d=some p
 |[],ps,h,p,hp=>by cases h;exact absurd hp<|by simp
 |d::ds,ps,h,p,hp=>by
  obtain⟨q,g,h⟩:=Hu h;obtain⟨b,a,h⟩:=Ie h;subst h;rcases Os.mp hp with rfl|hp
  ·exact⟨d,g⟩
  exact Ww a p hp
theorem MZ:∀{n:Nat}{st:Hg}{d:D}{p:PyData},IC n st d=some p->p.canLay0=true/\p.depth<=n
 |0,_,_,_,h=>by cases h
 |n+1,st,d,p,h=>by
  cases d with
  |non=>cases h;exact⟨by simp only[B0],by simp only[C2];exact A9 _⟩
  |bl b=>cases h;exact⟨by simp only[B0],by simp only[C2];exact A9 _⟩
  |int b=>cases h;exact⟨by simp only[B0],by simp only[C2];exact A9 _⟩
  |str b=>
   obtain⟨g,h⟩:=IA h;cases h;exact⟨by simp only[B0];exact g,by simp only[C2];exact A9 _⟩
  |tup ds=>
   obtain⟨c,e,h⟩:=Ie h;subst h;have q:∀p∈c,p.canLay0=true/\p.depth<=n:=λp a=>let ⟨d,hd⟩:=Ww e p a;MZ hd;exact⟨by simp only[B0];exact fO λp a=>(q p a).1,by simp only[C2];exact CL (Xe λp a=>(q p a).2)⟩
  |kl ds=>cases h
  |fn ds=>cases h
  |er _ _ _=>cases h
  |ref k=>
   obtain⟨ds,f,h⟩:=Hu h;obtain⟨c,e,h⟩:=Ie h;subst h;have q:∀p∈c,p.canLay0=true/\p.depth<=n:=λp a=>let ⟨d,hd⟩:=Ww e p a;MZ hd;exact⟨by simp only[B0];exact fO λp a=>(q p a).1,by simp only[C2];exact CL (Xe λp a=>(q p a).2)⟩
theorem Xk{f:D->Option PyData}(hf:∀{v:V}{u:IR}{d:D}{p:PyData},Rep X.K H io v d->RelV v u->f d=some p->∃as,Reads s.heap u p as):
  ∀{xs:List V}{us:List IR}{ds:List D}{ps:List PyData},Hj X.K H io xs ds->Vals xs us->Je f ds=some ps->∃as,ReadsAll s.heap us ps as
 |_,_,[],ps,h,r,e=>by
  cases (show _=[] from h)
  cases r;cases e;exact⟨_,.nil⟩
 |_,_,d::ds,ps,h,r,e=>by
  obtain⟨y,z,rfl,g,j⟩:=h;cases r with
  |cons a b=>
   obtain⟨q,c,e⟩:=Hu e;obtain⟨n,i,e⟩:=Ie e;subst e;obtain⟨as,l⟩:=hf g a c;obtain⟨bs,m⟩:=Xk hf j b i;exact⟨_,.cons l m⟩
theorem Nb(I:Inv X qp σ H s)(S:HC X.K H io st):∀{n:Nat}{v:V}{u:IR}{d:D}{p:PyData},Rep X.K H io v d->RelV v u->IC n st d=some p->∃as,Reads s.heap u p as
 |0,_,_,_,_,_,_,h=>by cases h
 |n+1,v,u,d,p,h,r,e=>by
  cases d with
  |non=>cases e;cases (show v=.non from h);cases r;exact⟨_,.none⟩
  |bl b=>cases e;cases (show v=.bl b from h);cases r;exact⟨_,.bool _⟩
  |int b=>cases e;cases (show v=.int b from h);obtain⟨t,rfl⟩:=r;exact⟨_,.int _ _⟩
  |str b=>
   obtain⟨U,e⟩:=IA e;cases e;cases (show v=.str b from h);obtain⟨t,rfl⟩:=r;exact⟨_,.str _ _⟩
  |tup ds=>
   obtain⟨E,c,q⟩:=Ie e;subst q;obtain⟨a,xs,rfl,i,rs⟩:=h;cases r;obtain⟨l,m,⟨o,w,x,k,hd⟩,N⟩:=I.tuple<|IK.of i;obtain⟨as,A⟩:=Xk (f:=IC n st) (λh r e=>Nb I S h r e) rs m c;exact⟨_,.tuple w x hd<|by simpa using A⟩
  |kl ds=>cases e
  |fn ds=>cases e
  |er _ _ _=>cases e
  |ref k=>
   obtain⟨ds,Q,e⟩:=Hu e;obtain⟨E,c,q⟩:=Ie e;subst q;obtain⟨a,rfl,i⟩:=h;cases r;obtain⟨xs,T,rs⟩:=KA S i Q;obtain⟨l,m,⟨o,k,w,x,_,hd⟩,N⟩:=I.list T;obtain⟨as,A⟩:=Xk (f:=IC n st) (λh r e=>Nb I S h r e) rs m c;exact⟨_,.list w x hd<|by simpa using A⟩
def KC:G2:=λx y st=>(IC 100 st x).bind λp=>(IC 100 st y).map λq=>(.bl (Bv p q),st)
def IY:G2:=λx y st=>(IC 100 st x).bind λp=>(IC 100 st y).map λq=>(.bl !PyData.eqv p q,st)
def Oq(g:X.A.units+100<cLine):Jr X (SL .Eq) KC:=by rintro qp s σ H x y v u Q I f i ⟨E,K,st,io,d,st',l,m,S,e,k⟩;obtain⟨p,a,e⟩:=Hu e;obtain⟨q,b,e⟩:=Ie e;cases e;obtain⟨as,n⟩:=Nb I S l f a;obtain⟨bs,o⟩:=Nb I S m i b;have c:=MZ a;have w:=MZ b;exact PySem.SeqAt.compareEq_reads n o c.1 w.1 (BM (DC (AB (Gm _ _) c.2) _) g) ⟨.bl _,H,I,rfl,k.now S rfl⟩
def Np(g:X.A.units+100<cLine):Jr X (SL .NotEq) IY:=by rintro qp s σ H x y v u Q I f i ⟨E,K,st,io,d,st',l,m,S,e,k⟩;obtain⟨p,a,e⟩:=Hu e;obtain⟨q,b,e⟩:=Ie e;cases e;obtain⟨as,n⟩:=Nb I S l f a;obtain⟨bs,o⟩:=Nb I S m i b;have c:=MZ a;have w:=MZ b;exact PySem.SeqAt.compareNe_reads n o c.1 w.1 (BM (DC (AB (Gm _ _) c.2) _) g) ⟨.bl _,H,I,rfl,k.now S rfl⟩
def JM(g:HP k A):A.units+100<cLine:=by have:=g.un;omega
variable {t':Nat}
section
variable {h':P3}
def Inv.turnNew{fp:List Addr}{o:HO}(I:Inv X qp σ H s)(hf:∀b∈fp,Kq X qp H b)(k:∀b ob,b∉fp->s.heap.get? b=some ob->h'.get? b=some ob)(h:s.heap.objs.size<=p)(j:∀b∈fp,∀ob,s.heap.get? b=some ob->∃g,h'.get? b=some g) (new:Jy X.prog X.w (upd H p o) h' p o):Inv X qp σ (upd H p o) {s with heap:=h',toks:=t'}:=by
 have a:=I.hok.fresh h;have f:∀b ob,s.heap.get? b=some ob->b≠p:=λb ob e=>Aw<|AC (Ak e) h;refine Inv.step (ch:=fp) (g':=s.gens) (d':=s.drawn) I (λb d=>⟨(hf b d).2.2.2.1,(hf b d).2.1,(hf b d).2.2.2.2.1,(hf b d).2.2.2.2.2⟩) (λb ob _ _ hc e _=>k b ob hc e) (λb ob _ _ hc e _=>⟨ob.slots,k b ob hc e⟩)
  (λb ob hc e n=>by rw[HV (f b ob e)];exact n) (λb ob hc e=>⟨ob,k b ob hc e⟩) (λb xs e=>by rw[HV (Kk e a)];exact e) (λb ob u e=>by rw[HV (Kk e a)];exact e)
  (λb A e=>⟨#[],by rw[HV (Kk e a),e];simp⟩) (λm hm=>?_) (λb u e=>?_) I.bare
 ·obtain⟨ob,es,l,x,r⟩:=hm;exact⟨ob,es,l,k _ ob (λz=>(hf _ z).2.1 rfl) x,r⟩
 ·by_cases d:b=p
  ·subst d;rw[Lc]at e;cases e;exact new
  ·rw[HV d]at e;refine(I.hok b u e).stay (λc v hc q=>k c v (λz=>?_) q) (λc q=>by rw[HV (Kk q a)];exact q) λc xs q=>by rw[HV (Kk q a)];exact q
   have i:=(hf c z).1;rcases hc with rfl|hc
   ·rw[i]at e;cases e
   rw[i]at hc;cases hc
def Inv.turnAll{fp:List Addr}(I:Inv X qp σ H s)(hf:∀b∈fp,Kq X qp H b)(k:∀b ob,b∉fp->s.heap.get? b=some ob->h'.get? b=some ob):Inv X qp σ H {s with heap:=h',toks:=t'}:=by
 refine Inv.step (ch:=fp) (g':=s.gens) (d':=s.drawn) I (λb a=>⟨(hf b a).2.2.2.1,(hf b a).2.1,(hf b a).2.2.2.2.1,(hf b a).2.2.2.2.2⟩) (λb ob _ _ hc e _=>k b ob hc e) (λb ob _ _ hc e _=>⟨ob.slots,k b ob hc e⟩)
  (λb ob hc e n=>n) (λb ob hc e=>⟨ob,k b ob hc e⟩) (λb xs e=>e) (λb ob u e=>e)
  (λb l e=>⟨#[],by rw[e];simp⟩) (λm hm=>?_) (λb u e=>?_) I.bare
 ·obtain⟨ob,es,f,i,r⟩:=hm;exact⟨ob,es,f,k _ ob (λz=>(hf _ z).2.1 rfl) i,r⟩
 ·refine(I.hok b u e).stay (λc v hc q=>k c v (λz=>?_) q) (λc q=>q) λc xs q=>q;have d:=(hf c z).1
  rcases hc with rfl|hc
  ·rw[d]at e;cases e
  rw[d]at hc;cases hc
end
def boot_enumerate:UF "enumerate"=some (.type "enumerate"):=by decide +kernel
def pairs(ds:List D):List D:=(ds.zipIdx).map λ(d,k)=>.tup [.int (k:Nat),d]
def eJ{i:Nat}(h:(pairs ds)[i]?=some d):∃e,ds[i]?=some e/\d=.tup [.int (i:Nat),e]:=by
 unfold pairs at h;rw[Ax,List.getElem?_zipIdx]at h;cases e:ds[i]? with
 |none=>rw[e]at h;cases h
 |some x=>
  rw[e]at h;simp at h;exact⟨x,rfl,h.symm⟩
def pairs_len(ds:List D):(pairs ds).length=ds.length:=by unfold pairs;simp
section
variable {κ:Type} [DecidableEq κ]
def HS(kvs:List (κ×D))(k:κ):Option D:=(kvs.find? λa=>decide (a.1=k)).map (·.2)
def putD(kvs:List (κ×D))(k:κ)(d:D):List (κ×D):=if(kvs.any λa=>decide (a.1=k))=true then kvs.map (λa=>if a.1=k then(a.1,d)else a)else kvs++[(k,d)]
def KR.any{ps:List (κ×V)}{kvs:List (κ×D)}(r:KR κ K H io ps kvs)(k:κ):(ps.any λg=>decide (g.1=k))=(kvs.any λg=>decide (g.1=k)):=by
 induction r with
 |nil=>rfl
 |cons z t a=>rw[BV,BV,a,z.1]
def KR.length{ps:List (κ×V)}{kvs:List (κ×D)}(r:KR κ K H io ps kvs):ps.length=kvs.length:=Bg r
def KR.val{ps:List (κ×V)}{kvs:List (κ×D)}(r:KR κ K H io ps kvs)(k:κ):(HS kvs k=none/\IB ps k=none)\/∃d v,HS kvs k=some d/\IB ps k=some v/\Rep K H io v d:=by
 induction r with
 |nil=>exact .inl ⟨rfl,rfl⟩
 |@cons p q b c z t a=>
  unfold HS IB at *;rw[AV,AV,z.1];by_cases e:q.1=k
  ·rw[decide_eq_true e];exact .inr ⟨q.2,p.2,rfl,rfl,z.2⟩
  rw[decide_eq_false e];exact a
def KR.append{ps h:List (κ×V)}{kvs g:List (κ×D)}(r:KR κ K H io ps kvs)(j:KR κ K H io h g):KR κ K H io (ps++h) (kvs++g):=by
 induction r with
 |nil=>exact j
 |cons z t a=>exact .cons z a
def KR.put{ps:List (κ×V)}{kvs:List (κ×D)}(r:KR κ K H io ps kvs)(k:κ)(g:Rep K H io v d):KR κ K H io (putK ps k v) (putD kvs k d):=by
 unfold putK putD;rw[KR.any r k];by_cases e:(kvs.any λa=>decide (a.1=k))=true
 ·rw[if_pos e,if_pos e]
  induction r with
  |nil=>exact .nil
  |@cons p q f i z t c=>
   rw[An,An];have b:KR κ K H io (f.map λa=>if a.1=k then(a.1,v)else a) (i.map λa=>if a.1=k then(a.1,d)else a):=by
    clear c e
    induction t with
    |nil=>exact .nil
    |@cons p q f i z t c=>
     rw[An,An];refine .cons ?_ c;rw[z.1];by_cases e:q.1=k
     ·rw[if_pos e,if_pos e];exact⟨rfl,g⟩
     rw[if_neg e,if_neg e];exact z
   refine .cons ?_ b;rw[z.1];by_cases e:q.1=k
   ·rw[if_pos e,if_pos e];exact⟨rfl,g⟩
   rw[if_neg e,if_neg e];exact z
 rw[if_neg e,if_neg e];exact KR.append r<|.cons ⟨rfl,g⟩ .nil
end
def keyOf:D->Option Key
 |.int i=>some<|.inl i
 |.str x=>some<|.inr x
 |_=>none
def keysOf:List D->Option (List Key)
 |[]=>some []
 |d::ds=>(keyOf d).bind λk=>(keysOf ds).map λks=>k::ks
variable {y:V}{md mk:ME}
def Ut{k:Key}(h:Rep K H io v d)(e:keyOf d=some k):v=kV k:=by
 cases d with
 |int i=>cases e;exact h
 |str i=>cases e;exact h
 |_=>cases e
theorem Pb:∀{xs:List V}{ds:List D}{ks:List Key},Hj K H io xs ds->keysOf ds=some ks->xs=ks.map kV
 |_,[],ks,h,e=>by cases e;exact h
 |_,d::ds,ks,h,e=>by obtain⟨y,q,rfl,g,j⟩:=h;obtain⟨k,a,e⟩:=Hu e;obtain⟨b,c,e⟩:=Ie e;subst e;rw[Ut g a,Pb j c];rfl
def look(st:Hg)(n:Nat)(k:D):Option (Option D):=match st[n]? with
 |some (.dk a)=>(keyOf k).map λq=>HS a q
 |some (.dt a)=>match k with
  |.tup ds=>(keysOf ds).map λq=>HS a q
  |_=>none
 |_=>none
def WB{k:D}{r:Option D}(S:HC K H io st)(g:io[n]?=some p)(j:Rep K H io y k)(h:look st n k=some r):∃o,Jk H p y o/\((r=none/\o=none)\/∃d v,r=some d/\o=some v/\Rep K H io v d):=by
 unfold look at h;split at h
 ·rename_i f e;obtain⟨q,i,h⟩:=Ie h;subst h;obtain⟨s,l,r⟩:=S.ob n p _ g e;have w:=Ut j i;subst w;refine⟨_,Jk.k l,?_⟩
  rcases KR.val r q with⟨a,c⟩|⟨d,v,a,c,m⟩
  ·exact .inl ⟨a,c⟩
  exact .inr ⟨d,v,a,c,m⟩
 ·rename_i f e
  split at h
  ·rename_i ds;obtain⟨q,i,h⟩:=Ie h;subst h;obtain⟨s,l,r⟩:=S.ob n p _ g e;obtain⟨b,xs,rfl,x,rs⟩:=j;have ex:=Pb rs i;subst ex;refine⟨_,Jk.t l x,?_⟩
   rcases KR.val r q with⟨a,c⟩|⟨d,v,a,c,m⟩
   ·exact .inl ⟨a,c⟩
   exact .inr ⟨d,v,a,c,m⟩
  ·cases h
 ·cases h
def Zf(md mk:ME):ME:=λU st=>(md U st).bind λ(d,s1)=>(mk U s1).bind λ(k,s2)=>match d with
 |.ref n=>(look s2 n k).bind λr=>r.map λv=>(v,s2)
 |_=>none
def sL(h:X.A.units+1<cLine)(j:SE X o md)(hi:SE X i mk)(q:MK i:=by intro _ _;rfl):SE X (.Subscript o i pos) (Zf md mk):=PE.imp (aF h j hi q) <| by
 exists 1;obtain⟨⟨x,s1⟩,f,e⟩:=Hu e;obtain⟨⟨y,s2⟩,l,e⟩:=Hu e;cases x with
 |ref n=>
  obtain⟨r,m,e⟩:=Hu e;obtain⟨w,s,e⟩:=Ie e;cases e;subst s;refine⟨U,st,io,_,s1,E,S,f,λv1 H1 K b c N=>⟨U,s1,io++K,y,_,E.ext S b,c,l,λv2 H2 C T a R2=>?_⟩⟩;obtain⟨p,rfl,W⟩:=N;obtain⟨o,g,⟨z,_⟩|⟨F,v,hd,u,B⟩⟩:=WB a (LR W) R2 m
  ·cases z
  ·cases hd;subst u;exact⟨p,v,rfl,g,((k.on c b).on a T).now a B⟩
 |_=>cases e
def Lr(neg:Bool)(mk md:ME):ME:=λU st=>(mk U st).bind λ(k,s1)=>(md U s1).bind λ(d,s2)=>match d with
 |.ref n=>(look s2 n k).map λr=>(.bl (if neg then !r.isSome else r.isSome),s2)
 |_=>none
def WQ{neg:Bool}(h:tE K (Lr neg mk md) σ H Q):tE K mk σ H λy H1=>tE K md σ H1 λx H2=>∃a o,x=.ref a/\Jk H2 a y o/\Q (.bl<|if neg then !o.isSome else o.isSome) H2:=by
 obtain⟨U,st,io,d,st',E,S,e,k⟩:=h;obtain⟨⟨y,s1⟩,m,e⟩:=Hu e;obtain⟨⟨x,s2⟩,s,e⟩:=Hu e;cases x with
 |ref n=>
  obtain⟨r,w,e⟩:=Ie e;cases e;refine⟨U,st,io,y,s1,E,S,m,λv1 H1 A i c R1=>⟨U,s1,io++A,_,_,E.ext S i,c,s,λv2 H2 T l f R2=>?_⟩⟩;obtain⟨p,rfl,N⟩:=R2;obtain⟨o,g,z⟩:=WB f N (R1.ext c l) w;have:o.isSome=r.isSome:=by
   rcases z with⟨a,b⟩|⟨W,v,a,b,_⟩
   ·rw[a,b];rfl
   rw[a,b];rfl
  exact⟨p,o,rfl,g,by rw[this];exact((k.on c i).on f l).now f rfl⟩
 |_=>cases e
def pC(g:X.A.units+1<cLine)(hi:SE X i mk)(j:SE X o md)(hm:behindInMarks .In o=false:=by rfl):SE X (.Compare i [.In] [o] pos) (Lr false mk md):=PE.imp (mE (ZW g hi j) hm) λσ H Q h=>WQ h
variable {lo hi:Option Pv}{p2:Pos}
def pB(g:X.A.units+1<cLine)(hi:SE X i mk)(j:SE X o md)(hm:behindInMarks .In o=false:=by rfl):SB X (.Compare i [.In] [o] pos) (mT<|Lr false mk md):=PT.imp (ZM (ZW g hi j) hm) λσ H Q h=>WQ (RE h)
def zN(g:X.A.units+1<cLine)(hi:SE X i mk)(j:SE X o md)(hm:behindInMarks .NotIn o=false:=by rfl):SB X (.Compare i [.NotIn] [o] pos) (mT<|Lr true mk md):=PT.imp (ZM (zmH g hi j) hm) λσ H Q h=>WQ (RE h)
def dput(st:Hg)(n:Nat)(k d:D):Option Hg:=match st[n]? with
 |some (.dk a)=>(keyOf k).bind λq=>if decide (a.length<sizeLine)=true then some (st.set n<|.dk<|putD a q d)else none
 |some (.dt a)=>match k with
  |.tup ds=>(keysOf ds).bind λq=>if decide (a.length<sizeLine)=true then some (st.set n<|.dt<|putD a q d)else none
  |_=>none
 |_=>none
def uF{k:D}(S:HC K H io st)(j:io[n]?=some p)(B:Rep K H io y k)(C:Rep K H io v d)(h:dput st n k d=some st'):∃g,KQ H p y v g/\Ext io [] H g/\HC K g (io++[]) st':=by
 unfold dput at h;split at h
 ·rename_i c e;obtain⟨q,f,h⟩:=Hu h;obtain⟨i,h⟩:=IA h;cases h;obtain⟨m,a,r⟩:=S.ob n p _ j e;have s:=Ut B f;subst s;have:=KR.length r;refine⟨_,KQ.k a (by rw[this];exact of_decide_eq_true i),?_⟩;exact M6 S j e (λo u z=>by rw[a]at z;cases z) λg T l=>⟨_,l,KR.put (KR.mono T r) q<|Rep.mono T C⟩
 ·rename_i c e
  split at h
  ·rename_i ds;obtain⟨q,f,h⟩:=Hu h;obtain⟨i,h⟩:=IA h;cases h;obtain⟨m,a,r⟩:=S.ob n p _ j e;obtain⟨b,xs,rfl,w,rs⟩:=B;have ex:=Pb rs f;subst ex;have:=KR.length r;refine⟨_,KQ.t a w (by rw[this];exact of_decide_eq_true i),?_⟩;exact M6 S j e (λo u z=>by rw[a]at z;cases z) λg T l=>⟨_,l,KR.put (KR.mono T r) q<|Rep.mono T C⟩
  ·cases h
 ·cases h
def LC(md mk g:ME):MS:=λU st=>(g U st).bind λ(v,s1)=>(md U s1).bind λ(d,s2)=>(mk U s2).bind λ(k,s3)=>match d with
 |.ref n=>(dput s3 n k v).map λs4=>(.nx U,s4)
 |_=>none
def uQ{value:Pv}{j:ME}(q:X.A.units+1<cLine)(r:SE X o md)(hi:SE X i mk)(u:SE X value j)(z:swapsWith value (some<|.Subscript o i pos') pos.line X.env=pure false:=by rfl):
  SS X (.Assign [.Subscript o i pos'] value pos) (LC md mk j):=PS.imp (rY q r hi u z) λN σ H h=>by
 exists 2;obtain⟨⟨v,s1⟩,T,e⟩:=Hu e;obtain⟨⟨d,s2⟩,W,e⟩:=Hu e;obtain⟨⟨k,s3⟩,B,e⟩:=Hu e;cases d with
 |ref n=>
  obtain⟨s4,C,e⟩:=Ie e;cases e;refine⟨U,st,io,v,s1,E,S,T,λv1 H1 m b a R1=>⟨U,s1,io++m,_,s2,E.ext S b,a,W,λv2 H2 y c l R2=>⟨U,s2,(io++m)++y,k,s3,(E.ext S b).ext a c,l,B,λY F G s x I=>?_⟩⟩⟩;obtain⟨p,rfl,J⟩:=R2;obtain⟨K,g,Q,L⟩:=uF x (LR J) I ((R1.ext a c).ext l s) C;refine⟨p,K,rfl,g,?_⟩;have M:∀σ' P kb,Ext (((io++m)++y)++G) kb F P->_:=Oo (Oo (Oo w b a) c l) s x;exact M σ K [] Q L<|(((E.ext S b).ext a c).ext l s).ext x Q
 |_=>cases e
def OZ(t:Bool):ME:=λ_ st=>some (.ref st.length,st++[if t then .dt []else .dk []])
def Wr:SE X (.Dict [] [] pos) (OZ true):=PE.imp wA <| by
 exists 1;cases e;intro p a;obtain⟨b,c⟩:=PZ (o:=.dT []) (ob:=.dt []) S a λf T e=>⟨[],e,.nil⟩;exact k _ _ [p] b c ⟨p,rfl,by rw[<-S.len];exact getElem?_len io p⟩
inductive Yx (K:Ab) (g:D->List D->Hg->Option (D×Hg)) (x:V) (xs:List V) (H:Hp) (Q:VK):Prop
 |mk (dx:D) (ds:List D) (st:Hg) (io:List Addr) (d:D) (st':Hg) (h0:Rep K H io x dx) (h1:Hj K H io xs ds) (h2:HC K H io st) (h3:g dx ds st=some (d,st')) (h4:Bh K io H st' d Q)
def Lb:D->List D->Hg->Option (D×Hg):=λx xs st=>match x,xs with
 |.ref n,[d]=>match st[n]? with
  |some (.lst ds)=>if decide (ds.length<sizeLine)=true then some (.non,st.set n (.lst<|ds++[d]))else none
  |_=>none
 |_,_=>none
def append_in{ds:List D}{xs:List D}(h:Lb (.ref n) xs st=some (d,st')):∃ds x,st[n]?=some (.lst ds)/\xs=[x]/\ds.length<sizeLine/\d=.non/\st'=st.set n (.lst<|ds++[x]):=by
 unfold Lb at h
 match xs,h with
 |[x],h=>
  dsimp only at h;split at h
  ·rename_i ds e;obtain⟨a,h⟩:=IA h;cases h;exact⟨ds,x,e,rfl,of_decide_eq_true a,rfl,rfl⟩
  ·cases h
 |[],h=>cases h
 |_::_::_,h=>cases h
def zkU:SF X "list.append" (Yx X.K Lb):=by
 rintro qp s σ H x xs v us Q I i rs ⟨m,ds,st,io,d,st',A,Rs,S,e,k⟩;cases m with
 |ref n=>
  obtain⟨l,y,a,rfl,E,rfl,rfl⟩:=append_in (ds:=[]) e;obtain⟨p,rfl,b⟩:=A;obtain⟨w,rfl,N⟩:=Rs.one;obtain⟨c,f,r⟩:=S.ob n p _ b a;refine eD qp s σ H _ _ v us Q I i rs ⟨p,c,w,rfl,rfl,f,by rw[r.length];exact E,?_⟩;obtain⟨U,W⟩:=M6 (o:=.lst (c++[w])) (ob:=.lst (l++[y])) S b a (λo u z=>by rw[f]at z;cases z) λh T g=>⟨_,g,(Hj.mono T r).append<|Hj.cons (Rep.mono T N) Hj.nil⟩
  exact k _ _ [] U W rfl
 |_=>unfold Lb at e;cases ds<;>cases e
def Wx{l:List D}(R:Rep K H io v (.ref n))(S:HC K H io st)(h:HZ st n=some l):Va K "list" v H:=by obtain⟨p,rfl,a⟩:=R;obtain⟨xs,b,_⟩:=KA S a h;exact .inl ⟨rfl,xs,b⟩
def J4(m:ME)(mm:MA):ME:=λU st=>(!8).bind λ(x,s1)=>match x with
 |.ref n=>(HZ s1 n).bind λ_=>(mm U s1).bind λ(xs,s2)=>Lb x xs s2
 |_=>none
def Nd{apos g:Pos}(u:SE X o m)(z:SA X (e::es) mm)(j:attributeBase o "append" X.env (Wp o X.env)=Wp o X.env:=by rfl)(r:((backTo g<|starEach (e::es) X.env).all (λx=>!x.1)&&(backToKw g<|keywordEach [] X.env).all (λx=>x.1.isSome)
   &&decide ((e::es).length+([]:List Keyword).length+(if([]:List Keyword).isEmpty then 0 else 1)<30))=true:=by rfl)
  (q:(apos.endLine==g.line)=true:=by rfl) (B:Qqb X.env e es:=by rfl) (h:Qqc g es X.env:=by rfl):
  SE X (.Call (.Attribute o "append" apos) (e::es) [] g) (J4 m mm):=
 PE.imp (Zj C6 PySem.F.slot_list_append PySem.F.type_list_append zkU u z j r q B h) <| by
  exists 1;obtain⟨⟨x,s1⟩,p,e⟩:=Hu e;cases x with
  |ref n=>
   obtain⟨l,s,e⟩:=Hu e;obtain⟨⟨xs,s2⟩,v,e⟩:=Hu e;refine⟨U,st,io,_,s1,E,S,p,λv1 H1 b c a R1=>⟨Wx R1 a s,U,s1,io++b,xs,s2,E.ext S c,a,v,λvs H2 w f i R2=>?_⟩⟩;exact⟨_,xs,s2,(io++b)++w,d,st',R1.ext a f,R2,i,e,(k.on a c).on i f⟩
  |_=>cases e
noncomputable abbrev MO:=Ii->Hg->Option (Option Int×Hg)
inductive tOm (K:Ab) (m:MO) (σ:L2.St) (H:Hp) (Q:Option Int->Hp->Prop):Prop
 |mk (U:Ii) (st:Hg) (io:List Addr) (d:Option Int) (st':Hg) (h1:HK K H io σ U) (h2:HC K H io st) (h3:m U st=some (d,st')) (h4:∀H' ka,Ext io ka H H'->HC K H' (io++ka) st'->Q d H')
def SO(X:Cx)(e:Option Pv)(m:MO):Prop:=PO X e<|tOm X.K m
def K1:MO:=λ_ st=>some (none,st)
def K2(m:ME):MO:=λU st=>(!8).bind λ(d,s)=>match d with
 |.int i=>some (some i,s)
 |_=>none
def Nv:SO X none K1:=λqp s σ H Q I ⟨U,st,io,d,st',E,S,e,k⟩=>rW qp s σ H Q I (by cases e;exact k H [] Ext.refl S.nil)
def Nw(h:SE X e m):SO X (some e) (K2 m):=λqp s σ H Q I ⟨U,st,io,d,st',E,S,e,k⟩=>aG h qp s σ H Q I (by
 obtain⟨⟨x,s1⟩,a,e⟩:=Hu e;cases x with
 |int i=>
  cases e;exact⟨U,st,io,_,_,E,S,a,λv1 H1 b c f l=>⟨i,l,k H1 b c f⟩⟩
 |_=>cases e)
def cutD(xs:List D)(lo hi:Option Int):List D:=(xs.drop<|HT.Ip xs.length 0 lo).take<|HT.Ip xs.length xs.length hi-HT.Ip xs.length 0 lo
def V3(r:Hj K H io xs ds)(lo hi:Option Int):Hj K H io (K8 xs lo hi) (cutD ds lo hi):=by unfold K8 cutD;rw[r.length];exact(r.drop _).take _
def Yi:D->Option Int->Option Int->Hg->Option (D×Hg):=λx lo hi st=>match x with
 |.tup ds=>if(decide (HT.Ip ds.length 0 lo=0)&&decide (HT.Ip ds.length ds.length hi=ds.length))=true then none else some (.tup (cutD ds lo hi),st)
 |.ref n=>(HZ st n).map λds=>(.ref st.length,st++[.lst (cutD ds lo hi)])
 |_=>none
def iQ(m:ME)(l h:MO):ME:=λU st=>(!8).bind λ(x,s1)=>(l U s1).bind λ(lo,s2)=>(h U s2).bind λ(hi,s3)=>Yi x lo hi s3
def Ym(K:Ab):V->Option Int->Option Int->Hp->VK->Prop:=λx lo hi H Q=>Se K x lo hi H Q\/Sf K x lo hi H Q
def Yh:Sy X (Ym X.K):=by
 intro qp s σ H x v a b lo hi c Q I d e pl pu h;rcases h with h|h
 ·exact pP qp s σ H x v a b lo hi c Q I d e pl pu h
 exact aO qp s σ H x v a b lo hi c Q I d e pl pu h
def xX{g h:MO}(he:SE X e m)(j:SO X lo g)(u:SO X hi h):SE X (.Subscript e (.Slice lo hi none p2) pos) (iQ m g h):=PE.imp (Wo Yh he j u) <| by
 exists 1;obtain⟨⟨x,s1⟩,N,e⟩:=Hu e;obtain⟨⟨a,s2⟩,T,e⟩:=Hu e;obtain⟨⟨b,s3⟩,W,e⟩:=Hu e;refine⟨U,st,io,x,s1,E,S,N,λv1 H1 w i c R1=>⟨U,s1,io++w,a,s2,E.ext S i,c,T,λH2 B l o=>⟨U,s2,(io++w)++B,b,s3,(E.ext S i).ext c l,o,W,λG I y f=>?_⟩⟩⟩;have A:=(R1.ext c l).ext o y;have K:=((k.on c i).on o l).on f y;cases x with
 |tup ds=>
  have e:(if(decide (HT.Ip ds.length 0 a=0)&&decide (HT.Ip ds.length ds.length b=ds.length))=true then none else some (D.tup (cutD ds a b),s3))=some (d,st'):=e;by_cases hw:(decide (HT.Ip ds.length 0 a=0)&&decide (HT.Ip ds.length ds.length b=ds.length))=true
  ·rw[if_pos hw]at e;cases e
  rw[if_neg hw]at e;cases e;obtain⟨p,xs,rfl,s,r⟩:=A;refine .inl ⟨p,xs,rfl,IK.of s,λz=>hw ?_,λq v=>K.tup f (V3 r _ _) v⟩;rw[r.length]at z;rw[Aq];exact⟨decide_eq_true z.1,decide_eq_true z.2⟩
 |ref n=>
  obtain⟨ds,C,e⟩:=Ie e;cases e;obtain⟨p,rfl,s⟩:=A;obtain⟨xs,F,r⟩:=KA f s C;exact .inr ⟨p,xs,rfl,F,λq v=>K.lst f (V3 r _ _) v⟩
 |_=>cases e
def MN:G2:=intD (λ_ j=>decide (0<j)&&decide (j<2^128)) λi j=>.int<|i / j
def WD:Jr X (binaryOp .FloorDiv) MN:=Qb (C:=λi j=>0<j/\j<2^128) (Sk λi j _ _ _ _ _ b q=>by
 refine floordiv_int (!0) (by rw[Int.fdiv_eq_ediv_of_nonneg i (!0)];exact q)<|.inl<|PyProof.noPylong_of_log2 ?_;have h0:j.natAbs≠0:=by omega
 have a:j.natAbs<2^128:=by omega
 exact B3 ((Nat.log2_lt h0).mpr a) (!1)) λi j h=>by rw[Aq]at h;exact⟨of_decide_eq_true h.1,of_decide_eq_true h.2⟩
def IG:G2:=intD (λi j=>decide (0<=j)&&decide ((Builtin.Int.intBits i:Int)*j<=2^27)) λi j=>.int<|i^j.toNat
def Qc:Jr X (binaryOp .Pow) IG:=Qb (C:=λi j=>0<=j/\(Builtin.Int.intBits i:Int)*j<=2^27) (Sk λi j _ _ _ _ _ a q=>pow_int a.1 a.2 q) λi j h=>by rw[Aq]at h;exact⟨of_decide_eq_true h.1,of_decide_eq_true h.2⟩
def Kn(t T:String):Bool:=t==T || (t=="bool"&&T=="int")
def sorts:List String:=["NoneType","bool","int","str","tuple","list","dict"]
def kinds:List String:=["bool","int","str","tuple","list","dict"]
variable {t:String}
def qK(g:t∈sorts)(h:T∈kinds):GF K (.type t) (.type T)=some (Kn t T):=by
 have all:∀t∈sorts,∀T∈kinds,GF K (.type t) (.type T)=some (Kn t T):=by
  intro t g T h;simp only[sorts,kinds,A4,Bd,or_false]at g h;rcases g with rfl|rfl|rfl|rfl|rfl|rfl|rfl<;>rcases h with rfl|rfl|rfl|rfl|rfl|rfl<;>rfl
 exact all t g T h
def tyName(st:Hg):D->Option String
 |.non=>some "NoneType"
 |.bl _=>some "bool"
 |.int _=>some "int"
 |.str _=>some "str"
 |.tup _=>some "tuple"
 |.ref n=>match st[n]? with
  |some (.lst _)=>some "list"
  |some (.fz _)=>some "list"
  |some (.dk _)=>some "dict"
  |some (.dt _)=>some "dict"
  |some .dz=>some "dict"
  |_=>none
 |.kl _=>none
 |.fn _=>none
 |.er _ _ _=>none
def cN(I:Inv X qp σ H s)(h:JT X.K H p xs):DS p "list" s.heap:=by obtain⟨a,_,⟨o,n,e,c,_,_⟩,_⟩:=I.list h;exact⟨o,e,c⟩
def zm6{ps:List (Key×V)}(I:Inv X qp σ H s)(h:H p=some (.dK ps)):DS p "dict" s.heap:=by obtain⟨_,_,_,_,o,_,_,e,ex,_⟩:=I.hok p _ h;exact⟨o,e,ex.1⟩
def zm5{ps:List (List Key×V)}(I:Inv X qp σ H s)(h:H p=some (.dT ps)):DS p "dict" s.heap:=by obtain⟨_,_,_,_,o,_,_,e,ex,_⟩:=I.hok p _ h;exact⟨o,e,ex.1⟩
def nR(I:Inv X qp σ H s)(h:H p=some (.ext<|iV p)):DS p "dict" s.heap:=by obtain⟨⟨o,_,_,e,ex,_⟩,_⟩:=I.hok p _ h;exact⟨o,e,ex.1⟩
def qI{u:IR}{Q:Qqa}(I:Inv X qp σ H s)(S:HC X.K H io st)(R:Rep X.K H io v d)(r:RelV v u)(g:tyName st d=some t)(h:T∈kinds)(q:∀tk,Q (.bool<|Kn t T) {s with toks:=tk}):wpAny (!4) X.A (call (.builtin "isinstance") [u,.type T]) Q E s:=by
 have k:=λ{x:IR}{i:P3->Prop} (l:t∈sorts) (Z:PySem.W.KitX X.K x (.type t) i) (p:i s.heap) (m:x≠.builtin "__main__.__loader__#opaque")=>PySem.W.kia_one (prog:=X.prog) (w:=X.w) (A:=X.A) (E:=E) Z I.kIn p (qK l h) m q;cases d with
 |non=>cases g;cases (show v=.non from R);cases r;exact k (!1) PySem.W.kitx_none trivial (by intro e;cases e)
 |bl b=>cases g;cases (show v=.bl b from R);cases r;exact k (!1) PySem.W.kitx_bool trivial (by intro e;cases e)
 |int b=>cases g;cases (show v=.int b from R);obtain⟨t,rfl⟩:=r;exact k (!1) PySem.W.kitx_int trivial (by intro e;cases e)
 |str b=>cases g;cases (show v=.str b from R);obtain⟨t,rfl⟩:=r;exact k (!1) PySem.W.kitx_str trivial (by intro e;cases e)
 |tup ds=>
  cases g;obtain⟨p,xs,rfl,a,_⟩:=R;cases r;obtain⟨y,_,⟨o,e,c,_⟩,_⟩:=I.tuple<|IK.of a;exact k (!1) PySem.W.kitx_tuple ⟨o,e,c⟩ (by intro e;cases e)
 |ref n=>
  obtain⟨p,rfl,a⟩:=R;cases r;unfold tyName at g;dsimp only at g;split at g
  ·rename_i o e;cases g;obtain⟨xs,f,_⟩:=S.ob n p _ a e;exact k (!1) FU (cN I<|JT.of f) (by intro e;cases e)
  ·rename_i o e;cases g;obtain⟨ob,xs,f,_⟩:=S.ob n p _ a e;exact k (!1) FU (cN I<|.inl<|.inr ⟨ob,f⟩) (by intro e;cases e)
  ·rename_i o e;cases g;obtain⟨xs,f,_⟩:=S.ob n p _ a e;exact k (!1) D0 (zm6 I f) (by intro e;cases e)
  ·rename_i o e;cases g;obtain⟨xs,f,_⟩:=S.ob n p _ a e;exact k (!1) D0 (zm5 I f) (by intro e;cases e)
  ·rename_i e;cases g;exact k (!1) D0 (nR I<|S.ob n p _ a e) (by intro e;cases e)
  ·cases g
 |kl ds=>cases g
 |fn ds=>cases g
 |er _ _ _=>cases g
def Ys(K:Ab)(T:String):List V->Hp->VK->Prop:=λxs H Q=>∃x d st io t,xs=[x,.ty T]/\Rep K H io x d/\HC K H io st/\tyName st d=some t/\Q (.bl<|Kn t T) H
def uB(g:T∈kinds):MM X (.builtin "isinstance") (Ys X.K T):=by rintro qp s σ H xs us Q I r ⟨x,d,st,io,t,e,R,S,b,q⟩;subst e;obtain⟨u,w,rfl,c,a⟩:=r.two;cases a;exact qI I S R c b g λtk=>⟨.bl _,H,I.tok tk,rfl,q⟩
def LY(T:String)(m:ME):ME:=λU st=>(!8).bind λ(x,s)=>(tyName s x).map λt=>(.bl (Kn t T),s)
def pF{x y:Str}{p:Pos}(C:T∈kinds)(F:Gl X "isinstance")(hm:X.mg "isinstance"=none)(G:SE X a m)(g:Gl X y)(h:X.mg y=none)(j:UF y=some (.type T))(q:y≠"__name__":=by decide)(r:(y==("__debug__":Str))=false:=by decide)(B:starEach [a,.Name y p2] X.env=(false,Wp a X.env)::starEach [.Name y p2] X.env:=by rfl) (u:starEach [.Name y p2] X.env=[(false,Wp (.Name y p2) X.env)]:=by rfl) (z:(backTo pos<|starEach [.Name y p2] X.env).any (·.1)=false:=by rfl):
  SE X (.Call (.Name "isinstance" p) [a,.Name y p2] [] pos) (LY T m):=
 PE.imp (cK (uB C) F hm (by decide +kernel) (We G (We (tJ (v:=.ty T) g h j rfl q r) ZV u) B) (!1) (!1) B z) <| by rintro σ H Q ⟨U,st,io,d,st',E,S,e,k⟩;obtain⟨⟨x,s1⟩,f,e⟩:=Hu e;obtain⟨t,i,e⟩:=Ie e;cases e;exact⟨U,st,io,x,_,E,S,f,λv1 H1 b l c n=>⟨v1,x,_,io++b,t,rfl,n,c,i,k _ H1 b l c rfl⟩⟩
theorem UC{α:Type}{le:α->α->Prop}:∀{g j:List α},g.Perm j->g.Pairwise le->j.Pairwise le->(∀a∈g,∀b∈g,le a b->le b a->a=b)->g=j
 |[],j,p,_,_,_=>(List.Perm.nil_eq p)
 |a::g,[],p,_,_,_=>absurd p.symm (by intro h;have:=h.length_eq;simp at this)
 |a::g,b::j,p,z,B,an=>by
  obtain⟨C,u⟩:=List.pairwise_cons.mp z;obtain⟨hb,c⟩:=List.pairwise_cons.mp B;have e:a=b:=by
   have d:a∈b::j:=p.mem_iff.mp Ar;have f:b∈a::g:=p.mem_iff.mpr Ar;rcases Os.mp d with q|q
   ·exact q
   ·rcases Os.mp f with r|r
    ·exact r.symm
    exact an a Ar b (Al _ r) (C b r)<|hb a q
  subst e;rw[UC ((List.perm_cons a).mp p) u c λx i y l=>an x (Al _ i) y (Al _ l)]
def sle(a b:Str):Bool:=!decide (b.cps.toList<a.cps.toList)
def Ov(ss:List Str):List Str:=ss.mergeSort sle
def aQ{a b:Str}(h:a.cps.toList=b.cps.toList):a=b:=by
 obtain⟨x⟩:=a;obtain⟨y⟩:=b;have:x=y:=by have c:x.toList=y.toList:=h;exact Array.toList_inj.mp c
 rw[this]
def zV(a b:Str):(sle a b || sle b a)=true:=by
 unfold sle;rw[Em,BS,BS,decide_eq_false_iff_not,decide_eq_false_iff_not];by_cases h:b.cps.toList<a.cps.toList
 ·exact .inr<|List.lt_asymm h
 exact .inl h
def dH(a b c:Str)(g:sle a b=true)(h:sle b c=true):sle a c=true:=by unfold sle at *;rw[BS,decide_eq_false_iff_not]at *;have g:a.cps.toList<=b.cps.toList:=g;have h:b.cps.toList<=c.cps.toList:=h;exact List.le_trans g h
def yB{a b:Str}(g:sle a b=true)(h:sle b a=true):a=b:=by unfold sle at *;rw[BS,decide_eq_false_iff_not]at *;exact aQ<|List.le_antisymm g h
theorem fY:∀{ss:List Str}{p:Str},risingS p ss=true->(p::ss).Pairwise λa b=>sle a b=true
 |[],p,_=>by simp
 |s::ss,p,h=>by
  have h':(!ltCps s.cps.toList p.cps.toList&&risingS s ss)=true:=h;rw[Aq]at h';have d:=fY h'.2;have c:sle p s=true:=by have:=h'.1;rw[ltCps_eq]at this;exact this
  refine List.pairwise_cons.mpr ⟨λx hx=>?_,d⟩;rcases Os.mp hx with rfl|hx
  ·exact c
  exact dH _ _ _ c<|(List.pairwise_cons.mp d).1 x hx
variable {ss:List Str}
def zgX{g:List Str}(p:g.Perm ss)(h:sortedS g=true):g=Ov ss:=by
 have d:g.Pairwise λa b=>sle a b=true:=by
  cases g with
  |nil=>exact Cz
  |cons x r=>exact fY h
 refine UC (p.trans (CO ss sle).symm) d (C7 (λa b c=>dH a b c) zV ss) λa _ b _=>yB
variable {r:List D}
def strsOf:List D->Option (!6)
 |[]=>some []
 |.str x::r=>(strsOf r).map λxs=>x::xs
 |_=>none
def zjj(h:strsOf (d::r)=some ss):∃x xs,d=.str x/\strsOf r=some xs/\ss=x::xs:=by
 cases d with
 |str x=>
  obtain⟨xs,e,h⟩:=Ie h;exact⟨x,xs,rfl,e,h.symm⟩
 |_=>cases h
def fH(ss:List Str):strsOf (ss.map D.str)=some ss:=by
 induction ss with
 |nil=>rfl
 |cons x r a=>show(strsOf<|r.map D.str).map _=_;rw[a];rfl
theorem Wv:∀{xs:List V}{us:List IR}{ds:List D}{ss:List Str},Hj K H io xs ds->Vals xs us->strsOf ds=some ss->StrsAre us ss
 |_,_,[],ss,h,r,e=>by cases (show _=[] from h);cases r;cases e;exact .nil
 |_,_,d::ds,ss,h,r,e=>by
  obtain⟨y,q,rfl,g,j⟩:=h;obtain⟨x,rest,rfl,a,rfl⟩:=zjj e;cases r with
  |cons b c=>
   cases (show y=.str x from g)
   obtain⟨t,rfl⟩:=b;exact .cons x t<|Wv j c a
theorem WM:∀{us:List IR}{ss:List Str},StrsAre us ss->Vals (ss.map V.str) us
 |_,_,.nil=>.nil
 |_,_,.cons y t r=>.cons ⟨t,rfl⟩<|WM r
def zmh(ss:List Str):Hj K H io (ss.map V.str) (ss.map D.str):=by
 induction ss with
 |nil=>exact rfl
 |cons x r a=>exact Hj.cons rfl a
def Py(h:n<64):n<=sizeLine:=AB (CC h)<|by decide
def Pa:GN
 |[.ref n],st=>(HZ st n).bind λds=>(strsOf ds).bind λss=>if decide (ss.length<64)=true then some (.ref st.length,st++[.lst ((Ov ss).map D.str)])else none
 |_,_=>none
def zhv:Jz X (.builtin "sorted") Pa:=by
 exists 0;unfold Pa at e;split at e
 ·rename_i n;obtain⟨j,y,e⟩:=Hu e;obtain⟨ss,A,e⟩:=Hu e;obtain⟨l,e⟩:=IA e;cases e;have l:=of_decide_eq_true l;obtain⟨v,rfl,p,rfl,E⟩:=R.one;obtain⟨u,rfl,K⟩:=r.one;cases K;obtain⟨z,N,T⟩:=KA S E y;obtain⟨i,w,pl,B⟩:=I.list N;have x:=Wv T w A;have hlen:i.length=ss.length:=by
   have C:=w.length;have U:=(WM x).length;rw[Af]at U;omega
  refine sorted_strs pl.isList x (!0) λout ss' a1 a2 W=>?_;have es:=zgX a2 W;obtain⟨g,m⟩:=sortedAll_at s.heap i out;have h:=WM a1;have c:H (s.heap.objs.size+1)=none:=I.hok.fresh<|Cv _;have f:(ss'.map V.str).length<=sizeLine:=by rw[Af,a2.length_eq];exact Py l
  refine⟨.ref<|s.heap.objs.size+1,upd H (s.heap.objs.size+1)<|.lst<|ss'.map V.str,I.laid (t':=s.toks) (a:=s.heap.objs.size+1) (λb o q=>sortedAll_old q) (Cv _) ⟨f,out.toList,g,h,by simpa using m⟩,rfl,?_⟩;rw[es]at *;exact k.lst S (zmh _) c
 ·cases e
def Yl:V->Option Int->Option Int->Hp->VK->Prop:=λx lo hi H Q=>∃z,x=.str z/\z.length<=sizeLine/\Q (.str<|GI z lo hi) H
def pO:Sy X Yl:=by
 rintro qp s σ H x v m n lo hi o Q I f a pl pu ⟨z,e,b,q⟩;subst e;obtain⟨t,rfl⟩:=f;refine⟨"str",_,F.slot_str_getitem.lookup,Gj _ _ _,?_⟩;have fin:∀t' k,EP X qp σ Q (.str (GI z lo hi) t') {s with toks:=k}:=λt' k=>⟨.str _,H,I.tok k,⟨t',rfl⟩,q⟩
 cases pl with
 |none=>
  cases pu with
  |none=>exact Cn (l:=none) (u:=none) (st:=none) a rfl<|CT ⟨AB (Eb z _ _) b,fin⟩
  |int j c=>exact Cn (l:=none) (u:=some (j,c)) (st:=none) a rfl<|CT ⟨AB (Eb z _ _) b,fin⟩
 |int i d=>
  cases pu with
  |none=>exact Cn (l:=some (i,d)) (u:=none) (st:=none) a rfl<|CT ⟨AB (Eb z _ _) b,fin⟩
  |int j c=>exact Cn (l:=some (i,d)) (u:=some (j,c)) (st:=none) a rfl<|CT ⟨AB (Eb z _ _) b,fin⟩
def iK:D->Option Int->Option Int->Hg->Option (D×Hg):=λx lo hi st=>match x with
 |.str z=>if fits z.length=true then some (.str (GI z lo hi),st)else none
 |_=>none
def So(m:ME)(l h:MO):ME:=λU st=>(!8).bind λ(x,s1)=>(l U s1).bind λ(lo,s2)=>(h U s2).bind λ(hi,s3)=>iK x lo hi s3
def zT{g h:MO}(he:SE X e m)(j:SO X lo g)(q:SO X hi h):SE X (.Subscript e (.Slice lo hi none p2) pos) (So m g h):=PE.imp (Wo pO he j q) <| by
 exists 1;obtain⟨⟨x,s1⟩,p,e⟩:=Hu e;obtain⟨⟨a,s2⟩,r,e⟩:=Hu e;obtain⟨⟨b,s3⟩,s,e⟩:=Hu e;refine⟨U,st,io,x,s1,E,S,p,λv1 H1 i c f v=>⟨U,s1,io++i,a,s2,E.ext S c,f,r,λH2 w l n=>⟨U,s2,(io++i)++w,b,s3,(E.ext S c).ext f l,n,s,λK N y o=>?_⟩⟩⟩;have A:=((k.on f c).on n l).on o y;cases x with
 |str z=>
  exists 3;cases e;exact⟨z,v,of_decide_eq_true hf,A.now o rfl⟩
 |_=>cases e
def JO(x:Str)(n:Int):Str:=if n<1 then Fv else if(n==1 || x.length==0)=true then x else⟨(BG n.toNat x.cps).foldl (·++·) #[]⟩
def Tf:G2
 |.str x,.int n,st=>if(decide (-(2^62)<=n)&&decide (n<2^20)&&decide (x.length*n.toNat<=sizeLine)&&decide ((JO x n).length<=sizeLine))=true then some (.str (JO x n),st)else none
 |_,_,_=>none
def vW:Jr X (binaryOp .Mult) Tf:=by
 rintro qp s σ H x y v u Q I p r ⟨E,K,st,io,d,st',w,A,S,e,k⟩;unfold Tf at e;split at e
 ·rename_i z n;obtain⟨i,e⟩:=IA e;cases e;rw[Aq,Aq,Aq]at i;obtain⟨⟨⟨l,m⟩,o⟩,a⟩:=i;have l:=of_decide_eq_true l;have m:=of_decide_eq_true m;have o:=of_decide_eq_true o;have a:=of_decide_eq_true a
  cases (show x=.str z from w)
  cases (show y=.int n from A)
  obtain⟨t,rfl⟩:=p;obtain⟨N,rfl⟩:=r;have fin:∀t' c,EP X qp σ Q (.str (JO z n) t') {s with toks:=c}:=λt' c=>⟨.str _,H,I.tok c,⟨t',rfl⟩,k.now S rfl⟩
  refine PySem.P.mul_str (by rw[decide_eq_false (!0),decide_eq_false (!0)];rfl) (λb _=>?_) (λb _=>?_) ?_
  ·have T:sizeLine=16777216:=Ct;have f:((n.toNat:Nat):Int)=n:=A2 (!0);have hm:(z.length:Int)*n<=2^63-1:=by
    rw[<-f,<-Gn];omega
   have:=Int.le_ediv_of_mul_le (by omega:0<n) hm;omega
  ·unfold Builtin.Str.tooLong;exact decide_eq_false<|by omega
  ·unfold JO at fin a
   by_cases b:n<1
   ·rw[if_pos b]at fin a ⊢;exact⟨a,fin s.toks<|s.toks+1⟩
   rw[if_neg b]at fin a ⊢;exact CT ⟨a,fin⟩
 ·cases e
def Pu(p:PyData):PyData->Option Bool
 |.list xs=>some<|xs.any λy=>Bv y p
 |.tuple xs=>some<|xs.any λy=>Bv y p
 |_=>none
def inD(neg:Bool):G2:=λx y st=>(IC 50 st x).bind λp=>(IC 50 st y).bind λq=>(Pu p q).map λb=>(.bl (if neg then !b else b),st)
def gM{xs:List PyData}(h:(PyData.list xs).canLay0=true):CA xs=true:=by simpa only [B0]using h
def fP{xs:List PyData}(h:(PyData.tuple xs).canLay0=true):CA xs=true:=by simpa only [B0]using h
def ZT(g:X.A.units+100<cLine):Jr X (SL .In) (inD false):=by
 rintro qp s σ H x y v u Q I w E ⟨T,U,st,io,d,st',K,N,S,e,k⟩;obtain⟨p,b,e⟩:=Hu e;obtain⟨q,c,e⟩:=Hu e;obtain⟨r,a,e⟩:=Ie e;cases e;obtain⟨as,f⟩:=Nb I S K w b;obtain⟨bs,i⟩:=Nb I S N E c;have l:=MZ b;have m:=MZ c;have o:∀n,X.A.units+1+min n p.depth<cLine:=λn=>by have:=D9 n p.depth;omega
 cases q with
 |list xs=>cases a;exact PySem.SeqAt.in_list_reads i f (gM m.1) l.1 (o _) ⟨.bl _,H,I,rfl,k.now S rfl⟩
 |tuple xs=>cases a;exact PySem.SeqAt.in_tuple_reads i f (fP m.1) l.1 (o _) ⟨.bl _,H,I,rfl,k.now S rfl⟩
 |_=>cases a
def zmJ(g:X.A.units+100<cLine):Jr X (SL .NotIn) (inD true):=by
 rintro qp s σ H x y v u Q I w E ⟨T,U,st,io,d,st',K,N,S,e,k⟩;obtain⟨p,b,e⟩:=Hu e;obtain⟨q,c,e⟩:=Hu e;obtain⟨r,a,e⟩:=Ie e;cases e;obtain⟨as,f⟩:=Nb I S K w b;obtain⟨bs,i⟩:=Nb I S N E c;have l:=MZ b;have m:=MZ c;have o:∀n,X.A.units+1+min n p.depth<cLine:=λn=>by have:=D9 n p.depth;omega
 cases q with
 |list xs=>cases a;exact PySem.SeqAt.notIn_list_reads i f (gM m.1) l.1 (o _) ⟨.bl _,H,I,rfl,k.now S rfl⟩
 |tuple xs=>cases a;exact PySem.SeqAt.notIn_tuple_reads i f (fP m.1) l.1 (o _) ⟨.bl _,H,I,rfl,k.now S rfl⟩
 |_=>cases a
def MB:G2
 |.str i,.str j,st=>some (.bl (!(Builtin.Str.occurrences j i 0 j.length 1).isEmpty),st)
 |_,_,_=>none
def aE:Jr X (SL .In) MB:=by
 rintro qp s σ H x y v u Q I a b ⟨l,m,st,io,d,st',c,f,S,e,k⟩;unfold MB at e;split at e
 ·rename_i i j
  cases e;exact zmK qp s σ H x y v u Q I a b ⟨i,j,c,f,k.now S rfl⟩
 ·cases e
def OM:List D->Option (List Bool)
 |[]=>some []
 |.bl x::r=>(OM r).map λxs=>x::xs
 |_=>none
def zlP{ss:List Bool}(h:OM (d::r)=some ss):∃x xs,d=.bl x/\OM r=some xs/\ss=x::xs:=by
 cases d with
 |bl x=>
  obtain⟨xs,e,h⟩:=Ie h;exact⟨x,xs,rfl,e,h.symm⟩
 |_=>cases h
theorem Z7:∀{xs:List V}{us:List IR}{ds:List D}{ss:List Bool},Hj K H io xs ds->Vals xs us->OM ds=some ss->us=ss.map CH
 |_,_,[],ss,h,r,e=>by cases (show _=[] from h);cases r;cases e;rfl
 |_,_,d::ds,ss,h,r,e=>by
  obtain⟨y,q,rfl,g,j⟩:=h;obtain⟨x,rest,rfl,a,rfl⟩:=zlP e;cases r with
  |cons b c=>
   cases (show y=.bl x from g)
   cases b;rw[Z7 j c a];rfl
def Lx:GN
 |[.ref n],st=>(HZ st n).bind λds=>(OM ds).map λbs=>(.bl (bs.all id),st)
 |_,_=>none
def range_all(bs:List Bool):((Av bs.length).all λi=>bs.getD i false)=bs.all id:=by
 rw[Gp,Ec,Ec];constructor
 ·intro h b a;obtain⟨i,hi,e⟩:=CN a;have:=h i<|List.mem_range.mpr hi;rw[Au,Ai hi,e]at this;exact this
 intro h i hi;have hi:=List.mem_range.mp hi;rw[Au,Ai hi];exact h _<|A5 hi
def yT(g:X.calm=true):Jz X (.builtin "all") Lx:=by
 exists 0;unfold Lx at e;split at e
 ·rename_i n;obtain⟨C,w,e⟩:=Hu e;obtain⟨bs,x,e⟩:=Ie e;cases e;obtain⟨v,rfl,p,rfl,y⟩:=R.one;obtain⟨u,rfl,E⟩:=r.one;cases E;obtain⟨F,K,N⟩:=KA S y w;obtain⟨T,U,pl,G⟩:=I.list K;have W:=Z7 N U x;subst W;refine call_all_walk<|Cy pl.isList ?_;have l:p<s.heap.objs.size:=by
   obtain⟨o,_,e,_⟩:=pl;exact Ak e
  refine⟨_,_,_,_,_,_,λi=>bs.getD i false,rfl,Walks.list (A:=X.A.in1) (I.ok.hd g) s.heap.objs.size p (Aw l) (bs.map CH).toArray,⟨⟨_,Ao _ rfl,rfl,rfl⟩,?_⟩,?_,λJ tk hk=>?_⟩
  ·obtain⟨o,nn,e,c,L,sq⟩:=pl;exact⟨o,Ad _ e,c,nn,sq⟩
  ·intro i v h j M a f;have a:((bs.map CH).toArray)[i]?=some v:=a;rw[EN,Ax]at a
   cases m:bs[i]? with
   |none=>rw[m]at a;cases a
   |some z=>
    rw[m]at a;cases a;refine Bp ?_;have B:bs.getD i false=z:=by rw[Au,m];rfl
    have f:j (bs.getD i false) h:=f;rw[B]at f;exact f
  ·refine⟨.bl _,H,I.kept (t':=tk) λb o q=>hk b o ?_ (Ad _ q),rfl,?_⟩
   ·simp;exact Aw<|Ak q
   ·have:((Av (bs.map CH).toArray.size).all λi=>bs.getD i false)=bs.all id:=by simpa using range_all bs
    rw[this];exact k.now S rfl
 ·cases e
end L2.MP
namespace Srt
open PySem PySem.W PyProof.Rows
variable {α:Type}
def Hd(n:Nat)(r:Nat->Int){α:Type}:KasT α->(α->Prop)->Prop
 |.ret a,Q=>Q a
 |.ask i j k,Q=>(i<n/\j<n)/\Hd n r (k<|decide (r i<r j)) Q
variable {n i j src d m N:Nat}{c:Prop}{p:Array Nat}
section
variable {r:Nat->Int}{β:Type}
theorem Hd.bind{f:α->KasT β}{Q:β->Prop}:∀{t:KasT α},Hd n r t (λa=>Hd n r (f a) Q)->Hd n r (t.bind f) Q
 |.ret _,h=>h
 |.ask i j k,h=>⟨h.1,Hd.bind (t:=k _) h.2⟩
theorem Hd.mono{P Q:α->Prop}(k:∀a,P a->Q a):∀{t:KasT α},Hd n r t P->Hd n r t Q
 |.ret a,h=>k a h
 |.ask i j f,h=>⟨h.1,Hd.mono k (t:=f _) h.2⟩
def Q0[Decidable c]{A B:KasT α}{Q:α->Prop}(a:c)(h:Hd n r A Q):Hd n r (if decide c=true then A else B) Q:=by rw[decide_eq_true a,if_pos rfl];exact h
def QZ[Decidable c]{A B:KasT α}{Q:α->Prop}(a:¬c)(h:Hd n r B Q):Hd n r (if decide c=true then A else B) Q:=by rw[decide_eq_false a,if_neg AW];exact h
def LM(n:Nat)(p:Array Nat):Prop:=∀k,p.getD k 0<n
def R(r:Nat->Int)(p:Array Nat)(k:Nat):Int:=r<|p.getD k 0
def Up(r:Nat->Int)(p:Array Nat)(m:Nat):Prop:=∀i j,i<=j->j<m->R r p i<=R r p j
def Dn(r:Nat->Int)(p:Array Nat)(m:Nat):Prop:=∀i j,i<=j->j<m->R r p j<=R r p i
def getD_eq{q:Array Nat}(h:p[i]?=q[j]?):p.getD i 0=q.getD j 0:=by rw[B4,B4,h]
def TR(a:j<=p.size)(k:Nat):(kas_rev p i j).getD k 0=if i<=k/\k<j then p.getD (i+j-1-k) 0 else p.getD k 0:=by
 have e:=getElem?_mirror_all (i:=i) a k;unfold kas_rev;by_cases h:i<=k/\k<j
 ·rw[if_pos h]at e ⊢;exact getD_eq e
 rw[if_neg h]at e ⊢;exact getD_eq e
def G7(a:src<p.size)(hd:d<=src)(k:Nat):(bubble p src d).getD k 0=if k=src-d then p.getD src 0 else if src-d<k/\k<=src then p.getD (k-1) 0 else p.getD k 0:=by
 have e:=getElem?_bubble a d hd k;by_cases h1:k=src-d
 ·rw[if_pos h1]at e ⊢;exact getD_eq e
 ·rw[if_neg h1]at e ⊢
  by_cases h2:src-d<k/\k<=src
  ·rw[if_pos h2]at e ⊢;exact getD_eq e
  rw[if_neg h2]at e ⊢;exact getD_eq e
def Rm(a:j<=p.size)(h:LM n p):LM n (kas_rev p i j):=λk=>by
 rw[TR a];split
 ·exact h _
 exact h _
def qZ(a:src<p.size)(hd:d<=src)(h:LM n p):LM n (bubble p src d):=λk=>by
 rw[G7 a hd];by_cases h1:k=src-d
 ·rw[if_pos h1];exact h _
 ·rw[if_neg h1]
  by_cases h2:src-d<k/\k<=src
  ·rw[if_pos h2];exact h _
  rw[if_neg h2];exact h _
def VR(p:Array Nat)(i j:Nat):(kas_rev p i j).size=p.size:=mirror_size _ _ _ _
def Tu(p:Array Nat)(i j:Nat):(kas_rev p i j).Perm p:=mirror_perm _ _ _ _
def Up.more(h:Up r p m)(hl:m=0\/R r p (m-1)<=R r p m):Up r p (m+1):=λi j c d=>by
 by_cases hm:j<m
 ·exact h i j c hm
 ·have e:j=m:=by omega
  subst e;by_cases hi:i=j
  ·rw[hi];exact Dh _
  ·rcases hl with hl|hl
   ·omega
   exact Ci (h i (j-1) (!0)<|by omega) hl
def Dn.more(h:Dn r p m)(hl:m=0\/R r p m<=R r p (m-1)):Dn r p (m+1):=λi j c d=>by
 by_cases hm:j<m
 ·exact h i j c hm
 ·have e:j=m:=by omega
  subst e;by_cases hi:i=j
  ·rw[hi];exact Dh _
  ·rcases hl with hl|hl
   ·omega
   exact Ci hl<|h i (j-1) (!0)<|by omega
theorem Vv{p:Array Nat}(b:LM n p):∀(f m:Nat),1<=m->Up r p m->Hd n r (kas_asc p f m) λa=>m<=a/\a<=m+f/\Up r p a/\(a<m+f->R r p a<R r p (a-1))
 |0,m,e,h=>⟨Ag _,Ag _,h,λz=>absurd z (AN _)⟩
 |f+1,m,e,h=>by
  refine⟨⟨b _,b _⟩,?_⟩;by_cases c:r (p.getD m 0)<r (p.getD (m-1) 0)
  ·refine Q0 c ?_;exact⟨Ag _,Cj _ _,h,λ_=>c⟩
  refine QZ c ?_;refine Hd.mono (λa h'=>?_)<|Vv b f (m+1) (!0)<|h.more<|.inr<|Int.not_lt.mp c;exact⟨by omega,by omega,h'.2.2.1,λz=>h'.2.2.2 (!0)⟩
def Vh(r:Nat->Int)(p:Array Nat)(i j:Nat):Prop:=∀k,i<=k->k<j->R r p k=R r p (j-1)
def V6(a:j<=p.size)(h:Vh r p i j)(k:Nat):R r (kas_rev p i j) k=R r p k:=by
 unfold R;rw[TR a];split
 ·rename_i hk;have c:=h (i+j-1-k) (!0) (!0);have d:=h k hk.1 hk.2;exact c.trans d.symm
 rfl
def Dn.same{f:Array Nat}(h:Dn r p m)(e:∀k,R r f k=R r p k):Dn r f m:=λi j a b=>by rw[e,e];exact h i j a b
def oY(hm:m<=p.size)(h:Dn r p m):Up r (kas_rev p 0 m) m:=λi j c d=>by unfold R;rw[TR hm,TR hm,if_pos (!0),if_pos (!0)];exact h (0+m-1-j) (0+m-1-i) (!0)<|by omega
theorem T9{N:Nat}:∀(f:Nat) (p:Array Nat) (m q:Nat),LM n p->p.size=N->1<=m->m+f<=N->q+1<=m->Dn r p m->Vh r p (m-(q+1)) m ->
  Hd n r (kas_desc f p m q) λt=>LM n t.1/\t.1.Perm p/\m<=t.2.1/\t.2.1<=m+f/\t.2.2+1<=t.2.1/\Dn r t.1 t.2.1/\Vh r t.1 (t.2.1-(t.2.2+1)) t.2.1
 |0,p,m,q,a,b,h,l,g,hd,he=>⟨a,CU _,Ag _,Ag _,g,hd,he⟩
 |f+1,p,m,q,a,b,h,l,g,hd,he=>by
  refine⟨⟨a _,a _⟩,?_⟩;by_cases c:r (p.getD m 0)<r (p.getD (m-1) 0)
  ·refine Q0 c ?_;have one:∀o:Array Nat,Vh r o (m+1-(0+1)) (m+1):=λo k h l=>by
    have e:k=m+1-1:=by omega
    subst e;rfl
   by_cases hq:q > 0
   ·rw[if_pos hq];have j:m<=p.size:=by omega
    have e:=V6 j he;refine Hd.mono (λt i=>?_)<|T9 f (kas_rev p (m-(q+1)) m) (m+1) 0 (Rm j a) ((VR _ _ _).trans b) (!0) (!0) (!0) ((hd.more<|.inr<|Dy c).same e)<|one _;exact⟨i.1,i.2.1.trans<|Tu _ _ _,by omega,by omega,i.2.2.2.2⟩
   rw[if_neg hq];refine Hd.mono (λt i=>?_)<|T9 f p (m+1) 0 a b (!0) (!0) (!0) (hd.more<|.inr<|Dy c)<|one _;exact⟨i.1,i.2.1,by omega,by omega,i.2.2.2.2⟩
  ·refine QZ c ?_;refine⟨⟨a _,a _⟩,?_⟩
   by_cases d:r (p.getD (m-1) 0)<r (p.getD m 0)
   ·refine Q0 d ?_;exact⟨a,CU _,Ag _,Cj _ _,g,hd,he⟩
   ·refine QZ d ?_;have eq:R r p m=R r p (m-1):=Gq (Int.not_lt.mp d)<|Int.not_lt.mp c;refine Hd.mono (λt i=>?_) (T9 f p (m+1) (q+1) a b (!0) (!0) (!0) (hd.more<|.inr<|Int.not_lt.mp d) λk s u=>?_)
    ·exact⟨i.1,i.2.1,by omega,by omega,i.2.2.2.2⟩
    ·show R r p k=R r p (m+1-1)
     by_cases hk:k=m
     ·rw[hk];rfl
     rw[Nat.add_sub_cancel,eq];exact he k (!0)<|by omega
def Vi(n N:Nat)(r:Nat->Int)(p:Array Nat)(t:Nat×Array Nat):Prop:=LM n t.2/\t.2.Perm p/\1<=t.1/\t.1<=N/\Up r t.2 t.1
def dB(a:LM n p)(e:p.size=N)(b:1<=m)(f:m<=N)(hd:Dn r p m):Hd n r (kas_tail3 m N p) (Vi n N r p):=by
 unfold kas_tail3;have c:m<=p.size:=by omega
 refine Hd.bind<|Hd.mono (λi d=>?_)<|Vv (Rm c a) (N-m) m b<|oY c hd;exact⟨Rm c a,Tu _ _ _,by omega,by omega,d.2.2.1⟩
def gP(b:LM n p)(a:p.size=N)(g:1<=m)(h:m+1<=N)(hd:Dn r p (m+1)):Hd n r (kas_descPart m N p) (Vi n N r p):=by
 unfold kas_descPart;refine Hd.bind (Hd.mono (λt e=>?_) (T9 (N:=N) (N-(m+1)) p (m+1) 0 b a (!0) (!0) (!0) hd λk l o=>by
  have:k=m+1-1:=by omega
  rw[this]))
 obtain⟨t1,i,t3,q,s,t6,f⟩:=e;have d:t.1.size=N:=i.size_eq.trans a;by_cases hq:t.2.2 > 0
 ·rw[if_pos hq];have j:t.2.1<=t.1.size:=by omega
  refine Hd.mono (λu c=>?_)<|dB (Rm j t1) ((VR _ _ _).trans d) (!0) (!0)<|t6.same<|V6 j f;exact⟨c.1,(c.2.1.trans<|Tu _ _ _).trans i,c.2.2⟩
 rw[if_neg hq];refine Hd.mono (λu c=>?_)<|dB t1 d (!0) (!0) t6;exact⟨c.1,c.2.1.trans i,c.2.2⟩
def uE(f:LM n p)(o:p.size=N)(v:1<=N):Hd n r (kas_count N p) (Vi n N r p):=by
 unfold kas_count;have up1:Up r p 1:=λi j a b=>by
  have:i=j:=by omega
  rw[this];exact Dh _
 refine Hd.bind<|Hd.mono (λm hm=>?_)<|Vv f (N-1) 1 (Ag _) up1;obtain⟨d,w,m3,s⟩:=hm
 by_cases e:(m==N)=true
 ·rw[if_pos e];exact⟨f,CU _,d,by omega,m3⟩
 ·rw[if_neg e];have ne:m≠N:=λz=>e (by simp[z]);have lt:=s (!0)
  by_cases g:m > 1
  ·rw[if_pos g];refine⟨⟨f _,f _⟩,?_⟩
   by_cases c:r (p.getD 0 0)<r (p.getD (m-1) 0)
   ·refine Q0 c ?_;exact⟨f,CU _,d,by omega,m3⟩
   ·refine QZ c ?_;have q:m<=p.size:=by omega
    have all:∀k,k<m->R r p k=R r p (m-1):=λk hk=>Gq (m3 k (m-1) (!0)<|by omega)<|Ci (Int.not_lt.mp c)<|m3 0 k (!0) hk;have e:=V6 (i:=0) q λk _ hk=>all k hk;have dn:Dn r p m:=λi j a b=>by rw[all i (!0),all j b];exact Dh _
    refine Hd.mono (λu h=>?_)<|gP (Rm (i:=0) q f) ((VR _ _ _).trans o) d (!0)<|(dn.more<|.inr<|Dy lt).same e;exact⟨h.1,h.2.1.trans<|Tu _ _ _,h.2.2⟩
  ·rw[if_neg g];have l:m=1:=by omega
   subst l;have dn:Dn r p 1:=λi j a b=>by
    have:i=j:=by omega
    rw[this];exact Dh _
   exact gP f o (Ag _) (!0)<|dn.more<|.inr<|Dy lt
theorem Rt{p:Array Nat}{k:Nat}(e:LM n p)(hu:Up r p k):∀(f a b:Nat),a<=b->b<=k->b<=a+f->(∀x,x<a->R r p x<=R r p k)->(∀x,b<=x->x<k->R r p k<=R r p x) ->
  Hd n r (kas_place p k f a b) λl=>l<=k/\(∀x,x<l->R r p x<=R r p k)/\∀x,l<=x->x<k->R r p k<=R r p x
 |0,a,b,s,h,u,o,q=>by
  have:a=b:=by omega
  subst this;exact⟨h,o,q⟩
 |f+1,a,b,s,h,u,o,q=>by
  unfold kas_place;by_cases g:a ≥ b
  ·rw[if_pos g];have:a=b:=by omega
   subst this;exact⟨h,o,q⟩
  ·rw[if_neg g];refine⟨⟨e _,e _⟩,?_⟩
   by_cases c:r (p.getD k 0)<r (p.getD ((a+b) / 2) 0)
   ·refine Q0 c ?_;refine Rt e hu f a ((a+b) / 2) (!0) (!0) (!0) o λx d i=>?_;exact Ci (Dy c)<|hu ((a+b) / 2) x d i
   refine QZ c ?_;refine Rt e hu f ((a+b) / 2+1) b (!0) h (!0) (λx j=>?_) q;exact Ci (hu x ((a+b) / 2) (!0)<|by omega)<|Int.not_lt.mp c
theorem Zw{N:Nat}:∀(f:Nat) (p:Array Nat) (k:Nat),LM n p->p.size=N->k+f=N->Up r p k->Hd n r (kas_bin f p k) λq=>q.Perm p/\Up r q N
 |0,p,k,o,s,hk,h=>⟨CU _,by rw[<-hk];exact h⟩
 |f+1,p,k,o,s,hk,h=>by
  unfold kas_bin;refine Hd.bind<|Hd.mono (λl u=>?_)<|Rt o h k 0 k (A9 _) (Ag _) (!0) (λx v=>absurd v (Dz _)) λx a b=>absurd (AC b a) (AN _);obtain⟨z,w,y⟩:=u;have c:k<p.size:=by omega
  refine Hd.mono (λq m=>⟨m.1.trans<|bubble_perm _ _ _,m.2⟩)<|Zw f (bubble p k<|k-l) (k+1) (qZ c (!0) o) ((bubble_size _ _ _).trans s) (!0) λi j d A=>?_;have g:∀x,R r (bubble p k<|k-l) x=if x=l then R r p k else if l<x/\x<=k then R r p (x-1)else R r p x:=λx=>by
   unfold R;rw[G7 c (!0)];have e:k-(k-l)=l:=by omega
   rw[e];by_cases a1:x=l
   ·rw[if_pos a1,if_pos a1]
   ·rw[if_neg a1,if_neg a1]
    by_cases a2:l<x/\x<=k
    ·rw[if_pos a2,if_pos a2]
    rw[if_neg a2,if_neg a2]
  rw[g i,g j];by_cases h1:i=l
  ·rw[if_pos h1]
   by_cases h2:j=l
   ·rw[if_pos h2];exact Dh _
   rw[if_neg h2,if_pos (!0)];exact y (j-1) (!0)<|by omega
  ·rw[if_neg h1]
   by_cases h2:j=l
   ·rw[if_pos h2,if_neg (!0)];exact w i<|by omega
   ·rw[if_neg h2]
    by_cases h3:l<i/\i<=k
    ·rw[if_pos h3,if_pos (!0)];exact h (i-1) (j-1) (!0)<|by omega
    ·rw[if_neg h3]
     by_cases h4:l<j/\j<=k
     ·rw[if_pos h4];exact h i (j-1) (!0)<|by omega
     rw[if_neg h4];exact h i j d<|by omega
def zmA(hn:1<=n):LM n (B5<|Av n):=λk=>by
 rw[B4,EN];by_cases h:k<n
 ·rw[DD h];exact h
 rw[List.getElem?_eq_none_iff.mpr (by rw[Cb];omega)];exact hn
def LH(hn:1<=n):Hd n r (kas_sort n) λq=>q.Perm (B5<|Av n)/\Up r q n:=by
 unfold kas_sort;have d:(B5<|Av n).size=n:=by simp
 refine Hd.bind<|Hd.mono (λt m=>?_)<|uE (zmA hn) d hn;obtain⟨t1,c,t3,p,i⟩:=m
 by_cases h:t.1<n
 ·rw[if_pos h];have e:max t.1 1=t.1:=Nat.max_eq_left t3;rw[e];refine Hd.mono (λq j=>⟨j.1.trans c,j.2⟩)<|Zw (N:=n) (n-t.1) t.2 t.1 t1 (c.size_eq.trans d) (!0) i
 ·rw[if_neg h];have e:t.1=n:=by omega
  exact⟨c,by rw[<-e];exact i⟩
end
end Srt
namespace L2.MP
open PySem PySem.Spec PyProof.Rows
theorem Zv:∀a:List Int,HT.lexLt a a=false
 |[]=>rfl
 |x::r=>by rw[HT.Ih,if_pos rfl];exact Zv r
theorem G9:∀{a b:List Int},HT.lexLt a b=false->HT.lexLt b a=false->a=b
 |[],[],_,_=>rfl
 |[],_::_,h,_=>by rw[HT.HR]at h;cases h
 |_::_,[],_,h=>by rw[HT.HR]at h;cases h
 |x::a,y::b,c,d=>by
  rw[HT.Ih]at c d;by_cases e:x=y
  ·subst e;rw[if_pos rfl]at c d;rw[G9 c d]
  rw[if_neg e]at c;rw[if_neg (BF e)]at d;have a1:=of_decide_eq_false c;have a2:=of_decide_eq_false d;omega
theorem cP:∀{a b c:List Int},HT.lexLt b a=false->HT.lexLt c b=false->HT.lexLt c a=false
 |a,[],c,_,e=>by
  cases c with
  |nil=>
   cases a with
   |nil=>rfl
   |cons x a=>rename_i d;rw[HT.HR]at d;cases d
  |cons z c=>
   cases a with
   |nil=>exact HT.Ig _ _
   |cons x a=>rename_i d;rw[HT.HR]at d;cases d
 |a,y::b,[],_,e=>by rw[HT.HR]at e;cases e
 |[],y::b,z::c,_,_=>HT.Ig _ _
 |x::a,y::b,z::c,d,e=>by
  rw[HT.Ih]at d e ⊢;by_cases e1:y=x
  ·subst e1;rw[if_pos rfl]at d
   by_cases e2:z=y
   ·subst e2;rw[if_pos rfl]at e ⊢;exact cP d e
   rw[if_neg e2]at e ⊢;exact e
  ·rw[if_neg e1]at d;have a1:=of_decide_eq_false d
   by_cases e2:z=y
   ·subst e2;rw[if_neg e1];exact d
   rw[if_neg e2]at e;have a2:=of_decide_eq_false e;rw[if_neg (!0)];exact decide_eq_false<|by omega
def aA{a b:List Int}(h:HT.lexLt a b=true):HT.lexLt b a=false:=by
 cases e:HT.lexLt b a with
 |false=>rfl
 |true=>
  exfalso;have:∀{a b:List Int},HT.lexLt a b=true->HT.lexLt b a=true->False:=by
   intro a
   induction a with
   |nil=>intro b c d;cases b with
    |nil=>rw[HT.IT]at c;cases c
    |cons y b=>rw[HT.Ig]at d;cases d
   |cons x a f=>intro b c d;cases b with
    |nil=>rw[HT.Ig]at c;cases c
    |cons y b=>
     rw[HT.Ih]at c d;by_cases q:x=y
     ·subst q;rw[if_pos rfl]at c d;exact f c d
     rw[if_neg q]at c;rw[if_neg (BF q)]at d;have a1:=of_decide_eq_true c;have a2:=of_decide_eq_true d;omega
  exact this h e
def J1(a b:List Int):Bool:=!HT.lexLt b a
def KS(ts:List (List Int)):List (List Int):=ts.mergeSort J1
def Uw(a b c:List Int)(d:J1 a b=true)(e:J1 b c=true):J1 a c=true:=by unfold J1 at *;rw[BS]at *;exact cP d e
def dQ(a b:List Int):(J1 a b || J1 b a)=true:=by
 unfold J1;cases e:HT.lexLt b a with
 |false=>rfl
 |true=>rw[aA e];rfl
def dD{a b:List Int}(c:J1 a b=true)(d:J1 b a=true):a=b:=by unfold J1 at *;rw[BS]at *;exact G9 d c
def rank(ts:List (List Int))(i:Nat):Int:=((ts.countP λt=>HT.lexLt t (ts.getD i [])):Nat)
variable {ts:List (List Int)}{i j:Nat}
def aL(hi:i<ts.length):(decide (rank ts i<rank ts j))=HT.lexLt (ts.getD i []) (ts.getD j []):=by
 unfold rank;cases e:HT.lexLt (ts.getD i []) (ts.getD j []) with
 |true=>
  refine decide_eq_true ?_;have le:ts.countP (λt=>HT.lexLt t (ts.getD i []))<ts.countP (λt=>HT.lexLt t (ts.getD j [])):=by
   have hm:ts.getD i []∈ts:=by rw[Au,Ai hi];exact A5 hi
   generalize l:ts.getD i []=a at *;generalize m:ts.getD j []=b at *;clear l m hi;have sub:∀t,HT.lexLt t a=true->HT.lexLt t b=true:=λt d=>by
    cases q:HT.lexLt t b with
    |true=>rfl
    |false=>
     exfalso;have n:HT.lexLt a t=false:=aA d;have:HT.lexLt a b=false:=by
      have f:J1 b t=true:=by unfold J1;rw[q];rfl
      have g:J1 t a=true:=by unfold J1;rw[n];rfl
      have:=Uw b t a f g;unfold J1 at this;rw[BS]at this;exact this
     rw[e]at this;cases this
   induction ts with
   |nil=>exact absurd hm (!2)
   |cons t r o=>
    rw[Gc,Gc];rcases Os.mp hm with q|q
    ·subst q;rw[Zv,e];have:r.countP (λt=>HT.lexLt t a)<=r.countP (λt=>HT.lexLt t b):=EO λt _ d=>sub t d;simp only[AM,if_false,if_true];omega
    ·have:=o q
     by_cases c:HT.lexLt t a=true
     ·rw[if_pos c,if_pos (sub t c)];omega
     rw[if_neg c];split<;>omega
  omega
 |false=>
  refine decide_eq_false ?_;have le:ts.countP (λt=>HT.lexLt t (ts.getD j []))<=ts.countP (λt=>HT.lexLt t (ts.getD i [])):=EO λt _ d=>by
   cases q:HT.lexLt t (ts.getD i []) with
   |true=>rfl
   |false=>
    exfalso;have f:J1 (ts.getD j []) (ts.getD i [])=true:=by unfold J1;rw[e];rfl
    have g:J1 (ts.getD i []) t=true:=by unfold J1;rw[q];rfl
    have h:=Uw _ _ _ f g;unfold J1 at h;rw[d]at h;cases h
  omega
variable {n:Nat}{α:Type}{s:Shared}
theorem Vq{n:Nat}{r:Nat->Int}{α:Type}{P:α->Prop}{Q:α->Shared->Prop}{s:Shared}{cmp:Nat->Nat->(Bool->Shared->Prop)->Shared->Prop}(b:∀i j,i<n->j<n->∀C:Bool->Shared->Prop,C (decide (r i<r j)) s->cmp i j C s)(c:∀a,P a->Q a s):
  ∀{t:PySem.W.KasT α},Srt.Hd n r t P->t.kasWp cmp Q s
 |.ret a,h=>c a h
 |.ask i j k,h=>b i j h.1.1 h.1.2 _<|Vq b c (t:=k _) h.2
variable {prog:SZ}{w:World}{A:Around}{E:Qqa}
theorem fQ{Q:Bool->Shared->Prop}:∀{xs c:List Int}{us ws:List IR} (i:Nat),Vals (xs.map V.int) us->Vals (c.map V.int) ws->Q (HT.lexLt xs c) s->PySem.W.KatLex prog w A true (decide (us.length<ws.length)) Q (us.zip ws) i s
 |[],[],_,_,i,.nil,.nil,h=>h
 |[],y::c,_,_,i,.nil,.cons r t,h=>by show Q (decide (_<_)) s;rw[decide_eq_true (!2)];exact h
 |x::xs,[],_,_,i,.cons r t,.nil,h=>by show Q (decide (_<_)) s;rw[decide_eq_false (!2)];exact h
 |x::xs,y::c,_,_,i,.cons r1 t1,.cons d t2,h=>by
  obtain⟨a1,rfl⟩:=r1;obtain⟨a2,rfl⟩:=d;rw[HT.Ih]at h;refine Fy x a1 y a2 prog w _ _ ?_;by_cases e:x=y
  ·subst e;rw[if_pos rfl]at h;rw[beq_self_eq_true,if_pos rfl];have:=fQ (Q:=Q) (i+1) t1 t2 h;rw[Ay,Ay];have j:∀a b:Nat,decide (a+1<b+1)=decide (a<b):=λa b=>by
    by_cases q:a<b
    ·rw[decide_eq_true q,decide_eq_true (!0)]
    rw[decide_eq_false q,decide_eq_false (!0)]
   rw[j];exact this
  ·rw[if_neg e]at h;have n:(x==y)=false:=by simpa using e
   rw[n,if_neg AW];by_cases hi:i=0
   ·subst hi;exact oneLt_int h
   ·have:(true&&i==0)=false:=by simpa using hi
    rw[this];exact PySem.W.kat_one _ _<|Gg h
variable {X:Cx}{qp:List (Addr×Obj)}{σ:L2.St}{H:Hp}
def P5(H:Hp):List V->List (List Int)->Prop:=Paired λv t=>∃a,v=.ref a/\H a=some (.tup<|t.map V.int)/\t≠[]
theorem Uq:∀{xs:List V} {ts:List (List Int)} {i:Nat},P5 H xs ts->i<ts.length->∃a,xs[i]?=some (.ref a)/\H a=some (.tup<|(ts.getD i []).map V.int)/\ts.getD i []≠[]
 |_,[],i,_,hi=>absurd hi<|by simp
 |_,t::ts,0,.cons r q,_=>by obtain⟨a,rfl,b,hn⟩:=r;exact⟨a,rfl,b,hn⟩
 |_,t::ts,i+1,.cons r q,hi=>by have:=Uq (i:=i) q (by simpa using hi);simpa using this
def ZK{xs:List V}{us:List IR}{s':Shared}(I:Inv X qp σ H s)(hk:∀b o,H b≠none->s.heap.get? b=some o->s'.heap.get? b=some o)(T:P5 H xs ts)(r:Vals xs us)(hi:i<ts.length)(e:j<ts.length)(C:Bool->Shared->Prop)(h:C (decide (rank ts i<rank ts j)) s'):Gs X.prog X.w A (PyProof.Rows.tuples' true) us i j C s':=by
 rw[aL hi]at h;obtain⟨a,f,c,_⟩:=Uq T hi;obtain⟨b,g,d,_⟩:=Uq T e;obtain⟨u,l,m⟩:=r.get f;obtain⟨y,n,E⟩:=r.get g;cases m;cases E;obtain⟨z,p,⟨B,ga,ca,na,q⟩,_⟩:=I.tuple<|IK.of (K:=X.K) c;obtain⟨F,v,⟨ob,x,G,nb,db⟩,_⟩:=I.tuple<|IK.of (K:=X.K) d;unfold Gs;rw[Au,Au,l,n];refine PySem.W.kat_lt (hk _ _ (by rw[c];simp) ga) q (hk _ _ (by rw[d];simp) x) db ?_;have:=fQ (prog:=X.prog) (w:=X.w) (A:=A) (Q:=C) (s:=s') 0 p v h;simpa using this
variable {h':P3}
theorem Wl{h':P3}(I:Inv X qp σ H s)(hk:∀b o,H b≠none->s.heap.get? b=some o->h'.get? b=some o):∀{xs:List V}{us:List IR} {ts:List (List Int)},P5 H xs ts->Vals xs us ->
  ∃fs:List IR,PySem.W.KatTups h' us fs/\fs.length=us.length/\∀v∈fs,∃i t,v=DK i t
 |_,_,[],.nil,.nil=>⟨[],G6,rfl,λv hv=>absurd hv (!2)⟩
 |_,_,t::ts,.cons r q,.cons h e=>by
  obtain⟨a,rfl,f,hn⟩:=r;cases h;obtain⟨fs,j,w,A⟩:=Wl I hk q e;obtain⟨E,l,⟨o,g,c,n,d⟩,_⟩:=I.tuple<|IK.of (K:=X.K) f
  cases t with
  |nil=>exact absurd rfl hn
  |cons x t=>
   cases l with
   |@cons _ u _ m p y=>
    obtain⟨tk,rfl⟩:=p;refine⟨.int x tk::fs,G4 (hk _ _ (by rw[f];simp) g) c d (!2) j,by rw[Ay,Ay,w],λv hv=>?_⟩
    rcases Os.mp hv with rfl|hv
    ·exact⟨x,tk,rfl⟩
    exact A v hv
variable {a:Addr}{P:SZ}{h:P3}
def eI{o:HO}(x:Jy P w H h a o):∃u,h.get? a=some u:=by
 cases o with
 |lst xs=>obtain⟨_,_,_,_,e⟩:=x;exact⟨_,e⟩
 |tup xs=>obtain⟨_,_,_,o,e,_⟩:=x;exact⟨_,e⟩
 |dK i=>obtain⟨_,_,_,_,o,_,_,e,_⟩:=x;exact⟨_,e⟩
 |dT i=>obtain⟨_,_,_,_,o,_,_,e,_⟩:=x;exact⟨_,e⟩
 |set S n=>obtain⟨o,_,_,_,e,_⟩:=x;exact⟨_,e⟩
 |ins C j fs=>obtain⟨_,_,_,e,_⟩:=x;exact⟨_,e⟩
 |own y=>exact x
 |xd fs=>obtain⟨_,⟨_,_,_,e,_⟩,_⟩:=x;exact⟨_,e⟩
 |rng lo s=>obtain⟨_,_,_,e⟩:=x;exact⟨_,e⟩
 |frz ob u=>obtain⟨e,_⟩:=x;exact⟨_,e⟩
 |tbl A=>exact⟨_,x⟩
 |met f y=>exact⟨_,x⟩
 |ext φ=>obtain⟨_,e,_⟩:=x;exact e
variable {m:Str->Option IR}
def ZP{b:Str->Option IR}(x:h.Ns a m)(y:h.Ns a b):m=b:=by
 obtain⟨o,H,P,w,hd,_,hm⟩:=x;obtain⟨X,A,E,i,j,_,s⟩:=y;rw[w]at i;cases i;rw[hd]at j;cases j
 funext n
 rw[<-hm n,s n]
variable {l:Addr}
def Inv.laidAt{m:Str->Option IR}{o:HO}(I:Inv X qp σ H s)(k:∀b u,b≠X.env.locals->s.heap.get? b=some u->h'.get? b=some u)(ns:∀m,s.heap.Ns X.env.locals m->h'.Ns X.env.locals m)(f:∃u,h'.get? X.env.locals=some u)(g:s.heap.get? a=none) (d:H a=none) (p:a≠X.env.locals) (new:Jy X.prog X.w (upd H a o) h' a o):Inv X qp σ (upd H a o) {s with heap:=h'}:=by
 have na:∀b u,s.heap.get? b=some u->b≠a:=λb u e z=>by rw[z,g]at e;cases e
 refine Inv.step (t':=s.toks) (ch:=[]) (g':=s.gens) (d':=s.drawn) I (λb h=>absurd h (!2)) (λb u i _ _ e _=>k b u i e) (λb u i _ _ e _=>⟨u.slots,k b u i e⟩) (λb u _ e n=>by rw[HV (na b u e)];exact n) (λb u _ e=>?_)
  (λb xs e=>by rw[HV (Kk e d)];exact e) (λb u v e=>by rw[HV (Kk e d)];exact e) (λb j e=>⟨#[],by rw[HV (Kk e d),e];simp⟩) ns (λb u e=>?_) I.bare
 ·by_cases h:b=X.env.locals
  ·rw[h];exact f
  exact⟨u,k b u h e⟩
 ·by_cases h:b=a
  ·subst h;rw[Lc]at e;cases e;exact new
  ·rw[HV h]at e;refine(I.hok b u e).stay (λc v hc q=>k c v (λz=>?_) q) (λc q=>by rw[HV (Kk q d)];exact q) λc xs q=>by rw[HV (Kk q d)];exact q
   subst z;rcases hc with rfl|hc
   ·rw[I.free]at e;cases e
   rw[I.free]at hc;cases hc
def zjn{xs:List V}{Q:VK}(I:Inv X qp σ H s)(hl:JT X.K H l xs)(T:P5 H xs ts)(d:2<=ts.length)(Z:ts.length<64)(h:∀(q:Array Nat) (p:Addr),q.Perm (B5<|Av ts.length)->Srt.Up (rank ts) q ts.length->H p=none->Q (.ref p) (upd H p<|.lst<|q.toList.map λi=>xs.getD i .non)):
  wpAny (!4) X.A (call (.builtin "sorted") [.ref l]) (EP X qp σ Q) X.xe s:=by
 obtain⟨E,y,pl,hz⟩:=I.list hl;have hlen:E.length=ts.length:=by have a:=y.length;have b:=Bg T;omega
 obtain⟨m,F⟩:=I.fr;have B:∀b,H b≠none->b≠X.env.locals:=λb f z=>f (by rw[z];exact I.free);have trkB:∀b,H b≠none->X.base.get? b=none:=λb f=>by
  cases e:X.base.get? b with
  |none=>rfl
  |some o=>exact absurd (I.bs b o e).2 f
 refine PySem.W.kat_sorted F (WC (g:=X.base) (h:=s.heap) (L:=X.env.locals)) pl.isList (!0) (!0) λD e1 h' F' N' G=>?_;have keep:∀{d:P3}{o:Obj},Fr X.base X.env.locals d m->News X.base X.env.locals d ((D,o)::O9 X.base s.heap X.env.locals)->∀b u,b≠X.env.locals->s.heap.get? b=some u->d.get? b=some u:=λ{d o} F2 Y b u f e=>by
  cases q:X.base.get? b with
  |some v=>
   have z:=(I.bs b v q).1;rw[e]at z;cases z;exact F2.keep b _ q
  |none=>exact(Y (b,u)<|Al _<|Xh f q e).1
 have hk:∀b o,H b≠none->s.heap.get? b=some o->h'.get? b=some o:=λb o f e=>keep F' N' b o (B b f) e;have x:=N' _ Ar;have M:s.heap.get? D=none:=by
  cases e:s.heap.get? D with
  |none=>rfl
  |some u=>exact absurd (G _<|Xh x.2.1 x.2.2 e)<|AN _
 have N:H D=none:=by
  cases e:H D with
  |none=>rfl
  |some o=>
   obtain⟨u,hu⟩:=eI<|I.hok D o e;rw[M]at hu;cases hu
 obtain⟨fs,k1,k2,k3⟩:=Wl (h':=h') I hk T y;refine Gd (s:={s with heap:=h'}) (T:=.type "int") k1 (!0) (λv hv=>?_) rfl ?_
 ·obtain⟨i,t,rfl⟩:=k3 v hv;exact ER rfl
 have ok:=Srt.LH (n:=E.length) (r:=rank ts) (!0);refine Vq (n:=E.length) (r:=rank ts) (s:={s with heap:=h'}) (λi j S hj C hC=>ZK (s':={s with heap:=h'}) I hk T y (!0) (!0) C hC) (λq U=>?_) ok;refine Fd F' N' (FV λp hp=>Aw (G p hp)) λd c F2 Y=>?_;have hD2:=(Y _ Ar).1;rw[hlen]at U;have vals:Vals (q.toList.map λi=>xs.getD i .non) (q.toList.map λi=>E.getD i Bo):=by
  have P:∀i∈q.toList,i<xs.length:=λi S=>by have:i∈(B5<|Av ts.length).toList:=(Array.perm_iff_toList_perm.mp U.1).mem_iff.mp S;have hr:=y.length;simp at this;omega
  generalize q.toList=ql at P
  induction ql with
  |nil=>exact .nil
  |cons i r ih=>
   refine .cons ?_<|ih λj hj=>P j (Al _ hj);have S:=P i Ar;obtain⟨u,eu,ru⟩:=y.get<|Ai S;show RelV (xs.getD i V.non) (E.getD i Bo);rw[Au,Au,Ai S,eu];exact ru
 have hql:q.toList.length=ts.length:=by have:=(Array.perm_iff_toList_perm.mp U.1).length_eq;simpa using this
 have J:Inv X qp σ (upd H D<|.lst<|q.toList.map λi=>xs.getD i .non) {s with heap:=d}:=
  Inv.laidAt (m:=m) I (keep F2 Y) (λm' hm'=>by rw[ZP hm' F.ns];exact F2.ns) (let ⟨o,_,_,e,_⟩:=F2.ns;⟨o,e⟩) M N x.2.1 ⟨by rw[Af,hql];exact Py Z,_,c,vals,hD2⟩
 exact⟨.ref D,_,J,rfl,h q D U.1 U.2 N⟩
def zgA(ts:List α)(d:α):(Av ts.length).map (λi=>ts.getD i d)=ts:=by
 apply List.ext_getElem
 ·simp
 intro i h a;simp[Au,Ai a]
def fX{q:Array Nat}(f:q.Perm (B5<|Av ts.length))(d:Srt.Up (rank ts) q ts.length):q.toList.map (λi=>ts.getD i [])=KS ts:=by
 have hl:=Array.perm_iff_toList_perm.mp f;have hl:q.toList.Perm (Av ts.length):=by simpa using hl
 have s:q.toList.length=ts.length:=by rw[hl.length_eq,Cb]
 have w:(q.toList.map λi=>ts.getD i []).Perm ts:=by have:=hl.map λi=>ts.getD i [];rw[zgA]at this;exact this
 refine UC (le:=λa b=>J1 a b=true) (w.trans (CO ts J1).symm) ?_ (C7 (λa b c=>Uw a b c) dQ ts) λa _ b _=>dD;rw[List.pairwise_iff_getElem];intro i j m h l;rw[Ge,Ge];rw[Af]at m h;have d:=d i j (CC l) (!0);have n:∀(k:Nat) (hk:k<q.toList.length),q.getD k 0=q.toList[k]:=λk hk=>by rw[B4,<-Bs,Ai hk];rfl
 unfold Srt.R at d;rw[n i m,n j h]at d;have lt:∀k∈q.toList,k<ts.length:=λk hk=>List.mem_range.mp<|hl.mem_iff.mp hk;have e:=aL (ts:=ts) (i:=q.toList[j]) (j:=q.toList[i])<|lt _<|A5 h;rw[decide_eq_false (!0)]at e;unfold J1;rw[<-e];rfl
def intsOf:List D->Option (List Int)
 |[]=>some []
 |.int i::r=>(intsOf r).map λis=>i::is
 |_=>none
variable {d:D}
def zjA{r:List D}{ss:List Int}(h:intsOf (d::r)=some ss):∃x xs,d=.int x/\intsOf r=some xs/\ss=x::xs:=by
 cases d with
 |int x=>
  obtain⟨xs,e,h⟩:=Ie h;exact⟨x,xs,rfl,e,h.symm⟩
 |_=>cases h
def rowOf:D->Option (List Int)
 |.tup ds=>(intsOf ds).bind λt=>if(!t.isEmpty)=true then some t else none
 |_=>none
def rowsOf:List D->Option (List<|List Int)
 |[]=>some []
 |d::r=>(rowOf d).bind λt=>(rowsOf r).map λts=>t::ts
def HG(t:List Int):D:=.tup<|t.map D.int
variable {K:Ab}{io:List Addr}{st st':Hg}
theorem ints_rep:∀{xs:List V}{ds:List D}{t:List Int},Hj K H io xs ds->intsOf ds=some t->xs=t.map V.int/\ds=t.map D.int
 |_,[],t,h,e=>by cases e;exact⟨h,rfl⟩
 |_,d::ds,t,h,e=>by
  obtain⟨y,g,rfl,c,f⟩:=h;obtain⟨x,rest,rfl,i,rfl⟩:=zjA e;obtain⟨a,b⟩:=ints_rep f i;cases (show y=.int x from c)
  rw[a,b];exact⟨rfl,rfl⟩
theorem Rn:∀{xs:List V}{ds:List D} {ts:List (List Int)},Hj K H io xs ds->rowsOf ds=some ts->P5 H xs ts/\ds=ts.map HG
 |_,[],ts,h,e=>by cases e;cases (show _=[] from h);exact⟨.nil,rfl⟩
 |_,d::ds,ts,h,e=>by
  obtain⟨y,g,rfl,c,f⟩:=h;obtain⟨t,i,e⟩:=Hu e;obtain⟨us,l,e⟩:=Ie e;subst e;obtain⟨a,b⟩:=Rn f l;cases d with
  |tup zs=>
   obtain⟨w,f1,f2⟩:=Hu i;obtain⟨j,f2⟩:=IA f2;cases f2;obtain⟨p,A,rfl,m,rs⟩:=c;obtain⟨n,s⟩:=ints_rep rs f1;subst n;refine⟨.cons ⟨p,rfl,m,λz=>?_⟩ a,?_⟩
   ·rw[z]at j;exact absurd j<|by decide
   rw[b,s];rfl
  |_=>cases i
def Ug:GN
 |[.ref n],st=>(HZ st n).bind λds=>(rowsOf ds).bind λts=>if(decide (2<=ts.length)&&decide (ts.length<64))=true then some (.ref st.length,st++[.lst ((KS ts).map HG)])else none
 |_,_=>none
theorem WH{xs:List V}{ts:List (List Int)}(r:Hj K H io xs (ts.map HG)):∀{q:List Nat},(∀i∈q,i<ts.length)->Hj K H io (q.map λi=>xs.getD i .non) ((q.map λi=>ts.getD i []).map HG)
 |[],_=>rfl
 |i::q,h=>by
  have hi:=h i Ar;have a:(ts.map HG)[i]?=some (HG<|ts.getD i []):=by rw[Ax,Ai hi,Au,Ai hi];rfl
  obtain⟨v,d,l⟩:=r.get a;refine⟨_,_,rfl,?_,WH r λj m=>h j (Al _ m)⟩;show Rep K H io (xs.getD i .non) _;rw[Au,d];exact l
def zhu:Jz X (.builtin "sorted") Ug:=by
 exists 0;unfold Ug at e;split at e
 ·rename_i n;obtain⟨zs,m,e⟩:=Hu e;obtain⟨ts,w,e⟩:=Hu e;obtain⟨a,e⟩:=IA e;cases e;rw[Aq]at a;obtain⟨v,rfl,p,rfl,A⟩:=R.one;obtain⟨u,rfl,E⟩:=r.one;cases E;obtain⟨c,K,h⟩:=KA S A m;obtain⟨T,hd⟩:=Rn h w;subst hd;refine zjn I K T (of_decide_eq_true a.1) (of_decide_eq_true a.2) λq f j P hf=>?_;have hm:∀i∈q.toList,i<ts.length:=λi b=>by
   have:=(Array.perm_iff_toList_perm.mp j).mem_iff.mp b;simpa using this
  have l:=WH h hm;rw[fX j P]at l;exact k.lst S l hf
 ·cases e
variable {ma mb:ME}{pos p:Pos}{g:G2}{k:Nat}
section
variable {a b c e:Pv}{es:List Pv}{mc m:ME}{mm:MA}
def LK:Option α->Option α->Option α
 |some x,_=>some x
 |none,y=>y
def NC{x y:Option α}{z:α}(h:LK x y=some z):x=some z\/y=some z:=by
 cases x with
 |none=>exact .inr h
 |some w=>exact .inl h
def JX(g h:G2):G2:=λx y st=>LK (g x y st)<|h x y st
def K7(g h:GN):GN:=λxs st=>LK (g xs st)<|h xs st
def Rb{f:IR->IR->Sem IR}{h:G2}(p:Jr X f g)(q:Jr X f h):Jr X f (JX g h):=by
 rintro qp s σ H x y v u Q I a b ⟨c,i,st,io,d,st',j,l,S,e,k⟩;rcases NC e with e|e
 ·exact p qp s σ H x y v u Q I a b ⟨c,i,st,io,d,st',j,l,S,e,k⟩
 exact q qp s σ H x y v u Q I a b ⟨c,i,st,io,d,st',j,l,S,e,k⟩
def Qh{f:IR}{g h:GN}(p:Jz X f g)(q:Jz X f h):Jz X f (K7 g h):=by
 exists 0;rcases NC e with e|e
 ·exact p qp s σ H xs us Q I r ⟨ds,st,io,d,st',R,S,e,k⟩
 exact q qp s σ H xs us Q I r ⟨ds,st,io,d,st',R,S,e,k⟩
def TZ{U:Ii}{x y:D}{s0 s1 s2:Hg}{r:D×Hg}(f:ma U s0=some (x,s1))(o:mb U s1=some (y,s2))(q:g x y s2=some r):mB g ma mb U s0=some r:=by unfold mB;rw[f];show GY (mb U s1) _=_;rw[o];exact q
def ZN{h:G2}(p:SE X e (mB g ma mb))(q:SE X e (mB h ma mb)):SE X e (mB (JX g h) ma mb):=by
 rintro qp s σ H Q I ⟨U,st,io,d,st',E,S,e,k⟩;obtain⟨⟨x,s1⟩,a,e⟩:=Hu e;obtain⟨⟨y,s2⟩,b,e⟩:=Hu e;rcases NC e with e|e
 ·exact p qp s σ H Q I ⟨U,st,io,d,st',E,S,TZ a b e,k⟩
 exact q qp s σ H Q I ⟨U,st,io,d,st',E,S,TZ a b e,k⟩
def VT{h:G2}(p:SB X e (mT<|mB g ma mb))(q:SB X e (mT<|mB h ma mb)):SB X e (mT<|mB (JX g h) ma mb):=by
 rintro qp s σ H Q I ⟨U,st,io,d,st',E,S,e,k⟩;have e:=Tz e;obtain⟨⟨x,s1⟩,a,e⟩:=Hu e;obtain⟨⟨y,s2⟩,b,e⟩:=Hu e;rcases NC e with e|e
 ·exact p qp s σ H Q I ⟨U,st,io,d,st',E,S,by unfold mT;rw[TZ a b e];rfl,k⟩
 exact q qp s σ H Q I ⟨U,st,io,d,st',E,S,by unfold mT;rw[TZ a b e];rfl,k⟩
def Vn:G2:=λd k st=>match d with
 |.ref n=>(look st n k).bind λr=>r.map λv=>(v,st)
 |_=>none
def Hf:G2:=JX Ko Vn
def HA(r:X.A.units+1<cLine)(o:SE X a ma)(q:SE X b mb)(u:VX b:=by intro _ _;rfl)(f:MK b:=by intro _ _;rfl):SE X (.Subscript a b pos) (mB Hf ma mb):=ZN (kK o q u) (show SE X (.Subscript a b pos) (Zf ma mb) from sL r o q f)
def NZ(neg:Bool):G2:=λk d st=>match d with
 |.ref n=>(look st n k).map λr=>(.bl (if neg then !r.isSome else r.isSome),st)
 |_=>none
def J5:G2:=JX (JX (inD false) MB)<|NZ false
def TB:G2:=JX (inD true)<|NZ true
def pE(q:X.A.units+100<cLine)(f:SE X a ma)(o:SE X b mb)(hm:behindInMarks .In b=false:=by rfl):SE X (.Compare a [.In] [b] pos) (mB J5 ma mb):=ZN (Tw (Rb (ZT q) aE) f o hm) (show SE X _ (Lr false ma mb) from pC (!0) f o hm)
def P2(q:X.A.units+100<cLine)(f:SE X a ma)(o:SE X b mb)(hm:behindInMarks .In b=false:=by rfl):SB X (.Compare a [.In] [b] pos) (mT<|mB J5 ma mb):=VT (JW (Rb (ZT q) aE) f o hm) (show SB X _ (mT<|Lr false ma mb) from pB (!0) f o hm)
def zO(q:X.A.units+100<cLine)(f:SE X a ma)(o:SE X b mb)(hm:behindInMarks .NotIn b=false:=by rfl):SB X (.Compare a [.NotIn] [b] pos) (mT<|mB TB ma mb):=VT (JW (zmJ q) f o hm) (show SB X _ (mT<|Lr true ma mb) from zN (!0) f o hm)
def Yj:D->Option Int->Option Int->Hg->Option (D×Hg):=λx lo a st=>LK (Yi x lo a st)<|iK x lo a st
def Sq(m:ME)(l h:MO):ME:=λU st=>(!8).bind λ(x,s1)=>(l U s1).bind λ(lo,s2)=>(h U s2).bind λ(a,s3)=>Yj x lo a s3
def zS{lo hi:Option Pv}{f o:MO}{u:Pos}(he:SE X e m)(q:SO X lo f)(r:SO X hi o):SE X (.Subscript e (.Slice lo hi none u) pos) (Sq m f o):=by
 rintro qp s σ H Q I ⟨U,st,io,d,st',E,S,e0,k⟩;obtain⟨⟨x,s1⟩,a,e0⟩:=Hu e0;obtain⟨⟨g,s2⟩,b,e0⟩:=Hu e0;obtain⟨⟨h,s3⟩,c,e0⟩:=Hu e0;rcases NC e0 with e0|e0
 ·exact xX he q r qp s σ H Q I ⟨U,st,io,d,st',E,S,by simp only[iQ,a,b,c,Ac];exact e0,k⟩
 exact zT he q r qp s σ H Q I ⟨U,st,io,d,st',E,S,by simp only[So,a,b,c,Ac];exact e0,k⟩
def Lg:D->Hg->Option (Wk×Hg)
 |.ref n,s=>(HZ s n).map λds=>(⟨ds,[(n,ds)]⟩,s)
 |.tup ds,s=>some (⟨ds,[]⟩,s)
 |_,_=>none
def mW(m:ME):MI:=λU st=>(!8).bind λ(d,s)=>Lg d s
def uJ{o l:Pv}(f:SE X l m):SI X o l (mW m):=by
 rintro qp s σ H R I ⟨U,st,io,W,st',E,S,a,k⟩;obtain⟨⟨d,s1⟩,b,a⟩:=Hu a;cases d with
 |ref n=>exact uI f qp s σ H R I ⟨U,st,io,W,st',E,S,by unfold iP;rw[b];exact a,k⟩
 |tup ds=>exact pL f qp s σ H R I ⟨U,st,io,W,st',E,S,by unfold iN;rw[b];exact a,k⟩
 |_=>cases a
def Ik:G3:=λo i v st=>match o,i with
 |.ref n,.int k=>match st[n]? with
  |some (.lst ds)=>(Ml ds.length k).map λj=>st.set n<|.lst<|ds.set j v
  |_=>none
 |_,_=>none
def kL:Sz X Ik:=by
 rintro qp s σ H o i v h l u Q I m w A ⟨E,a,K,st,io,st',P,R2,f,S,e,k⟩;cases E with
 |ref n=>
  cases a with
  |int j=>
   unfold Ik at e;exists 11;split at e
   ·rename_i ds b;obtain⟨q,x,e⟩:=Ie e;cases e;obtain⟨p,rfl,c⟩:=P;obtain⟨d,g,r⟩:=S.ob n p _ c b;refine set_list qp s σ H _ _ v h l u Q I m w A ⟨p,d,j,q,rfl,R2,g,by rw[r.length];exact x,?_⟩;obtain⟨y,B⟩:=M6 (o:=.lst (d.set q v)) (ob:=.lst (ds.set q K)) S c b (λo u z=>by rw[g]at z;cases z) λF T C=>⟨_,C,(Hj.mono T r).set q<|Rep.mono T f⟩
    exact k _ [] y B
   ·cases e
  |_=>cases e
 |_=>cases a<;>cases e
def Ji(mo mi f:ME):MS:=λU st=>LK (Hr f (Lv Ik mo mi) U st)<|LC mo mi f U st
def LP{o i value:Pv}{mo mi x:ME}{pos':Pos}(B:X.A.units+1<cLine)(y:SE X o mo)(hi:SE X i mi)(z:SE X value x)(C:swapsWith value (some<|.Subscript o i pos') pos.line X.env=pure false:=by rfl)(F:∀v,assign (.Subscript o i pos') X.env v=(do
   let q <-holding [v] (Wp o X.env)
   let r <-holding [v,q] (Wp i X.env)
   standAt pos'
   holding [v,q,r] (setItem q r v)
   release [v,q,r] []):=by intro _;rfl)
  (u:swapsWithSole [.Subscript o i pos'] value pos.line X.env=pure false:=by rfl) (hw:swappedStores [.Subscript o i pos'] value X.env=pure none:=by rfl)
  (G:(assignEach [.Subscript o i pos'] X.env).map (·.2)=[assign (.Subscript o i pos') X.env]:=by rfl):SS X (.Assign [.Subscript o i pos'] value pos) (Ji mo mi x):=by
 intro qp s σ H N I h;exists 2;rcases NC e with e|e
 ·exact VH z (pJ y hi kL F) u hw G qp s σ H N I<|O3 E S e w
 exact uQ B y hi z C qp s σ H N I<|O3 E S e w
def NP(i j:Nat)(mm:MA):MS:=λU st=>(mm U st).bind λ(xs,s)=>match xs with
 |[x,y]=>some (.nx ((U.set i<|some x).set j<|some y),s)
 |_=>none
def ZY{x y:Str}{o py pt:Pos}{kt k2 pt2}(z:X.calm=true)(B:X.N.Nodup)(hi:X.N[i]?=some x)(C:X.N[j]?=some y)(r:i≠j)(F:X.env.scope.names.lookup x=some .local) (G:X.env.scope.names.lookup y=some .local) (I:SA X [a,b] mm)(hw:swappedStores [.Tuple [.Name x o,.Name y py] kt pt] (.Tuple [a,b] k2 pt2) X.env=pure (some [x,y]):=by rfl)(J:swapsWithSole [.Tuple [.Name x o,.Name y py] kt pt] (.Tuple [a,b] k2 pt2) pos.line X.env=pure false:=by rfl):
  SS X (.Assign [.Tuple [.Name x o,.Name y py] kt pt] (.Tuple [a,b] k2 pt2) pos) (NP i j mm):=PS.imp (qB z B hi C r F G I hw J) λN σ H h=>by
 exists 2;obtain⟨⟨xs,s1⟩,c,e⟩:=Hu e
 match xs,e,c with
 |[u,v],e,c=>
  cases e;refine⟨U,st,io,_,_,E,S,c,λs H1 g d l R1=>?_⟩;obtain⟨p,q,rfl,m,n⟩:=R1.two;exact⟨p,q,rfl,w _ H1 g d l<|((E.ext S d).set i m).set j n⟩
def Jl(P:SZ)(w:World)(K:Ab)(o:Str->Option IR)(base:P3)(k:Nat)(x:Str)(n:Nat)(g:GN):Prop:=∃f fd a,Jj P w K o base KG k f fd a (Mw K n g)/\o x=some (.ref f)/\Bi K (.ref f)=true/\Binds K fd a []
def J8(n:Nat)(mm:MA):Prop:=∀U st xs s,mm U st=some (xs,s)->xs.length=n
def J8.nil:J8 0 mZ:=λ_ _ _ _ h=>wR h
def J8.cons(h:J8 n mm):J8 (n+1) (Hc m mm):=λ_ _ _ _ q=>zmZ h q
def xU{x:Str}{g:GN}(F:Jl X.prog X.w X.K X.mg X.base k x n g)(r:HP k X.A)(u:Gl X x)(v:SA X (e::es) mm)(y:J8 n mm)(o:(x==("__debug__":Str))=false:=by decide)(he:Qqb X.env e es:=by rfl) (q:Qqc pos es X.env:=by rfl) (hn:(e::es).length=n:=by rfl):
  SE X (.Call (.Name x p) (e::es) [] pos) (Ho g mm):=by
 obtain⟨f,fd,b,F,hm,hk,a⟩:=F;exact sJ F r u hm hk a v o he q hn y
def Laid(K:Ab)(o:Str->Option IR)(x:Str)(st:W1)(ps:List Str):Prop:=∃f fd,Mm K x x st f fd/\o x=some (.ref f)/\Binds K fd ps []
def oE{q:Str->Option IR}{base:P3}{x:Str}{st:W1}{N ps:List Str}{m:MS}(L:Laid K q x st ps)(S:IQ N ps (Ja st))(hbody:∀(f:Addr) (o:IR) (A:Around) (outer:List Env) (s:Shared) (H:Hp) (E:XK),HP k (A.deeper<|envOfC x (Ja st) s.heap.objs.size f o) ->
   KL (JR KG P w K q base N x (Ja st) f o A outer s H E).nox (Kw st) m):Jl P w K q base (k+1) x ps.length (Iv N.length m):=by
 obtain⟨f,fd,F,hm,a⟩:=L;exact⟨f,fd,ps,NX F S<|hbody f,hm,F.kp,a⟩
end
variable {v:IR}
def zX{at_:Addr}{R:PySem.Fin->Shared->Prop}(b:s.heap.get? at_=some (seqObj "list" #[v] k))(fin:R (.done<|.ret .none) {s with heap:=sortedHeap s.heap at_ [v] #[v]}):
  wpAny (!5) A (Builtin.«list.sort» ⟨[.ref at_],[]⟩) R E s:=by
 have d:=Ak b;obtain⟨a,g1⟩:∃a,(s.heap.update at_<|BH λ_=>(#[]:Array IR)).get? at_=some (seqObj "list" #[] a):=⟨_,get?_update_seq b λ_=>#[]⟩
 have g2:(((s.heap.update at_<|BH λ_=>(#[]:Array IR)).push<|seqObj "tuple" #[v] 0).push<|seqObj "list" #[] 0).get? at_=some (seqObj "list" #[] a):=Ad _<|Ad _ g1;rw[list_sort_plain];refine Aa<|listItems_at b rfl<|Aa<|DT b rfl<|Aa<|EI g1 rfl<|Aa<|ES<|Aa<|Dj<|AO ?_;show wpAny (!5) A _ R E {s with heap:=((s.heap.update at_<|BH λ_=>(#[]:Array IR)).push<|seqObj "tuple" #[v] 0).push (seqObj "list" #[] 0)};have two:(#[v]:Array IR).size<2:=by show 1<2;decide
 have same:(arrOf<|G5 general' ((#[v]:Array IR).zip #[v]) #[] 7 none).map (·.2)=#[v]:=by show(((#[v]:Array IR).zip #[v]).map (·.2))=#[v];simp
 dsimp only;rw[if_pos two,if_pos two];refine Aa<|Ae ?_;rw[Gu];refine Aa<|Ae ?_;dsimp only;rw[same];refine Aa<|EI g2 rfl<|Aa<|DT g2 rfl ?_;simp only[bne_self_eq_false,AM,if_false];exact Ae fin
def zjo{R:Qqa}(b:s.heap.IsList l [v].toArray)(fin:R (.ref<|s.heap.objs.size+1) {s with heap:=sortedAll s.heap [v] #[v]}):
  wpAny (!5) A (call (.builtin "sorted") [.ref l]) R E s:=by
 have sz:((s.heap.push<|seqObj "list" #[] 0).update s.heap.objs.size (BH (·++[v].toArray))).objs.size=s.heap.objs.size+1:=(Heap.size_update ..).trans<|size_push' ..;have a:(((s.heap.push<|seqObj "list" #[] 0).update s.heap.objs.size (BH (·++[v].toArray))).push<|seqObj "list" [v].toArray 0).get? (s.heap.objs.size+1)=some (seqObj "list" [v].toArray 0):=by rw[<-sz];exact Ao _ rfl
 exists 13;unfold Builtin.«sorted»;refine Aa (m:=checkCount "sorted" 1 1 _) (Ae<|Aa<|collect_list b<|Aa<|Dj ?_);show wpAny _ _ _ _ _ {s with heap:=((s.heap.push<|seqObj "list" #[] 0).update s.heap.objs.size (BH (·++[v].toArray))).push (seqObj "list" [v].toArray 0)};rw[sz];exact Aa<|AO<|Bc ET ⟨_,a,rfl⟩ Ep (zX a ⟨_,rfl,Ae ⟨_,rfl,fin⟩⟩)<|EU _
def Rv:GN
 |[.ref n],st=>(HZ st n).bind λds=>if decide (ds.length=1)=true then some (.ref st.length,st++[.lst ds])else none
 |_,_=>none
def zhx:Jz X (.builtin "sorted") Rv:=by
 exists 0;unfold Rv at e;split at e
 ·rename_i n;obtain⟨zs,m,e⟩:=Hu e;obtain⟨w,e⟩:=IA e;cases e;obtain⟨y,rfl⟩:=List.length_eq_one_iff.mp<|of_decide_eq_true w;obtain⟨v,rfl,p,rfl,A⟩:=R.one;obtain⟨u,rfl,E⟩:=r.one;cases E;obtain⟨x,K,j⟩:=KA S A m;obtain⟨P,l,pl,z⟩:=I.list K;obtain⟨c,rfl,B⟩:=j.one;obtain⟨i,rfl,C⟩:=l.one;refine zjo pl.isList ?_;obtain⟨f,h⟩:=sortedAll_at s.heap [i] #[i];have g:H (s.heap.objs.size+1)=none:=I.hok.fresh<|Cv _;refine⟨.ref<|s.heap.objs.size+1,upd H (s.heap.objs.size+1)<|.lst [c],I.laid (t':=s.toks) (a:=s.heap.objs.size+1) (λb o q=>sortedAll_old q) (Cv _) ⟨by show 1<=sizeLine;decide,[i],f,l,by simpa using h⟩,rfl,?_⟩;exact k.lst S j g
 ·cases e
def Mf:GN:=K7 Pa<|K7 Rv Ug
def XA:Jz X (.builtin "sorted") Mf:=Qh zhv<|Qh zhx zhu
variable {o:Obj}
def Inv.freeze{d:Addr}{o:Obj}{u:HO}(I:Inv X qp σ H s)(hd:H d=some u)(g:s.heap.get? d=some o)(e:∀xs,u≠.tup xs)(f:∀x,u≠.own x)(r:∀o w,u≠.frz o w)(B:∀ps,u≠.tbl ps):Inv X qp σ (upd H d<|.frz o u) s:=by
 have ne:∀{b:Addr}{v:HO},H b=some v->v≠u->b≠d:=λ{b v} q a z=>by subst z;rw[hd]at q;exact a (AA q).symm
 refine Inv.step (h':=s.heap) (t':=s.toks) (g':=s.gens) (d':=s.drawn) (ch:=[]) I (λ_ z=>nomatch z) (λb v _ _ _ q _=>q) (λb v _ _ _ q _=>⟨v.slots,q⟩) (λb v _ q n=>?_) (λb v _ q=>⟨v,q⟩) (λb xs q=>?_) (λb v w q=>?_) (λb ps q=>⟨#[],?_⟩) (λm hm=>hm) (λb v q=>?_) I.bare
 ·have:b≠d:=λz=>by
   rw[z,hd]at n;cases n
  rw[HV this];exact n
 ·rw[HV (ne q λz=>e xs z.symm)];exact q
 ·rw[HV (ne q λz=>r v w z.symm)];exact q
 ·rw[HV (ne q λz=>B ps z.symm),q];simp
 ·by_cases hb:b=d
  ·subst hb;rw[Lc]at q;cases q;refine⟨g,?_⟩;exact(I.hok b u hd).stay (λc x _ y=>y) (λc y=>by rw[HV (ne y λz=>f b z.symm)];exact y) λc xs y=>by rw[HV (ne y λz=>e xs z.symm)];exact y
  rw[HV hb]at q;exact(I.hok b v q).stay (λc x _ y=>y) (λc y=>by rw[HV (ne y λz=>f b z.symm)];exact y) λc xs y=>by rw[HV (ne y λz=>e xs z.symm)];exact y
def Qi{d:Addr}{ps:List (List Key×V)}{es:Array DictEntry}{ep:Nat}(x:Jy P w H h d (.frz o<|.dT ps))(dd:o.data=.dict es ep):
  h.get? d=some o/\es.size=ps.length/\∀(i:Nat) (k:List Key) (v:V),ps[i]?=some (k,v)->∃(c:DictEntry) (b:Addr),es[i]?=some c/\c.key=.ref b/\H b=some (.tup<|k.map kV)/\RelV v c.val:=by
 obtain⟨g,z,y,xs,r,F,K,X,s,ex,a,A,G⟩:=x;rw[g]at s;cases s;rw[dd]at a;cases a;have f:es.size=ps.length:=by have n:=congrArg F5 A;have E:=Bg r;simp at n;omega
 refine⟨g,f,λi k v u=>?_⟩;have get:∀{l:List (List Key×V)} {m:List (List Key×Addr×IR)} {i:Nat},Paired (λ(p:List Key×V) (q:List Key×Addr×IR)=>p.1=q.1/\H q.2.1=some (.tup<|p.1.map kV)/\RelV p.2 q.2.2) l m->l[i]?=some (k,v)->∃q,m[i]?=some q/\H q.2.1=some (.tup<|k.map kV)/\RelV v q.2.2:=by
  intro l m i q
  induction q generalizing i with
  |nil=>intro e;simp at e
  |cons h t B=>
   cases i with
   |zero=>
    intro e;simp at e;subst e;exact⟨_,rfl,h.2.1,h.2.2⟩
   |succ j=>intro e;exact B<|by simpa using e
 obtain⟨q,C,n,E⟩:=get r u;have he:es[i]?=some (entryOfKey (tupleKind<|Jm P w) q):=by
  have:es.toList[i]?=some (entryOfKey (tupleKind<|Jm P w) q):=by rw[A,Ax,C];rfl
  simpa using this
 exact⟨_,q.2.1,he,rfl,n,E⟩
section
variable {m:ME}
def Su:Key->D
 |.inl i=>.int i
 |.inr x=>.str x
theorem Ul:∀(ks:List Key),Hj K H io (ks.map kV) (ks.map Su)
 |[]=>rfl
 |.inl i::r=>⟨_,_,rfl,rfl,Ul r⟩
 |.inr x::r=>⟨_,_,rfl,rfl,Ul r⟩
end
inductive Sr where
 |l (a:Addr)|t (a:Addr)
def Sr.ad:Sr->Addr
 |.l a=>a
 |.t a=>a
def Sr.ob:Sr->Obj
 |.l a=>{cls:=.type "list_iterator",data:=.fields #[.ref a,.int 0 0]}
 |.t a=>{cls:=.type "tuple_iterator",data:=.fields #[.ref a,.int 0 0]}
def Sr.is(h:P3)(xs:Array IR):Sr->Prop
 |.l a=>h.IsList a xs
 |.t a=>IsTup h a xs
def Sr.at_(h:P3)(i:Addr)(k:Nat):Sr->Prop
 |.l a=>h.IsListIter i a k
 |.t a=>IsTupIter h i a k
variable {xs:Array IR}{x:Sr}
def Sr.is_keep(q:x.is h xs)(k:∀u,h.get? x.ad=some u->h'.get? x.ad=some u):x.is h' xs:=by
 cases x with
 |l a=>exact DH q k
 |t a=>obtain⟨o,g,c⟩:=q;exact⟨o,k o g,c⟩
def Sr.at_keep{i:Addr}(q:x.at_ h i n)(k:∀u,h.get? i=some u->h'.get? i=some u):x.at_ h' i n:=by
 cases x with
 |l a=>exact FE q k
 |t a=>obtain⟨o,g,c⟩:=q;exact⟨o,k o g,c⟩
def Sr.at_get{i:Addr}(q:x.at_ h i n):∃o vs,h.get? i=some o/\o.data=.fields vs:=by
 cases x with
 |l a=>obtain⟨o,g,c,d⟩:=q;exact⟨o,_,g,d⟩
 |t a=>obtain⟨o,g,c,d⟩:=q;exact⟨o,_,g,d⟩
variable {it:Addr}
def Sr.iter{R:Qqa}(h:x.is s.heap xs)(k:R (.ref s.heap.objs.size) {s with heap:=s.heap.push x.ob}):wpAny (!5) A (pyIter<|.ref x.ad) R E s:=by
 cases x with
 |l a=>exact Cy h k
 |t a=>exact iter_tuple h k
def zkQ{R:Qqa}(hit:IsTupIter s.heap it a i)(b:IsTup s.heap a xs)(c:xs[i]?=some v)(k:∀h',IsTupIter h' it a (i+1)->BC it s.heap h'->R v {s with heap:=h'}):wpAny (!5) A (Builtin.SmallTypes.nextOf<|.ref it) R E s:=by
 obtain⟨l,g,rc,d⟩:=id hit;obtain⟨to,h,_,m,j⟩:=b;unfold Builtin.SmallTypes.nextOf;refine Aa (A6 (name:=BD "__next__") hit.typeIs CP<|Bc CP hit.typeIs Fe ?_<|Fm _);show wpAny _ _ (field (.ref it) 0 >>= _) _ _ s;refine Aa<|Ba g d (x:=.ref a) rfl ?_;show wpAny _ _ (if(AE a==Bo)=true then _ else _) _ _ s;rw[if_neg (show ¬(AE a==Bo)=true from λz=>AW z)];show wpAny _ _ (field (.ref it) 1 >>= _) _ _ s;refine Aa<|Ba g d (x:=.int i 0) rfl ?_;show wpAny _ _ (seqItems? (.ref a) >>= _) _ _ s;refine Aa<|By h j ?_;simp only[BA,c];refine Aa<|DI g d (!2)<|Ae ⟨v,rfl,Ae<|k _ ⟨_,BL _ g<|EW<|C3 d _,(FW ..).trans rc,?_⟩<|BZ ..⟩;rw[C3 d];simp[rawInt]
def zgy{R:Qqa}(b:A.handled=none)(hit:IsTupIter s.heap it a i)(c:IsTup s.heap a xs)(f:xs[i]?=none)(k:∀h' e,EJ it s.heap h'->(∃o,h'.get? e=some o/\o.cls=.type "StopIteration")->E (.ref e) {s with heap:=h'}):wpAny (!5) A (Builtin.SmallTypes.nextOf<|.ref it) R E s:=by
 obtain⟨l,d,rc,g⟩:=id hit;obtain⟨to,h,_,n,j⟩:=c;unfold Builtin.SmallTypes.nextOf;refine Aa (A6 (name:=BD "__next__") hit.typeIs CP<|Bc CP hit.typeIs Fe ?_<|Fm _);show wpAny _ _ (field (.ref it) 0 >>= _) _ _ s;refine Aa<|Ba d g (x:=.ref a) rfl ?_;show wpAny _ _ (if(AE a==Bo)=true then _ else _) _ _ s;rw[if_neg (show ¬(AE a==Bo)=true from λz=>AW z)];show wpAny _ _ (field (.ref it) 1 >>= _) _ _ s;refine Aa<|Ba d g (x:=.int i 0) rfl ?_;show wpAny _ _ (seqItems? (.ref a) >>= _) _ _ s;refine Aa<|By h j ?_;simp only[BA,f];refine Aa<|BR<|Aa<|DI d g (!2) ?_;show wpAny _ _ (newExc (.type "StopIteration") [] >>= _) _ _ _;simp only[newExc,newTuple];refine Aa (Aa<|AR (Aa (m:=firstArgMember _ _)<|F7 (a:=Bo) (by first|rfl|(simp only[firstArgMember];rfl))<|AR ?_<|by size_fits)<|by size_fits);simp only[raiseNew];refine Aa<|wpAny_handled ?_
 first|rw[show A.in1.handled=none from b]|rw[b]
 refine Aa<|Ae<|wpAny_throw ?_;exact k _ _ (((BZ ..).extBut.push _).push _) ⟨_,Ao _ rfl,rfl⟩
def Sr.next{R:Qqa}(hit:x.at_ s.heap it i)(h:x.is s.heap xs)(b:xs[i]?=some v)(k:∀h',x.at_ h' it (i+1)->BC it s.heap h'->R v {s with heap:=h'}):
  wpAny (!5) A (Builtin.SmallTypes.nextOf<|.ref it) R E s:=by
 cases x with
 |l a=>exact wpAny_nextOf_list_item hit h b k
 |t a=>exact zkQ hit h b k
def Sr.stop{R:Qqa}(b:A.handled=none)(hit:x.at_ s.heap it i)(h:x.is s.heap xs)(c:xs[i]?=none)(k:∀h' e,EJ it s.heap h'->(∃o,h'.get? e=some o/\o.cls=.type "StopIteration")->E (.ref e) {s with heap:=h'}):wpAny (!5) A (Builtin.SmallTypes.nextOf<|.ref it) R E s:=by
 cases x with
 |l a=>exact wpAny_nextOf_list_end b hit h c k
 |t a=>exact zgy b hit h c k
def Sr.at_new{i:Addr}(g:h.get? i=some x.ob):x.at_ h i 0:=by
 cases x with
 |l a=>exact⟨_,g,rfl,rfl⟩
 |t a=>exact⟨_,g,rfl,rfl⟩
noncomputable abbrev PX (h:P3) (x:Sr):P3:=h.push x.ob
noncomputable abbrev QX (h:P3) (x y:Sr):P3:=(PX h x).push y.ob
noncomputable abbrev QW (h:P3) (x y:Sr):P3:=(QX h x y).push {cls:=.type "tuple",data:=.seq #[.ref h.objs.size,.ref (PX h x).objs.size]}
noncomputable abbrev Tj (h:P3) (x y:Sr):P3:=(QW h x y).push {cls:=.type "tuple",data:=.seq #[.none,.none]}
noncomputable abbrev O2 (h:P3) (x y:Sr):P3:=(Tj h x y).push {cls:=.type "zip",data:=.fields #[.none,.bool false,.bool false,.ref (QX h x y).objs.size,.ref (QW h x y).objs.size]}
def zl8(x y:Sr)(xs b:Array IR):Meets (Builtin.«zip.__new__» ⟨[.type "zip",.ref x.ad,.ref y.ad],[]⟩) (λ_ R s=>x.is s.heap xs/\y.is s.heap b/\R (.ok<|.ret<|.ref (Tj s.heap x y).objs.size) {s with heap:=O2 s.heap x y}):=
 .of_wp λprog w A R s h=>by
  obtain⟨a,g,d,tk,os⟩:=s;obtain⟨j,l,h⟩:=h;have i:=sub_zip;have m:x.is (Shared.heap ⟨a,g,d,tk,os⟩) xs:=j;have n:y.is (Shared.heap ⟨a.push x.ob,g,d,tk,os⟩) b:=Sr.is_keep l λu q=>Ad _ q
  wp_walk using Sr.iter m,Sr.iter n
  exact⟨_,rfl,h⟩
structure Zp(z TI TO i j:Addr):Prop where
 TIz:TI≠z
 TOz:TO≠z
 iz:i≠z
 jz:j≠z
 TIO:TI≠TO
 TIi:TI≠i
 TIj:TI≠j
 TOi:TO≠i
 TOj:TO≠j
 ij:i≠j
def Nh{a b:Nat}(h:a≠b):(show Addr from a)≠(show Addr from b):=h
def Zp.new(n:Nat):Zp (n+4) (n+2) (n+3) n (n+1):=⟨Nh<|by omega,Nh<|by omega,Nh<|by omega,Nh<|by omega,Nh<|by omega,Nh<|by omega,Nh<|by omega,Nh<|by omega,Nh<|by omega,Nh<|by omega⟩
variable {b:IR}{y:Sr}{z:Addr}{ys:Array IR}
def zA{R:Qqa}(e:x.is s.heap xs)(f:y.is s.heap ys)(k:∀h',IsZip h' (s.heap.objs.size+4) (s.heap.objs.size+2) (s.heap.objs.size+3) .none->IsPair h' (s.heap.objs.size+2) (.ref s.heap.objs.size) (.ref<|s.heap.objs.size+1)->IsPair h' (s.heap.objs.size+3) .none .none ->
   x.at_ h' s.heap.objs.size 0->y.at_ h' (s.heap.objs.size+1) 0->(∀c u,s.heap.get? c=some u->h'.get? c=some u)->R (.ref<|s.heap.objs.size+4) {s with heap:=h'}):wpAny (!5) A (call (.type "zip") [.ref x.ad,.ref y.ad]) R E s:=by
 refine callType_new F.called_zip (!1) (F.typeCall_zip_2 _ _) (F.newCall_zip_2 _ _) (λobj=>F.args_object_init_3 obj _ _) F.entry_zip_new (zl8 x y xs ys) ⟨e,f,?_⟩;have a:(PX s.heap x).objs.size=s.heap.objs.size+1:=Bb ..;have b:(QX s.heap x y).objs.size=s.heap.objs.size+2:=(Bb ..).trans (by rw[a]);have d:(QW s.heap x y).objs.size=s.heap.objs.size+3:=(Bb ..).trans (by rw[b]);have h:(Tj s.heap x y).objs.size=s.heap.objs.size+4:=(Bb ..).trans (by rw[d]);have up:∀c u,(PX s.heap x).get? c=some u->(O2 s.heap x y).get? c=some u:=λc u q=>Ad _<|Ad _<|Ad _<|Ad _ q;have g:(O2 s.heap x y).get? (Tj s.heap x y).objs.size=some {cls:=.type "zip",data:=.fields #[.none,.bool false,.bool false,.ref (QX s.heap x y).objs.size,.ref (QW s.heap x y).objs.size]}:=Ao _ rfl;have f4:(O2 s.heap x y).get? (QW s.heap x y).objs.size=some {cls:=.type "tuple",data:=.seq #[.none,.none]}:=Ad _<|Ao _ rfl;have i:(O2 s.heap x y).get? (QX s.heap x y).objs.size=some {cls:=.type "tuple",data:=.seq #[.ref s.heap.objs.size,.ref (PX s.heap x).objs.size]}:=Ad _<|Ad _<|Ao _ rfl;have f2:(O2 s.heap x y).get? (PX s.heap x).objs.size=some y.ob:=Ad _<|Ad _<|Ad _<|Ao _ (by cases y<;>rfl);have f1:(O2 s.heap x y).get? s.heap.objs.size=some x.ob:=up _ _<|Ao _ (by cases x<;>rfl);rw[b,d,h]at g;rw[a,b]at i;rw[d]at f4;rw[a]at f2;show _/\_;rw[h];exact⟨⟨_,g,rfl⟩,k _ g i f4 (Sr.at_new f1) (Sr.at_new f2) λc u q=>up c u (Ad _ q)⟩
def xG{TI TO i j:Addr}{m:Nat}{u a:IR}{R:Option IR->Shared->Prop}(D:Zp z TI TO i j)(xz:x.ad≠z/\x.ad≠TO/\x.ad≠i/\x.ad≠j)(f:y.ad≠z/\y.ad≠TO/\y.ad≠i/\y.ad≠j)(hz:IsZip s.heap z TI TO .none) (e:IsPair s.heap TI (.ref i) (.ref j)) (r:IsPair s.heap TO a b) (hi:x.at_ s.heap i n) (T:y.at_ s.heap j m) (U:x.is s.heap xs) (W:y.is s.heap ys) (Y:xs[n]?=some u) (Z:ys[m]?=some v)(k:∀h',IsZip h' z TI TO (rawInt s.heap.objs.size)->IsPair h' TI (.ref i) (.ref j)->IsPair h' TO u v->x.at_ h' i (n+1)->y.at_ h' j (m+1)->IsPair h' s.heap.objs.size u v ->
   (∀c o,c≠z->c≠TO->c≠i->c≠j->s.heap.get? c=some o->h'.get? c=some o)->R (some<|.ref s.heap.objs.size) {s with heap:=h'}):wpAny (!5) A (pyNext<|.ref z) R E s:=by
 have ty:s.TypeIs (.ref z) "zip":=⟨_,hz,rfl⟩;unfold pyNext;refine Aa (DU<|A6 (name:=BD "__next__") ty F.slot_zip_next<|Bc F.slot_zip_next ty F.entry_zip_next ?_<|F.args_zip_next_1 _);show wpAny _ _ (field (.ref z) 2 >>= _) _ _ _;refine Aa<|Ba hz rfl (x:=.bool false) rfl ?_;show wpAny _ _ (field (.ref z) 3 >>= _) _ _ _;refine Aa<|Ba hz rfl (x:=.ref TI) rfl<|Aa<|By e rfl ?_;show wpAny _ _ (Builtin.SmallTypes.ownedTupleIsFree (.ref z) >>= _) _ _ _;unfold Builtin.SmallTypes.ownedTupleIsFree;refine Aa<|Aa<|Ba hz rfl (x:=.none) rfl<|Ae ?_;simp only[if_true];refine Aa<|BR<|Aa<|Ba hz rfl (x:=.ref TO) rfl<|Aa<|B6 hz (!2) λg1 P s1=>?_
 replace P:IsZip g1 z TI TO .ellipsis:=P
 have k1:∀c o,c≠z->s.heap.get? c=some o->g1.get? c=some o:=λc o g q=>s1.extBut c o g q;simp only[Gf,Gv,El,C4];refine Aa<|Aa<|Aa<|DV ?_;show wpAny _ _ (Builtin.SmallTypes.nextOf (.ref i) >>= _) _ _ _;refine Aa<|Sr.next (Sr.at_keep hi λo q=>k1 _ o D.iz q) (Sr.is_keep U λo q=>k1 _ o xz.1 q) Y λg2 i2 s2=>Ae ?_;have k2:∀c o,c≠z->c≠i->s.heap.get? c=some o->g2.get? c=some o:=λc o g X q=>s2.extBut c o X<|k1 c o g q;have J:IsPair g2 TO a b:=k2 _ _ D.TOz D.TOi r;refine Aa<|By J rfl<|Aa<|DA J λg3 B s3=>(Aa<|BP<|Ae ?_)
 replace B:IsPair g3 TO u b:=B
 have k3:∀c o,c≠z->c≠i->c≠TO->s.heap.get? c=some o->g3.get? c=some o:=λc o g X nt q=>s3.extBut c o nt<|k2 c o g X q;refine Aa<|Aa<|DV ?_;show wpAny _ _ (Builtin.SmallTypes.nextOf (.ref j) >>= _) _ _ _;refine Aa<|Sr.next (Sr.at_keep T λo q=>k3 _ o D.jz D.ij.symm D.TOj.symm q) (Sr.is_keep W λo q=>k3 _ o f.1 f.2.2.1 f.2.1 q) Z λg4 j4 s4=>Ae ?_;have L:IsPair g4 TO u b:=s4.extBut _ _ D.TOj B;refine Aa<|By L rfl<|Aa<|DA L λd h s5=>(Aa<|BP<|Ae<|Ae ?_)
 replace h:IsPair d TO u v:=h
 refine Aa<|By h rfl<|Aa<|ES ?_;have sz:d.objs.size=s.heap.objs.size:=by rw[s5.1,s4.1,s3.1,s2.1,s1.1]
 have M:IsZip d z TI TO .ellipsis:=s5.extBut _ _ D.TOz.symm<|s4.extBut _ _ D.jz.symm<|s3.extBut _ _ D.TOz.symm<|s2.extBut _ _ D.iz.symm P;have k5:∀c o,c≠z->c≠TO->c≠i->c≠j->s.heap.get? c=some o->d.get? c=some o:=λc o l p C G q=>s5.extBut c o p<|s4.extBut c o G<|k3 c o l C p q;have i5:x.at_ d i (n+1):=Sr.at_keep i2 λo q=>s5.extBut _ _ D.TOi.symm<|s4.extBut _ _ D.ij<|s3.extBut _ _ D.TOi.symm q;have j5:y.at_ d j (m+1):=Sr.at_keep j4 λo q=>s5.extBut _ _ D.TOj.symm q;have N:z<d.objs.size:=Ak M;show wpAny _ _ (Builtin.SmallTypes.ownedTupleHandOut (.ref z) (.ref d.objs.size) >>= _) _ _ _;unfold Builtin.SmallTypes.ownedTupleHandOut;have z6:IsZip (d.push {cls:=.type "tuple",data:=.seq #[u,v]}) z TI TO .ellipsis:=Ad _ M;refine Aa<|Aa<|B6 z6 (!2) λg7 I s7=>?_
 replace I:IsZip g7 z TI TO (rawInt d.objs.size):=I
 refine B6 I (!2) λH K Q=>?_
 replace K:IsZip H z TI TO (rawInt d.objs.size):=K
 have up:∀c o,c≠z->d.get? c=some o->H.get? c=some o:=λc o g q=>Q.extBut c o g<|s7.extBut c o g<|Ad _ q;have S:IsPair H d.objs.size u v:=Q.extBut _ _ (C0 N)<|s7.extBut _ _ (C0 N)<|Ao _ rfl;rw[sz]at K S;refine Ae ⟨_,rfl,Ae ?_⟩;show R (some<|.ref d.objs.size) _;rw[sz];exact k H K (up _ _ D.TIz<|k5 _ _ D.TIz D.TIO D.TIi D.TIj e) (up _ _ D.TOz h) (Sr.at_keep i5 λo q=>up _ o D.iz q) (Sr.at_keep j5 λo q=>up _ o D.jz q) S λc o l p C G q=>up c o l (k5 c o l p C G q)
def tW{TI TO i j:Addr}{m:Nat}{a:IR}{R:Option IR->Shared->Prop}(G:A.handled=none)(D:Zp z TI TO i j)(xz:x.ad≠z/\x.ad≠TO/\x.ad≠i/\x.ad≠j)(f:y.ad≠z/\y.ad≠TO/\y.ad≠i/\y.ad≠j)(hz:IsZip s.heap z TI TO .none) (B:IsPair s.heap TI (.ref i) (.ref j)) (C:IsPair s.heap TO a b) (hi:x.at_ s.heap i n) (M:y.at_ s.heap j m) (I:x.is s.heap xs) (N:y.is s.heap ys) (he:xs[n]?=none\/ys[m]?=none)(k:∀h',(∀c o,c≠z->c≠TO->c≠i->c≠j->s.heap.get? c=some o->h'.get? c=some o)->R none {s with heap:=h'}):wpAny (!5) A (pyNext<|.ref z) R E s:=by
 have ty:s.TypeIs (.ref z) "zip":=⟨_,hz,rfl⟩;have halt:∀h' e,(∀c o,c≠z->c≠TO->c≠i->c≠j->s.heap.get? c=some o->h'.get? c=some o)->(∃o,h'.get? e=some o/\o.cls=.type "StopIteration") ->
   wpAny (!5) A (do if <-isInstance (.ref e) (.type "StopIteration")then pure none else throw (AE e)) R E {s with heap:=h'}:=λh' e q ⟨o,g,c⟩=>
  Aa (wpAny_isInstance (T:="StopIteration") (b:=true) ⟨o,g,c⟩ isSubtype_stop<|Ae<|k h' q)
 unfold pyNext;refine Aa (DU<|A6 (name:=BD "__next__") ty F.slot_zip_next<|Bc F.slot_zip_next ty F.entry_zip_next ?_<|F.args_zip_next_1 _);show wpAny _ _ (field (.ref z) 2 >>= _) _ _ _;refine Aa<|Ba hz rfl (x:=.bool false) rfl ?_;show wpAny _ _ (field (.ref z) 3 >>= _) _ _ _;refine Aa<|Ba hz rfl (x:=.ref TI) rfl<|Aa<|By B rfl ?_;show wpAny _ _ (Builtin.SmallTypes.ownedTupleIsFree (.ref z) >>= _) _ _ _;unfold Builtin.SmallTypes.ownedTupleIsFree;refine Aa<|Aa<|Ba hz rfl (x:=.none) rfl<|Ae ?_;simp only[if_true];refine Aa<|BR<|Aa<|Ba hz rfl (x:=.ref TO) rfl<|Aa<|B6 hz (!2) λg1 p s1=>?_
 replace p:IsZip g1 z TI TO .ellipsis:=p
 have k1:∀c o,c≠z->s.heap.get? c=some o->g1.get? c=some o:=λc o d q=>s1.extBut c o d q;have sep:∀{g:P3}{e:Addr}{o:Obj},IsZip g z TI TO .ellipsis->g.get? e=some o->o.cls=.type "StopIteration"->e≠z:=λ{g e o} q h c r=>by subst r;rw[q]at h;cases h;simp at c
 simp only[Gf,Gv,El,C4];refine Aa<|Aa<|Aa<|DV ?_;show wpAny _ _ (Builtin.SmallTypes.nextOf (.ref i) >>= _) _ _ _
 cases v:xs[n]? with
 |none=>
  refine Aa<|Sr.stop G (Sr.at_keep hi λo q=>k1 _ o D.iz q) (Sr.is_keep I λo q=>k1 _ o xz.1 q) v ?_;rintro g2 e s2 ⟨H,he,ce⟩;have X:IsZip g2 z TI TO .ellipsis:=s2 _ _ D.iz.symm p;exact B6 X (!2) λg3 _ s3=>halt g3 e (λc o l _ K _ q=>s3.extBut c o l (s2 c o K<|k1 c o l q)) ⟨H,s3.extBut _ _ (sep X he ce) he,ce⟩
 |some u=>
  have Q:ys[m]?=none:=he.resolve_left (by rw[v];simp);refine Aa<|Sr.next (Sr.at_keep hi λo q=>k1 _ o D.iz q) (Sr.is_keep I λo q=>k1 _ o xz.1 q) v λg2 i2 s2=>Ae ?_;have k2:∀c o,c≠z->c≠i->s.heap.get? c=some o->g2.get? c=some o:=λc o d P q=>s2.extBut c o P<|k1 c o d q;have J:IsPair g2 TO a b:=k2 _ _ D.TOz D.TOi C;refine Aa<|By J rfl<|Aa<|DA J λg3 o3 s3=>(Aa<|BP<|Ae ?_);have k3:∀c o,c≠z->c≠i->c≠TO->s.heap.get? c=some o->g3.get? c=some o:=λc o d P S q=>s3.extBut c o S<|k2 c o d P q;refine Aa<|Aa<|DV ?_;show wpAny _ _ (Builtin.SmallTypes.nextOf (.ref j) >>= _) _ _ _;refine Aa<|Sr.stop G (Sr.at_keep M λo q=>k3 _ o D.jz D.ij.symm D.TOj.symm q) (Sr.is_keep N λo q=>k3 _ o f.1 f.2.2.1 f.2.1 q) Q ?_;rintro U e s4 ⟨H,he,ce⟩;have L:IsZip U z TI TO .ellipsis:=s4 _ _ D.jz.symm<|s3.extBut _ _ D.TOz.symm<|s2.extBut _ _ D.iz.symm p;exact B6 L (!2) λW _ s5=>halt W e (λc o l Y K Z q=>s5.extBut c o l (s4 c o Z<|k3 c o l K Y q)) ⟨H,s5.extBut _ _ (sep L he ce) he,ce⟩
def Sr.sq(H:Hp)(xs:List V):Sr->Prop
 |.l a=>H a=some (.lst xs)\/∃o,H a=some (.frz o<|.lst xs)
 |.t a=>H a=some (.tup xs)
def Sr.sq_ne{xs:List V}{b:Addr}(h:x.sq H xs)(c:H b=none):x.ad≠b:=by
 cases x with
 |l a=>rcases h with h|⟨o,h⟩<;>exact Kk h c
 |t a=>exact Kk (show H a=some (.tup xs) from h) c
def Sr.sq_inj{xs ys:List V}(h:x.sq H xs)(h':x.sq H ys):xs=ys:=by
 cases x with
 |l a=>rcases h with h|⟨o,h⟩<;>rcases h' with h'|⟨b,h'⟩<;>rw[h]at h'<;>cases h'<;>rfl
 |t a=>
  have h:H a=some (.tup xs):=h;have h':H a=some (.tup ys):=h';rw[h]at h';cases h';rfl
def Sr.sq_is{xs:List V}(I:Inv X qp σ H s)(h:x.sq H xs):∃its:List IR,Vals xs its/\x.is s.heap its.toArray:=by
 cases x with
 |l a=>
  obtain⟨its,b,p,_⟩:=I.list (show JT X.K H a xs from .inl h);exact⟨its,b,p.isList⟩
 |t a=>
  obtain⟨its,b,p,_⟩:=I.tuple<|IK.of (K:=X.K) h;exact⟨its,b,p⟩
def Itz(x y:Sr):It:=
 ⟨λi H=>∃xs ys u v,x.sq H xs/\y.sq H ys/\xs[i]?=some u/\ys[i]?=some v,λi H r a=>∃p u v,H p=none/\a=upd H p (.tup [u,v])/\r=.ref p/\(∀xs,x.sq H xs->xs[i]?=some u)/\∀ys,y.sq H ys->ys[i]?=some v,
  λi H=>∃xs ys,x.sq H xs/\y.sq H ys/\(xs.length<=i\/ys.length<=i)⟩
variable {elts:List Pv}
def xE{x1}(x y:Sr){TI TO i j:Addr}(D:Zp z TI TO i j):
  Turn P w K (.Tuple elts x1 pos) (Itz x y) [z,TI,TO,i,j] z (λn h=>IsZip h z TI TO .none/\IsPair h TI (.ref i) (.ref j)/\(∃a b,IsPair h TO a b)/\x.at_ h i n/\y.at_ h j n) where
 mem:=by simp
 obj:=λn h st b l=>by
  obtain⟨C,m,⟨a,c,p⟩,F,G⟩:=st;simp only[A4,Bd,or_false]at l;rcases l with rfl|rfl|rfl|rfl|rfl
  ·exact⟨_,C,λv q=>by cases q⟩
  ·exact⟨_,m,λv q=>by cases q⟩
  ·exact⟨_,p,λv q=>by cases q⟩
  ·obtain⟨o,J,g,d⟩:=Sr.at_get F;exact⟨o,g,λv q=>by rw[d]at q;cases q⟩
  obtain⟨o,J,g,d⟩:=Sr.at_get G;exact⟨o,g,λv q=>by rw[d]at q;cases q⟩
 keep:=λn h h' st k=>by obtain⟨C,m,⟨a,c,p⟩,F,G⟩:=st;exact⟨k z (!2) _ C,k TI (!2) _ m,⟨a,c,k TO (!2) _ p⟩,Sr.at_keep F λo q=>k i (!2) o q,Sr.at_keep G λo q=>k j (!2) o q⟩
 item:=by
  intro X Q hw S hc n qp s σ H E I hf st T;subst Q hw S;obtain⟨xs,ys,u,v,A,e,gu,gv⟩:=T;obtain⟨C,m,⟨a,c,p⟩,F,G⟩:=st;obtain⟨U,W,Y⟩:=Sr.sq_is I A;obtain⟨Z,ry,iy⟩:=Sr.sq_is I e;obtain⟨u',gu',ru⟩:=W.get gu;obtain⟨v',gv',rv⟩:=ry.get gv;have L:=(hf z<|by simp).1;have f:=(hf TO<|by simp).1;have M:=(hf i<|by simp).1;have N:=(hf j<|by simp).1;refine xG D ⟨Sr.sq_ne A L,Sr.sq_ne A f,Sr.sq_ne A M,Sr.sq_ne A N⟩ ⟨Sr.sq_ne e L,Sr.sq_ne e f,Sr.sq_ne e M,Sr.sq_ne e N⟩ C m p F G Y iy (u:=u') (v:=v') (by simpa using gu') (by simpa using gv') λh1 z1 ti1 to1 i1 j1 t1 k1=>?_;refine⟨_,rfl,wpAny_letOwnedTupleGo_zip (s:={s with heap:=h1}) z1 λB z2 b2=>?_⟩;have up:∀b o,b≠z->h1.get? b=some o->B.get? b=some o:=λb o nb q=>(b2.2 b nb).trans q;have k2:∀b o,b ∉ [z,TI,TO,i,j]->s.heap.get? b=some o->B.get? b=some o:=λb o l q=>by simp only[A4,Bd,or_false,not_or]at l;exact up b o l.1<|k1 b o l.1 l.2.2.1 l.2.2.2.1 l.2.2.2.2 q
  have lt:∀b∈[z,TI,TO,i,j],b<s.heap.objs.size:=λb l=>by
   simp only[A4,Bd,or_false]at l;rcases l with rfl|rfl|rfl|rfl|rfl
   ·exact Ak C
   ·exact Ak m
   ·exact Ak p
   ·obtain⟨o,J,g,d⟩:=Sr.at_get F;exact Ak g
   obtain⟨o,J,g,d⟩:=Sr.at_get G;exact Ak g
  have t2:B.get? s.heap.objs.size=some {cls:=.type "tuple",data:=.seq #[u',v']}:=up _ _ (C0<|lt z<|by simp) t1;have r:IsZip B z TI TO .none/\IsPair B TI (.ref i) (.ref j)/\(∃a b,IsPair B TO a b)/\x.at_ B i (n+1)/\y.at_ B j (n+1):=
   ⟨z2,up _ _ D.TIz ti1,⟨_,_,up _ _ D.TOz to1⟩,Sr.at_keep i1 λo q=>up _ o D.iz q,Sr.at_keep j1 λo q=>up _ o D.jz q⟩
  refine⟨.ref s.heap.objs.size,upd H s.heap.objs.size<|.tup [u,v],?_,rfl,⟨_,u,v,I.hok.fresh<|Ag _,rfl,rfl,λzs h=>by rw[Sr.sq_inj h A];exact gu,λzs h=>by rw[Sr.sq_inj h e];exact gv⟩,r,λb l=>?_⟩
  ·refine Inv.turnNew (s:=s) (h':=B) (t':=s.toks) I hf k2 (Ag _) (λb l ob q=>?_) ⟨by show 2<=sizeLine;decide,[u',v'],.cons ru<|.cons rv .nil,⟨_,t2,rfl,rfl,_,rfl⟩⟩;simp only[A4,Bd,or_false]at l
   rcases l with rfl|rfl|rfl|rfl|rfl
   ·exact⟨_,z2⟩
   ·exact⟨_,r.2.1⟩
   ·obtain⟨_,_,q⟩:=r.2.2.1;exact⟨_,q⟩
   ·obtain⟨o,J,g,d⟩:=Sr.at_get r.2.2.2.1;exact⟨o,g⟩
   obtain⟨o,J,g,d⟩:=Sr.at_get r.2.2.2.2;exact⟨o,g⟩
  rw[HV (Aw<|lt b l)];exact(hf b l).1
 done:=by
  intro X Q hw S hc n qp s σ H E I hf st T;subst Q hw S;obtain⟨xs,ys,A,e,he⟩:=T;obtain⟨C,m,⟨a,c,p⟩,F,G⟩:=st;obtain⟨U,W,Y⟩:=Sr.sq_is I A;obtain⟨Z,ry,iy⟩:=Sr.sq_is I e;have L:=(hf z<|by simp).1;have f:=(hf TO<|by simp).1;have M:=(hf i<|by simp).1;have N:=(hf j<|by simp).1;have l1:=W.length;have l2:=ry.length;exact tW (I.ok.hd hc) D ⟨Sr.sq_ne A L,Sr.sq_ne A f,Sr.sq_ne A M,Sr.sq_ne A N⟩ ⟨Sr.sq_ne e L,Sr.sq_ne e f,Sr.sq_ne e M,Sr.sq_ne e N⟩ C m p F G Y iy (by
   rcases he with h|h
   ·exact .inl (by simp;omega)
   ·exact .inr (by simp;omega)) λh' k=>⟨rfl,Inv.turnAll (t':=s.toks) I hf λb o l q=>by simp only[A4,Bd,or_false,not_or]at l;exact k b o l.1 l.2.2.1 l.2.2.2.1 l.2.2.2.2 q⟩
 self:=λ_ _ _ _ _ st h=>wpAny_pyIter_zip st.1 h
def Mx(s:Hg):D->Option (List D×List (Nat×List D))
 |.ref n=>(HZ s n).map λds=>(ds,[(n,ds)])
 |.tup ds=>some (ds,[])
 |_=>none
def pairD(a b:List D):List D:=(a.zip b).map λp=>.tup [p.1,p.2]
def O4(x y:D)(s:Hg):Option (Wk×Hg):=(Mx s x).bind λ(a,f)=>(Mx s y).map λ(b,g)=>(⟨pairD a b,f++g⟩,s)
def My(ma mb:ME):MI:=λU st=>(ma U st).bind λ(x,s1)=>(mb U s1).bind λ(y,s2)=>O4 x y s2
def Wa{v:V}{ds:List D}{g:List (Nat×List D)}(S:HC K H io st)(R:Rep K H io v d)(h:Mx st d=some (ds,g)):∃x:Sr,v=.ref x.ad/\(∃xs,x.sq H xs) /\
  ∀H1 ka s1,Ext io ka H H1->HC K H1 (io++ka) s1->(∀p,p∈g->s1[p.1]?=some (.lst p.2)\/s1[p.1]?=some (.fz p.2))->∃xs,x.sq H1 xs/\Hj K H1 (io++ka) xs ds:=by
 cases d with
 |ref n=>
  obtain⟨l,e,q⟩:=Ie h;cases q;obtain⟨p,rfl,a⟩:=R;refine⟨.l p,rfl,?_,λH1 ka s1 X1 S1 i=>?_⟩
  ·unfold HZ at e
   split at e
   ·rename_i o he;cases e;obtain⟨xs,q,_⟩:=S.ob n p _ a he;exact⟨xs,.inl q⟩
   ·rename_i o he;cases e;obtain⟨ob,xs,q,_⟩:=S.ob n p _ a he;exact⟨xs,.inr ⟨ob,q⟩⟩
   ·cases e
  ·rcases i (n,ds) Ar with q|q
   ·obtain⟨xs,b,r⟩:=S1.ob n p _ (LR a) q;exact⟨xs,.inl b,r⟩
   obtain⟨ob,xs,b,r⟩:=S1.ob n p _ (LR a) q;exact⟨xs,.inr ⟨ob,b⟩,r⟩
 |tup ts=>
  cases h;obtain⟨p,xs,rfl,a,r⟩:=R;exact⟨.t p,rfl,⟨xs,a⟩,λH1 ka s1 X1 S1 _=>⟨xs,X1.sqT S p xs a,r.ext S X1⟩⟩
 |_=>cases h
def zmI{a b:List D}(h:(pairD a b)[i]?=some d):∃x y,a[i]?=some x/\b[i]?=some y/\d=.tup [x,y]:=by unfold pairD at h;rw[Ax]at h;obtain⟨⟨x,y⟩,e,q⟩:=Ie h;rw[List.getElem?_zip_eq_some]at e;exact⟨x,y,e.1,e.2,q.symm⟩
def boot_zip:UF "zip"=some (.type "zip"):=by decide +kernel
def pM{x1}{tp:Pos}{a b:Pv}(hg:Gl X "zip")(hm:X.mg "zip"=none)(ha:SE X a ma)(N:SE X b mb)(c:starEach [a,b] X.env=[(false,Wp a X.env),(false,Wp b X.env)]:=by rfl)(C:starEach [b] X.env=[(false,Wp b X.env)]:=by rfl) (T:(backTo pos<|starEach [b] X.env).any (·.1)=false:=by rfl):SI X (.Tuple elts x1 tp) (.Call (.Name "zip" p) [a,b] [] pos) (My ma mb):=by
 rintro qp s σ H R I ⟨U,st,io,W,st',E,S,e,k⟩;obtain⟨⟨x,s1⟩,e1,e⟩:=Hu e;obtain⟨⟨y,s2⟩,e2,e⟩:=Hu e;obtain⟨⟨as,f⟩,e3,e⟩:=Hu e;obtain⟨⟨bs,g⟩,e4,e⟩:=Ie e;cases e;have F:starEach [a,b] X.env=(false,Wp a X.env)::starEach [b] X.env:=by rw[c,C]
 refine Call_<|PY I hg hm boot_zip<|B2 (HD (Hh ha (Hh N Hq C) F pos qp s σ H (λY Q=>∃Z,Ext io Z H Q/\HC X.K Q (io++Z) st'/\Hj X.K Q (io++Z) Y [x,y]) I ⟨U,st,io,[x,y],st',E,S,Uo e1<|Uo e2 rfl,λY H1 k1 X1 G R1=>⟨k1,X1,G,R1⟩⟩) ?_) F T;rintro us t1 ⟨Y,H1,I1,r1,k1,X1,G,R1⟩;obtain⟨v,u,rfl,Rx,Ry⟩:=R1.two;obtain⟨v',u',rfl,rv,ru⟩:=r1.two;obtain⟨xx,rfl,⟨xs,hx⟩,kx⟩:=Wa G Rx e3;obtain⟨yy,rfl,⟨ys,hy⟩,ky⟩:=Wa G Ry e4;cases rv;cases ru;obtain⟨its,vx,ix⟩:=Sr.sq_is I1 hx;obtain⟨jts,vy,iy⟩:=Sr.sq_is I1 hy;refine zA ix iy λh' hz hTI hTO J hj kk=>wpAny_pyIter_zip hz ?_;refine⟨_,_,_,_,H1,rfl,I1.kept (t':=t1.toks) kk,xE xx yy<|Zp.new t1.heap.objs.size,⟨hz,hTI,⟨_,_,hTO⟩,J,hj⟩,λb N=>?_,?_⟩
 ·have hle:t1.heap.objs.size<=b:=by
   simp only[A4,Bd,or_false]at N;rcases N with rfl|rfl|rfl|rfl|rfl
   ·exact Cj _ 4
   ·exact Cj _ 2
   ·exact Cj _ 3
   ·exact Ag _
   exact Cj _ 1
  exact I1.fpOk hle<|I1.hok.fresh hle
 ·refine k _ H1 k1 X1 G ?_;have m:∀{s3:Hg},stays ⟨pairD as bs,f++g⟩ s3->(∀p,p∈f->s3[p.1]?=some (.lst p.2)\/s3[p.1]?=some (.fz p.2))/\∀p,p∈g->s3[p.1]?=some (.lst p.2)\/s3[p.1]?=some (.fz p.2):=λ{s3} h=>⟨λp hp=>h p (AK _ hp),λp hp=>h p (AH _ hp)⟩
  have len:∀{a b:List D},(pairD a b).length=min a.length b.length:=λ{a b}=>by unfold pairD;rw[Af,Gx]
  refine⟨λi d w z s3 hd A n c=>?_,λw z s3 A n c=>?_,λw z s3 i J A n c=>?_⟩
  ·obtain⟨j,P,L⟩:=kx w z s3 A n (m c).1;obtain⟨l,B,M⟩:=ky w z s3 A n (m c).2;obtain⟨dx,dy,g1,g2,rfl⟩:=zmI hd;obtain⟨u1,gu,ru⟩:=L.get g1;obtain⟨v1,gv,rv⟩:=M.get g2;refine⟨⟨j,l,u1,v1,P,B,gu,gv⟩,λr Q yl=>?_⟩;obtain⟨q,u2,v2,hq,rfl,rfl,yu,yv⟩:=yl;have e5:=yu j P;have e6:=yv l B;rw[gu]at e5;rw[gv]at e6;cases e5;cases e6;obtain⟨E',S'⟩:=Rj (o:=.tup [u1,v1]) n hq;rw[Ap]at S';refine⟨E',S',⟨q,_,rfl,Lc,?_⟩⟩;have r2:=ru.ext n E';have r3:=rv.ext n E';rw[Ap]at r2 r3;exact Hj.cons r2<|Hj.cons r3 Hj.nil
  ·obtain⟨j,P,L⟩:=kx w z s3 A n (m c).1;obtain⟨l,B,M⟩:=ky w z s3 A n (m c).2;refine⟨j,l,P,B,?_⟩;show j.length<=(pairD as bs).length\/l.length<=(pairD as bs).length;rw[len,L.length,M.length];omega
  obtain⟨j,P,L⟩:=kx w z s3 A n (m c).1;obtain⟨l,B,M⟩:=ky w z s3 A n (m c).2;refine⟨j,l,P,B,?_⟩;have J:(pairD as bs).length<=i:=J;rw[len]at J;rw[L.length,M.length];omega
def L9(X:Cx)(fs:List Str):List Nat->List Str->Prop
 |[],[]=>True
 |j::c,x::xs=>(X.N[j]?=some x/\x∈fs)/\L9 X fs c xs
 |_,_=>False
def L7(X:Cx):List Str->Prop
 |[]=>True
 |x::xs=>(X.env.kindOf x=some .cell\/X.env.kindOf x=some .free)/\L7 X xs
theorem L7.get{X:Cx}:∀{fs:List Str}{x:Str},L7 X fs->x∈fs->X.env.kindOf x=some .cell\/X.env.kindOf x=some .free
 |[],_,_,m=>nomatch m
 |y::ys,x,h,m=>by
  rcases Os.mp m with rfl|m
  ·exact h.1
  exact L7.get h.2 m
theorem L9.get{X:Cx}{fs:List Str}:∀{fr:List Nat}{xs:List Str}{i j:Nat}{x:Str},L9 X fs fr xs->fr[i]?=some j->xs[i]?=some x->X.N[j]?=some x/\x∈fs
 |[],[],i,j,x,_,h,_=>by simp at h
 |[],_::_,i,j,x,h,_,_=>h.elim
 |_::_,[],i,j,x,h,_,_=>h.elim
 |k::ks,y::ys,0,j,x,h,c,e=>by simp at c e;subst c e;exact h.1
 |k::ks,y::ys,i+1,j,x,h,c,e=>L9.get (i:=i) h.2 (by simpa using c)<|by simpa using e
def Ln{scope:Scope}{N':List Str}{nt:Nat}{fr:List Nat}(fs:List Str)(kind:scope.kind=.function)(e:(scope.names.map (·.1)).Nodup)(hf:scope.names.all (λp=>!(p.2==AI) || fs.contains p.1)=true)(f:fs.all (λx=>scope.names.contains (x,AI))=true) (len:N'.length=nt+fr.length) (c:L9 X fs fr (N'.drop nt)) (out:L7 X fs):JV X scope N' nt fr:=by
 refine⟨kind,e,len,λi j x g h=>?_,λx l=>?_⟩
 ·have d:(N'.drop nt)[i]?=some x:=by rw[List.getElem?_drop];exact h
  obtain⟨a,b⟩:=c.get g d;refine⟨a,?_⟩;have:=List.all_eq_true.mp f x b;simpa using this
 ·have:=List.all_eq_true.mp hf _ l;have hm:x∈fs:=by simpa using this
  exact out.get hm
def Mb:UF "len"=some (.builtin "len"):=by decide +kernel
def Zy:UF "min"=some (.builtin "min"):=by decide +kernel
def Pd:UF "sorted"=some (.builtin "sorted"):=by decide +kernel
def nZ:UF "all"=some (.builtin "all"):=by decide +kernel
def Zx:UF "int"=some (.type "int"):=by decide +kernel
def qY:UF "bool"=some (.type "bool"):=by decide +kernel
def Z9:UF "list"=some (.type "list"):=by decide +kernel
def Mi:UF "tuple"=some (.type "tuple"):=by decide +kernel
def T7:UF "dict"=some (.type "dict"):=by decide +kernel
def HX:G2:=JX LW Tf
def Me:Jr X (binaryOp .Mult) HX:=Rb sZ vW
theorem VW{K:Ab}{H:Hp}{io:List Addr}:∀(ns:List Int),Hj K H io (ns.map V.int) (ns.map D.int)
 |[]=>rfl
 |n::ns=>⟨_,_,rfl,rfl,VW ns⟩
def wY{ns:List Int}{g:GN}{E:XK}(c:MJ H)(f:JT K H a (ns.map V.int))(e:g [.kl (ns.map D.int)] []=some (.bl true,st)):Mw K 1 g [.ref a] H (λv _=>v=.bl true) E:=by
 have d:Nk K H a (ns.map V.int):=by
  rcases f with(h|h)|h
  ·rcases c a with z|⟨o,xs,z⟩
   ·rw[z]at h;cases h
   rw[z]at h;cases h
  ·exact .inl h
  exact .inr h
 refine⟨_,[],[],_,_,rfl,Hj.cons (show Rep K H [] (.ref a) (.kl<|ns.map D.int) from⟨a,_,rfl,d,VW ns⟩) Hj.nil,⟨rfl,GC,λn b o h=>by simp at h⟩,e,λv j l m p i=>i⟩
end L2.MP
namespace L2.MP
structure Y3(a b c:Prop):Prop where
 h1:a
 h2:b
 h3:c
structure Y4(a b c d:Prop):Prop where
 h1:a
 h2:b
 h3:c
 h4:d
structure Y5(a b c d e:Prop):Prop where
 h1:a
 h2:b
 h3:c
 h4:d
 h5:e
structure Y6(a b c d e f:Prop):Prop where
 h1:a
 h2:b
 h3:c
 h4:d
 h5:e
 h6:f
structure Y7(a b c d e f g:Prop):Prop where
 h1:a
 h2:b
 h3:c
 h4:d
 h5:e
 h6:f
 h7:g
structure Y8(a b c d e f g h:Prop):Prop where
 h1:a
 h2:b
 h3:c
 h4:d
 h5:e
 h6:f
 h7:g
 h8:h
open PySem
structure Gr(st st':Hg):Prop where
 len:st.length<=st'.length
 old:∀k,k<st.length->st'[k]?=st[k]?
structure Fr(n:Nat)(st st':Hg):Prop where
 len:st.length<=st'.length
 old:∀k,k<st.length->k≠n->st'[k]?=st[k]?
def Gr.refl(st:Hg):Gr st st:=⟨Ag _,λ_ _=>rfl⟩
def Fr.refl(n:Nat)(st:Hg):Fr n st st:=⟨Ag _,λ_ _ _=>rfl⟩
def Gr.fr{st a:Hg}(h:Gr st a)(n:Nat):Fr n st a:=⟨h.len,λk hk _=>h.old k hk⟩
variable {a b c:Hg}
def Gr.trans{a b c:Hg}(h:Gr a b)(h':Gr b c):Gr a c:=⟨AB h.len h'.len,λk hk=>(h'.old k<|AC hk h.len).trans (h.old k hk)⟩
variable {n:Nat}
def Fr.trans{n:Nat}{a b c:Hg}(h:Fr n a b)(h':Fr n b c):Fr n a c:=⟨AB h.len h'.len,λk hk d=>(h'.old k (AC hk h.len) d).trans (h.old k hk d)⟩
def Gr.app(st:Hg)(l:List O):Gr st (st++l):=⟨by simp,λk hk=>Am hk⟩
def Fr.app(n:Nat)(st:Hg)(l:List O):Fr n st (st++l):=(Gr.app st l).fr n
def Gy(n:Nat)(st:Hg)(o:O):Fr n st (st.set n o):=⟨by simp,λk _ hk=>by rw[Ah (λh=>hk h.symm)]⟩
variable {α:Type}
def qax{l:List α}{x:α}(h:l[n]?=some x):n<l.length:=(KF.mp h).1
def Iq(st:Hg)(o:O):(st++[o])[st.length]?=some o:=getElem?_len st o
variable {W:Wk}{g:MG}
theorem Ky{W:Wk}{g:MG}{m:MS}:∀{ds:List D}{Inv:Nat->Ii->Hg->Prop}{U:Ii}{st:Hg},Inv 0 U st->(∀k U s,k<=ds.length->Inv k U s->walked W s=true) ->
  (∀k d U s,ds[k]?=some d->Inv k U s->∃U1 s1 j s2,g d U s=some (U1,s1)/\m U1 s1=some (.nx j,s2)/\Inv (k+1) j s2)->∃f s',Kf W g m ds U st=some (.nx f,s')/\Inv ds.length f s'
 |[],Inv,U,st,h0,i,step=>⟨U,st,by unfold Kf;rw[if_pos (i 0 U st (Ag _) h0)],h0⟩
 |d::ds,Inv,U,st,h0,i,step=>by obtain⟨U1,s1,j,s2,l,o,p⟩:=step 0 d U st rfl h0;obtain⟨f,s',e,h⟩:=Ky (W:=W) (g:=g) (m:=m) (ds:=ds) (Inv:=λk=>Inv (k+1)) p (λk U s hk h=>i (k+1) U s (CL hk) h) λk d U s hd h=>step (k+1) d U s (by simpa using hd) h;refine⟨f,s',?_,h⟩;unfold Kf;rw[if_pos (i 0 U st (A9 _) h0),l];simp only[Ac,o];exact e
variable {m:ME}
theorem ON{W:Wk}{g:MG}{c:MT}{m:ME}:∀{ds:List D}{Inv:Nat->List D->Ii->Hg->Prop}{acc:List D}{U:Ii}{st:Hg},Inv 0 acc U st->(∀k a U s,k<=ds.length->Inv k a U s->walked W s=true) ->
  (∀k d a U s,ds[k]?=some d->Inv k a U s->∃U1 s1 b s2,g d U s=some (U1,s1)/\c U1 s1=some (b,s2)/\((b=true/\∃x s3,m U1 s2=some (x,s3)/\Inv (k+1) (a++[x]) U1 s3)\/(b=false/\Inv (k+1) a U1 s2))) ->
  ∃xs f s',Jc W g c m ds U st=some (xs,s')/\Inv ds.length (acc++xs) f s'
 |[],Inv,acc,U,st,h0,i,step=>⟨[],U,st,by unfold Jc;rw[if_pos (i 0 acc U st (Ag _) h0)],by rw[Ap];exact h0⟩
 |d::ds,Inv,acc,U,st,h0,i,step=>by
  obtain⟨U1,s1,b,s2,o,p,j⟩:=step 0 d acc U st rfl h0;have n:∀k a U s,k<=ds.length->Inv (k+1) a U s->walked W s=true:=λk a U s hk h=>i (k+1) a U s (CL hk) h;have l:∀k d a U s,ds[k]?=some d->Inv (k+1) a U s->∃U1 s1 b s2,g d U s=some (U1,s1)/\c U1 s1=some (b,s2)/\((b=true/\∃x s3,m U1 s2=some (x,s3)/\Inv (k+1+1) (a++[x]) U1 s3)\/(b=false/\Inv (k+1+1) a U1 s2)):=λk d a U s hd h=>step (k+1) d a U s (by simpa using hd) h
  rcases j with⟨rfl,x,s3,q,j⟩|⟨rfl,j⟩
  ·exists 17;refine⟨x::xs,f,s',?_,by simpa using h⟩;unfold Jc;rw[if_pos (i 0 acc U st (A9 _) h0),o];simp only[Ac,p,if_true,q,e,AL]
  exists 17;refine⟨xs,f,s',?_,h⟩;unfold Jc;rw[if_pos (i 0 acc U st (A9 _) h0),o];simp only[Ac,p,AM,if_false,e]
theorem P9{W:Wk}{g:MG}{c:MT}{m:ME}{α:Type}{f h:α->D}{R:Ii->Prop}:∀{as:List α}{U:Ii}{st:Hg},R U->walked W st=true->(∀a∈as,∀U,R U->∃U1,g (f a) U st=some (U1,st)/\c U1 st=some (true,st)/\m U1 st=some (h a,st)/\R U1) ->
  Jc W g c m (as.map f) U st=some (as.map h,st)
 |[],U,st,r,d,_=>by unfold Jc;rw[Bx];simp only[d,if_true,Bx]
 |a::as,U,st,r,d,i=>by obtain⟨U1,j,l,o,r1⟩:=i a Ar U r;have e:=P9 (W:=W) (g:=g) (c:=c) (m:=m) (f:=f) (h:=h) (R:=R) (as:=as) r1 d λb n=>i b<|Al _ n;rw[An];unfold Jc;rw[if_pos d,j];simp only[Ac,l,if_true,o,e,AL,An]
def OE{ds xs:List D}{s:Hg}(h:s[n]?=some (.lst xs)):walked ⟨ds,[(n,xs)]⟩ s=true:=by unfold walked;simp only[GK,List.all_nil,GL];exact zli h
def JK(h:n<=10000):fits n=true:=by unfold fits;exact decide_eq_true<|AB h<|by decide
@[simp] theorem Kt(x:α)(y:Option α):LK (some x) y=some x:=rfl
@[simp] theorem Ku(y:Option α):LK none y=y:=rfl
end L2.MP
namespace L2.MP.Hn
open PySem L2.MP
end L2.MP.Hn
namespace L2.MP
open PySem
variable {n:Nat}{ds:List D}{mi:MI}{k:Int}{s:Hg}{x:D}
section
variable {U U1:Ii}{st s1:Hg}{m n ma mb:ME}{mm:MA}{ms mq:MS}{mt mu:MT}{g:G2}{gn:GN}{d:D}{i j:Nat}{mg:MG}{mgs:N3}{ml mh:MO}
@[simp] theorem Tn:mV i U st=match U[i]? with
 |some (some d)=>some (d,st)
 |_=>none:=rfl
@[simp] theorem Vt:mK d U st=some (d,st):=rfl
@[simp] theorem P8:mB g ma mb U st=(ma U st).bind λp=>(mb U p.2).bind λq=>g p.1 q.1 q.2:=rfl
@[simp] theorem ZJ:mT m U st=(!8).bind λp=>match p.1 with
 |.bl b=>some (b,p.2)
 |_=>none:=rfl
@[simp] theorem VY:MU mt U st=(mt U st).map λp=>(!p.1,p.2):=rfl
@[simp] theorem rL:J9 mt mu U st=(mt U st).bind λp=>if p.1=true then mu U p.2 else some (false,p.2):=rfl
@[simp] theorem zwJ:Mz mt mu U st=(mt U st).bind λp=>if p.1=true then some (true,p.2)else mu U p.2:=rfl
@[simp] theorem zvy:OY m n U st=(mT m U st).bind λp=>if p.1=true then n U p.2 else some (.bl false,p.2):=rfl
@[simp] theorem zvw:Td m U st=(mT m U st).map λp=>(.bl !p.1,p.2):=rfl
@[simp] theorem Z4:Ho gn mm U st=(mm U st).bind λp=>gn p.1 p.2:=rfl
@[simp] theorem Z5:Hc m mm U st=(!8).bind λp=>(mm U p.2).bind λq=>some (p.1::q.1,q.2):=rfl
@[simp] theorem ZI:mZ U st=some ([],st):=rfl
@[simp] theorem zwF:mU mm U st=(mm U st).bind λp=>if fits p.1.length=true then some (.tup p.1,p.2)else none:=rfl
@[simp] theorem zwL:mL mm U st=(mm U st).bind λp=>if fits p.1.length=true then some (.ref p.2.length,p.2++[.lst p.1])else none:=rfl
@[simp] theorem zwH:mR m U st=(!8).map λp=>(.rt p.1,p.2):=rfl
@[simp] theorem Nr:IJ m U st=(!8).map λp=>(.nx U,p.2):=rfl
@[simp] theorem Oj:Hr m mg U st=(!8).bind λp=>(mg p.1 U p.2).map λq=>(.nx q.1,q.2):=rfl
@[simp] theorem zw9:Hl i d U st=some (U.set i (some d),st):=rfl
@[simp] theorem rM:Jd U st=some (.nx U,st):=rfl
@[simp] theorem zwK:NQ m U st=(!8).bind λp=>Sm p.1 p.2:=rfl
@[simp] theorem Lf:IX mt ms mq U st=(mt U st).bind λp=>if p.1=true then ms U p.2 else mq U p.2:=rfl
@[simp] theorem Mo:Ji ma mb m U st=LK (Hr m (Lv Ik ma mb) U st) (LC ma mb m U st):=rfl
@[simp] theorem zw6{g3:G3}:Lv g3 ma mb d U st=(ma U st).bind λp=>(mb U p.2).bind λq=>(g3 p.1 q.1 d q.2).map λs=>(U,s):=rfl
@[simp] theorem zw5:JY i mgs d U st=match d with
 |.tup ds=>if ds.length=i then mgs ds U st else none
 |_=>none:=rfl
@[simp] theorem zwN:JZ [] U st=some (U,st):=rfl
@[simp] theorem zxa:gC mg mgs (d::ds) U st=(mg d U st).bind λp=>mgs ds p.1 p.2:=rfl
@[simp] theorem Y9:IW m U st=(!8).bind λp=>match p.1 with
 |.int j=>if small j=true then some (⟨run 0 j.toNat,[]⟩,p.2)else none
 |_=>none:=rfl
@[simp] theorem zvu:IU U st=some (true,st):=rfl
theorem JH{k:Nat}{fr:List Nat}:I0 mi k fr mg mt m U st=(mi U st).bind λp=>(Jc p.1 mg mt m p.1.ds (IL U k fr) p.2).bind λq=>if fits q.1.length=true then some (.ref q.2.length,q.2++[.lst q.1])else none:=rfl
@[simp] theorem Kg:mF mi mg ms U st=(mi U st).bind λp=>Kf p.1 mg ms p.1.ds U p.2:=rfl
@[simp] theorem zw8:K1 U st=some (none,st):=rfl
@[simp] theorem zw7:K2 m U st=(!8).bind λp=>match p.1 with
 |.int i=>some (some i,p.2)
 |_=>none:=rfl
@[simp] theorem zwM{T:String}:LY T m U st=(!8).bind λp=>(tyName p.2 p.1).map λt=>(.bl (Kn t T),p.2):=rfl
@[simp] theorem zwO:J4 m mm U st=(!8).bind λp=>match p.1 with
 |.ref n=>(HZ p.2 n).bind λ_=>(mm U p.2).bind λq=>Lb p.1 q.1 q.2
 |_=>none:=rfl
@[simp] theorem zwI:NP i j mm U st=(mm U st).bind λp=>match p.1 with
 |[x,y]=>some (.nx ((U.set i<|some x).set j<|some y),p.2)
 |_=>none:=rfl
@[simp] theorem nY:My ma mb U st=(ma U st).bind λp=>(mb U p.2).bind λq=>O4 p.1 q.1 q.2:=rfl
@[simp] theorem zu7:OZ true U st=some (.ref st.length,st++[.dt []]):=rfl
@[simp] theorem zu8:OZ false U st=some (.ref st.length,st++[.dk []]):=rfl
def Hz{r:Option (Fl×Hg)}(h:ms U st=some (.nx U1,s1))(k:mq U1 s1=r):mS ms mq U st=r:=by unfold mS;rw[h];exact k
def Ot(h:ms U st=some (.rt d,s)):mS ms mq U st=some (.rt d,s):=by unfold mS;rw[h];rfl
def IH{N:Nat}(h:ms (LJ N ds) st=some (.rt d,s)):Iv N ms ds st=some (d,s):=by unfold Iv;rw[h];rfl
def NB{k:Nat}(h:k<=10000:=by decide):fits k=true:=JK h
@[simp] theorem zwX:fits 0=true:=NB
@[simp] theorem zwW:fits 1=true:=NB
@[simp] theorem zwV:fits 2=true:=NB
@[simp] theorem zwU:fits 3=true:=NB
@[simp] theorem zwT:fits 4=true:=NB
@[simp] theorem zwS:fits 5=true:=NB
@[simp] theorem zwR:fits 6=true:=NB
@[simp] theorem zwQ:fits 7=true:=NB
@[simp] theorem zwP:fits 8=true:=NB
def Oy(h0:0<=k)(a:k<=1000000):small k=true:=by unfold small;simp;omega
def KU{n:Nat}(h:st[n]?=some (.lst ds))(h0:0<=k)(a:ds[k.toNat]?=some x):Hf (.ref n) (.int k) st=some (x,st):=by
 have g:=qax a;have d:k<ds.length:=by omega
 simp[Hf,JX,Ko,HZ,h,Le,Ml,h0,d,Kt];exact(KF.mp a).2
def Im(h0:0<=k)(a:ds[k.toNat]?=some x):Hf (.tup ds) (.int k) st=some (x,st):=by
 have g:=qax a;have d:k<ds.length:=by omega
 simp[Hf,JX,Ko,Le,Ml,h0,d,Kt];exact(KF.mp a).2
def jM(h0:0<=k)(a:ds[k.toNat]?=some x):Hf (.kl ds) (.int k) st=some (x,st):=by
 have g:=qax a;have d:k<ds.length:=by omega
 simp[Hf,JX,Ko,Le,Ml,h0,d,Kt];exact(KF.mp a).2
def Q2{z:Str}{c:Nat}(hz:z.length<=10000)(h0:0<=k)(a:z.cps[k.toNat]?=some c):Hf (.str z) (.int k) st=some (.str ⟨#[c]⟩,st):=by
 have g:k.toNat<z.cps.size:=(Array.getElem?_eq_some_iff.mp a).1;have d:k<z.cps.size:=by omega
 have hf:fits z.length=true:=JK hz;simp[Hf,JX,Ko,Le,Ml,h0,d,Kt,hf];exact(Array.getElem?_eq_some_iff.mp a).2
def TY{n:Nat}(h:st[n]?=some (.lst ds)):HM [.ref n] st=some (.int ds.length,st):=by simp[HM,HZ,h]
theorem Qa:HM [.tup ds] st=some (.int ds.length,st):=rfl
theorem VG:HM [.kl ds] st=some (.int ds.length,st):=rfl
def Mh{n:Nat}(h:st[n]?=some (.lst ds)):Ll [.ref n] st=some (.tup ds,st):=by simp[Ll,HZ,h]
@[simp] theorem add_int(a b:Int):HF (.int a) (.int b) st=some (.int (a+b),st):=rfl
@[simp] theorem sub_int(a b:Int):K6 (.int a) (.int b) st=some (.int (a-b),st):=rfl
def mul_int{a b:Int}(h:-1000000<=a/\a<=1000000):HX (.int a) (.int b) st=some (.int (a*b),st):=by
 have:Kc a=true:=by unfold Kc;simp;omega
 simp[HX,JX,LW,intD,this,Kt]
def TQ{a b:List D}(c:a≠[])(h:a.length+b.length<=10000):HF (.tup a) (.tup b) st=some (.tup (a++b),st):=by
 have:fits (a.length+b.length)=true:=JK h;cases a with
 |nil=>exact absurd rfl c
 |cons x a=>simp[HF,this]at *
def oQ{a b:Nat}{x y:List D}(c:st[a]?=some (.lst x))(e:st[b]?=some (.lst y))(h:x.length+y.length<=10000):HF (.ref a) (.ref b) st=some (.ref st.length,st++[.lst (x++y)]):=by have:fits (x.length+y.length)=true:=JK h;simp[HF,c,e,this]
def append_at{n:Nat}(h:st[n]?=some (.lst ds))(a:ds.length<=10000):Lb (.ref n) [x] st=some (.non,st.set n (.lst<|ds++[x])):=by have:ds.length<sizeLine:=BM a (!1);simp[Lb,h,this]
end
end L2.MP
set_option linter.unusedSimpArgs false
namespace L2.MP.Hn
open PySem L2.MP
end L2.MP.Hn
namespace L2.MP
open PySem PySem.Builtin PySem.Builtin.Str
theorem len_list(a:Str):a.length=a.cps.toList.length:=rfl
end L2.MP
namespace L2.MP
open PySem
def TV{n:Nat}{st:Hg}{x:Str}(h:Bm x=true):IC (n+1) st (.str x)=some (.str x):=by rw[IC];simp[h]
def eq_int(a b:Int)(st:Hg):KC (.int a) (.int b) st=some (.bl (a==b),st):=by unfold KC;rw[IC,IC];simp[Bv]
end L2.MP
namespace L2.MP.Hn
open PySem L2.MP
noncomputable abbrev JL:Str:="abcdefghijklmnopqrstuvwxyz"
def UE:∀k:Nat,k<26->JL.cps[k]?=some (97+k):=by decide +kernel
end L2.MP.Hn
namespace L2.MP
open PySem
def Ki(p:Str×Int):D:=.tup [.str p.1,.int p.2]
def IE(k:List Str):D:=.tup<|k.map D.str
end L2.MP
namespace L2.MP.Hn
open PySem L2.MP
def zgc{st:Hg}{l:Nat}{ss:List Str}(a:st[l]?=some (.lst<|ss.map D.str))(h:ss.length<64):Mf [.ref l] st=some (.ref st.length,st++[.lst ((Ov ss).map D.str)]):=by simp[Mf,K7,Pa,HZ,a,fH,h,Kt]
end L2.MP.Hn
namespace L2.MP
open PySem
theorem fA:∀t:List Int,intsOf (t.map D.int)=some t
 |[]=>rfl
 |x::t=>by rw[An,intsOf,fA t];rfl
theorem RJ:∀{rows:List (List Int)},(∀r∈rows,r≠[])->rowsOf (rows.map HG)=some rows
 |[],_=>rfl
 |r::rows,h=>by
  have c:rowOf (HG r)=some r:=by
   unfold rowOf HG;simp only[fA,Ac];have:r.isEmpty=false:=by
    cases r with
    |nil=>exact absurd rfl<|h [] Ar
    |cons a b=>rfl
   simp[this]
  rw[An,rowsOf,c,Ac,RJ λq d=>h q (Al _ d)];rfl
variable {st:Hg}
def zkb{l:Nat}{rows:List (List Int)}(b:st[l]?=some (.lst<|rows.map HG))(h:∀r∈rows,r≠[])(a:rows.length<64):Mf [.ref l] st=some (.ref st.length,st++[.lst ((KS rows).map HG)]):=by
 match rows,b,h,a with
 |[],b,h,a=>simp[Mf,K7,Pa,HZ,b,strsOf,Ov,KS,Kt]
 |[r],b,h,a=>
  have e:strsOf [HG r]=none:=rfl;simp[Mf,K7,Pa,Rv,HZ,b,e,KS,Kt,Ku]
 |r::q::rows,b,h,a=>
  have e:strsOf (HG r::HG q::rows.map HG)=none:=rfl;have c:=RJ h;simp only[An]at c;simp at a;have d:rows.length+1+1<64:=by omega
  simp[Mf,K7,Pa,Rv,Ug,HZ,b,e,c,Kt,Ku,d]
def UB(rows:List (List Int)):(KS rows).Perm rows:=CO _ _
def dI(rows:List (List Int)):(KS rows).Pairwise λa b=>J1 a b=true:=C7 (λa b c=>Uw a b c) dQ rows
def yD{a b:List (List Int)}(h:a.Perm b)(c:b.Pairwise λx y=>J1 x y=true):KS a=b:=UC ((UB a).trans h) (dI a) c λx _ y _=>dD
noncomputable abbrev Tl:=Int×Int×Int
def Hi(t:Tl):List Key×D:=([CM t.1,CM t.2.1],.int t.2.2)
def Ia(t:Tl):List Int:=[t.1,t.2.1,t.2.2]
def JF(a b:Tl):Bool:=decide (a.1=b.1)&&decide (a.2.1=b.2.1)
def IM(l:List Tl)(t:Tl):List Tl:=if l.any (λu=>JF u t)=true then l.map (λu=>if JF u t=true then t else u)else l++[t]
def Q3(u t:Tl):decide ((Hi u).1=(Hi t).1)=JF u t:=by unfold Hi JF;by_cases h1:u.1=t.1<;>by_cases h2:u.2.1=t.2.1<;>simp[h1,h2]
def aJ(l:List Tl)(t:Tl):putD (l.map Hi) (Hi t).1 (Hi t).2=(IM l t).map Hi:=by
 unfold putD IM;have e:((l.map Hi).any λb=>decide (b.1=(Hi t).1))=l.any λu=>JF u t:=by
  rw[List.any_map]
  congr 1
  funext u
  exact Q3 u t
 rw[e];split
 ·rw[AJ,AJ];apply CQ;intro u _;show(if(Hi u).1=(Hi t).1 then _ else _)=Hi (if JF u t=true then t else u)
  by_cases h:JF u t=true
  ·have a:(Hi u).1=(Hi t).1:=of_decide_eq_true<|(Q3 u t).trans h;rw[if_pos a,if_pos h,a]
  have a:¬(Hi u).1=(Hi t).1:=λz=>h<|(Q3 u t).symm.trans<|decide_eq_true z;rw[if_neg a,if_neg h]
 rw[AZ];rfl
def Hy(l:List Tl):Prop:=l.Pairwise λa b=>JF a b=false
def fZ(a b:Tl):JF a b=JF b a:=by unfold JF;by_cases h1:a.1=b.1<;>by_cases h2:a.2.1=b.2.1<;>simp[h1,h2,eq_comm]
variable {l:List Tl}{t:Tl}
def aK(h:Hy l):Hy (IM l t):=by
 unfold IM;split
 ·unfold Hy at *;rw[List.pairwise_map];refine h.imp λ{a b} f=>?_;have i:∀{a b c:Tl},JF a b=true->JF a c=JF b c:=λ{a b c} q=>by
   unfold JF at *;simp at q;rw[q.1,q.2]
  by_cases g:JF a t=true
  ·by_cases d:JF b t=true
   ·have j:JF a b=JF t b:=i g;rw[fZ]at d;rw[j,d]at f;cases f
   rw[if_pos g,if_neg d,fZ];simpa using d
  ·by_cases d:JF b t=true
   ·rw[if_neg g,if_pos d];simpa using g
   rw[if_neg g,if_neg d];exact f
 ·rename_i m;unfold Hy at *;rw[List.pairwise_append];refine⟨h,List.pairwise_singleton _ _,λa g b d=>?_⟩;rw[KM.mp d]
  cases e:JF a t with
  |false=>rfl
  |true=>exact absurd (List.any_eq_true.mpr ⟨a,g,e⟩) m
def bT{P:Tl->Prop}{l:List Tl}{t:Tl}(h:∀u∈l,P u)(a:P t):∀u∈IM l t,P u:=by
 unfold IM;split
 ·intro u hu;obtain⟨v,b,rfl⟩:=Re.mp hu
  split
  ·exact a
  exact h v b
 ·intro u hu
  rcases On.mp hu with hu|hu
  ·exact h u hu
  rw[KM.mp hu];exact a
def Wq(l:List Tl)(t:Tl):(IM l t).length<=l.length+1:=by
 unfold IM;split
 ·rw[Af];omega
 simp
def M8{t:Nat}{x y k:Int}(h:st[t]?=some (.dt<|l.map Hi))(a:l.length<=1000):dput st t (.tup [.int x,.int y]) (.int k)=some (st.set t<|.dt<|(IM l (x,y,k)).map Hi):=by have b:(l.map Hi).length<sizeLine:=BM (by rw[Af];exact a) (!1);have e:=aJ l (x,y,k);have c:keysOf [.int x,.int y]=some (Hi (x,y,k)).1:=rfl;have d:D.int k=(Hi (x,y,k)).2:=rfl;unfold dput;simp only[h,c,Ac];rw[d,e,if_pos (decide_eq_true b)]
end L2.MP
namespace L2.MP.Hn
open PySem L2.MP
def Hw(ts:List Tl):D:=.tup<|ts.map λt=>HG (Ia t)
def SU(r:List Int):Tl:=(r.getD 0 0,r.getD 1 0,r.getD 2 0)
def Hk(l:List Tl):List Tl:=(KS<|l.map Ia).map SU
def Jo(l:List Tl):(Hk l).Perm l:=by
 have:=(UB<|l.map Ia).map SU;rw[AJ]at this;have e:SU ∘ Ia=id:=by funext t;rfl
 rw[e,F8]at this;exact this
def Pf(l:List Tl):(Hk l).map Ia=KS (l.map Ia):=by
 unfold Hk;rw[AJ]
 conv=>rhs;rw[<-F8 (KS<|l.map Ia)]
 apply CQ;intro r a;obtain⟨t,_,rfl⟩:=Re.mp<|(UB _).mem_iff.mp a;rfl
def uP{a b:List Tl}(h:a.Perm b)(c:(b.map Ia).Pairwise λx y=>J1 x y=true):Hk a=b:=by
 unfold Hk;rw[yD (h.map Ia) c,AJ];have e:SU ∘ Ia=id:=by funext t;rfl
 rw[e,F8]
def Mu{st:Hg}{l:Nat}{ts:List Tl}(c:st[l]?=some (.lst<|ts.map λt=>HG (Ia t)))(a:ts.length<64):Mf [.ref l] st=some (.ref st.length,st++[.lst ((Hk ts).map λt=>HG (Ia t))]):=by
 have b:st[l]?=some (.lst<|(ts.map Ia).map HG):=by rw[AJ];exact c
 have e:=zkb b (λr d=>by obtain⟨t,_,rfl⟩:=Re.mp d;simp[Ia]) (by rw[Af];exact a);rw[<-Pf,AJ]at e;exact e
end L2.MP.Hn
namespace L2.MP
open PySem PySem.Spec PyProof.Rows
section
variable {X:Cx}{K:Ab}{H:Hp}{io:List Addr}{st st':Hg}{a b c e:Pv}{es:List Pv}{ma mb mc m:ME}{mm:MA}{pos:Pos}
def Ow:D->List D->Hg->Option (D×Hg):=λx xs st=>match x,xs with
 |.ref n,[.ref k]=>match st[n]?,st[k]? with
  |some (.lst ds),some (.lst zs)=>if fits (ds.length+zs.length)=true then some (.non,st.set n (.lst<|ds++zs))else none
  |_,_=>none
 |_,_=>none
def extend_in{x:D}{xs:List D}{d:D}(h:Ow x xs st=some (d,st')):∃n k ds zs,x=.ref n/\xs=[.ref k]/\st[n]?=some (.lst ds)/\st[k]?=some (.lst zs)/\ds.length+zs.length<=sizeLine/\d=.non/\st'=st.set n (.lst<|ds++zs):=by
 unfold Ow at h;split at h
 ·rename_i n k
  split at h
  ·rename_i ds zs a b;obtain⟨hf,h⟩:=IA h;cases h;exact⟨n,k,ds,zs,rfl,rfl,a,b,of_decide_eq_true hf,rfl,rfl⟩
  ·cases h
 ·cases h
def zkT:SF X "list.extend" (Yx X.K Ow):=by
 rintro g s σ H x xs v us Q I h rs ⟨L,ds,st,io,d,st',i,Rs,S,e,k⟩;obtain⟨n,j,l,zs,rfl,rfl,a,y,A,rfl,rfl⟩:=extend_in e;obtain⟨p,rfl,b⟩:=i;obtain⟨w,rfl,B⟩:=Rs.one;obtain⟨q,rfl,C⟩:=B;obtain⟨c,m,r⟩:=S.ob n p _ b a;obtain⟨ws,E,f⟩:=S.ob j q _ C y;refine zmT g s σ H _ _ v us Q I h rs ⟨p,q,c,ws,rfl,rfl,m,E,by rw[r.length,f.length];exact A,?_⟩;obtain⟨F,G⟩:=M6 (o:=.lst (c++ws)) (ob:=.lst (l++zs)) S b a (λo u z=>by rw[m]at z;cases z) λM T J=>⟨_,J,(Hj.mono T r).append<|Hj.mono T f⟩
 exact k _ _ [] F G rfl
def Pw(m:ME)(mm:MA):ME:=λU st=>(!8).bind λ(x,s1)=>match x with
 |.ref n=>(HZ s1 n).bind λ_=>(mm U s1).bind λ(xs,s2)=>Ow x xs s2
 |_=>none
def zR{o:Pv}{apos f:Pos}(q:SE X o m)(r:SA X (e::es) mm)(h:attributeBase o "extend" X.env (Wp o X.env)=Wp o X.env:=by rfl)(j:((backTo f<|starEach (e::es) X.env).all (λx=>!x.1)&&(backToKw f<|keywordEach [] X.env).all (λx=>x.1.isSome)
   &&decide ((e::es).length+([]:List Keyword).length+(if([]:List Keyword).isEmpty then 0 else 1)<30))=true:=by rfl)
  (i:(apos.endLine==f.line)=true:=by rfl) (s:Qqb X.env e es:=by rfl) (g:Qqc f es X.env:=by rfl):
  SE X (.Call (.Attribute o "extend" apos) (e::es) [] f) (Pw m mm):=
 PE.imp (Zj C6 PySem.F.slot_list_extend PySem.F.type_list_extend zkT q r h j i s g) <| by
  exists 1;obtain⟨⟨x,s1⟩,u,e⟩:=Hu e;cases x with
  |ref n=>
   obtain⟨l,v,e⟩:=Hu e;obtain⟨⟨xs,s2⟩,w,e⟩:=Hu e;refine⟨U,st,io,_,s1,E,S,u,λv1 H1 b c a R1=>⟨Wx R1 a v,U,s1,io++b,xs,s2,E.ext S c,a,w,λz A y K p R2=>?_⟩⟩;exact⟨_,xs,s2,(io++b)++y,d,st',R1.ext a K,R2,p,e,(k.on a c).on p K⟩
  |_=>cases e
theorem nX{U:Ii}:Pw m mm U st=(!8).bind λp=>match p.1 with
 |.ref n=>(HZ p.2 n).bind λ_=>(mm U p.2).bind λq=>Ow p.1 q.1 q.2
 |_=>none:=rfl
end
end L2.MP
namespace L2.MP
open PySem
theorem Us{W:Wk}{g:MG}{c:MT}{m:ME}{α:Type}{f h:α->D}{p:α->Bool}{R:Ii->Prop}:∀{as:List α}{U:Ii}{st:Hg},R U->walked W st=true->(∀a∈as,∀U,R U->∃U1,g (f a) U st=some (U1,st)/\c U1 st=some (p a,st)/\(p a=true->m U1 st=some (h a,st))/\R U1) ->
  Jc W g c m (as.map f) U st=some ((as.filter p).map h,st)
 |[],U,st,r,i,_=>by unfold Jc;rw[Bx];simp only[i,if_true,Er,Bx]
 |a::as,U,st,r,i,l=>by
  obtain⟨U1,n,j,o,r1⟩:=l a Ar U r;have e:=Us (W:=W) (g:=g) (c:=c) (m:=m) (f:=f) (h:=h) (p:=p) (R:=R) (as:=as) r1 i λb q=>l b<|Al _ q;rw[An];unfold Jc;rw[if_pos i,n]
  cases d:p a with
  |true=>
   rw[d]at j;simp only[Ac,j,if_true,o d,e,AL,BI,d,An]
  |false=>
   rw[d]at j;simp only[Ac,j,AM,if_false,e,BI,d]
end L2.MP
namespace L2.MP.Hn
open PySem L2.MP
def Pn{a b:List Tl}(h:a.Perm b):Hk a=Hk b:=by refine uP (h.trans (Jo b).symm) ?_;rw[Pf];exact dI _
def fJ{st:Hg}{n k:Nat}{ds zs:List D}(h:st[n]?=some (.lst ds))(h':st[k]?=some (.lst zs))(a:ds.length+zs.length<=10000):Ow (.ref n) [.ref k] st=some (.non,st.set n (.lst<|ds++zs)):=by have:fits (ds.length+zs.length)=true:=JK a;simp[Ow,h,h',this]
end L2.MP.Hn
namespace L2.MP
open PySem PySem.Spec PyProof.Rows
def zlA(x:Sr)(o:Obj)(xs:Array IR):Meets (Builtin.«enumerate.__new__» ⟨[.type "enumerate",.ref x.ad],[]⟩) (λ_ R s=>s.heap.get? x.ad=some o/\x.is s.heap xs /\
   R (.ok<|.ret<|.ref (s.heap.push x.ob).objs.size) {s with heap:=(s.heap.push x.ob).push {cls:=.type "enumerate",data:=.fields #[.none,.bool false,.ref s.heap.objs.size,rawInt 0,.none,.none]} }):=
 .of_wp λprog w A R s h=>by
  obtain⟨f,g,d,tk,os⟩:=s;obtain⟨a,i,h⟩:=h;have e:=sub_enumerate;have b:x.is (Shared.heap ⟨f,g,d,tk,os⟩) xs:=i
  wp_walk using Ck a
  refine wpAny_stack_any λj=>Ae ?_;split
  ·rename_i c _ _ _ _ _
   cases (c==Gh "enumerate")
   ·wp_walk using Ck a,Sr.iter b
    exact⟨_,rfl,h⟩
   ·wp_walk using Ck a,Sr.iter b
    exact⟨_,rfl,h⟩
  ·wp_walk using Ck a,Sr.iter b
   exact⟨_,rfl,h⟩
variable {prog:SZ}{w:World}{A:Around}{E:Qqa}{s:Shared}{h:P3}{xs:Array IR}{x:Sr}
def Sr.is_get(q:x.is h xs):∃o,h.get? x.ad=some o:=by
 cases x with
 |l a=>obtain⟨o,g,_⟩:=q;exact⟨o,g⟩
 |t a=>obtain⟨o,g,_⟩:=q;exact⟨o,g⟩
def zlN{R:Qqa}(a:x.is s.heap xs)(k:∀h',IsEnum h' (s.heap.objs.size+1) s.heap.objs.size 0 .none->x.at_ h' s.heap.objs.size 0->(∀c u,s.heap.get? c=some u->h'.get? c=some u)->R (.ref<|s.heap.objs.size+1) {s with heap:=h'}):
  wpAny (!5) A (call (.type "enumerate") [.ref x.ad]) R E s:=by
 obtain⟨o,g⟩:=Sr.is_get a;refine callType_new F.called_enumerate (!1) (F.typeCall_enumerate_1 _) (F.newCall_enumerate_1 _) (λobj=>F.args_object_init_2 obj _) F.entry_enumerate_new (zlA x o xs) ⟨g,a,?_⟩;have h:(s.heap.push x.ob).objs.size=s.heap.objs.size+1:=Bb ..;have f2:((s.heap.push x.ob).push {cls:=.type "enumerate",data:=.fields #[.none,.bool false,.ref s.heap.objs.size,rawInt 0,.none,.none]}).get? (s.heap.push x.ob).objs.size=some {cls:=.type "enumerate",data:=.fields #[.none,.bool false,.ref s.heap.objs.size,rawInt 0,.none,.none]}:=Ao _ rfl;have f1:((s.heap.push x.ob).push {cls:=.type "enumerate",data:=.fields #[.none,.bool false,.ref s.heap.objs.size,rawInt 0,.none,.none]}).get? s.heap.objs.size=some x.ob:=Ad _<|Ao _ (by cases x<;>rfl);show _/\_;rw[h]at f2 ⊢;exact⟨⟨_,f2,rfl⟩,k _ f2 (Sr.at_new f1) λc u q=>Ad _ (Ad _ q)⟩
def Sr.draws(f:A.handled=none)(it:Addr)(x:Sr)(c:x.ad≠it)(items:Array IR):Draws prog w A it [it,x.ad] items.size (λi v=>items[i]?=some v) (λi h=>x.at_ h it i/\x.is h items) where
 live:=λ_ _ q=>let ⟨o,_,g,_⟩:=Sr.at_get q.1;⟨o,g⟩
 frame:=λ_ _ _ q k=>⟨Sr.at_keep q.1 λo e=>k it (!2) o e,Sr.is_keep q.2 λo e=>k x.ad (!2) o e⟩
 item:=λi s Q E d q k=>by refine Sr.next q.1 q.2 (v:=items[i]) (by simp[d]) λj a b=>?_;exact k _ j s.toks (by simp[d]) ⟨a,Sr.is_keep q.2 λo e=>b.extBut _ _ c e⟩ b
 done:=λs Q E q k=>Sr.stop f q.1 q.2 (!2) k
def Sr.drawsEnd(a:A.handled=none)(it:Addr)(x:Sr)(items:Array IR)(n:Nat)(hn:items[n]?=none):Draws prog w A it [it,x.ad] n (λ_ _=>True) (λj h=>j=n/\x.at_ h it n/\x.is h items) where
 live:=λ_ _ q=>let ⟨o,_,g,_⟩:=Sr.at_get q.2.1;⟨o,g⟩
 frame:=λ_ _ _ q k=>⟨q.1,Sr.at_keep q.2.1 λo e=>k it (!2) o e,Sr.is_keep q.2.2 λo e=>k x.ad (!2) o e⟩
 item:=λi s Q E b q k=>absurd q.1 (Aw b)
 done:=λs Q E q k=>Sr.stop a q.2.1 q.2.2 hn k
def Itn(x:Sr):It:=⟨λi H=>∃xs v,x.sq H xs/\xs[i]?=some v,λi H r h=>∃p v,H p=none/\h=upd H p (.tup [.int (i:Nat),v])/\r=.ref p/\∀xs,x.sq H xs->xs[i]?=some v,λi H=>∃xs,x.sq H xs/\xs.length<=i⟩
variable {P:SZ}{K:Ab}{elts:List Pv}{pos:Pos}
def zjZ{x1}(x:Sr)(it e:Addr)(f:e≠it):
  Turn P w K (.Tuple elts x1 pos) (Itn x) [e,it] e (λi h=>(∃old,IsEnum h e it (i:Nat) old)/\x.at_ h it i) where
 mem:=by simp
 obj:=λi h st b hb=>by
  obtain⟨⟨old,he⟩,c⟩:=st;rcases Os.mp hb with rfl|hb
  ·exact⟨_,he,λv z=>by cases z⟩
  rw[KM.mp hb];obtain⟨o,S,g,d⟩:=Sr.at_get c;exact⟨o,g,λv z=>by rw[d]at z;cases z⟩
 keep:=λi h T st k=>by obtain⟨⟨old,he⟩,c⟩:=st;exact⟨⟨old,k e (!2) _ he⟩,Sr.at_keep c λo q=>k it (!2) o q⟩
 item:= by
  intro X u hw B C i Z s σ H E I hf st F;subst u hw B;obtain⟨xs,v,l,U⟩:=F;obtain⟨⟨old,he⟩,c⟩:=st;obtain⟨a,G,J⟩:=Sr.sq_is I l;obtain⟨v',W,rv⟩:=G.get U;have fit:=(hf it<|by simp).1;have fe:=(hf e<|by simp).1;have L:i<a.toArray.size:=by have:=(KF.mp W).1;simpa using this
  refine wpAny_pyNext_enum_itemD (Sr.draws (A:=X.A.in1) (I.ok.hd C) it x (Sr.sq_ne l fit) a.toArray) he ⟨c,J⟩ L f (by
   simp only[A4,Bd,or_false,not_or];exact⟨f,λz=>Sr.sq_ne l fe z.symm⟩) λy h1 tk M N Q t1 z1 k1=>?_
  have ey:y=v':=by
   have:a[i]?=some y:=by simpa using M
   rw[W]at this;exact(AA this).symm
  subst ey;refine⟨_,rfl,wpAny_letOwnedTupleGo_enum (s:={s with heap:=h1,toks:=tk+1}) N λr m j=>?_⟩;have k2:∀b o,b ∉ [e,it]->s.heap.get? b=some o->r.get? b=some o:=λb o hb q=>by have Y:b≠e:=λz=>hb (by simp[z]);have n2:b≠it:=λz=>hb (by simp[z]);exact(j.2 b Y).trans<|k1 b o Y n2 q
  have n:e≠s.heap.objs.size:=Aw<|Ak he;have t2:r.get? s.heap.objs.size=some {cls:=.type "tuple",data:=.seq #[.int i tk,y]}:=(j.2 _ n.symm).trans t1;have p:x.at_ r it (i+1):=Sr.at_keep Q.1 λo q=>(j.2 it f.symm).trans q;refine⟨.ref s.heap.objs.size,upd H s.heap.objs.size<|.tup [.int (i:Nat),v],?_,rfl,⟨_,v,I.hok.fresh<|Ag _,rfl,rfl,λys M=>by rw[Sr.sq_inj M l];exact U⟩,⟨⟨_,by exact_mod_cast m⟩,p⟩,λb hb=>?_⟩
  ·exact Inv.turnNew (s:=s) (h':=r) (t':=tk+1) I hf k2 (Ag _) (λb hb ob q=>by
    rcases Os.mp hb with rfl|hb
    ·exact⟨_,m⟩
    rw[KM.mp hb];obtain⟨o,S,g,d⟩:=Sr.at_get p;exact⟨o,g⟩) ⟨by show 2<=sizeLine;decide,[.int i tk,y],.cons ⟨_,rfl⟩<|.cons rv .nil,⟨_,t2,rfl,rfl,_,rfl⟩⟩
  ·rw[HV (λz=>?_)]
   ·exact(hf b hb).1
   ·rcases Os.mp hb with q|hb
    ·exact n<|q.symm.trans z
    have q:=KM.mp hb;obtain⟨o,S,g,d⟩:=Sr.at_get c;exact(Aw<|Ak g)<|q.symm.trans z
 done:=by intro X u hw B C i Z s σ H E I hf st F;subst u hw B;obtain⟨xs,l,hl⟩:=F;obtain⟨⟨old,he⟩,c⟩:=st;obtain⟨a,G,J⟩:=Sr.sq_is I l;have l1:=G.length;exact wpAny_pyNext_enum_endD (Sr.drawsEnd (A:=X.A.in1) (I.ok.hd C) it x a.toArray i (by simp;omega)) he ⟨rfl,c,J⟩ λT eb=>⟨rfl,Inv.turnAll (t':=s.toks) I hf λb o hb q=>eb b o (λz=>hb (by simp[z])) q⟩
 self:=λ_ _ _ _ _ st h=>by obtain⟨⟨old,he⟩,_⟩:=st;exact FX he h
variable {X:Cx}{H:Hp}{io:List Addr}{m:ME}{st st':Hg}{a:Pv}
def Zb(x:D)(s:Hg):Option (Wk×Hg):=(Mx s x).map λ(a,f)=>(⟨pairs a,f⟩,s)
def PQ(m:ME):MI:=λU st=>(!8).bind λ(x,s1)=>Zb x s1
def aM{x1}{Y:Pos}{p:Pos}(Z:Gl X "enumerate")(hm:X.mg "enumerate"=none)(ha:SE X a m)(c:starEach [a] X.env=[(false,Wp a X.env)]:=by rfl):
  SI X (.Tuple elts x1 Y) (.Call (.Name "enumerate" p) [a] [] pos) (PQ m):=by
 rintro qp s σ H R I ⟨U,st,io,W,st',E,S,e,k⟩;obtain⟨⟨x,s1⟩,e1,e⟩:=Hu e;obtain⟨⟨as,f⟩,e3,e⟩:=Ie e;cases e;refine Call_<|PY I Z hm boot_enumerate<|B2 (HD (Hh ha Hq c pos qp s σ H (λz u=>∃B,Ext io B H u/\HC X.K u (io++B) st'/\Hj X.K u (io++B) z [x]) I ⟨U,st,io,[x],st',E,S,Uo e1 rfl,λz H1 C F y R1=>⟨C,F,y,R1⟩⟩) ?_) c rfl;rintro us t1 ⟨z,H1,I1,r1,C,F,y,R1⟩;obtain⟨v,rfl,Rx⟩:=R1.one;obtain⟨v',rfl,rv⟩:=r1.one;obtain⟨xx,rfl,⟨xs,hx⟩,G⟩:=Wa y Rx e3;cases rv;obtain⟨its,vx,ix⟩:=Sr.sq_is I1 hx;refine zlN ix λh' he A kk=>FX he ?_;refine⟨_,_,_,_,H1,rfl,I1.kept (t':=t1.toks) kk,zjZ xx t1.heap.objs.size (t1.heap.objs.size+1)<|Nat.succ_ne_self _,⟨⟨_,he⟩,A⟩,λb hb=>?_,?_⟩
 ·have hle:t1.heap.objs.size<=b:=by
   rcases Os.mp hb with q|hb
   ·rw[q];exact Cv _
   rw[KM.mp hb];exact Ag _
  exact I1.fpOk hle<|I1.hok.fresh hle
 ·refine k _ H1 C F y ?_;refine⟨λi d g j s3 hd l w c=>?_,λg j s3 l w c=>?_,λg j s3 i A l w c=>?_⟩
  ·obtain⟨h,P,n⟩:=G g j s3 l w c;obtain⟨dx,g1,rfl⟩:=eJ hd;obtain⟨J,L,ru⟩:=n.get g1;refine⟨⟨h,J,P,L⟩,λr u yl=>?_⟩;obtain⟨q,u2,hq,rfl,rfl,yu⟩:=yl;have M:=yu h P;rw[L]at M;cases M;obtain⟨N,Q⟩:=Rj (o:=.tup [.int (i:Nat),J]) w hq;rw[Ap]at Q;refine⟨N,Q,⟨q,_,rfl,Lc,?_⟩⟩;have T:=ru.ext w N;rw[Ap]at T;exact Hj.cons rfl<|Hj.cons T Hj.nil
  ·obtain⟨h,P,n⟩:=G g j s3 l w c;exact⟨h,P,by show h.length<=(pairs as).length;rw[pairs_len,n.length];exact Ag _⟩
  obtain⟨h,P,n⟩:=G g j s3 l w c;have A:(pairs as).length<=i:=A;rw[pairs_len]at A;exact⟨h,P,by rw[n.length];exact A⟩
@[simp] theorem zvx{U:Ii}:PQ m U st=(!8).bind λp=>Zb p.1 p.2:=rfl
variable {ma mb mc:ME}{b c:Pv}{g g':G2}{σ:L2.St}{op op':CmpOp}
def M4(g g':G2)(ma mb mc:ME):ME:=λU st=>(ma U st).bind λ(x,s1)=>(mb U s1).bind λ(y,s2)=>(g x y s2).bind λ(z,s3)=>match z with
 |.bl q=>if q=true then(mc U s3).bind λ(w,s4)=>g' y w s4 else some (.bl false,s3)
 |_=>none
def gN{Q:VK}(h:tE K (M4 g g' ma mb mc) σ H Q):VJ (Sg K g) (Sg K g') (tE K ma) (tE K mb) (tE K mc) σ H Q:=by
 obtain⟨U,st,io,d,st',E,S,e,k⟩:=h;obtain⟨⟨x,s1⟩,n,e⟩:=Hu e;obtain⟨⟨y,s2⟩,o,e⟩:=Hu e;obtain⟨⟨z,s3⟩,p,e⟩:=Hu e;refine⟨U,st,io,x,s1,E,S,n,λv1 H1 a s b R1=>?_⟩;refine⟨U,s1,io++a,y,s2,E.ext S s,b,o,λv2 F A P c R2=>?_⟩;refine⟨x,y,s2,(io++a)++A,z,s3,R1.ext b P,R2,c,p,λG I f X m r=>?_⟩;have i:=((k.on b s).on c P).on m X;exists 11;split at e
 ·rename_i q;refine⟨q,r,?_⟩
  cases q with
  |true=>
   rw[if_pos rfl]at e ⊢;obtain⟨⟨w,s4⟩,u,v⟩:=Hu e;refine⟨U,s3,((io++a)++A)++f,w,s4,((E.ext S s).ext b P).ext c X,m,u,λv4 J B j l C=>?_⟩;exact⟨y,w,s4,(((io++a)++A)++f)++B,d,st',(R2.ext c X).ext m j,C,l,v,i.on l j⟩
  |false=>
   rw[if_neg AW]at e ⊢;cases e;exact Bh.now i m rfl
 ·cases e
def xV(e:Jr X (SL op) g)(d:Jr X (SL op') g')(f:SE X a ma)(i:SE X b mb)(j:SE X c mc)(hm:lastMarks [op,op'] [b,c]=false:=by with_unfolding_all rfl):
  SE X (.Compare a [op,op'] [b,c] pos) (M4 g g' ma mb mc):=PE.imp (vY e d f i j hm) λ_ _ _ h=>gN h
def xS(e:Jr X (SL op) g)(d:Jr X (SL op') g')(f:SE X a ma)(i:SE X b mb)(j:SE X c mc)(hm:lastMarks [op,op'] [b,c]=false:=by with_unfolding_all rfl):
  SB X (.Compare a [op,op'] [b,c] pos) (mT<|M4 g g' ma mb mc):=PT.imp (xJ e d f i j hm) λ_ _ _ h=>gN (RE h)
variable {e:Pv}{p2:Pos}
section
variable {mk:ME}{se:Pv}{te:TE}{ts:TO}
theorem dU{x:V}{u:IR}:∀{xs:List V}{us:List IR},Vals xs us->RelV x u->Vals (xs++[x]) (us++[u])
 |[],_,.nil,r=>.cons r .nil
 |y::xs,_,.cons z t,r=>.cons z<|dU t r
theorem cX:∀{xs:List V}{us:List IR},Vals xs us->Vals xs.reverse us.reverse
 |[],_,.nil=>.nil
 |x::xs,_,.cons r t=>by rw[Dg,Dg];exact dU (cX t) r
theorem eN:∀{xs:List V}{ds:List D}{x:V}{d:D},Hj K H io xs ds->Rep K H io x d->Hj K H io (xs++[x]) (ds++[d])
 |_,[],x,d,h,r=>by
  cases (show _=[] from h)
  exact⟨x,[],rfl,r,rfl⟩
 |_,e::ds,x,d,h,r=>by obtain⟨y,f,rfl,i,j⟩:=h;exact⟨y,f++[x],rfl,i,eN j r⟩
theorem bU:∀{ds:List D}{xs:List V},Hj K H io xs ds->Hj K H io xs.reverse ds.reverse
 |[],xs,h=>by
  cases (show xs=[] from h)
  exact rfl
 |d::ds,xs,h=>by obtain⟨y,j,rfl,f,i⟩:=h;rw[Dg,Dg];exact eN (bU i) f
end
def zh9:typeLookup (.type "list") "keys"=pure none:=by rw[typeLookup_type,EX];kernel_rfl
def Uy:entryFor table "dict.update.loop"=some Builtin.«dict.update.loop»:=entryFor_of_fast<|by kernel_rfl
def NG:plainId "dict.update.loop"=true:=by decide +kernel
section
variable {a:Addr}
def dX{Q:Option IR->Shared->Prop}{k:Nat}{f:Array (Option IR)}(i:s.heap.get? a=some {cls:=.type "list",dict:=none,data:=.seq xs k,slots:=f})(j:A.handled=none)(h:∀h' tk,(∀b u,s.heap.get? b=some u->h'.get? b=some u)->Q none {s with heap:=h',toks:=tk}):wpAny (!5) A (getAttr? (.ref a) "keys") Q E s:=by
 obtain⟨H,g,d,tk,os⟩:=s;have x:∀c,(⟨H,g,d,c,os⟩:Shared).TypeIs (.ref a) "list":=λ_=>⟨_,i,rfl⟩;have f1:=FG;have K:=F.slot_list_getattribute.lookup;have f4:=F.slot_list_getattribute.bind<|.ref a;have P:=am_list_getattr_none;unfold getAttr? getAttrBy? getAttrBy
 repeat (any_goals (first|assumption|exact x _|((with_reducible show wpAny _ _ (call (GM "list.__getattribute__") _ _) _ _ _);refine D2 F.slot_list_getattribute (x _) am_entry_list_getattribute (F.args_list_getattribute_2 _ _) (meets_getattribute_miss_list a xs k f _ _ zh9<|by decide +kernel) ⟨i,j,λh' c e m=>?_⟩)|wp_step))
 obtain⟨X,l,he⟩:=m.there;show wpAny _ _ (getattributeRaised _ _ _ _ _ _ _) _ _ _;unfold getattributeRaised
 repeat (any_goals (first|assumption|wp_step))
 exact h _ _ m.keeps
def Oi(prog:SZ)(w:World)(h:P3)(v:IR)(d:Key×IR):Prop:=∃p a,v=.ref p/\IsTup h p #[a,d.2]/\(Jm prog w).is d.1 a=true
def Oi.keep{h':P3}{v:IR}{d:Key×IR}(q:Oi prog w h v d)(k:∀b o,v=.ref b->h.get? b=some o->h'.get? b=some o):Oi prog w h' v d:=by obtain⟨p,a,rfl,⟨o,g,c⟩,i⟩:=q;exact⟨p,a,rfl,⟨o,k p o rfl g,c⟩,i⟩
def gY{p:Addr}{Q:List IR->Shared->Prop}(f:IsTup s.heap p xs)(h:Q xs.toList s):wpAny (!5) A (Builtin.Dict.pairItems<|.ref p) Q E s:=by
 obtain⟨a,g,d,tk,os⟩:=s;obtain⟨o,b,c,n,e⟩:=f;have m:(⟨a,g,d,tk,os⟩:Shared).TypeIs (.ref p) "tuple":=⟨_,b,c⟩;unfold Builtin.Dict.pairItems seqItems?
 repeat (any_goals (first|assumption|wp_step))
 rw[e];exact Ae<|Ae h
end
variable {its:List IR}{kvs:List (Key×IR)}
section
variable {a:Addr}
def zj6{K:Type}[DecidableEq K](kvs:List (K×IR))(k:K)(v:IR):(stored kvs k v).length<=kvs.length+1:=by unfold stored;split<;>simp
theorem Xm{K:Type}[DecidableEq K]:∀(more kvs:List (K×IR)),(merged kvs more).length<=kvs.length+more.length
 |[],kvs=>by show kvs.length<=kvs.length+0;omega
 |p::r,kvs=>by have d:=Xm r<|stored kvs p.1 p.2;have a:=zj6 kvs p.1 p.2;show(merged (stored kvs p.1 p.2) r).length<=_;rw[Ay];omega
def iZ{R:Result->Shared->Prop}{D I l:Addr}{h0:P3}(Z:A.in1.handled=none)(hl:its.length=kvs.length)(hz:kvs.length<=sizeLine)(d:D≠I)(n:l≠D)(y:l≠I):
  ∀(k i:Nat) (s:Shared),kvs.length-i=k->i<=kvs.length->s.heap.IsListIter I l i->s.heap.IsList l its.toArray->s.heap.DictOf (Jm prog w) D (merged []<|kvs.take i) ->
  (∀(j:Nat) (v:IR) (f:Key×IR),its[j]?=some v->kvs[j]?=some f->Oi prog w s.heap v f/\v≠.ref D/\v≠.ref I)->(∀b o,b≠D->b≠I->h0.get? b=some o->s.heap.get? b=some o) ->
  (∀h' tk,h'.DictOf (Jm prog w) D (merged [] kvs)->(∀b o,b≠D->b≠I->h0.get? b=some o->h'.get? b=some o)->R (.ok<|.ret .none) {s with heap:=h',toks:=tk}) ->
  codeAny (!5) A (.builtin "dict.update.loop" ⟨[.ref D,.ref I,rawInt i,.none],[]⟩) R s:=by
 intro k
 induction k with
 |zero=>
  intro i s hk hi hit a hd X h0k B;have C:i=kvs.length:=by omega
  subst C;refine BB Uy ?_;rw[A8 NG _];show wpAny _ A.in1 (pyNext (.ref I) >>= _) _ _ s;refine Aa<|CD Z hit a (by simp[hl]) λh' h=>?_;show wpAny _ A.in1 (Builtin.Dict.addKeywords D [] >>= λ_=>ret .none) _ _ _;refine Aa<|Ae<|Ae ?_;rw[AU]at hd;refine B h' s.toks ?_ λb o F E e=>h b o E (h0k b o F E e);obtain⟨o,G,H,J,r⟩:=hd;exact⟨o,G,H,h D o d J,r⟩
 |succ k ih=>
  intro i s hk hi hit a hd X h0k B;have L:i<kvs.length:=by omega
  have m:i<its.length:=by omega
  refine BB Uy ?_;rw[A8 NG _];show wpAny _ A.in1 (pyNext (.ref I) >>= _) _ _ s;have hv:its[i]?=some its[i]:=Ai m;have K:kvs[i]?=some kvs[i]:=Ai L;refine Aa<|Cs (x:=its[i]) hit a (by simp[m]) λh' P h=>?_;obtain⟨pa,nD,nI⟩:=X i _ _ hv K;have M:Oi prog w h' its[i] kvs[i]:=pa.keep λb o e g=>h.extBut b o (λz=>nI (by rw[e,z])) g;obtain⟨p,kx,H,tp,ik⟩:=M;have N:h'.DictOf (Jm prog w) D (merged []<|kvs.take i):=by obtain⟨o,G,H,J,r⟩:=hd;exact⟨o,G,H,h.extBut D o d J,r⟩
  have hlen:(merged []<|kvs.take i).length<=sizeLine:=by have:=Xm (kvs.take i) [];rw[Bn,Bj]at this;omega
  rw[H];refine Aa<|AO<|Aa<|CF<|gY (s:={s with heap:=h'}) tp ?_;refine AO<|Fn (s:={s with heap:=h'}) ik N (λE hd2 Q=>?_) hlen;have c:∀b o,b≠D->h'.get? b=some o->E.get? b=some o:=λb o hb e=>Q.extBut b o hb e;have e1:stored (merged []<|kvs.take i) kvs[i].1 kvs[i].2=merged [] (kvs.take<|i+1):=(merged_take_succ [] kvs i _ K).symm;refine Ae ⟨BE NG _,?_⟩;refine ih (i+1) {s with heap:=E,toks:=s.toks+1} (!0) (!0) ?_ ?_ (by rw[<-e1];exact hd2) (λj v f F S=>?_) (λb o b1 U e=>c b o b1 (h.extBut b o U<|h0k b o b1 U e)) λh3 T d3 k3=>B h3 T d3 k3
  ·exact FE P λu e=>c I u (BF d) e
  ·exact DH (DH a λu e=>h.extBut l u y e) λu e=>c l u n e
  obtain⟨q,W,Y⟩:=X j v f F S;exact⟨(q.keep λb o e g=>h.extBut b o (λz=>Y (by rw[e,z])) g).keep λb o e g=>c b o (λz=>W (by rw[e,z])) g,W,Y⟩
def zhz{l:Addr}{Q:Qqa}(C:A.handled=none)(d:PlainL s.heap l its.toArray)(M:its.length=kvs.length)(hz:kvs.length<=sizeLine)(N:∀(j:Nat) (v:IR) (i:Key×IR),its[j]?=some v->kvs[j]?=some i->Oi prog w s.heap v i)(h:∀h' tk,h'.DictOf (Jm prog w) s.heap.objs.size (merged [] kvs)->(∀b o,s.heap.get? b=some o->h'.get? b=some o)->Q (.ref s.heap.objs.size) {s with heap:=h',toks:=tk}):
  wpAny (!5) A (call (.type "dict") [.ref l]) Q E s:=by
 exists 5;rintro obj s₁ ⟨rfl,rfl⟩;have a:(s.heap.push Qqd).DictOf (Jm prog w) s.heap.objs.size []:=Gz s.heap;have k1:∀b o,s.heap.get? b=some o->(s.heap.push Qqd).get? b=some o:=λb o e=>Ad _ e;have H:=d.keeps k1;obtain⟨⟨cl,di,da,sl⟩,n,g1,G,J,L⟩:=id H;simp only at G J L;subst G J L;have hlt:∀b o,s.heap.get? b=some o->b<s.heap.objs.size:=λb o e=>Ak e;have X:l<s.heap.objs.size:=by obtain⟨o,_,g,_⟩:=d;exact hlt l o g
 refine⟨a.typeIs,F.args_dict_init_2 _ _,?_⟩;unfold Builtin.«dict.__init__»;refine Aa ?_;unfold Builtin.Dict.selfAndRest;refine Aa<|B8 a.typeIs ?_;show wpAny _ _ (pure (s.heap.objs.size,[AE l])) _ _ _;refine Ae ?_;show wpAny _ _ (Builtin.Dict.updateFrom "dict.__init__" s.heap.objs.size (.ref l) [] .none) _ _ _;unfold Builtin.Dict.updateFrom;refine Aa (Ds (show Shared.TypeIs {s with heap:=s.heap.push Qqd} (.ref l) "list" from⟨_,g1,rfl⟩) ?_);rw[if_pos (!1)];refine Aa<|dX g1 C λc P u=>?_;have K:=H.keeps u;have hd2:c.DictOf (Jm prog w) s.heap.objs.size []:=by obtain⟨o,y,z,f,r⟩:=a;exact⟨o,y,z,u _ o f,r⟩
 have m:s.heap.objs.size<c.objs.size:=by obtain⟨o,y,z,f,r⟩:=hd2;exact Ak f
 simp only[Cq,if_true];refine Aa<|BR ?_;refine Aa<|Sr.iter (x:=.l l) (s:={s with heap:=c,toks:=P}) (xs:=its.toArray) K.isList ?_;have B:∀b o,c.get? b=some o->(c.push<|Sr.ob<|.l l).get? b=some o:=λb o e=>Ad _ e;refine Ae ⟨BE NG _,?_⟩;have S:s.heap.objs.size≠c.objs.size:=Aw m;have T:l≠s.heap.objs.size:=Aw X;have U:l≠c.objs.size:=Aw<|B3 X m;show codeAny (!5) A.in1 (.builtin "dict.update.loop" ⟨[.ref s.heap.objs.size,.ref c.objs.size,rawInt (0:Nat),.none],[]⟩) _ {s with heap:=c.push (Sr.ob<|.l l),toks:=P};refine iZ (A:=A.in1) (h0:=s.heap) (l:=l) (its:=its) (kvs:=kvs) (D:=s.heap.objs.size) (I:=c.objs.size) C M hz S T U kvs.length 0 {s with heap:=c.push (Sr.ob<|.l l),toks:=P} rfl (A9 _) ?_ (K.keeps B).isList ?_ (λj v i W Y=>?_) (λb o _ _ e=>B b o (u b o<|k1 b o e)) λh' tk Z k'=>?_
 ·exact Sr.at_new (x:=.l l)<|Ao _ rfl
 ·obtain⟨o,y,z,f,r⟩:=hd2;exact⟨o,y,z,B _ o f,r⟩
 ·have q:=N j v i W Y;have nn:∀b,v=.ref b->b<s.heap.objs.size:=λb e=>by
   obtain⟨p,kx,rfl,⟨o,g,_⟩,_⟩:=q;cases e;exact hlt _ o g
  refine⟨q.keep λb o _ g=>B b o (u b o<|k1 b o g),λe=>?_,λe=>?_⟩
  ·exact absurd (nn _ e)<|AN _
  exact absurd (nn _ e)<|Nat.not_lt_of_lt m
 exact⟨rfl,h h' tk Z λb o e=>k' b o (Aw<|hlt b o e) (Aw<|B3 (hlt b o e) m) e⟩
end
def Si:D->Option (Key×D)
 |.tup [k,v]=>(keyOf k).map λq=>(q,v)
 |_=>none
def PR:List D->Option (List<|Key×D)
 |[]=>some []
 |d::r=>(Si d).bind λt=>(PR r).map λts=>t::ts
def Of(kvs more:List (Key×D)):List (Key×D):=more.foldl (λacc a=>putD acc a.1 a.2) kvs
section
variable {qp:List (Addr×Obj)}
def cC:∀{more:List (Key×V)} {Ni:List (Key×D)} {kvs:List (Key×V)} {d:List (Key×D)},KR Key K H io more Ni->KR Key K H io kvs d->KR Key K H io (M5 kvs more) (Of d Ni):=by
 intro more Ni kvs d r;unfold KR at r
 induction r generalizing kvs d with
 |nil=>intro q;exact q
 |@cons p q c g h t a=>
  intro b;have e:KR Key K H io (putK kvs p.1 p.2) (putD d q.1 q.2):=by rw[<-h.1];exact KR.put b p.1 h.2
  exact a e
theorem VP(I:Inv X qp σ H s):∀{n:List V}{ds:List D} {f:List (Key×D)} {its:List IR},Hj X.K H io n ds->PR ds=some f->Vals n its ->
  ∃(i:List (Key×V)) (kvs:List (Key×IR)),KR Key X.K H io i f/\KV i kvs/\its.length=kvs.length/\kvs.length=f.length/\∀(j:Nat) (v:IR) (l:Key×IR),its[j]?=some v->kvs[j]?=some l->Oi X.prog X.w s.heap v l
 |_,[],f,_,h,e,r=>by
  cases e;cases (show _=[] from h)
  cases r;exact⟨[],[],.nil,.nil,rfl,rfl,λj v l h=>by simp at h⟩
 |_,d::ds,f,_,h,e,r=>by
  obtain⟨y,n,rfl,o,z⟩:=h;obtain⟨t,a,e⟩:=Hu e;obtain⟨T,b,e⟩:=Ie e;subst e;cases r with
  |@cons _ u _ us g c=>
   obtain⟨i,kvs,a1,a2,m,x,A⟩:=VP I z b c;unfold Si at a;split at a
   ·rename_i k v;obtain⟨q,eq1,a⟩:=Ie a;subst a;obtain⟨p,U,rfl,E,rs⟩:=o;obtain⟨v1,W,rfl,P,rs⟩:=rs;obtain⟨v2,B,rfl,C,rs⟩:=rs
    cases (show B=[] from rs)
    have F:=Ut P eq1;subst F;cases g;obtain⟨Y,G,J,_⟩:=I.tuple<|IK.of (K:=X.K) E
    cases G with
    |cons L t1=>
     cases t1 with
     |cons M N=>
      cases N;rename_i Q S;refine⟨(q,v2)::i,(q,S)::kvs,.cons ⟨rfl,C⟩ a1,.cons ⟨rfl,M⟩ a2,by rw[Ay,Ay,m],by rw[Ay,Ay,x],λj v l a b=>?_⟩
      cases j with
      |zero=>
       cases a;cases b;exact⟨p,Q,rfl,J,OW L⟩
      |succ j=>exact A j v l a b
   ·cases a
def SX:GN
 |[.ref n],st=>(HZ st n).bind λds=>(PR ds).bind λd=>if fits d.length=true then some (.ref st.length,st++[.dk (Of [] d)])else none
 |_,_=>none
def zlO(f:X.calm=true):Jz X (.type "dict") SX:=by
 exists 0;unfold SX at e;split at e
 ·rename_i n;obtain⟨zs,h,e⟩:=Hu e;obtain⟨c,m,e⟩:=Hu e;exists 3;cases e;obtain⟨v,rfl,p,rfl,w⟩:=R.one;obtain⟨u,rfl,x⟩:=r.one;cases x;obtain⟨C,A,E⟩:=KA S w h;obtain⟨its,K,pl,F⟩:=I.list A;obtain⟨b,kvs,a1,a2,P,i,j⟩:=VP I E m K;have g:kvs.length<=sizeLine:=by
   rw[i];exact of_decide_eq_true hf
  refine zhz (I.ok.hd f) pl P g j λG tk l q=>?_;have y:b.length=kvs.length:=Bg a2;have hm:(M5 [] b).length<=sizeLine:=by have:=XO b [];rw[Bj]at this;omega
  exists 7;refine⟨.ref s.heap.objs.size,_,I.laid (a:=s.heap.objs.size) (o:=.dK (M5 [] b)) (t':=tk) q (Ag _)<|Vw hm hd (a2.merge .nil) l,rfl,?_⟩;obtain⟨z,B⟩:=PZ (o:=.dK (M5 [] b)) (ob:=.dk (Of [] c)) S (I.hok.fresh<|Ag _) λJ T e=>⟨_,e,cC (KR.mono T a1) .nil⟩
  exact k _ _ [s.heap.objs.size] z B ⟨s.heap.objs.size,rfl,by rw[<-S.len];exact getElem?_len io _⟩
 ·cases e
end
def Vd(n:Nat)(f:Nat->Option V):It:=⟨λi _=>i<n,λi H v a=>a=H/\f i=some v,λi _=>n<=i⟩
def zlb:List String:=["enumerate","zip","dict_itemiterator","dict_reverseitemiterator","odict_iterator","itertools.zip_longest","itertools.pairwise"]
variable {tg:Pv}
def zjW(it:Addr)(n:Nat)(f:Nat->Option V){R:Nat->IR->Prop}{T:Nat->P3->Prop}(W:∀A:Around,A.handled=none->Walks P w A it [it] [it] n R T)(F:∀i v,R i v->∃x,f i=some x/\RelV x v) (l:∀i h,T i h->∃o nm vs,h.get? it=some o/\o.cls=.type nm/\o.data=.fields vs/\zlb.contains nm=false)(j:∀(A:Around) (i:Nat) (s:Shared) (Q:Qqa) (E:Qqa),T i s.heap->Q (.ref it) s->wpAny (KB P w) A (pyIter<|.ref it) Q E s):
  Turn P w K tg (Vd n f) [it] it (λi h=>i<=n/\T i h) where
 mem:=by simp
 obj:=λi h st b a=>by
  have e:b=it:=by simpa using a
  subst e;obtain⟨o,nm,vs,e,c,d,_⟩:=l i h st.2;exact⟨o,e,λv z=>by rw[d]at z;cases z⟩
 keep:=λi h g st k=>⟨st.1,(W {} rfl).frame i h g st.2 k⟩
 item:=by intro X p hw q r i C s σ H E I hf st m;subst p hw q;obtain⟨f0,f1,f2,u,f4,y⟩:=hf it (!2);refine(W X.A<|I.ok.hd r).item i s _ _ m st.2 λv g tk G st' B=>?_;obtain⟨x,J,L⟩:=F i v G;have M:Inv X C σ H {s with heap:=g,toks:=tk}:=I.turned (λb o a e=>B b o (by simpa using a) e) f0 f1 u f4 y;obtain⟨o,nm,vs,e,c,d,N⟩:=l (i+1) g st';exact⟨_,rfl,QG (s:={s with heap:=g,toks:=tk}) e c d N ⟨x,H,M,L,⟨rfl,J⟩,⟨m,st'⟩,λb a=>(hf b a).1⟩⟩
 done:=by intro X p hw q r i C s σ H E I hf st m;subst p hw q;obtain⟨f0,f1,f2,u,f4,y⟩:=hf it (!2);have e:i=n:=Nat.le_antisymm st.1 m;subst e;exact(W X.A<|I.ok.hd r).done s _ _ st.2 λg tk B=>⟨rfl,I.turned (λb o a e=>B b o (by simpa using a) e) f0 f1 u f4 y⟩
 self:=λA i s Q E st h=>j A i s Q E st.2 h
variable {n:Nat}
def nM{H:Hp}{io:List Addr}{ds:List D}{f:Nat->Option V}(hn:n=ds.length)(hf:∀i d,ds[i]?=some d->∃v,f i=some v/\∀H io,Rep K H io v d):Lz K H io ⟨ds,[]⟩ (Vd n f) where
 go:=λi d H1 c s hd e a g=>by have b:i<ds.length:=(KF.mp hd).1;refine⟨by show i<n;omega,λx w y=>?_⟩;obtain⟨rfl,y⟩:=y;obtain⟨v,h,m⟩:=hf i d hd;rw[h]at y;cases y;exact⟨Ext.refl,a,m _ _⟩
 stop:=λH1 c s e a g=>by show n<=ds.length;omega
 stop':=λH1 c s i b e a g=>by show n<=i;have b:ds.length<=i:=b;omega
variable {l:Pv}{es:List Pv}{mm:MA}{mt:MT}{ms:MS}{body:List W1}{z:Str}
def signs(z:Str):List D:=z.cps.toList.map λc=>D.str ⟨#[c]⟩
def PU(z:Str)(i:Nat):Option V:=z.cps[i]?.map λc=>V.str ⟨#[c]⟩
def zl9(d:A.handled=none)(I:Addr)(x:Str)(t:Tok):Walks P w A I [I] [I] x.cps.size (SignAt x) (λi h=>h.IsStrIter I (strIterType x) x t i):=by
 unfold strIterType;cases x.cps.all (· < 128)
 ·exact Walks.strWide d I x t
 exact Walks.strAscii d I x t
def xD(it:Addr)(x:Str)(t:Tok):Turn P w K tg (Vd x.cps.size<|PU x) [it] it (λi h=>i<=x.cps.size/\h.IsStrIter it (strIterType x) x t i):=
 zjW it x.cps.size (PU x) (λA a=>zl9 a it x t) (λi v ⟨c,u,b,g⟩=>⟨.str ⟨#[c]⟩,by unfold PU;rw[b];rfl,u,g⟩)
  (λi h ⟨o,e,c,d⟩=>⟨o,_,_,e,c,d,by unfold strIterType;split<;>decide⟩) λA i s Q E st h=>by
   unfold strIterType at st;split at st
   ·exact wpAny_pyIter_striter_ascii st h
   exact wpAny_pyIter_striter_wide st h
def YF(tl:TE):TI:=λσ H R=>tl σ H λx H1=>∃z,x=.str z/\R (Vd z.cps.size<|PU z) H1
def pW{tl:TE}(d:PE X l tl):PI X tg l (YF tl):=by
 intro a s σ H R I h;refine HD (d a s σ H _ I h) ?_;rintro v s1 ⟨x,H1,I1,c,g⟩;obtain⟨z,e,q⟩:=g;subst e;obtain⟨t,rfl⟩:=c;refine wpAny_pyIter_strU ?_;refine⟨s1.heap.objs.size,[s1.heap.objs.size],_,_,H1,rfl,I1.kept (t':=s1.toks) λb o e=>Ad _ e,xD _ z t,⟨A9 _,_,Ao _ rfl,rfl,rfl⟩,λb m=>?_,q⟩;have e:b=s1.heap.objs.size:=by simpa using m
 subst e;exists 16
def signs_get{i:Nat}{d:D}(h:(signs z)[i]?=some d):∃v,PU z i=some v/\∀H io,Rep K H io v d:=by unfold signs at h;rw[Ax]at h;obtain⟨c,a,e⟩:=Ie h;subst e;refine⟨.str ⟨#[c]⟩,?_,λH io=>rfl⟩;unfold PU;rw[Bs]at a;rw[a];rfl
def zU(z:Str):z.cps.size=(signs z).length:=by unfold signs;rw[Af,AS]
def iO(m:ME):MI:=λU st=>(!8).bind λ(d,s)=>match d with
 |.str z=>some (⟨signs z,[]⟩,s)
 |_=>none
def pK(f:SE X l m):SI X tg l (iO m):=PI.imp (pW f) <| by
 exists 12;obtain⟨⟨d,s1⟩,a,e⟩:=Hu e;exists 11;split at e
 ·rename_i z;cases e;refine⟨U,st,io,_,_,E,S,a,λv H1 b c g n=>?_⟩;exact⟨z,n,k _ H1 b c g<|nM (zU z) λi d h=>signs_get h⟩
 ·cases e
def Jb(m:ME):MI:=λU st=>(!8).bind λ(d,s)=>LK (Lg d s)<|match d with|.str z=>some (⟨signs z,[]⟩,s)|_=>none
def Lo(f:SE X l m):SI X tg l (Jb m):=by
 rintro a s σ H R I ⟨U,st,io,W,st',E,S,e0,k⟩;obtain⟨⟨d,s1⟩,b,e0⟩:=Hu e0;rcases NC e0 with e0|e0
 ·exact uJ f a s σ H R I ⟨U,st,io,W,st',E,S,by unfold mW;rw[b];exact e0,k⟩
 exact pK f a s σ H R I ⟨U,st,io,W,st',E,S,by unfold iO;rw[b];exact e0,k⟩
def IS(c:MT)(m:MS):Nat->MS
 |0=>λ_ _=>none
 |n+1=>λU st=>(c U st).bind λ(b,s)=>if b=true then(m U s).bind λ(f,s2)=>match f with
   |.nx i=>IS c m n i s2
   |.ct i=>IS c m n i s2
   |.bk i=>some (.nx i,s2)
   |.rt d=>some (.rt d,s2)
  else some (.nx U,s)
def wZ(F:PassesOwn (!4) X.A X.env X.xe)(G:SB X c mt)(I:KL X body ms):SS X (.While c body [] pos) (IS mt ms n):=PS.imp (xH F G I) λN σ H h=>by
 exists 2;refine⟨λk σ2 d=>∃x s2 g,Ext io g H d/\HC X.K d (io++g) s2/\HK X.K d (io++g) σ2 x/\IS mt ms k x s2=some (f,st'),⟨n,U,st,[],Ext.refl,S.nil,by rw[Ap];exact E,e⟩,?_⟩;rintro k σ2 d ⟨x,s2,g,X2,i,E2,a⟩;have r:Wn X.K (io++g) d st' N f:=w.on X2 i
 cases k with
 |zero=>cases a
 |succ k=>
  obtain⟨⟨b,s3⟩,J,a⟩:=Hu a;refine⟨x,s2,io++g,b,s3,E2,i,J,λu z P j=>?_⟩;have X23:=X2.trans i P;have v:HC X.K u (io++(g++z)) s3:=by rw[<-Aj];exact j
  dsimp only;cases b with
  |false=>
   rw[if_neg (!1)];have a:some (Fl.nx x,s3)=some (f,st'):=a;cases a;exact r σ2 u z P j<|E2.ext i P
  |true=>
   rw[if_pos rfl];obtain⟨⟨f4,s4⟩,L,a⟩:=Hu (show(ms x s3).bind _=some (f,st') from a);refine⟨λσ5 q=>∃o s5 l,Ext io l H q/\HC X.K q (io++l) s5/\HK X.K q (io++l) σ5 o/\IS mt ms k o s5=some (f,st'),λσ5 q M=>⟨k,Cg k,M⟩,?_⟩;refine O3 (E2.ext i P) j L ?_;have fin:∀{m:Ii},IS mt ms k m s4=some (f,st')->∀σ7 s p,Ext (io++g++z) p u s->HC X.K s (io++g++z++p) s4->HK X.K s (io++g++z++p) σ7 m ->
     ∃o s5 l,Ext io l H s/\HC X.K s (io++l) s5/\HK X.K s (io++l) σ7 o/\IS mt ms k o s5=some (f,st'):=by
    intro m Q σ7 s p y B C;rw[Aj io]at y;rw[Aj io,Aj io]at B C;exact⟨m,s4,(g++z)++p,X23.trans v y,B,C,Q⟩
   cases f4 with
   |nx m=>exact fin a
   |ct m=>exact fin a
   |bk m=>
    cases a;exact r.on P j
   |rt T=>
    cases a;exact r.on P j
def TJ:GN
 |[.str z],st=>if fits z.cps.size=true then some (.ref st.length,st++[.lst (signs z)])else none
 |_,_=>none
def zkg{acc:Array IR}(h:ItemsOf (SignAt z) acc z.cps.size):Vals (z.cps.toList.map λc=>V.str ⟨#[c]⟩) acc.toList:=by
 have aux:∀(l:List Nat) (a:List IR),a.length=l.length->(∀(j:Nat) (v:IR),a[j]?=some v->∃(c:Nat) (u:Tok),l[j]?=some c/\v=Ej ⟨#[c]⟩ u)->Vals (l.map λc=>V.str ⟨#[c]⟩) a:=by
  intro l
  induction l with
  |nil=>intro a b _;cases (BW b);exact .nil
  |cons c l ih=>
   intro a b e;cases a with
   |nil=>simp at b
   |cons v a=>
    obtain⟨m,u,g,rfl⟩:=e 0 v rfl;cases (show c=m by simpa using g)
    exact .cons ⟨u,rfl⟩<|ih a (by simpa using b) λj v h=>by simpa using e (j+1) v (by simpa using h)
 refine aux _ _ (by rw[AS,h.1,AS]) λj v n=>?_;obtain⟨c,u,g,e⟩:=h.2 j v (by rw[<-Bs];exact n);exact⟨c,u,by rw[Bs];exact g,e⟩
def zkh(z:Str):Hj K H io (z.cps.toList.map λc=>V.str ⟨#[c]⟩) (signs z):=by
 unfold signs;generalize z.cps.toList=l
 induction l with
 |nil=>exact rfl
 |cons c l a=>exact Hj.cons rfl a
def zjE(f:X.calm=true):Jz X (.type "list") TJ:=by
 rintro n s σ H xs us Q I r ⟨ds,st,io,d,st',R,S,e,k⟩;unfold TJ at e;split at e
 ·rename_i z;exists 3;cases e;obtain⟨v,rfl,rfl⟩:=R.one;obtain⟨u,rfl,l⟩:=r.one;obtain⟨t,rfl⟩:=l;have h:z.cps.size<=sizeLine:=of_decide_eq_true hf;refine call_list_str (hn:=h) (I.ok.hd f) z t λw tk acc m hk g a=>?_;refine⟨.ref s.heap.objs.size,upd H s.heap.objs.size<|.lst<|z.cps.toList.map λc=>V.str ⟨#[c]⟩,I.laid (t':=tk) (λb o q=>hk b o q) (Ag _) ⟨by rw[Af,AS];exact h,acc.toList,m,zkg a,by simpa using g⟩,rfl,?_⟩;exact k.lst S (zkh z)<|I.hok.fresh<|Ag _
 ·cases e
def QI:GN:=K7 QJ TJ
def zlM(d:X.calm=true):Jz X (.type "list") QI:=Qh zlL<|zjE d
def slK:D->Option Int->Option Int->Hg->Option (D×Hg):=λx lo a st=>match x with
 |.kl ds=>some (.ref st.length,st++[.lst (cutD ds lo a)])
 |_=>none
def LI:D->Option Int->Option Int->Hg->Option (D×Hg):=λx lo a st=>LK (Yj x lo a st)<|slK x lo a st
def Jp(m:ME)(l h:MO):ME:=λU st=>(!8).bind λ(x,s1)=>(l U s1).bind λ(lo,s2)=>(h U s2).bind λ(a,s3)=>LI x lo a s3
def NA{lo hi:Option Pv}{f i:MO}(he:SE X e m)(j:SO X lo f)(o:SO X hi i):SE X (.Subscript e (.Slice lo hi none p2) pos) (Jp m f i):=by
 rintro n s σ H Q I ⟨U,st,io,d,st',E,S,e0,k⟩;obtain⟨⟨x,s1⟩,w,e0⟩:=Hu e0;obtain⟨⟨b,s2⟩,z,e0⟩:=Hu e0;obtain⟨⟨c,s3⟩,A,e0⟩:=Hu e0;rcases NC e0 with e0|e0
 ·exact zS he j o n s σ H Q I ⟨U,st,io,d,st',E,S,by simp only[Sq,w,z,A,Ac];exact e0,k⟩
 ·refine Wo aO he j o n s σ H Q I ?_;refine⟨U,st,io,x,s1,E,S,w,λv1 H1 K g a R1=>⟨U,s1,io++K,b,s2,E.ext S g,a,z,λG v h l=>⟨U,s2,(io++K)++v,c,s3,(E.ext S g).ext a h,l,A,λJ L P u=>?_⟩⟩⟩;have y:=(R1.ext a h).ext l P;have B:=((k.on a g).on l h).on u P
  cases x with
  |kl ds=>
   cases e0;obtain⟨p,xs,rfl,C,r⟩:=y;exact⟨p,xs,rfl,C.sq,λq F=>B.lst u (V3 r _ _) F⟩
  |_=>cases e0
def aD:G2
 |.str i,.str j,st=>some (.bl (!(!(Builtin.Str.occurrences j i 0 j.length 1).isEmpty)),st)
 |_,_,_=>none
def zkK:Jr X (SL .NotIn) aD:=by
 rintro a s σ H x y v u Q I b c ⟨g,h,st,io,d,st',l,m,S,e,k⟩;cases g with
 |str i=>
  cases h with
  |str j=>cases e;exact zh0 a s σ H x y v u Q I b c ⟨i,j,l,m,k.now S rfl⟩
  |_=>cases e
 |_=>cases e
def Kx:G2:=JX TB aD
def RD(i:X.A.units+100<cLine)(d:SE X a ma)(f:SE X b mb)(hm:behindInMarks .NotIn b=false:=by rfl):SB X (.Compare a [.NotIn] [b] pos) (mT<|mB Kx ma mb):=VT (zO i d f hm) (JW zkK d f hm)
end L2.MP
namespace PySem.F
end PySem.F
namespace PySem
open Builtin
end PySem
namespace L2.MP
open PySem PySem.Spec PyProof.Rows
variable {st:Hg}{m ma mb:ME}{mm:MA}
section
variable {U U1:Ii}{s1:Hg}{n o:ME}{ms mq:MS}{mt mu:MT}{d:D}{ml mh:MO}
@[simp] theorem zw4:Jb m U st=(!8).bind λp=>LK (Lg p.1 p.2) (match p.1 with|.str z=>some (⟨signs z,[]⟩,p.2)|_=>none):=rfl
@[simp] theorem zwG:Jp m ml mh U st=(!8).bind λp=>(ml U p.2).bind λq=>(mh U q.2).bind λr=>LI p.1 q.1 r.1 r.2:=rfl
end
def Zz:UF "sum"=some (.builtin "sum"):=by decide +kernel
def oA:UF "any"=some (.builtin "any"):=by decide +kernel
variable {X:Cx}{K:Ab}{H:Hp}{io:List Addr}{st':Hg}{b c e:Pv}{mc:ME}{pos:Pos}{qp:List (Addr×Obj)}{σ:L2.St}{s:Shared}
section
variable {a:Pv}{es:List Pv}
def QH:List D->Option (List Int)
 |[]=>some []
 |.int i::r=>(QH r).map λis=>i::is
 |_=>none
theorem bN:∀{f:List V}{its:List IR}{ds:List D}{ns:List Int},Hj K H io f ds->Vals f its->QH ds=some ns->its.length=ns.length/\∀(j:Nat) (v:IR),its[j]?=some v->∃t,v=DK (ns.getD j 0) t
 |_,_,[],ns,h,r,e=>by
  cases e;cases (show _=[] from h)
  cases r;exact⟨rfl,λj v h=>by simp at h⟩
 |_,_,d::ds,ns,h,r,e=>by
  obtain⟨y,f,rfl,g,n⟩:=h;cases d with
  |int i=>
   obtain⟨is,b,e⟩:=Ie e;subst e;cases r with
   |cons c m=>
    cases (show y=.int i from g)
    obtain⟨t,rfl⟩:=c;obtain⟨l,q⟩:=bN n m b;refine⟨by simp[l],λj v a=>?_⟩
    cases j with
    |zero=>cases a;exact⟨t,rfl⟩
    |succ j=>simpa using q j v (by simpa using a)
  |_=>cases e
def Om(i:Int):Bool:=decide (-1000000<=i)&&decide (i<=1000000)
def LV:GN
 |[.ref n],st=>(HZ st n).bind λds=>(QH ds).bind λns=>if(ns.all Om&&decide (ns.length<=100000))=true then some (.int ns.sum,st)else none
 |_,_=>none
theorem WI:∀(ns:List Int) (j:Nat),j<=ns.length->preSum (λi=>ns.getD i 0) j=(ns.take j).sum
 |ns,0,_=>by simp[preSum]
 |ns,j+1,h=>by
  have d:j<ns.length:=h;have a:(ns.take<|j+1).sum=(ns.take j).sum+ns[j]:=by rw[A7,Ai d];simp only[Option.toList_some,List.sum_append,GO,List.sum_nil,Int.add_zero]
  rw[preSum,WI ns j (!0),a];simp only[Au,Ai d,Dk]
theorem dN:∀{ns:List Int},ns.all Om=true->-1000000*(ns.length:Int)<=ns.sum/\ns.sum<=1000000*(ns.length:Int)
 |[],_=>by simp
 |i::ns,h=>by
  rw[GK,Aq]at h;obtain⟨d,f⟩:=h;unfold Om at d;rw[Aq]at d;have a1:=of_decide_eq_true d.1;have a2:=of_decide_eq_true d.2;have a:=dN f;rw[GO,Ay]
  push_cast
  omega
def eP(y:X.calm=true):Jz X (.builtin "sum") LV:=by
 exists 0;unfold LV at e;split at e
 ·rename_i n;obtain⟨P,z,e⟩:=Hu e;obtain⟨ns,B,e⟩:=Hu e;exists 3;cases e;rw[Aq]at hf;have a:=hf.1;have hlen:=of_decide_eq_true hf.2;obtain⟨v,rfl,p,rfl,C⟩:=R.one;obtain⟨u,rfl,E⟩:=r.one;cases E;obtain⟨T,h,F⟩:=KA S C z;obtain⟨m,G,pl,U⟩:=I.list h;obtain⟨l,K⟩:=bN F G B;refine call_sum_walk<|Cy pl.isList ?_;have f:p<s.heap.objs.size:=by
   obtain⟨o,_,e,_⟩:=pl;exact Ak e
  refine⟨_,_,_,_,_,_,λi=>ns.getD i 0,rfl,Walks.list (A:=X.A.in1) (I.ok.hd y) s.heap.objs.size p (Aw f) m.toArray,⟨⟨_,Ao _ rfl,rfl,rfl⟩,?_⟩,?_,?_,?_,λW tk w hk=>?_⟩
  ·obtain⟨o,nn,e,c,Y,sq⟩:=pl;exact⟨o,Ad _ e,c,nn,sq⟩
  ·intro b hb;rw[Bb];simp at hb
   rcases hb with hb|hb
   ·rw[hb];exact Cg _
   rw[hb];exact Df f
  ·intro i v J;exact K i v<|by simpa using J
  ·intro j g;have g:j<ns.length:=by simpa[l]using g
   have b1:Om (ns.getD j 0)=true:=by rw[Au,Ai g];exact List.all_eq_true.mp a _<|A5 g
   have L:(ns.take<|j+1).all Om=true:=List.all_eq_true.mpr λx h=>List.all_eq_true.mp a x<|Ff h;have Z:=dN L;rw[WI ns (j+1) g];unfold Om at b1;rw[Aq]at b1;have a1:=of_decide_eq_true b1.1;have a2:=of_decide_eq_true b1.2;have M:(ns.take<|j+1).length<=100000:=by rw[Bn];omega
   unfold InLong;dsimp only;omega
  ·refine⟨.int _,H,I.kept (t':=tk) λb o q=>hk b o ?_ (Ad _ q),⟨w,rfl⟩,?_⟩
   ·simp;exact Aw<|Ak q
   ·have N:preSum (λi=>ns.getD i 0) m.toArray.size=ns.sum:=by
     rw[Az,l,WI ns ns.length (Ag _),AU]
    rw[N];exact k.now S rfl
 ·cases e
end
variable {o:Obj}{d it:Addr}{es:Array DictEntry}{prog:SZ}{w:World}{A:Around}{E:Qqa}{ep i:Nat}
def WS{R:Qqa}(ty:s.TypeIs (.ref d) "dict")(hd:(d==sysModules)=false)(g:s.heap.get? d=some o)(dd:o.data=.dict es ep)(k:R (.ref s.heap.objs.size) {s with heap:=s.heap.push {cls:=.type "dict_keyiterator",data:=.fields #[.ref d,.int 0 0,.int es.size 0,.int ep 0]} }):wpAny (!5) A (pyIter<|.ref d) R E s:=by
 refine wpAny_pyIter_slot ty F.slot_dict_iter<|Bc F.slot_dict_iter ty F.entry_dict_iter ?go<|F.args_dict_iter_1 _;unfold Builtin.«dict.__iter__»;refine Aa ?_;unfold Builtin.Dict.dictSlotNone;refine Aa<|B8 ty ?_;show wpAny _ _ (pure<|AE d) _ _ s;refine Ae ?_;show wpAny _ _ (Builtin.Dict.showsAll d >>= _) _ _ s;unfold Builtin.Dict.showsAll;rw[if_neg (by rw[hd];exact AW)];refine Aa<|Ae<|Aa<|BU g dd<|Aa<|Es g dd ?_;refine Aa (AR<|Ae ⟨_,rfl,"dict_keyiterator",_,⟨_,Ao _ rfl,rfl⟩,F.slot_dict_keyiterator_next.lookup,?_⟩);simpa[rawInt]using k
def dY{a:DictEntry}{R:Option IR->Shared->Prop}(hit:s.heap.IsKeyIter it d i es.size ep)(g:s.heap.get? d=some o)(dd:o.data=.dict es ep)(f:es[i]?=some a)(k:∀h',h'.IsKeyIter it d (i+1) es.size ep->BC it s.heap h'->R (some a.key) {s with heap:=h'}):wpAny (!5) A (pyNext<|.ref it) R E s:=by
 obtain⟨io,c,m,b⟩:=id hit;have own:Builtin.Dict_items.ownsTuple "dict_keyiterator"=false:=by decide
 unfold pyNext;refine Aa (DU<|A6 (name:=BD "__next__") hit.typeIs F.slot_dict_keyiterator_next<|Bc F.slot_dict_keyiterator_next hit.typeIs F.entry_dict_keyiterator_next ?_<|F.args_dict_keyiterator_next_1 _);refine Aa<|Ae<|Aa<|Aa ?_;refine Aa<|BX hit.typeIs<|Ae<|Aa<|wpAny_fieldsOf c b ?_;simp only[own,AM,if_false];show wpAny _ _ (if(AE d==Bo)=true then _ else _) _ _ s;rw[if_neg (show ¬(AE d==Bo)=true from λz=>AW z)];refine Aa<|Ae<|Aa<|BU g dd ?_;rw[if_neg (!2)];refine Aa<|Ae<|Aa<|Es g dd ?_;rw[if_neg (!2)];refine Ae ?_;have H:¬((i:Int)<0):=by omega
 simp only[H,if_false,BA,f];refine Aa<|Aa<|BX hit.typeIs<|Ae<|Aa<|EY hit.typeIs ?_;show wpAny _ _ (setField (.ref it) 1 (rawInt<|(i:Int)+1) >>= _) _ _ s;refine Aa<|DI c b (!2) ?_;have e:(s.heap.update it (GP (·.setIfInBounds 1 (rawInt<|(i:Int)+1)))).IsKeyIter it d (i+1) es.size ep:=⟨_,BL _ c<|EW<|C3 b _,(FW ..).trans m,by rw[C3 b];simp[rawInt]⟩
 refine Aa (AO (Aa (EY (s:={s with heap:=s.heap.update it (GP (·.setIfInBounds 1 (rawInt<|(i:Int)+1)))}) e.typeIs ?_)));show wpAny _ _ (pure a.key) _ _ _;exact Ae<|Ae ⟨_,rfl,Ae<|k _ e<|BZ ..⟩
def dZ{R:Option IR->Shared->Prop}(f:A.handled=none)(hit:s.heap.IsKeyIter it d i es.size ep)(g:s.heap.get? d=some o)(dd:o.data=.dict es ep)(h:es[i]?=none)(k:∀h',EJ it s.heap h'->R none {s with heap:=h'}):wpAny (!5) A (pyNext<|.ref it) R E s:=by
 obtain⟨io,e,K,c⟩:=id hit;have own:Builtin.Dict_items.ownsTuple "dict_keyiterator"=false:=by decide
 unfold pyNext;refine Aa (DU<|A6 (name:=BD "__next__") hit.typeIs F.slot_dict_keyiterator_next<|Bc F.slot_dict_keyiterator_next hit.typeIs F.entry_dict_keyiterator_next ?_<|F.args_dict_keyiterator_next_1 _);refine Aa<|Ae<|Aa<|Aa ?_;refine Aa<|BX hit.typeIs<|Ae<|Aa<|wpAny_fieldsOf e c ?_;simp only[own,AM,if_false];show wpAny _ _ (if(AE d==Bo)=true then _ else _) _ _ s;rw[if_neg (show ¬(AE d==Bo)=true from λz=>AW z)];refine Aa<|Ae<|Aa<|BU g dd ?_;rw[if_neg (!2)];refine Aa<|Ae<|Aa<|Es g dd ?_;rw[if_neg (!2)];refine Ae ?_;have H:¬((i:Int)<0):=by omega
 simp only[H,if_false,BA,h];refine Aa<|Aa<|BX hit.typeIs<|Ae ?_;show wpAny _ _ (setField (.ref it) 0 .none >>= _) _ _ s;refine Aa<|DI e c (!2) ?_;show wpAny _ _ (newExc (.type "StopIteration") [] >>= _) _ _ _;simp only[newExc,newTuple];refine Aa (Aa<|AR (Aa (m:=firstArgMember _ _)<|F7 (a:=Bo) (by first|rfl|(simp only[firstArgMember];rfl))<|AR ?_<|by size_fits)<|by size_fits);simp only[raiseNew];refine Aa<|wpAny_handled ?_;rw[show A.in1.handled=none from f];refine Aa<|Ae<|wpAny_throw ?_;refine Aa (wpAny_isInstance (T:="StopIteration") (b:=true) ⟨_,Ao _ rfl,rfl⟩ isSubtype_stop<|Ae ?_);exact k _<|((BZ ..).extBut.push _).push _
def iT(o:Obj)(d:Addr):It:=
 ⟨λi H=>∃c p,H d=some (.frz o<|.dT c)/\c[i]?=some p,λi H x e=>∃b c k v,e=H/\x=.ref b/\H d=some (.frz o<|.dT c)/\c[i]?=some (k,v)/\H b=some (.tup<|k.map kV),
  λi H=>∃c,H d=some (.frz o<|.dT c)/\c.length<=i⟩
variable {tg:Pv}
def zmc{P:SZ}(d it:Addr)(dd:o.data=.dict es ep):
  Turn P w K tg (iT o d) [it] it (λi h=>h.IsKeyIter it d i es.size ep) where
 mem:=by simp
 obj:=λi h st b m=>by obtain⟨ob,e,c,j⟩:=st;rw[KM.mp m];exact⟨_,e,λv z=>by rw[j]at z;cases z⟩
 keep:=λi h a st k=>st.at λob e=>k it (!2) ob e
 item:=by intro X l hw n x i qp s σ H E I hf st p;subst l hw n;obtain⟨y,⟨k,v⟩,f,q⟩:=p;obtain⟨g,B,ent⟩:=Qi (I.hok d _ f) dd;obtain⟨C,b,he,A,m,J⟩:=ent i k v q;obtain⟨f0,f1,f2,r,f4,u⟩:=hf it (!2);refine dY st g dd he λa st' sb=>?_;have F:Inv X qp σ H {s with heap:=a}:=I.turned (t':=s.toks) (λb o m e=>(sb.2 b m).trans e) f0 f1 r f4 u;obtain⟨ob,e,c,j⟩:=id st';exact⟨C.key,rfl,QG (s:={s with heap:=a}) e c j (!1) ⟨.ref b,H,F,by rw[A];rfl,⟨b,y,k,v,rfl,rfl,f,q,m⟩,st',λb m=>(hf b m).1⟩⟩
 done:=by intro X l hw n x i qp s σ H E I hf st p;subst l hw n;obtain⟨y,f,q⟩:=p;obtain⟨g,B,_⟩:=Qi (I.hok d _ f) dd;obtain⟨f0,f1,f2,r,f4,u⟩:=hf it (!2);exact dZ (I.ok.hd x) st g dd (by simp;omega) λa G=>⟨rfl,I.turned (t':=s.toks) (λb o m e=>G b o m e) f0 f1 r f4 u⟩
 self:=λ_ _ _ _ _ st h=>Fg st h
variable {n:Nat}{p:Addr}{y:V}
def Jt(kvs:List (List Key×D)):List D:=kvs.map λp=>.tup<|p.1.map Su
def PV:D->Hg->Option (Wk×Hg)
 |.ref n,s=>match s[n]? with
  |some (.dt kvs)=>some (⟨Jt kvs,[]⟩,s.set n (.ft kvs))
  |_=>none
 |_,_=>none
def nH{ps:List (List Key×V)}{kvs:List (List Key×D)}(S:HC K H io st)(hn:io[n]?=some p)(f:H p=some (.frz o<|.dT ps))(r:KR (List Key) K H io ps kvs):Lz K H io ⟨Jt kvs,[]⟩ (iT o p) where
 go:= λi d H1 X s hd X1 E g=>by
  have u:=X1.frz _ _ _ f;have hd:(Jt kvs)[i]?=some d:=hd;unfold Jt at hd;rw[Ax]at hd;obtain⟨⟨k,y⟩,hk,rfl⟩:=Ie hd;have get:∀{l:List (List Key×V)} {m:List (List Key×D)} {i:Nat},KR (List Key) K H io l m->m[i]?=some (k,y)->∃v,l[i]?=some (k,v):=by
   intro l m i q
   induction q generalizing i with
   |nil=>intro e;simp at e
   |@cons a b _ _ h t C=>
    cases i with
    |zero=>
     intro e;simp at e;subst e;obtain⟨a1,a2⟩:=a;have z:a1=k:=h.1;subst z;exact⟨a2,rfl⟩
    |succ j=>intro e;exact C<|by simpa using e
  obtain⟨v,B⟩:=get r hk;refine⟨⟨ps,_,u,B⟩,λx J F=>?_⟩;obtain⟨b,G,L,M,rfl,rfl,c,w,I⟩:=F;rw[u]at c;cases c;rw[B]at w;cases w;exact⟨Ext.refl,E,⟨b,_,rfl,I,Ul k⟩⟩
 stop:=λH1 X s X1 E g=>⟨ps,X1.frz _ _ _ f,by show ps.length<=(Jt kvs).length;unfold Jt;rw[Af,KR.length r];exact Ag _⟩
 stop':=λH1 X s i A X1 E g=>⟨ps,X1.frz _ _ _ f,by have A:(Jt kvs).length<=i:=A;unfold Jt at A;rw[Af,<-KR.length r]at A;exact A⟩
def OI(m:ME):MI:=λU st=>(!8).bind λ(d,s)=>PV d s
def aN{o:Pv}(F:SE X o m):SI X tg o (OI m):=by
 rintro qp s σ H R I ⟨U,st,io,W,st',E,S,e,k⟩;obtain⟨⟨d,s1⟩,G,e⟩:=Hu e;cases d with
 |ref n=>
  unfold PV at e;exists 11;split at e
  ·rename_i A l;cases e;refine HD (F qp s σ H (λv c=>∃i,Ext io i H c/\HC X.K c (io++i) s1/\Rep X.K c (io++i) v (.ref n)) I ⟨U,st,io,_,s1,E,S,G,λv1 H1 w X1 S1 a=>⟨w,X1,S1,a⟩⟩) ?_;rintro v s2 ⟨x,H1,I1,L,w,X1,S1,a⟩;obtain⟨p,rfl,f⟩:=a;cases L;obtain⟨h,y,r⟩:=S1.ob n p _ f l;obtain⟨t1,Z,M⟩:=Nt I1<|.inr ⟨h,.inl y⟩;obtain⟨_,_,xs,_,o,es,ep,g,_,B,_,_⟩:=I1.hok p _ y;refine WS (o:=o) (es:=es) (ep:=ep) t1 M g B ?_;have J:=I1.kept (t':=s2.toks) (h':=s2.heap.push {cls:=.type "dict_keyiterator",data:=.fields #[.ref p,.int 0 0,.int es.size 0,.int ep 0]}) λb u q=>Ad _ q;have N:=Inv.freeze J y (Ad _ g) (!2) (!2) (!2) (!2);obtain⟨X2,C⟩:=M6 (o:=.frz o (.dT h)) (ob:=.ft A) S1 f l (λo u z=>by rw[y]at z;cases z) λc T P=>⟨o,h,P,KR.mono T r⟩
   refine⟨_,[_],_,_,_,rfl,N,zmc p _ B,⟨_,Ao _ rfl,rfl,rfl⟩,λb Q=>?_,?_⟩
   ·rw[KM.mp Q];refine I1.fpOk (Ag _) ?_;rw[HV (BF<|Aw<|Ak g)];exact I1.hok.fresh<|Ag _
   ·have j:((io++w)++[])[n]?=some p:=by rw[Ap];exact f
    have Y:=KR.mono (ka:=[]) (X2.kp S1) r;have ok:=nH C j Lc Y;refine k _ _ (w++[]) (X1.trans S1 X2) (by rw[<-Aj];exact C) (by rw[<-Aj];exact ok)
  ·cases e
 |_=>cases e
def Jq(st:Hg)(n:Nat)(k:D):Option (Option D):=match st[n]? with
 |some (.ft b)=>match k with
  |.tup ds=>(keysOf ds).map λq=>HS b q
  |_=>none
 |_=>none
def eA{k:D}{r:Option D}(S:HC K H io st)(a:io[n]?=some p)(f:Rep K H io y k)(h:Jq st n k=some r):∃o,Jk H p y o/\((r=none/\o=none)\/∃d v,r=some d/\o=some v/\Rep K H io v d):=by
 unfold Jq at h;split at h
 ·rename_i m e
  split at h
  ·rename_i ds;obtain⟨q,s,h⟩:=Ie h;subst h;obtain⟨ob,w,A,r⟩:=S.ob n p _ a e;obtain⟨b,xs,rfl,E,rs⟩:=f;have ex:=Pb rs s;subst ex;refine⟨_,.inr ⟨w,q,b,.inr ⟨ob,A⟩,rfl,E,rfl⟩,?_⟩
   rcases KR.val r q with⟨c,i⟩|⟨d,v,c,i,X⟩
   ·exact .inl ⟨c,i⟩
   exact .inr ⟨d,v,c,i,X⟩
  ·cases h
 ·cases h
variable {sl:Addr}{Q:Qqa}{α β:Type}
def zjJ{t:Tok}{Q:Int×Int×Nat->Shared->Prop}(a:s.heap.IsSliceOf sl .none .none (.int (-1) t))(h:Q ((n:Int)-1,-1,n) s):wpAny (!5) A (Builtin.Slice.sliceApplied (.ref sl)<|pure (n:Int)) Q E s:=by
 obtain⟨os,b,d,c⟩:=id a;unfold Builtin.Slice.sliceApplied Builtin.Slice.sliceFields;refine Aa<|Aa<|Ba b c (x:=.none) rfl<|Aa<|Ba b c (x:=.none) rfl<|Aa<|Ba b c (x:=.int (-1) t) rfl<|Ae ?_;refine Aa<|HT.II (.int (-1) t) ?_;show wpAny _ _ (if((-1:Int)==0)=true then _ else _) _ _ s;rw[if_neg (!1)];refine Aa<|HT.II .none<|Aa<|HT.II .none<|Aa<|Ae ?_;have e:Builtin.Slice.sliceAdjust none none (-1) (n:Int)=((n:Int)-1,-1):=by unfold Builtin.Slice.sliceAdjust;simp
 have i:Builtin.Slice.slicePlaces ((n:Int)-1) (-1) (-1)=n:=by
  unfold Builtin.Slice.slicePlaces;have m:¬((-1:Int) > 0):=by decide
  simp only[m,if_false];by_cases hn:(-1:Int)<(n:Int)-1
  ·simp[hn]
  simp[hn];omega
 show wpAny _ _ (match Builtin.Slice.sliceAdjust none none (-1) (n:Int) with|(lo,o)=>pure (lo,(-1:Int),Builtin.Slice.slicePlaces lo o (-1))) _ _ s;rw[e];show wpAny _ _ (pure ((n:Int)-1,(-1:Int),Builtin.Slice.slicePlaces ((n:Int)-1) (-1) (-1))) _ _ s;rw[i];exact Ae h
theorem bH{α β:Type}{f g:α->Option β}:∀{l:List α},(∀x∈l,f x=g x)->l.filterMap f=l.filterMap g
 |[],_=>rfl
 |a::l,h=>by rw[BY,BY,h a Ar,bH λx j=>h x (Al _ j)]
def yN(xs:Array IR):((Av xs.size).filterMap λ(m:Nat)=>xs[(((xs.size:Int)-1)+(m:Int)*-1).toNat]?).toArray=xs.toList.reverse.toArray:=by
 congr 1
 have e:∀m∈Av xs.size,xs[(((xs.size:Int)-1)+(m:Int)*-1).toNat]?=xs[xs.size-1-m]?:=λm hm=>by
  have:=List.mem_range.mp hm;have:(((xs.size:Int)-1)+(m:Int)*-1).toNat=xs.size-1-m:=by omega
  rw[this]
 rw[bH e];have b:(Av xs.size).filterMap (λm=>xs[xs.size-1-m]?)=((Av xs.size).map λk=>xs.size-1-k).filterMap (xs[·]?):=by rw[Fz];rfl
 rw[b,PySem.W.krv_range,List.filterMap_reverse,PySem.W.krv_all]
def zeK{t:Addr}{items:Array IR}{tk:Tok}(a:IsTup s.heap t items)(f:s.heap.IsSliceOf sl .none .none (.int (-1) tk))(h:Q (.ref s.heap.objs.size) {s with heap:=s.heap.push {cls:=.type "tuple",data:=.seq items.toList.reverse.toArray} }) (hsz:items.size<=sizeLine):wpAny (!5) A (getItem (.ref t)<|.ref sl) Q E s:=by
 have b:sizeOk (.seq items.toList.reverse.toArray):=by show items.toList.reverse.toArray.size<=sizeLine;rw[Az,Fo,AS];exact hsz
 obtain⟨os,c,d,n⟩:=id f;have e:s.TypeIs (.ref sl) "slice":=⟨os,c,d⟩;unfold getItem
 try with_reducible refine AO ?_
 first|refine Aa (Ae ?_)|skip
 refine Aa<|FQ a.typeIs (!1) ?_;refine Aa (A6 (name:=BD "__getitem__") a.typeIs BO<|Bc BO a.typeIs Fk ?_<|FA _ _);show wpAny _ _ (Builtin.Tuple.tupleItemsOf (.ref t) >>= _) _ _ s;refine Aa<|tupleItemsOf_ a ?_;refine Aa<|Ds e ?_;rw[if_pos (!1)];refine Aa<|zjJ f ?_;have i:¬((((items.size:Int)-1)==0&&(-1:Int)==1&&items.size==items.size)=true):=by intro q;rw[Aq,Aq]at q;exact absurd q.1.2<|by decide
 show wpAny _ _ (if(((items.size:Int)-1)==0&&(-1:Int)==1&&items.size==items.size)=true then _ else _) _ _ s;rw[if_neg i,yN]
 first
  |exact Aa (m:=Builtin.Tuple.tupleExact _) (AR (Ae ⟨_,rfl,Ae h⟩) b)
  |exact Aa (m:=Builtin.Tuple.tupleExact _) (AR (Aa<|Ae<|Ae ⟨_,rfl,Ae h⟩) b)
  |exact Aa (Aa (m:=Builtin.Tuple.tupleExact _)<|AR (Ae<|Ae ⟨_,rfl,Ae h⟩) b)
  |exact Aa (Aa (m:=Builtin.Tuple.tupleExact _)<|AR (Ae ⟨_,rfl,Ae h⟩) b)
variable {mk md:ME}{apos cpos p2:Pos}{se:Pv}
section
variable {a:Pv}{es:List Pv}
def Tc(st:Hg)(n:Nat)(k:D):Option (Option D):=LK (look st n k)<|Jq st n k
def zm1{k:D}{r:Option D}(S:HC K H io st)(f:io[n]?=some p)(g:Rep K H io y k)(h:Tc st n k=some r):∃o,Jk H p y o/\((r=none/\o=none)\/∃d v,r=some d/\o=some v/\Rep K H io v d):=by
 rcases NC h with h|h
 ·exact WB S f g h
 exact eA S f g h
def MQ(st:Hg)(n:Nat):Bool:=match st[n]? with
 |some (.dk _)=>true
 |some (.dt _)=>true
 |some (.fk _)=>true
 |some (.ft _)=>true
 |_=>false
def Wi(S:HC K H io st)(f:io[n]?=some p)(h:MQ st n=true):SJ H p:=by
 unfold MQ at h;split at h
 ·rename_i a e;obtain⟨b,q,_⟩:=S.ob n p _ f e;exact .inl ⟨b,.inl q⟩
 ·rename_i a e;obtain⟨b,q,_⟩:=S.ob n p _ f e;exact .inr ⟨b,.inl q⟩
 ·rename_i a e;obtain⟨o,b,q,_⟩:=S.ob n p _ f e;exact .inl ⟨b,.inr ⟨o,q⟩⟩
 ·rename_i a e;obtain⟨o,b,q,_⟩:=S.ob n p _ f e;exact .inr ⟨b,.inr ⟨o,q⟩⟩
 ·cases h
def O0(md mk:ME):ME:=λU st=>(md U st).bind λ(d,s1)=>match d with
 |.ref n=>if MQ s1 n=true then(mk U s1).bind λ(k,s2)=>(Tc s2 n k).map λr=>(r.getD .non,s2)else none
 |_=>none
def sM{o:Pv}(f:X.A.units+1<cLine)(h:SE X o md)(he:SE X e mk)(mm:M1 X o "get" apos e cpos:=by exact⟨rfl,rfl,rfl,rfl⟩):SE X (.Call (.Attribute o "get" apos) [e] [] cpos) (O0 md mk):=
 PE.imp (vZ f h he mm) <| by
  exists 1;obtain⟨⟨x,s1⟩,s,e⟩:=Hu e;cases x with
  |ref n=>
   obtain⟨hd,e⟩:=IA e;obtain⟨⟨y,s2⟩,w,e⟩:=Hu e;obtain⟨r,K,e⟩:=Ie e;cases e;refine⟨U,st,io,_,s1,E,S,s,λv1 H1 j c b l=>?_⟩;obtain⟨p,rfl,i⟩:=l;refine⟨p,rfl,Wi b i hd,U,s1,io++j,y,_,E.ext S c,b,w,λv2 u B m a R2=>?_⟩;obtain⟨o,g,z⟩:=zm1 a (LR i) R2 K;refine⟨o,g,?_⟩;rcases z with⟨rfl,rfl⟩|⟨C,v,rfl,rfl,q⟩
   ·exact((k.on b c).on a m).now a rfl
   exact((k.on b c).on a m).now a q
  |_=>cases e
def Nn:G2:=λd k st=>match d with
 |.ref n=>(Jq st n k).bind λr=>r.map λv=>(v,st)
 |_=>none
def bX{o i:Pv}(f:X.A.units+1<cLine)(h:SE X o md)(hi:SE X i mk)(j:MK i:=by intro _ _;rfl):SE X (.Subscript o i pos) (mB Nn md mk):=PE.imp (aF f h hi j) <| by
 exists 1;obtain⟨⟨x,s1⟩,m,e⟩:=Hu e;obtain⟨⟨y,s2⟩,s,e⟩:=Hu e;cases x with
 |ref n=>
  obtain⟨r,K,e⟩:=Hu (show(Jq s2 n y).bind _=some (d,st') from e);obtain⟨w,l,e⟩:=Ie e;cases e;subst l;refine⟨U,st,io,_,s1,E,S,m,λv1 H1 q b c u=>⟨U,s1,io++q,y,_,E.ext S b,c,s,λv2 I J B a R2=>?_⟩⟩;obtain⟨p,rfl,C⟩:=u;obtain⟨o,g,⟨z,_⟩|⟨L,v,hd,F,G⟩⟩:=eA a (LR C) R2 K
  ·cases z
  ·cases hd;subst F;exact⟨p,v,rfl,g,((k.on c b).on a B).now a G⟩
 |_=>cases e
def kX(K:Ab)(f:TE)(ts:TO):TE:=λσ H Q=>f σ H λx H1=>ts σ H1 λk b=>k=some (-1)/\∃a xs,x=.ref a/\b a=some (.tup xs)/\∀p,b p=none->Q (.ref p) (upd b p<|.tup xs.reverse)
def rR{f:TE}{ts:TO}(he:PE X e f)(g:PO X (some se) ts):PE X (.Subscript e (.Slice none none (some se) p2) pos) (kX X.K f ts):=by
 exists 6;refine Fc<|HD (he qp s σ H _ I h) ?_;rintro v s1 ⟨x,H1,m,n,p⟩;refine wpAny_Slice ?_;rw[Fj];refine Ae<|Ae ?_;refine HD (g qp s1 σ H1 _ m p) ?_;rintro c s3 ⟨k,y,I3,E,hk,a,xs,j,l,u⟩;subst hk;subst j;cases n;have I4:Inv X qp σ y {s3 with heap:=s3.heap.push {cls:=.type "slice",data:=.fields #[.none,.none,c]} }:=I3.kept (t':=s3.toks) λb ob q=>Ad _ q;obtain⟨z,r,d,B⟩:=I4.tuple<|IK.of (K:=X.K) l;have hlen:=r.length;show wpAny (!4) X.A (subscriptTail e (.Slice none none (some se) p2) (.ref a)<|.ref s3.heap.objs.size) (EP X qp σ Q) X.xe {s3 with heap:=s3.heap.push {cls:=.type "slice",data:=.fields #[.none,.none,c]} }
 cases E with
 |int i C=>
 refine tail_any (ops:=[.ref a,.ref s3.heap.objs.size]) d.typeIs PyProof.Rows.slot_tuple_getitem.lookup ?_ (by with_unfolding_all rfl);refine zeK d (FB ..) ?_ (by rw[Az];omega);refine⟨.ref (s3.heap.push {cls:=.type "slice",data:=.fields #[.none,.none,.int (-1) C]}).objs.size,_,I4.laid (t':=s3.toks) (o:=.tup xs.reverse) (λb ob q=>Ad _ q) (Ag _) ?_,rfl,u _<|I4.hok.fresh<|Ag _⟩;exact⟨by rw[Fo];exact B,_,cX r,Li.new _ _⟩
def Vl(m mk:ME):ME:=λU st=>(!8).bind λ(x,s1)=>(mk U s1).bind λ(k,s2)=>match x,k with
 |.tup ds,.int i=>if(decide (i=-1))=true then some (.tup ds.reverse,s2)else none
 |_,_=>none
def vD(he:SE X e m)(hk:SE X se mk):SE X (.Subscript e (.Slice none none (some se) p2) pos) (Vl m mk):=
 PE.imp (rR he<|aG hk) <| by
  exists 1;obtain⟨⟨x,s1⟩,s,e⟩:=Hu e;obtain⟨⟨y,s2⟩,w,e⟩:=Hu e;refine⟨U,st,io,x,s1,E,S,s,λv1 H1 A c a R1=>?_⟩;refine⟨U,s1,io++A,y,s2,E.ext S c,a,w,λv2 h j n o R2=>?_⟩;cases x with
  |tup ds=>
   cases y with
   |int i=>
    obtain⟨K,e⟩:=IA e;cases e;have b:=of_decide_eq_true K;subst b;obtain⟨p,xs,rfl,f,r⟩:=R1.ext a n;exact⟨_,R2,rfl,p,xs,rfl,f,λl g=>((k.on a c).on o n).tup o (bU r) g⟩
   |_=>cases e
  |_=>cases e
end
def zhk:typeLookup (.type "tuple") "keys"=pure none:=by rw[typeLookup_type,EX];kernel_rfl
structure N6(prog:SZ)(w:World)(A:Around)(D I:Addr)(n:Nat)(key val:Nat->IR)(T:Nat->P3->Prop):Prop where
 keep:∀i h h',T i h->(∀b o,b≠I->h.get? b=some o->h'.get? b=some o)->T i h'
 step:∀i (s:Shared) (Q:Unit->Shared->Prop) (E:Qqa),i<n->T i s.heap->(∀h' tk,T (i+1) h'->BC D s.heap h'->Q () {s with heap:=h',toks:=tk})->wpAny (!5) A (dictSet D (key i) (val i)) Q E s
variable {a I:Addr}{xs:Array IR}{x:Sr}{v:IR}{its:List IR}{key val:Nat->IR}{T:Nat->P3->Prop}{h h':P3}
def zk9{Q:Option IR->Shared->Prop}{k:Nat}{sl:Array (Option IR)}(f:s.heap.get? a=some {cls:=.type "tuple",dict:=none,data:=.seq xs k,slots:=sl})(j:A.handled=none)(h:∀h' tk,(∀b u,s.heap.get? b=some u->h'.get? b=some u)->Q none {s with heap:=h',toks:=tk}):wpAny (!5) A (getAttr? (.ref a) "keys") Q E s:=by
 obtain⟨n,g,d,tk,os⟩:=s;have m:∀c,(⟨n,g,d,c,os⟩:Shared).TypeIs (.ref a) "tuple":=λ_=>⟨_,f,rfl⟩;have f1:=FG;have o:=F.slot_tuple_getattribute.lookup;have f4:=F.slot_tuple_getattribute.bind<|.ref a;have p:=am_tuple_getattr_none;unfold getAttr? getAttrBy? getAttrBy
 repeat (any_goals (first|assumption|exact m _|((with_reducible show wpAny _ _ (call (GM "tuple.__getattribute__") _ _) _ _ _);refine D2 F.slot_tuple_getattribute (m _) am_entry_tuple_getattribute (F.args_tuple_getattribute_2 _ _) (meets_getattribute_miss_tuple a xs k sl _ _ zhk<|by decide +kernel) ⟨f,j,λh' c e i=>?_⟩)|wp_step))
 obtain⟨v,x,he⟩:=i.there;show wpAny _ _ (getattributeRaised _ _ _ _ _ _ _) _ _ _;unfold getattributeRaised
 repeat (any_goals (first|assumption|wp_step))
 exact h _ _ i.keeps
def Sr.nextN{R:Option IR->Shared->Prop}(hit:x.at_ s.heap it i)(h:x.is s.heap xs)(f:xs[i]?=some v)(k:∀h',x.at_ h' it (i+1)->BC it s.heap h'->R (some v) {s with heap:=h'}):
  wpAny (!5) A (pyNext<|.ref it) R E s:=by
 cases x with
 |l a=>exact Cs hit h f k
 |t a=>exact Eg (show s.heap.IsTupleIter it a i from hit) (show s.heap.IsTuple a xs from h) f k
def Sr.stopN{R:Option IR->Shared->Prop}(f:A.handled=none)(hit:x.at_ s.heap it i)(h:x.is s.heap xs)(g:xs[i]?=none)(k:∀h',EJ it s.heap h'->R none {s with heap:=h'}):
  wpAny (!5) A (pyNext<|.ref it) R E s:=by
 cases x with
 |l a=>exact CD f hit h g k
 |t a=>exact Ez f (show s.heap.IsTupleIter it a i from hit) (show s.heap.IsTuple a xs from h) g k
def jI{R:Result->Shared->Prop}{D:Addr}{h0:P3}(F:N6 prog w A.in1 D I n key val T)(P:A.in1.handled=none)(S:its.length=n)(f:D≠I)(l:x.ad≠D)(r:x.ad≠I):
  ∀(k i:Nat) (s:Shared),n-i=k->i<=n->x.at_ s.heap I i->x.is s.heap its.toArray->T i s.heap ->
  (∀(j:Nat) (v:IR),its[j]?=some v->∃p,v=.ref p/\IsTup s.heap p #[key j,val j]/\p≠D/\p≠I)->(∀b o,b≠D->b≠I->h0.get? b=some o->s.heap.get? b=some o) ->
  (∀h' tk,T n h'->(∀b o,b≠D->b≠I->h0.get? b=some o->h'.get? b=some o)->R (.ok<|.ret .none) {s with heap:=h',toks:=tk}) ->
  codeAny (!5) A (.builtin "dict.update.loop" ⟨[.ref D,.ref I,rawInt i,.none],[]⟩) R s:=by
 intro k
 induction k with
 |zero=>
  intro i s hk U hit a hd H h0k hR;have K:i=n:=by omega
  subst K;refine BB Uy ?_;rw[A8 NG _];show wpAny _ A.in1 (pyNext (.ref I) >>= _) _ _ s;refine Aa<|Sr.stopN P hit a (by simp[S]) λh' hx=>?_;show wpAny _ A.in1 (Builtin.Dict.addKeywords D [] >>= λ_=>ret .none) _ _ _;exact Aa<|Ae<|Ae<|hR h' s.toks (F.keep _ _ _ hd λb o m e=>hx b o m e) λb o Q y e=>hx b o y (h0k b o Q y e)
 |succ k W=>
  intro i s hk U hit a hd H h0k hR;have X:i<n:=by omega
  have h:i<its.length:=by omega
  refine BB Uy ?_;rw[A8 NG _];show wpAny _ A.in1 (pyNext (.ref I) >>= _) _ _ s;have Y:its[i]?=some its[i]:=Ai h;refine Aa<|Sr.nextN (v:=its[i]) hit a (by simp[h]) λh' E hx=>?_;obtain⟨p,ep,Z,nD,nI⟩:=H i _ Y;have z:IsTup h' p #[key i,val i]:=by obtain⟨o,g,c⟩:=Z;exact⟨o,hx.extBut p o nI g,c⟩
  have B:T i h':=F.keep _ _ _ hd λb o m e=>hx.extBut b o m e;rw[ep];refine Aa<|AO<|Aa<|CF<|gY (s:={s with heap:=h'}) z ?_;refine AO<|F.step i {s with heap:=h'} _ _ X B λy C hd2 G=>?_;have d:∀b o,b≠D->h'.get? b=some o->y.get? b=some o:=λb o m e=>G.extBut b o m e;refine Ae ⟨BE NG _,?_⟩;refine W (i+1) {s with heap:=y,toks:=C} (!0) (!0) ?_ ?_ hd2 (λj v Q=>?_) (λb o b1 L e=>d b o b1 (hx.extBut b o L<|h0k b o b1 L e)) λh3 J d3 k3=>hR h3 J d3 k3
  ·exact Sr.at_keep E λu e=>d I u (BF f) e
  ·exact Sr.is_keep (Sr.is_keep a λu e=>hx.extBut _ u r e) λu e=>d _ u l e
  obtain⟨q,e,⟨o,g,c⟩,M,N⟩:=H j v Q;exact⟨q,e,⟨o,d q o M<|hx.extBut q o N g,c⟩,M,N⟩
def Sr.pl(h:P3)(xs:Array IR):Sr->Prop
 |.l a=>PlainL h a xs
 |.t a=>Li h a xs
def Sr.pl_is(q:x.pl h xs):x.is h xs:=by
 cases x with
 |l a=>exact PlainL.isList q
 |t a=>exact Li.t q
def Sr.pl_keep(q:x.pl h xs)(k:∀b u,h.get? b=some u->h'.get? b=some u):x.pl h' xs:=by
 cases x with
 |l a=>exact PlainL.keeps q k
 |t a=>exact Li.keeps q k
def gW(G:A.handled=none)(f:x.pl s.heap its.toArray)(J:its.length=n)(L:∀I:Addr,s.heap.objs.size<I->N6 prog w A.in1.in1 s.heap.objs.size I n key val T) (h0:T 0 (s.heap.push Qqd))(M:∀(j:Nat) (v:IR),its[j]?=some v->∃p,v=.ref p/\IsTup s.heap p #[key j,val j])(h:∀h' tk,T n h'->(∀b o,s.heap.get? b=some o->h'.get? b=some o)->Q (.ref s.heap.objs.size) {s with heap:=h',toks:=tk}):
  wpAny (!5) A (call (.type "dict") [.ref x.ad]) Q E s:=by
 exists 5;rintro obj s₁ ⟨rfl,rfl⟩;have H:Shared.TypeIs {s with heap:=s.heap.push Qqd} (.ref s.heap.objs.size) "dict":=⟨_,Ao _ rfl,rfl⟩
 have k1:∀b o,s.heap.get? b=some o->(s.heap.push Qqd).get? b=some o:=λb o e=>Ad _ e;have i:=Sr.pl_keep f k1;have hlt:∀b o,s.heap.get? b=some o->b<s.heap.objs.size:=λb o e=>Ak e;have K:x.ad<s.heap.objs.size:=by obtain⟨o,g⟩:=Sr.is_get<|Sr.pl_is f;exact hlt _ o g
 refine⟨H,F.args_dict_init_2 _ _,?_⟩;unfold Builtin.«dict.__init__»;refine Aa ?_;unfold Builtin.Dict.selfAndRest;refine Aa<|B8 H ?_;show wpAny _ _ (pure (s.heap.objs.size,[AE x.ad])) _ _ _;refine Ae ?_;show wpAny _ _ (Builtin.Dict.updateFrom "dict.__init__" s.heap.objs.size (.ref x.ad) [] .none) _ _ _;unfold Builtin.Dict.updateFrom;have rest:∀(m:P3) (d:Nat),(∀b u,(s.heap.push Qqd).get? b=some u->m.get? b=some u) ->
   codeAny (!5) A.in1 (.builtin "dict.update.loop" ⟨[.ref s.heap.objs.size,.ref m.objs.size,rawInt (0:Nat),.none],[]⟩) (wants (λr s₂=>r=.none/\Q (.ref s.heap.objs.size) s₂) E) {s with heap:=m.push x.ob,toks:=d}:=by
  intro m d k2;have X:=Sr.pl_keep i k2;have y:s.heap.objs.size<m.objs.size:=by obtain⟨o,N,_⟩:=H;exact Ak<|k2 _ o N
  have C:∀b o,m.get? b=some o->(m.push x.ob).get? b=some o:=λb o e=>Ad _ e;have P:s.heap.objs.size≠m.objs.size:=Aw y;have S:x.ad≠s.heap.objs.size:=Aw K;have U:x.ad≠m.objs.size:=Aw<|B3 K y;have FF:=L m.objs.size y;refine jI (A:=A.in1) (h0:=s.heap) (x:=x) (its:=its) FF G J P S U n 0 {s with heap:=m.push x.ob,toks:=d} rfl (A9 _) ?_ (Sr.pl_is<|Sr.pl_keep X C) ?_ (λj v W=>?_) (λb o _ _ e=>C b o (k2 b o<|k1 b o e)) λh' tk Y Z=>?_
  ·exact Sr.at_new<|Ao _ (by cases x<;>rfl)
  ·exact FF.keep _ _ _ h0 λb o _ e=>C b o (k2 b o e)
  ·obtain⟨p,e,⟨o,g,c⟩⟩:=M j v W;exact⟨p,e,⟨o,C p o<|k2 p o<|k1 p o g,c⟩,Aw<|hlt p o g,Aw<|B3 (hlt p o g) y⟩
  exact⟨rfl,h h' tk Y λb o e=>Z b o (Aw<|hlt b o e) (Aw<|B3 (hlt b o e) y) e⟩
 cases x with
 |l a=>
  obtain⟨⟨cl,di,da,sl⟩,nn,g1,q,z,B⟩:=id i;simp only at q z B;subst q z B;refine Aa (Ds (show Shared.TypeIs {s with heap:=s.heap.push Qqd} (.ref a) "list" from⟨_,g1,rfl⟩) ?_);rw[if_pos (!1)];refine Aa<|dX g1 G λm d k2=>?_;simp only[Cq,if_true];refine Aa<|BR ?_;refine Aa<|Sr.iter (x:=.l a) (s:={s with heap:=m,toks:=d}) (xs:=its.toArray) (Sr.pl_is (x:=.l a)<|Sr.pl_keep (x:=.l a) i k2) ?_;exact Ae ⟨BE NG _,rest m d k2⟩
 |t a=>
  obtain⟨⟨cl,di,da,sl⟩,g1,q,z,nn,B⟩:=id i;simp only at q z B;subst q z B;refine Aa (Ds (show Shared.TypeIs {s with heap:=s.heap.push Qqd} (.ref a) "tuple" from⟨_,g1,rfl⟩) ?_);rw[if_pos (!1)];refine Aa<|zk9 g1 G λm d k2=>?_;simp only[Cq,if_true];refine Aa<|BR ?_;refine Aa<|Sr.iter (x:=.t a) (s:={s with heap:=m,toks:=d}) (xs:=its.toArray) (Sr.pl_is (x:=.t a)<|Sr.pl_keep (x:=.t a) i k2) ?_;exact Ae ⟨BE NG _,rest m d k2⟩
noncomputable abbrev KZ:=List Key×Addr×IR
def Mn(acc xs:List KZ):List KZ:=xs.foldl (λacc x=>storedH acc x.1 x.2.1 x.2.2) acc
variable {k:List Key}
def zjk{acc:List KZ}{x:KZ}(h:x∈storedH acc k a v):(∃y∈acc,y.1=x.1/\y.2.1=x.2.1)\/(x.1=k/\x.2.1=a):=by
 unfold storedH at h;split at h
 ·obtain⟨y,b,e⟩:=Re.mp h;refine .inl ⟨y,b,?_⟩;rw[<-e];unfold putAt
  split<;>exact⟨rfl,rfl⟩
 ·rcases On.mp h with h|h
  ·exact .inl ⟨x,h,rfl,rfl⟩
  rw[KM.mp h];exact .inr ⟨rfl,rfl⟩
theorem eM:∀{xs acc:List KZ}{x:KZ},x∈Mn acc xs->(∃y∈acc,y.1=x.1/\y.2.1=x.2.1)\/∃y∈xs,y.1=x.1/\y.2.1=x.2.1
 |[],acc,x,h=>.inl ⟨x,h,rfl,rfl⟩
 |z::zs,acc,x,h=>by
  rcases eM (xs:=zs) (acc:=storedH acc z.1 z.2.1 z.2.2) h with⟨y,f,e1,e2⟩|⟨y,f,e⟩
  ·rcases zjk f with⟨u,g,f1,f2⟩|⟨f1,f2⟩
   ·exact .inl ⟨u,g,f1.trans e1,f2.trans e2⟩
   exact .inr ⟨z,Ar,f1.symm.trans e1,f2.symm.trans e2⟩
  exact .inr ⟨y,Al _ f,e⟩
def zjl(acc:List KZ)(k:List Key)(a:Addr)(v:IR):(storedH acc k a v).length<=acc.length+1:=by unfold storedH;split<;>simp
theorem WK:∀(xs acc:List KZ),(Mn acc xs).length<=acc.length+xs.length
 |[],acc=>by show acc.length<=acc.length+0;omega
 |z::zs,acc=>by have f:=WK zs<|storedH acc z.1 z.2.1 z.2.2;have a:=zjl acc z.1 z.2.1 z.2.2;show(Mn (storedH acc z.1 z.2.1 z.2.2) zs).length<=_;rw[Ay];omega
def zkx{xs:List KZ}{x:KZ}(e:xs[i]?=some x):Mn [] (xs.take<|i+1)=storedH (Mn []<|xs.take i) x.1 x.2.1 x.2.2:=by rw[A7,e];unfold Mn;rw[FY];rfl
def Sv(xs:List KZ)(i:Nat):IR:=match xs[i]? with|some x=>.ref x.2.1|none=>.none
def R6(xs:List KZ)(i:Nat):IR:=match xs[i]? with|some x=>x.2.2|none=>.none
def FT(prog:SZ)(w:World)(D:Addr)(xs:List KZ)(i:Nat)(h:P3):Prop:=h.DictOfH (tupleKind<|Jm prog w) D (Mn []<|xs.take i)/\∀x∈xs,(tupleKind<|Jm prog w).is h x.1 x.2.1
def Wm{b:Addr}(q:(tupleKind<|Jm prog w).is h k b)(f:∀o,h.get? b=some o->h'.get? b=some o):(tupleKind<|Jm prog w).is h' k b:=by obtain⟨o,its,n,a,r⟩:=q;exact⟨o,its,n,f o a,r⟩
def jE{D:Addr}{xs:List KZ}(j:A.units<cLine)(f:D≠I)(l:∀x∈xs,x.2.1≠I)(q:∀x∈xs,x.2.1≠D)(hz:xs.length<=sizeLine):N6 prog w A D I xs.length (Sv xs) (R6 xs) (FT prog w D xs) where
 keep:=by
  rintro i h h' ⟨⟨o,es,ep,n,p,hd,he,v,H⟩,hk⟩ k;have all:∀x∈xs,(tupleKind<|Jm prog w).is h' x.1 x.2.1:=λx a=>Wm (hk x a) λo e=>k _ o (l x a) e;refine⟨⟨o,es,ep,k _ o f n,p,hd,he,λx a=>?_,H⟩,all⟩
  rcases eM a with⟨y,b,_⟩|⟨y,b,K,T⟩
  ·exact nomatch b
  have:=all y<|Ff b;rw[K,T]at this;exact this
 step:=by
  rintro i s Q E d ⟨hd,hk⟩ h;have e:xs[i]?=some xs[i]:=Ai d;have X:Sv xs i=.ref xs[i].2.1:=by unfold Sv;rw[e]
  have ev:R6 xs i=xs[i].2.2:=by unfold R6;rw[e]
  rw[X,ev];have r:(Mn []<|xs.take i).length<=sizeLine:=by have:=WK (xs.take i) [];rw[Bn,Bj]at this;omega
  refine wpAny_dictSet_heap (hsz:=r) j (hk _<|A5 d) hd λh' c m=>h h' _ ⟨?_,λx a=>?_⟩ m
  ·rw[zkx e];exact c
  exact Wm (hk x a) λo g=>m.extBut _ o (q x a) g
variable {κ:Type}
def Oh[DecidableEq κ](kvs more:List (κ×V)):List (κ×V):=more.foldl (λacc a=>putK acc a.1 a.2) kvs
def Og(kvs more:List (List Key×D)):List (List Key×D):=more.foldl (λacc a=>putD acc a.1 a.2) kvs
def Zk:D->Option (List Key×D)
 |.tup [.tup ks,v]=>(keysOf ks).map λq=>(q,v)
 |_=>none
def O7:List D->Option (List<|List Key×D)
 |[]=>some []
 |d::r=>(Zk d).bind λt=>(O7 r).map λts=>t::ts
def vN:∀{more:List (List Key×V)} {f:List KZ} {kvs:List (List Key×V)} {xs:List KZ},KT H more f->KT H kvs xs->KT H (Oh kvs more) (Mn xs f):=by
 intro more f kvs xs r
 induction r generalizing kvs xs with
 |nil=>intro q;exact q
 |@cons p q c d h t a=>
  intro b;have e:KT H (putK kvs p.1 p.2) (storedH xs q.1 q.2.1 q.2.2):=by rw[<-h.1];exact KT.put b p.1 h.2.1 h.2.2
  exact a e
def zmU:∀{more:List (List Key×V)} {Ni:List (List Key×D)} {kvs:List (List Key×V)} {f:List (List Key×D)},KR (List Key) K H io more Ni->KR (List Key) K H io kvs f->KR (List Key) K H io (Oh kvs more) (Og f Ni):=by
 intro more Ni kvs f r;unfold KR at r
 induction r generalizing kvs f with
 |nil=>intro q;exact q
 |@cons p q c d h t a=>
  intro b;have e:KR (List Key) K H io (putK kvs p.1 p.2) (putD f q.1 q.2):=by rw[<-h.1];exact KR.put b p.1 h.2
  exact a e
theorem aI(I:Inv X qp σ H s):∀{l:List V}{ds:List D} {f:List (List Key×D)} {its:List IR},Hj X.K H io l ds->O7 ds=some f->Vals l its ->
  ∃(g:List (List Key×V)) (xs:List KZ),KR (List Key) X.K H io g f/\KT H g xs/\its.length=xs.length/\xs.length=f.length/\∀(j:Nat) (v:IR) (x:KZ),its[j]?=some v->xs[j]?=some x->∃p,v=.ref p/\IsTup s.heap p #[.ref x.2.1,x.2.2]
 |_,[],f,_,h,e,r=>by
  cases e;cases (show _=[] from h)
  cases r;exact⟨[],[],.nil,.nil,rfl,rfl,λj v z h=>by simp at h⟩
 |_,d::ds,f,_,h,e,r=>by
  obtain⟨y,l,rfl,B,C⟩:=h;obtain⟨t,a,e⟩:=Hu e;obtain⟨Y,c,e⟩:=Ie e;subst e;cases r with
  |@cons _ u _ us m i=>
   obtain⟨g,xs,a1,a2,n,o,w⟩:=aI I C c i;unfold Zk at a;split at a
   ·rename_i ks v;obtain⟨q,eq1,a⟩:=Ie a;subst a;obtain⟨p,Z,rfl,A,rs⟩:=B;obtain⟨v1,w1,rfl,E,rs⟩:=rs;obtain⟨v2,Q,rfl,T,rs⟩:=rs
    cases (show Q=[] from rs)
    obtain⟨b,zs,rfl,F,G⟩:=E;have J:=Pb G eq1;subst J;cases m;obtain⟨ia,L,M,_⟩:=I.tuple<|IK.of (K:=X.K) A
    cases L with
    |cons N t1=>
     cases t1 with
     |cons P S=>
      cases S;rename_i U W;cases (show U=AE b from N)
      refine⟨(q,v2)::g,(q,b,W)::xs,.cons ⟨rfl,T⟩ a1,.cons ⟨rfl,F,P⟩ a2,by rw[Ay,Ay,n],by rw[Ay,Ay,o],λj v z a c=>?_⟩
      cases j with
      |zero=>
       cases a;cases c;exact⟨p,rfl,M⟩
      |succ j=>exact w j v z a c
   ·cases a
def kI{k:Nat}(f:HP k A):A.units+2<cLine:=by have:=f.un;omega
def QK:GN
 |[.ref n],st=>(HZ st n).bind λds=>(O7 ds).bind λf=>if fits f.length=true then some (.ref st.length,st++[.dt (Og [] f)])else none
 |[.tup ds],st=>(O7 ds).bind λf=>if fits f.length=true then some (.ref st.length,st++[.dt (Og [] f)])else none
 |_,_=>none
def bR{r:List V}{ds:List D}{l:List (List Key×D)}(I:Inv X qp σ H s)(M:A.handled=none)(N:A.units+2<cLine)(pl:x.pl s.heap its.toArray)(P:Vals r its)(r1:Hj X.K H io r ds)(S:O7 ds=some l)(hf:l.length<=sizeLine)(h:∀s' f,Inv X qp σ (upd H s.heap.objs.size<|.dT<|Oh [] f) s'->KR (List Key) X.K H io f l->Q (.ref s.heap.objs.size) s'):wpAny (!4) A (call (.type "dict") [.ref x.ad]) Q E s:=by
 obtain⟨f,xs,a1,a2,m,z,B⟩:=aI I r1 S P;have C:xs.length<=sizeLine:=by rw[z];exact hf
 have c:∀y∈xs,(tupleKind<|Jm X.prog X.w).is s.heap y.1 y.2.1:=by
  clear B z m C a1
  induction a2 with
  |nil=>intro y hy;exact nomatch hy
  |@cons p q ps qs F t U=>
   intro y hy;rcases Os.mp hy with e|hy
   ·subst e;exact Nu I.hok (by rw[<-F.1];exact F.2.1)
   exact U y hy
 have d:∀y∈xs,y.2.1<s.heap.objs.size:=λy hy=>by obtain⟨o,_,_,g,_⟩:=c y hy;exact Ak g
 refine gW (T:=FT X.prog X.w s.heap.objs.size xs) (key:=Sv xs) (val:=R6 xs) M pl m (λi G=>jE N (Aw G) (λy hy=>Aw (B3 (d y hy) G)) (λy hy=>Aw (d y hy)) C) ⟨Heap.DictOfH.new s.heap,λy hy=>Wm (c y hy) λo g=>Ad _ g⟩ (λj v e=>?_) λh' tk W Y=>?_
 ·have Z:j<xs.length:=by
   rw[<-m];exact(KF.mp e).1
  have ex:xs[j]?=some xs[j]:=Ai Z;obtain⟨p,ep,tp⟩:=B j v _ e ex;refine⟨p,ep,?_⟩;unfold Sv R6;rw[ex];exact tp
 ·have hlV:f.length=xs.length:=Bg a2;obtain⟨⟨o,es,ep,ho,hc,n,he,u,J⟩,_⟩:=W;rw[AU]at he u J;have L:KT H (Oh [] f) (Mn [] xs):=vN a2 .nil;have hm:(Oh [] f).length<=sizeLine:=by
   have:=WK xs [];rw[Bg L];rw[Bj]at this;omega
  exists 7;refine h _ f (I.laid (a:=s.heap.objs.size) (o:=.dT (Oh [] f)) (t':=tk) Y (Ag _) ⟨hm,hd,Mn [] xs,?_,o,es,ep,ho,hc,n,he,J⟩) a1;exact KT.keeps L λb r e=>by rw[HV (Kk e<|I.hok.fresh<|Ag _)];exact e
def zjG(g:X.calm=true)(j:X.A.units+2<cLine):Jz X (.type "dict") QK:=by
 exists 0;have fin:∀(a:List (List Key×D)),(d,st')=(D.ref st.length,st++[O.dt (Og [] a)])->∀c b,Inv X qp σ (upd H s.heap.objs.size<|.dT<|Oh [] b) c->KR (List Key) X.K H io b a->∃v h,Inv X qp σ h c/\RelV v (.ref s.heap.objs.size)/\Q v h:=λa z c b B a1=>by
  cases z;obtain⟨C,F⟩:=PZ (o:=.dT (Oh [] b)) (ob:=.dt (Og [] a)) S (I.hok.fresh<|Ag _) λh T e=>⟨_,e,zmU (KR.mono T a1) .nil⟩
  exact⟨.ref s.heap.objs.size,_,B,rfl,k _ _ [s.heap.objs.size] C F ⟨s.heap.objs.size,rfl,by rw[<-S.len];exact getElem?_len io _⟩⟩
 unfold QK at e;split at e
 ·rename_i n;obtain⟨zs,G,e⟩:=Hu e;obtain⟨a,i,e⟩:=Hu e;exists 3;obtain⟨v,rfl,p,rfl,m⟩:=R.one;obtain⟨u,rfl,y⟩:=r.one;cases y;obtain⟨q,J,E⟩:=KA S m G;obtain⟨its,f,pl,L⟩:=I.list J;exact bR (x:=.l p) I (I.ok.hd g) j pl f E i (of_decide_eq_true hf)<|fin a (by cases e;rfl)
 ·rename_i zs;obtain⟨a,i,e⟩:=Hu e;exists 3;obtain⟨v,rfl,p,q,rfl,m,E⟩:=R.one;obtain⟨u,rfl,y⟩:=r.one;cases y;obtain⟨L,its,f,pl⟩:=(show Jy X.prog X.w H s.heap p (.tup q) from I.hok p _ m)
  exact bR (x:=.t p) I (I.ok.hd g) j pl f E i (of_decide_eq_true hf)<|fin a (by cases e;rfl)
 ·cases e
def IZ:G2:=intD (λi j=>decide (Builtin.Int.intBits i<=2^20)&&decide (Builtin.Int.intBits j<=2^20)) λi j=>.int<|i*j
def Rl:Jr X (binaryOp .Mult) IZ:=Qb (C:=λi j=>Builtin.Int.intBits i<=2^20/\Builtin.Int.intBits j<=2^20) (Sk λi j _ _ _ _ _ a q=>PyProof.Rows.mul_int q (IntMulOk.of_bits a.1 a.2)) λi j h=>by rw[Aq]at h;exact⟨of_decide_eq_true h.1,of_decide_eq_true h.2⟩
def FK(prog:SZ)(w:World)(D:Addr)(kvs:List (Key×IR))(i:Nat)(h:P3):Prop:=h.DictOf (Jm prog w) D<|merged []<|kvs.take i
def QA(xs:List IR)(i:Nat):IR:=match xs[i]? with|some x=>x|none=>.none
def R0(xs:List (Key×IR))(i:Nat):IR:=match xs[i]? with|some x=>x.2|none=>.none
def jD{D:Addr}{kvs:List (Key×IR)}{f:List IR}(g:D≠I)(hz:kvs.length<=sizeLine)(hk:∀(j:Nat) (l:Key×IR),kvs[j]?=some l->(Jm prog w).is l.1 (QA f j)=true):N6 prog w A D I kvs.length (QA f) (R0 kvs) (FK prog w D kvs) where
 keep:=λi h h' ⟨o,es,ep,b,r⟩ k=>⟨o,es,ep,k D o g b,r⟩
 step:=λi s Q E c hd h=>by
  have e:kvs[i]?=some kvs[i]:=Ai c;have ev:R0 kvs i=kvs[i].2:=by unfold R0;rw[e]
  rw[ev];have d:(merged []<|kvs.take i).length<=sizeLine:=by have:=Xm (kvs.take i) [];rw[Bn,Bj]at this;omega
  refine Fn (hk i _ e) hd (λh' a m=>h h' _ ?_ m) d;have n:stored (merged []<|kvs.take i) kvs[i].1 kvs[i].2=merged [] (kvs.take<|i+1):=(merged_take_succ [] kvs i _ e).symm;unfold FK;rw[<-n];exact a
theorem eK{h:P3}:∀{its:List IR} {kvs:List (Key×IR)},its.length=kvs.length->(∀(j:Nat) (v:IR) (f:Key×IR),its[j]?=some v->kvs[j]?=some f->Oi prog w h v f) ->
  ∃g:List IR,∀(j:Nat) (v:IR) (f:Key×IR),its[j]?=some v->kvs[j]?=some f->∃p,v=.ref p/\IsTup h p #[QA g j,f.2]/\(Jm prog w).is f.1 (QA g j)=true
 |[],kvs,_,_=>⟨[],λj v f e=>by simp at e⟩
 |v::its,[],e,_=>by cases e
 |v::its,f::kvs,e,l=>by
  obtain⟨g,hk⟩:=eK (its:=its) (kvs:=kvs) (by simpa using e) λj u q a b=>l (j+1) u q a b;obtain⟨p,c,a,b,d⟩:=l 0 v f rfl rfl;refine⟨c::g,λj u q f1 f2=>?_⟩
  cases j with
  |zero=>
   cases f1;cases f2;exact⟨p,a,b,d⟩
  |succ j=>exact hk j u q f1 f2
def SY:GN
 |[.tup ds],st=>(PR ds).bind λf=>if fits f.length=true then some (.ref st.length,st++[.dk (Of [] f)])else none
 |_,_=>none
def zjH(g:X.calm=true):Jz X (.type "dict") SY:=by
 exists 0;unfold SY at e;split at e
 ·rename_i zs;obtain⟨y,l,e⟩:=Hu e;exists 3;cases e;obtain⟨v,rfl,p,z,rfl,B,C⟩:=R.one;obtain⟨u,rfl,F⟩:=r.one;cases F;obtain⟨hz,its,G,pl⟩:=(show Jy X.prog X.w H s.heap p (.tup z) from I.hok p _ B)
  obtain⟨c,b,a1,a2,m,J,L⟩:=VP I C l G;have A:b.length<=sizeLine:=by rw[J];exact of_decide_eq_true hf
  obtain⟨h,hk⟩:=eK m L;have E:∀(j:Nat) (n:Key×IR),b[j]?=some n->(Jm X.prog X.w).is n.1 (QA h j)=true:=λj n e=>by
   have K:j<its.length:=by rw[m];exact(KF.mp e).1
   obtain⟨_,_,_,q⟩:=hk j _ n (Ai K) e;exact q
  refine gW (x:=.t p) (T:=FK X.prog X.w s.heap.objs.size b) (key:=QA h) (val:=R0 b) (I.ok.hd g) pl m (λi M=>jD (Aw M) A E) (Gz s.heap) (λj v e=>?_) λh' tk f N=>?_
  ·have K:j<b.length:=by
    rw[<-m];exact(KF.mp e).1
   have ex:b[j]?=some b[j]:=Ai K;obtain⟨P,ep,U,_⟩:=hk j v _ e ex;refine⟨P,ep,?_⟩;unfold R0;rw[ex];exact U
  ·have f:h'.DictOf (Jm X.prog X.w) s.heap.objs.size (merged [] b):=by
    have:FK X.prog X.w s.heap.objs.size b b.length h':=f;unfold FK at this
    rwa [AU]at this
   have W:c.length=b.length:=Bg a2;have hm:(M5 [] c).length<=sizeLine:=by have:=XO c [];rw[Bj]at this;omega
   exists 7;refine⟨.ref s.heap.objs.size,_,I.laid (a:=s.heap.objs.size) (o:=.dK (M5 [] c)) (t':=tk) N (Ag _)<|Vw hm hd (a2.merge .nil) f,rfl,?_⟩;obtain⟨Y,Z⟩:=PZ (o:=.dK (M5 [] c)) (ob:=.dk (Of [] y)) S (I.hok.fresh<|Ag _) λH' T e=>⟨_,e,cC (KR.mono T a1) .nil⟩
   exact k _ _ [s.heap.objs.size] Y Z ⟨s.heap.objs.size,rfl,by rw[<-S.len];exact getElem?_len io _⟩
 ·cases e
def OP:GN:=K7 SX SY
def Xc(f:X.calm=true):Jz X (.type "dict") OP:=Qh (zlO f)<|zjH f
def ZG:entryFor table "any.loop"=some Builtin.«any.loop»:=F.entry_any_loop
def TC:plainId "any.loop"=true:=F.plain_any_loop
def NW(z:Str):Bool:=(z.length:Int) != 0
def rK{R:Result->Shared->Prop}{l:Addr}(g:A.in1.handled=none)(f:l≠I):∀(ss:List Str) (i:Nat) (s:Shared),StrsAre (its.drop i) ss->(∀z∈ss,z.length<=sizeLine)->s.heap.IsListIter I l i->s.heap.IsList l its.toArray ->
  (∀h' tk,(∀b o,b≠I->s.heap.get? b=some o->h'.get? b=some o)->R (.ok<|.ret<|.bool<|ss.any NW) {s with heap:=h',toks:=tk})->codeAny (!5) A (.builtin "any.loop" ⟨[.ref I],[]⟩) R s:=by
 intro ss
 induction ss with
 |nil=>
  intro i s c v hit n p;have hd:its.drop i=[]:=by generalize its.drop i=d at c;cases c;rfl
  have K:its[i]?=none:=List.getElem?_eq_none (by have:=congrArg F5 hd;simp at this;omega);refine BB ZG (by
   rw[A8 TC _];refine Aa (CD g hit n (by simpa using K) λh' x=>Aa (BR<|Ae ?_));exact p h' s.toks λb o a e=>x b o a e)
 |cons z zs Q=>
  intro i s c v hit n p;obtain⟨t,rest,hd,T⟩:∃t rest,its.drop i=.str z t::rest/\StrsAre rest zs:=by
   generalize its.drop i=d at c;cases c with
   |cons y t r=>exact⟨t,_,rfl,r⟩
  have x:its[i]?=some (.str z t):=by have:=congrArg (λl=>l[0]?) hd;simpa using this
  have hd2:its.drop (i+1)=rest:=by have:=congrArg List.tail hd;simpa using this
  have X:sizeLine=16777216:=Ct;have j:=v z Ar;refine BB ZG (by
   rw[A8 TC _];refine Aa<|Cs hit n (by simpa using x) λh' h E=>Aa (AO<|Fu (!0)<|Aa<|BP ?_);have kp:∀b o,b≠I->s.heap.get? b=some o->h'.get? b=some o:=λb o a e=>E.extBut b o a e;show wpAny _ _ (if NW z=true then _ else _) _ _ _
   cases a:NW z with
   |true=>
    rw[if_pos rfl];refine Aa<|BR<|Ae ?_;have q:=p h' (s.toks+1+1) kp;rw[BV,a]at q;exact q
   |false=>
    rw[if_neg (!1)];refine Ae ⟨BE TC _,Q (i+1) _ (by rw[hd2];exact T) (λu B=>v u (Al _ B)) h (DH n λu e=>kp l u f e) λC H F=>?_⟩;have q:=p C H λb o m e=>F b o m (kp b o m e);rw[BV,a]at q;exact q)
def MF:GN
 |[.ref n],st=>(HZ st n).bind λds=>(strsOf ds).bind λss=>if(ss.all λz=>decide (z.length<=sizeLine))=true then some (.bl (ss.any NW),st)else none
 |_,_=>none
def yU(f:X.calm=true):Jz X (.builtin "any") MF:=by
 exists 0;unfold MF at e;split at e
 ·rename_i n;obtain⟨l,w,e⟩:=Hu e;obtain⟨ss,x,e⟩:=Hu e;obtain⟨a,e⟩:=IA e;cases e;obtain⟨v,rfl,p,rfl,y⟩:=R.one;obtain⟨u,rfl,A⟩:=r.one;cases A;obtain⟨B,E,K⟩:=KA S y w;obtain⟨its,T,pl,i⟩:=I.list E;have g:=Wv K T x;have c:p<s.heap.objs.size:=by
   obtain⟨o,_,e,_⟩:=pl;exact Ak e
  have h:∀z∈ss,z.length<=sizeLine:=λz i=>of_decide_eq_true (List.all_eq_true.mp a z i);refine FH F.kind_any F.plain_any F.entry_any (F.args_any1 _) (by
   unfold Builtin.«any»;refine Aa (m:=oneArg "any" _) (Ae<|Aa<|Cy pl.isList<|Ae ⟨BE TC _,?_⟩);refine rK (I.ok.hd f) (Aw c) ss 0 _ (by simpa using g) h ⟨_,Ao _ rfl,rfl,rfl⟩ (pl.keeps λb o e=>Ad _ e).isList λh' tk j=>?_;exact⟨.bl _,H,I.kept (t':=tk) λb o q=>j b o (Aw<|Ak q) (Ad _ q),rfl,k.now S rfl⟩)
 ·cases e
def Kh[DecidableEq κ](kvs:List (κ×α))(q:κ):List (κ×α):=kvs.eraseIdx<|kvs.findIdx λa=>decide (a.1=q)
def UP{α β:Type}{R:α->β->Prop}:∀{l:List α}{m:List β} (j:Nat),Paired R l m->Paired R (l.eraseIdx j) (m.eraseIdx j):=by
 intro l m j h
 induction h generalizing j with
 |nil=>exact .nil
 |cons z t ih=>
  cases j with
  |zero=>exact t
  |succ j=>exact .cons z<|ih j
def UA[DecidableEq κ]{R:κ×α->κ×β->Prop}(g:∀p q,R p q->p.1=q.1){l:List (κ×α)}{m:List (κ×β)}(q:κ)(h:Paired R l m):(l.findIdx λf=>decide (f.1=q))=m.findIdx λf=>decide (f.1=q):=by
 induction h with
 |nil=>rfl
 |@cons a b l m z t c=>rw[CB,CB,g _ _ z,c]
theorem W5{α β:Type}(f:α->β):∀(l:List α) (k:Nat),(l.map f).eraseIdx k=(l.eraseIdx k).map f
 |[],_=>rfl
 |_::_,0=>rfl
 |a::l,k+1=>by show f a::(l.map f).eraseIdx k=f a::(l.eraseIdx k).map f;rw[W5 f l k]
theorem VE{κ α:Type}[DecidableEq κ]{k:κ}{p:α}:∀{xs:List (κ×α)} {j:Nat},(xs.map (·.1)).Nodup->xs[j]?=some (k,p)->(xs.findIdx λf=>decide (f.1=k))=j
 |[],j,_,h=>by simp at h
 |x::xs,0,_,h=>by
  have h:x=(k,p):=by simpa using h
  rw[CB,h,decide_eq_true rfl];rfl
 |x::xs,j+1,a,h=>by
  have h:xs[j]?=some (k,p):=by simpa using h
  rw[An,Dw]at a;have b:¬x.1=k:=λe=>a.1<|Re.mpr ⟨(k,p),AG h,e.symm⟩;rw[CB,decide_eq_false b,VE a.2 h];rfl
section
variable {K:Type} [DecidableEq K] {knd:HeapKind prog w K}
def Zr{xs:List (K×Addr×IR)}{k:K}{Q:Option DictEntry->Shared->Prop}(q:knd.room A)(f:knd.is s.heap k a)(hm:s.heap.DictOfH knd d xs)(hz:xs.length<=sizeLine)(g:∃(j:Nat) (p:Addr×IR),xs[j]?=some (k,p))(hQ:∀(j:Nat) (p:Addr×IR) h',xs[j]?=some (k,p)->h'.DictOfH knd d (xs.eraseIdx j)->BC d s.heap h'->Q (some ⟨knd.hash k,.ref p.1,p.2⟩) {s with heap:=h',toks:=s.toks+knd.draws k}):
  wpAny (!5) A (Builtin.Dict.takeOut d<|.ref a) Q E s:=by
 obtain⟨o,es,ep,b,n,hd,he,c,m⟩:=hm;have i:es.size<=sizeLine:=by have e:=Et he;omega
 unfold Builtin.Dict.takeOut
 try with_reducible refine AO ?_
 refine Aa<|knd.pyHash q f<|Aa<|Fp (s:={s with toks:=s.toks+knd.draws k}) q f b hd he c m (λhno=>?_) λj p h=>?_
 ·obtain⟨j,p,h⟩:=g;exact absurd h<|hno j p
 ·refine Aa<|BU (s:={s with toks:=s.toks+knd.draws k}) b hd ?_;rw[entry_at he j,h];refine Aa (wpAny_updateDictKeys (hz:=i) (s:={s with toks:=s.toks+knd.draws k}) b hd<|Ae<|hQ j p _ h ⟨_,_,ep+1,BL _ b<|Obj.isFreed_of_dict<|Fh hd _,n.mapDictKeys _,Fh hd _,?_,?_,?_⟩<|BZ ..)
  ·have v:(es.eraseIdxIfInBounds j).toList=es.toList.eraseIdx j:=by obtain⟨l⟩:=es;simp
   rw[v,he,W5]
  ·intro x y;exact knd.keeps (c x<|Ed y) b hd<|BZ ..
  rw[<-W5];exact m.sublist<|EZ _ _
def vM(d a:Addr):MeetsIn prog w (Builtin.«dict.pop» ⟨[.ref d,.ref a],[]⟩) (λA R s=>knd.room A.in1/\∃k xs,knd.is s.heap k a/\s.heap.DictOfH knd d xs/\xs.length<=sizeLine/\(∃(j:Nat) (p:Addr×IR),xs[j]?=some (k,p)) /\
  ∀(j:Nat) (p:Addr×IR) h' tk,xs[j]?=some (k,p)->h'.DictOfH knd d (xs.eraseIdx j)->BC d s.heap h'->R (.ok<|.ret p.2) {s with heap:=h',toks:=tk}):=
 .of_wp <| by
  rintro A R s ⟨x,k,xs,b,hm,y,c,h⟩;unfold Builtin.«dict.pop»;refine Aa ?_;unfold Builtin.Dict.keyAndDefault;refine Aa<|B8 hm.typeIs<|Ae ?_;have E:(keyPart<|AE a).isSome=false:=rfl;obtain⟨o,es,ep,H,Q,hd,he,I,T⟩:=id hm;have i:es.isEmpty=false:=by obtain⟨j,p,m⟩:=c;have v:=Et he;have X:j<xs.length:=(KF.mp m).1;rw[Array.isEmpty_eq_false_iff];intro e;rw[e]at v;simp at v;omega
  simp only[E,AM,if_false];refine Aa<|BU H hd<|Aa<|Ae ?_;simp only[i,AM,if_false];refine Aa<|Zr x b hm y c λj p h' m n K=>?_;rw[show(some (⟨knd.hash k,.ref p.1,p.2⟩:DictEntry)).isNone=false from rfl];refine Aa<|BP<|Ae ⟨p.2,rfl,?_⟩;exact h j p h' _ m n K
end
variable {kvs:List (List Key×V)}
def aT{xs:List (List Key×Addr×IR)}{v:V}(r:KT H kvs xs)(l:IB kvs k=some v):∃(j:Nat) (p:Addr×IR),xs[j]?=some (k,p):=by
 have h:=r.val k;rw[l]at h;cases a:atKey xs k with
 |none=>rw[a]at h;exact h.elim
 |some p=>
  unfold atKey at a;obtain⟨x,b,d⟩:=Ie a;have hk:x.1=k:=by have h0:=GA b;simpa using h0
  obtain⟨j,c,e⟩:=CN<|CW b;exact⟨j,x.2,by rw[Ai c,e,<-hk]⟩
def oC{b:Addr}{v:V}(g:A.units+1<cLine)(I:Inv X qp σ H s)(e:H a=some (.dT kvs))(r:H b=some (.tup<|k.map kV))(l:IB kvs k=some v)(h:∀f s',Inv X qp σ (upd H a<|.dT<|Kh kvs k) s'->RelV v f->Q f s'):wpAny (!4) A (call (.builtin "dict.pop") [.ref a,.ref b]) Q E s:=by
 obtain⟨z,hd,xs,rel,m⟩:=Vp I.hok e;have T:xs.length<=sizeLine:=by rw[<-Bg rel];exact z
 refine Dr CG m.typeIs EK (PySem.F.args_dict_pop_2 _ _) (vM (knd:=tupleKind (Jm X.prog X.w)) a b) ⟨BK g,k,xs,Nu I.hok r,m,T,aT rel l,λj p h' tk o n u=>h _ _ ?_ ?_⟩
 ·obtain⟨q,es,ep,x,B,C,G,_,J⟩:=n;have d:(xs.map (·.1)).Nodup:=by obtain⟨_,_,_,_,_,_,_,_,d⟩:=m;exact d
  have L:(kvs.findIdx λM=>decide (M.1=k))=j:=(UA (λp q z=>z.1) k rel).trans<|VE d o;have N:(Kh kvs k).length<=sizeLine:=AB (C8 _ _) z;have i:KT H (Kh kvs k) (xs.eraseIdx j):=by unfold Kh;rw[L];exact UP j rel
  refine T8 I (by rw[e];exact CJ) u ⟨q,x⟩ ⟨N,hd,_,i.keeps λc P y=>?_,q,es,ep,x,B,C,G,J⟩;rw[HV (QT y e λz=>nomatch z)];exact y
 ·have d:(xs.map (·.1)).Nodup:=by obtain⟨_,_,_,_,_,_,_,_,d⟩:=m;exact d
  have K:=rel.val k;rw[l,atKey_of_get d o]at K;exact K
def oJ(f ty:TE):TE:=λσ H Q=>f σ H λx H1=>∃a,x=.ref a/\SJ H1 a/\ty σ H1 λy c=>∃kvs k b v,c a=some (.dT kvs)/\y=.ref b/\c b=some (.tup<|k.map kV)/\IB kvs k=some v/\Q v (upd c a<|.dT<|Kh kvs k)
def wB{o:Pv}{f ty:TE}(g:X.A.units+1<cLine)(j:PE X o f)(he:PE X e ty)(m:M1 X o "pop" apos e cpos):PE X (.Call (.Attribute o "pop" apos) [e] [] cpos) (oJ f ty):=by intro qp s σ H Q I h;refine DZ m.base m.few m.line C5 CG E3<|HD (j qp s σ H _ I h) ?_;rintro u s1 ⟨x,H1,i,n,a,ex,d,p⟩;subst ex;obtain rfl:u=AE a:=n;obtain⟨t1,w,_⟩:=Nt i d;refine⟨t1,w,?_⟩;rw[m.trees];refine B1 rfl<|CK<|Cp<|HD (he qp s1 σ H1 _ i p) λE s2 ⟨y,F,K,T,kvs,k,b,v,q,r,z,l,B⟩=>Dc ?_;subst r;obtain rfl:E=AE b:=T;exact oC g K q z l λG s3 C c=>⟨v,_,C,c,B⟩
def QQ(md mk:ME):ME:=λU st=>(md U st).bind λ(d,s1)=>match d with
 |.ref n=>if MQ s1 n=true then(mk U s1).bind λ(k,s2)=>match k,s2[n]? with
   |.tup ds,some (.dt kvs)=>(keysOf ds).bind λq=>(HS kvs q).map λv=>(v,s2.set n (.dt<|Kh kvs q))
   |_,_=>none
  else none
 |_=>none
def vC{o:Pv}(g:X.A.units+1<cLine)(j:SE X o md)(he:SE X e mk)(mm:M1 X o "pop" apos e cpos:=by exact⟨rfl,rfl,rfl,rfl⟩):SE X (.Call (.Attribute o "pop" apos) [e] [] cpos) (QQ md mk):=
 PE.imp (wB g j he mm) <| by
  exists 1;obtain⟨⟨x,s1⟩,l,e⟩:=Hu e;cases x with
  |ref n=>
   obtain⟨hd,e⟩:=IA e;obtain⟨⟨y,s2⟩,B,e⟩:=Hu e;refine⟨U,st,io,_,s1,E,S,l,λv1 H1 C m h F=>?_⟩;obtain⟨p,rfl,s⟩:=F;refine⟨p,rfl,Wi h s hd,U,s1,io++C,y,_,E.ext S m,h,B,λv2 Z G J S2 R2=>?_⟩;exists 11;split at e
   ·rename_i ds kvs w;obtain⟨q,eq1,e⟩:=Hu e;obtain⟨v,ev,e⟩:=Ie e;cases e;have a:=LR (ka:=G) s;obtain⟨I,K,r⟩:=S2.ob n p _ a w;obtain⟨b,xs,rfl,L,rs⟩:=R2;have ex:=Pb rs eq1;subst ex
    rcases KR.val r q with⟨z,_⟩|⟨d',M,c,i,N⟩
    ·rw[ev]at z;cases z
    ·rw[ev]at c;cases c;refine⟨I,q,b,M,K,rfl,L,i,?_⟩;obtain⟨f,P⟩:=M6 (o:=.dT (Kh I q)) (ob:=.dt (Kh kvs q)) S2 a w (λo u z=>by rw[K]at z;cases z) λH' T W=>⟨_,W,by
      have Y:=UA (λp q z=>z.1) q (KR.mono (ka:=[]) T r);unfold Kh;rw[Y];exact UP _ (KR.mono T r)⟩
     exact((k.on h m).on S2 J) _ _ [] f P (by
      have:=Rep.ext S2 f N;exact this)
   ·cases e
  |_=>cases e
end L2.MP
namespace L2.MP
variable {prog:SZ}{w:World}{A:Around}{E:Qqa}{s:Shared}
section
open PySem PySem.Spec PyProof.Rows PySem.Builtin PySem.Builtin.Str
variable {z y:Str}{t u:Tok}{Q:Qqa}
end
variable {X:Cx}{K:Ab}{H:Hp}{io:List Addr}{st st':Hg}{a b c e:Pv}{es:List Pv}{ma mb mc m:ME}{mm:MA}{pos:Pos}
section
open PySem PySem.Spec PyProof.Rows
end
open PySem
variable {U:Ii}
theorem Vu{c:MT}{n:ME}:LX c m n U st=(c U st).bind λp=>if p.1=true then m U p.2 else n U p.2:=rfl
variable {W:Wk}{g:MG}{U1:Ii}{s1 s2:Hg}
def qP{m:MS}{d r:D}{ds:List D}(f:walked W st=true)(h:g d U st=some (U1,s1))(i:m U1 s1=some (.rt r,s2)):Kf W g m (d::ds) U st=some (.rt r,s2):=by unfold Kf;rw[if_pos f,h];simp only[Ac,i]
def bC{m:MS}{d:D}{ds:List D}{f:Ii}(h:walked W st=true)(i:g d U st=some (U1,s1))(j:m U1 s1=some (.nx f,s2)):Kf W g m (d::ds) U st=Kf W g m ds f s2:=by
 conv=>lhs;unfold Kf
 rw[if_pos h,i];simp only[Ac,j]
open PySem.Spec PyProof.Rows
@[irreducible] def Iu (X:Cx) (s:List W1) (m:MS):Prop:=KL X s m
@[irreducible] def JS (X:Cx) (s:W1) (m:MS):Prop:=SS X s m
@[irreducible] def JA (X:Cx) (es:List Pv) (m:MA):Prop:=SA X es m
variable {n:Nat}{body:List W1}{ms:MS}
section
variable {st1 st2:W1}{rest orelse:List W1}{mt mu:MT}{mq mr:MS}{mg:MG}{mi:MI}
def Iu.out(h:Iu X body ms):KL X body ms:=by unfold Iu at h;exact h
def Iu.mk(h:KL X body ms):Iu X body ms:=by unfold Iu;exact h
def JS.out(h:JS X st1 ms):SS X st1 ms:=by unfold JS at h;exact h
def JS.mk(h:SS X st1 ms):JS X st1 ms:=by unfold JS;exact h
def JA.out(h:JA X es mm):SA X es mm:=by unfold JA at h;exact h
def JA.mk(h:SA X es mm):JA X es mm:=by unfold JA;exact h
def Kj:Iu X [] Jd:=.mk uS
def HL(h:JS X st1 ms):Iu X [st1] ms:=.mk<|uT h.out
def HB(h:JS X st1 ms)(d:Iu X rest mq):Iu X (st1::rest) (mS ms mq):=.mk<|xA h.out d.out
def J7(d:SB X c mt)(f:Iu X body ms)(h:Iu X orelse mq):JS X (.If c body orelse pos) (IX mt ms mq):=.mk<|kM d f.out h.out
def Kv{d iter:Pv}(f:PassesOwn (!4) X.A X.env X.xe)(h:X.calm=true)(hi:SI X d iter mi)(i:SG X d mg)(j:Iu X body ms)(l:∀x,foldedSetIterable iter X.env x=pure x:=by intro _;rfl):JS X (.For d iter body [] pos) (mF mi mg ms):=.mk<|pR f h hi i j.out l
def Wj(d:PassesOwn (!4) X.A X.env X.xe)(f:SB X c mt)(h:Iu X body ms):JS X (.While c body [] pos) (IS mt ms n):=.mk<|wZ d f h.out
def K3:JA X [] mZ:=.mk Hq
def HW(d:SE X e m)(f:JA X es mm)(hs:∀q,Qqb X.env e q:=by intro _;rfl):JA X (e::es) (Hc m mm):=.mk<|Hh d f.out<|hs _
end
variable {xs:List V}
section
variable {o:Pv}{apos cpos:Pos}
def Oc:D->List D->Hg->Option (D×Hg):=λx xs st=>match x,xs with
 |.ref n,[]=>match st[n]? with
  |some (.lst ds)=>(ds[ds.length-1]?).map λd=>(d,st.set n (.lst ds.dropLast))
  |_=>none
 |_,_=>none
def Hj.dropLast:∀{xs:List V}{ds:List D},Hj K H io xs ds->Hj K H io xs.dropLast ds.dropLast:=by intro xs ds r;rw[E4,E4,r.length];exact r.take _
def vP:SF X "list.pop" (Yx X.K Oc):=by
 rintro E s σ H x xs v us Q I U rs ⟨j,ds,st,io,d,st',W,Rs,S,e,k⟩;unfold Oc at e;split at e
 ·rename_i n
  split at e
  ·rename_i l b;obtain⟨y,f,e⟩:=Ie e;cases e;obtain⟨p,rfl,c⟩:=W
   cases (show xs=[] from Rs)
   obtain⟨g,m,r⟩:=S.ob n p _ c b;obtain⟨w,hw,a⟩:=r.get f;refine lO E s σ H _ _ v us Q I U rs ⟨p,g,w,rfl,rfl,m,by rw[r.length];exact hw,?_⟩;obtain⟨A,h⟩:=M6 (o:=.lst g.dropLast) (ob:=.lst l.dropLast) S c b (λo u z=>by rw[m]at z;cases z) λB T i=>⟨_,i,by rw[Ap]at *;exact(Hj.mono (ka:=[]) T r.dropLast) |> λq=>by rw[Ap]at q;exact q⟩
   exact k _ _ [] A h (a.ext S A)
  ·cases e
 ·cases e
def Vk(m:ME):ME:=λU st=>(!8).bind λ(x,s1)=>match x with
 |.ref n=>(HZ s1 n).bind λ_=>Oc x [] s1
 |_=>none
def vA(i:SE X o m)(f:attributeBase o "pop" X.env (Wp o X.env)=Wp o X.env:=by rfl)(h:(apos.endLine==cpos.line)=true:=by rfl):SE X (.Call (.Attribute o "pop" apos) [] [] cpos) (Vk m):=
 PE.imp (mD C6 PySem.F.slot_list_pop PySem.F.type_list_pop vP i f h) <| by
  exists 1;obtain⟨⟨x,s1⟩,c,e⟩:=Hu e;cases x with
  |ref n=>
   obtain⟨l,g,e⟩:=Hu e;refine⟨U,st,io,_,s1,E,S,c,λv1 H1 s w a b=>⟨Wx b a g,?_⟩⟩;exact⟨_,[],s1,io++s,d,st',b,rfl,a,e,k.on a w⟩
  |_=>cases e
theorem Z6:Vk m U st=(!8).bind λp=>match p.1 with
 |.ref n=>(HZ p.2 n).bind λ_=>Oc p.1 [] p.2
 |_=>none:=rfl
def Km:D->Hg->Option Bool
 |.bl b,_=>some b
 |.non,_=>some false
 |.int i,_=>some<|i != 0
 |.tup ds,_=>some<|!ds.isEmpty
 |.ref n,st=>(HZ st n).map λds=>!ds.isEmpty
 |_,_=>none
def J3(m:ME):MT:=λU st=>(!8).bind λ(x,s1)=>(Km x s1).map λb=>(b,s1)
def fK{ds:List D}(r:Hj K H io xs ds):(!xs.isEmpty)=!ds.isEmpty:=by have:=r.length;cases xs<;>cases ds<;>simp_all
def Q8(h:SE X a m)(he:∀whole,isTrue a X.env whole=(do let v <-whole;standAt a.pos;holding [v] (truthy v)):=by intro _;rfl):SB X a (J3 m):=
 PT.imp (cM h he) <| by
  rintro σ H Q ⟨U,st,io,b,st',E,S,e,k⟩;obtain⟨⟨x,s1⟩,o,e⟩:=Hu e;obtain⟨l,c,e⟩:=Ie e;cases e;refine⟨U,st,io,x,st',E,S,o,λv s w A n g=>⟨b,?_,k s w A n⟩⟩;unfold Km at c;split at c
  ·cases c
   cases (show v=_ from g)
   exact rfl
  ·cases c
   cases (show v=_ from g)
   exact rfl
  ·cases c
   cases (show v=_ from g)
   exact rfl
  ·cases c;obtain⟨p,xs,rfl,K,r⟩:=g;exact .inr<|.inl ⟨xs,.inl<|.inl K,(fK r).symm⟩
  ·obtain⟨ds,W,c⟩:=Ie c;cases c;obtain⟨p,rfl,d⟩:=g;obtain⟨f,i,j⟩:=KA n d W;exact .inl ⟨f,i,(fK j).symm⟩
  ·cases c
theorem Ol:J3 m U st=(!8).bind λp=>(Km p.1 p.2).map λb=>(b,p.2):=rfl
end
variable {o:Obj}{ep:Nat}
def fI(l:A.handled=none)(it d:Addr)(f:d≠it){es:Array DictEntry}(dd:o.data=.dict es ep):
  Walks prog w A it [it,d] [it] es.size (λi v=>∃j,es[i]?=some j/\v=j.key) (λi h=>h.IsKeyIter it d i es.size ep/\h.get? d=some o) where
 sub:=λb a=>by simp at a;simp[a]
 frame:=λ_ _ _ st hk=>⟨st.1.at λo e=>hk it (!2) o e,hk d (!2) o st.2⟩
 item:=λi s Q E n st c=>by have m:es[i]?=some es[i]:=Array.getElem?_eq_getElem n;refine dY st.1 st.2 dd m λg st' sb=>?_;exact c _ g s.toks ⟨_,m,rfl⟩ ⟨st',(sb.2 d f).trans st.2⟩ λb ob a e=>(sb.2 b λz=>a (by simp[z])).trans e
 done:=λs Q E st c=>dZ l st.1 st.2 dd (!2) λg H=>c g s.toks λb ob a e=>H b ob (λz=>a (by simp[z])) e
 self:=λ_ _ _ _ st c=>Fg st.1 c
def dA{d:Addr}{es:Array DictEntry}(dd:o.data=.dict es ep)(hd:(d==sysModules)=false)(ty:∀s:Shared,s.heap.get? d=some o->s.TypeIs (.ref d) "dict"):
  GG prog w "dict" d d es.size (λi v=>∃f,es[i]?=some f/\v=f.key) (λh=>h.get? d=some o) where
 type:=ty
 there:=λ_ g=>⟨Ak g,Ak g⟩
 keep:=λ_ _ g hk=>hk d (.inl rfl) o g
 notList:=by decide
 notTuple:=by decide
 hint:=λ_ _ s _ g a=>PySem.W.kdl_hint_dict (ty s g) a
 iter:=λc s b g=>⟨_,_,λ_ _ a=>WS (ty s g) hd g dd a,fI b _ d (Aw<|Ak g) dd,⟨⟨_,Ao _ rfl,rfl,rfl⟩,Ad _ g⟩⟩
theorem Uu{K:Ab}{H:Hp}{io:List Addr}:∀{vs:List IR} {ps:List (List Key×V)} {kvs:List (List Key×D)},KR (List Key) K H io ps kvs->vs.length=ps.length->(∀(j:Nat) (v:IR) (p:List Key×V),vs[j]?=some v->ps[j]?=some p->∃b,v=.ref b/\H b=some (.tup<|p.1.map kV))->∃f,Vals f vs/\Hj K H io f (Jt kvs)
 |[],_,_,.nil,_,_=>⟨[],.nil,rfl⟩
 |[],_::_,_,.cons _ _,d,_=>by simp at d
 |v::vs,_,_,.nil,d,_=>by simp at d
 |v::vs,p::ps,q::kvs,.cons h t,d,i=>by obtain⟨b,rfl,l⟩:=i 0 v p rfl rfl;obtain⟨f,a,c⟩:=Uu (vs:=vs) t (by simpa using d) λj v p e g=>i (j+1) v p (by simpa using e) (by simpa using g);refine⟨.ref b::f,.cons rfl a,Hj.cons ⟨b,_,rfl,l,?_⟩ c⟩;rw[h.1];exact Ul _
def TH:GN
 |[.ref n],st=>match st[n]? with
  |some (.dt kvs)=>if fits kvs.length=true then some (.ref st.length,st++[.lst (Jt kvs)])else none
  |_=>none
 |_,_=>none
def zjF(J:X.calm=true):Jz X (.type "list") TH:=by
 exists 0;unfold TH at e;split at e
 ·rename_i n
  split at e
  ·rename_i L M;exists 3;cases e;obtain⟨v,rfl,p,rfl,N⟩:=R.one;obtain⟨u,rfl,P⟩:=r.one;cases P;obtain⟨f,A,h⟩:=S.ob n p _ N M;obtain⟨t1,t2,T⟩:=Nt I<|.inr ⟨f,.inl A⟩;obtain⟨z,y,xs,r0,o,es,ep,g,ex,i,et,nd⟩:=I.hok p _ A;have x:=I.hok p _ A;have Y:Jy X.prog X.w H s.heap p (.frz o<|.dT f):=⟨g,x⟩
   obtain⟨l,B,ent⟩:=Qi Y i;have c:es.size<=sizeLine:=by rw[B,KR.length h];exact of_decide_eq_true hf
   refine PySem.W.kdl_call (dA (prog:=X.prog) (w:=X.w) i T λs' l=>?_) (I.ok.hd J) g c λh' tk acc Z hk E a=>?_
   ·obtain⟨o',m,K⟩:=t1;rw[g]at m;cases m;exact⟨o,l,K⟩
   ·obtain⟨C,F,rr⟩:=Uu (vs:=acc.toList) h (by rw[AS,a.1,B]) λj v q e1 e2=>by
     obtain⟨en',h1,h2⟩:=a.2 j v (by rw[<-Bs];exact e1);obtain⟨en2,b,G,h4,h5,_⟩:=ent j q.1 q.2 e2;rw[h1]at G;cases G;exact⟨b,by rw[h2,h4],h5⟩
    have U:C.length<=sizeLine:=by rw[F.length,AS,a.1];exact c
    refine⟨.ref s.heap.objs.size,upd H s.heap.objs.size<|.lst C,I.laid (t':=tk) (λb o q=>hk b o q) (Ag _) ⟨U,acc.toList,Z,F,by simpa using E⟩,rfl,?_⟩;exact k.lst S rr<|I.hok.fresh<|Ag _
  ·cases e
 ·cases e
def OX:GN:=K7 QI TH
def eV(d:X.calm=true):Jz X (.type "list") OX:=Qh (zlM d)<|zjF d
def Th:G2:=JX Ob λx y st=>match x,y with
 |.bl a,.bl b=>some (.bl (a != b),st)
 |_,_=>none
def vX:Jr X (SL .IsNot) Th:=Rb cJ (by
 rintro m s σ H x y v u Q I a b ⟨n,o,st,io,d,st',c,g,S,e,k⟩
 (try dsimp only at e)
 split at e
 ·cases e
  cases (show x=_ from c)
  cases (show y=_ from g)
  cases a;cases b;exact PyProof.Rows.isnot_bool ⟨.bl _,H,I,rfl,k.now S rfl⟩
 ·cases e)
structure Kl(H H':Hp):Prop where
 tup:∀a xs,H a=some (.tup xs)->H' a=some (.tup xs)
 frz:∀a o u,H a=some (.frz o u)->(∀ps,u≠.dT ps)->H' a=some (.frz o u)
variable {K0:Ab}{G0 G1:Hp}{i0:List Addr}
section
variable {H':Hp}
def Nk.kl{a:Addr}(T:Kl H H')(h:Nk K H a xs):Nk K H' a xs:=by
 rcases h with⟨o,h⟩|h
 ·exact .inl ⟨o,T.frz _ _ _ h<|by simp⟩
 exact .inr h
mutual
theorem Rep.thawn{K0:Ab}{G0 G1:Hp}{i0:List Addr}(T:Kl G0 G1):∀{v:V}{d:D},Rep K0 G0 i0 v d->Rep K0 G1 i0 v d
 |_,.non,h=>h
 |_,.bl _,h=>h
 |_,.int _,h=>h
 |_,.str _,h=>h
 |_,.tup ds,h=>by obtain⟨a,xs,e,q,r⟩:=h;exact⟨a,xs,e,T.tup a xs q,Hj.thawn T r⟩
 |_,.ref n,h=>h
 |_,.kl ds,h=>by obtain⟨a,xs,e,q,r⟩:=h;exact⟨a,xs,e,q.kl T,Hj.thawn T r⟩
 |_,.fn _,h=>h
 |_,.er _ _ _,h=>⟨h.1,h.2.kp T.frz⟩
theorem Hj.thawn{K0:Ab}{G0 G1:Hp}{i0:List Addr}(T:Kl G0 G1):∀{xs:List V}{ds:List D},Hj K0 G0 i0 xs ds->Hj K0 G1 i0 xs ds
 |_,[],h=>h
 |_,d::ds,h=>by obtain⟨y,f,e,r,rs⟩:=h;exact⟨y,f,e,Rep.thawn T r,Hj.thawn T rs⟩
end
def KR.thawn{κ:Type}{ps:List (κ×V)}{kvs:List (κ×D)}(T:Kl H H')(h:KR κ K H io ps kvs):KR κ K H' io ps kvs:=Paired.mapP h λ_ _ z=>⟨z.1,Rep.thawn T z.2⟩
def OR.thawn{a:Addr}{o:O}(T:Kl H H')(e:H' a=H a)(h:OR K H io a o):OR K H' io a o:=by
 cases o with
 |lst ds=>obtain⟨xs,q,r⟩:=h;exact⟨xs,e.trans q,Hj.thawn T r⟩
 |fz ds=>obtain⟨ob,xs,q,r⟩:=h;exact⟨ob,xs,e.trans q,Hj.thawn T r⟩
 |dk b=>obtain⟨xs,q,r⟩:=h;exact⟨xs,e.trans q,KR.thawn T r⟩
 |dt b=>obtain⟨xs,q,r⟩:=h;exact⟨xs,e.trans q,KR.thawn T r⟩
 |fk b=>obtain⟨ob,xs,q,r⟩:=h;exact⟨ob,xs,e.trans q,KR.thawn T r⟩
 |ft b=>obtain⟨ob,xs,q,r⟩:=h;exact⟨ob,xs,e.trans q,KR.thawn T r⟩
 |ob C fs=>obtain⟨c,xs,q,r⟩:=h;exact⟨c,xs,e.trans q,KR.thawn T r⟩
 |sz n=>exact e.trans h
 |dz=>exact e.trans h
end
variable {ps:List (List Key×V)}{qp:List (Addr×Obj)}
section
variable {σ:List (Option V)}
def Inv.thaw{d:Addr}{o:Obj}(I:Inv X qp σ H s)(hd:H d=some (.frz o<|.dT ps))(f:∀o u,X.H₀ d≠some (.frz o u)):Inv X qp σ (upd H d<|.dT ps) s:=by
 have ne:∀{b:Addr}{v:HO},H b=some v->v≠.frz o (.dT ps)->b≠d:=λ{b v} q e z=>by subst z;rw[hd]at q;exact e (AA q).symm
 have nn:∀{b:Addr},H b=none->b≠d:=λ{b} q z=>by rw[z,hd]at q;cases q
 refine⟨I.ok,I.os,I.bare,⟨I.base.keep,I.base.slot,λb v q n g=>?_,I.base.there,λb xs q=>?_,λb v u q=>?_,λb xs q=>?_⟩,I.loc,I.cell,?_,λx c q=>?_,λp w=>?_,λb v q=>?_,I.len⟩
 ·have:=I.base.free b v q n g;rw[HV (nn this)];exact this
 ·have:=I.base.tups b xs q;rw[HV (ne this<|by simp)];exact this
 ·have h:=I.base.frzs b v u q;have:b≠d:=λz=>f v u (by rw[<-z];exact q);rw[HV this];exact h
 ·obtain⟨m,h⟩:=I.base.tbls b xs q;exact⟨m,by rw[HV (ne h<|by simp)];exact h⟩
 ·rw[HV (nn I.free)];exact I.free
 ·rw[HV (nn<|I.freeC x c q)];exact I.freeC x c q
 ·obtain⟨a,b,c⟩:=I.pin p w;exact⟨a,by rw[HV (nn b)];exact b,c⟩
 ·by_cases hb:b=d
  ·subst hb;rw[Lc]at q;cases q;exact(I.hok b _ hd).2.stay (λc x _ y=>y) (λc y=>by rw[HV (ne y<|by simp)];exact y) λc xs y=>by rw[HV (ne y<|by simp)];exact y
  rw[HV hb]at q;exact(I.hok b v q).stay (λc x _ y=>y) (λc y=>by rw[HV (ne y<|by simp)];exact y) λc xs y=>by rw[HV (ne y<|by simp)];exact y
end
def VL(n:Nat)(st0 st:Hg):Option Hg:=match st0[n]? with
 |some (.dt _)=>match st[n]? with
  |some (.ft a)=>some<|st.set n<|.dt a
  |_=>none
 |_=>none
def QR(i:Nat)(m:ME):ME:=λU st=>match U[i]? with
 |some (some<|.ref n)=>(!8).bind λ(d,s)=>(VL n st s).map λt=>(d,t)
 |_=>none
variable {p:Addr}
section
variable {i:Nat}
def uY{H1:Hp}{ka:List Addr}{d:List (List Key×V)}{kvs:List (List Key×D)}(S:HC K H io st)(X1:Ext io ka H H1)(S1:HC K H1 (io++ka) s1)(hn:io[n]?=some p) (h0:H p=some (.dT d)) (j:s1[n]?=some (.ft kvs)) (f:H1 p=some (.frz o<|.dT ps)) (r:KR (List Key) K H1 (io++ka) ps kvs):
  Kl H1 (upd H1 p<|.dT ps)/\Ext io ka H (upd H1 p<|.dT ps)/\HC K (upd H1 p<|.dT ps) (io++ka) (s1.set n<|.dt kvs):=by
 have ne:∀{b:Addr}{v:HO},H1 b=some v->v≠.frz o (.dT ps)->b≠p:=λ{b v} q i z=>by subst z;rw[f]at q;exact i (AA q).symm
 have T:Kl H1 (upd H1 p<|.dT ps):=⟨λa xs q=>by rw[HV (ne q<|by simp)];exact q,λa v u q m=>by rw[HV (ne q (λz=>by cases z;exact m ps rfl))];exact q⟩
 have e:(io++ka)[n]?=some p:=by rw[Am (KF.mp hn).1];exact hn
 refine⟨T,⟨λb u h nb=>?_,X1.fresh,λb v u h=>?_⟩,by rw[Bk];exact S1.len,S1.nd,λk a ob h1 c=>?_⟩
 ·rw[HV (λz=>nb (by rw[z];exact AG hn))];exact X1.keep b u h nb
 ·have:b≠p:=λz=>by
   rw[z,h0]at h;cases h
  rw[HV this];exact X1.frz b v u h
 ·by_cases hk:k=n
  ·subst hk;rw[e]at h1
   cases (AA h1);rw[De,if_pos rfl]at c;split at c
   ·cases (AA c)
    exact⟨ps,Lc,KR.thawn T r⟩
   ·cases c
  ·rw[Ah (λz=>hk z.symm)]at c;have g:a≠p:=λz=>by
    subst z;exact hk<|(FS (KF.mp h1).1 S1.nd).mp<|h1.trans e.symm
   exact OR.thawn T (HV g)<|S1.ob k a ob h1 c
def vE(h:SE X e m):SE X e (QR i m):=by
 rintro qp s σ H Q I ⟨U,st,io,d,st',E,S,a,k⟩;unfold QR at a;split at a
 ·rename_i n _;obtain⟨⟨N,s1⟩,B,a⟩:=Hu a;obtain⟨t,b,a⟩:=Ie a;cases a;unfold VL at b
  split at b
  ·rename_i l c
   split at b
   ·rename_i C q;cases b;refine HD (h qp s σ H (λv p=>∃w,Ext io w H p/\HC X.K p (io++w) s1/\Rep X.K p (io++w) v d) I ⟨U,st,io,d,s1,E,S,B,λv1 H1 A W S1 f=>⟨A,W,S1,f⟩⟩) ?_;rintro v s2 ⟨x,H1,F,G,A,W,S1,f⟩;have g:n<io.length:=by rw[S.len];exact(KF.mp c).1
    obtain⟨J,h0,_⟩:=S.ob n _ _ (Ai g) c;have j:(io++A)[n]?=some io[n]:=by rw[Am g];exact Ai g
    obtain⟨o,ps,y,r⟩:=S1.ob n _ _ j q;obtain⟨T,L,M⟩:=uY S W S1 (Ai g) h0 q y r;refine⟨x,_,Inv.thaw F y λo u z=>?_,G,k _ _ _ L M<|Rep.thawn T f⟩;have:=I.base.frzs _ _ _ z;rw[h0]at this;cases this
   ·cases b
  ·cases b
 ·cases a
end
variable {vs:List IR}
def dJ{l:Addr}{R:Qqa}(h:IsTup s.heap l vs.toArray)(hz:vs.length<=sizeLine)(go:∀D h',(∀b o,s.heap.get? b=some o->h'.get? b=some o)->s.heap.get? D=none->h'.get? D=some (seqObj "list" vs.toArray 0)->wpAny (!5) A.in1.in1 (Builtin.«list.sort» ⟨[.ref D],[]⟩) (λf s'=>f=.done (.ret .none)/\R (.ref D) s') (λ_ _=>False) {s with heap:=h'}):
  wpAny (!5) A (call (.builtin "sorted") [.ref l]) R E s:=by
 obtain⟨o,g,c,n,d⟩:=h;exists 13;unfold Builtin.«sorted»;refine Aa (m:=checkCount "sorted" 1 1 _) (Ae<|Aa<|PySem.wpAny_collect_seq l (.inr rfl) g c d (λa k1=>Aa (Dj ?_<|by simpa using hz))<|by simpa using hz);have p:(a.push<|seqObj "list" vs.toArray 0).get? a.objs.size=some (seqObj "list" vs.toArray 0):=Ao _ rfl;have fr:s.heap.get? a.objs.size=none:=by
  cases e:s.heap.get? a.objs.size with
  |none=>rfl
  |some u=>exact absurd (Ak<|k1 _ _ e)<|AN _
 refine Aa<|AO<|Bc ET ⟨_,p,rfl⟩ Ep (Bu (go _ _ (λb u e=>Ad _ (k1 b u e)) fr p) (λf s' ⟨e,r⟩=>?_) λ_ _ x=>x.elim)<|EU _;subst e;exact⟨_,rfl,Ae ⟨_,rfl,r⟩⟩
def yE{at_:Addr}{k:Nat}{R:PySem.Fin->Shared->Prop}(f:vs.length<2)(d:s.heap.get? at_=some (seqObj "list" vs.toArray k))(fin:R (.done<|.ret .none) {s with heap:=sortedHeap s.heap at_ vs vs.toArray}):
  wpAny (!5) A (Builtin.«list.sort» ⟨[.ref at_],[]⟩) R E s:=by
 have e:=Ak d;have b:vs.length<=sizeLine:=AB (CC f) (!1);obtain⟨ep,g1⟩:∃ep,(s.heap.update at_<|BH λ_=>(#[]:Array IR)).get? at_=some (seqObj "list" #[] ep):=⟨_,get?_update_seq d λ_=>#[]⟩
 have g2:(((s.heap.update at_<|BH λ_=>(#[]:Array IR)).push<|seqObj "tuple" vs.toArray 0).push<|seqObj "list" #[] 0).get? at_=some (seqObj "list" #[] ep):=Ad _<|Ad _ g1;rw[list_sort_plain];refine Aa (listItems_at d rfl<|Aa<|DT d rfl (Aa<|EI g1 rfl<|Aa<|ES (Aa<|Dj<|AO ?_)<|by simpa using b)<|by simpa using b);show wpAny (!5) A _ R E {s with heap:=((s.heap.update at_<|BH λ_=>(#[]:Array IR)).push<|seqObj "tuple" vs.toArray 0).push (seqObj "list" #[] 0)};have two:vs.toArray.size<2:=by simpa using f
 have same:(arrOf<|G5 general' (vs.toArray.zip vs.toArray) #[] 7 none).map (·.2)=vs.toArray:=by
  show((vs.toArray.zip vs.toArray).map (·.2))=vs.toArray;simp;clear two g2 g1 d b fin f
  induction vs with
  |nil=>rfl
  |cons a r g=>simpa using g
 dsimp only;rw[if_pos two,if_pos two];refine Aa<|Ae ?_;rw[Gu];refine Aa<|Ae ?_;dsimp only;rw[same];refine Aa<|EI g2 rfl<|Aa<|DT g2 rfl ?_ (hsz2:=by simp;omega);simp only[bne_self_eq_false,AM,if_false];exact Ae fin
variable {Q:VK}{its:List IR}{ts:List (List Int)}
section
variable {σ:L2.St}
def Inv.notL(I:Inv X qp σ H s){D:Addr}(h:s.heap.get? D=none):D≠X.env.locals/\X.base.get? D=none/\H D=none:=by
 refine⟨λz=>?_,?_,?_⟩
 ·obtain⟨m,⟨o,_,_,e,_⟩,_⟩:=I.loc;rw[<-z,h]at e;cases e
 ·cases e:X.base.get? D with
  |none=>rfl
  |some u=>rw[(I.bs D u e).1]at h;cases h
 ·cases e:H D with
  |none=>rfl
  |some o=>
   obtain⟨u,a⟩:=eI<|I.hok D o e;rw[h]at a;cases a
def bZ{D:Addr}{h':P3}(I:Inv X qp σ H s)(i:Vals xs its)(l:xs.length<2)(k:∀b o,s.heap.get? b=some o->h'.get? b=some o)(d:s.heap.get? D=none)(j:h'.get? D=some (seqObj "list" its.toArray 0))(h:∀p,H p=none->Q (.ref p) (upd H p<|.lst xs)):
  wpAny (!4) X.A.in1.in1 (Builtin.«list.sort» ⟨[.ref D],[]⟩) (λf s'=>f=.done (.ret .none)/\EP X qp σ Q (.ref D) s') (λ_ _=>False) {s with heap:=h'}:=by
 have hlen:=i.length;have g:xs.length<=sizeLine:=AB (CC l) (!1);refine yE (!0) j ⟨rfl,?_⟩;obtain⟨n,W,c⟩:=Inv.notL I d;obtain⟨ep,e⟩:=sortedHeap_at (out:=its.toArray) j;have a:∀b u,s.heap.get? b=some u->(sortedHeap h' D its its.toArray).get? b=some u:=λb u q=>by
  have E:b≠D:=λz=>by rw[z,d]at q;cases q
  rw[sortedHeap_old E (Ak<|k b u q)];exact k b u q
 have J:Inv X qp σ (upd H D<|.lst xs) {s with heap:=sortedHeap h' D its its.toArray}:=by obtain⟨m,F⟩:=I.fr;refine Inv.laidAt (m:=m) I (λb u _=>a b u) (λK ⟨o,a1,a2,q,U⟩=>⟨o,a1,a2,a _ _ q,U⟩) (let ⟨K,⟨o,_,_,q,_⟩,_⟩:=I.loc;⟨o,a _ _ q⟩) d c n ⟨g,its,ep,i,e⟩
 exact⟨.ref D,_,J,rfl,h D c⟩
def cA{D:Addr}{h0:P3}(I:Inv X qp σ H s)(x:Vals xs its)(T:P5 H xs ts)(d:2<=ts.length)(P:ts.length<64)(k0:∀b o,s.heap.get? b=some o->h0.get? b=some o)(l:s.heap.get? D=none)(gD:h0.get? D=some (seqObj "list" its.toArray 0))(h:∀(q:Array Nat) (p:Addr),q.Perm (B5<|Av ts.length)->Srt.Up (rank ts) q ts.length->H p=none->Q (.ref p) (upd H p<|.lst<|q.toList.map λi=>xs.getD i .non)):
  wpAny (!4) X.A.in1.in1 (Builtin.«list.sort» ⟨[.ref D],[]⟩) (λf s'=>f=.done (.ret .none)/\EP X qp σ Q (.ref D) s') (λ_ _=>False) {s with heap:=h0}:=by
 have hlen:its.length=ts.length:=by have a:=x.length;have b:=Bg T;omega
 obtain⟨m,F⟩:=I.fr;have U:∀b,H b≠none->b≠X.env.locals:=λb y z=>y (by rw[z];exact I.free);obtain⟨n1,n2,B⟩:=Inv.notL I l;have nD:∀p∈O9 X.base s.heap X.env.locals,p.1≠D:=λp hp z=>by have q:=(WC (g:=X.base) (h:=s.heap) (L:=X.env.locals) p hp).1;rw[z,l]at q;cases q
 refine PySem.W.kat_list_sort (s:={s with heap:=h0}) (news:=O9 X.base s.heap X.env.locals) (F.kept k0) ((WC (g:=X.base) (h:=s.heap) (L:=X.env.locals)).grown k0) gD n1 n2 nD (!0) (!0) λe1 K F' N'=>?_;have keep:∀{d:P3}{o:Obj},PyProof.Rows.Fr X.base X.env.locals d m->News X.base X.env.locals d ((D,o)::O9 X.base s.heap X.env.locals)->∀b u,b≠X.env.locals->s.heap.get? b=some u->d.get? b=some u:=λ{d o} F2 N b u y e=>by
  cases q:X.base.get? b with
  |some v=>
   have z:=(I.bs b v q).1;rw[e]at z;cases z;exact F2.keep b _ q
  |none=>exact(N (b,u)<|Al _<|Xh y q e).1
 have hk:∀b o,H b≠none->s.heap.get? b=some o->K.get? b=some o:=λb o y e=>keep F' N' b o (U b y) e;obtain⟨fs,k1,k2,k3⟩:=Wl (h':=K) I hk T x;refine Gd (s:={s with heap:=K}) (T:=.type "int") k1 (!0) (λv hv=>?_) rfl ?_
 ·obtain⟨i,t,rfl⟩:=k3 v hv;exact ER rfl
 have ok:=Srt.LH (n:=its.length) (r:=rank ts) (!0);refine Vq (n:=its.length) (r:=rank ts) (s:={s with heap:=K}) (λi j G hj C hC=>ZK (s':={s with heap:=K}) I hk T x (!0) (!0) C hC) (λq M=>?_) ok;refine Fd F' N' (FV nD) λd c F2 N=>⟨rfl,?_⟩
 have S:=(N _ Ar).1;rw[hlen]at M;have vals:Vals (q.toList.map λi=>xs.getD i .non) (q.toList.map λi=>its.getD i Bo):=by
  have E:∀i∈q.toList,i<xs.length:=λi G=>by have:i∈(B5<|Av ts.length).toList:=(Array.perm_iff_toList_perm.mp M.1).mem_iff.mp G;have hr:=x.length;simp at this;omega
  generalize q.toList=ql at E
  induction ql with
  |nil=>exact .nil
  |cons i r ih=>
   refine .cons ?_<|ih λj hj=>E j (Al _ hj);have G:=E i Ar;obtain⟨u,eu,ru⟩:=x.get<|Ai G;show RelV (xs.getD i V.non) (its.getD i Bo);rw[Au,Au,Ai G,eu];exact ru
 have Y:q.toList.length=ts.length:=by have:=(Array.perm_iff_toList_perm.mp M.1).length_eq;simpa using this
 have J:Inv X qp σ (upd H D<|.lst<|q.toList.map λi=>xs.getD i .non) {s with heap:=d}:=
  Inv.laidAt (m:=m) I (keep F2 N) (λm' Z=>by rw[ZP Z F.ns];exact F2.ns) (let ⟨o,_,_,e,_⟩:=F2.ns;⟨o,e⟩) l B n1 ⟨by rw[Af,Y];exact Py P,_,c,vals,S⟩
 exact⟨.ref D,_,J,rfl,h q D M.1 M.2 B⟩
end
def gE{q:Array Nat}(S:HC K H io st)(r1:Hj K H io xs (ts.map HG))(d:q.Perm (B5<|Av ts.length))(f:Srt.Up (rank ts) q ts.length)(hf:H p=none)(k:Bh K io H (st++[.lst ((KS ts).map HG)]) (.ref st.length) Q):Q (.ref p) (upd H p<|.lst<|q.toList.map λi=>xs.getD i .non):=by
 have hm:∀i∈q.toList,i<ts.length:=λi b=>by have:=(Array.perm_iff_toList_perm.mp d).mem_iff.mp b;simpa using this
 have a:=WH r1 hm;rw[fX d f]at a;exact k.lst S a hf
def Uh:GN
 |[.tup ds],st=>if decide (ds.length<2)=true then some (.ref st.length,st++[.lst ds])else(rowsOf ds).bind λts=>if(decide (2<=ts.length)&&decide (ts.length<64))=true then some (.ref st.length,st++[.lst ((KS ts).map HG)])else none
 |_,_=>none
def zht:Jz X (.builtin "sorted") Uh:=by
 exists 0;unfold Uh at e;split at e
 ·rename_i zs;obtain⟨v,rfl,p,w,rfl,A,c⟩:=R.one;obtain⟨u,rfl,E⟩:=r.one;cases E;have o:IK X.K H p w:=.inl (.inl A)
  split at e
  ·rename_i a;cases e;have U:=c.length;obtain⟨its,b,pl,W⟩:=I.tuple o;exact dJ pl (by have:=b.length;omega) λD f g m n=>bZ I b (by rw[U];exact of_decide_eq_true a) g m n λq hf=>k.lst S c hf
  obtain⟨ts,h,e⟩:=Hu e;obtain⟨a,e⟩:=IA e;cases e;rw[Aq]at a;obtain⟨T,hd⟩:=Rn c h;subst hd;obtain⟨its,b,pl,W⟩:=I.tuple o;refine dJ pl (by have:=b.length;omega) λD f g m n=>cA I b T (of_decide_eq_true a.1) (of_decide_eq_true a.2) g m n λq l i j hf=>gE S c i j hf k
 ·cases e
def Nx:GN:=K7 Mf Uh
def UO:Jz X (.builtin "sorted") Nx:=Qh XA zht
def SQ:G2
 |.tup a,.tup b,st=>if(a.isEmpty&&fits b.length)=true then some (.tup b,st)else none
 |_,_,_=>none
def vV:Jr X (binaryOp .Add) SQ:=by
 rintro qp s σ H x y v u Q I A E ⟨G,J,st,io,d,st',K,w,S,e,k⟩;unfold SQ at e;split at e
 ·rename_i i j;exists 3;cases e;rw[Aq]at hf;obtain⟨p,xs,rfl,n,U⟩:=K;obtain⟨q,L,rfl,W,f⟩:=id w;cases A;cases E;obtain⟨m,F⟩:=I.fr;obtain⟨its,h,l,_⟩:=I.tuple<|IK.of n;obtain⟨g,r,B,_⟩:=I.tuple<|IK.of W;have o:its=[]:=by
   have a:=U.length;have b:=h.length;have c:i=[]:=by simpa using hf.1
   rw[c]at a;exact BW (by have M:xs.length=0:=a;omega)
  have C:g.length<=sizeLine:=by have a:=f.length;have b:=r.length;have c:=of_decide_eq_true hf.2;omega
  exact PyProof.Rows.add_tuples F (news:=[]) (λp n=>nomatch n) l B (λ_=>⟨.ref q,H,I,rfl,k.now S w⟩) (λz _=>absurd o z) (λz _=>absurd o z) (by rw[o];simpa using C)
 ·cases e
def N1:G2:=JX HF SQ
def sX:Jr X (binaryOp .Add) N1:=Rb Jv vV
open PySem.SeqAt PySem.MeetsSeq PySem.MeetsSeq2 PySem.MeetsSeq3
end L2.MP
namespace L2.MP
open PySem L2 PySem.Spec PyProof.Rows
section
variable {K:Ab}{x:Str}{st:W1}{f:Addr}
structure N7(K:Ab)(x:Str)(st:W1)(f:Addr):Prop where
 ex:∃(oc:IR) (od:Option Addr) (kV dc pm:IR) (an:Option Addr) (cd ct:IR) (sl:Array (Option IR)),K.lookup f=some ⟨oc,od,.func (Bw x x (LQ st) (Kw st) (Ja st) .none kV dc pm an cd ct),sl⟩/\Cd K cd x=true
 ns:Dt K UV x=some (some (.ref f))
 kp:Bi K (.ref f)=true
def jB{b kV d pm cd e:IR}{g an:Option Addr}{h:Array (Option IR)}(a:Dt K UV x=some (some<|.ref f))(l:K.lookup f=some ⟨b,g,.func<|Bw x x (LQ st) (Kw st) (Ja st) .none kV d pm an cd e,h⟩)(c:Cd K cd x=true)(k:Bi K (.ref f)=true):N7 K x st f:=⟨⟨b,g,kV,d,pm,an,cd,e,h,l,c⟩,a,k⟩
end
variable {α:Type}
def NV{P:List α->Prop}(h:∀a,P [a])(l:List α)(e:l.length=1):P l:=by
 rcases l with _|⟨a,_|⟨b,l⟩⟩
 ·cases e
 ·exact h a
 ·cases e
def NU{P:List α->Prop}(h:∀a b,P [a,b])(l:List α)(e:l.length=2):P l:=by
 rcases l with _|⟨a,l⟩
 ·cases e
 exact NV (P:=λl=>P (a::l)) (h a) l<|Ee e
def NT{P:List α->Prop}(h:∀a b c,P [a,b,c])(l:List α)(e:l.length=3):P l:=by
 rcases l with _|⟨a,l⟩
 ·cases e
 exact NU (P:=λl=>P (a::l)) (h a) l<|Ee e
def NR{P:List α->Prop}(h:∀a b c d,P [a,b,c,d])(l:List α)(e:l.length=4):P l:=by
 rcases l with _|⟨a,l⟩
 ·cases e
 exact NT (P:=λl=>P (a::l)) (h a) l<|Ee e
def YB{P:List α->Prop}(h:∀a b c d f,P [a,b,c,d,f])(l:List α)(e:l.length=5):P l:=by
 rcases l with _|⟨a,l⟩
 ·cases e
 exact NR (P:=λl=>P (a::l)) (h a) l<|Ee e
end L2.MP
namespace L2.MP
open PySem PySem.Spec PyProof.Rows
variable {prog:SZ}{w:World}{A:Around}{E:Qqa}{s:Shared}{d:Addr}{n:Nat}{P:Nat->IR->Prop}
def zY{T:String}{r:Addr}{h:P3->Prop}{R:Qqa}(K:GG prog w T r d n P h)(l:A.handled=none)(g:h s.heap)(hz:n<=sizeLine)(go:∀(D:Addr) (h':P3) (tk:Nat) (vs:List IR),(∀b o,s.heap.get? b=some o->h'.get? b=some o)->s.heap.get? D=none->h'.get? D=some (seqObj "list" vs.toArray 0)->vs.length=n->(∀(j:Nat) (v:IR),vs[j]?=some v->P j v)->wpAny (!5) A.in1.in1 (Builtin.«list.sort» ⟨[.ref D],[]⟩) (λf s'=>f=.done (.ret .none)/\R (.ref D) s') (λ_ _=>False) {s with heap:=h',toks:=tk}):
  wpAny (!5) A (call (.builtin "sorted") [.ref r]) R E s:=by
 exists 13;unfold Builtin.«sorted»;refine Aa (m:=checkCount "sorted" 1 1 _) (Ae<|Aa<|PySem.W.kdu_collect (A:=A.in1) K l g hz λc tk acc k1 a=>Aa (Dj ?_ (by rw[AS,a.1];exact hz)));have i:(c.push<|seqObj "list" acc.toList.toArray 0).get? c.objs.size=some (seqObj "list" acc.toList.toArray 0):=Ao _ rfl;have fr:s.heap.get? c.objs.size=none:=by
  cases e:s.heap.get? c.objs.size with
  |none=>rfl
  |some u=>exact absurd (Ak<|k1 _ _ e)<|AN _
 refine Aa<|AO<|Bc ET ⟨_,i,rfl⟩ Ep (Bu (go _ _ tk acc.toList (λb u e=>Ad _ (k1 b u e)) fr i (by rw[AS,a.1]) λj v e=>a.2 j v (by rw[<-Bs];exact e)) (λf s' ⟨e,r⟩=>?_) λ_ _ x=>x.elim)<|EU _;subst e;exact⟨_,rfl,Ae ⟨_,rfl,r⟩⟩
variable {X:Cx}{K:Ab}{H:Hp}{io:List Addr}{st st':Hg}{qp:List (Addr×Obj)}{σ:L2.St}
def Qm:GN
 |[.ref n],st=>match st[n]? with
  |some (.dt kvs)=>if fits kvs.length=true then(if decide ((Jt kvs).length<2)=true then some (.ref st.length,st++[.lst (Jt kvs)])else(rowsOf<|Jt kvs).bind λts=>if(decide (2<=ts.length)&&decide (ts.length<64))=true then some (.ref st.length,st++[.lst ((KS ts).map HG)])else none)else none
  |_=>none
 |_,_=>none
def Inv.tk(I:Inv X qp σ H s)(t':Nat):Inv X qp σ H {s with toks:=t'}:=Inv.step (t':=t') (ch:=[]) (g':=s.gens) (d':=s.drawn) I (λb d=>absurd d (!2)) (λb u _ _ _ e _=>e) (λb u _ _ _ e _=>⟨u.slots,e⟩) (λb u _ e n=>n) (λb u _ e=>⟨u,e⟩)
  (λb xs e=>e) (λb u v e=>e) (λb w e=>⟨#[],by rw[e];simp⟩) (λm h=>h) (λb u e=>I.hok b u e) I.bare
def zhw(Y:X.calm=true):Jz X (.builtin "sorted") Qm:=by
 exists 0;unfold Qm at e;split at e
 ·rename_i n
  split at e
  ·rename_i P Z;exists 3;obtain⟨v,rfl,p,rfl,hp⟩:=R.one;obtain⟨u,rfl,ru⟩:=r.one;cases ru;obtain⟨B,a,C⟩:=S.ob n p _ hp Z;obtain⟨t1,t2,hs⟩:=Nt I<|.inr ⟨B,.inl a⟩;obtain⟨z,y,xs,r0,o,es,ep,g,ex,F,et,nd⟩:=I.hok p _ a;have x:=I.hok p _ a;have fz:Jy X.prog X.w H s.heap p (.frz o<|.dT B):=⟨g,x⟩
   obtain⟨G,J,ent⟩:=Qi fz F;have c:es.size<=sizeLine:=by rw[J,KR.length C];exact of_decide_eq_true hf
   refine zY (dA (prog:=X.prog) (w:=X.w) F hs λs' G=>?_) (I.ok.hd Y) g c λD h' tk L hk M N f h=>?_
   ·obtain⟨o',E,i⟩:=t1;rw[g]at E;cases E;exact⟨o,G,i⟩
   ·obtain⟨ys,U,K⟩:=Uu (vs:=L) C (by rw[f,J]) λj v q l e2=>by
     obtain⟨en',h1,A⟩:=h j v l;obtain⟨en2,b,W,h4,h5,_⟩:=ent j q.1 q.2 e2;rw[h1]at W;cases W;exact⟨b,by rw[A,h4],h5⟩
    have m:ys.length=(Jt P).length:=K.length;split at e
    ·rename_i A;cases e;exact bZ (s:={s with toks:=tk}) (Inv.tk I tk) U (by rw[m];exact of_decide_eq_true A) hk M N λq hf=>k.lst S K hf
    obtain⟨ts,l,e⟩:=Hu e;obtain⟨A,e⟩:=IA e;cases e;rw[Aq]at A;obtain⟨T,hd⟩:=Rn K l;rw[hd]at K;exact cA (s:={s with toks:=tk}) (Inv.tk I tk) U T (of_decide_eq_true A.1) (of_decide_eq_true A.2) hk M N λq p' hq hu hf=>gE S K hq hu hf k
  ·cases e
 ·cases e
variable {o e:Pv}{m:ME}{pos apos p:Pos}{C a:Addr}{f x qual c:Str}{g:GN}{pl:Sem Bool}{k:Nat}{ps N:List Str}{mg:Str->Option IR}{base:P3}
section
variable {value:Pv}{es:List Pv}{mo mv:ME}{mm:MA}{pos':Pos}
def HY(f:Str)(d:D):List (Str×D)->List (Str×D)
 |[]=>[(f,d)]
 |(g,x)::r=>if g=f then(g,d)::r else(g,x)::HY f d r
theorem KR.Jq{f:Str}:∀{ps:List (Str×V)} {fs:List (Str×D)},KR Str K H io ps fs->(ps.lookup f=none/\fs.lookup f=none)\/∃v d,ps.lookup f=some v/\fs.lookup f=some d/\Rep K H io v d
 |_,_,.nil=>.inl ⟨rfl,rfl⟩
 |(a,v)::ps,(b,d)::fs,.cons h t=>by
  obtain⟨e,r⟩:=h;cases (show a=b from e)
  simp only[Cu];cases f==a with
  |true=>exact .inr ⟨v,d,rfl,rfl,r⟩
  |false=>exact KR.Jq t
theorem KR.IP{f:Str}{v:V}{d:D}(r:Rep K H io v d):∀{ps:List (Str×V)} {fs:List (Str×D)},KR Str K H io ps fs->KR Str K H io (L2.IP f v ps) (HY f d fs)
 |_,_,.nil=>.cons ⟨rfl,r⟩ .nil
 |(a,x)::ps,(b,y)::fs,.cons h t=>by
  obtain⟨e,q⟩:=h;cases (show a=b from e)
  unfold L2.IP HY;by_cases z:a=f
  ·rw[if_pos z,if_pos z];exact .cons ⟨rfl,r⟩ t
  rw[if_neg z,if_neg z];exact .cons ⟨rfl,q⟩<|KR.IP r t
def HE(C:Addr)(f:Str)(m:ME):ME:=λU st=>(!8).bind λ(x,s1)=>match x with
 |.ref n=>match s1[n]? with
  |some (.ob a fs)=>if decide (a=C)=true then(fs.lookup f).map λd=>(d,s1)else none
  |_=>none
 |_=>none
def pD(b:LB X.K C)(hn:Nq X.K C f)(h:SE X e m)(i:attributeBase e f X.env (Wp e X.env)=Wp e X.env:=by rfl):SE X (.Attribute e f pos) (HE C f m):=PE.imp (mG h i) <| by
 exists 1;obtain⟨⟨x,s1⟩,c,e⟩:=Hu e;refine⟨U,st,io,x,s1,E,S,c,λv1 H1 r g S1 o=>?_⟩;cases x with
 |ref n=>
  exists 11;split at e
  ·rename_i u fs s;obtain⟨w,e⟩:=IA e;obtain⟨y,a,e⟩:=Ie e;cases e
   cases (of_decide_eq_true w);obtain⟨p,rfl,A⟩:=o;obtain⟨N,ps,P,j⟩:=S1.ob n p _ A s;rcases KR.Jq (f:=f) j with⟨_,z⟩|⟨v,B,l,hd,q⟩
   ·rw[a]at z;cases z
   rw[a]at hd;cases hd;exact⟨p,C,N,ps,v,rfl,P,b,hn,l,k _ _ _ g S1 q⟩
  ·cases e
 |_=>cases e
def LD(C:Addr)(f:Str)(mo mv:ME):MS:=λU st=>(mv U st).bind λ(y,s1)=>(mo U s1).bind λ(x,s2)=>match x with
 |.ref n=>match s2[n]? with
  |some (.ob a fs)=>if(decide (a=C)&&decide (fs.length<1000))=true then some (.nx U,s2.set n (.ob a<|HY f y fs))else none
  |_=>none
 |_=>none
def pQ(j:LB X.K C)(hn:Nq X.K C f)(l:SE X o mo)(q:SE X value mv)(r:swapsWith value (some<|.Attribute o f pos') pos.line X.env=pure false:=by rfl):SS X (.Assign [.Attribute o f pos'] value pos) (LD C f mo mv):=PS.imp (pZ l q r) <| by
 intro N σ H h;obtain⟨U,st,io,fl,st',E,S,e,w⟩:=La.mp h;obtain⟨⟨y,s1⟩,v,e⟩:=Hu e;obtain⟨⟨x,s2⟩,B,e⟩:=Hu e;refine⟨U,st,io,y,s1,E,S,v,λv1 H1 F c a R1=>⟨U,s1,io++F,x,s2,E.ext S c,a,B,λv2 M Q d S2 R2=>?_⟩⟩;cases x with
 |ref n=>
  exists 11;split at e
  ·rename_i W fs s;obtain⟨g,e⟩:=IA e;rw[Aq]at g;cases e
   cases (of_decide_eq_true g.1);obtain⟨p,rfl,A⟩:=R2;obtain⟨m,ps,P,b⟩:=S2.ob n p _ A s;have G:ps.length<1000:=by rw[KR.length b];exact of_decide_eq_true g.2
   have I:=R1.ext a d;obtain⟨i,J⟩:=M6 (o:=.ins C m (L2.IP f v1 ps)) (ob:=.ob C (HY f y fs)) S2 A s (λo u z=>by rw[P]at z;cases z) λY T L=>⟨m,_,L,KR.IP (Rep.mono T I)<|KR.mono T b⟩
   refine⟨p,C,m,ps,rfl,P,j,hn,G,?_⟩;have Ea:=(E.ext S c).ext a d;exact((w.on c a).on d S2) σ _ [] i J<|Ea.ext S2 i
  ·cases e
 |_=>cases e
def Lh(C:Addr)(f:Str)(g:GN)(mo:ME)(mm:MA):ME:=λU st=>(mo U st).bind λ(x,s1)=>match x with
 |.ref n=>match s1[n]? with
  |some (.ob a fs)=>if(decide (a=C)&&(fs.lookup f).isNone)=true then(mm U s1).bind λ(ds,s2)=>g (.ref n::ds) s2 else none
  |_=>none
 |_=>none
def M3(P:SZ)(w:World)(K:Ab)(mg:Str->Option IR)(base:P3)(k:Nat)(C:Addr)(f:Str)(n:Nat)(g:GN):Prop:=∃a fd ps,Jj P w K mg base KG k a fd ps (Mw K n g)/\Meth K C f a/\Binds K fd ps []
def ZX{Q:VK}{Ex:XK}(b:J8 n mm)(h:tE X.K (Lh C f g mo mm) σ H Q):Vr C f (Mw X.K (n+1) g) [] Ex (tE X.K mo) (tA X.K mm) σ H Q:=by
 obtain⟨U,st,io,d,st',E,S,e,k⟩:=h;obtain⟨⟨x,s1⟩,i,e⟩:=Hu e;refine⟨U,st,io,x,s1,E,S,i,λv1 H1 o s S1 R1=>?_⟩;cases x with
 |ref n=>
  exists 11;split at e
  ·rename_i y fs j;obtain⟨a,e⟩:=IA e;rw[Aq]at a;obtain⟨⟨ds,s2⟩,w,e⟩:=Hu e;have c:=of_decide_eq_true a.1;obtain⟨p,rfl,l⟩:=id R1;obtain⟨q,ps,A,r⟩:=S1.ob n p _ l j;rw[c]at A;have m:ps.lookup f=none:=by
    rcases KR.Jq (f:=f) r with⟨z,_⟩|⟨v,B,F,hd,G⟩
    ·exact z
    rw[hd]at a;cases a.2
   refine⟨p,q,ps,rfl,A,m,U,s1,io++o,ds,s2,E.ext S s,S1,w,λI J u N P R2=>?_⟩;refine⟨.ref n::ds,s2,(io++o)++u,d,st',?_,?_,P,e,(k.on S1 s).on P N⟩
   ·rw[Ap,Ay,R2.length,b _ _ _ _ w]
   rw[Ap];exact Hj.cons (R1.ext S1 N) R2
  ·cases e
 |_=>cases e
def Ro(F:M3 X.prog X.w X.K X.mg X.base k C f (n+1) g)(l:LB X.K C)(q:HP k X.A)(r:SE X o mo)(u:SA X (e::es) mm)(v:J8 n mm)(b:Qqb X.env e es:=by rfl) (i:Qqc pos es X.env:=by rfl)(y:Wp (.Call (.Attribute o f apos) (e::es) [] pos) X.env=(do
   let j <-Wp o X.env
   standAt apos.atName
   let (f,first) <-holding [j] (getMethod j f pl)
   callWith pos f first (backTo pos<|starEach (e::es) X.env) (backToKw pos<|keywordEach [] X.env)):=by rfl):SE X (.Call (.Attribute o f apos) (e::es) [] pos) (Lh C f g mo mm):=by
 obtain⟨a,fd,ps,F,hm,c⟩:=F;exact PE.imp (rQ r l hm F q c .nil Ti u b i y) λσ H Q h=>ZX v h
def Ws(F:M3 X.prog X.w X.K X.mg X.base k C f 1 g)(i:LB X.K C)(j:HP k X.A)(l:SE X o mo)(q:Wp (.Call (.Attribute o f apos) [] [] pos) X.env=(do
   let b <-Wp o X.env
   standAt apos.atName
   let (f,first) <-holding [b] (getMethod b f pl)
   callWith pos f first (backTo pos<|starEach [] X.env) (backToKw pos<|keywordEach [] X.env)):=by rfl):SE X (.Call (.Attribute o f apos) [] [] pos) (Lh C f g mo mZ):=by
 obtain⟨a,fd,ps,F,hm,c⟩:=F;refine PE.imp (yF l i hm F j c .nil Ti q) λσ H Q h=>?_;have t:=ZX (n:=0) (Ex:=E0) J8.nil h;obtain⟨U,st,io,d,st',E,S,e,k⟩:=t;refine⟨U,st,io,d,st',E,S,e,λv1 H1 m s x N=>?_⟩;obtain⟨p,P,ps,r,u,v,G,s2,y,ds,s3,I,S2,z,B⟩:=k v1 H1 m s x N;refine⟨p,P,ps,r,u,v,?_⟩;cases z;exact B [] H1 [] Ext.refl S2.nil rfl
def QP(C:Addr)(g:GN)(mm:MA):ME:=λU st=>(mm U st).bind λ(ds,s1)=>(g (.ref s1.length::ds)<|s1++[.ob C []]).bind λ(d,s2)=>match d with
 |.non=>some (.ref s1.length,s2)
 |_=>none
def sN{fd:FuncData}(M:Mk X.K C a)(F:Jj X.prog X.w X.K X.mg X.base KG k a fd ps (Mw X.K (n+1) g))(q:Binds X.K fd ps [])(u:HP (k+1) X.A)(y:Gl X x)(hm:X.mg x=some (.ref C))(B:SA X (e::es) mm)(G:J8 n mm)(b:(x==("__debug__":Str))=false:=by decide) (he:Qqb X.env e es:=by rfl) (h:Qqc pos es X.env:=by rfl):
  SE X (.Call (.Name x p) (e::es) [] pos) (QP C g mm):=PE.imp (rP M F u y hm q .nil Ti B b he h) <| by
 exists 1;obtain⟨⟨ds,s1⟩,P,e⟩:=Hu e;obtain⟨⟨r,s2⟩,I,e⟩:=Hu e;refine⟨U,st,io,ds,s1,E,S,P,λJ H1 L W c R1 x f Y m s=>?_⟩;cases r with
 |non=>
  cases e;obtain⟨i,Sa⟩:=Rj (o:=.own x) c m;have N:upd H1 f (.own x) x=none:=by rw[HV (λz=>s z.symm)];exact Y
  obtain⟨j,l⟩:=PZ (o:=.ins C f []) (ob:=.ob C []) Sa N λZ T e'=>⟨f,[],e',.nil⟩;have R2:=(R1.ext c i).ext Sa j;refine⟨.ref s1.length::ds,s1++[.ob C []],((io++L)++[])++[x],.non,_,?_,?_,l,I,λv Z ka X' S' R'=>⟨R',?_⟩⟩
  ·rw[Ap,Ay,R1.length,G _ _ _ _ P]
  ·rw[Ap J];exact Hj.cons ⟨x,rfl,by rw[<-Sa.len];exact getElem?_len _ x⟩ R2
  have kk:=((k.on c W).on Sa i).on l j;exact kk _ _ ka X' S' ⟨x,rfl,LR (by rw[<-Sa.len];exact getElem?_len _ x)⟩
 |_=>cases e
def YZ(K:Ab)(C:Addr)(x qual:Str)(st:W1)(ps:List Str):Prop:=∃f fd,Mm K x qual st f fd/\Meth K C x f/\Binds K fd ps []
def tN{P:SZ}{st:W1}{m:MS}(L:YZ K C x qual st ps)(S:IQ N ps (Ja st))(hbody:∀(f:Addr) (b:IR) (A:Around) (outer:List Env) (s:Shared) (H:Hp) (E:XK),HP k (A.deeper<|envOfC qual (Ja st) s.heap.objs.size f b) ->
   KL (JR KG P w K mg base N qual (Ja st) f b A outer s H E).nox (Kw st) m):M3 P w K mg base (k+1) C x ps.length (Iv N.length m):=by
 obtain⟨f,fd,F,hm,a⟩:=L;exact⟨f,fd,ps,NX F S<|hbody f,hm,a⟩
def Tt(P:SZ)(w:World)(K:Ab)(mg:Str->Option IR)(base:P3)(k:Nat)(C:Addr)(x:Str)(n:Nat)(g:GN):Prop:=∃a fd ps,Mk K C a/\Jj P w K mg base KG k a fd ps (Mw K n g)/\Binds K fd ps []/\mg x=some (.ref C)
def xW(F:Tt X.prog X.w X.K X.mg X.base k C x (n+1) g)(i:HP (k+1) X.A)(j:Gl X x)(l:SA X (e::es) mm)(q:J8 n mm)(b:(x==("__debug__":Str))=false:=by decide) (he:Qqb X.env e es:=by rfl) (h:Qqc pos es X.env:=by rfl):
  SE X (.Call (.Name x p) (e::es) [] pos) (QP C g mm):=by
 obtain⟨a,fd,ps,M,F,c,hm⟩:=F;exact sN M F c i j hm l q b he h
def Zt(K:Ab)(mg:Str->Option IR)(C:Addr)(c x qual:Str)(st:W1)(ps:List Str):Prop:=∃f fd,Mm K x qual st f fd/\Mk K C f/\Binds K fd ps []/\mg c=some (.ref C)
def tM{P:SZ}{st:W1}{m:MS}(L:Zt K mg C c x qual st ps)(S:IQ N ps (Ja st))(hbody:∀(f:Addr) (b:IR) (A:Around) (outer:List Env) (s:Shared) (H:Hp) (E:XK),HP k (A.deeper<|envOfC qual (Ja st) s.heap.objs.size f b) ->
   KL (JR KG P w K mg base N qual (Ja st) f b A outer s H E).nox (Kw st) m):Tt P w K mg base (k+1) C c ps.length (Iv N.length m):=by
 obtain⟨f,fd,F,M,a,hm⟩:=L;exact⟨f,fd,ps,M,NX F S<|hbody f,a,hm⟩
def inClass(st:W1)(j:Nat):W1:=match st with
 |.ClassDef _ _ _ body _ _ _ _ _ _ _=>body.getD j<|.Pass ⟨0,0,0,0⟩
 |_=>.Pass ⟨0,0,0,0⟩
end
section
variable {K:Type} [DecidableEq K] {knd:HeapKind prog w K}
def kY{xs:List (K×Addr×IR)}{k:K}{Q:Option DictEntry->Shared->Prop}(i:knd.room A)(b:knd.is s.heap k a)(hm:s.heap.DictOfH knd d xs)(h:∀(j:Nat) (p:Addr×IR),xs[j]?≠some (k,p))(l:Q none {s with toks:=s.toks+knd.draws k}):wpAny (!5) A (Builtin.Dict.takeOut d<|.ref a) Q E s:=by
 obtain⟨o,m,n,e,x,hd,he,c,f⟩:=hm;unfold Builtin.Dict.takeOut
 try with_reducible refine AO ?_
 exact Aa<|knd.pyHash i b<|Aa<|Fp (s:={s with toks:=s.toks+knd.draws k}) i b e hd he c f (λ_=>Ae l) λj p g=>absurd g (h j p)
def zmW(d a:Addr)(x:IR):MeetsIn prog w (Builtin.«dict.pop» ⟨[.ref d,.ref a,x],[]⟩) (λA R s=>knd.room A.in1/\(d==sysModules)=false/\∃k xs,knd.is s.heap k a/\s.heap.DictOfH knd d xs/\xs.length<=sizeLine /\
  (∀(j:Nat) (p:Addr×IR) h' tk,xs[j]?=some (k,p)->h'.DictOfH knd d (xs.eraseIdx j)->BC d s.heap h'->R (.ok<|.ret p.2) {s with heap:=h',toks:=tk}) /\
  ((∀(j:Nat) (p:Addr×IR),xs[j]?≠some (k,p))->∀tk,R (.ok<|.ret x) {s with toks:=tk})):=
 .of_wp <| by
  rintro A R s ⟨E,H,k,xs,c,hm,N,h,h'⟩;unfold Builtin.«dict.pop»;refine Aa ?_;unfold Builtin.Dict.keyAndDefault;refine Aa<|B8 hm.typeIs<|Ae ?_;have P:(keyPart<|AE a).isSome=false:=rfl;obtain⟨o,K,l,X,q,hd,he,b,r⟩:=id hm;simp only[P,AM,if_false];refine Aa<|BU X hd<|Aa<|Ae ?_;have u:=Et he
  cases g:K.isEmpty with
  |true=>
   have h0:xs.length=0:=by
    have:K.size=0:=by simpa using g
    omega
   simp only[if_true];refine Aa<|BR<|Aa<|Ae ?_;simp only[Cq,if_true];refine Aa<|D4 H ?_;exact Aa<|BR<|Ae ⟨x,rfl,h' (λj p m=>absurd (KF.mp m).1 (!0)) _⟩
  |false=>
   simp only[AM,if_false];by_cases e:∃(j:Nat) (p:Addr×IR),xs[j]?=some (k,p)
   ·refine Aa<|Zr E c hm N e λj p i m n C=>?_;rw[show(some (⟨knd.hash k,.ref p.1,p.2⟩:DictEntry)).isNone=false from rfl];refine Aa<|BP<|Ae ⟨p.2,rfl,?_⟩;exact h j p i _ m n C
   have f:∀(j:Nat) (p:Addr×IR),xs[j]?≠some (k,p):=λj p z=>e ⟨j,p,z⟩;refine Aa<|kY E c hm f ?_;simp only[Cq,if_true];refine Aa<|D4 H ?_;exact Aa<|BR<|Ae ⟨x,rfl,h' f _⟩
end
variable {Q:Qqa}{cpos:Pos}
section
variable {mk mx:ME}{f:Pv}
def rE{b:Addr}{kvs:List (List Key×V)}{k:List Key}{z:V}{u:IR}(r:A.units+1<cLine)(I:Inv X qp σ H s)(e:H a=some (.dT kvs))(y:H b=some (.tup<|k.map kV))(Z:RelV z u)(h:∀v i s',IB kvs k=some v->Inv X qp σ (upd H a<|.dT<|Kh kvs k) s'->RelV v i->Q i s') (h':∀s',IB kvs k=none->Inv X qp σ H s'->Q u s'):wpAny (!4) A (call (.builtin "dict.pop") [.ref a,.ref b,u]) Q E s:=by
 obtain⟨K,hd,xs,rel,n⟩:=Vp I.hok e;obtain⟨t1,t2,B⟩:=Nt I<|.inr ⟨kvs,.inl e⟩;have G:xs.length<=sizeLine:=by rw[<-Bg rel];exact K
 have g:(xs.map (·.1)).Nodup:=by obtain⟨_,_,_,_,_,_,_,_,g⟩:=n;exact g
 refine Dr CG n.typeIs EK (PySem.F.args_dict_pop_3 _ _ _) (zmW (knd:=tupleKind (Jm X.prog X.w)) a b u) ⟨BK r,B,k,xs,Nu I.hok y,n,G,λj p h2 tk m o x=>?_,λhno tk=>?_⟩
 ·have d:=rel.val k;rw[atKey_of_get g m]at d
  cases l:IB kvs k with
  |none=>rw[l]at d;exact d.elim
  |some v=>
   rw[l]at d;refine h v p.2 _ l ?_ d;obtain⟨q,J,L,N,C,M,S,_,T⟩:=o;have U:(kvs.findIdx λW=>decide (W.1=k))=j:=(UA (λp q z=>z.1) k rel).trans<|VE g m;have Y:(Kh kvs k).length<=sizeLine:=AB (C8 _ _) K;have f:KT H (Kh kvs k) (xs.eraseIdx j):=by unfold Kh;rw[U];exact UP j rel
   refine T8 I (by rw[e];exact CJ) x ⟨q,N⟩ ⟨Y,hd,_,f.keeps λc ys P=>?_,q,J,L,N,C,M,S,T⟩;rw[HV (QT P e λz=>nomatch z)];exact P
 ·have l:IB kvs k=none:=by
   cases l:IB kvs k with
   |none=>rfl
   |some v=>
    obtain⟨j,p,m⟩:=aT rel l;exact absurd m<|hno j p
  exact h' _ l<|Inv.tk I tk
def uW(h ty i:TE):TE:=λσ H Q=>h σ H λx H1=>∃a,x=.ref a/\SJ H1 a/\ty σ H1 λy e=>i σ e λz d=>∃c k b,d a=some (.dT c)/\y=.ref b/\d b=some (.tup<|k.map kV)/\(∀v,IB c k=some v->Q v (upd d a<|.dT<|Kh c k))/\(IB c k=none->Q z d)
def zmF{i ty j:TE}(q:X.A.units+1<cLine)(r:PE X o i)(he:PE X e ty)(hf:PE X f j)(m:M2 X o "pop" apos e f cpos):PE X (.Call (.Attribute o "pop" apos) [e,f] [] cpos) (uW i ty j):=by
 exists 6;refine DZ m.base m.few m.line C5 CG E3 (HD (r qp s σ H _ I h) ?_);rintro u s1 ⟨x,H1,n,w,a,ex,d,C⟩;subst ex;obtain rfl:u=AE a:=w;obtain⟨t1,E,_⟩:=Nt n d;refine⟨t1,E,?_⟩;rw[m.trees];refine B1 rfl (CK (Cp (HD (he qp s1 σ H1 _ n C) λK s2 ⟨y,N,P,B,F⟩=>
  Cp (HD (hf qp s2 σ N _ P F) λY s3 ⟨z,G,J,p,L,k,b,M,S,T,U,W⟩=>Dc ?_))))
 subst S;obtain rfl:K=AE b:=B;exact rE q J M T p (λv Z s4 l c g=>⟨v,_,c,g,U v l⟩) λs4 l c=>⟨z,G,c,p,W l⟩
def Oa(md mk mx:ME):ME:=λU st=>(md U st).bind λ(d,s1)=>match d with
 |.ref n=>if MQ s1 n=true then(mk U s1).bind λ(k,s2)=>(mx U s2).bind λ(x,s3)=>match k,s3[n]? with
   |.tup ds,some (.dt a)=>(keysOf ds).bind λq=>match HS a q with
     |some v=>some (v,s3.set n (.dt<|Kh a q))
     |none=>some (x,s3)
   |_,_=>none
  else none
 |_=>none
def vB{md:ME}(W:X.A.units+1<cLine)(Y:SE X o md)(he:SE X e mk)(hf:SE X f mx)(mm:M2 X o "pop" apos e f cpos:=by exact⟨rfl,rfl,rfl,rfl⟩):SE X (.Call (.Attribute o "pop" apos) [e,f] [] cpos) (Oa md mk mx):=
 PE.imp (zmF W Y he hf mm) <| by
  exists 1;obtain⟨⟨x,s1⟩,Z,f1⟩:=Hu e;clear e;cases x with
  |ref n=>
   obtain⟨hd,f2⟩:=IA f1;obtain⟨⟨y,s2⟩,e2,i⟩:=Hu f2;obtain⟨⟨z,s3⟩,e3,e⟩:=Hu i;clear f1 f2 i;refine⟨U,st,io,_,s1,E,S,Z,λv1 H1 j s c R1=>?_⟩;obtain⟨p,rfl,l⟩:=R1;refine⟨p,rfl,Wi c l hd,U,s1,io++j,y,_,E.ext S s,c,e2,λv2 H2 B K w R2=>⟨U,s2,(io++j)++B,z,_,(E.ext S s).ext c K,w,e3,λv3 H3 k3 N S3 R3=>?_⟩⟩;exists 11;split at e
   ·rename_i ds P F;obtain⟨q,eq1,e⟩:=Hu e;have g:=LR (ka:=k3)<|LR (ka:=B) l;obtain⟨ps,I,r⟩:=S3.ob n p _ g F;obtain⟨b,xs,rfl,hb,rs⟩:=R2.ext w N;have ex:=Pb rs eq1;subst ex;refine⟨ps,q,b,I,rfl,hb,λv C=>?_,λC=>?_⟩
    ·rcases KR.val r q with⟨J,h⟩|⟨d',v',m,a,L⟩
     ·rw[C]at h;cases h
     ·rw[C]at a;cases a;rw[m]at e;cases e;obtain⟨M,S'⟩:=M6 (o:=.dT (Kh ps q)) (ob:=.dt (Kh P q)) S3 g F (λo u z=>by rw[I]at z;cases z) λH' T e'=>⟨_,e',by
       have hi:=UA (λp q z=>z.1) q (KR.mono (ka:=[]) T r);unfold Kh;rw[hi];exact UP _ (KR.mono T r)⟩
      exact(((k.on c s).on w K).on S3 N) _ _ [] M S'<|Rep.ext S3 M L
    ·rcases KR.val r q with⟨J,h⟩|⟨d',v',m,a,L⟩
     ·rw[J]at e;cases e;exact(((k.on c s).on w K).on S3 N).now S3 R3
     rw[C]at a;cases a
   ·cases e
  |_=>cases f1
end
section
variable {q:Obj}{es:Array DictEntry}{ep:Nat}
def oX(b:(a==sysModules)=false):MeetsIn prog w (Builtin.«dict.__len__» ⟨[.ref a],[]⟩) (λ_ R s=>∃q es ep,s.heap.get? a=some q/\q.data=.dict es ep/\R (.ok<|.ret<|.int es.size s.toks) {s with toks:=s.toks+1}):=.of_wp <| by rintro A R s ⟨q,es,ep,g,c,h⟩;show wpAny _ _ (dictSize a >>= _) _ _ s;unfold dictSize;refine Aa<|Aa<|BU g c<|Ae ?_;show wpAny _ _ (Builtin.Dict.pendingCount a >>= _) _ _ s;refine Aa<|wpAny_pendingCount_other b<|wpAny_ret_mkInt ?_;rw[Nat.add_zero];exact h
def xN{Q:Bool->Shared->Prop}(b:(a==sysModules)=false)(g:s.heap.get? a=some q)(dd:q.data=.dict es ep)(ty:s.TypeIs (.ref a) "dict")(hz:es.size<=sizeLine)(h:∀tk,Q (!es.isEmpty) {s with toks:=tk}):wpAny (!5) A (truthy<|.ref a) Q E s:=by
 have d:(es.size:Int)<2^63:=by have:=Ct;omega
 have ne:((es.size:Int) != 0)=!es.isEmpty:=by
  obtain⟨l⟩:=es;cases l<;>simp<;>omega
 have body:wpAny (!5) A (runValue<|.builtin "len" ⟨[.ref a],[]⟩) (λr c=>r=.int es.size (s.toks+1)/\Q (!es.isEmpty) c) E s:=by refine wpAny_runValue<|BB entry_len ?_;rw[A8 plain_len _];unfold Builtin.«len»;refine Aa (m:=oneArg "len" _) (Ae<|Aa (m:=callSpecial? (.ref a) (BD "__len__"))<|A6 (name:=BD "__len__") ty F.slot_dict_len<|Dr F.slot_dict_len ty F.entry_dict_len (F.args_dict_len_1 _) (oX b) ⟨q,es,ep,g,dd,?_⟩);show wpAny _ _ _ _ _ {s with toks:=s.toks+1};refine Aa<|AO<|Ae<|Aa<|BP ?_;show wpAny _ _ (if(es.size:Int)<0 then _ else _) _ _ _;rw[if_neg (!0)];show wpAny _ _ (if(es.size:Int) ≥ 2^63 then _ else _) _ _ _;rw[if_neg (!0)];exact Aa<|wpAny_mkInt<|Ae ⟨rfl,h _⟩
 unfold truthy;refine Aa (wpAny_callSpecial?_none (name:=BD "__bool__") ty noBool_dict<|Aa<|wpAny_specialOf (name:=BD "__len__") ty F.slot_dict_len.lookup<|Aa<|Bu body (λr c z=>?_) λ_ _ z=>z);obtain⟨rfl,z⟩:=z;exact Ae<|ne ▸ z
end
section
variable {a:Pv}
def OS(m:ME):MT:=λU st=>(!8).bind λ(x,s1)=>match x with
 |.ref n=>match s1[n]? with
  |some (.dt a)=>if fits a.length=true then some (!a.isEmpty,s1)else none
  |_=>none
 |_=>none
def sI(h:SE X a m)(he:∀whole,isTrue a X.env whole=(do let v <-whole;standAt a.pos;holding [v] (truthy v)):=by intro _;rfl):SB X a (OS m):=by
 rintro qp s σ H Q I ⟨U,st,io,b,st',E,S,e,k⟩;obtain⟨⟨x,s1⟩,j,e⟩:=Hu e;refine isTrue_plain (HD (h qp s σ H (λv H1=>∃d,Ext io d H H1/\HC X.K H1 (io++d) s1/\Rep X.K H1 (io++d) v x) I ⟨U,st,io,x,s1,E,S,j,λv H1 d f S1 A=>⟨d,f,S1,A⟩⟩) ?_)<|he _;rintro u s2 ⟨v,H1,I1,q,d,f,S1,A⟩
 cases x with
 |ref n=>
  exists 11;split at e
  ·rename_i c r;exists 3;cases e;obtain⟨p,rfl,B⟩:=A;cases q;obtain⟨ps,C,F⟩:=S1.ob n p _ B r;obtain⟨t1,T,G⟩:=Nt I1<|.inr ⟨ps,.inl C⟩;obtain⟨z,y,xs,W,o,N,Y,g,ex,P,Z,nd⟩:=I1.hok p _ C;have J:Jy X.prog X.w H1 s2.heap p (.frz o<|.dT ps):=⟨g,I1.hok p _ C⟩
   obtain⟨g',L,ent⟩:=Qi J P;have i:N.size=c.length:=by rw[L,KR.length F]
   refine xN G g P t1 (by rw[i];exact of_decide_eq_true hf) λtk=>⟨H1,Inv.tk I1 tk,?_⟩
   have M:(!N.isEmpty)=!c.isEmpty:=by
    obtain⟨l⟩:=N;cases l<;>cases c<;>simp at i ⊢
   rw[M];exact k _ _ f S1
  ·cases e
 |_=>cases e
end
variable {good:P3->Prop}{bt:Nat->Nat->Bool}{h:P3}
section
variable {I S:Addr}{fp wr:List Addr}{St:Nat->P3->Prop}{R:Result->Shared->Prop}
def N9(prog:SZ)(w:World)(A:Around)(P:Nat->IR->Prop)(good:P3->Prop)(bt:Nat->Nat->Bool):Prop:=∀(i j:Nat) (u v:IR) (s:Shared) (Q E:Qqa),good s.heap->P i u->P j v->Q (.bool<|bt i j) s->wpAny (!5) A (richCompare .Lt u v) Q E s
def Keeps(wr:List Addr)(S:Addr)(h h':P3):Prop:=∀b o,b∉wr->b≠S->h.get? b=some o->h'.get? b=some o
def Keeps.trans{i j l:P3}(x:Keeps wr S i j)(y:Keeps wr S j l):Keeps wr S i l:=λb o p q e=>y b o p q<|x b o p q e
def Keeps.upd{g:Obj->Obj}:Keeps wr S h (h.update S g):=λb o _ q e=>(Cw _ _<|BF q).trans e
def cY{i:Nat}{g:Obj->Obj}(W:Walks prog w A.in1 I fp wr n P St)(hf:S∉fp)(x:St i h):St i (h.update S g):=W.frame _ _ _ x λb a o e=>(Cw _ _ (λz:S=b=>hf (z ▸ a))).trans e
def Yy(W:Walks prog w A.in1 I fp wr n P St)(i:∀h h',good h->Keeps wr S h h'->good h')(ask:N9 prog w A.in1 P good bt)(hf:S∉fp):∀(r j:Nat) (s:Shared) (u:IR) (c:Nat),j+1+r=n->St (j+1) s.heap->good s.heap->P (argBest bt j) u->s.heap.get? S=some {cls:=.type "list",dict:=none,data:=.seq #[u,u] c,slots:=#[]} ->
  (∀v h' tk,P (argBest bt<|n-1) v->Keeps wr S s.heap h'->R (.ok<|.ret v) {s with heap:=h',toks:=tk})->codeAny (!5) A (.builtin "min.loop" ⟨[.ref I,.none,.ref S],[]⟩) R s:=by
 have hw:S∉wr:=λz=>hf<|W.sub _ z;have nm:(toString "min"++toString ".loop":String)="min.loop":=by decide
 intro r
 induction r with
 |zero=>
  intro j s u c f a X pu g fin;have f:j+1=n:=f;refine BB F.entry_min_loop ?_;rw[A8 F.plain_min_loop _];show wpAny _ A.in1 (seqItems? (.ref S) >>= _) _ _ s;refine Aa<|By g rfl ?_;show wpAny _ A.in1 (tryCatch (pyNext<|.ref I) _ >>= _) _ _ s;refine Aa<|CF<|W.done s _ _ (f ▸ a) λl tk kp=>?_;show wpAny _ A.in1 (updateSeq S (λ_=>#[]) >>= _) _ _ _;refine Aa<|Eu (kp S _ hw g) rfl<|Aa<|BP<|Ae<|fin u _ tk (by rw[<-f];exact pu)<|Keeps.trans (λb o p _ e=>kp b o p e) Keeps.upd
 |succ r q=>
  intro j s u c f a X pu g fin;have x:j+1<n:=by omega
  refine BB F.entry_min_loop ?_;rw[A8 F.plain_min_loop _];show wpAny _ A.in1 (seqItems? (.ref S) >>= _) _ _ s;refine Aa<|By g rfl ?_;show wpAny _ A.in1 (tryCatch (pyNext<|.ref I) _ >>= _) _ _ s;refine Aa<|CF<|W.item (j+1) s _ _ x a λv l tk y m kp=>?_;have C:Keeps wr S s.heap l:=λb o p _ e=>kp b o p e;have d:=kp S _ hw g;have g1:=i _ _ X C;show wpAny _ A.in1 (tryCatch (holding [v,v]<|richCompare .Lt v u >>= _) _ >>= _) _ _ _;refine Aa<|CF<|AO<|Aa<|ask (j+1) (argBest bt j) v u _ _ _ g1 y pu<|Aa<|AO<|Bp<|Aa<|BP<|Ae ?_
  cases B:bt (j+1) (argBest bt j) with
  |true=>
   simp only[if_true];refine Aa<|Eu d rfl<|Aa<|BP ?_;rw[nm];exact Ae ⟨BE F.plain_min_loop _,q (j+1) _ v _ (!0) (cY W hf m) (i _ _ g1 Keeps.upd) (by simp only[argBest,B,if_true];exact y) (BL _ d rfl) λE H K N Q=>fin E H K N ((C.trans Keeps.upd).trans Q)⟩
  |false=>
   simp only[AM,if_false];refine Aa<|BP ?_;rw[nm];exact Ae ⟨BE F.plain_min_loop _,q (j+1) _ u c (!0) m g1 (by simp only[argBest,B,AM,if_false];exact pu) d λE H K N Q=>fin E H K N (C.trans Q)⟩
def zkV(W:Walks prog w A.in1 I fp wr n P St)(i:∀h h',good h->Keeps wr S h h'->good h')(ask:N9 prog w A.in1 P good bt)(hf:S∉fp)(hn:0<n){c:Nat}(st0:St 0 s.heap)(l:good s.heap)(j:s.heap.get? S=some {cls:=.type "list",dict:=none,data:=.seq #[] c,slots:=#[]})(fin:∀v h' tk,P (argBest bt<|n-1) v->Keeps wr S s.heap h'->R (.ok<|.ret v) {s with heap:=h',toks:=tk}):codeAny (!5) A (.builtin "min.loop" ⟨[.ref I,.none,.ref S],[]⟩) R s:=by
 have hw:S∉wr:=λz=>hf<|W.sub _ z;have nm:(toString "min"++toString ".loop":String)="min.loop":=by decide
 refine BB F.entry_min_loop ?_;rw[A8 F.plain_min_loop _];show wpAny _ A.in1 (seqItems? (.ref S) >>= _) _ _ s;refine Aa<|By j rfl ?_;show wpAny _ A.in1 (tryCatch (pyNext<|.ref I) _ >>= _) _ _ s;refine Aa<|CF<|W.item 0 s _ _ hn st0 λv g tk m d kp=>?_;have f:Keeps wr S s.heap g:=λb o p _ e=>kp b o p e;have a:=kp S _ hw j;show wpAny _ A.in1 (updateSeq S (λ_=>#[v,v]) >>= _) _ _ _;refine Aa<|Eu a rfl ?_;rw[nm];exact Ae ⟨BE F.plain_min_loop _,Yy W i ask hf (n-1) 0 _ v _ (!0) (cY W hf d) (i _ _ (i _ _ l f) Keeps.upd) m (BL _ a rfl) λx C E H K=>fin x C E H ((f.trans Keeps.upd).trans K)⟩
end
def yZ{x:IR}(hn:0<n)(ask:N9 prog w A.in1 P good bt)(i:∀h h',good h->(∀b o,b<s.heap.objs.size->h.get? b=some o->h'.get? b=some o)->good h')(j:good s.heap)(h:wpAny (!5) A.in1 (pyIter x) (λit s2=>∃I fp wr St,it=.ref I/\Walks prog w A.in1 I fp wr n P St/\St 0 s2.heap/\(∀b∈fp,b<s2.heap.objs.size)/\(∀b∈wr,s.heap.objs.size<=b)/\(∀b o,s.heap.get? b=some o->s2.heap.get? b=some o)/\s.heap.objs.size<=s2.heap.objs.size /\
   ∀v h' tk,P (argBest bt<|n-1) v->(∀b o,b∉wr->s2.heap.get? b=some o->h'.get? b=some o)->Q v {s2 with heap:=h',toks:=tk}) E s):
  wpAny (!5) A (call (.builtin "min") [x]) Q E s:=by
 have nm:(toString "min"++toString ".loop":String)="min.loop":=by decide
 refine FH F.kind_min F.plain_min F.entry_min (F.args_min1 _) ?_;show wpAny _ A.in1 (Builtin.Builtins.bindParams "min" ["key","default"] 0 ⟨[],[]⟩ >>= _) _ _ s;refine Aa (F7 (show Builtin.Builtins.bindParams "min" ["key","default"] 0 ⟨[],[]⟩=pure [none,none] from rfl)<|Aa<|Ae<|Aa<|Bu h (λit s2 z=>?_) λ_ _ e=>e);obtain⟨I,fp,wr,St,rfl,W,c,hfp,d,m,f,fin⟩:=z;refine Aa<|AR ?_;have hf:s2.heap.objs.size∉fp:=λz=>AN _<|hfp _ z;have hw:s2.heap.objs.size∉wr:=λz=>hf<|W.sub _ z;rw[nm];have p:∀h h',good h->Keeps wr s2.heap.objs.size h h'->good h':=λh h' g k=>i h h' g λb o a e=>k b o (λz=>Nat.not_le.mpr a (d b z)) (Aw<|AC a f) e;refine Ae ⟨BE F.plain_min_loop _,zkV W p ask hf hn (W.frame _ _ _ c λb _ o e=>Ad _ e) (i _ _ j λb o _ e=>Ad _ (m b o e)) (Ao _ rfl) λv C tk H kp=>?_⟩;exact fin v C tk H λb o a e=>kp b o a (Aw<|Ak e) (Ad _ e)
def QN(ts:List (List Int)):List Int:=ts.getD (argBest (λi j=>HT.lexLt (ts.getD i []) (ts.getD j []))<|ts.length-1) []
theorem W3(bt:Nat->Nat->Bool):∀k,argBest bt k<=k
 |0=>Ag _
 |k+1=>by
  unfold argBest;split
  ·exact Ag _
  exact FZ<|W3 bt k
def OT:GN
 |[.ref n],st=>match st[n]? with
  |some (.dt kvs)=>if(fits kvs.length&&!kvs.isEmpty)=true then(rowsOf<|Jt kvs).map λts=>(HG (QN ts),st)else none
  |_=>none
 |_,_=>none
def zlK(hc:X.calm=true)(hu:X.A.units+1<cLine):Jz X (.builtin "min") OT:=by
 exists 0;unfold OT at e;split at e
 ·rename_i n
  split at e
  ·rename_i C c;exists 3;obtain⟨P,J,e⟩:=Ie e;cases e;rw[Aq]at hf;obtain⟨v,rfl,p,rfl,hp⟩:=R.one;obtain⟨u,rfl,L⟩:=r.one;cases L;obtain⟨ps,M,U⟩:=S.ob n p _ hp c;obtain⟨t1,t2,hs⟩:=Nt I<|.inr ⟨ps,.inl M⟩;obtain⟨z,y,zs,r0,o,f,ep,g,ex,W,et,nd⟩:=I.hok p _ M;have fz:Jy X.prog X.w H s.heap p (.frz o<|.dT ps):=⟨g,I.hok p _ M⟩
   obtain⟨g',Y,ent⟩:=Qi fz W;have B:∀(j:Nat) (v:IR),(f.toList.map (·.key))[j]?=some v ↔ ∃c,f[j]?=some c/\v=c.key:=λj v=>by
    rw[Ax,Bs];cases f[j]? with
    |none=>simp
    |some x=>simp[eq_comm]
   obtain⟨ys,rv,rr⟩:=Uu (vs:=f.toList.map (·.key)) U (by rw[Af,AS,Y]) λj v q J e2=>by obtain⟨en',h1,h2⟩:=(B j v).mp J;obtain⟨en2,b,h3,h4,h5,_⟩:=ent j q.1 q.2 e2;rw[h1]at h3;cases h3;exact⟨b,by rw[h2,h4],h5⟩
   obtain⟨T,hd⟩:=Rn rr J;have hlen:f.size=P.length:=by rw[Y,KR.length U,<-show(Jt C).length=C.length from(Af _),hd,Af]
   have hn:0<f.size:=by
    rw[Y,KR.length U];cases C with
    |nil=>exact absurd hf.2<|by decide
    |cons a l=>simp
   have get:∀{i:Nat}{v:IR},(∃c,f[i]?=some c/\v=c.key)->i<P.length/\∃a,v=.ref a/\H a=some (.tup<|(P.getD i []).map V.int):=λ{i v} h=>by
    have hv:=(B i v).mpr h;have G:i<P.length:=by have:=(KF.mp hv).1;rw[Af,AS,hlen]at this;exact this
    obtain⟨a,ea,N,_⟩:=Uq T G;obtain⟨u,eu,L⟩:=rv.get ea;cases L;rw[hv]at eu;cases eu;exact⟨G,a,rfl,N⟩
   have ask:N9 X.prog X.w X.A.in1 (λi v=>∃c,f[i]?=some c/\v=c.key) (λh=>∀b q,H b≠none->s.heap.get? b=some q->h.get? b=some q) (λi j=>HT.lexLt (P.getD i []) (P.getD j [])):=λi j u v s1 Q E hg pu Z hq=>by obtain⟨G,a,rfl,N⟩:=get pu;obtain⟨hj,b,rfl,m⟩:=get Z;obtain⟨ia,va,⟨oa,ga,ca,na,da⟩,_⟩:=I.tuple<|IK.of (K:=X.K) N;obtain⟨ib,vb,⟨ob,gb,cb,nb,db⟩,_⟩:=I.tuple<|IK.of (K:=X.K) m;exact HT.Ls (items:=ia.toArray) (items2:=ib.toArray) ⟨oa,hg _ _ (by rw[N];simp) ga,ca,na,da⟩ ⟨ob,hg _ _ (by rw[m];simp) gb,cb,nb,db⟩ (L2.intsAre_of va) (L2.intsAre_of vb) hu hq
   have F:p<s.heap.objs.size:=Ak g;refine yZ (n:=f.size) hn ask (λh h' gh kk b q m e=>kk b q (Ak e) (gh b q m e)) (λb q _ e=>e)<|WS t1 hs g W ?_;refine⟨_,_,_,_,rfl,fI (A:=X.A.in1) (I.ok.hd hc) s.heap.objs.size p (Aw F) W,⟨⟨_,Ao _ rfl,rfl,rfl⟩,Ad _ g⟩,λb m=>?_,λb m=>?_,λb q e=>Ad _ e,?_,λv h' tk Z kk=>?_⟩
   ·show b<(s.heap.push _).objs.size;rw[Bb];simp only[A4,Bd,or_false]at m
    rcases m with rfl|rfl
    ·exact Cg _
    exact Df F
   ·exact D5 (KM.mp m).symm
   ·show _<=(s.heap.push _).objs.size;rw[Bb];exact Cv _
   obtain⟨G,a,rfl,N⟩:=get Z;rw[hlen]at N;exact⟨.ref a,H,Inv.kept (s:=s) (h':=h') (t':=tk) I λb q e=>kk b q (λz=>Aw (Ak e) (KM.mp z)) (Ad _ e),rfl,k.now S ⟨a,_,rfl,N,VW _⟩⟩
  ·cases e
 ·cases e
open L2
section
variable {st:W1}{f:Addr}
structure SM(K:Ab)(c:Str)(C:Addr):Prop where
 ns:Dt K UV c=some (some (.ref C))
 cl:LB K C
 ms:Dq K C=true
 kc:Bi K (.ref C)=true
def jY(a:Dt K UV c=some (some<|.ref C))(b:CI K C Fv=true)(hd:Da K C=true)(po:DY K C=true)(i:Bq K (.ref C) "__setattr__"=some (some<|.builtin "object.__setattr__"))(mk:Dq K C=true)(j:Bi K (.ref C)=true):SM K c C:=⟨a,⟨b,hd,po,i⟩,mk,j⟩
structure ML(K:Ab)(C:Addr)(x qual:Str)(st:W1)(f:Addr):Prop where
 ex:∃(oc:IR) (od:Option Addr) (kV dc pm:IR) (an:Option Addr) (cd ct:IR) (sl:Array (Option IR)),K.lookup f=some ⟨oc,od,.func (Bw x qual (LQ st) (Kw st) (Ja st) .none kV dc pm an cd ct),sl⟩/\Cd K cd qual=true
 at_:Bq K (.ref C) x=some (some (.ref f))
 fn:Dp K (.ref f)=true
 kp:Bi K (.ref f)=true
def jN{b kV j pm cd q:IR}{r an:Option Addr}{u:Array (Option IR)}(a:Bq K (.ref C) x=some (some<|.ref f))(i:Dp K (.ref f)=true)(l:K.lookup f=some ⟨b,r,.func<|Bw x qual (LQ st) (Kw st) (Ja st) .none kV j pm an cd q,u⟩)(c:Cd K cd qual=true)(k:Bi K (.ref f)=true):ML K C x qual st f:=⟨⟨b,r,kV,j,pm,an,cd,q,u,l,c⟩,a,i,k⟩
def wL(F:ML K C x qual st f)(b:∀(kV doc pm:IR) (an:Option Addr) (j q:IR) (us:List IR),us.length=ps.length->bindArgs (Bw x qual (LQ st) (Kw st) (Ja st) .none kV doc pm an j q) ⟨us,[]⟩=pure (ps.zip us)):YZ K C x qual st ps:=by obtain⟨⟨d,e,kV,g,pm,an,cd,q,h,l,c⟩,a,i,k⟩:=F;exact⟨_,_,O5 l c k,⟨a,i,k⟩,(O5 l c k).binds b⟩
end
end L2.MP
namespace L2.MP
open PySem PySem.Spec PyProof.Rows
end L2.MP
namespace L2.MP
open PySem PySem.Spec
open PyProof.Rows
end L2.MP
namespace L2.MP
open PySem PySem.Spec
open PyProof.Rows
section
variable {X:Cx}{K:Ab}{H:Hp}{io:List Addr}{m:ME}{st st':Hg}{tg:Pv}
end
end L2.MP
namespace L2.MP
open PySem PySem.Spec
open PyProof.Rows
end L2.MP
namespace L2.MP.ST
open PySem PySem.SetTable
end L2.MP.ST
namespace L2.MP
open PySem PySem.Spec PyProof.Rows
end L2.MP
namespace L2.MP
open PySem PySem.Spec
open PyProof.Rows
variable {X:Cx}{pos:Pos}
end L2.MP
namespace L2.MP.ST
open PySem PySem.SetTable
end L2.MP.ST
namespace L2.MP
open PySem PySem.Spec PyProof.Rows
end L2.MP
namespace L2.MP
open PySem PySem.Spec
open PyProof.Rows
end L2.MP
namespace L2.MP
open PySem PyProof.Rows
section
open PySem.SeqAt
open PySem.MeetsSeq PySem.MeetsSeq2 PySem.MeetsSeq3
end
open PySem.Spec
open PySem.SeqAt
end L2.MP
namespace L2.MP
open PySem PySem.Spec PyProof.Rows
end L2.MP
namespace L2.MP
open PySem
section
variable {prog:SZ}{w:World}{A:Around}{E:Qqa}{hp:P3}{gs:Array GenState}{dr:Drawn}{tk:Nat}{os:OsState}
variable {nm ql:Str}{C N x:Addr}{bs bm top:List IR}{sn:List Str}{sub:List IR}{b2:Bool}{b3:Option Bool}{dd:Option Addr}{k0 k1 k2 k3 k5:Option IR}{B newId sa owner:String}{mN:Str->Option IR}{name:Str}{v:IR}{nn:List Str}{o:Obj}
open Builtin Builtin.ObjectAttr in
end
open PySem.Spec PyProof.Rows
end L2.MP
namespace L2.MP
open PySem
open PySem.Spec PyProof.Rows
open PySem.W
end L2.MP
namespace L2.MP
open PySem PySem.W PyProof.Rows Builtin.ObjectAttr
end L2.MP
namespace L2.MP
open PySem PySem.W
open PySem.Spec PyProof.Rows
end L2.MP
namespace L2.MP.Hb
open PySem L2.MP
end L2.MP.Hb
namespace L2.MP
open PySem
theorem dR{f:D->Option PyData}(hf:∀x:Int,f (.int x)=some (.int x)):∀as:List Int,Je f (as.map D.int)=some (as.map Fi)
 |[]=>rfl
 |x::as=>by rw[An,Je,hf x,Ac,dR hf as];rfl
def OB{n:Nat}{st:Hg}{k:Nat}{as:List Int}(hk:st[k]?=some (.lst<|as.map D.int)):IC (n+2) st (.ref k)=some (.list<|as.map Fi):=by rw[IC];simp only[HZ,hk,Ac];rw[dR (λx=>by rw[IC])];rfl
end L2.MP
namespace L2.MP.Hb
open PySem L2.MP
noncomputable abbrev Lp (c:Nat):D:=.str ⟨#[c]⟩
theorem bO(c:Nat):∀(k:Nat) (a:Array Nat),((BG k #[c]).foldl (·++·) a).toList=a.toList++BG k c
 |0,a=>by simp
 |k+1,a=>by rw[Fq,Ew,bO c k (a++#[c])];simp[Fq]
def T6{c:Nat}{n:Int}(a:1<=n):(JO ⟨#[c]⟩ n).cps.toList=BG n.toNat c:=by
 unfold JO;rw[if_neg (!0)]
 by_cases hn:n=1
 ·subst hn;rfl
 ·rw[if_neg]
  ·exact bO c n.toNat #[]
  ·simp[hn];show ¬((⟨#[c]⟩:Str).length=0);show ¬(1=0)
   decide
def Xi{c:Nat}{n:Int}{st:Hg}(a:1<=n)(f:n<=1000):HX (Lp c) (.int n) st=some (.str (JO ⟨#[c]⟩ n),st):=by
 have b:(JO ⟨#[c]⟩ n).length=n.toNat:=by rw[len_list,T6 a,BJ]
 have d:(⟨#[c]⟩:Str).length=1:=rfl;have e:sizeLine=16777216:=Ct;have:(decide (-(2^62)<=n)&&decide (n<2^20)&&decide ((⟨#[c]⟩:Str).length*n.toNat<=sizeLine)&&decide ((JO ⟨#[c]⟩ n).length<=sizeLine))=true:=by rw[b,d,e];rw[decide_eq_true (show -(2^62)<=n by omega),decide_eq_true (show n<2^20 by omega),decide_eq_true (show 1*n.toNat<=16777216 by omega),decide_eq_true (show n.toNat<=16777216 by omega)];rfl
 show HX (.str ⟨#[c]⟩) (.int n) st=_;unfold HX JX LW intD;dsimp only;rw[Ku];unfold Tf;dsimp only;rw[if_pos this]
end L2.MP.Hb
namespace L2.MP.Hd
open PySem L2.MP
def gZ:MS:=mS (Hr (mB Hf (mV 0)<|mK<|.int 0)<|Hl 1)<|mS (Hr (mB Hf (mV 0)<|mK<|.int 1)<|Hl 2)<|mR<|mU<|Hc (mU<|Hc (mV 1)<|Hc (mB HF (mV 2)<|mK<|.int 1)<|mZ)<|Hc (mU<|Hc (mB HF (mV 1)<|mK<|.int 1)<|Hc (mV 2)<|mZ)<|Hc (mU<|Hc (mV 1)<|Hc (mB K6 (mV 2)<|mK<|.int 1)<|mZ)<|Hc (mU<|Hc (mB K6 (mV 1)<|mK<|.int 1)<|Hc (mV 2)<|mZ)<|mZ
def Mj:GN:=Iv 3 gZ
def WY:MS:=mS (Hr (mB Hf (mB Hf (mV 0)<|mK<|.int 0)<|mK<|.int 2)<|Hl 2) (mS (IX (mT<|M4 QD Px (mK<|.int 0) (mV 1)<|Ho HM<|Hc (mV 2)<|mZ) (mR<|Jp (mB Hf (mV 2)<|mV 1) (K2<|mK<|.int 1)<|K1)<|Jd)<|mR<|mU<|Hc (mK<|.str "")<|Hc (mK<|.str "")<|Hc (mK<|.str "")<|Hc (mK<|.str "")<|mZ)
def Qq:GN:=Iv 3 WY
def UQ:MS:=Ji (mV 1) (mU<|Hc (mV 2)<|Hc (mV 3)<|mZ)<|mV 4
def hX:MS:=mS (Hr (OZ true)<|Hl 1)<|mS (mF (Jb<|mV 0) (JY 3<|gC (Hl 2)<|gC (Hl 3)<|gC (Hl 4)<|JZ)<|UQ)<|mR<|mV 1
def Qz:GN:=Iv 5 hX
def Pm:MS:=IX (mT<|mB J5 (mV 5)<|mV 1) (IJ<|J4 (mV 3)<|Hc (mB Hf (Ho Qq<|Hc (mV 0)<|Hc (mB Hf (mV 1)<|mV 5)<|mZ)<|mB Io (mB HF (mV 4)<|mK<|.int 2)<|mK<|.int 4)<|mZ) (IJ<|J4 (mV 3)<|Hc (mK<|.str "")<|mZ)
def iC:MS:=mS (Hr (mL<|mZ)<|Hl 3)<|mS (mF (PQ<|Ho Mj<|Hc (mV 2)<|mZ) (JY 2<|gC (Hl 4)<|gC (Hl 5)<|JZ)<|Pm)<|mR<|mV 3
def Qr:GN:=Iv 6 iC
def RV:ME:=mB Hf (mV 2)<|mV 0
def RW:MT:=J9 (mT<|mB KC (mV 0)<|mV 1) (mT<|mB IY (mV 0)<|mK<|.str "")
def iG:MS:=mR<|Ho LV<|Hc (I0 (My (mV 1)<|mV 2) 2 [0] (JY 2<|gC (Hl 0)<|gC (Hl 1)<|JZ) RW<|RV)<|mZ
def Po:GN:=Iv 3 iG
def Xo:MS:=mS (Hr (LX (mT<|mB Px (mV 1)<|Ho HM<|Hc (mV 0)<|mZ) (mB Hf (mV 0)<|mV 1)<|mK<|.int 0)<|Hl 2)<|mS (Hr (mB IZ (mB IZ (mB IZ (mB IZ (mB IG (mK<|.int 10)<|mK<|.int 60)<|mB IG (mK<|.int 10)<|mK<|.int 60)<|mB IG (mK<|.int 10)<|mK<|.int 60)<|mB IG (mK<|.int 10)<|mK<|.int 60)<|mB IG (mK<|.int 10)<|mK<|.int 60)<|Hl 3)<|mS (Hr (mB IZ (mB Io (mV 2)<|mV 3)<|Ho Lu<|Hc (mB L1 (mV 2)<|mB IG (mK<|.int 10)<|mK<|.int 18)<|mZ)<|Hl 4)<|mR<|mL<|Hc (mV 4)<|Hc (mB Io (mB HF (mB Io (mV 2)<|mK<|.int 2305843009213693951)<|mB HX (mK<|.int 7919)<|mV 1)<|mK<|.int 2305843009213693951)<|Hc (mK<|.int 0)<|mZ
def Xr:GN:=Iv 5 Xo
def RG:MS:=mS (IX (mT<|mB Nj (mB Hf (mV 0)<|mK<|.int 0)<|mK<|.int 0) (mS (Hr (mB Io (mB Hf (mV 0)<|mK<|.int 0)<|mV 1)<|Hl 2)<|mS (Ji (mV 0) (mK<|.int 0)<|mB MN (mB Hf (mV 0)<|mK<|.int 0)<|mV 1)<|mR<|mV 2)<|Jd)<|mS (Ji (mV 0) (mK<|.int 2)<|mB HF (mB Hf (mV 0)<|mK<|.int 2)<|mK<|.int 1)<|mS (Hr (mB Io (mB HX (mB HF (mB HF (mB Hf (mV 0)<|mK<|.int 1)<|mB HX (mB HX (mK<|.int 104729)<|mB Hf (mV 0)<|mK<|.int 2)<|mB Hf (mV 0)<|mK<|.int 2)<|mB HX (mK<|.int 31)<|mB Hf (mV 0)<|mK<|.int 2)<|mK<|.int 48271)<|mK<|.int 2305843009213693921)<|Hl 3)<|mS (Hr (mB Io (mB HX (mV 3)<|mB HF (mB Io (mV 3)<|mK<|.int 1000003)<|mB HX (mK<|.int 39373)<|mB Hf (mV 0)<|mK<|.int 2)<|mK<|.int 2305843009213693907)<|Hl 3)<|mR<|mB Io (mB HF (mB MN (mV 3)<|mK<|.int 65537)<|mB MN (mV 3)<|mK<|.int 1000033)<|mV 1
def Il:GN:=Iv 4 RG
def Qu:ME:=mB HX (mB Hf (mV 1)<|mV 2)<|mB HF (mV 0)<|mK<|.int 1
def Qv:ME:=mB HX (mB Hf (mV 1)<|mB Io (mB HF (mV 2)<|mB HX (mV 3)<|mV 0)<|mK<|.int 26)<|mB HF (mK<|.int 1)<|mB Io (mB HF (mB HX (mV 0)<|mV 0)<|mV 2)<|mK<|.int 8
def Xq:MS:=mS (Hr (mK<|.str "abcdefghijklmnopqrstuvwxyz")<|Hl 2) (mS (Hr (mU<|Hc (Ho Il<|Hc (mV 0)<|Hc (mK<|.int 26)<|mZ)<|Hc (mB Hf (mL<|Hc (mK<|.int 1)<|Hc (mK<|.int 3)<|Hc (mK<|.int 5)<|Hc (mK<|.int 7)<|Hc (mK<|.int 9)<|Hc (mK<|.int 11)<|mZ)<|Ho Il<|Hc (mV 0)<|Hc (mK<|.int 6)<|mZ)<|mZ)<|JY 2<|gC (Hl 3)<|gC (Hl 4)<|JZ)<|mS (IX (mT<|mB KC (Ho Il<|Hc (mV 0)<|Hc (mK<|.int 3)<|mZ)<|mK<|.int 0) (mR<|I0 (IW<|mV 1) 1 [2,3] (Hl 0) IU<|Qu)<|Jd)<|mR<|Ho Mf<|Hc (I0 (IW<|mV 1) 1 [2,3,4] (Hl 0) IU<|Qv)<|mZ)
def Xt:GN:=Iv 5 Xq
def Ph:ME:=mB Hf (mB HF (mL<|Hc (mK<|.str "")<|mZ)<|mV 1) (Ho Il<|Hc (mV 2)<|Hc (mB HF (Ho HM<|Hc (mV 1)<|mZ)<|mK<|.int 1)<|mZ)
def fL:MS:=mS (Hr (mB Hf (mL<|Hc (mK<|.str "")<|Hc (mB Hf (mK<|.str "abcdefghijklmnopqrstuvwxyz0123456789")<|Ho Il<|Hc (mV 0)<|Hc (mK<|.int 36)<|mZ)<|mZ)<|Ho Il<|Hc (mV 0)<|Hc (mK<|.int 2)<|mZ)<|Hl 2) (mS (Hr (I0 (IW<|mK<|.int 4) 1 [1,0] (Hl 0) IU<|Ph)<|Hl 3)<|mR<|mU<|Hc (mV 2)<|Hc (mB Hf (mV 3)<|mK<|.int 0)<|Hc (mB Hf (mV 3)<|mK<|.int 1)<|Hc (mB Hf (mV 3)<|mK<|.int 2)<|Hc (mB Hf (mV 3)<|mK<|.int 3)<|mZ)
def Xw:GN:=Iv 4 fL
def Qt:ME:=mU<|Hc (mV 0)<|Hc (mB Hf (mL<|Hc (mK<|.int 1)<|Hc (mK<|.int 2)<|Hc (mK<|.int 1)<|Hc (mB HF (mK<|.int 1)<|Ho Il<|Hc (mV 1)<|Hc (mK<|.int 4)<|mZ)<|mZ)<|Ho Il<|Hc (mV 1)<|Hc (mK<|.int 4)<|mZ)<|mZ
def RP:ME:=Ho Xw<|Hc (mV 1)<|Hc (mV 2)<|mZ
def Xp:MS:=mS (Hr (Ho Xt<|Hc (mV 0)<|Hc (mB HF (mK<|.int 1)<|Ho Il<|Hc (mV 0)<|Hc (mK<|.int 4)<|mZ)<|mZ)<|Hl 1)<|mS (Hr (mB Hf (mL<|Hc (mK<|.int 1)<|Hc (mK<|.int 1)<|Hc (mK<|.int 2)<|Hc (mK<|.int 2)<|Hc (mK<|.int 1)<|Hc (mK<|.int 3)<|Hc (mK<|.int 4)<|Hc (mK<|.int 2)<|mZ)<|Ho Il<|Hc (mV 0)<|Hc (mK<|.int 8)<|mZ)<|Hl 2)<|mS (Hr (Ho Ll<|Hc (I0 (Jb<|mV 1) 1 [0] (Hl 0) IU<|Qt)<|mZ)<|Hl 3)<|mS (Hr (I0 (IW<|mB HF (mK<|.int 1)<|Ho Il<|Hc (mV 0)<|Hc (mB Hf (mL<|Hc (mK<|.int 3)<|Hc (mK<|.int 5)<|Hc (mK<|.int 5)<|Hc (mK<|.int 12)<|mZ)<|Ho Il<|Hc (mV 0)<|Hc (mK<|.int 4)<|mZ)<|mZ) 1 [0,1] (Hl 0) IU<|RP)<|Hl 4)<|mS (IX (mT<|mB KC (Ho Il<|Hc (mV 0)<|Hc (mK<|.int 6)<|mZ)<|mK<|.int 0) (IJ<|J4 (mV 4)<|Hc (mB Hf (mV 4)<|Ho Il<|Hc (mV 0)<|Hc (Ho HM<|Hc (mV 4)<|mZ)<|mZ)<|mZ)<|Jd)<|mR<|mU<|Hc (mV 2)<|Hc (mV 3)<|Hc (Ho Ll<|Hc (mV 4)<|mZ)<|mZ
def Xs:GN:=Iv 5 Xp
def RZ:MS:=mS (Hr (mU<|Hc (Ho Il<|Hc (mV 0)<|Hc (mB Hf (mV 2)<|mK<|.int 0)<|mZ)<|Hc (Ho Il<|Hc (mV 0)<|Hc (mB Hf (mV 2)<|mK<|.int 1)<|mZ)<|mZ)<|Hl 6)<|Ji (mV 4) (mV 6)<|Ho Il<|Hc (mV 0)<|Hc (Ho HM<|Hc (mB Hf (mV 1)<|mK<|.int 2)<|mZ)<|mZ
def RX:ME:=mB HF (mV 0)<|mU<|Hc (mB Nn (mV 1)<|mV 0)<|mZ
def hZ:MS:=mS (Hr (OZ true)<|Hl 4)<|mS (mF (IW<|Ho Il<|Hc (mV 0)<|Hc (mB HF (mV 3)<|mK<|.int 1)<|mZ) (Hl 5)<|RZ)<|mR<|Ho Ll<|Hc (Ho Mf<|Hc (I0 (OI<|mV 4) 1 [4] (Hl 0) IU<|RX)<|mZ)<|mZ
def OF:GN:=Iv 7 hZ
def Ux:MS:=mS (Hr (Ho Xs<|Hc (mV 0)<|mZ)<|Hl 1)<|mS (Hr (mU<|Hc (mB HF (mK<|.int 1)<|Ho Il<|Hc (mV 0)<|Hc (mK<|.int 5)<|mZ)<|Hc (mB HF (mK<|.int 1)<|Ho Il<|Hc (mV 0)<|Hc (mB Hf (mL<|Hc (mK<|.int 5)<|Hc (mK<|.int 5)<|Hc (mK<|.int 5)<|Hc (mK<|.int 12)<|mZ)<|Ho Il<|Hc (mV 0)<|Hc (mK<|.int 4)<|mZ)<|mZ)<|mZ)<|Hl 2)<|mS (IX (mT<|mB KC (Ho Il<|Hc (mV 0)<|Hc (mK<|.int 2)<|mZ)<|mK<|.int 0) (Hr (Vl (mV 2)<|NQ<|mK<|.int 1)<|Hl 2)<|Jd)<|mR<|mU<|Hc (mV 1)<|Hc (mV 2)<|Hc (Ho OF<|Hc (mV 0)<|Hc (mV 1)<|Hc (mV 2)<|Hc (mB Hf (mL<|Hc (mK<|.int 1)<|Hc (mK<|.int 2)<|Hc (mK<|.int 6)<|mZ)<|Ho Il<|Hc (mV 0)<|Hc (mK<|.int 3)<|mZ)<|mZ)<|mZ
def W7:GN:=Iv 3 Ux
def RQ:ME:=mU<|Hc (mU<|Hc (mV 0)<|Hc (mV 1)<|mZ)<|Hc (mV 2)<|mZ
def gU:MS:=mR<|Ho QK<|Hc (I0 (Jb<|mV 0) 3 [] (JY 3<|gC (Hl 0)<|gC (Hl 1)<|gC (Hl 2)<|JZ) IU<|RQ)<|mZ
def NJ:GN:=Iv 1 gU
def fM:MS:=mS (Hr (mV 0)<|JY 2<|gC (Hl 2)<|gC (Hl 3)<|JZ)<|mR<|mB Hf (mL<|Hc (mU<|Hc (mV 2)<|Hc (mB HF (mV 3)<|mK<|.int 1)<|mZ)<|Hc (mU<|Hc (mB HF (mV 2)<|mK<|.int 1)<|Hc (mV 3)<|mZ)<|Hc (mU<|Hc (mV 2)<|Hc (mB K6 (mV 3)<|mK<|.int 1)<|mZ)<|Hc (mU<|Hc (mB K6 (mV 2)<|mK<|.int 1)<|Hc (mV 3)<|mZ)<|mZ)<|mV 1
def NH:GN:=Iv 4 fM
def Pk:MS:=mS (Hr (O0 (mV 1)<|Ho NH<|Hc (mV 2)<|Hc (mV 6)<|mZ)<|Hl 7) (mS (Hr (mB Hf (mB Hf (mV 4)<|mV 3)<|mB HF (mV 6)<|mK<|.int 1)<|Hl 8)<|IX (J9 (mT<|mB Ob (mV 7)<|mK .non)<|J9 (mT<|mB IY (mV 8)<|mK<|.str "")<|mT<|mB KC (mB Hf (mB Hf (mV 4)<|mV 7)<|mB HF (mB Io (mB HF (mV 6)<|mK<|.int 2)<|mK<|.int 4)<|mK<|.int 1)<|mV 8) (IJ<|J4 (mV 5)<|Hc (mV 6)<|mZ)<|Jd)
def gV:MS:=mS (NP 4 5<|Hc (mB Hf (mB Hf (mV 0)<|mK<|.int 0)<|mK<|.int 2)<|Hc (mL<|mZ)<|mZ)<|mS (mF (IW<|mK<|.int 4) (Hl 6)<|Pk)<|mR<|mV 5
def Xu:GN:=Iv 9 gV
def RH:ME:=mB Hf (mV 1)<|mB Hf (mB Hf (mB Hf (mB Hf (mV 2)<|mK<|.int 0)<|mK<|.int 2)<|mV 3)<|mB HF (mV 0)<|mK<|.int 1
def WX:MS:=mS (Hr (Ho Xu<|Hc (mV 0)<|Hc (mV 1)<|Hc (mV 2)<|Hc (mV 3)<|mZ)<|Hl 4)<|mS (IX (mT<|mB KC (mV 4)<|mL<|mZ) (mR<|mK<|.int 0)<|Jd)<|mS (Hr (Ho OP<|Hc (mB Hf (mB Hf (mV 0)<|mK<|.int 0)<|mK<|.int 1)<|mZ)<|Hl 5)<|mR<|Ho LV<|Hc (I0 (Jb<|mV 4) 1 [5,0,3] (Hl 0) IU<|RH)<|mZ
def Nf:GN:=Iv 6 WX
end L2.MP.Hd
namespace L2.MP
open PySem
@[simp] theorem zww(n:Nat)(ds:List D):LJ n ds=ds.map some++BG (n-ds.length) none:=rfl
@[simp] theorem zvr(U:Ii)(n:Nat)(l:List Nat):IL U n l=BG n none++l.map λ(j:Nat)=>(U[j]?).join:=rfl
variable {a b:Int}{st:Hg}
@[simp] theorem zwY:Px (.int a) (.int b) st=some (.bl (decide (a<b)),st):=rfl
@[simp] theorem zwZ:QD (.int a) (.int b) st=some (.bl (decide (a<=b)),st):=rfl
@[simp] theorem zw2:Nj (.int a) (.int b) st=some (.bl (decide (b<a)),st):=rfl
@[simp] theorem zw3:L1 (.int a) (.int b) st=some (.bl (decide (b<=a)),st):=rfl
@[simp] theorem zw1:Lu [.int a] st=some (.int a,st):=rfl
@[simp] theorem zw0{b:Bool}:Lu [.bl b] st=some (.int (if b then 1 else 0),st):=rfl
end L2.MP
namespace L2.MP.Hd
open PySem L2.MP
def HJ(n m:Nat)(st:Hg):Prop:=∃a b c:Int,st[n]?=some (.lst [.int a,.int b,.int c])/\0<=a/\0<=b/\b<2305843009213693951/\0<=c/\c<=(m:Int)
variable {n m:Nat}{st:Hg}
def HJ.lt(h:HJ n m st):n<st.length:=by obtain⟨a,b,c,e,_⟩:=h;exact qax e
def HJ.ne(h:HJ n m st):st.length≠n:=C0 h.lt
def HJ.gr{d:Hg}(h:HJ n m st)(g:Gr st d):HJ n m d:=by obtain⟨a,b,c,e,r⟩:=h;exact⟨a,b,c,(g.old n<|qax e).trans e,r⟩
variable {k:Nat}
def HJ.up(h:HJ n m st)(hk:m<=k):HJ n k st:=by obtain⟨a,b,c,e,d,f,g,i,j⟩:=h;exact⟨a,b,c,e,d,f,g,i,by omega⟩
def HJ.set{n m l:Nat}{st:Hg}{o:O}(h:HJ n m st)(d:l≠n):HJ n m (st.set l o):=by obtain⟨a,b,c,e,r⟩:=h;exact⟨a,b,c,by rw[Ah d];exact e,r⟩
variable {a b:Int}
def Zg(h:Kc a=true):HX (.int a) (.int b) st=some (.int (a*b),st):=by simp[HX,JX,LW,intD,h,Kt]
def mul_r(h:Kc b=true):HX (.int a) (.int b) st=some (.int (a*b),st):=by simp[HX,JX,LW,intD,h,Kt]
def Ma(h:0<b):Io (.int a) (.int b) st=some (.int (a % b),st):=by simp[Io,intD,h]
def Vo(h:0<b)(c:b<340282366920938463463374607431768211456):MN (.int a) (.int b) st=some (.int (a / b),st):=by simp[MN,intD,h,c]
variable {many:Int}{s1:Hg}
def lZ{c:Int}(d:Hf (.ref n) (.int 0) st=some (.int a,st))(e:0<a)(f:Io (.int a) (.int many) st=some (.int b,st))(g:MN (.int a) (.int many) st=some (.int c,st))(h:Ik (.ref n) (.int 0) (.int c) st=some s1):RG [some (.ref n),some (.int many),none,none] st=some (.rt (.int b),s1):=by
 unfold RG;refine Ot ?_;have m:mT (mB Nj (mB Hf (mV 0)<|mK<|.int 0)<|mK<|.int 0) [some (.ref n),some (.int many),none,none] st=some (true,st):=by simp[JH,d,e]
 rw[Lf,m];refine Hz (U1:=[some (.ref n),some (.int many),some (.int b),none]) (s1:=st) (by simp[JH,d,f]) ?_;refine Hz (U1:=[some (.ref n),some (.int many),some (.int b),none]) (s1:=s1) (by simp[JH,d,g,h]) ?_;simp[JH]
variable {x2 x3:Int}
def lM{c d e f j l x5 o p x8 r:Int}(u:Hf (.ref n) (.int 0) st=some (.int a,st))(v:¬0<a)(w:Hf (.ref n) (.int 2) st=some (.int c,st))(hd:c+1=d)(x:Ik (.ref n) (.int 2) (.int d) st=some s1)(y:Hf (.ref n) (.int 1) s1=some (.int b,s1)) (q:Hf (.ref n) (.int 2) s1=some (.int d,s1))(z:HX (.int 104729) (.int d) s1=some (.int j,s1)) (A:HX (.int j) (.int d) s1=some (.int x2,s1)) (B:HX (.int 31) (.int d) s1=some (.int x3,s1)) (C:HX (.int<|b+x2+x3) (.int 48271) s1=some (.int l,s1)) (E:Io (.int l) (.int 2305843009213693921) s1=some (.int e,s1))(F:Io (.int e) (.int 1000003) s1=some (.int x5,s1)) (G:HX (.int 39373) (.int d) s1=some (.int o,s1)) (H:HX (.int e) (.int<|x5+o) s1=some (.int p,s1)) (I:Io (.int p) (.int 2305843009213693907) s1=some (.int f,s1))(g:MN (.int f) (.int 65537) s1=some (.int x8,s1)) {s:Int} (h:MN (.int f) (.int 1000033) s1=some (.int s,s1)) (i:Io (.int<|x8+s) (.int many) s1=some (.int r,s1)):
  RG [some (.ref n),some (.int many),none,none] st=some (.rt (.int r),s1):=by
 unfold RG;have m:mT (mB Nj (mB Hf (mV 0)<|mK<|.int 0)<|mK<|.int 0) [some (.ref n),some (.int many),none,none] st=some (false,st):=by simp[JH,u,v]
 refine Hz (U1:=[some (.ref n),some (.int many),none,none]) (s1:=st) (by rw[Lf,m];rfl) ?_;refine Hz (U1:=[some (.ref n),some (.int many),none,none]) (s1:=s1) (by simp[JH,w,hd,x]) ?_;refine Hz (U1:=[some (.ref n),some (.int many),none,some (.int e)]) (s1:=s1) (by simp[JH,y,q,z,A,B,C,E]) ?_;refine Hz (U1:=[some (.ref n),some (.int many),none,some (.int f)]) (s1:=s1) (by simp[JH,q,F,G,H,I]) ?_;simp[JH,g,h,i]
def J0(h:HJ n m st)(hm:m<=1000000)(i:0<many)(w:many<18446744073709551616):∃(r:Int) (g:Hg),Y5 (Il [.ref n,.int many] st=some (.int r,g)) (0<=r) (r<many) (HJ n (m+1) g) (Fr n st g):=by
 obtain⟨a,b,c,e,q,s,j,y,z⟩:=h;have u:=qax e;have v:Hf (.ref n) (.int 0) st=some (.int a,st):=KU e (!1) rfl
 by_cases h0:0<a
 ·have l:Ik (.ref n) (.int 0) (.int<|a / many) st=some (st.set n<|.lst [.int (a / many),.int b,.int c]):=by simp[Ik,e,Ml]
  have A:MN (.int a) (.int many) st=some (.int (a / many),st):=Vo i (!0);exact⟨a % many,_,IH<|lZ v h0 (Ma i) A l,B9 _<|by omega,BN _ i,⟨a / many,b,c,by simp[u],Int.ediv_nonneg q<|by omega,s,j,y,by omega⟩,Gy _ _ _⟩
 ·have B:Hf (.ref n) (.int 2) st=some (.int c,st):=KU e (!1) rfl;obtain⟨d,hd⟩:∃d,c+1=d:=⟨_,rfl⟩
  have l:Ik (.ref n) (.int 2) (.int d) st=some (st.set n<|.lst [.int a,.int b,.int d]):=by simp[Ik,e,Ml]
  have o:(st.set n<|.lst [.int a,.int b,.int d])[n]?=some (.lst [.int a,.int b,.int d]):=by simp[u]
  have f:Fr n st (st.set n<|.lst [.int a,.int b,.int d]):=Gy _ _ _;generalize st.set n (.lst [.int a,.int b,.int d])=s1 at l o f;have C:Hf (.ref n) (.int 1) s1=some (.int b,s1):=KU o (!1) rfl;have E:Hf (.ref n) (.int 2) s1=some (.int d,s1):=KU o (!1) rfl;have p:Kc d=true:=by unfold Kc;simp;omega
  have F:Kc 48271=true:=by decide
  have k3:∀x:Int,Kc (x % 2305843009213693921)=true:=λx=>by have i:=B9 x (show(2305843009213693921:Int)≠0 by decide);have w:=BN x (show(0:Int)<2305843009213693921 by decide);unfold Kc;simp;omega
  refine⟨_,s1,IH<|lM v h0 B hd l C E (mul_r p) (mul_r p) (mul_r p) (mul_r F) (Ma<|by decide) (Ma<|by decide) (mul_r p) (Zg<|k3 _) (Ma<|by decide) (Vo (!1)<|by decide) (Vo (!1)<|by decide)<|Ma i,B9 _<|by omega,BN _ i,⟨a,b,d,o,q,s,j,by omega,by omega⟩,f⟩
def mY(st:Hg):∃F:Int,Y3 (0<F) (F.natAbs<2^1100) (∀U:Ii,mB IZ (mB IZ (mB IZ (mB IZ (mB IG (mK<|.int 10)<|mK<|.int 60)<|mB IG (mK<|.int 10)<|mK<|.int 60)<|mB IG (mK<|.int 10)<|mK<|.int 60)<|mB IG (mK<|.int 10)<|mK<|.int 60) (mB IG (mK<|.int 10)<|mK<|.int 60) U st=some (.int F,st)):=
 ⟨10^300,by decide +kernel,by decide +kernel,λU=>by
  have b:mB IG (mK<|.int 10) (mK<|.int 60) U st=some (.int (10^60),st):=by
   rw[P8];simp only[Vt,Ac];have:(decide ((0:Int)<=60)&&decide ((Builtin.Int.intBits 10:Int)*60<=2^27))=true:=by decide +kernel
   unfold IG intD;dsimp only;rw[if_pos this];rfl
  have a:∀(i j k:Nat),i+j=k->(decide (Builtin.Int.intBits ((10:Int)^i)<=2^20)&&decide (Builtin.Int.intBits ((10:Int)^j)<=2^20))=true->IZ (.int<|10^i) (.int<|10^j) st=some (.int (10^k),st):=λi j k hk h=>by unfold IZ intD;dsimp only;rw[if_pos h,<-hk,Int.pow_add]
  have m:=a 60 60 120 rfl (by decide +kernel);have n:=a 120 60 180 rfl (by decide +kernel);have c:=a 180 60 240 rfl (by decide +kernel);have d:=a 240 60 300 rfl (by decide +kernel);have h0:=b;generalize (10:Int)^60=a1 at *;generalize (10:Int)^120=a2 at *;generalize (10:Int)^180=e at *;generalize (10:Int)^240=f at *;generalize (10:Int)^300=g at *;simp only[P8,Vt,Ac]at b;simp only[P8,Vt,Ac,b,m,n,c,d]⟩
theorem kZ(U:Ii)(st:Hg):mB IG (mK<|.int 10) (mK<|.int 18) U st=some (.int 1000000000000000000,st):=rfl
def vQ(c:Builtin.Int.intBits a<=2^20)(d:b=0\/b=1):IZ (.int a) (.int b) st=some (.int (a*b),st):=by
 have m:Builtin.Int.intBits b<=2^20:=by rcases d with rfl|rfl<;>decide +kernel
 unfold IZ intD;dsimp only;rw[if_pos];rw[decide_eq_true c,decide_eq_true m];rfl
variable {F:Int}
def qX(h0:0<=a)(d:a<F)(c:F.natAbs<2^1100):Builtin.Int.intBits a<=2^20:=by
 have b:a.natAbs<F.natAbs:=by omega
 exact AB (PyProof.Rows.intBits_le<|B3 b c)<|by decide
variable {U:Ii}
theorem Vu{c:MT}{m n:ME}:LX c m n U st=(c U st).bind λp=>if p.1=true then m U p.2 else n U p.2:=rfl
variable {ds:List D}{cell:Int}
def uA{k own:Int}(c:LX (mT<|mB Px (mV 1)<|Ho HM<|Hc (mV 0)<|mZ) (mB Hf (mV 0)<|mV 1) (mK<|.int 0) [some (.kl ds),some (.int k),none,none,none] st=some (.int cell,st))(d:mB IZ (mB IZ (mB IZ (mB IZ (mB IG (mK<|.int 10)<|mK<|.int 60)<|mB IG (mK<|.int 10)<|mK<|.int 60)<|mB IG (mK<|.int 10)<|mK<|.int 60)<|mB IG (mK<|.int 10)<|mK<|.int 60) (mB IG (mK<|.int 10)<|mK<|.int 60) [some (.kl ds),some (.int k),some (.int cell),none,none] st=some (.int F,st))(e:mB IZ (mB Io (mV 2)<|mV 3) (Ho Lu<|Hc (mB L1 (mV 2)<|mB IG (mK<|.int 10)<|mK<|.int 18)<|mZ) [some (.kl ds),some (.int k),some (.int cell),some (.int F),none] st=some (.int own,st))(f:Io (.int cell) (.int 2305843009213693951) st=some (.int x2,st)) (g:HX (.int 7919) (.int k) st=some (.int x3,st)) (h:Io (.int<|x2+x3) (.int 2305843009213693951) st=some (.int b,st)):
  Xo [some (.kl ds),some (.int k),none,none,none] st=some (.rt (.ref st.length),st++[.lst [.int own,.int b,.int 0]]):=by
 unfold Xo;refine Hz (U1:=[some (.kl ds),some (.int k),some (.int cell),none,none]) (s1:=st) (by rw[Oj,c];rfl) ?_;refine Hz (U1:=[some (.kl ds),some (.int k),some (.int cell),some (.int F),none]) (s1:=st) (by rw[Oj,d];rfl) ?_;refine Hz (U1:=[some (.kl ds),some (.int k),some (.int cell),some (.int F),some (.int own)]) (s1:=st) (by rw[Oj,e];rfl) ?_;simp[JH,f,g,h]
def lY{k:Int}(h0:0<F)(d:F.natAbs<2^1100):∃own:Int,0<=own/\mB IZ (mB Io (mV 2)<|mV 3) (Ho Lu<|Hc (mB L1 (mV 2)<|mB IG (mK<|.int 10)<|mK<|.int 18)<|mZ) [some (.kl ds),some (.int k),some (.int cell),some (.int F),none] st=some (.int own,st):=by
 have m0:=B9 cell (show F≠0 by omega);have n:=BN cell h0;have U:=Ma (a:=cell) (st:=st) h0;generalize cell % F=x at m0 n U;have e:=qX m0 n d;have m:=kZ [some (.kl ds),some (.int k),some (.int cell),some (.int F),none] st;have f:∃j:Int,(j=0\/j=1)/\Ho Lu (Hc (mB L1 (mV 2)<|mB IG (mK<|.int 10)<|mK<|.int 18)<|mZ) [some (.kl ds),some (.int k),some (.int cell),some (.int F),none] st=some (.int j,st):=by generalize mB IG (mK<|.int 10) (mK<|.int 18)=g at m;refine⟨if decide (1000000000000000000<=cell)=true then 1 else 0,by split<;>simp,?_⟩;rw[Z4,Z5,P8];simp only[Tn,C9,Co,Ac,m,L1,L4,ZI];rfl
 obtain⟨j,c,h⟩:=f;refine⟨x*j,by rcases c with rfl|rfl<;>omega,?_⟩;have em:=vQ (a:=x) (b:=j) (st:=st) e c;rw[P8,P8];simp only[Tn,C9,Co,Ac,U];rw[h];simp only[Ac];exact em
def tZ{ns:List Int}{k:Int}(h0:0<=k)(e:k<=1000):∃c,Y3 (Xr [.kl (ns.map D.int),.int k] st=some (.ref st.length,c)) (HJ st.length 0 c) (Gr st c):=by
 obtain⟨F,m,n,eF⟩:=mY st;have a:∃cell:Int,LX (mT<|mB Px (mV 1)<|Ho HM<|Hc (mV 0)<|mZ) (mB Hf (mV 0)<|mV 1) (mK<|.int 0) [some (.kl<|ns.map D.int),some (.int k),none,none,none] st=some (.int cell,st):=by
  by_cases hk:k<(ns.length:Int)
  ·have b:k.toNat<ns.length:=by omega
   have ex:Hf (.kl<|ns.map D.int) (.int k) st=some (.int ns[k.toNat],st):=jM h0 (by rw[Ax,Ai b];rfl);exact⟨ns[k.toNat],by rw[Vu];simp[JH,VG,hk,ex]⟩
  exact⟨0,by rw[Vu];simp[JH,VG,hk]⟩
 obtain⟨cell,a⟩:=a;obtain⟨own,o0,U⟩:=lY (ds:=ns.map D.int) (k:=k) (cell:=cell) (st:=st) m n;have d:=B9 (cell % 2305843009213693951+7919*k) (show(2305843009213693951:Int)≠0 by decide);have b1:=BN (cell % 2305843009213693951+7919*k) (show(0:Int)<2305843009213693951 by decide);exact⟨_,IH<|uA a (eF _) U (Ma<|by decide) (Zg<|by decide)<|Ma<|by decide,⟨own,_,0,Iq _ _,o0,d,b1,by decide,by decide⟩,Gr.app _ _⟩
open L2.MP.Hb (Xi T6 Lp)
noncomputable abbrev JL:Str:=Hn.JL
def UE:∀k:Nat,k<26->JL.cps[k]?=some (97+k):=Hn.UE
structure Iy(x:Str):Prop where
 len:x.cps.toList.length<=8
 ab:∀c∈x.cps.toList,48<=c/\c<=122
def Q4{x:Str}(h:∀c∈x.cps.toList,48<=c/\c<=122):Bm x=true:=by unfold Bm;rw[Array.all_eq_true'];intro c a;have:=h c (by simpa using a);simp;omega
def Ql:Iy "":=⟨by decide,by decide⟩
variable {c:Nat}
def ZO{k:Int}(d:1<=k)(g:k<=8)(e:48<=c)(f:c<=122):Iy (JO ⟨#[c]⟩ k):=by refine⟨by rw[T6 d,BJ];omega,λx a=>?_⟩;rw[T6 d]at a;rw[List.eq_of_mem_replicate a];exact⟨e,f⟩
def Q6{m:ME}(e:m U st=some (.int (k:Int),st))(hk:k<=1000):IW m U st=some (⟨run 0 k,[]⟩,st):=by have a:small (k:Int)=true:=Oy (!0) (!0);rw[Y9,e,Ac];simp only[a,if_true];rw[BA]
variable {M:Int}
def P1{m:ME}(d:M=(k:Int))(e:m U st=some (.int M,s1))(hk:k<=1000):IW m U st=some (⟨run 0 k,[]⟩,s1):=by have a:small M=true:=Oy (!0) (!0);rw[Y9,e,Ac];simp only[a,if_true];rw[d,BA]
def run_map(k:Nat):run 0 k=(Av k).map λ(i:Nat)=>D.int (i:Int):=by unfold run;apply CQ;intro i _;rw[Int.zero_add]
def LO{j:Nat}{d:D}(h:(run 0 j)[k]?=some d):k<j/\d=.int (k:Int):=by have hk:=qax h;rw[Ld]at hk;rw[run_map,Ax,DD hk]at h;exact⟨hk,by cases h;rfl⟩
variable {x r1:Int}{y:D}
def zmR(d:∀s:Hg,Hf (.str JL) (.int r1) s=some (Lp c,s))(em:HX (Lp c) (.int<|x+1) st=some (y,st)):Qu [some (.int x),some (.str JL),some (.int r1)] st=some (y,st):=by unfold Qu;simp[d,em]
def zmS(hm:m<=8)(d:0<=r1)(e:r1<26):∃ts:List Str,Y3 (ts.length=m) ((∀x∈ts,Iy x)) (Jc ⟨run 0 m,[]⟩ (Hl 0) IU Qu (run 0 m) [none,some (.str JL),some (.int r1)] st=some (ts.map D.str,st)):=by
 have a:∀s:Hg,Hf (.str JL) (.int r1) s=some (Lp (97+r1.toNat),s):=λs=>Q2 (!1) d (UE _<|by omega);have y:48<=97+r1.toNat:=by omega
 have F:97+r1.toNat<=122:=by omega
 generalize 97+r1.toNat=c at a y F;refine⟨(Av m).map λ(i:Nat)=>JO ⟨#[c]⟩ ((i:Int)+1),by simp,λx M=>?_,?_⟩
 ·obtain⟨i,b,rfl⟩:=Re.mp M;have:=List.mem_range.mp b;exact ZO (!0) (!0) y F
 have:∀W:Wk,walked W st=true->Jc W (Hl 0) IU Qu (run 0 m) [none,some (.str JL),some (.int r1)] st=some (((Av m).map λ(i:Nat)=>JO ⟨#[c]⟩ ((i:Int)+1)).map D.str,st):=by intro W f;rw[run_map,AJ];refine P9 (R:=λU=>∃x,U=[x,some (.str JL),some (.int r1)]) ⟨none,rfl⟩ f λi b U g=>?_;obtain⟨x,rfl⟩:=g;have b:=List.mem_range.mp b;have em:=Xi (c:=c) (n:=(i:Int)+1) (st:=st) (!0) (!0);exact⟨[some (.int (i:Int)),some (.str JL),some (.int r1)],by simp,rfl,zmR a em,⟨_,rfl⟩⟩
 exact this _ rfl
variable {w:Int}
def zmP{d e q1 f:Int}(g:HX (.int w) (.int x) st=some (.int d,st))(h:Io (.int<|r1+d) (.int 26) st=some (.int e,st))(ex:Hf (.str JL) (.int e) st=some (Lp c,st))(i:HX (.int x) (.int x) st=some (.int q1,st))(j:Io (.int<|q1+r1) (.int 8) st=some (.int f,st))(em:HX (Lp c) (.int<|1+f) st=some (y,st)):Qv [some (.int x),some (.str JL),some (.int r1),some (.int w)] st=some (y,st):=by unfold Qv;simp[g,h,ex,i,j,em]
def zmQ(hm:m<=8)(i:0<=w)(j:w<=11):∃ts:List Str,Y3 (ts.length=m) ((∀x∈ts,Iy x)) (Jc ⟨run 0 m,[]⟩ (Hl 0) IU Qv (run 0 m) [none,some (.str JL),some (.int r1),some (.int w)] st=some (ts.map D.str,st)):=by
 have key:=ON (W:=⟨run 0 m,[]⟩) (g:=Hl 0) (c:=IU) (m:=Qv) (ds:=run 0 m) (acc:=[]) (st:=st) (U:=[none,some (.str JL),some (.int r1),some (.int w)])
  (Inv:=λk a U s=>Y3 ((∃x,U=[x,some (.str JL),some (.int r1),some (.int w)])) ((∃ts:List Str,a=ts.map D.str/\ts.length=k/\∀x∈ts,Iy x)) (s=st))
  ⟨⟨none,rfl⟩,⟨[],rfl,rfl,by simp⟩,rfl⟩ (λ_ _ _ _ _ _=>rfl) (λk d a U s hd l=>by
   obtain⟨⟨x,rfl⟩,⟨ts,rfl,y,F⟩,rfl⟩:=l;obtain⟨hk,rfl⟩:=LO hd;have o:HX (.int w) (.int (k:Int)) s=some (.int (w*(k:Int)),s):=mul_int (!0);have e:Io (.int<|r1+w*(k:Int)) (.int 26) s=some (.int ((r1+w*(k:Int)) % 26),s):=Ma (!1);have p:=BN (r1+w*(k:Int)) (show(0:Int)<26 by decide);have f:=B9 (r1+w*(k:Int)) (show(26:Int)≠0 by decide);have q:HX (.int (k:Int)) (.int (k:Int)) s=some (.int ((k:Int)*(k:Int)),s):=mul_int (!0);have h:Io (.int<|(k:Int)*(k:Int)+r1) (.int 8) s=some (.int (((k:Int)*(k:Int)+r1) % 8),s):=Ma (!1);have r:=BN ((k:Int)*(k:Int)+r1) (show(0:Int)<8 by decide);have u:=B9 ((k:Int)*(k:Int)+r1) (show(8:Int)≠0 by decide);generalize (r1+w*(k:Int)) % 26=b at e p f;generalize ((k:Int)*(k:Int)+r1) % 8=M at h r u;have ex:Hf (.str JL) (.int b) s=some (Lp (97+b.toNat),s):=Q2 (!1) f (UE _<|by omega);have em:=Xi (c:=97+b.toNat) (n:=1+M) (st:=s) (!0) (!0);refine⟨[some (.int (k:Int)),some (.str JL),some (.int r1),some (.int w)],s,true,s,rfl,rfl,.inl ⟨rfl,.str<|JO ⟨#[97+b.toNat]⟩<|1+M,s,zmP o e ex q h em,⟨_,rfl⟩,⟨ts++[JO ⟨#[97+b.toNat]⟩ (1+M)],by simp,by simp[y],λx hx=>?_⟩,rfl⟩⟩
   rcases On.mp hx with hx|hx
   ·exact F x hx
   rw[KM.mp hx];exact ZO (!0) (!0) (!0) (!0))
 obtain⟨xs,z,A,v,_,⟨ts,hx,y,F⟩,rfl⟩:=key;rw[CY]at hx;subst hx;exact⟨ts,by rw[y,Ld],F,v⟩
def vR(v:M=(k:Int))(h:HJ n m st)(z:k<=8)(hm:m<=900000):∃(ss:List Str) (l:Nat) (d:Hg),Y7 (Xt [.ref n,.int M] st=some (.ref l,d)) (d[l]?=some (.lst<|ss.map D.str)) (ss.length=k) ((∀x∈ss,Iy x)) (l≠n) (HJ n (m+3) d) (Fr n st d):=by
 obtain⟨r1,s1,K,U,e,C,f1⟩:=J0 (many:=26) h (!0) (!1) (!1);have E:=C.gr<|Gr.app s1 [.lst [.int 1,.int 3,.int 5,.int 7,.int 9,.int 11]];have f2:=Fr.app n s1 [.lst [.int 1,.int 3,.int 5,.int 7,.int 9,.int 11]];have a2:=Iq s1<|.lst [.int 1,.int 3,.int 5,.int 7,.int 9,.int 11];have f:=C.ne;generalize g:s1++[O.lst [.int 1,.int 3,.int 5,.int 7,.int 9,.int 11]]=s2 at E f2 a2;obtain⟨a,s3,L,i,N,P,G⟩:=J0 (many:=6) E (!0) (!1) (!1);have Q:=(G.old _ (qax a2) f).trans a2;obtain⟨w,hw,j,o⟩:∃w:Int,[D.int 1,.int 3,.int 5,.int 7,.int 9,.int 11][a.toNat]?=some (.int w)/\0<=w/\w<=11:=by
  have:a=0\/a=1\/a=2\/a=3\/a=4\/a=5:=by omega
  rcases this with rfl|rfl|rfl|rfl|rfl|rfl<;>exact⟨_,rfl,by decide,by decide⟩
 have S:Hf (.ref s1.length) (.int a) s3=some (.int w,s3):=KU Q i hw;obtain⟨T,s4,H,W,X,p,f4⟩:=J0 (many:=3) P (!0) (!1) (!1);have c:Fr n st s4:=((f1.trans f2).trans G).trans f4;have g1:Hr (mU<|Hc (Ho Il<|Hc (mV 0)<|Hc (mK<|.int 26)<|mZ)<|Hc (mB Hf (mL<|Hc (mK<|.int 1)<|Hc (mK<|.int 3)<|Hc (mK<|.int 5)<|Hc (mK<|.int 7)<|Hc (mK<|.int 9)<|Hc (mK<|.int 11)<|mZ)<|Ho Il<|Hc (mV 0)<|Hc (mK<|.int 6)<|mZ)<|mZ) (JY 2<|gC (Hl 3)<|gC (Hl 4)<|JZ)
   [some (.ref n),some (.int M),some (.str JL),none,none] st=some (.nx [some (.ref n),some (.int M),some (.str JL),some (.int r1),some (.int w)],s3):=by
  simp[K,g,L,S]
 by_cases hr:T=0
 ·subst hr;obtain⟨ts,q,r,y⟩:=zmS (st:=s4) z U e;have fl:fits (ts.map D.str).length=true:=JK (by simp;omega);refine⟨ts,s4.length,s4++[.lst (ts.map D.str)],IH ?_,Iq _ _,q,r,p.ne,p.gr<|Gr.app _ _,c.trans<|Fr.app _ _ _⟩;generalize ts.map D.str=A at y fl;unfold Xq;refine Hz (U1:=[some (.ref n),some (.int M),some (.str JL),none,none]) (s1:=st) (!2) ?_;refine Hz g1<|Ot ?_;have b:I0 (IW<|mV 1) 1 [2,3] (Hl 0) IU Qu [some (.ref n),some (.int M),some (.str JL),some (.int r1),some (.int w)] s4=some (.ref s4.length,s4++[.lst A]):=by
   rw[JH,P1 (s1:=s4) (k:=k) v (!2) (!0)];simp only[Ac];rw[show IL [some (.ref n),some (.int M),some (.str JL),some (.int r1),some (.int w)] 1 [2,3]=[none,some (.str JL),some (.int r1)] from rfl,y];simp only[Ac,fl,if_true]
  simp[H,eq_int,b]
 ·obtain⟨ts,q,r,y⟩:=zmQ (r1:=r1) (st:=s4) z j o;have fl:fits (ts.map D.str).length=true:=JK (by simp;omega);have s:=p.gr<|Gr.app s4 [.lst (ts.map D.str)];have u:=Hn.zgc (Iq s4<|.lst<|ts.map D.str) (!0);have I:=Fr.app n s4 [.lst (ts.map D.str)];have J:(Ov ts).Perm ts:=CO _ _;generalize F:s4++[O.lst (ts.map D.str)]=s5 at s u I;refine⟨Ov ts,s5.length,s5++[.lst ((Ov ts).map D.str)],IH ?_,Iq _ _,by rw[<-q];exact J.length_eq,λx Y=>r x (J.mem_iff.mp Y),s.ne,s.gr<|Gr.app _ _,(c.trans I).trans<|Fr.app _ _ _⟩;generalize (Ov ts).map D.str=B at u;generalize ts.map D.str=A at y fl F;unfold Xq;refine Hz (U1:=[some (.ref n),some (.int M),some (.str JL),none,none]) (s1:=st) (!2) ?_;refine Hz g1 ?_;refine Hz (U1:=[some (.ref n),some (.int M),some (.str JL),some (.int r1),some (.int w)]) (s1:=s4) (by simp[H,eq_int,hr]) ?_;have b:I0 (IW<|mV 1) 1 [2,3,4] (Hl 0) IU Qv [some (.ref n),some (.int M),some (.str JL),some (.int r1),some (.int w)] s4=some (.ref s4.length,s5):=by
   rw[JH,P1 (s1:=s4) (k:=k) v (!2) (!0)];simp only[Ac];rw[show IL [some (.ref n),some (.int M),some (.str JL),some (.int r1),some (.int w)] 1 [2,3,4]=[none,some (.str JL),some (.int r1),some (.int w)] from rfl,y];simp only[Ac,fl,if_true,F]
  simp[b,u]
end L2.MP.Hd
namespace L2.MP.Hd
open PySem L2.MP
open L2.MP.Hb (Lp)
noncomputable abbrev Pq:Str:="abcdefghijklmnopqrstuvwxyz0123456789"
def uG:∀k:Nat,k<36->∃c,Pq.cps[k]?=some c/\48<=c/\c<=122:=by
 have:∀k:Nat,k<36->(match Pq.cps[k]? with|some c=>decide (48<=c/\c<=122)|none=>false)=true:=by decide +kernel
 intro k hk;have:=this k hk;split at this
 ·rename_i c e;exact⟨c,e,of_decide_eq_true this⟩
 ·cases this
structure L8(ss:List Str)(k:List Str):Prop where
 ex:∃f ds,k=f::ds/\Iy f/\ds.length=4/\∀x∈ds,Iy x/\(x=""\/x∈ss)
variable {lN a n:Nat}{r:Int}{s s1 s2 s3:Hg}
def uK{c:Int}{v:Option D}{y:D}(b:s++[.lst [.str ""]]=s1)(d:HF (.ref s.length) (.ref lN) s1=some (.ref a,s2))(e:HM [.ref lN] s2=some (.int c,s2))(f:Il [.ref n,.int (c+1)] s2=some (.int r,s3))(ex:Hf (.ref a) (.int r) s3=some (y,s3)):
  Ph [v,some (.ref lN),some (.ref n)] s=some (y,s3):=by
 unfold Ph;simp[b,d,e,f,ex]
variable {m:Nat}{ss:List Str}{st:Hg}
def xY{ss:List Str}(h:HJ n m st)(v:st[lN]?=some (.lst<|ss.map D.str))(F:lN≠n)(Q:ss.length<=100)(hn:∀x∈ss,Iy x)(hm:m<=800000):
  ∃(ds:List Str) (f:Hg),Y5 (Jc ⟨run 0 4,[]⟩ (Hl 0) IU Ph (run 0 4) [none,some (.ref lN),some (.ref n)] st=some (ds.map D.str,f)) (ds.length=4) ((∀x∈ds,Iy x/\(x=""\/x∈ss))) (HJ n (m+4) f) (Fr n st f):=by
 have key:=ON (W:=⟨run 0 4,[]⟩) (g:=Hl 0) (c:=IU) (m:=Ph) (ds:=run 0 4) (acc:=[]) (st:=st) (U:=[none,some (.ref lN),some (.ref n)])
  (Inv:=λk a U s=>Y4 ((∃x,U=[x,some (.ref lN),some (.ref n)])) ((∃ds:List Str,a=ds.map D.str/\ds.length=k/\∀x∈ds,Iy x/\(x=""\/x∈ss))) (HJ n (m+k) s) (Fr n st s))
  ⟨⟨_,rfl⟩,⟨[],rfl,rfl,by simp⟩,h,Fr.refl _ _⟩ (λ_ _ _ _ _ _=>rfl) (λk d a U s hd G=>by
   obtain⟨⟨x,rfl⟩,⟨ds,rfl,hlen,i⟩,o,hf⟩:=G;have H:=(LO hd).1;have j:s[lN]?=some (.lst<|ss.map D.str):=(hf.old _ (qax v) F).trans v;have a1:=Iq s (.lst [.str ""]);have b:(s++[O.lst [D.str ""]])[lN]?=some (.lst<|ss.map D.str):=by rw[Am (qax j)];exact j
   have p:=o.gr (Gr.app s [.lst [.str ""]]);have f1:=Fr.app n s [.lst [.str ""]];generalize q:s++[O.lst [D.str ""]]=s1 at a1 b p f1;have w:=oQ a1 b (by simp;omega);have a2:=Iq s1 (.lst<|[.str ""]++ss.map D.str);have l:(s1++[O.lst ([.str ""]++ss.map D.str)])[lN]?=some (.lst<|ss.map D.str):=by rw[Am (qax b)];exact b
   have z:=p.gr (Gr.app s1 [.lst ([.str ""]++ss.map D.str)]);have f2:=Fr.app n s1 [.lst ([.str ""]++ss.map D.str)];have u:=p.ne;generalize I:s1++[O.lst ([.str ""]++ss.map D.str)]=s2 at a2 l z f2 w;have A:=TY l;rw[Af]at A;obtain⟨r,s3,J,K,S,L,B⟩:=J0 (many:=(ss.length:Int)+1) z (!0) (!0) (!0);have C:=(B.old _ (qax a2) u).trans a2;have E:r.toNat<((("":Str))::ss).length:=by simp;omega
   have hm:[D.str ""]++ss.map D.str=((("":Str))::ss).map D.str:=rfl;rw[hm]at C;have ex:=KU (x:=.str ((("":Str))::ss)[r.toNat]) C K (by rw[Ax,Ai E];rfl);have e:((("":Str))::ss)[r.toNat]∈("":Str)::ss:=A5 E;generalize ((("":Str))::ss)[r.toNat]=y at ex e;have M:Iy y/\(y=""\/y∈ss):=by
    rcases Os.mp e with rfl|h
    ·exact⟨Ql,.inl rfl⟩
    exact⟨hn y h,.inr h⟩
   refine⟨[some d,some (.ref lN),some (.ref n)],s,true,s,by simp,rfl,.inl ⟨rfl,.str y,s3,uK q w A J ex,⟨_,rfl⟩,⟨ds++[y],by simp,by simp[hlen],λx hx=>?_⟩,L,((hf.trans f1).trans f2).trans B⟩⟩
   rcases On.mp hx with hx|hx
   ·exact i x hx
   rw[KM.mp hx];exact M)
 obtain⟨xs,T,N,P,_,⟨ds,hx,hlen,i⟩,o,hf⟩:=key;rw[CY]at hx;subst hx;rw[Ld]at hlen o;exact⟨ds,N,P,hlen,i,o,hf⟩
def qJ{ss:List Str}(h:HJ n m st)(z:st[lN]?=some (.lst<|ss.map D.str))(A:lN≠n)(I:ss.length<=100)(hn:∀x∈ss,Iy x)(hm:m<=700000):
  ∃(k:List Str) (e:Hg),Y4 (Xw [.ref n,.ref lN] st=some (IE k,e)) (L8 ss k) (HJ n (m+6) e) (Fr n st e):=by
 obtain⟨B,s1,J,l,K,C,f1⟩:=J0 (many:=36) h (!0) (!1) (!1);obtain⟨r,g1,L,M⟩:=uG B.toNat (!0);have N:Hf (.str Pq) (.int B) s1=some (Lp r,s1):=Q2 (!1) l g1;have a2:=Iq s1 (.lst [.str "",Lp r]);have E:=C.gr (Gr.app s1 [.lst [.str "",Lp r]]);have f2:=Fr.app n s1 [.lst [.str "",Lp r]];have o:=C.ne;generalize p:s1++[O.lst [D.str "",Lp r]]=s2 at a2 E f2;obtain⟨j,s3,P,q,Q,S,F⟩:=J0 (many:=2) E (!0) (!1) (!1);have T:=(F.old _ (qax a2) o).trans a2;obtain⟨x,U,W⟩:∃x:Str,[D.str "",Lp r][j.toNat]?=some (.str x)/\Iy x:=by
  have:j=0\/j=1:=by omega
  rcases this with rfl|rfl
  ·exact⟨"",rfl,Ql⟩
  exact⟨⟨#[r]⟩,rfl,⟨by simp,by simp;omega⟩⟩
 have X:Hf (.ref s1.length) (.int j) s3=some (.str x,s3):=KU T q U;have f:Fr n st s3:=(f1.trans f2).trans F;have u:=(f.old _ (qax z) A).trans z;obtain⟨ds,s4,g,v,s,Y,f4⟩:=xY S u A I hn (!0);have fd:fits (ds.map D.str).length=true:=JK (by simp;omega)
 match ds,v,s,g,fd with
 |[a,b,c,d],_,s,g,fd=>
  have i:=Iq s4<|.lst [.str a,.str b,.str c,.str d];have G:=Y.gr<|Gr.app s4 [.lst [.str a,.str b,.str c,.str d]];have H:=Fr.app n s4 [.lst [.str a,.str b,.str c,.str d]];have g:Jc ⟨run 0 4,[]⟩ (Hl 0) IU Ph (run 0 4) [none,some (.ref lN),some (.ref n)] s3=some ([.str a,.str b,.str c,.str d],s4):=g;generalize w:s4++[O.lst [.str a,.str b,.str c,.str d]]=s5 at i G H;have Z:Hf (.ref s4.length) (.int 0) s5=some (.str a,s5):=KU i (!1) rfl;have j1:Hf (.ref s4.length) (.int 1) s5=some (.str b,s5):=KU i (!1) rfl;have j2:Hf (.ref s4.length) (.int 2) s5=some (.str c,s5):=KU i (!1) rfl;have j3:Hf (.ref s4.length) (.int 3) s5=some (.str d,s5):=KU i (!1) rfl;refine⟨[x,a,b,c,d],s5,IH ?_,⟨x,[a,b,c,d],rfl,W,rfl,s⟩,G.up<|by omega,(f.trans f4).trans H⟩;unfold fL;refine Hz (U1:=[some (.ref n),some (.ref lN),some (.str x),none]) (s1:=s3) (by simp[J,N,p,P,X]) ?_;have y:I0 (IW<|mK<|.int 4) 1 [1,0] (Hl 0) IU Ph [some (.ref n),some (.ref lN),some (.str x),none] s3=some (.ref s4.length,s5):=by rw[JH,Q6 (k:=4) rfl (!1)];simp only[Ac];rw[show IL [some (.ref n),some (.ref lN),some (.str x),none] 1 [1,0]=[none,some (.ref lN),some (.ref n)] from rfl,g];simp only[Ac,Ay,Bj,w];rfl
  refine Hz (U1:=[some (.ref n),some (.ref lN),some (.str x),some (.ref s4.length)]) (s1:=s5) (by rw[Oj,y];rfl) ?_;simp[Z,j1,j2,j3,IE]
def LN(e:Int)(stk:List (Str×Int))(ks:List (!6)):D:=.tup [.int e,.tup (stk.map Ki),.tup (ks.map IE)]
structure N4(e:Int)(stk:List (Str×Int))(ks:List (!6)):Prop where
 e0:1<=e
 e1:e<=4
 sl:stk.length<=8
 nm:∀p∈stk,Iy p.1/\1<=p.2/\p.2<=4
 lo:1<=ks.length
 hi:ks.length<=13
 kd:∀k∈ks,L8 (stk.map (·.1)) k
def xB{a:Nat}{nm:D}{c y:Int}(d:Il [.ref n,.int 4] s=some (.int r,s1))(b:s1++[.lst [.int 1,.int 2,.int 1,.int (1+r)]]=s2)(e:Il [.ref n,.int 4] s2=some (.int c,s3))(ex:Hf (.ref s1.length) (.int c) s3=some (.int y,s3)):Qt [some nm,some (.ref n)] s=some (.tup [nm,.int y],s3):=by unfold Qt;simp[d,b,e,ex]
def zmi{ss:List Str}(h:HJ n m st)(v:st[lN]?=some (.lst<|ss.map D.str))(C:lN≠n)(P:ss.length<=8)(hn:∀x∈ss,Iy x)(hm:m<=800000):
  ∃(stk:List (Str×Int)) (e:Hg),Y5 (Jc ⟨ss.map D.str,[(lN,ss.map D.str)]⟩ (Hl 0) IU Qt (ss.map D.str) [none,some (.ref n)] st=some (stk.map Ki,e)) (stk.map (·.1)=ss) ((∀p∈stk,Iy p.1/\1<=p.2/\p.2<=4)) (HJ n (m+16) e) (Fr n st e):=by
 have key:=ON (W:=⟨ss.map D.str,[(lN,ss.map D.str)]⟩) (g:=Hl 0) (c:=IU) (m:=Qt) (ds:=ss.map D.str) (acc:=[]) (st:=st) (U:=[none,some (.ref n)])
  (Inv:=λk a U s=>Y4 ((∃x,U=[x,some (.ref n)])) ((∃stk:List (Str×Int),a=stk.map Ki/\stk.map (·.1)=ss.take k/\∀p∈stk,Iy p.1/\1<=p.2/\p.2<=4)) (HJ n (m+2*k) s) (Fr n st s))
  ⟨⟨_,rfl⟩,⟨[],rfl,by simp,by simp⟩,h,Fr.refl _ _⟩ (λk a U s _ l=>OE ((l.h4.old _ (qax v) C).trans v)) (λk d a U s hd l=>by
   obtain⟨⟨x,rfl⟩,⟨stk,rfl,b,f⟩,hp,hf⟩:=l;rw[Ax]at hd;obtain⟨nm,i,rfl⟩:=Ie hd;have hk:=qax i;obtain⟨r,s1,E,Q,S,w,f1⟩:=J0 (many:=4) hp (!0) (!1) (!1);have a2:=Iq s1<|.lst [.int 1,.int 2,.int 1,.int (1+r)];have z:=w.gr<|Gr.app s1 [.lst [.int 1,.int 2,.int 1,.int (1+r)]];have f2:=Fr.app n s1 [.lst [.int 1,.int 2,.int 1,.int (1+r)]];have o:=w.ne;generalize q:s1++[O.lst [.int 1,.int 2,.int 1,.int (1+r)]]=s2 at a2 z f2;obtain⟨j,s3,F,u,G,H,A⟩:=J0 (many:=4) z (!0) (!1) (!1);have I:=(A.old _ (qax a2) o).trans a2;obtain⟨y,J,K,L⟩:∃y:Int,[D.int 1,.int 2,.int 1,.int (1+r)][j.toNat]?=some (.int y)/\1<=y/\y<=4:=by
    have:j=0\/j=1\/j=2\/j=3:=by omega
    rcases this with rfl|rfl|rfl|rfl
    ·exact⟨1,rfl,by decide,by decide⟩
    ·exact⟨2,rfl,by decide,by decide⟩
    ·exact⟨1,rfl,by decide,by decide⟩
    exact⟨1+r,rfl,by omega,by omega⟩
   have ex:Hf (.ref s1.length) (.int j) s3=some (.int y,s3):=KU I u J;refine⟨[some (.str nm),some (.ref n)],s,true,s,rfl,rfl,.inl ⟨rfl,Ki (nm,y),s3,xB (a:=0) E q F ex,⟨_,rfl⟩,⟨stk++[(nm,y)],by simp,?_,λp hp=>?_⟩,H.up<|by omega,((hf.trans f1).trans f2).trans A⟩⟩
   ·rw[AZ,b,A7,i];rfl
   ·rcases On.mp hp with hp|hp
    ·exact f p hp
    rw[KM.mp hp];exact⟨hn nm<|AG i,K,L⟩)
 obtain⟨xs,T,M,N,_,⟨stk,B,b,f⟩,hp,hf⟩:=key;rw[CY]at B;subst B;rw[Af]at b hp;rw[AU]at b;exact⟨stk,M,N,b,f,hp.up<|by omega,hf⟩
def wJ{j:Nat}{ss:List Str}(h:HJ n m st)(f:st[lN]?=some (.lst<|ss.map D.str))(l:lN≠n)(z:ss.length<=8)(hn:∀x∈ss,Iy x)(hm:m<=600000)(A:j<=12):
  ∃(ks:List (!6)) (b:Hg),Y5 (Jc ⟨run 0 j,[]⟩ (Hl 0) IU RP (run 0 j) [none,some (.ref n),some (.ref lN)] st=some (ks.map IE,b)) (ks.length=j) ((∀k∈ks,L8 ss k)) (HJ n (m+72) b) (Fr n st b):=by
 have key:=ON (W:=⟨run 0 j,[]⟩) (g:=Hl 0) (c:=IU) (m:=RP) (ds:=run 0 j) (acc:=[]) (st:=st) (U:=[none,some (.ref n),some (.ref lN)])
  (Inv:=λi a U s=>Y4 ((∃x,U=[x,some (.ref n),some (.ref lN)])) ((∃ks:List (!6),a=ks.map IE/\ks.length=i/\∀k∈ks,L8 ss k)) (HJ n (m+6*i) s) (Fr n st s))
  ⟨⟨_,rfl⟩,⟨[],rfl,rfl,by simp⟩,h,Fr.refl _ _⟩ (λ_ _ _ _ _ _=>rfl) (λi d a U s hd p=>by
   obtain⟨⟨x,rfl⟩,⟨ks,rfl,hlen,r⟩,e,hf⟩:=p;have B:=(LO hd).1;obtain⟨k,s1,q,hk,u,f1⟩:=qJ e ((hf.old _ (qax f) l).trans f) l (!0) hn (!0);refine⟨[some d,some (.ref n),some (.ref lN)],s,true,s,rfl,rfl,.inl ⟨rfl,IE k,s1,?_,⟨_,rfl⟩,⟨ks++[k],by simp,by simp[hlen],λy hy=>?_⟩,u.up<|by omega,hf.trans f1⟩⟩
   ·unfold RP;simp[q]
   ·rcases On.mp hy with hy|hy
    ·exact r y hy
    rw[KM.mp hy];exact hk)
 obtain⟨xs,C,v,w,_,⟨ks,o,hlen,r⟩,e,hf⟩:=key;rw[CY]at o;subst o;rw[Ld]at hlen e;exact⟨ks,v,w,hlen,r,e.up<|by omega,hf⟩
def Qe{xs:List Int}{lo hi:Int}(h:HJ n m st)(hm:m<=900000)(l:1<=xs.length)(d:xs.length<=100)(e:∀x∈xs,lo<=x/\x<=hi):∃(r y:Int) (b:Hg),Y6 (Il [.ref n,.int (xs.length:Int)] (st++[.lst (xs.map D.int)])=some (.int r,b)) (Hf (.ref st.length) (.int r) b=some (.int y,b)) (lo<=y) (y<=hi) (HJ n (m+1) b) (Fr n st b):=by
 have a1:=Iq st<|.lst<|xs.map D.int;have a:=h.gr<|Gr.app st [.lst (xs.map D.int)];have f1:=Fr.app n st [.lst (xs.map D.int)];have f:=h.ne;generalize st++[O.lst (xs.map D.int)]=s1 at a1 a f1;obtain⟨r,s2,g,i,o,j,f2⟩:=J0 (many:=(xs.length:Int)) a (!0) (!0) (!0);have a2:=(f2.old _ (qax a1) f).trans a1;have s:r.toNat<xs.length:=by omega
 have c:=e _<|A5 s;exact⟨r,xs[r.toNat],s2,g,KU a2 i (by rw[Ax,Ai s];rfl),c.1,c.2,j,f1.trans f2⟩
def wH(h:HJ n m st)(hm:m<=100000):∃(e:Int) (stk:List (Str×Int)) (ks:List (!6)) (p:Hg),Y4 (Xs [.ref n] st=some (LN e stk ks,p)) (N4 e stk ks) (HJ n (m+200) p) (Fr n st p):=by
 obtain⟨r1,s1,e1,r10,r11,p1,f1⟩:=J0 (many:=4) h (!0) (!1) (!1);obtain⟨ss,lN,s2,e2,at2,hss,A,Q,p2,f2⟩:=vR (k:=(1+r1).toNat) (M:=1+r1) (!0) p1 (!0) (!0);obtain⟨r3,s,s3,e3,x3,B,C,p3,f3⟩:=Qe (xs:=[1,1,2,2,1,3,4,2]) (lo:=1) (hi:=4) p2 (!0) (!1) (!1) (!1);have d:=(f3.old _ (qax at2) Q).trans at2;obtain⟨stk,s4,e4,g,i,p4,f4⟩:=zmi p3 d Q (!0) A (!0);have lstk:stk.length=ss.length:=by rw[<-g,Af]
 have a5:=Iq s4<|.lst<|stk.map Ki;have p5:=p4.gr<|Gr.app s4 [.lst (stk.map Ki)];have S:=Fr.app n s4 [.lst (stk.map Ki)];have fs:fits (stk.map Ki).length=true:=JK (by rw[Af];omega);generalize T:s4++[O.lst (stk.map Ki)]=s5 at a5 p5 S;have et:=Mh a5;obtain⟨r6,y6,s6,e6,x6,y60,y61,p6,f6⟩:=Qe (xs:=[3,5,5,12]) (lo:=3) (hi:=12) p5 (!0) (!1) (!1) (!1);obtain⟨U,s7,e7,r70,r71,p7,f7⟩:=J0 (many:=y6) p6 (!0) (!0) (!0);have W:=(((f4.trans S).trans<|f6.trans f7).old _ (qax d) Q).trans d;obtain⟨ks,r,e8,hks,E,p8,f8⟩:=wJ (j:=(1+U).toNat) p7 W Q (!0) A (!0) (!0);have X:=Iq r<|.lst<|ks.map IE;have p9:=p8.gr<|Gr.app r [.lst (ks.map IE)];have f9:=Fr.app n r [.lst (ks.map IE)];have fk:fits (ks.map IE).length=true:=JK (by rw[Af];omega);have q:=p8.ne;generalize Y:r++[O.lst (ks.map IE)]=Z at X p9 f9;obtain⟨F,u,G,r100,r101,H,I⟩:=J0 (many:=6) p9 (!0) (!1) (!1);have b:=(I.old _ (qax X) q).trans X;have l:Fr n st u:=((f1.trans f2).trans<|f3.trans f4).trans<|((S.trans f6).trans<|f7.trans f8).trans<|f9.trans I;have sm:small (1+U)=true:=Oy (!0) (!0);have J:I0 (Jb<|mV 1) 1 [0] (Hl 0) IU Qt [some (.ref n),some (.ref lN),some (.int s),none,none] s3=some (.ref s4.length,s5):=by
  have:Jb (mV 1) [some (.ref n),some (.ref lN),some (.int s),none,none] s3=some (⟨ss.map D.str,[(lN,ss.map D.str)]⟩,s3):=by simp[Lg,HZ,d]
  rw[JH,this];simp only[Ac];rw[show IL [some (.ref n),some (.ref lN),some (.int s),none,none] 1 [0]=[none,some (.ref n)] from rfl,e4];simp only[Ac,fs,if_true,T]
 have K:I0 (IW<|mB HF (mK<|.int 1)<|Ho Il<|Hc (mV 0)<|Hc (mB Hf (mL<|Hc (mK<|.int 3)<|Hc (mK<|.int 5)<|Hc (mK<|.int 5)<|Hc (mK<|.int 12)<|mZ)<|Ho Il<|Hc (mV 0)<|Hc (mK<|.int 4)<|mZ)<|mZ) 1 [0,1] (Hl 0) IU RP [some (.ref n),some (.ref lN),some (.int s),some (.tup<|stk.map Ki),none] s5=some (.ref r.length,Z):=by
  have e6':Il [.ref n,.int 4] (s5++[.lst [.int 3,.int 5,.int 5,.int 12]])=some (.int r6,s6):=e6;have:IW (mB HF (mK<|.int 1)<|Ho Il<|Hc (mV 0)<|Hc (mB Hf (mL<|Hc (mK<|.int 3)<|Hc (mK<|.int 5)<|Hc (mK<|.int 5)<|Hc (mK<|.int 12)<|mZ)<|Ho Il<|Hc (mV 0)<|Hc (mK<|.int 4)<|mZ)<|mZ) [some (.ref n),some (.ref lN),some (.int s),some (.tup<|stk.map Ki),none] s5=some (⟨run 0 (1+U).toNat,[]⟩,s7):=by simp[e6',x6,e7,sm]
  rw[JH,this];simp only[Ac];rw[show IL [some (.ref n),some (.ref lN),some (.int s),some (.tup<|stk.map Ki),none] 1 [0,1]=[none,some (.ref n),some (.ref lN)] from rfl,e8];simp only[Ac,fk,if_true,Y]
 have e3':Il [.ref n,.int 8] (s2++[.lst [.int 1,.int 1,.int 2,.int 2,.int 1,.int 3,.int 4,.int 2]])=some (.int r3,s3):=e3;have pre:∀{R:Option (Fl×Hg)},mS (IX (mT<|mB KC (Ho Il<|Hc (mV 0)<|Hc (mK<|.int 6)<|mZ)<|mK<|.int 0) (IJ<|J4 (mV 4)<|Hc (mB Hf (mV 4)<|Ho Il<|Hc (mV 0)<|Hc (Ho HM<|Hc (mV 4)<|mZ)<|mZ)<|mZ)<|Jd) (mR<|mU<|Hc (mV 2)<|Hc (mV 3)<|Hc (Ho Ll<|Hc (mV 4)<|mZ)<|mZ)
   [some (.ref n),some (.ref lN),some (.int s),some (.tup<|stk.map Ki),some (.ref r.length)] Z=R->Xp (LJ 5 [.ref n]) st=R:=λhR=>by
  unfold Xp;refine Hz (U1:=[some (.ref n),some (.ref lN),none,none,none]) (s1:=s2) (by simp[e1,e2]) ?_;refine Hz (U1:=[some (.ref n),some (.ref lN),some (.int s),none,none]) (s1:=s3) (by simp[e3',x3]) ?_;refine Hz (U1:=[some (.ref n),some (.ref lN),some (.int s),some (.tup<|stk.map Ki),none]) (s1:=s5) (by simp[J,et]) ?_;exact Hz (U1:=[some (.ref n),some (.ref lN),some (.int s),some (.tup<|stk.map Ki),some (.ref r.length)]) (s1:=Z) (by rw[Oj,K];rfl) hR
 have v:∀k∈ks,L8 (stk.map (·.1)) k:=by rw[g];exact E
 by_cases hr:F=0
 ·subst hr;have el:=TY b;rw[Af]at el;obtain⟨a,c,e11,L,r111,p11,N⟩:=J0 (many:=(ks.length:Int)) H (!0) (!0) (!0);have w:=(N.old _ (qax b) q).trans b;have P:a.toNat<ks.length:=by omega
  have ex:Hf (.ref r.length) (.int a) c=some (IE ks[a.toNat],c):=KU w L (by rw[Ax,Ai P];rfl);have o:ks[a.toNat]∈ks:=A5 P;generalize ks[a.toNat]=y at ex o;have ea:=append_at (x:=IE y) w (by rw[Af];omega);have a12:(c.set r.length<|.lst<|ks.map IE++[IE y])[r.length]?=some (.lst<|ks.map IE++[IE y]):=by simp[qax w]
  have z:=Mh a12;have hlen8:st.length<=r.length:=(((f1.trans f2).trans<|f3.trans f4).trans<|(S.trans f6).trans<|f7.trans f8).len;refine⟨s,stk,ks++[y],c.set r.length<|.lst<|ks.map IE++[IE y],IH<|pre ?_,⟨B,C,by omega,i,by simp,by simp;omega,λk hk=>?_⟩,(p11.set q).up<|by omega,?_⟩
  ·generalize c.set r.length (.lst<|ks.map IE++[IE y])=s12 at *;refine Hz (U1:=[some (.ref n),some (.ref lN),some (.int s),some (.tup<|stk.map Ki),some (.ref r.length)]) (s1:=s12) (by simp[G,eq_int,el,e11,ex,ea,HZ,b]) ?_;simp[z,LN]
  ·rcases On.mp hk with hk|hk
   ·exact v k hk
   rw[KM.mp hk];exact v y o
  have f:=l.trans N;exact⟨by rw[Bk];exact f.len,λk hk hkn=>by rw[Ah (!0)];exact f.old k hk hkn⟩
 have z:=Mh b;refine⟨s,stk,ks,u,IH<|pre ?_,⟨B,C,by omega,i,by omega,by omega,v⟩,H.up<|by omega,l⟩;refine Hz (U1:=[some (.ref n),some (.ref lN),some (.int s),some (.tup<|stk.map Ki),some (.ref r.length)]) (s1:=u) (by simp[G,eq_int,hr]) ?_;simp[z,LN]
end L2.MP.Hd
namespace L2.MP.Hd
open PySem L2.MP
open L2.MP.Hn (Hw Mu Hk Jo)
def Ir(w h a:Int)(t:Tl):Prop:=0<=t.1/\t.1<w/\0<=t.2.1/\t.2.1<h/\0<=t.2.2/\t.2.2<a
theorem Rf:∀{l:List Tl}{t:Tl},Hy l->t∈l->HS (l.map Hi) (Hi t).1=some (.int t.2.2)
 |[],t,_,h=>by cases h
 |u::l,t,c,h=>by
  have a:(∀b∈l,JF u b=false)/\Hy l:=List.pairwise_cons.mp c;unfold HS;rw[An,AV,Q3];rcases Os.mp h with rfl|h
  ·have:JF t t=true:=by unfold JF;simp
   rw[this];rfl
  rw[a.1 t h];exact Rf a.2 h
structure PJ(n t m:Nat)(w h kn:Int)(st0:Hg)(l:List Tl)(s:Hg):Prop where
 at_:s[t]?=some (.dt (l.map Hi))
 ok:∀u∈l,Ir w h kn u
 nd:Hy l
 pot:HJ n m s
 fr:Fr n st0 s
noncomputable abbrev Jg (n:Nat) (hd:D) (w h most:Int) (t:Nat) (v u:Option D):Ii:=[some (.ref n),some hd,some (.tup [.int w,.int h]),some (.int most),some (.ref t),v,u]
variable {n t:Nat}{w h most x y k:Int}{s:Hg}{v u:Option D}
def VQ{K:Int}{hd KK:D}{s1 s2 s3 s4:Hg}(d:Hf (.tup [.int w,.int h]) (.int 0) s=some (.int w,s))(e:Il [.ref n,.int w] s=some (.int x,s1))(f:Hf (.tup [.int w,.int h]) (.int 1) s1=some (.int h,s1))(g:Il [.ref n,.int h] s1=some (.int y,s2))(a:Hf hd (.int 2) s2=some (KK,s2))(b:HM [KK] s2=some (.int K,s2))(c:Il [.ref n,.int K] s2=some (.int k,s3))(i:dput s3 t (.tup [.int x,.int y]) (.int k)=some s4):
  RZ (Jg n hd w h most t v u) s=some (.nx (Jg n hd w h most t v<|some<|.tup [.int x,.int y]),s4):=by
 unfold RZ;refine Hz (U1:=Jg n hd w h most t v (some<|.tup [.int x,.int y])) (s1:=s2) (by simp[Jg,JH,d,e,f,g]) ?_;rw[Mo];have j:Hr (Ho Il<|Hc (mV 0)<|Hc (Ho HM<|Hc (mB Hf (mV 1)<|mK<|.int 2)<|mZ)<|mZ) (Lv Ik (mV 4)<|mV 6) (Jg n hd w h most t v<|some<|.tup [.int x,.int y]) s2=none:=by simp[Jg,JH,a,b,c,Ik]
 rw[j,Ku];unfold LC;simp[Jg,JH,a,b,c,i]
variable {m:Nat}{a b:D}{ks:List D}
def zj8{st0:Hg}{l:List Tl}(q:PJ n t m w h ks.length st0 l s)(g:t≠n)(o:st0.length<=t)(hw:0<w)(p:w<=1000)(r:0<h)(z:h<=1000)(hk:0<ks.length)(A:ks.length<100000)(B:l.length<=1000)(hm:m<=900000):
  ∃(i:List Tl) (C:Option D) (s':Hg),Y3 (RZ (Jg n (.tup [a,b,.tup ks]) w h most t v u) s=some (.nx (Jg n (.tup [a,b,.tup ks]) w h most t v C),s')) (PJ n t (m+3) w h ks.length st0 i s') (i.length<=l.length+1):=by
 obtain⟨x,s1,E,x0,F,G,f1⟩:=J0 (many:=w) q.pot (!0) hw (!0);obtain⟨y,s2,H,I,J,K,f2⟩:=J0 (many:=h) G (!0) r (!0);obtain⟨k,s3,L,M,N,P,Q⟩:=J0 (many:=ks.length) K (!0) (!0) (!0);have c:=(f1.trans f2).trans Q;have d:=(c.old _ (qax q.at_) g).trans q.at_;have S:=M8 (x:=x) (y:=y) (k:=k) d B;have f:=qax d;have e:=q.fr.trans c;refine⟨IM l (x,y,k),_,s3.set t<|.dt<|(IM l (x,y,k)).map Hi,VQ (Im (!1) rfl) E (Im (!1) rfl) H (Im (!1) rfl) Qa L S,⟨by simp[f],bT q.ok ⟨x0,F,I,J,M,N⟩,aK q.nd,P.set g,⟨by have:=e.len;simpa using this,λj T U=>by rw[Ah (!0)];exact e.old j T U⟩⟩,Wq _ _⟩
def yQ(hk:Nn (.ref t) (.tup [.int x,.int y]) s=some (.int k,s)):RX [some (.tup [.int x,.int y]),some (.ref t)] s=some (.tup [.int x,.int y,.int k],s):=by have a:HF (.tup [.int x,.int y]) (.tup [.int k]) s=some (.tup [.int x,.int y,.int k],s):=TQ (!2) (!2);unfold RX;simp[hk,a]
variable {st:Hg}
def gS(L:HJ n m st)(hw:0<w)(z:w<=1000)(T:0<h)(C:h<=1000)(hk:0<ks.length)(E:ks.length<100000)(hm:0<=most)(X:most<60)(Y:m<=800000):
  ∃(ts:List Tl) (c:Hg),Y6 (OF [.ref n,.tup [a,b,.tup ks],.tup [.int w,.int h],.int most] st=some (Hw ts,c)) ((∀t∈ts,Ir w h ks.length t)) ((∃l:List Tl,ts=Hk l/\Hy l)) ((ts.length:Int)<=most) (HJ n (m+181) c) (Fr n st c):=by
 have f:st.length≠n:=L.ne;have Z:=L.gr<|Gr.app st [.dt []];obtain⟨r,s1,F,r0,r1,p1,f1⟩:=J0 (many:=most+1) Z (!0) (!0) (!0);have G:s1[st.length]?=some (.dt<|([]:List Tl).map Hi):=(f1.old _ (!2) f).trans<|Iq st _;have key:=Ky (W:=⟨run 0 r.toNat,[]⟩) (g:=Hl 5) (m:=RZ) (ds:=run 0 r.toNat) (U:=Jg n (.tup [a,b,.tup ks]) w h most st.length none none) (st:=s1)
  (Inv:=λk U s=>∃(l:List Tl) (v u:Option D),Y3 (U=Jg n (.tup [a,b,.tup ks]) w h most st.length v u) (l.length<=k) (PJ n st.length (m+1+3*k) w h ks.length st l s))
  ⟨[],none,none,rfl,Ag _,⟨G,by simp,Cz,p1,(Fr.app _ _ _).trans f1⟩⟩ (λ_ _ _ _ _=>rfl) (λk d U s hd hI=>by obtain⟨l,v,u,rfl,M,q⟩:=hI;have hkl:=(LO hd).1;obtain⟨l',u',s',e,q',hl'⟩:=zj8 (most:=most) (a:=a) (b:=b) (v:=some d) (u:=u) q f (Ag _) hw z T C hk E (!0) (!0);exact⟨_,s,_,s',rfl,e,l',some d,u',rfl,by omega,q'⟩)
 obtain⟨U',s2,e2,l,v,u,rfl,M,q⟩:=key;rw[Ld]at M q;have H:=qax q.at_;have i:PV (.ref st.length) s2=some (⟨Jt<|l.map Hi,[]⟩,s2.set st.length (.ft<|l.map Hi)):=by unfold PV;simp only[q.at_]
 have N:(s2.set st.length<|.ft<|l.map Hi)[st.length]?=some (.ft<|l.map Hi):=by simp[H]
 have o:Fr n st (s2.set st.length<|.ft<|l.map Hi):=⟨by have:=q.fr.len;simpa using this,λj hj nj=>by rw[Ah (!0)];exact q.fr.old j hj nj⟩
 have P:HJ n (m+1+3*r.toNat) (s2.set st.length<|.ft<|l.map Hi):=q.pot.set f;generalize hs3:s2.set st.length (.ft<|l.map Hi)=s3 at i N o P;have QE:Jt (l.map Hi)=l.map λt=>D.tup [.int t.1,.int t.2.1]:=by unfold Jt;rw[AJ];rfl
 have I:Jc ⟨Jt<|l.map Hi,[]⟩ (Hl 0) IU RX (Jt<|l.map Hi) [none,some (.ref st.length)] s3=some (l.map λt=>HG (Ia t),s3):=by
  rw[QE];refine P9 (R:=λU=>∃x,U=[x,some (.ref st.length)]) ⟨none,rfl⟩ rfl λt f U hU=>?_;obtain⟨x,rfl⟩:=hU;have hv:=Rf q.nd f;have hk:Nn (.ref st.length) (.tup [.int t.1,.int t.2.1]) s3=some (.int t.2.2,s3):=by have F:keysOf [.int t.1,.int t.2.1]=some (Hi t).1:=rfl;simp only[Nn,Jq,N,F,AL,Ac,hv]
  exact⟨[some (.tup [.int t.1,.int t.2.1]),some (.ref st.length)],rfl,rfl,yQ hk,⟨_,rfl⟩⟩
 have fl:fits (l.map λt=>HG (Ia t)).length=true:=JK (by rw[Af];omega);have a4:=Iq s3 (.lst<|l.map λt=>HG (Ia t));have J:=Mu a4 (!0);have Q:=P.gr (Gr.app s3 [.lst (l.map λt=>HG (Ia t))]);have f4:=Fr.app n s3 [.lst (l.map λt=>HG (Ia t))];have y:=Jo l;generalize p:s3++[O.lst (l.map λt=>HG (Ia t))]=s4 at J Q f4;have S:=Mh (Iq s4<|.lst<|(Hk l).map λt=>HG (Ia t));refine⟨Hk l,s4++[.lst ((Hk l).map λt=>HG (Ia t))],IH ?_,λt f=>q.ok t (y.mem_iff.mp f),⟨l,rfl,q.nd⟩,by rw[y.length_eq];omega,(Q.gr<|Gr.app _ _).up<|by omega,(o.trans f4).trans<|Fr.app _ _ _⟩;have sm:small r=true:=Oy r0 (!0);unfold hZ Hw;generalize ((Hk l).map λt=>HG (Ia t))=B at J S;generalize (l.map λt=>HG (Ia t))=A at I fl p;generalize Jt (l.map Hi)=KD at I i;refine Hz (U1:=Jg n (.tup [a,b,.tup ks]) w h most st.length none none) (s1:=st++[.dt []]) (by simp[Jg,]) ?_;refine Hz (U1:=Jg n (.tup [a,b,.tup ks]) w h most st.length v u) (s1:=s2) (by
  have:IW (Ho Il<|Hc (mV 0)<|Hc (mB HF (mV 3)<|mK<|.int 1)<|mZ) (Jg n (.tup [a,b,.tup ks]) w h most st.length none none) (st++[.dt []])=some (⟨run 0 r.toNat,[]⟩,s1):=by simp[Jg,F,sm]
  rw[Kg,this];exact e2) ?_
 have K:I0 (OI<|mV 4) 1 [4] (Hl 0) IU RX (Jg n (.tup [a,b,.tup ks]) w h most st.length v u) s2=some (.ref s3.length,s4):=by have:OI (mV 4) (Jg n (.tup [a,b,.tup ks]) w h most st.length v u) s2=some (⟨KD,[]⟩,s3):=i;rw[JH,this];simp only[Ac];rw[show IL (Jg n (.tup [a,b,.tup ks]) w h most st.length v u) 1 [4]=[none,some (.ref st.length)] from rfl,I];simp only[Ac,fl,if_true,p]
 simp[K,J,S]
structure JE(w h:Int):Prop where
 w0:1<=w
 w1:w<=12
 h0:1<=h
 h1:h<=12
 wh:w<=5\/h<=5
def Hs(e:Int)(stk:List (Str×Int))(ks:List (!6))(w h:Int)(sd:List Tl):D:=.tup [LN e stk ks,.tup [.int w,.int h],Hw sd]
def rO(G:HJ n m st)(hm:m<=100000):∃(e:Int) (stk:List (Str×Int)) (ks:List (!6)) (w h:Int) (sd:List Tl) (c:Hg),Y8 (W7 [.ref n] st=some (Hs e stk ks w h sd,c)) (N4 e stk ks) (JE w h) ((∀t∈sd,Ir w h ks.length t)) ((∃l:List Tl,sd=Hk l/\Hy l)) (sd.length<=6) (HJ n (m+400) c) (Fr n st c):=by
 obtain⟨e,stk,ks,s1,r,f,H,f1⟩:=wH G hm;obtain⟨v,s2,z,I,J,K,f2⟩:=J0 (many:=5) H (!0) (!1) (!1);obtain⟨L,M,s3,N,A,P,Q,S,f3⟩:=Qe (xs:=[5,5,5,12]) (lo:=5) (hi:=12) K (!0) (!1) (!1) (!1);obtain⟨x,s4,B,T,U,W,f4⟩:=J0 (many:=M) S (!0) (!0) (!0);obtain⟨X,s5,C,Y,Z,p5,f5⟩:=J0 (many:=2) W (!0) (!1) (!1);obtain⟨r6,E,g,e6,x6,y60,y61,p6,f6⟩:=Qe (xs:=[1,2,6]) (lo:=1) (hi:=6) p5 (!0) (!1) (!1) (!1);have y:Il [.ref n,.int 4] (s2++[.lst [.int 5,.int 5,.int 5,.int 12]])=some (.int L,s3):=N;have i:Il [.ref n,.int 3] (s5++[.lst [.int 1,.int 2,.int 6]])=some (.int r6,g):=e6;have k1:=f.lo;have k2:=f.hi;have j:Fr n st g:=((f1.trans f2).trans<|f3.trans f4).trans<|f5.trans f6;obtain⟨w,h,hwh,u⟩:∃w h:Int,(∀R:Option (Fl×Hg),mR (mU<|Hc (mV 1)<|Hc (mV 2)<|Hc (Ho OF<|Hc (mV 0)<|Hc (mV 1)<|Hc (mV 2)<|Hc (mB Hf (mL<|Hc (mK<|.int 1)<|Hc (mK<|.int 2)<|Hc (mK<|.int 6)<|mZ)<|Ho Il<|Hc (mV 0)<|Hc (mK<|.int 3)<|mZ)<|mZ)<|mZ) [some (.ref n),some (LN e stk ks),some (.tup [.int w,.int h])] s5=R->Ux (LJ 3 [.ref n]) st=R)/\JE w h:=by
  generalize LN e stk ks=hd at *;by_cases hr:X=0
  ·subst hr;refine⟨1+x,1+v,λR o=>?_,by omega,by omega,by omega,by omega,by omega⟩;unfold Ux;refine Hz (U1:=[some (.ref n),some hd,none]) (s1:=s1) (by simp[r]) ?_;refine Hz (U1:=[some (.ref n),some hd,some (.tup [.int (1+v),.int (1+x)])]) (s1:=s4) (by simp[z,y,A,B]) ?_;refine Hz (U1:=[some (.ref n),some hd,some (.tup [.int (1+x),.int (1+v)])]) (s1:=s5) ?_ o;have er:∀s:Hg,Vl (mV 2) (NQ<|mK<|.int 1) [some (.ref n),some hd,some (.tup [.int (1+v),.int (1+x)])] s=some (.tup [.int (1+x),.int (1+v)],s):=λs=>rfl;simp[C,eq_int,er]
  refine⟨1+v,1+x,λR o=>?_,by omega,by omega,by omega,by omega,by omega⟩;unfold Ux;refine Hz (U1:=[some (.ref n),some hd,none]) (s1:=s1) (by simp[r]) ?_;refine Hz (U1:=[some (.ref n),some hd,some (.tup [.int (1+v),.int (1+x)])]) (s1:=s4) (by simp[z,y,A,B]) ?_;refine Hz (U1:=[some (.ref n),some hd,some (.tup [.int (1+v),.int (1+x)])]) (s1:=s5) (by simp[C,eq_int,hr]) o
 have:=u.w0;have:=u.w1;have:=u.h0;have:=u.h1;obtain⟨sd,F,p,d,q,hsl,p7,f7⟩:=gS (w:=w) (h:=h) (most:=E) (a:=.int e) (b:=.tup (stk.map Ki)) (ks:=ks.map IE) p6 (!0) (!0) (!0) (!0) (by rw[Af];omega) (by rw[Af];omega) (!0) (!0) (!0);have p:OF [.ref n,LN e stk ks,.tup [.int w,.int h],.int E] g=some (Hw sd,F):=p;rw[Af]at d;refine⟨e,stk,ks,w,h,sd,F,IH<|hwh _ ?_,f,u,d,q,by omega,p7.up<|by omega,j.trans f7⟩;unfold Hs;generalize LN e stk ks=hd at *;simp[i,x6,p]
end L2.MP.Hd
namespace L2.MP.Hd
open PySem L2.MP
open L2.MP.Hn (Hw)
variable {x y:Int}{d:Nat}{kvs:List (List Key×D)}{st:Hg}
def OV(h:st[d]?=some (.dt kvs)):J5 (.tup [.int x,.int y]) (.ref d) st=some (.bl (HS kvs [.inl x,.inl y]).isSome,st):=by
 have a:IC 50 st (.ref d)=none:=by rw[IC];simp[HZ,h]
 have b:inD false (.tup [.int x,.int y]) (.ref d) st=none:=by
  unfold inD;rw[a];cases IC 50 st (.tup [.int x,.int y])<;>rfl
 have c:MB (.tup [.int x,.int y]) (.ref d) st=none:=rfl;unfold J5 JX;rw[show LK (inD false (.tup [.int x,.int y]) (.ref d) st) (MB (.tup [.int x,.int y]) (.ref d) st)=none by rw[b,c];rfl,Ku];simp[NZ,look,h,keysOf,keyOf]
variable {v:D}
def Tb(h:st[d]?=some (.dt kvs))(a:HS kvs [.inl x,.inl y]=some v):Hf (.ref d) (.tup [.int x,.int y]) st=some (v,st):=by
 have b:Ko (.ref d) (.tup [.int x,.int y]) st=none:=by simp[Ko,HZ,h]
 unfold Hf JX;rw[b,Ku];simp[Vn,look,h,keysOf,keyOf,a]
variable {a b:Str}
def eq_str(c:Bm a=true)(e:Bm b=true):KC (.str a) (.str b) st=some (.bl (a==b),st):=by unfold KC;rw[TV c,TV e];simp[Bv]
def ne_str(c:Bm a=true)(e:Bm b=true):IY (.str a) (.str b) st=some (.bl (a != b),st):=by unfold IY;rw[TV c,TV e];simp[Bv,bne]
def Lw(ts:List Tl):List Tl:=ts.foldl IM []
theorem cD:∀(ts acc:List Tl),Og (acc.map Hi) (ts.map Hi)=(ts.foldl IM acc).map Hi
 |[],acc=>rfl
 |t::ts,acc=>by show Og (putD (acc.map Hi) (Hi t).1 (Hi t).2) (ts.map Hi)=_;rw[aJ];exact cD ts<|IM acc t
theorem bI:∀(ts acc:List Tl),(ts.foldl IM acc).length<=acc.length+ts.length
 |[],acc=>by simp
 |t::ts,acc=>by have c:=bI ts<|IM acc t;have a:=Wq acc t;simp only[Ew,Ay];omega
def HN(P:List Tl)(x y:Int):Option Int:=(P.find? λt=>decide (t.1=x)&&decide (t.2.1=y)).map λt=>t.2.2
theorem Lm(x y:Int):∀P:List Tl,HS (P.map Hi) [.inl x,.inl y]=(HN P x y).map D.int
 |[]=>rfl
 |t::P=>by
  have c:=Lm x y P;have hk:decide ((Hi t).1=[CM x,CM y])=(decide (t.1=x)&&decide (t.2.1=y)):=Q3 t (x,y,0);unfold HS HN at *;rw[An,AV,AV,hk];cases decide (t.1=x)&&decide (t.2.1=y) with
  |true=>rfl
  |false=>exact c
variable {P:List Tl}{k:Int}
def M9{P:List Tl}(h:HN P x y=some k):∃t∈P,t.2.2=k:=by unfold HN at h;obtain⟨t,e,h⟩:=Ie h;exact⟨t,CW e,h⟩
variable {t:Tl}{s:Hg}
theorem lK:RQ [some (.int t.1),some (.int t.2.1),some (.int t.2.2)] s=some (.tup [.tup [.int t.1,.int t.2.1],.int t.2.2],s):=rfl
theorem ZL:∀ts:List Tl,O7 (ts.map λt=>.tup [.tup [.int t.1,.int t.2.1],.int t.2.2])=some (ts.map Hi)
 |[]=>rfl
 |t::ts=>by have c:=ZL ts;rw[An,O7,c];rfl
theorem xC{a b c:Option D}{r:Ii}:JY 3 (gC (Hl 0)<|gC (Hl 1)<|gC (Hl 2)<|JZ) (HG<|Ia t) (a::b::c::r) st=some (some (.int t.1)::some (.int t.2.1)::some (.int t.2.2)::r,st):=rfl
variable {ts:List Tl}
def Qn(f:ts.length<=1000):∃(l:Nat) (c:Hg),Y4 (NJ [Hw ts] st=some (.ref l,c)) (c[l]?=some (.dt<|(Lw ts).map Hi)) (st.length<=l) (Gr st c):=by
 have d:Jc ⟨ts.map λt=>HG (Ia t),[]⟩ (JY 3<|gC (Hl 0)<|gC (Hl 1)<|gC (Hl 2)<|JZ) IU RQ (ts.map λt=>HG (Ia t)) [none,none,none] st=some (ts.map λt=>.tup [.tup [.int t.1,.int t.2.1],.int t.2.2],st):=by
  have:∀W:Wk,walked W st=true->Jc W (JY 3<|gC (Hl 0)<|gC (Hl 1)<|gC (Hl 2)<|JZ) IU RQ (ts.map λt=>HG (Ia t)) [none,none,none] st=some (ts.map λt=>.tup [.tup [.int t.1,.int t.2.1],.int t.2.2],st):=by intro W s;refine P9 (R:=λU=>∃x y z,U=[x,y,z]) ⟨none,none,none,rfl⟩ s λt g U v=>?_;obtain⟨x,y,z,rfl⟩:=v;exact⟨_,xC,rfl,lK,_,_,_,rfl⟩
  exact this _ rfl
 have fl:fits (ts.map λt=>D.tup [.tup [.int t.1,.int t.2.1],.int t.2.2]).length=true:=JK (by rw[Af];omega);have a1:=Iq st<|.lst<|ts.map λt=>.tup [.tup [.int t.1,.int t.2.1],.int t.2.2];have P:fits (ts.map Hi).length=true:=JK (by rw[Af];omega);have g1:=Gr.app st [.lst (ts.map λt=>.tup [.tup [.int t.1,.int t.2.1],.int t.2.2])];generalize b:st++[O.lst (ts.map λt=>.tup [.tup [.int t.1,.int t.2.1],.int t.2.2])]=s1 at a1 g1;have e:QK [.ref st.length] s1=some (.ref s1.length,s1++[.dt ((Lw ts).map Hi)]):=by unfold QK;have hm:Og [] (ts.map Hi)=(Lw ts).map Hi:=cD ts [];simp only[HZ,a1,Ac,ZL,P,if_true,hm]
 refine⟨s1.length,s1++[.dt ((Lw ts).map Hi)],IH ?_,Iq _ _,g1.len,g1.trans<|Gr.app _ _⟩;unfold gU Hw;generalize (ts.map λt=>HG (Ia t))=T at *;generalize (ts.map λt=>D.tup [.tup [.int t.1,.int t.2.1],.int t.2.2])=A at *;have a:I0 (Jb<|mV 0) 3 [] (JY 3<|gC (Hl 0)<|gC (Hl 1)<|gC (Hl 2)<|JZ) IU RQ (LJ 1 [.tup T]) st=some (.ref st.length,s1):=by
  have:Jb (mV 0) (LJ 1 [.tup T]) st=some (⟨T,[]⟩,st):=by simp[Lg]
  rw[JH,this];simp only[Ac];rw[show IL (LJ 1 [.tup T]) 3 []=[none,none,none] from rfl,d];simp only[Ac,fl,if_true,b]
 simp at a ⊢;simp[a,e]
variable {n:Nat}
def oV{T:D}{s':Hg}(c:dput s n (.tup [.int x,.int y]) (.int k)=some s'):UQ [some T,some (.ref n),some (.int x),some (.int y),some (.int k)] s=some (.nx [some T,some (.ref n),some (.int x),some (.int y),some (.int k)],s'):=by
 unfold UQ;rw[Mo];have a:Hr (mV 4) (Lv Ik (mV 1)<|mU<|Hc (mV 2)<|Hc (mV 3)<|mZ) [some T,some (.ref n),some (.int x),some (.int y),some (.int k)] s=none:=by simp[Ik]
 rw[a,Ku];unfold LC;simp[c]
def VF(q:ts.length<=500):∃(e:Hg),Y3 (Qz [Hw ts] st=some (.ref st.length,e)) (e[st.length]?=some (.dt<|(Lw ts).map Hi)) (Gr st e):=by
 have key:=Ky (W:=⟨ts.map λt=>HG (Ia t),[]⟩) (g:=JY 3 (gC (Hl 2)<|gC (Hl 3)<|gC (Hl 4)<|JZ)) (m:=UQ) (ds:=ts.map λt=>HG (Ia t)) (U:=[some (Hw ts),some (.ref st.length),none,none,none]) (st:=st++[.dt []])
  (Inv:=λk U s=>Y3 ((∃a b c,U=[some (Hw ts),some (.ref st.length),a,b,c])) (s[st.length]?=some (.dt<|((ts.take k).foldl IM []).map Hi)) (Gr st s))
  ⟨⟨_,_,_,rfl⟩,Iq _ _,Gr.app _ _⟩ (λ_ _ _ _ _=>rfl) (λk d U s hd h=>by
   obtain⟨⟨a,b,c,rfl⟩,n,v⟩:=h;rw[Ax]at hd;obtain⟨t,i,rfl⟩:=Ie hd;have P:((ts.take k).foldl IM []).length<=1000:=by have:=bI (ts.take k) [];rw[Bn,Bj]at this;omega
   have l:=M8 (x:=t.1) (y:=t.2.1) (k:=t.2.2) n P;refine⟨[some (Hw ts),some (.ref st.length),some (.int t.1),some (.int t.2.1),some (.int t.2.2)],s,_,_,rfl,oV l,⟨_,_,_,rfl⟩,?_,?_⟩
   ·rw[As (qax n),A7,i,FY];rfl
   exact⟨by rw[Bk];exact v.len,λj o=>by rw[Ah (!0)];exact v.old j o⟩)
 obtain⟨r,f,p,⟨a,b,c,rfl⟩,n,v⟩:=key;rw[Af,AU]at n;refine⟨f,IH ?_,n,v⟩;unfold hX;refine Hz (U1:=[some (Hw ts),some (.ref st.length),none,none,none]) (s1:=st++[.dt []]) (!2) ?_;refine Hz (U1:=[some (Hw ts),some (.ref st.length),a,b,c]) (s1:=f) (by
  have:Jb (mV 0) [some (Hw ts),some (.ref st.length),none,none,none] (st++[.dt []])=some (⟨ts.map λt=>HG (Ia t),[]⟩,st++[.dt []]):=by unfold Hw;simp[Lg]
  rw[Kg,this];exact p) ?_
 simp
def Iz(ks:List (!6))(k:Int):List Str:=(ks.getD k.toNat []).tail
structure KH(bed:D)(stk:List (Str×Int))(ks:List (!6)):Prop where
 h:∃hs:D,(∀s:Hg,Hf bed (.int 0) s=some (hs,s))/\(∀s:Hg,Hf hs (.int 1) s=some (.tup (stk.map Ki),s))/\∀s:Hg,Hf hs (.int 2) s=some (.tup (ks.map IE),s)
structure KO(ss:List Str)(ks:List (!6)):Prop where
 hi:ks.length<=100
 kd:∀k∈ks,L8 ss k
variable {ss:List Str}{ks:List (!6)}
def Mc(h:KO ss ks)(h0:0<=k)(g:k<(ks.length:Int)):∃f a b c d:Str,Y3 (ks[k.toNat]?=some [f,a,b,c,d]) (Iz ks k=[a,b,c,d]) (∀x∈[a,b,c,d],Iy x/\(x=""\/x∈ss)):=by
 have hk:k.toNat<ks.length:=by omega
 obtain⟨f,ds,e,hf,y,n⟩:=(h.kd _<|A5 hk).ex;have s:ks[k.toNat]?=some (f::ds):=by rw[Ai hk,e]
 have v:Iz ks k=ds:=by unfold Iz;rw[Au,s];rfl
 match ds,y,n,s,v with
 |[a,b,c,d],_,n,s,v=>exact⟨f,a,b,c,d,s,v,n⟩
variable {bed hs KK kd sl:D}
def xZ{K:Int}(c:Hf bed (.int 0) st=some (hs,st))(e:Hf hs (.int 2) st=some (KK,st))(f:HM [KK] st=some (.int K,st))(h0:0<=k)(g:k<K)(h:Hf KK (.int k) st=some (kd,st))(es:LI kd (some 1) none st=some (sl,st)):WY [some bed,some (.int k),none] st=some (.rt sl,st):=by
 unfold WY;refine Hz (U1:=[some bed,some (.int k),some KK]) (s1:=st) (by simp[c,e])<|Ot ?_;have a:mT (M4 QD Px (mK<|.int 0) (mV 1)<|Ho HM<|Hc (mV 2)<|mZ) [some bed,some (.int k),some KK] st=some (true,st):=by rw[ZJ];unfold M4;simp[f,h0,g]
 rw[Lf,a];simp[h,es]
variable {stk:List (Str×Int)}
def gB(i:KH bed stk ks)(h:KO ss ks)(h0:0<=k)(g:k<(ks.length:Int)):Qq [bed,.int k] st=some (.tup ((Iz ks k).map D.str),st):=by obtain⟨hs,n,_,s⟩:=i.h;obtain⟨f,a,b,c,d,e,v,_⟩:=Mc h h0 g;rw[v];refine IH<|xZ (n st) (s st) Qa h0 (by rw[Af];exact g) (Im h0 (by rw[Ax,e];rfl)) ?_;rfl
def WO:Mj [.tup [.int x,.int y]] st=some (.tup [.tup [.int x,.int (y+1)],.tup [.int (x+1),.int y],.tup [.int x,.int (y-1)],.tup [.int (x-1),.int y]],st):=by have a:Hf (.tup [.int x,.int y]) (.int 0) st=some (.int x,st):=Im (!1) rfl;have b:Hf (.tup [.int x,.int y]) (.int 1) st=some (.int y,st):=Im (!1) rfl;refine IH ?_;unfold gZ;refine Hz (U1:=[some (.tup [.int x,.int y]),some (.int x),none]) (s1:=st) (by simp[a]) ?_;refine Hz (U1:=[some (.tup [.int x,.int y]),some (.int x),some (.int y)]) (s1:=st) (by simp[b]) ?_;simp
def JP(ks:List (!6))(P:List Tl)(p:Int×Int)(j:Nat):Str:=match HN P p.1 p.2 with
 |some k=>(Iz ks k).getD j ""
 |none=>""
variable {pl nr:D}{l:Nat}{J I:Int}{L:List D}
def jL{L0:D}{y:D}(c:J5 nr (.ref d) s=some (.bl true,s))(e:s[l]?=some (.lst L))(f:Hf (.ref d) nr s=some (.int k,s))(hs:Qq [bed,.int k] s=some (sl,s))(hm:Io (.int<|J+2) (.int 4) s=some (.int I,s))(g:Hf sl (.int I) s=some (y,s))(h:Lb (.ref l) [y] s=some (.non,s.set l (.lst<|L++[y]))):
  Pm [some bed,some (.ref d),some pl,some (.ref l),some (.int J),some nr] s=some (.nx [some bed,some (.ref d),some pl,some (.ref l),some (.int J),some nr],s.set l (.lst<|L++[y])):=by
 unfold Pm;simp[c,HZ,e,f,hs,hm,g,h]
def lX(c:J5 nr (.ref d) s=some (.bl false,s))(e:s[l]?=some (.lst L))(f:Lb (.ref l) [.str ""] s=some (.non,s.set l (.lst<|L++[.str ""]))):
  Pm [some bed,some (.ref d),some pl,some (.ref l),some (.int J),some nr] s=some (.nx [some bed,some (.ref d),some pl,some (.ref l),some (.int J),some nr],s.set l (.lst<|L++[.str ""])):=by
 unfold Pm;simp[c,HZ,e,f]
variable {j:Nat}
def T2{P:List Tl}{a b:Int}(o:KH bed stk ks)(h:KO ss ks)(p:∀t∈P,0<=t.2.2/\t.2.2<(ks.length:Int))(hd:s[d]?=some (.dt<|P.map Hi))(c:s[l]?=some (.lst L))(z:L.length<=10)(q:(J+2) % 4=I)(r:I=(j:Int))(g:j<4):
  Pm [some bed,some (.ref d),some pl,some (.ref l),some (.int J),some (.tup [.int a,.int b])] s=some (.nx [some bed,some (.ref d),some pl,some (.ref l),some (.int J),some (.tup [.int a,.int b])],s.set l (.lst<|L++[.str (JP ks P (a,b) j)])):=by
 have n:=OV (x:=a) (y:=b) hd;have v:=Lm a b P;unfold JP;cases hf:HN P a b with
 |none=>
  rw[hf]at v;rw[v]at n;exact lX n c<|append_at c<|by omega
 |some k=>
  rw[hf]at v;have v:HS (P.map Hi) [.inl a,.inl b]=some (.int k):=v;rw[v]at n;obtain⟨t,u,rfl⟩:=M9 hf;obtain⟨i,m⟩:=p t u;obtain⟨f,x0,A,B,C,e,w,_⟩:=Mc h i m;refine jL (L0:=.non) n c (Tb hd v) (gB o h i m) (by rw[Ma (!1),q]) (Im (!0) ?_) (append_at c<|by omega);show((Iz ks t.2.2).map D.str)[I.toNat]?=some (D.str<|(Iz ks t.2.2).getD j "");rw[w,r,BA]
  match j,g with
  |0,_=>rfl
  |1,_=>rfl
  |2,_=>rfl
  |3,_=>rfl
def names4(ks:List (!6))(P:List Tl)(x y:Int):List Str:=[JP ks P (x,y+1) 2,JP ks P (x+1,y) 3,JP ks P (x,y-1) 0,JP ks P (x-1,y) 1]
variable {U:Ii}
def bE{e:ME}{ds:List D}(h:e U st=some (.tup ds,s)):PQ e U st=some (⟨pairs ds,[]⟩,s):=by unfold PQ;rw[h];rfl
def eS{P:List Tl}(e:KH bed stk ks)(h:KO ss ks)(f:∀t∈P,0<=t.2.2/\t.2.2<(ks.length:Int))(hd:st[d]?=some (.dt<|P.map Hi)):
  ∃c,Y3 (Qr [bed,.ref d,.tup [.int x,.int y]] st=some (.ref st.length,c)) (c[st.length]?=some (.lst<|(!7).map D.str)) (Gr st c):=by
 have p:=qax hd;have key:=Ky (W:=⟨pairs [.tup [.int x,.int (y+1)],.tup [.int (x+1),.int y],.tup [.int x,.int (y-1)],.tup [.int (x-1),.int y]],[]⟩) (g:=JY 2 (gC (Hl 4)<|gC (Hl 5)<|JZ)) (m:=Pm) (ds:=[D.tup [.int 0,.tup [.int x,.int (y+1)]],.tup [.int 1,.tup [.int (x+1),.int y]],.tup [.int 2,.tup [.int x,.int (y-1)]],.tup [.int 3,.tup [.int (x-1),.int y]]]) (U:=[some bed,some (.ref d),some (.tup [.int x,.int y]),some (.ref st.length),none,none]) (st:=st++[.lst []])
  (Inv:=λk U s=>Y3 ((∃a b,U=[some bed,some (.ref d),some (.tup [.int x,.int y]),some (.ref st.length),a,b])) (s[st.length]?=some (.lst<|((!7).take k).map D.str)) (Gr st s))
  ⟨⟨_,_,rfl⟩,Iq _ _,Gr.app _ _⟩ (λ_ _ _ _ _=>rfl) (λk B U s l r=>by
   obtain⟨⟨u,v,rfl⟩,n,L⟩:=r;have J:=(L.old _ p).trans hd;have i:(((!7).take k).map D.str).length<=10:=by rw[Af,Bn];simp[names4];omega
   have gr:∀o:O,Gr st (s.set st.length o):=λo=>⟨by rw[Bk];exact L.len,λj w=>by rw[Ah (!0)];exact L.old j w⟩
   have at':∀o:O,(s.set st.length o)[st.length]?=some o:=λo=>As<|qax n
   match k,l with
   |0,l=>
    cases l;exact⟨_,s,_,_,rfl,T2 (pl:=.tup [.int x,.int y]) (I:=2) (j:=2) e h f J n i (!1) rfl<|by decide,⟨_,_,rfl⟩,at' _,gr _⟩
   |1,l=>
    cases l;exact⟨_,s,_,_,rfl,T2 (pl:=.tup [.int x,.int y]) (I:=3) (j:=3) e h f J n i (!1) rfl<|by decide,⟨_,_,rfl⟩,at' _,gr _⟩
   |2,l=>
    cases l;exact⟨_,s,_,_,rfl,T2 (pl:=.tup [.int x,.int y]) (I:=0) (j:=0) e h f J n i (!1) rfl<|by decide,⟨_,_,rfl⟩,at' _,gr _⟩
   |3,l=>
    cases l;exact⟨_,s,_,_,rfl,T2 (pl:=.tup [.int x,.int y]) (I:=1) (j:=1) e h f J n i (!1) rfl<|by decide,⟨_,_,rfl⟩,at' _,gr _⟩
   |k+4,l=>exact absurd l (!2))
 obtain⟨C,q,z,⟨u,v,rfl⟩,n,L⟩:=key;refine⟨q,IH ?_,n,L⟩;unfold iC;refine Hz (U1:=[some bed,some (.ref d),some (.tup [.int x,.int y]),some (.ref st.length),none,none]) (s1:=st++[.lst []]) (!2) ?_;refine Hz (U1:=[some bed,some (.ref d),some (.tup [.int x,.int y]),some (.ref st.length),u,v]) (s1:=q) (by
  have A:Ho Mj (Hc (mV 2)<|mZ) [some bed,some (.ref d),some (.tup [.int x,.int y]),some (.ref st.length),none,none] (st++[.lst []])=some (.tup [.tup [.int x,.int (y+1)],.tup [.int (x+1),.int y],.tup [.int x,.int (y-1)],.tup [.int (x-1),.int y]],st++[.lst []]):=by have:=WO (x:=x) (y:=y) (st:=st++[.lst []]);simp[this]
  rw[Kg,bE A];exact z) ?_
 simp
def LL(S N:List Str)(j:Nat):Bool:=S.getD j "" != ""&&S.getD j ""==N.getD j ""
def alike(S N:List Str):List Nat:=(Av 4).filter<|LL S N
def Uk:Bm ("":Str)=true:=by decide +kernel
def Sl{P:List Tl}(h:KO ss ks)(g:∀t∈P,0<=t.2.2/\t.2.2<(ks.length:Int))(p:Int×Int)(j:Nat):Iy (JP ks P p j):=by
 unfold JP;split
 ·rename_i k hf;obtain⟨t,n,rfl⟩:=M9 hf;obtain⟨s,v⟩:=g t n;obtain⟨f,a,b,c,d,e,y,l⟩:=Mc h s v;rw[y,Au]
  cases I:[a,b,c,d][j]? with
  |none=>exact Ql
  |some x=>exact(l x<|AG I).1
 exact Ql
def Ss(p:Str×Int):Key×D:=(.inr p.1,.int p.2)
def JN(stk:List (Str×Int)):List (Key×D):=Of []<|stk.map Ss
def tR{κ:Type}[DecidableEq κ]:∀(kvs:List (κ×D)) (k q:κ) (d:D),HS (putD kvs k d) q=if q=k then some d else HS kvs q:=by
 intro kvs k q d;unfold putD;by_cases h:(kvs.any λb=>decide (b.1=k))=true
 ·rw[if_pos h]
  induction kvs with
  |nil=>simp at h
  |cons p r l=>
   unfold HS at *;rw[An,AV,AV];by_cases hp:p.1=k
   ·simp only[hp,if_true]
    by_cases hq:q=k
    ·simp[hq]
    ·have:¬k=q:=λe=>hq e.symm;simp only[this,decide_false,hq,if_false];clear h l
     induction r with
     |nil=>rfl
     |cons u r a=>
      rw[An,AV,AV];by_cases hu:u.1=k
      ·simp only[hu,if_true,this,decide_false];exact a
      ·simp only[hu,if_false]
       by_cases huq:u.1=q
       ·simp[huq]
       simp only[huq,decide_false];exact a
   ·simp only[hp,if_false]
    by_cases hpq:p.1=q
    ·have:¬q=k:=λe=>hp<|hpq.trans e;simp[hpq,this]
    simp only[hpq,decide_false];refine l ?_;rw[BV]at h;simpa[hp]using h
 ·rw[if_neg h];unfold HS;rw[D1]
  by_cases hq:q=k
  ·subst hq;have:kvs.find? (λb=>decide (b.1=q))=none:=by
    rw[FI];intro x n j;exact h<|List.any_eq_true.mpr ⟨x,n,j⟩
   simp[this]
  have:¬k=q:=λe=>hq e.symm;simp[hq,this]
def Yv(d:Option D):Prop:=∃v:Int,d=some (.int v)/\1<=v/\v<=4
theorem eB{q:Str}:∀{more:List (Str×Int)} {acc:List (Key×D)},(∀p∈more,1<=p.2/\p.2<=4)->(Yv (HS acc<|.inr q)\/q∈more.map (·.1))->Yv (HS (Of acc<|more.map Ss)<|.inr q)
 |[],acc,_,h=>by
  rcases h with h|h
  ·exact h
  ·cases h
 |p::r,acc,c,h=>by
  show Yv (HS (Of (putD acc (.inr p.1)<|.int p.2)<|r.map Ss)<|.inr q);refine eB (λu f=>c u (Al _ f)) ?_;rw[tR]
  by_cases e:q=p.1
  ·subst e;rw[if_pos rfl];have:=c p Ar;exact .inl ⟨p.2,rfl,this.1,this.2⟩
  ·have a:¬(DF q:Key)=.inr p.1:=λz=>e (by injection z);rw[if_neg a]
   rcases h with h|h
   ·exact .inl h
   ·exists 10
    ·exact absurd h e
    exact .inr h
def sv(stk:List (Str×Int))(a:Str):Int:=match HS (JN stk) (.inr a) with|some (.int v)=>v|_=>0
def QU{stk:List (Str×Int)}(h:∀p∈stk,1<=p.2/\p.2<=4)(c:a∈stk.map (·.1)):HS (JN stk) (.inr a)=some (.int<|sv stk a)/\1<=sv stk a/\sv stk a<=4:=by
 obtain⟨v,e,b,d⟩:=eB (acc:=[]) h<|.inr c;have e:HS (JN stk) (.inr a)=some (.int v):=e;have:sv stk a=v:=by unfold sv;rw[e]
 rw[this];exact⟨e,b,d⟩
theorem aH:∀stk:List (Str×Int),PR (stk.map Ki)=some (stk.map Ss)
 |[]=>rfl
 |p::r=>by have c:=aH r;rw[An,PR,c];rfl
def V4(c:stk.length<=1000):OP [.tup (stk.map Ki)] st=some (.ref st.length,st++[.dk (JN stk)]):=by have a:fits (stk.map Ss).length=true:=JK (by rw[Af];omega);have b:SX [.tup (stk.map Ki)] st=none:=rfl;unfold OP K7;rw[b,Ku];unfold SY;simp only[aH,Ac,a,if_true];rfl
def Ze{kvs:List (Key×D)}(h:st[d]?=some (.dk kvs))(c:HS kvs (.inr a)=some v):Hf (.ref d) (.str a) st=some (v,st):=by
 have b:Ko (.ref d) (.str a) st=none:=by simp[Ko,HZ,h]
 unfold Hf JX;rw[b,Ku];simp[Vn,look,h,keyOf,c]
theorem aX:∀ns:List Int,QH (ns.map D.int)=some ns
 |[]=>rfl
 |n::r=>by have c:=aX r;rw[An,QH,c];rfl
def ZZ{ns:List Int}(c:st[l]?=some (.lst<|ns.map D.int))(h:∀n∈ns,0<=n/\n<=100)(hn:ns.length<=100):LV [.ref l] st=some (.int ns.sum,st):=by
 have a:(ns.all Om&&decide (ns.length<=100000))=true:=by rw[Aq];refine⟨List.all_eq_true.mpr λn hn=>?_,decide_eq_true<|by omega⟩;have:=h n hn;unfold Om;simp;omega
 unfold LV;simp only[HZ,c,Ac,aX,a,if_true]
def oP{K:Option D}(c:Bm a=true)(e:Bm b=true):RW [some (.str a),some (.str b),K] s=some (a==b&&a != "",s):=by
 have d:=eq_str (st:=s) c e;have j:=ne_str (st:=s) c Uk;unfold RW;cases h:a==b with
 |true=>simp[d,j,h]
 |false=>simp[d,j,h]
def oG(h:Hf (.ref d) (.str a) s=some (v,s)):RV [some (.str a),some (.str b),some (.ref d)] s=some (v,s):=by unfold RV;simp[h]
def Jw(S N:List Str):List (Str×Str):=(S.zip N).filter λp=>p.1==p.2&&p.1 != ""
variable {S N:List Str}
def gG{stk:List (Str×Int)}{S N:List Str}(c:∀p∈stk,1<=p.2/\p.2<=4)(E:S.length<=4)(f:∀x∈S,Iy x/\(x=""\/x∈stk.map (·.1)))(oN:∀x∈N,Bm x=true)(hd:st[d]?=some (.dk<|JN stk))(o:st[l]?=some (.lst<|N.map D.str)):
  ∃e,Po [.ref d,.tup (S.map D.str),.ref l] st=some (.int ((Jw S N).map λp=>sv stk p.1).sum,e)/\Gr st e:=by
 have u:pairD (S.map D.str) (N.map D.str)=(S.zip N).map λp=>D.tup [.str p.1,.str p.2]:=by unfold pairD;rw[List.zip_map,AJ];rfl
 have j:∀p∈S.zip N,p.1∈S/\p.2∈N:=λp I=>by obtain⟨a,b⟩:=p;exact CS I
 have hw:walked ⟨(S.zip N).map λp=>D.tup [.str p.1,.str p.2],[(l,N.map D.str)]⟩ st=true:=OE o;have g:Jc ⟨(S.zip N).map λp=>D.tup [.str p.1,.str p.2],[(l,N.map D.str)]⟩ (JY 2<|gC (Hl 0)<|gC (Hl 1)<|JZ) RW RV ((S.zip N).map λp=>D.tup [.str p.1,.str p.2]) [none,none,some (.ref d)] st=some ((Jw S N).map λp=>D.int (sv stk p.1),st):=by
  refine Us (R:=λU=>∃x y,U=[x,y,some (.ref d)]) ⟨none,none,rfl⟩ hw λp I U w=>?_;obtain⟨x,y,rfl⟩:=w;obtain⟨P,q⟩:=j p I;refine⟨[some (.str p.1),some (.str p.2),some (.ref d)],rfl,oP (Q4 (f _ P).1.ab)<|oN _ q,λJ=>?_,_,_,rfl⟩;have s:p.1≠"":=by rw[Aq]at J;simpa using J.2
  have v:p.1∈stk.map (·.1):=by
   rcases(f _ P).2 with h|h
   ·exact absurd h s
   exact h
  exact oG<|Ze hd (QU c v).1
 have hm:((Jw S N).map λp=>D.int (sv stk p.1))=((Jw S N).map λp=>sv stk p.1).map D.int:=by rw[AJ];rfl
 rw[hm]at g;have hlen:(Jw S N).length<=4:=by refine AB (AQ _ _) ?_;rw[Gx];omega
 have L:∀n∈(Jw S N).map (λp=>sv stk p.1),0<=n/\n<=100:=λn z=>by
  obtain⟨p,I,rfl⟩:=Re.mp z;obtain⟨i,J⟩:=List.mem_filter.mp I;obtain⟨P,q⟩:=j p i;have s:p.1≠"":=by rw[Aq]at J;simpa using J.2
  have v:p.1∈stk.map (·.1):=by
   rcases(f _ P).2 with h|h
   ·exact absurd h s
   exact h
  have:=QU c v;omega
 have B:=ZZ (Iq st<|.lst<|((Jw S N).map λp=>sv stk p.1).map D.int) L (by rw[Af];omega);have fl:fits (((Jw S N).map λp=>sv stk p.1).map D.int).length=true:=JK (by rw[Af,Af];omega);generalize ((Jw S N).map λp=>sv stk p.1).sum=R at *;generalize ((Jw S N).map λp=>sv stk p.1).map D.int=A at *;refine⟨st++[.lst A],IH ?_,Gr.app _ _⟩;rw[<-u]at g;generalize S.map D.str=SS at *;generalize C:N.map D.str=r at *;unfold iG;have m:I0 (My (mV 1)<|mV 2) 2 [0] (JY 2<|gC (Hl 0)<|gC (Hl 1)<|JZ) RW RV [some (.ref d),some (.tup SS),some (.ref l)] st=some (.ref st.length,st++[.lst A]):=by
  have:My (mV 1) (mV 2) [some (.ref d),some (.tup SS),some (.ref l)] st=some (⟨pairD SS r,[(l,r)]⟩,st):=by rw[nY];simp[Tn,O4,Mx,HZ,o]
  rw[JH,this];simp only[Ac];rw[show IL [some (.ref d),some (.tup SS),some (.ref l)] 2 [0]=[none,none,some (.ref d)] from rfl,g];simp only[Ac,fl,if_true]
 simp[m,B]
def aP{a b:Int}(h0:0<=J)(h:[D.tup [.int x,.int (y+1)],.tup [.int (x+1),.int y],.tup [.int x,.int (y-1)],.tup [.int (x-1),.int y]][J.toNat]?=some (.tup [.int a,.int b])):∃s',NH [.tup [.int x,.int y],.int J] s=some (.tup [.int a,.int b],s')/\Gr s s':=by have ex:=KU (Iq s<|.lst [.tup [.int x,.int (y+1)],.tup [.int (x+1),.int y],.tup [.int x,.int (y-1)],.tup [.int (x-1),.int y]]) h0 h;refine⟨s++[.lst [.tup [.int x,.int (y+1)],.tup [.int (x+1),.int y],.tup [.int x,.int (y-1)],.tup [.int (x-1),.int y]]],IH ?_,Gr.app _ _⟩;unfold fM;refine Hz (U1:=[some (.tup [.int x,.int y]),some (.int J),some (.int x),some (.int y)]) (s1:=s) (!2) ?_;simp[ex]
variable {s1:Hg}
def nC{a b:Int}{mk:ME}{md:ME}(hm:md U s=some (.ref d,s))(h:s[d]?=some (.dt kvs))(hk:mk U s=some (.tup [.int a,.int b],s1))(c:s1[d]?=some (.dt kvs)):O0 md mk U s=some ((HS kvs [.inl a,.inl b]).getD .non,s1):=by
 have j:MQ s d=true:=by unfold MQ;rw[h]
 have l:Tc s1 d (.tup [.int a,.int b])=some (HS kvs [.inl a,.inl b]):=by
  unfold Tc;have:look s1 d (.tup [.int a,.int b])=some (HS kvs [.inl a,.inl b]):=by unfold look;simp only[c];rfl
  rw[this,Kt]
 unfold O0;rw[hm];simp only[Ac,j,if_true];rw[hk];simp only[Ac,l,AL]
variable {a7 a8:Option D}{mine:Str}
section
variable {mineD:D}
def sS(c:O0 (mV 1) (Ho NH<|Hc (mV 2)<|Hc (mV 6)<|mZ) [some bed,some (.ref d),some pl,some (.int k),some KK,some (.ref l),some (.int J),a7,a8] s=some (.non,s1))(hk:Hf KK (.int k) s1=some (kd,s1)) (hm:Hf kd (.int<|J+1) s1=some (.str mine,s1)):
  Pk [some bed,some (.ref d),some pl,some (.int k),some KK,some (.ref l),some (.int J),a7,a8] s=some (.nx [some bed,some (.ref d),some pl,some (.int k),some KK,some (.ref l),some (.int J),some .non,some (.str mine)],s1):=by
 unfold Pk;refine Hz (U1:=[some bed,some (.ref d),some pl,some (.int k),some KK,some (.ref l),some (.int J),some .non,a8]) (s1:=s1) (by rw[Oj,c];rfl) ?_;refine Hz (U1:=[some bed,some (.ref d),some pl,some (.int k),some KK,some (.ref l),some (.int J),some .non,some (.str mine)]) (s1:=s1) (by simp[hk,hm]) ?_;simp[Ob,MR]
def uN{o:Int}{e:D}{os:Str}(m:O0 (mV 1) (Ho NH<|Hc (mV 2)<|Hc (mV 6)<|mZ) [some bed,some (.ref d),some pl,some (.int k),some KK,some (.ref l),some (.int J),a7,a8] s=some (.int o,s1))(hk:Hf KK (.int k) s1=some (kd,s1)) (hm:Hf kd (.int<|J+1) s1=some (.str mine,s1)) (f:Bm mine=true) (p:Bm os=true) (g:Io (.int<|J+2) (.int 4) s1=some (.int I,s1)) (h:Hf KK (.int o) s1=some (e,s1)) (c:Hf e (.int<|I+1) s1=some (.str os,s1)) (i:s1[l]?=some (.lst L)) (q:L.length<=10):
  Pk [some bed,some (.ref d),some pl,some (.int k),some KK,some (.ref l),some (.int J),a7,a8] s=some (.nx [some bed,some (.ref d),some pl,some (.int k),some KK,some (.ref l),some (.int J),some (.int o),some (.str mine)],if(mine != ""&&os==mine)=true then s1.set l (.lst<|L++[.int J])else s1):=by
 have a:=ne_str (st:=s1) f Uk;have j:=eq_str (st:=s1) p f;have v:=append_at (x:=.int J) i (!0);unfold Pk;refine Hz (U1:=[some bed,some (.ref d),some pl,some (.int k),some KK,some (.ref l),some (.int J),some (.int o),a8]) (s1:=s1) (by rw[Oj,m];rfl) ?_;refine Hz (U1:=[some bed,some (.ref d),some pl,some (.int k),some KK,some (.ref l),some (.int J),some (.int o),some (.str mine)]) (s1:=s1) (by simp[hk,hm]) ?_
 cases b:mine != "" with
 |false=>simp[Ob,MR,a,b]
 |true=>
  cases n:os==mine with
  |false=>simp[Ob,MR,a,b,g,h,c,j,n]
  |true=>simp[Ob,MR,a,b,g,h,c,j,n,HZ,i,v]
end
def Um{P:List Tl}{a b:Int}{i:Nat}(h:KO ss ks)(hP:∀t∈P,0<=t.2.2/\t.2.2<(ks.length:Int))(M:0<=k)(k1:k<(ks.length:Int))(hd:s[d]?=some (.dt<|P.map Hi))(Q:s[l]?=some (.lst L))(hL:L.length<=10)(hJ:J=(i:Int)) (hi:i<4) (hI:(J+2) % 4=I) (hj:I=(j:Int)) (p:j<4) (hp:[D.tup [.int x,.int (y+1)],.tup [.int (x+1),.int y],.tup [.int x,.int (y-1)],.tup [.int (x-1),.int y]][J.toNat]?=some (.tup [.int a,.int b])):
  ∃(b7 b8:Option D) (s':Hg),Y3 (Pk [some bed,some (.ref d),some (.tup [.int x,.int y]),some (.int k),some (.tup<|ks.map IE),some (.ref l),some (.int J),a7,a8] s=some (.nx [some bed,some (.ref d),some (.tup [.int x,.int y]),some (.int k),some (.tup<|ks.map IE),some (.ref l),some (.int J),b7,b8],s')) (s'[l]?=some (.lst<|if((Iz ks k).getD i "" != ""&&(Iz ks k).getD i ""==JP ks P (a,b) j)=true then L++[.int J]else L)) (Fr l s s'):=by
 obtain⟨s1,e1,g1⟩:=aP (x:=x) (y:=y) (s:=s) (!0) hp;have q:=(g1.old _<|qax hd).trans hd;have n:=(g1.old _<|qax Q).trans Q;have v:=nC (a:=a) (b:=b) (s1:=s1) (md:=mV 1) (mk:=Ho NH (Hc (mV 2)<|Hc (mV 6)<|mZ)) (U:=[some bed,some (.ref d),some (.tup [.int x,.int y]),some (.int k),some (.tup<|ks.map IE),some (.ref l),some (.int J),a7,a8]) rfl hd (by simp[e1]) q;have m:=Lm a b P;obtain⟨f,x0,r,w,A,e,T,B⟩:=Mc h M k1;have W:Hf (.tup<|ks.map IE) (.int k) s1=some (IE [f,x0,r,w,A],s1):=Im M (by rw[Ax,e];rfl);have em:Hf (IE [f,x0,r,w,A]) (.int<|J+1) s1=some (.str ((Iz ks k).getD i ""),s1):=by
  refine Im (!0) ?_;rw[T];have:(J+1).toNat=i+1:=by omega
  rw[this]
  match i,hi with
  |0,_=>rfl
  |1,_=>rfl
  |2,_=>rfl
  |3,_=>rfl
 have X:Iy ((Iz ks k).getD i ""):=by
  rw[T,Au];cases C:[x0,r,w,A][i]? with
  |none=>exact Ql
  |some u=>exact(B u<|AG C).1
 generalize (Iz ks k).getD i ""=mine at em X ⊢;cases hf:HN P a b with
 |none=>
  have E:JP ks P (a,b) j="":=by unfold JP;rw[hf]
  rw[hf]at m;rw[m]at v;refine⟨_,_,s1,sS v W em,?_,g1.fr l⟩;rw[E];have:(mine != ""&&mine=="")=false:=by cases h:mine=="" <;> simp[bne,h]
  rw[this];exact n
 |some o=>
  have E:JP ks P (a,b) j=(Iz ks o).getD j "":=by unfold JP;rw[hf]
  rw[hf]at m;rw[m]at v;obtain⟨t,ht,rfl⟩:=M9 hf;obtain⟨o0,o1⟩:=hP t ht;obtain⟨Y,F,G,H,K,e',N,S⟩:=Mc h o0 o1;have eo:Hf (.tup<|ks.map IE) (.int t.2.2) s1=some (IE [Y,F,G,H,K],s1):=Im o0 (by rw[Ax,e'];rfl);have c:Hf (IE [Y,F,G,H,K]) (.int<|I+1) s1=some (.str ((Iz ks t.2.2).getD j ""),s1):=by
   refine Im (!0) ?_;rw[N];have:(I+1).toNat=j+1:=by omega
   rw[this]
   match j,p with
   |0,_=>rfl
   |1,_=>rfl
   |2,_=>rfl
   |3,_=>rfl
  have Z:Iy ((Iz ks t.2.2).getD j ""):=by
   rw[N,Au];cases C:[F,G,H,K][j]? with
   |none=>exact Ql
   |some u=>exact(S u<|AG C).1
  rw[E];generalize (Iz ks t.2.2).getD j ""=os at c Z ⊢;have v:O0 (mV 1) (Ho NH<|Hc (mV 2)<|Hc (mV 6)<|mZ) [some bed,some (.ref d),some (.tup [.int x,.int y]),some (.int k),some (.tup<|ks.map IE),some (.ref l),some (.int J),a7,a8] s=some (.int t.2.2,s1):=v;have rd:=uN v W em (Q4 X.ab) (Q4 Z.ab) (by rw[Ma (!1),hI]) eo c n hL;have g:(mine != ""&&os==mine)=(mine != ""&&mine==os):=by
   have:(os==mine)=(mine==os):=by
    by_cases hq:os=mine
    ·subst hq;rfl
    rw[beq_false_of_ne hq,beq_false_of_ne λz=>hq z.symm]
   rw[this]
  rw[g]at rd;refine⟨_,_,_,rd,?_,?_⟩
  ·by_cases hc:(mine != ""&&mine==os)=true
   ·rw[if_pos hc,if_pos hc,As (qax n)]
   rw[if_neg hc,if_neg hc];exact n
  ·by_cases hc:(mine != ""&&mine==os)=true
   ·rw[if_pos hc];exact(g1.fr l).trans<|Gy _ _ _
   rw[if_neg hc];exact g1.fr l
def fl(p:Nat->Bool)(k:Nat):List D:=((Av k).filter p).map λ(i:Nat)=>D.int (i:Int)
def Qg(p:Nat->Bool)(k:Nat):fl p (k+1)=if p k=true then fl p k++[.int (k:Int)]else fl p k:=by
 unfold fl;rw[Cr,DO,AZ];by_cases h:p k=true
 ·rw[if_pos h];simp[h]
 rw[if_neg h];simp[h]
def zib{P:List Tl}(H:KH bed stk ks)(h:KO ss ks)(p:∀t∈P,0<=t.2.2/\t.2.2<(ks.length:Int))(q:0<=k)(r:k<(ks.length:Int))(hd:st[d]?=some (.dt<|P.map Hi)):
  ∃o,Y3 (Xu [bed,.ref d,.tup [.int x,.int y],.int k] st=some (.ref st.length,o)) (o[st.length]?=some (.lst<|(alike (Iz ks k)<|names4 ks P x y).map λ(i:Nat)=>D.int (i:Int))) (Gr st o):=by
 obtain⟨hs,K,_,M⟩:=H.h;have A:=qax hd;have key:=Ky (W:=⟨run 0 4,[]⟩) (g:=Hl 6) (m:=Pk) (ds:=[D.int 0,.int 1,.int 2,.int 3]) (U:=[some bed,some (.ref d),some (.tup [.int x,.int y]),some (.int k),some (.tup<|ks.map IE),some (.ref st.length),none,none,none]) (st:=st++[.lst []])
  (Inv:=λi U s=>Y3 ((∃a b c,U=[some bed,some (.ref d),some (.tup [.int x,.int y]),some (.int k),some (.tup<|ks.map IE),some (.ref st.length),a,b,c])) (s[st.length]?=some (.lst<|fl (LL (Iz ks k)<|names4 ks P x y) i)) (Gr st s))
  ⟨⟨_,_,_,rfl⟩,Iq _ _,Gr.app _ _⟩ (λ_ _ _ _ _=>rfl) (λi X U s l Q=>by
   obtain⟨⟨u,v,w,rfl⟩,L,S⟩:=Q;have N:=(S.old _ A).trans hd;have z:(fl (LL (Iz ks k)<|names4 ks P x y) i).length<=10:=by
    have Y:(fl (LL (Iz ks k)<|names4 ks P x y) i).length<=i:=by unfold fl;rw[Af];exact AB (AQ _ _)<|by simp
    have:=qax l;simp at this;omega
   have fin:∀J:Hg,Fr st.length s J->Gr st J:=λJ f=>⟨AB S.len f.len,λj G=>(f.old j (AC G S.len)<|by omega).trans (S.old j G)⟩
   match i,l with
   |0,l=>
    cases l;obtain⟨B,C,J,e,n,f⟩:=Um (bed:=bed) (I:=2) (i:=0) (j:=2) (a:=x) (b:=y+1) (x:=x) (y:=y) (a7:=v) (a8:=w) h p q r N L z rfl (!1) (!1) rfl (!1) rfl;exact⟨_,s,_,J,rfl,e,⟨_,_,_,rfl⟩,by rw[Qg];exact n,fin J f⟩
   |1,l=>
    cases l;obtain⟨B,C,J,e,n,f⟩:=Um (bed:=bed) (I:=3) (i:=1) (j:=3) (a:=x+1) (b:=y) (x:=x) (y:=y) (a7:=v) (a8:=w) h p q r N L z rfl (!1) (!1) rfl (!1) rfl;exact⟨_,s,_,J,rfl,e,⟨_,_,_,rfl⟩,by rw[Qg];exact n,fin J f⟩
   |2,l=>
    cases l;obtain⟨B,C,J,e,n,f⟩:=Um (bed:=bed) (I:=0) (i:=2) (j:=0) (a:=x) (b:=y-1) (x:=x) (y:=y) (a7:=v) (a8:=w) h p q r N L z rfl (!1) (!1) rfl (!1) rfl;exact⟨_,s,_,J,rfl,e,⟨_,_,_,rfl⟩,by rw[Qg];exact n,fin J f⟩
   |3,l=>
    cases l;obtain⟨B,C,J,e,n,f⟩:=Um (bed:=bed) (I:=1) (i:=3) (j:=1) (a:=x-1) (b:=y) (x:=x) (y:=y) (a7:=v) (a8:=w) h p q r N L z rfl (!1) (!1) rfl (!1) rfl;exact⟨_,s,_,J,rfl,e,⟨_,_,_,rfl⟩,by rw[Qg];exact n,fin J f⟩
   |i+4,l=>exact absurd l (!2))
 obtain⟨Z,J,T,⟨u,v,w,rfl⟩,L,S⟩:=key;refine⟨J,IH ?_,L,S⟩;have E:=K st;have F:=M st;generalize ks.map IE=KK at *;unfold gV;refine Hz (U1:=[some bed,some (.ref d),some (.tup [.int x,.int y]),some (.int k),some (.tup KK),some (.ref st.length),none,none,none]) (s1:=st++[.lst []]) (by simp[E,F]) ?_;refine Hz (U1:=[some bed,some (.ref d),some (.tup [.int x,.int y]),some (.int k),some (.tup KK),some (.ref st.length),u,v,w]) (s1:=J) (by
  rw[Kg,Q6 (k:=4) rfl (!1)];exact T) ?_
 simp
def jX{e:Nat}(c:Hf bed (.int 0) s=some (hs,s))(f:Hf hs (.int 2) s=some (KK,s))(g:Hf KK (.int k) s=some (kd,s))(h:Hf kd (.int<|J+1) s=some (.str mine,s))(i:Hf (.ref e) (.str mine) s=some (v,s)):RH [some (.int J),some (.ref e),some bed,some (.int k)] s=some (v,s):=by unfold RH;simp[c,f,g,h,i]
def eq_nil{m:Nat}{js:List Nat}(c:st[l]?=some (.lst<|js.map λ(i:Nat)=>D.int (i:Int)))(hm:st[m]?=some (.lst [])):KC (.ref l) (.ref m) st=some (.bl js.isEmpty,st):=by
 have e:(js.map λ(i:Nat)=>D.int (i:Int))=(js.map λ(i:Nat)=>(i:Int)).map D.int:=by rw[AJ];rfl
 rw[e]at c;unfold KC;rw[OB (n:=98) c,OB (n:=98) (as:=[]) hm];cases js<;>rfl
def WU{stk:List (Str×Int)}{P:List Tl}(E:KH bed stk ks)(h:KO (stk.map (·.1)) ks)(c:∀p∈stk,1<=p.2/\p.2<=4)(m:stk.length<=1000)(X:∀t∈P,0<=t.2.2/\t.2.2<(ks.length:Int))(o:0<=k)(F:k<(ks.length:Int))(hd:st[d]?=some (.dt<|P.map Hi)):
  ∃g,Nf [bed,.ref d,.tup [.int x,.int y],.int k] st=some (.int ((alike (Iz ks k)<|names4 ks P x y).map λi=>sv stk ((Iz ks k).getD i "")).sum,g)/\Gr st g:=by
 obtain⟨s1,G,a1,g1⟩:=zib (x:=x) (y:=y) E h X o F hd;obtain⟨hs,H,Y,Z⟩:=id E.h;have j:∀i∈alike (Iz ks k) (!7),i<4/\(Iz ks k).getD i ""≠"":=λi l=>by obtain⟨K,s⟩:=List.mem_filter.mp l;unfold LL at s;rw[Aq]at s;exact⟨List.mem_range.mp K,by simpa using s.1⟩
 have hle:(alike (Iz ks k)<|names4 ks P x y).length<=4:=by have:=AQ (LL (Iz ks k)<|names4 ks P x y)<|Av 4;rw[Cb]at this;exact this
 obtain⟨f,x0,v,I,J,e,M,q⟩:=Mc h o F;generalize alike (Iz ks k) (!7)=js at *;have a2:(s1++[O.lst []])[st.length]?=some (.lst<|js.map λ(i:Nat)=>D.int (i:Int)):=by rw[Am (qax a1)];exact a1
 have r:=eq_nil a2<|Iq s1<|.lst [];have g2:=Gr.app s1 [.lst []];generalize L:s1++[O.lst []]=s2 at *
 by_cases hj:js=[]
 ·subst hj;refine⟨s2,IH ?_,g1.trans g2⟩;unfold WX;refine Hz (U1:=[some bed,some (.ref d),some (.tup [.int x,.int y]),some (.int k),some (.ref st.length),none]) (s1:=s1) (by simp[G])<|Ot ?_;simp[L,r]
 ·have w:js.isEmpty=false:=by cases js with
   |nil=>exact absurd rfl hj
   |cons a b=>rfl
  rw[w]at r;have ed:=V4 (stk:=stk) (st:=s2) m;have a3:=Iq s2<|.dk<|JN stk;have N:(s2++[O.dk (JN stk)])[st.length]?=some (.lst<|js.map λ(i:Nat)=>D.int (i:Int)):=by rw[Am (qax a2)];exact a2
  have g3:=Gr.app s2 [.dk (JN stk)];generalize hs3:s2++[O.dk (JN stk)]=s3 at *;have side:∀i∈js,(Iz ks k).getD i ""∈stk.map (·.1):=λi l=>by
   obtain⟨K,s⟩:=j i l;rw[M]at s ⊢;have hx:[x0,v,I,J].getD i ""∈[x0,v,I,J]:=by
    rw[Au];cases Q:[x0,v,I,J][i]? with
    |none=>
     rw[Au,Q]at s;exact absurd rfl s
    |some u=>exact AG Q
   rcases(q _ hx).2 with h3|h3
   ·exact absurd h3 s
   exact h3
  have T:Jc ⟨js.map λ(i:Nat)=>D.int (i:Int),[(st.length,js.map λ(i:Nat)=>D.int (i:Int))]⟩ (Hl 0) IU RH (js.map λ(i:Nat)=>D.int (i:Int)) [none,some (.ref s2.length),some bed,some (.int k)] s3=some (js.map λi=>D.int (sv stk<|(Iz ks k).getD i ""),s3):=by
   refine P9 (R:=λU=>∃x,U=[x,some (.ref s2.length),some bed,some (.int k)]) ⟨none,rfl⟩ (OE N) λi l U hU=>?_;obtain⟨u,rfl⟩:=hU;have ek:Hf (.tup<|ks.map IE) (.int k) s3=some (IE [f,x0,v,I,J],s3):=Im o (by rw[Ax,e];rfl);have ij:Hf (IE [f,x0,v,I,J]) (.int<|(i:Int)+1) s3=some (.str ((Iz ks k).getD i ""),s3):=by
    refine Im (!0) ?_;rw[M];have:((i:Int)+1).toNat=i+1:=by omega
    rw[this]
    match i,(j i l).1 with
    |0,_=>rfl
    |1,_=>rfl
    |2,_=>rfl
    |3,_=>rfl
   exact⟨[some (.int (i:Int)),some (.ref s2.length),some bed,some (.int k)],rfl,rfl,jX (H s3) (Z s3) ek ij<|Ze a3 (QU c<|side i l).1,_,rfl⟩
  have hm:(js.map λi=>D.int (sv stk<|(Iz ks k).getD i ""))=(js.map λi=>sv stk ((Iz ks k).getD i "")).map D.int:=by rw[AJ];rfl
  rw[hm]at T;have S:∀n∈js.map (λi=>sv stk ((Iz ks k).getD i "")),0<=n/\n<=100:=λn hn=>by obtain⟨i,l,rfl⟩:=Re.mp hn;have:=QU c<|side i l;omega
  have z:=ZZ (Iq s3<|.lst<|(js.map λi=>sv stk ((Iz ks k).getD i "")).map D.int) S (by rw[Af];omega);have B:fits ((js.map λi=>sv stk ((Iz ks k).getD i "")).map D.int).length=true:=JK (by rw[Af,Af];omega);generalize (js.map λi=>sv stk ((Iz ks k).getD i "")).sum=R at *;generalize (js.map λi=>sv stk ((Iz ks k).getD i "")).map D.int=A at *;refine⟨s3++[.lst A],IH ?_,((g1.trans g2).trans g3).trans<|Gr.app _ _⟩;generalize (js.map λ(i:Nat)=>D.int (i:Int))=W at *;unfold WX;refine Hz (U1:=[some bed,some (.ref d),some (.tup [.int x,.int y]),some (.int k),some (.ref st.length),none]) (s1:=s1) (by simp[G]) ?_;refine Hz (U1:=[some bed,some (.ref d),some (.tup [.int x,.int y]),some (.int k),some (.ref st.length),none]) (s1:=s2) (by simp[L,r]) ?_;refine Hz (U1:=[some bed,some (.ref d),some (.tup [.int x,.int y]),some (.int k),some (.ref st.length),some (.ref s2.length)]) (s1:=s3) (by simp[H,Y,ed]) ?_;have C:I0 (Jb<|mV 4) 1 [5,0,3] (Hl 0) IU RH [some bed,some (.ref d),some (.tup [.int x,.int y]),some (.int k),some (.ref st.length),some (.ref s2.length)] s3=some (.ref s3.length,s3++[.lst A]):=by
   have:Jb (mV 4) [some bed,some (.ref d),some (.tup [.int x,.int y]),some (.int k),some (.ref st.length),some (.ref s2.length)] s3=some (⟨W,[(st.length,W)]⟩,s3):=by simp[Lg,HZ,N]
   rw[JH,this];simp only[Ac];rw[show IL [some bed,some (.ref d),some (.tup [.int x,.int y]),some (.int k),some (.ref st.length),some (.ref s2.length)] 1 [5,0,3]=[none,some (.ref s2.length),some bed,some (.int k)] from rfl,T];simp only[Ac,B,if_true]
  simp[C,z]
def zmg(f:S.length=4)(g:N.length=4):((Jw S N).map λp=>sv stk p.1)=(alike S N).map λi=>sv stk (S.getD i ""):=by
 match S,N,f,g with
 |[a,b,c,d],[j,l,n,s],_,_=>
  have e:Av 4=[0,1,2,3]:=rfl;have f0:LL [a,b,c,d] [j,l,n,s] 0=(a==j&&a != ""):=DW _ _;have f1:LL [a,b,c,d] [j,l,n,s] 1=(b==l&&b != ""):=DW _ _;have f2:LL [a,b,c,d] [j,l,n,s] 2=(c==n&&c != ""):=DW _ _;have v:LL [a,b,c,d] [j,l,n,s] 3=(d==s&&d != ""):=DW _ _;unfold Jw alike;rw[e];simp only[DN,FP,BI,Er,f0,f1,f2,v];cases (a==j&&a != "")<;>cases (b==l&&b != "")<;>cases (c==n&&c != "")<;>cases (d==s&&d != "")<;>rfl
def HI(p:Int×Int):D:=.tup [.int p.1,.int p.2]
end L2.MP.Hd
namespace L2.MP
open PySem
theorem Za{W:Wk}{g:MG}{c:MT}{m:ME}{α:Type}{f h:α->D}{R:Ii->Prop}:∀{as:List α}{U:Ii}{st:Hg},R U->(∀s,Gr st s->walked W s=true)->(∀a∈as,∀U s,R U->Gr st s->∃U1 s1,g (f a) U s=some (U1,s)/\c U1 s=some (true,s)/\m U1 s=some (h a,s1)/\Gr s s1/\R U1) ->
  ∃s',Jc W g c m (as.map f) U st=some (as.map h,s')/\Gr st s'
 |[],U,st,r,d,_=>⟨st,by unfold Jc;rw[Bx];simp only[d st (Gr.refl st),if_true,Bx],Gr.refl st⟩
 |a::as,U,st,r,d,i=>by obtain⟨U1,s1,j,l,n,g1,r1⟩:=i a Ar U st r<|Gr.refl st;obtain⟨s',e,o⟩:=Za (W:=W) (g:=g) (c:=c) (m:=m) (f:=f) (h:=h) (R:=R) (as:=as) (st:=s1) r1 (λs q=>d s (g1.trans q)) λb p U s q z=>i b (Al _ p) U s q<|g1.trans z;refine⟨s',?_,g1.trans o⟩;rw[An];unfold Jc;rw[if_pos (d st<|Gr.refl st),j];simp only[Ac,l,if_true,n,e,AL,An]
end L2.MP
namespace L2.MP.Ce
open PySem L2.MP
variable {α:Type}
theorem Z8{α:Type}(f:α->Bool):∀as:List α,OM (as.map λa=>D.bl (f a))=some (as.map f)
 |[]=>rfl
 |a::as=>by show(OM<|as.map λa=>D.bl (f a)).map _=_;rw[Z8 f as];rfl
variable {st:Hg}
def nW{f:α->Bool}{as:List α}{n:Nat}(h:st[n]?=some (.lst<|as.map λa=>D.bl (f a))):Lx [.ref n] st=some (.bl (as.all f),st):=by unfold Lx;simp only[HZ,h,Ac,Z8,AL,List.all_map];rfl
def MH{mi:MI}{b:D->Bool}{as:List D}{fr:List Nat}{m:ME}{U0 U:Ii}{gd:List (Nat×List D)}(hw:mi U st=some (⟨as,gd⟩,st))(i:∀s,Gr st s->walked ⟨as,gd⟩ s=true)(j:IL U 1 fr=none::U0)(l:as.length<=10000)(h:∀a∈as,∀s,Gr st s->∃s1,m (some a::U0) s=some (.bl (b a),s1)/\Gr s s1):
  ∃d,Ho Lx (Hc (I0 mi 1 fr (Hl 0) IU m) mZ) U st=some (.bl (as.all b),d)/\Gr st d:=by
 obtain⟨s1,e,g⟩:=Za (W:=⟨as,gd⟩) (g:=Hl 0) (c:=IU) (m:=m) (f:=λx:D=>x) (h:=λa=>D.bl (b a)) (R:=λr=>∃x,r=x::U0) (as:=as) (U:=none::U0) (st:=st) ⟨none,rfl⟩ i (λa n r s o p=>by obtain⟨x,rfl⟩:=o;obtain⟨s1,e,g⟩:=h a n s p;exact⟨some a::U0,s1,rfl,rfl,e,g,_,rfl⟩)
 rw[List.map_id']at e;have fl:fits (as.map λa=>D.bl (b a)).length=true:=JK (by rw[Af];exact l);have q:I0 mi 1 fr (Hl 0) IU m U st=some (.ref s1.length,s1++[.lst (as.map λa=>D.bl (b a))]):=by rw[JH,hw];simp only[Ac];rw[j,e];simp only[Ac,fl,if_true]
 refine⟨_,?_,g.trans<|Gr.app s1 [.lst (as.map λa=>D.bl (b a))]⟩;simp only[Z4,Z5,ZI,q,Ac];exact nW<|Iq s1 _
section
variable {f:α->D}{p:α->PyData}
theorem dE{g:D->Option PyData}:∀{as:List α},(∀a∈as,g (f a)=some (p a))->Je g (as.map f)=some (as.map p)
 |[],_=>rfl
 |a::as,h=>by rw[An,Je,h a Ar,Ac,dE λx b=>h x (Al _ b)];rfl
theorem any_gen[DecidableEq α](c:∀a b,Bv (p a) (p b)=decide (a=b))(x:α):∀as:List α,(as.map p).any (λy=>Bv y (p x))=decide (x∈as)
 |[]=>rfl
 |y::as=>by rw[An,BV,any_gen c x as,c,Gp,Em,decide_eq_true_iff,decide_eq_true_iff,decide_eq_true_iff,A4];exact⟨λh=>h.imp Eq.symm id,λh=>h.imp Eq.symm id⟩
def PB[DecidableEq α](c:∀a b,Bv (p a) (p b)=decide (a=b)){x:α}{as:List α}(d:IC 50 st (f x)=some (p x))(h:∀a∈as,IC 49 st (f a)=some (p a)):J5 (f x) (.tup<|as.map f) st=some (.bl (decide (x∈as)),st):=by
 have e:IC 50 st (.tup<|as.map f)=some (.tuple<|as.map p):=by rw[IC,dE h];rfl
 unfold J5 JX inD;rw[d,e];simp only[Ac,Pu,AL,any_gen c,Kt];rfl
end
end L2.MP.Ce
namespace L2.MP.Hx
open PySem L2 L2.MP PySem.W PyProof.Rows
def MD(h:P3):Frag:=(Av h.objs.size).filterMap λa=>(h.get? a).map λo=>(a,o)
theorem Wf{g:Addr->Option Obj}(a:Addr):∀l:List Addr,(l.filterMap λb=>(g b).map λo=>(b,o)).lookup a=if a∈l then g a else none
 |[]=>rfl
 |b::l=>by
  rw[BY];by_cases h:a=b
  ·subst h;rw[if_pos Ar]
   cases c:g a with
   |none=>
    simp only[GB];rw[Wf a l,c];split<;>rfl
   |some o=>simp only[AL,A3,beq_self_eq_true]
  ·have e:(a==b)=false:=beq_false_of_ne h;have d:(if a∈b::l then g a else none)=if a∈l then g a else none:=by simp only[A4,h,false_or]
   rw[d,<-Wf a l];cases c:g b with
   |none=>simp only[GB]
   |some o=>simp only[AL,A3,e]
def eU(h:P3)(a:Addr):(MD h).lookup a=h.get? a:=by
 unfold MD;rw[Wf];split
 ·rfl
 ·rename_i b
  cases c:h.get? a with
  |none=>rfl
  |some o=>exact absurd (List.mem_range.mpr<|Ak c) b
def rH(h:P3):(MD h).In h:=λa o e=>(eU h a).symm.trans e
def QC(g:Addr->Option Obj)(ns:Addr)(x:Str):Option (Option IR):=match g ns with
 |some ⟨_,_,.dict a _,_⟩=>(match a.toList.find? (·.key.isStr x) with
   |some e=>some<|some e.val
   |none=>if a.toList.any (·.refKey)then none else some none)
 |_=>none
def iX(g:Addr->Option Obj)(cd:IR)(q:Str):Bool:=match cd with
 |.ref c=>(match g c with
   |some ⟨_,_,.fields a,_⟩=>(match a.toList with|_::.str n _::_=>n==q|_=>false)
   |_=>false)
 |_=>false
def YJ(g:Addr->Option Obj)(x:Str):Option (FuncData×Bool):=match QC g UV x with
 |some (some<|.ref f)=>(match g f with
   |some ⟨_,_,.func fd,_⟩=>some ({fd with kwdefaults:=.none,doc:=.none,pyModule:=.none,annotations:=none,code:=.none,closureTuple:=.none},iX g fd.code x)
   |_=>none)
 |_=>none
def YK(x:Str)(st:W1):Option (FuncData×Bool):=some (fnOf x x (LQ st) (Kw st) (Ja st) .none .none .none .none none .none .none,true)
def YM(v:Option (Option IR)):Option (Str⊕Int):=match v with
 |some (some<|.str s _)=>some<|.inl s
 |some (some<|.int i _)=>some<|.inr i
 |_=>none
def SK(K:Frag)(x:Str):Str⊕Int->Prop
 |.inl s=>∃t,nsIn K UV x=some (some<|.str s t)
 |.inr i=>∃t,nsIn K UV x=some (some<|.int i t)
variable {K:Frag}
def bA{f:Addr}{a:IR}{b:Option Addr}{fd:FuncData}{c:Array (Option IR)}(h:K.lookup f=some ⟨a,b,.func fd,c⟩):keepIn K (.ref f)=true:=by unfold keepIn;dsimp only;rw[h]
variable {x:Str}{st:W1}
def jC(e:YJ (K.lookup ·) x=YK x st):∃f,N7 K x st f:=by
 unfold YJ YK at e;cases a:QC (K.lookup ·) UV x with
 |none=>rw[a]at e;cases e
 |some v=>
  cases v with
  |none=>rw[a]at e;cases e
  |some v=>
   cases v with
   |ref f=>
    rw[a]at e;exists 11;cases c:K.lookup f with
    |none=>rw[c]at e;cases e
    |some o=>
     rw[c]at e;obtain⟨g,h,d,i⟩:=o;cases d with
     |func fd=>
      exists 11;obtain⟨a1,a2⟩:=Bt<|AA e;obtain⟨n,q,p,b,sc,gl,cl,j,l,m,pm,an,cd,r,s⟩:=fd;cases a1;exact⟨f,jB a c a2<|bA c⟩
     |_=>cases e
   |_=>rw[a]at e;cases e
def kA{c:Str⊕Int}(e:YM (QC (K.lookup ·) UV x)=some c):SK K x c:=by
 unfold YM at e;cases a:QC (K.lookup ·) UV x with
 |none=>rw[a]at e;cases e
 |some v=>
  cases v with
  |none=>rw[a]at e;cases e
  |some v=>
   rw[a]at e;cases v with
   |str s t=>cases e;exact⟨t,a⟩
   |int i t=>cases e;exact⟨t,a⟩
   |_=>cases e
structure Vf(K:Frag)(fns:List (Str×W1))(bl:List Str)(co:List (Str×(Str⊕Int))):Prop where
 fn:∀p∈fns,∃f,N7 K p.1 p.2 f
 bl:∀x∈bl,nsIn K UV x=some none
 co:∀c∈co,SK K c.1 c.2
theorem P7{α β:Type}{f g:α->β}:∀{l:List α},l.map f=l.map g->∀a∈l,f a=g a
 |[],_,a,h=>by cases h
 |b::l,e,a,h=>by
  obtain⟨c,d⟩:=List.cons.inj e;rcases Os.mp h with rfl|h
  ·exact c
  exact P7 d a h
def Zm(g:Addr->Option Obj)(fns:List (Str×W1))(a:List Str)(co:List (Str×(Str⊕Int))):List (Option<|FuncData×Bool)×List (Option<|Option IR)×List (Option<|Str⊕Int):=(fns.map λp=>YJ g p.1,a.map λx=>QC g UV x,co.map λc=>YM (QC g UV c.1))
def Sw(fns:List (Str×W1))(a:List Str)(co:List (Str×(Str⊕Int))):List (Option<|FuncData×Bool)×List (Option<|Option IR)×List (Option<|Str⊕Int):=(fns.map λp=>YK p.1 p.2,a.map λ_=>some none,co.map λc=>some c.2)
variable {bl:List Str}{co:List (Str×(Str⊕Int))}
def nE{fns:List (Str×W1)}(e:Zm (K.lookup ·) fns bl co=Sw fns bl co):Vf K fns bl co:=by obtain⟨b,a⟩:=Bt e;obtain⟨a,d⟩:=Bt a;exact⟨λp f=>jC (P7 b p f),λx g=>P7 a x g,λc h=>kA (P7 d c h)⟩
def Yz(K:Frag)(C:Addr)(x qual:Str):Option (FuncData×Bool×Bool):=match findIn K (.ref C) x with
 |some (some<|.ref f)=>(match K.lookup f with
   |some ⟨_,_,.func fd,_⟩=>some ({fd with kwdefaults:=.none,doc:=.none,pyModule:=.none,annotations:=none,code:=.none,closureTuple:=.none},codeIn K fd.code qual,isFn K (.ref f))
   |_=>none)
 |_=>none
def YA(x qual:Str)(st:W1):Option (FuncData×Bool×Bool):=some (fnOf x qual (LQ st) (Kw st) (Ja st) .none .none .none .none none .none .none,true,true)
def jO{C:Addr}{qual:Str}(e:Yz K C x qual=YA x qual st):∃f,ML K C x qual st f:=by
 unfold Yz YA at e;cases a:findIn K (.ref C) x with
 |none=>rw[a]at e;cases e
 |some v=>
  cases v with
  |none=>rw[a]at e;cases e
  |some v=>
   cases v with
   |ref f=>
    rw[a]at e;exists 11;cases c:K.lookup f with
    |none=>rw[c]at e;cases e
    |some o=>
     rw[c]at e;obtain⟨h,i,d,j⟩:=o;cases d with
     |func fd=>
      exists 11;obtain⟨a1,a2⟩:=Bt<|AA e;obtain⟨a2,g⟩:=Bt a2;obtain⟨n,q,p,b,sc,gl,cl,l,m,r,pm,an,cd,s,u⟩:=fd;cases a1;exact⟨f,jN a g c a2<|bA c⟩
     |_=>cases e
   |_=>rw[a]at e;cases e
structure N5(K:Frag)(C:Addr)(c:Str)(ms:List (Str×Str×W1))(no:List Str):Prop where
 cl:SM K c C
 md:∀m∈ms,∃f,ML K C m.1 m.2.1 m.2.2 f
 no:∀x∈no,findIn K (.ref C) x=some none
noncomputable abbrev YY:=Option ((Bool×Option (Option IR))×List (Option<|FuncData×Bool×Bool)×List (Option<|Option IR))
def YN(K:Frag)(c:Str)(ms:List (Str×Str×W1))(no:List Str):YY:=match nsIn K UV c with
 |some (some<|.ref C)=>some ((plainGet K C Fv&&hasDictIn K C&&plainOver K C&&makesIn K C&&keepIn K (.ref C),findIn K (.ref C) "__setattr__"),ms.map λm=>Yz K C m.1 m.2.1,no.map λx=>findIn K (.ref C) x)
 |_=>none
def YO(ms:List (Str×Str×W1))(no:List Str):YY:=some ((true,some (some<|.builtin "object.__setattr__")),ms.map λm=>YA m.1 m.2.1 m.2.2,no.map λ_=>some none)
variable {c:Str}{ms:List (Str×Str×W1)}{no:List Str}
def jZ(e:YN K c ms no=YO ms no):∃C,N5 K C c ms no:=by
 unfold YN YO at e;cases a:nsIn K UV c with
 |none=>rw[a]at e;cases e
 |some v=>
  cases v with
  |none=>rw[a]at e;cases e
  |some v=>
   cases v with
   |ref C=>
    rw[a]at e;exists 11;obtain⟨a1,a2⟩:=Bt<|AA e;obtain⟨a2,d⟩:=Bt a2;obtain⟨b,f⟩:=Bt a1;simp only[Aq]at b;obtain⟨⟨⟨⟨b1,g⟩,h⟩,i⟩,j⟩:=b;exact⟨C,jY a b1 g h f i j,λm hm=>jO (P7 a2 m hm),λx l=>P7 d x l⟩
   |_=>rw[a]at e;cases e
def OJ(fns:List (Str×W1))(bl:List Str)(co:List (Str×(Str⊕Int)))(c:Str)(ms:List (Str×Str×W1))(no:List Str):Hook where
 α:=(List (Option<|FuncData×Bool)×List (Option<|Option IR)×List (Option<|Str⊕Int))×YY
 obs s:=(Zm s.heap.get? fns bl co,YN (MD s.heap) c ms no)
 val _:=(Sw fns bl co,YO ms no)
 says _ h:=∃(K:Frag) (C:Addr),K.In h/\Vf K fns bl co/\N5 K C c ms no
 of w s e:=by obtain⟨x,d⟩:=Bt e;obtain⟨C,f⟩:=jZ d;exact⟨MD s.heap,C,rH _,nE (by rw[funext (eU s.heap)];exact x),f⟩
 keeps w h h':=λ⟨K,C,a,b⟩ k=>⟨K,C,a.keeps k,b⟩
def LU{l:OpenLaw}{n k:Nat}{q:SZ}{loose:List Str}{XP:(Str->Option IR)->P3->Prop}{fns:List (Str×W1)}{d:DefRec}{CX:N8}{sp:Frag->Addr->Sp}(hn:l.most=some n) (j:n<=sizeLine) (m:d.params.defaults=[]) (r:HP k callerA)(F:∀(K:Frag) (C:Addr) (w:World) (g:Str->Option IR) (i:Addr) (h:P3),Vf K fns bl co->N5 K C c ms no->K.In h->h.Ns UV g->g d.name=some (.ref i) ->
   ∃fd:FuncData,(∀(s:Shared) (u:IR),BindsTo s fd ⟨[u],[]⟩ [(x,u)])/\∀base:P3,K.In base->base.Ns UV g->Jj l.prog w K g base CX k i fd [x] (sp K C))
  (o:∀(K:Frag) (C:Addr) (H:Hp) (a:Addr) (ns:List Int),ns.length<=n->MJ H->JT K H a (ns.map V.int)->sp K C [.ref a] H (λv _=>v=.bl true) λ_ _ _=>False)
  (p:∀(H:Hp) (s:Shared) (e:IR) (s':Shared),CX [] H s (λ_ _ _=>False) e s'->False):
  WalkO q loose XP (OJ fns bl co c ms no).says l.row.toRowW d [] (λf vs=>Gk f vs):=by
 intro w s₀ s₁ g z G Y;obtain⟨K,C,A,B,E⟩:=Y;exact L2.NK (K:=λ_=>K) (CX:=λ_=>CX) (sp:=λ_=>sp K C) (YP:=λ_ h=>K.In h) hn j m r (λ_ _ y=>y) (λw g i h a b e=>F K C w g i h B E a b e) (λ_ H a ns I J L=>o K C H a ns I J L) (λ_ H s e s'=>p H s e s') w s₀ s₁ g z G A
end L2.MP.Hx
namespace L2.MP
open PySem L2 PySem.W PyProof.Rows
variable {K:Frag}{mg:Str->Option IR}{bl ps:List Str}{co:List (Str×(Str⊕Int))}{h base:P3}{x qual:Str}{st:W1}{P:SZ}{w:World}{k:Nat}{m:MS}
section
variable {fns:List (Str×W1)}
structure En(K:Frag)(mg:Str->Option IR)(fns:List (Str×W1))(bl:List Str)(co:List (Str×(Str⊕Int))):Prop where
 b:∀x∈bl,mg x=none
 c:∀c∈co,match c.2 with
  |.inl s=>∃t,mg c.1=some (.str s t)
  |.inr i=>∃t,mg c.1=some (.int i t)
 l:∀p∈fns,∃f,N7 K p.1 p.2 f/\mg p.1=some (.ref f)
def En.of(A:Hx.Vf K fns bl co)(X:K.In h)(G:h.Ns UV mg):En K mg fns bl co:=by
 refine⟨λx m=>mg_none_of X G (A.bl x m),λc w=>?_,λp P=>?_⟩
 ·have q:=A.co c w;obtain⟨x,c⟩:=c
  cases c with
  |inl s=>obtain⟨t,q⟩:=q;exact⟨t,mg_of X G q⟩
  |inr i=>obtain⟨t,q⟩:=q;exact⟨t,mg_of X G q⟩
 obtain⟨f,q⟩:=A.fn p P;exact⟨f,q,mg_of X G q.ns⟩
def En.b1(Z:En K mg fns bl co)(h:x∈bl:=by decide +kernel):mg x=none:=Z.b x h
def QB(N ps:List Str)(sc:Scope):Bool:=decide (sc.kind=.function)&&decide (sc.isCoroutine=false)&&decide (sc.isGenerator=false)&&decide N.Nodup&&decide (N.take ps.length=ps)&&ps.all (λx=>decide (sc.names.lookup x=some .local\/sc.names.lookup x=some .cell))&&sc.names.all λy=>decide (y.2≠.free)
def Od{N:List Str}{sc:Scope}(h:QB N ps sc=true):IQ N ps sc:=by unfold QB at h;simp only[Aq,decide_eq_true_eq,Ec]at h;obtain⟨⟨⟨⟨⟨⟨a,b⟩,c⟩,d⟩,e⟩,f⟩,g⟩:=h;exact⟨a,b,c,d,e,f,g⟩
noncomputable abbrev iW (x:Str) (st:W1) (ps:List Str):Prop:=∀(kV doc pm:IR) (an:Option Addr) (h m:IR) (us:List IR),us.length=ps.length->bindArgs (Bw x x (LQ st) (Kw st) (Ja st) .none kV doc pm an h m) ⟨us,[]⟩=pure (ps.zip us)
def En.laid{i:Nat}(Z:En K mg fns bl co)(hi:fns[i]?=some (x,st))(b:iW x st ps):Laid K mg x st ps:=by obtain⟨f,F,hm⟩:=Z.l _<|AG hi;obtain⟨⟨h,m,kV,w,pm,an,cd,P,d,l,c⟩,a,k⟩:=F;exact⟨_,_,O5 l c k,hm,(O5 l c k).binds b⟩
def Ju(Z:En K mg fns bl co)(st:W1)(i:Nat)(N ps:List Str)(a:N.Nodup->∀(f:Addr) (c:IR) (A:Around) (outer:List Env) (s:Shared) (H:Hp) (E:XK),HP k (A.deeper<|envOfC x (Ja st) s.heap.objs.size f c) ->
   KL (JR KG P w K mg base N x (Ja st) f c A outer s H E).nox (Kw st) m) (hi:fns[i]?=some (x,st):=by rfl)
  (S:QB N ps (Ja st)=true:=by decide +kernel) (b:iW x st ps:=by intro _ _ _ _ _ _;first|exact NV λ_=>rfl|exact NU λ_ _=>rfl|exact NT λ_ _ _=>rfl|exact NR λ_ _ _ _=>rfl|exact YB λ_ _ _ _ _=>rfl):Jl P w K mg base (k+1) x ps.length (Iv N.length m):=
 oE (Z.laid hi b) (Od S) (a (Od S).nd)
def jF{f:Addr}{fd:FuncData}(F:Mm K x qual st f fd)(N ps:List Str)(a:N.Nodup->∀(b:IR) (A:Around) (outer:List Env) (s:Shared) (H:Hp) (E:XK),HP k (A.deeper<|envOfC qual (Ja st) s.heap.objs.size f b) ->
   KL (JR KG P w K mg base N qual (Ja st) f b A outer s H E).nox (Kw st) m) (S:QB N ps (Ja st)=true:=by decide +kernel):Jj P w K mg base KG (k+1) f fd ps (Mw K ps.length<|Iv N.length m):=NX F (Od S) (a (Od S).nd)
end
variable {X:Cx}{e:Pv}{pos pos':Pos}{g:GN}{T:String}
section
variable {es:List Pv}{m:ME}{mm:MA}{p p2:Pos}{y:Str}
def sgn(i:Nat)(a:X.N.Nodup)(hi:X.N[i]?=some x:=by rfl)(b:Loc X.env.scope x:=by first|exact Bl rfl|exact Bf rfl)(hf:X.fn x=true\/X.env.scope.names.lookup x=some .local:=by first|exact .inl rfl|exact .inr rfl|assumption):SG X (.Name x pos) (Hl i):=uH a hi b hf
def Ij(i:Nat)(a:X.N.Nodup)(he:SE X e m)(hi:X.N[i]?=some x:=by rfl)(b:Loc X.env.scope x:=by first|exact Bl rfl|exact Bf rfl)(c:swapsWith e (some<|.Name x pos') pos.line X.env=pure false:=by rfl)(hf:X.fn x=true\/X.env.scope.names.lookup x=some .local:=by first|exact .inl rfl|exact .inr rfl|assumption):SS X (.Assign [.Name x pos'] e pos) (Hr m<|Hl i):=oF a hi b he c hf
def HQ{j n:Nat}(F:Jl X.prog X.w X.K X.mg X.base k x n g)(c:HP j X.A)(d:SA X (e::es) mm)(f:k<=j:=by decide)(i:Gl X x:=by rfl)(l:J8 n mm:=by repeat (first|exact J8.nil|refine J8.cons ?_))(a:(x==("__debug__":Str))=false:=by decide)(he:Qqb X.env e es:=by rfl) (b:Qqc pos es X.env:=by rfl) (hn:(e::es).length=n:=by rfl):SE X (.Call (.Name x p) (e::es) [] pos) (Ho g mm):=xU F (c.mono f) i d l a he b hn
variable {fns:List (Str×W1)}
def Pz(Z:En X.K X.mg fns bl co)(l:SE X e m)(n:UF y=some (.type T))(o:T∈kinds:=by decide)(q:Gl X "isinstance":=by rfl)(hm:("isinstance":Str)∈bl:=by decide +kernel)(a:Gl X y:=by rfl)(c:y∈bl:=by decide +kernel)(d:y≠"__name__":=by decide)(f:(y==("__debug__":Str))=false:=by decide)(r:starEach [e,.Name y p2] X.env=(false,Wp e X.env)::starEach [.Name y p2] X.env:=by rfl) (i:starEach [.Name y p2] X.env=[(false,Wp (.Name y p2) X.env)]:=by rfl) (j:(backTo pos<|starEach [.Name y p2] X.env).any (·.1)=false:=by rfl):SE X (.Call (.Name "isinstance" p) [e,.Name y p2] [] pos) (LY T m):=
 pF (x:="isinstance") o q (Z.b _ hm) l a (Z.b _ c) n d f r i j
def Ke{id:String}(Z:En X.K X.mg fns bl co)(d:Jz X (.builtin id) g)(f:UF x=some (.builtin id))(i:SA X (e::es) mm)(j:Gl X x:=by rfl)(hm:x∈bl:=by decide +kernel)(hn:x≠"__name__":=by decide)(a:(x==("__debug__":Str))=false:=by decide)(he:Qqb X.env e es:=by rfl) (c:Qqc pos es X.env:=by rfl):SE X (.Call (.Name x p) (e::es) [] pos) (Ho g mm):=xT d j (Z.b _ hm) f i hn a he c
def KY(Z:En X.K X.mg fns bl co)(d:Jz X (.type T) g)(f:UF x=some (.type T))(i:SA X (e::es) mm)(j:Gl X x:=by rfl)(hm:x∈bl:=by decide +kernel)(hn:x≠"__name__":=by decide)(a:(x==("__debug__":Str))=false:=by decide)(he:Qqb X.env e es:=by rfl) (c:Qqc pos es X.env:=by rfl):SE X (.Call (.Name x p) (e::es) [] pos) (Ho g mm):=zQ d j (Z.b _ hm) f i hn a he c
def cS{scope:Scope}(N':List Str)(nt:Nat)(fr:List Nat)(fs:List Str)(kind:scope.kind=.function:=by rfl)(b:(scope.names.map (·.1)).Nodup:=by decide +kernel)(hf:scope.names.all (λp=>!(p.2==AI) || fs.contains p.1)=true:=by decide +kernel)(c:fs.all (λx=>scope.names.contains (x,AI))=true:=by decide +kernel) (len:N'.length=nt+fr.length:=by rfl) (a:L9 X fs fr (N'.drop nt):=by trivial) (out:L7 X fs:=by trivial):JV X scope N' nt fr:=Ln fs kind b hf c len a out
end
section
variable {C:Addr}{c:Str} {ms:List (Str×Str×W1)} {no:List Str}
structure EC(K:Frag)(mg:Str->Option IR)(C:Addr)(c:Str)(ms:List (Str×Str×W1))(no:List Str):Prop where
 cl:LB K C
 mi:makesIn K C=true
 kc:keepIn K (.ref C)=true
 mc:mg c=some (.ref C)
 m:∀p∈ms,∃f,ML K C p.1 p.2.1 p.2.2 f
 n:∀x∈no,Nq K C x
def EC.of(B:Hx.N5 K C c ms no)(X:K.In h)(G:h.Ns UV mg):EC K mg C c ms no:=⟨B.cl.cl,B.cl.ms,B.cl.kc,mg_of X G B.cl.ns,B.md,B.no⟩
noncomputable abbrev SN (x qual:Str) (st:W1) (ps:List Str):Prop:=∀(kV doc pm:IR) (an:Option Addr) (c e:IR) (us:List IR),us.length=ps.length->bindArgs (Bw x qual (LQ st) (Kw st) (Ja st) .none kV doc pm an c e) ⟨us,[]⟩=pure (ps.zip us)
def Qk(Q:EC K mg C c ms no)(st:W1)(i:Nat)(N ps:List Str)(hbody:N.Nodup->∀(f:Addr) (a:IR) (A:Around) (outer:List Env) (s:Shared) (H:Hp) (E:XK),HP k (A.deeper<|envOfC qual (Ja st) s.heap.objs.size f a) ->
   KL (JR KG P w K mg base N qual (Ja st) f a A outer s H E).nox (Kw st) m) (hi:ms[i]?=some (x,qual,st):=by rfl)
  (S:QB N ps (Ja st)=true:=by decide +kernel) (b:SN x qual st ps:=by intro _ _ _ _ _ _;first|exact NV λ_=>rfl|exact NU λ_ _=>rfl|exact NT λ_ _ _=>rfl|exact NR λ_ _ _ _=>rfl):M3 P w K mg base (k+1) C x ps.length (Iv N.length m):=by
 obtain⟨f,F⟩:=Q.m _<|AG hi;exact tN (wL F b) (Od S)<|hbody (Od S).nd
def vK(Q:EC K mg C c ms no)(st:W1)(i:Nat)(N ps:List Str)(hbody:N.Nodup->∀(f:Addr) (d:IR) (A:Around) (outer:List Env) (s:Shared) (H:Hp) (E:XK),HP k (A.deeper<|envOfC qual (Ja st) s.heap.objs.size f d) ->
   KL (JR KG P w K mg base N qual (Ja st) f d A outer s H E).nox (Kw st) m) (hi:ms[i]?=some (("__init__":Str),qual,st):=by rfl)
  (S:QB N ps (Ja st)=true:=by decide +kernel) (b:SN "__init__" qual st ps:=by intro _ _ _ _ _ _;first|exact NV λ_=>rfl|exact NU λ_ _=>rfl|exact NT λ_ _ _=>rfl|exact NR λ_ _ _ _=>rfl):Tt P w K mg base (k+1) C c ps.length (Iv N.length m):=by
 obtain⟨f,⟨g,h,kV,x,pm,an,cd,T,X,l,e⟩,a,i,k⟩:=Q.m _<|AG hi;have L:Zt K mg C c "__init__" qual st ps:=⟨_,_,O5 l e k,⟨Q.mi,a,i,Q.kc⟩,(O5 l e k).binds b,Q.mc⟩
 exact tM L (Od S)<|hbody (Od S).nd
variable {o value:Pv}{m mo mv:ME}{f:Str}
def Jx(Q:EC X.K X.mg C c ms no)(a:SE X e m)(hm:f∈no:=by decide +kernel)(b:attributeBase e f X.env (Wp e X.env)=Wp e X.env:=by rfl):SE X (.Attribute e f pos) (HE C f m):=pD Q.cl (Q.n _ hm) a b
def QV(Q:EC X.K X.mg C c ms no)(a:SE X o mo)(b:SE X value mv)(hm:f∈no:=by decide +kernel)(d:swapsWith value (some<|.Attribute o f pos') pos.line X.env=pure false:=by rfl):SS X (.Assign [.Attribute o f pos'] value pos) (LD C f mo mv):=pQ Q.cl (Q.n _ hm) a b d
end
end L2.MP
namespace L2.MP.Hx
open PySem L2 L2.MP PySem.W PyProof.Rows
end L2.MP.Hx
namespace L2.MP
open PySem L2 PySem.W PyProof.Rows Hx
end L2.MP
namespace L2.MP.Hx
open PySem L2 L2.MP PySem.W PyProof.Rows
end L2.MP.Hx
namespace L2.MP
open PySem L2 PySem.W PyProof.Rows
end L2.MP
namespace L2.MP.T0
open PySem L2.MP L2.MP.Hd
def WW:MS:=mR (OY (LY "int"<|mV 0)<|OY (Td<|LY "bool"<|mV 0)<|M4 QD QD (mV 1) (mV 0)<|mV 2)
def RC:GN:=Iv 3 WW
def fE:MS:=mR (OY (LY "tuple"<|mV 0)<|mB KC (Ho HM<|Hc (mV 0)<|mZ)<|mV 1)
def WZ:GN:=Iv 2 fE
def WV:MS:=mS (Hr (mB Hf (mV 0)<|mK<|.int 1)<|Hl 2)<|mR<|OY (Ho WZ<|Hc (mV 1)<|Hc (mK<|.int 2)<|mZ)<|OY (Ho RC<|Hc (mB Hf (mV 1)<|mK<|.int 0)<|Hc (mK<|.int 0)<|Hc (mB K6 (mB Hf (mV 2)<|mK<|.int 0)<|mK<|.int 1)<|mZ)<|Ho RC<|Hc (mB Hf (mV 1)<|mK<|.int 1)<|Hc (mK<|.int 0)<|Hc (mB K6 (mB Hf (mV 2)<|mK<|.int 1)<|mK<|.int 1)<|mZ
def NI:GN:=Iv 3 WV
def Xv:MS:=mS (Hr (Jp (mV 3) K1<|K2<|mK<|.int 2)<|Hl 4)<|mS (IX (Mz (mT<|mB J5 (mV 4)<|mV 2)<|MU<|mT<|Ho NI<|Hc (mV 0)<|Hc (mV 4)<|mZ) (mR<|mK<|.bl false)<|Jd)<|mS (Hr (Ho Qr<|Hc (mV 0)<|Hc (mV 2)<|Hc (mV 4)<|mZ)<|Hl 5)<|mR<|mB L1 (Ho Po<|Hc (mV 1)<|Hc (Ho Qq<|Hc (mV 0)<|Hc (mB Hf (mV 3)<|mK<|.int 2)<|mZ)<|Hc (mV 5)<|mZ)<|mB Hf (mB Hf (mV 0)<|mK<|.int 0)<|mK<|.int 0
def OC:GN:=Iv 6 Xv
def Qw:MS:=IX (mT<|mB L1 (Ho Po<|Hc (mV 1)<|Hc (Jp (mV 7) (K2<|mK<|.int 1)<|K1)<|Hc (mV 2)<|mZ)<|mB Hf (mV 4)<|mK<|.int 0) (IJ<|J4 (mV 5)<|Hc (mU<|Hc (mB Hf (mV 3)<|mK<|.int 0)<|Hc (mB Hf (mV 3)<|mK<|.int 1)<|Hc (mV 6)<|mZ)<|mZ)<|Jd
def Xn:MS:=mS (Hr (mB Hf (mV 0)<|mK<|.int 0)<|Hl 4)<|mS (Hr (mL<|mZ)<|Hl 5)<|mS (IX (MU<|mT<|Ho MF<|Hc (mV 2)<|mZ) (mR<|mV 5)<|Jd)<|mS (mF (PQ<|mB Hf (mV 4)<|mK<|.int 2) (JY 2<|gC (Hl 6)<|gC (Hl 7)<|JZ)<|Qw)<|mR<|mV 5
def UI:GN:=Iv 8 Xn
def Pg(C:Addr):MS:=mS (IJ<|Oa (HE C "ready"<|mV 0) (mV 1)<|mK .non) (IX (J9 (mT<|mB Kx (mV 1)<|HE C "kinds"<|mV 0)<|mT<|Ho NI<|Hc (HE C "bed"<|mV 0)<|Hc (mV 1)<|mZ) (mS (Hr (Ho Qr<|Hc (HE C "bed"<|mV 0)<|Hc (HE C "kinds"<|mV 0)<|Hc (mV 1)<|mZ)<|Hl 2)<|mS (Hr (Ho UI<|Hc (HE C "bed"<|mV 0)<|Hc (HE C "strengths"<|mV 0)<|Hc (mV 2)<|Hc (mV 1)<|mZ)<|Hl 3)<|IX (J3<|mV 3) (Ji (HE C "ready"<|mV 0) (mV 1)<|mV 3)<|Jd)<|Jd)
def Ng(C:Addr):GN:=Iv 4<|Pg C
def UX(C:Addr):MS:=IJ (Lh C "look_at" (Ng C) (mV 0)<|Hc (mU<|Hc (mV 2)<|Hc (mV 3)<|mZ)<|mZ)
def UY(C:Addr):MS:=mF (IW<|mB Hf (mB Hf (mV 1)<|mK<|.int 1)<|mK<|.int 1) (Hl 3)<|UX C
def iA(C:Addr):MS:=mS (LD C "bed" (mV 0)<|mV 1) (mS (LD C "strengths" (mV 0)<|Ho OP<|Hc (mB Hf (mB Hf (mV 1)<|mK<|.int 0)<|mK<|.int 1)<|mZ)<|mS (LD C "kinds" (mV 0)<|Ho Qz<|Hc (mB Hf (mV 1)<|mK<|.int 2)<|mZ)<|mS (LD C "laid" (mV 0)<|mL<|mZ)<|mS (LD C "ready" (mV 0)<|OZ true)<|mF (IW<|mB Hf (mB Hf (mV 1)<|mK<|.int 1)<|mK<|.int 0) (Hl 2)<|UY C)
def U8(C:Addr):GN:=Iv 4<|iA C
def UR(C:Addr):MS:=IJ (Lh C "look_at" (Ng C) (mV 0)<|Hc (mV 2)<|mZ)
def iJ(C:Addr):MS:=mS (IJ<|Lh C "look_at" (Ng C) (mV 0)<|Hc (mV 1)<|mZ) (mF (Jb<|Ho Mj<|Hc (mV 1)<|mZ) (Hl 2)<|UR C)
def RY(C:Addr):GN:=Iv 3<|iJ C
def fC(C:Addr):MS:=mS (IJ<|J4 (HE C "laid"<|mV 0)<|Hc (mV 1)<|mZ) (mS (Ji (HE C "kinds"<|mV 0) (Jp (mV 1) K1<|K2<|mK<|.int 2)<|mB Hf (mV 1)<|mK<|.int 2)<|IJ<|Lh C "look_around" (RY C) (mV 0)<|Hc (Jp (mV 1) K1<|K2<|mK<|.int 2)<|mZ)
def Qp(C:Addr):GN:=Iv 2<|fC C
def WN(C:Addr):MS:=mS (IX (MU<|OS<|HE C "ready"<|mV 0) (mR<|mK .non)<|Jd) (mS (Hr (mB Hf (mB Hf (HE C "ready"<|mV 0)<|Ho OT<|Hc (HE C "ready"<|mV 0)<|mZ)<|mK<|.int 0)<|Hl 1)<|mS (IJ<|Lh C "lay" (Qp C) (mV 0)<|Hc (mV 1)<|mZ)<|mR<|mV 1)
def Pc(C:Addr):GN:=Iv 2<|WN C
def iB(C:Addr):MS:=mR (Ho Ll<|Hc (Ho Nx<|Hc (mB HF (Ho OX<|Hc (mB Hf (HE C "bed"<|mV 0)<|mK<|.int 2)<|mZ)<|HE C "laid"<|mV 0)<|mZ)<|mZ)
def U9(C:Addr):GN:=Iv 1<|iB C
def fD(C:Addr):MS:=mR (Ho Ll<|Hc (HE C "laid"<|mV 0)<|mZ)
def UD(C:Addr):GN:=Iv 1<|fD C
def UL(C:Addr):MT:=mT (mB Th (Lh C "on" (Pc C) (mV 1) mZ)<|mK .non)
def XN(C:Addr):MS:=Jd
def gH(C:Addr):MS:=mS (Hr (QP C (U8 C)<|Hc (mV 0)<|mZ)<|Hl 1) (mS (IS (UL C) (XN C) 1000)<|mR<|mU<|Hc (Lh C "row" (UD C) (mV 1) mZ)<|Hc (Lh C "standing" (U9 C) (mV 1) mZ)<|mZ)
def W6(C:Addr):GN:=Iv 2<|gH C
def UH:ME:=mV 0
def RT:MT:=mT<|mB J5 (mV 0)<|mV 1
def RU:MT:=J3<|mV 6
def OD:MS:=mS (Hr (Vk<|mV 6)<|Hl 7)<|mS (Hr (mU<|Hc (mB Hf (mV 7)<|mK<|.int 0)<|Hc (mB Hf (mV 7)<|mK<|.int 1)<|Hc (mB Hf (mV 4)<|mV 7)<|mZ)<|Hl 8)<|IX (mT<|Ho OC<|Hc (mV 0)<|Hc (mV 2)<|Hc (mV 3)<|Hc (mV 8)<|mZ) (mS (IJ<|J4 (mV 5)<|Hc (mV 8)<|mZ)<|mS (Ji (mV 3) (mV 7)<|mB Hf (mV 4)<|mV 7)<|IJ<|Pw (mV 6)<|Hc (I0 (Jb<|Ho Mj<|Hc (mV 7)<|mZ) 1 [4] (Hl 0) RT<|UH)<|mZ)<|Jd
def gJ:MS:=mS (Hr (Ho OP<|Hc (mB Hf (mB Hf (mV 0)<|mK<|.int 0)<|mK<|.int 1)<|mZ)<|Hl 2)<|mS (Hr (Ho Qz<|Hc (mB Hf (mV 0)<|mK<|.int 2)<|mZ)<|Hl 3)<|mS (Hr (Ho Qz<|Hc (mV 1)<|mZ)<|Hl 4)<|mS (Hr (mL<|mZ)<|Hl 5)<|mS (Hr (Ho OX<|Hc (mV 4)<|mZ)<|Hl 6)<|mS (IS RU OD 1000)<|mR<|Ho Ll<|Hc (mV 5)<|mZ
def W8:GN:=Iv 9 gJ
def gL:MS:=mR<|mU<|Hc (mB Hf (mV 0)<|mK<|.int 0)<|Hc (mB Hf (mV 0)<|mK<|.int 1)<|Hc (Ho Ll<|Hc (Ho Nx<|Hc (mV 1)<|mZ)<|mZ)<|mZ
def W9:GN:=Iv 2 gL
def Z3:MS:=mR<|Ho Ll<|Hc (Ho Nx<|Hc (mB N1 (mB Hf (mV 0)<|mK<|.int 2)<|Ho W8<|Hc (mV 0)<|Hc (mV 1)<|mZ)<|mZ)<|mZ
def TL:GN:=Iv 2 Z3
def fF(C:Addr):ME:=mV 0
def W0(C:Addr):MT:=mT<|mB Kx (mV 0)<|mV 1
def bS(C:Addr):MS:=mS (Hr (Ho TL<|Hc (mV 0)<|Hc (mV 1)<|mZ)<|Hl 2)<|mS (Hr (Ho Ll<|Hc (I0 (Jb<|mV 1) 1 [2] (Hl 0) (W0 C)<|fF C)<|mZ)<|Hl 3)<|mR<|mU<|Hc (mV 3)<|Hc (mB Hf (Ho (W6 C)<|Hc (Ho W9<|Hc (mV 0)<|Hc (mV 2)<|mZ)<|mZ)<|mK<|.int 0)<|mZ
def Rr(C:Addr):GN:=Iv 4<|bS C
def Qy:ME:=mB HF (mV 0)<|mU<|Hc (mB Nn (mV 1)<|mV 0)<|mZ
def iF:MS:=mR<|Ho Ll<|Hc (Ho Nx<|Hc (QR 0<|I0 (OI<|mV 0) 1 [0] (Hl 0) IU<|Qy)<|mZ)<|mZ
def OH:GN:=Iv 1 iF
def RO:ME:=mV 0
def Pl:MT:=mT<|mB J5 (Ho NH<|Hc (mU<|Hc (mV 1)<|Hc (mV 2)<|mZ)<|Hc (mV 0)<|mZ)<|mV 3
def RS:MS:=mS (Hr (I0 (IW<|mK<|.int 4) 1 [3,4,1] (Hl 0) Pl<|RO)<|Hl 5)<|IX (J9 (mT<|mB Kx (mU<|Hc (mV 3)<|Hc (mV 4)<|mZ)<|mV 1)<|mT<|mB IY (mV 5)<|mL<|mZ) (IJ<|J4 (mV 2)<|Hc (mU<|Hc (mV 3)<|Hc (mV 4)<|mZ)<|mZ)<|Jd
def XM:MS:=mF (IW<|mB Hf (mB Hf (mV 0)<|mK<|.int 1)<|mK<|.int 1) (Hl 4)<|RS
def gT:MS:=mS (Hr (mL<|mZ)<|Hl 2)<|mS (mF (IW<|mB Hf (mB Hf (mV 0)<|mK<|.int 1)<|mK<|.int 0) (Hl 3)<|XM)<|mR<|mV 2
def UJ:GN:=Iv 6 gT
def Qx:MS:=IX (mT<|mB L1 (Ho Nf<|Hc (mV 0)<|Hc (mV 1)<|Hc (mV 3)<|Hc (mV 4)<|mZ)<|mB Hf (mB Hf (mV 0)<|mK<|.int 0)<|mK<|.int 0) (IJ<|J4 (mV 2)<|Hc (mB HF (mV 3)<|mU<|Hc (mV 4)<|mZ)<|mZ)<|Jd
def UK:MS:=mF (IW<|Ho HM<|Hc (mB Hf (mB Hf (mV 0)<|mK<|.int 0)<|mK<|.int 2)<|mZ) (Hl 4)<|Qx
def gI:MS:=mS (Hr (mL<|mZ)<|Hl 2)<|mS (mF (Jb<|Ho UJ<|Hc (mV 0)<|Hc (mV 1)<|mZ) (Hl 3)<|UK)<|mR<|mV 2
def Nc:GN:=Iv 5 gI
def Pj:MS:=mS (Hr (Ho Nc<|Hc (mV 1)<|Hc (mV 3)<|mZ)<|Hl 6)<|IX (mT<|mB IY (mV 6)<|mL<|mZ) (mS (Hr (mB Hf (mV 6)<|Ho Il<|Hc (mV 0)<|Hc (Ho HM<|Hc (mV 6)<|mZ)<|mZ)<|Hl 7)<|mS (Ji (mV 3) (Jp (mV 7) K1<|K2<|mK<|.int 2)<|mB Hf (mV 7)<|mK<|.int 2)<|IJ<|J4 (mV 4)<|Hc (mV 7)<|mZ)<|Jd
def fN:MS:=mS (NP 3 4<|Hc (Ho NJ<|Hc (mB Hf (mV 1)<|mK<|.int 2)<|mZ)<|Hc (mL<|mZ)<|mZ)<|mS (mF (IW<|mV 2) (Hl 5)<|Pj)<|mR<|Ho Ll<|Hc (mV 4)<|mZ
def UN:GN:=Iv 8 fN
def UT:MS:=Ji (mV 2) (Jp (mV 3) K1<|K2<|mK<|.int 2)<|mB Hf (mV 3)<|mK<|.int 2
def UU:MS:=mS (Hr (Ho Qm<|Hc (mV 2)<|mZ)<|Hl 5)<|mS (Hr (Ho Il<|Hc (mV 0)<|Hc (mK<|.int 4)<|mZ)<|Hl 6)<|mS (Hr (mU<|Hc (Ho Il<|Hc (mV 0)<|Hc (mB Hf (mB Hf (mV 1)<|mK<|.int 1)<|mK<|.int 0)<|mZ)<|Hc (Ho Il<|Hc (mV 0)<|Hc (mB Hf (mB Hf (mV 1)<|mK<|.int 1)<|mK<|.int 1)<|mZ)<|mZ)<|Hl 7)<|mS (IX (J9 (mT<|mB Nj (mV 6)<|mK<|.int 0)<|mT<|mB IY (mV 5)<|mL<|mZ) (Hr (mB Hf (mV 5)<|Ho Il<|Hc (mV 0)<|Hc (Ho HM<|Hc (mV 5)<|mZ)<|mZ)<|Hl 7)<|Jd)<|IX (J9 (mT<|mB KC (mV 6)<|mK<|.int 3)<|mT<|mB J5 (mV 7)<|mV 2) (IJ<|QQ (mV 2)<|mV 7)<|Ji (mV 2) (mV 7)<|Ho Il<|Hc (mV 0)<|Hc (Ho HM<|Hc (mB Hf (mB Hf (mV 1)<|mK<|.int 0)<|mK<|.int 2)<|mZ)<|mZ
def iE:MS:=mS (Hr (Ho NJ<|Hc (mB Hf (mV 1)<|mK<|.int 2)<|mZ)<|Hl 2)<|mS (mF (Jb<|Ho UN<|Hc (mV 0)<|Hc (mV 1)<|Hc (mK<|.int 12)<|mZ) (Hl 3)<|UT)<|mS (mF (IW<|Ho Il<|Hc (mV 0)<|Hc (mK<|.int 6)<|mZ) (Hl 4)<|UU)<|mR<|Ho OH<|Hc (mV 2)<|mZ
def RN:GN:=Iv 8 iE
def Mt:MS:=IX (J9 (mT<|mB IY (mU<|Hc (mV 5)<|Hc (mV 6)<|mZ)<|mV 2)<|J9 (mT<|mB Kx (mU<|Hc (mV 5)<|Hc (mV 6)<|mZ)<|mV 3)<|mT<|mB L1 (Ho Nf<|Hc (mV 0)<|Hc (mV 3)<|Hc (mU<|Hc (mV 5)<|Hc (mV 6)<|mZ)<|Hc (mV 7)<|mZ)<|mB Hf (mB Hf (mV 0)<|mK<|.int 0)<|mK<|.int 0) (mS (Ji (mV 3) (mU<|Hc (mV 5)<|Hc (mV 6)<|mZ)<|mV 7)<|Hr (mK<|.bl true)<|Hl 4)<|Jd
def U4:MT:=J3<|mV 4
def UZ:MS:=mS (Hr (mK<|.bl false)<|Hl 4)<|mF (Jb<|mV 1) (JY 3<|gC (Hl 5)<|gC (Hl 6)<|gC (Hl 7)<|JZ)<|Mt
def hG:MS:=mS (Hr (Ho NJ<|Hc (mB Hf (mV 0)<|mK<|.int 2)<|mZ)<|Hl 3)<|mS (Hr (mK<|.bl true)<|Hl 4)<|mS (IS U4 UZ 1000)<|mR<|mV 3
def US:GN:=Iv 8 hG
def RL:MS:=Ji (mV 1) (Jp (mV 4) K1<|K2<|mK<|.int 2)<|mB Hf (mV 4)<|mK<|.int 2
def XE:MS:=mS (Hr (Ho Nc<|Hc (mV 0)<|Hc (mV 1)<|mZ)<|Hl 3)<|mF (Jb<|Jp (mV 3) K1<|K2<|mK<|.int 1) (Hl 4)<|RL
def iD:MS:=mS (Hr (Ho NJ<|Hc (mB Hf (mV 0)<|mK<|.int 2)<|mZ)<|Hl 1)<|mS (mF (IW<|mB HX (mB Hf (mB Hf (mV 0)<|mK<|.int 1)<|mK<|.int 0)<|mB Hf (mB Hf (mV 0)<|mK<|.int 1)<|mK<|.int 1) (Hl 2)<|XE)<|mR<|Ho OH<|Hc (mV 1)<|mZ
def XG:GN:=Iv 5 iD
def UW:ME:=mV 0
def RM:MT:=mT<|mB L1 (Ho Nf<|Hc (mV 1)<|Hc (mV 2)<|Hc (mU<|Hc (mV 3)<|Hc (mV 4)<|mZ)<|Hc (mV 0)<|mZ)<|mB Hf (mB Hf (mV 1)<|mK<|.int 0)<|mK<|.int 0
def OG:MS:=IX (mT<|mB Kx (mU<|Hc (mV 3)<|Hc (mV 4)<|mZ)<|mV 2) (mS (Hr (Ho US<|Hc (mV 0)<|Hc (mV 1)<|Hc (mU<|Hc (mV 3)<|Hc (mV 4)<|mZ)<|mZ)<|Hl 6)<|mS (Hr (I0 (IW<|Ho HM<|Hc (mB Hf (mB Hf (mV 0)<|mK<|.int 0)<|mK<|.int 2)<|mZ) 1 [0,6,3,4] (Hl 0) RM<|UW)<|Hl 7)<|IX (mT<|mB IY (mV 7)<|mL<|Hc (mV 5)<|mZ) (mR<|mK<|.bl false)<|Jd)<|Jd
def XI:MS:=mS (Hr (Ho NJ<|Hc (mB Hf (mV 0)<|mK<|.int 2)<|mZ)<|Hl 2)<|mS (mF (Jb<|mV 1) (JY 3<|gC (Hl 3)<|gC (Hl 4)<|gC (Hl 5)<|JZ)<|OG)<|mR<|mK<|.bl true
def XJ:GN:=Iv 8 XI
def Rk(C:Addr):MS:=mS (IX (mT<|mB J5 (mU<|Hc (mV 9)<|Hc (mV 10)<|mZ)<|mV 8) (mR<|mK<|.bl false)<|Jd)<|Ji (mV 8) (mU<|Hc (mV 9)<|Hc (mV 10)<|mZ)<|mV 11
def TK(C:Addr):ME:=mB J5 (mV 0)<|mV 1
def TM(C:Addr):MS:=mS (Hr (Ho TL<|Hc (mV 3)<|Hc (mV 6)<|mZ)<|Hl 7)<|mS (Hr (Ho NJ<|Hc (mV 7)<|mZ)<|Hl 8)<|mS (mF (Jb<|mB Hf (Ho (Rr C)<|Hc (mV 3)<|Hc (mV 6)<|mZ)<|mK<|.int 1) (JY 3<|gC (Hl 9)<|gC (Hl 10)<|gC (Hl 11)<|JZ)<|Rk C)<|mS (IX (Mz (mT<|mB IY (Ho Nc<|Hc (mV 3)<|Hc (mV 8)<|mZ)<|mL<|mZ)<|J9 (J3<|mV 5)<|mT<|mB IY (Ho OH<|Hc (mV 8)<|mZ)<|mV 4) (mR<|mK<|.bl false)<|Jd)<|IX (J9 (J3<|mV 5)<|MU<|mT<|Ho Lx<|Hc (I0 (Jb<|mV 7) 1 [4] (Hl 0) IU<|TK C)<|mZ) (mR<|mK<|.bl false)<|Jd
def TN(C:Addr):MS:=mS (Hr (Ho Xr<|Hc (mV 0)<|Hc (mV 1)<|mZ)<|Hl 2)<|mS (Hr (Ho W7<|Hc (mV 2)<|mZ)<|Hl 3)<|mS (Hr (Ho XG<|Hc (mV 3)<|mZ)<|Hl 4)<|mS (Hr (Ho XJ<|Hc (mV 3)<|Hc (mV 4)<|mZ)<|Hl 5)<|mF (Jb<|mL<|Hc (Ho RN<|Hc (mV 2)<|Hc (mV 3)<|mZ)<|Hc (Ho OF<|Hc (mV 2)<|Hc (mB Hf (mV 3)<|mK<|.int 0)<|Hc (mB Hf (mV 3)<|mK<|.int 1)<|Hc (mK<|.int 9)<|mZ)<|mZ) (Hl 6)<|TM C
def Zs(C:Addr):MS:=mS (mF (IW<|mB HF (mK<|.int 1)<|Ho QS<|Hc (mK<|.int 3)<|Hc (Ho HM<|Hc (mV 0)<|mZ)<|mZ) (Hl 1)<|TN C)<|mR<|mK<|.bl true
def Vj(C:Addr):GN:=Iv 12<|Zs C
open L2 PySem.Spec PyProof.Rows
def top(i:Nat):W1:=PySem.Challenge.pw_stickytiles_k42_spoilt_grows_on.main.body.getD i<|.Pass ⟨0,0,0,0⟩
def fns:List (Str×W1):=("_wall",top 0)::("is_whole",top 2)::("is_tuple",top 3)::("is_place",top 4)::("places_around",top 6)::("sides_of",top 7)::("kinds_by_place",top 8)::("names_facing",top 9)::("strength_together",top 10)::("is_growing",top 11)::("growings_at",top 12)::("first_end",top 16)::("row_among",top 17)::("with_seed",top 19)::("sound",top 20)::("mended",top 21)::("_law_begin",top 23)::("_law_draw",top 24)::("_law_names",top 25)::("_law_kind",top 26)::("_law_house",top 27)::("_law_standing",top 28)::("_law_bed",top 29)::("_law_lying",top 30)::("_law_standing_of",top 31)::("_law_step",top 32)::("_law_sides",top 33)::("_law_by",top 34)::("_law_empty",top 35)::("_law_may",top 36)::("_law_walk",top 37)::("_law_spoilt",top 38)::("_law_without",top 39)::("_law_end_of",top 40)::("_law_is_sure",top 41)::("law",top 42)::[]
def iR:List Str:=["isinstance","int","bool","tuple","len","enumerate","zip","sum","any","dict","range","min","list","sorted","all"]
def cos:List (Str×(Str⊕Int)):=[]
def Ni:List (Str×Str×W1):=[("look_at","Grow.look_at",inClass (top 14) 1),("__init__","Grow.__init__",inClass (top 14) 0),("look_around","Grow.look_around",inClass (top 14) 2),("lay","Grow.lay",inClass (top 14) 3),("on","Grow.on",inClass (top 14) 5),("standing","Grow.standing",inClass (top 14) 7),("row","Grow.row",inClass (top 14) 8)]
def iM:List Str:=["bed","strengths","kinds","laid","ready"]
section
variable {P:SZ}{w:World}{K:Ab}{mg:Str->Option IR}{base:P3} (Z:En K mg fns iR cos) {C:Addr} (Q:EC K mg C "Grow" Ni iM)
def Sn:(["side","name","strengths"]:List Str).Nodup:=by decide +kernel
def jP:(["near","kinds"]:List Str).Nodup:=by decide +kernel
def jQ:(["tile","part"]:List Str).Nodup:=by decide +kernel
def jR:(["_law_k","_law_letters","_law_first"]:List Str).Nodup:=by decide +kernel
def jS:(["_law_k","_law_letters","_law_first","_law_step_here"]:List Str).Nodup:=by decide +kernel
def jT:(["_law_side","_law_names_here","_law_pot"]:List Str).Nodup:=by decide +kernel
def jU:(["_law_name","_law_pot"]:List Str).Nodup:=by decide +kernel
def jV:(["_law_k","_law_pot","_law_names_here"]:List Str).Nodup:=by decide +kernel
def Zh:(["_law_place","_law_there"]:List Str).Nodup:=by decide +kernel
def Vm:(["_law_x","_law_y","_law_kind_here"]:List Str).Nodup:=by decide +kernel
def lA:(["_law_side","_law_strengths","_law_bed_here","_law_kind_here"]:List Str).Nodup:=by decide +kernel
def lB:(["_law_side","_law_x","_law_y","_law_there"]:List Str).Nodup:=by decide +kernel
def lC:(["_law_one","_law_bed_here","_law_there","_law_x","_law_y"]:List Str).Nodup:=by decide +kernel
def lD:(["_law_tile","_law_end"]:List Str).Nodup:=by decide +kernel
include Z Q
theorem fV:Jl P w K mg base 1 "is_whole" 3 RC:=Ju (k:=0) Z (top 2) 1 ["thing","least","most"] ["thing","least","most"] λQ f C A outer s H E a=>Iu.out (HL<|JS.mk<|IF<|Ra (Pz Z (He 0) Zx)<|Ra (pI<|Pz Z (He 0) qY)<|V7<|xV VA VA (He 1) (He 0)<|He 2)
theorem zjs:Jl P w K mg base 1 "is_tuple" 2 WZ:=Ju (k:=0) Z (top 3) 2 ["thing","size"] ["thing","size"] λa f C A outer s H E Q=>Iu.out (HL<|JS.mk<|IF<|Ra (Pz Z (He 0) Mi)<|V7<|Tw (Oq<|JM Q) (Ke Z Mg Mb<|Hh (He 0)<|Hq) (He 1) rfl)
theorem fU:Jl P w K mg base 2 "is_place" 2 NI:=Ju (k:=1) Z (top 4) 3 ["bed","thing","floor"] ["bed","thing"] λa f b A outer s H E C=>Iu.out (HB (JS.mk<|Ij 2 a<|HA (Hv C) (He 0)<|Hm)<|HL<|JS.mk<|IF<|Ra (HQ (zjs Z Q) C<|Hh (He 1)<|Hh Hm<|Hq)<|Ra (HQ (fV Z Q) C<|Hh (HA (Hv C) (He 1)<|Hm)<|Hh Hm<|Hh (HU Qd (HA (Hv C) (He 2)<|Hm)<|Hm)<|Hq)<|V7<|HQ (fV Z Q) C<|Hh (HA (Hv C) (He 1)<|Hm)<|Hh Hm<|Hh (HU Qd (HA (Hv C) (He 2)<|Hm)<|Hm)<|Hq)
theorem XF:Jl P w K mg base 1 "places_around" 1 Mj:=Ju (k:=0) Z (top 6) 4 ["place","x","y"] ["place"] λC f a A outer s H E Q=>Iu.out (HB (JS.mk<|Ij 1 C<|HA (Hv Q) (He 0)<|Hm)<|HB (JS.mk<|Ij 2 C<|HA (Hv Q) (He 0)<|Hm)<|HL<|JS.mk<|IF<|IV<|JA.out<|HW (IV<|Hh (He 1)<|Hh (HU Jv (He 2)<|Hm)<|Hq)<|HW (IV<|Hh (HU Jv (He 1)<|Hm)<|Hh (He 2)<|Hq)<|HW (IV<|Hh (He 1)<|Hh (HU Qd (He 2)<|Hm)<|Hq)<|HW (IV<|Hh (HU Qd (He 1)<|Hm)<|Hh (He 2)<|Hq)<|K3)
theorem fW:Jl P w K mg base 1 "sides_of" 2 Qq:=Ju (k:=0) Z (top 7) 5 ["bed","kind","kinds"] ["bed","kind"] λQ f a A outer s H E C=>Iu.out (HB (JS.mk<|Ij 2 Q<|HA (Hv C) (HA (Hv C) (He 0)<|Hm)<|Hm)<|HB (J7 (xS VA ZU Hm (He 1)<|Ke Z Mg Mb<|Hh (He 2)<|Hq) (HL<|JS.mk<|IF<|NA (HA (Hv C) (He 2)<|He 1) (Nw<|Hm)<|Nv)<|Kj)<|HL<|JS.mk<|IF<|IV<|JA.out<|HW Mq<|HW Mq<|HW Mq<|HW Mq<|K3)
theorem XR:Jl P w K mg base 1 "kinds_by_place" 1 Qz:=Ju (k:=0) Z (top 8) 6 ["standing","kinds","x","y","kind"] ["standing"] λC f Q A outer s H E a=>Iu.out (HB (JS.mk<|Ij 1 C<|Wr)<|HB (Kv AF rfl (Lo<|He 0) (MY rfl<|Kb (sgn 2 C)<|Kb (sgn 3 C)<|Kb (sgn 4 C)<|Na)<|HL<|JS.mk<|LP (Hv a) (He 1) (IV<|Hh (He 2)<|Hh (He 3)<|Hq)<|He 4)<|HL<|JS.mk<|IF<|He 1)
theorem hV:Jl P w K mg base 2 "names_facing" 3 Qr:=Ju (k:=1) Z (top 9) 7 ["bed","standing_kinds","place","names","side","near"] ["bed","standing_kinds","place"] λa f b A outer s H E C=>Iu.out (HB (JS.mk<|Ij 3 a<|Ka<|Hq)<|HB (Kv AF rfl (aM rfl Z.b1<|HQ (XF Z Q) C<|Hh (He 2)<|Hq) (MY rfl<|Kb (sgn 4 a)<|Kb (sgn 5 a)<|Na)<|HL<|J7 (P2 (JM C) (He 5)<|He 1) (HL<|JS.mk<|KW<|Nd (He 3)<|Hh (HA (Hv C) (HQ (fW Z Q) C<|Hh (He 0)<|Hh (HA (Hv C) (He 1)<|He 5)<|Hq)<|HU Md (HU Jv (He 4)<|Hm)<|Hm)<|Hq)<|HL<|JS.mk<|KW<|Nd (He 3)<|Hh Mq<|Hq)<|HL<|JS.mk<|IF<|He 3)
theorem iH:Jl P w K mg base 1 "strength_together" 3 Po:=Ju (k:=0) Z (top 10) 8 ["strengths","sides","names"] ["strengths","sides","names"] λd f c A outer s H E Q=>Iu.out (HL<|JS.mk<|IF<|Ke Z (eP rfl) Zz<|Hh (Ms rfl rfl (Ln (N':=["side","name","strengths"]) (nt:=2) (fr:=[0]) ["strengths"] rfl (by decide +kernel) (by decide +kernel) (by decide +kernel) rfl ⟨⟨rfl,by decide⟩,trivial⟩ ⟨by first|exact Bl rfl|exact Bf rfl,trivial⟩) (pM rfl Z.b1 (He 1)<|He 2) (λC s0 a b=>MY rfl (Kb (sgn 0 Sn)<|Kb (sgn 1 Sn)<|Na)) (λC s0 a b=>Q9 (SW.sb<|Mr (JW (Oq<|JM Q) (He 0) (He 1) rfl)<|Ny<|JW (Np<|JM Q) (He 0) Mq rfl)) λC s0 a b=>HA (Hv Q) (He 2) (He 0))<|Hq)
theorem zhc:Jl P w K mg base 3 "is_growing" 4 OC:=Ju (k:=2) Z (top 11) 9 ["bed","strengths","standing_kinds","tile","place","names"] ["bed","strengths","standing_kinds","tile"] λa f b A outer s H E C=>Iu.out (HB (JS.mk<|Ij 4 a<|NA (He 3) Nv<|Nw<|Hm)<|HB (J7 (SW.sb<|Zn (P2 (JM C) (He 4)<|He 2)<|Z0<|Tv<|QO<|HQ (fU Z Q) C<|Hh (He 0)<|Hh (He 4)<|Hq) (HL<|JS.mk<|IF<|MW)<|Kj)<|HB (JS.mk<|Ij 5 a<|HQ (hV Z Q) C<|Hh (He 0)<|Hh (He 2)<|Hh (He 4)<|Hq)<|HL<|JS.mk<|IF<|Tw P0 (HQ (iH Z Q) C<|Hh (He 1)<|Hh (HQ (fW Z Q) C<|Hh (He 0)<|Hh (HA (Hv C) (He 3)<|Hm)<|Hq)<|Hh (He 5)<|Hq) (HA (Hv C) (HA (Hv C) (He 0)<|Hm)<|Hm) rfl)
theorem zgv:Jl P w K mg base 2 "growings_at" 4 UI:=Ju (k:=1) Z (top 12) 10 ["bed","strengths","names","place","house","found","number","kind"] ["bed","strengths","names","place"] λa f b A outer s H E C=>Iu.out (HB (JS.mk<|Ij 4 a<|HA (Hv C) (He 0)<|Hm)<|HB (JS.mk<|Ij 5 a<|Ka<|Hq)<|HB (J7 (Tv<|QO<|Ke Z (yU rfl) oA<|Hh (He 2)<|Hq) (HL<|JS.mk<|IF<|He 5)<|Kj)<|HB (Kv AF rfl (aM rfl Z.b1<|HA (Hv C) (He 4)<|Hm) (MY rfl<|Kb (sgn 6 a)<|Kb (sgn 7 a)<|Na)<|HL<|J7 (JW P0 (HQ (iH Z Q) C<|Hh (He 1)<|Hh (NA (He 7) (Nw<|Hm)<|Nv)<|Hh (He 2)<|Hq) (HA (Hv C) (He 4)<|Hm) rfl) (HL<|JS.mk<|KW<|Nd (He 5)<|Hh (IV<|Hh (HA (Hv C) (He 3)<|Hm)<|Hh (HA (Hv C) (He 3)<|Hm)<|Hh (He 6)<|Hq)<|Hq)<|Kj)<|HL<|JS.mk<|IF<|He 5)
theorem XD:M3 P w K mg base 3 C "look_at" 2 (Ng C):=Qk (k:=2) Q (inClass (top 14) 1) 0 ["self","place","names","found"] ["self","place"] λb f c A outer s H E a=>Iu.out (HB (JS.mk<|KW<|vB (Hv a) (Jx Q<|He 0) (He 1)<|Tx)<|HL<|J7 (SW.sb<|Mr (RD (JM a) (He 1)<|Jx Q<|He 0)<|Ny<|QO<|HQ (fU Z Q) a<|Hh (Jx Q<|He 0)<|Hh (He 1)<|Hq) (HB (JS.mk<|Ij 2 b<|HQ (hV Z Q) a<|Hh (Jx Q<|He 0)<|Hh (Jx Q<|He 0)<|Hh (He 1)<|Hq)<|HB (JS.mk<|Ij 3 b<|HQ (zgv Z Q) a<|JA.out<|HW (Jx Q<|He 0)<|HW (Jx Q<|He 0)<|HW (He 2)<|HW (He 1)<|K3)<|HL<|J7 (Q8<|He 3) (HL<|JS.mk<|LP (Hv a) (Jx Q<|He 0) (He 1)<|He 3)<|Kj)<|Kj)
theorem ze4:Tt P w K mg base 4 C "Grow" 2 (U8 C):=vK (k:=3) Q (inClass (top 14) 0) 1 ["self","bed","x","y"] ["self","bed"] λb f c A outer s H E a=>Iu.out (HB (JS.mk<|QV Q (He 0)<|He 1)<|HB (JS.mk<|QV Q (He 0)<|KY Z (Xc rfl) T7<|Hh (HA (Hv a) (HA (Hv a) (He 1)<|Hm)<|Hm)<|Hq)<|HB (JS.mk<|QV Q (He 0)<|HQ (XR Z Q) a<|Hh (HA (Hv a) (He 1)<|Hm)<|Hq)<|HB (JS.mk<|QV Q (He 0)<|Ka<|Hq)<|HB (JS.mk<|QV Q (He 0)<|Wr)<|HL<|Kv AF rfl (K5 rfl Z.b1<|HA (Hv a) (HA (Hv a) (He 1)<|Hm)<|Hm) (sgn 2 b)<|HL<|Kv AF rfl (K5 rfl Z.b1<|HA (Hv a) (HA (Hv a) (He 1)<|Hm)<|Hm) (sgn 3 b)<|HL<|JS.mk<|KW<|Ro (XD Z Q) Q.cl (a.mono<|by decide) (He 0) (Hh (IV<|Hh (He 2)<|Hh (He 3)<|Hq)<|Hq)<|J8.cons J8.nil)
theorem zdZ:M3 P w K mg base 4 C "look_around" 2 (RY C):=Qk (k:=3) Q (inClass (top 14) 2) 2 ["self","place","near"] ["self","place"] λb f c A outer s H E a=>Iu.out (HB (JS.mk<|KW<|Ro (XD Z Q) Q.cl (a.mono<|by decide) (He 0) (Hh (He 1)<|Hq)<|J8.cons J8.nil)<|HL<|Kv AF rfl (Lo<|HQ (XF Z Q) a<|Hh (He 1)<|Hq) (sgn 2 b)<|HL<|JS.mk<|KW<|Ro (XD Z Q) Q.cl (a.mono<|by decide) (He 0) (Hh (He 2)<|Hq)<|J8.cons J8.nil)
theorem zju:M3 P w K mg base 5 C "lay" 2 (Qp C):=Qk (k:=4) Q (inClass (top 14) 3) 3 ["self","tile"] ["self","tile"] λc f b A outer s H E a=>Iu.out (HB (JS.mk<|KW<|Nd (Jx Q<|He 0)<|Hh (He 1)<|Hq)<|HB (JS.mk<|LP (Hv a) (Jx Q<|He 0) (NA (He 1) Nv<|Nw<|Hm)<|HA (Hv a) (He 1)<|Hm)<|HL<|JS.mk<|KW<|Ro (zdZ Z Q) Q.cl (a.mono<|by decide) (He 0) (Hh (NA (He 1) Nv<|Nw<|Hm)<|Hq)<|J8.cons J8.nil)
theorem zkO:M3 P w K mg base 6 C "on" 1 (Pc C):=Qk (k:=5) Q (inClass (top 14) 5) 4 ["self","tile"] ["self"] λb f c A outer s H E a=>Iu.out (HB (J7 (Tv<|sI<|Jx Q<|He 0) (HL<|JS.mk<|IF<|Tx)<|Kj)<|HB (JS.mk<|Ij 1 b<|HA (Hv a) (HA (Hv a) (Jx Q<|He 0)<|Ke Z (zlK rfl<|Hv a) Zy<|Hh (Jx Q<|He 0)<|Hq)<|Hm)<|HB (JS.mk<|KW<|Ro (zju Z Q) Q.cl (a.mono<|by decide) (He 0) (Hh (He 1)<|Hq)<|J8.cons J8.nil)<|HL<|JS.mk<|IF<|He 1)
theorem ze3:M3 P w K mg base 1 C "standing" 1 (U9 C):=Qk (k:=0) Q (inClass (top 14) 7) 5 ["self"] ["self"] λc f a A outer s H E b=>Iu.out (HL<|JS.mk<|IF<|KY Z Mv Mi<|Hh (Ke Z UO Pd<|Hh (HU Jv (KY Z (eV rfl) Z9<|Hh (HA (Hv b) (Jx Q<|He 0)<|Hm)<|Hq)<|Jx Q<|He 0)<|Hq)<|Hq)
theorem zjt:M3 P w K mg base 1 C "row" 1 (UD C):=Qk (k:=0) Q (inClass (top 14) 8) 6 ["self"] ["self"] λb f a A outer s H E c=>Iu.out (HL<|JS.mk<|IF<|KY Z Mv Mi<|Hh (Jx Q<|He 0)<|Hq)
theorem zh5:Jl P w K mg base 7 "first_end" 1 (W6 C):=Ju (k:=6) Z (top 16) 11 ["bed","keeper"] ["bed"] λb f c A outer s H E a=>Iu.out (HB (JS.mk<|Ij 1 b<|xW (ze4 Z Q) (a.mono<|by decide) rfl (Hh (He 0)<|Hq)<|J8.cons J8.nil)<|HB (Wj AF (JW vX (Ws (zkO Z Q) Q.cl (a.mono<|by decide)<|He 1) Tx rfl)<|HL<|JS.mk<|uR)<|HL<|JS.mk<|IF<|IV<|Hh (Ws (zjt Z Q) Q.cl (a.mono<|by decide)<|He 1)<|Hh (Ws (ze3 Z Q) Q.cl (a.mono<|by decide)<|He 1)<|Hq)
theorem zh3:Jl P w K mg base 4 "row_among" 2 W8:=Ju (k:=3) Z (top 17) 12 ["bed","tiles","strengths","standing_kinds","kinds","row","asked","place","tile"] ["bed","tiles"] λb f e A outer s H E a=>Iu.out (HB (JS.mk<|Ij 2 b<|KY Z (Xc rfl) T7<|Hh (HA (Hv a) (HA (Hv a) (He 0)<|Hm)<|Hm)<|Hq)<|HB (JS.mk<|Ij 3 b<|HQ (XR Z Q) a<|Hh (HA (Hv a) (He 0)<|Hm)<|Hq)<|HB (JS.mk<|Ij 4 b<|HQ (XR Z Q) a<|Hh (He 1)<|Hq)<|HB (JS.mk<|Ij 5 b<|Ka<|Hq)<|HB (JS.mk<|Ij 6 b<|KY Z (eV rfl) Z9<|Hh (He 4)<|Hq)<|HB (Wj AF (Q8<|He 6)<|HB (JS.mk<|Ij 7 b<|vA<|He 6)<|HB (JS.mk<|Ij 8 b<|IV<|Hh (HA (Hv a) (He 7)<|Hm)<|Hh (HA (Hv a) (He 7)<|Hm)<|Hh (HA (Hv a) (He 4)<|He 7)<|Hq)<|HL<|J7 (QO<|HQ (zhc Z Q) a<|JA.out<|HW (He 0)<|HW (He 2)<|HW (He 3)<|HW (He 8)<|K3) (HB (JS.mk<|KW<|Nd (He 5)<|Hh (He 8)<|Hq)<|HB (JS.mk<|LP (Hv a) (He 3) (He 7)<|HA (Hv a) (He 4)<|He 7)<|HL<|JS.mk<|KW<|zR (He 6)<|Hh (Ms rfl rfl (Ln (N':=["near","kinds"]) (nt:=1) (fr:=[4]) ["kinds"] rfl (by decide +kernel) (by decide +kernel) (by decide +kernel) rfl ⟨⟨rfl,by decide⟩,trivial⟩ ⟨by first|exact Bl rfl|exact Bf rfl,trivial⟩) (Lo<|HQ (XF Z Q) a<|Hh (He 7)<|Hq) (λC s0 c d=>sgn 0 jP) (λC s0 c d=>Q9 (P2 (JM a) (He 0)<|He 1)) λC s0 c d=>He 0)<|Hq)<|Kj)<|HL<|JS.mk<|IF<|KY Z Mv Mi<|Hh (He 5)<|Hq)
theorem zh2:Jl P w K mg base 1 "with_seed" 2 W9:=Ju (k:=0) Z (top 19) 13 ["bed","tiles"] ["bed","tiles"] λa f Q A outer s H E C=>Iu.out (HL<|JS.mk<|IF<|IV<|Hh (HA (Hv C) (He 0)<|Hm)<|Hh (HA (Hv C) (He 0)<|Hm)<|Hh (KY Z Mv Mi<|Hh (Ke Z UO Pd<|Hh (He 1)<|Hq)<|Hq)<|Hq)
theorem cH:Jl P w K mg base 5 "sound" 2 TL:=Ju (k:=4) Z (top 20) 14 ["bed","standing"] ["bed","standing"] λb f a A outer s H E C=>Iu.out (HL<|JS.mk<|IF<|KY Z Mv Mi<|Hh (Ke Z UO Pd<|Hh (HU sX (HA (Hv C) (He 0)<|Hm)<|HQ (zh3 Z Q) C<|Hh (He 0)<|Hh (He 1)<|Hq)<|Hq)<|Hq)
theorem zmL:Jl P w K mg base 8 "mended" 2 (Rr C):=Ju (k:=7) Z (top 21) 15 ["bed","standing","part","off"] ["bed","standing"] λb f e A outer s H E a=>Iu.out (HB (JS.mk<|Ij 2 b<|HQ (cH Z Q) a<|Hh (He 0)<|Hh (He 1)<|Hq)<|HB (JS.mk<|Ij 3 b<|KY Z Mv Mi<|Hh (Ms rfl rfl (Ln (N':=["tile","part"]) (nt:=1) (fr:=[2]) ["part"] rfl (by decide +kernel) (by decide +kernel) (by decide +kernel) rfl ⟨⟨rfl,by decide⟩,trivial⟩ ⟨by first|exact Bl rfl|exact Bf rfl,trivial⟩) (Lo<|He 1) (λC s0 c d=>sgn 0 jQ) (λC s0 c d=>Q9 (RD (JM a) (He 0)<|He 1)) λC s0 c d=>He 0)<|Hq)<|HL<|JS.mk<|IF<|IV<|Hh (He 3)<|Hh (HA (Hv a) (HQ (zh5 Z Q) a<|Hh (HQ (zh2 Z Q) a<|Hh (He 0)<|Hh (He 2)<|Hq)<|Hq)<|Hm)<|Hq)
theorem zgu:Jl P w K mg base 1 "_law_begin" 2 Xr:=Ju (k:=0) Z (top 23) 16 ["_law_script","_law_k","_law_cell","_law_far","_law_own"] ["_law_script","_law_k"] λC f Q A outer s H E a=>Iu.out (HB (JS.mk<|Ij 2 C<|pG (JW ZU (He 1) (Ke Z Mg Mb<|Hh (He 0)<|Hq) rfl) (HA (Hv a) (He 0)<|He 1)<|Hm)<|HB (JS.mk<|Ij 3 C<|HU Rl (HU Rl (HU Rl (HU Rl (HU Qc Hm<|Hm)<|HU Qc Hm<|Hm)<|HU Qc Hm<|Hm)<|HU Qc Hm<|Hm)<|HU Qc Hm<|Hm)<|HB (JS.mk<|Ij 4 C<|HU Rl (HU Md (He 2)<|He 3)<|KY Z yV Zx<|Hh (Tw P0 (He 2) (HU Qc Hm<|Hm) rfl)<|Hq)<|HL<|JS.mk<|IF<|Ka<|Hh (He 4)<|Hh (HU Md (HU Jv (HU Md (He 2)<|Hm)<|HU Me Hm<|He 1)<|Hm)<|Hh Hm<|Hq)
theorem JG:Jl P w K mg base 1 "_law_draw" 2 Il:=Ju (k:=0) Z (top 24) 17 ["_law_pot","_law_many","_law_digit","_law_mixed"] ["_law_pot","_law_many"] λQ f a A outer s H E C=>Iu.out (HB (J7 (JW ZS (HA (Hv C) (He 0)<|Hm) Hm rfl) (HB (JS.mk<|Ij 2 Q<|HU Md (HA (Hv C) (He 0)<|Hm)<|He 1)<|HB (JS.mk<|LP (Hv C) (He 0) Hm<|HU WD (HA (Hv C) (He 0)<|Hm)<|He 1)<|HL<|JS.mk<|IF<|He 2)<|Kj)<|HB (JS.mk<|LP (Hv C) (He 0) Hm<|HU Jv (HA (Hv C) (He 0)<|Hm)<|Hm)<|HB (JS.mk<|Ij 3 Q<|HU Md (HU Me (HU Jv (HU Jv (HA (Hv C) (He 0)<|Hm)<|HU Me (HU Me Hm<|HA (Hv C) (He 0)<|Hm)<|HA (Hv C) (He 0)<|Hm)<|HU Me Hm<|HA (Hv C) (He 0)<|Hm)<|Hm)<|Hm)<|HB (JS.mk<|Ij 3 Q<|HU Md (HU Me (He 3)<|HU Jv (HU Md (He 3)<|Hm)<|HU Me Hm<|HA (Hv C) (He 0)<|Hm)<|Hm)<|HL<|JS.mk<|IF<|HU Md (HU Jv (HU WD (He 3)<|Hm)<|HU WD (He 3)<|Hm)<|He 1)
theorem zgr:Jl P w K mg base 2 "_law_names" 2 Xt:=Ju (k:=1) Z (top 25) 18 ["_law_pot","_law_many","_law_letters","_law_first","_law_step_here"] ["_law_pot","_law_many"] λd f e A outer s H E a=>Iu.out (HB (JS.mk<|Ij 2 d<|Mq)<|HB (JS.mk<|VH (IV<|Hh (HQ (JG Z Q) a<|Hh (He 0)<|Hh Hm<|Hq)<|Hh (HA (Hv a) (Ka<|JA.out<|HW Hm<|HW Hm<|HW Hm<|HW Hm<|HW Hm<|HW Hm<|K3)<|HQ (JG Z Q) a<|Hh (He 0)<|Hh Hm<|Hq)<|Hq)<|MY rfl<|Kb (sgn 3 d)<|Kb (sgn 4 d)<|Na)<|HB (J7 (JW (Oq<|JM a) (HQ (JG Z Q) a<|Hh (He 0)<|Hh Hm<|Hq) Hm rfl) (HL<|JS.mk<|IF<|Ms rfl rfl (Ln (N':=["_law_k","_law_letters","_law_first"]) (nt:=1) (fr:=[2,3]) ["_law_letters","_law_first"] rfl (by decide +kernel) (by decide +kernel) (by decide +kernel) rfl ⟨⟨rfl,by decide⟩,⟨⟨rfl,by decide⟩,trivial⟩⟩ ⟨by first|exact Bl rfl|exact Bf rfl,⟨by first|exact Bl rfl|exact Bf rfl,trivial⟩⟩) (K5 rfl Z.b1<|He 1) (λC s0 b c=>sgn 0 jR) (λC s0 b c=>MX) λC s0 b c=>HU Me (HA (Hv a) (He 1)<|He 2) (HU Jv (He 0)<|Hm))<|Kj)<|HL<|JS.mk<|IF<|Ke Z XA Pd<|Hh (Ms rfl rfl (Ln (N':=["_law_k","_law_letters","_law_first","_law_step_here"]) (nt:=1) (fr:=[2,3,4]) ["_law_letters","_law_first","_law_step_here"] rfl (by decide +kernel) (by decide +kernel) (by decide +kernel) rfl ⟨⟨rfl,by decide⟩,⟨⟨rfl,by decide⟩,⟨⟨rfl,by decide⟩,trivial⟩⟩⟩ ⟨by first|exact Bl rfl|exact Bf rfl,⟨by first|exact Bl rfl|exact Bf rfl,⟨by first|exact Bl rfl|exact Bf rfl,trivial⟩⟩⟩) (K5 rfl Z.b1<|He 1) (λC s0 b c=>sgn 0 jS) (λC s0 b c=>MX) λC s0 b c=>HU Me (HA (Hv a) (He 1)<|HU Md (HU Jv (He 2)<|HU Me (He 3)<|He 0)<|Hm) (HU Jv Hm<|HU Md (HU Jv (HU Me (He 0)<|He 0)<|He 2)<|Hm))<|Hq)
theorem zhb:Jl P w K mg base 2 "_law_kind" 2 Xw:=Ju (k:=1) Z (top 26) 19 ["_law_pot","_law_names_here","_law_face","_law_sides_here"] ["_law_pot","_law_names_here"] λb f e A outer s H E a=>Iu.out (HB (JS.mk<|Ij 2 b<|HA (Hv a) (Ka<|Hh Mq<|Hh (HA (Hv a) Mq<|HQ (JG Z Q) a<|Hh (He 0)<|Hh Hm<|Hq)<|Hq)<|HQ (JG Z Q) a<|Hh (He 0)<|Hh Hm<|Hq)<|HB (JS.mk<|Uz (i:=3) rfl rfl (Ln (N':=["_law_side","_law_names_here","_law_pot"]) (nt:=1) (fr:=[1,0]) ["_law_names_here","_law_pot"] rfl (by decide +kernel) (by decide +kernel) (by decide +kernel) rfl ⟨⟨rfl,by decide⟩,⟨⟨rfl,by decide⟩,trivial⟩⟩ ⟨by first|exact Bl rfl|exact Bf rfl,⟨by first|exact Bl rfl|exact Bf rfl,trivial⟩⟩) (K5 rfl Z.b1<|Hm) (λC s0 c d=>sgn 0 jT) (λC s0 c d=>MX) (λC s0 c d=>HA (Hv a) (HU Jv (Ka<|Hh Mq<|Hq)<|He 1) (HQ (JG Z Q) a<|Hh (He 2)<|Hh (HU Jv (Ke Z Mg Mb<|Hh (He 1)<|Hq)<|Hm)<|Hq)) b rfl rfl)<|HL<|JS.mk<|IF<|IV<|JA.out<|HW (He 2)<|HW (HA (Hv a) (He 3)<|Hm)<|HW (HA (Hv a) (He 3)<|Hm)<|HW (HA (Hv a) (He 3)<|Hm)<|HW (HA (Hv a) (He 3)<|Hm)<|K3)
theorem zgs:Jl P w K mg base 3 "_law_house" 1 Xs:=Ju (k:=2) Z (top 27) 20 ["_law_pot","_law_names_here","_law_enough","_law_sticks","_law_kinds"] ["_law_pot"] λd f e A outer s H E a=>Iu.out (HB (JS.mk<|Ij 1 d<|HQ (zgr Z Q) a<|Hh (He 0)<|Hh (HU Jv Hm<|HQ (JG Z Q) a<|Hh (He 0)<|Hh Hm<|Hq)<|Hq)<|HB (JS.mk<|Ij 2 d<|HA (Hv a) (Ka<|JA.out<|HW Hm<|HW Hm<|HW Hm<|HW Hm<|HW Hm<|HW Hm<|HW Hm<|HW Hm<|K3)<|HQ (JG Z Q) a<|Hh (He 0)<|Hh Hm<|Hq)<|HB (JS.mk<|Ij 3 d<|KY Z Mv Mi<|Hh (Ms rfl rfl (Ln (N':=["_law_name","_law_pot"]) (nt:=1) (fr:=[0]) ["_law_pot"] rfl (by decide +kernel) (by decide +kernel) (by decide +kernel) rfl ⟨⟨rfl,by decide⟩,trivial⟩ ⟨by first|exact Bl rfl|exact Bf rfl,trivial⟩) (Lo<|He 1) (λC s0 b c=>sgn 0 jU) (λC s0 b c=>MX) λC s0 b c=>IV (Hh (He 0)<|Hh (HA (Hv a) (Ka<|JA.out<|HW Hm<|HW Hm<|HW Hm<|HW (HU Jv Hm<|HQ (JG Z Q) a<|Hh (He 1)<|Hh Hm<|Hq)<|K3)<|HQ (JG Z Q) a<|Hh (He 1)<|Hh Hm<|Hq)<|Hq))<|Hq)<|HB (JS.mk<|Uz (i:=4) rfl rfl (Ln (N':=["_law_k","_law_pot","_law_names_here"]) (nt:=1) (fr:=[0,1]) ["_law_pot","_law_names_here"] rfl (by decide +kernel) (by decide +kernel) (by decide +kernel) rfl ⟨⟨rfl,by decide⟩,⟨⟨rfl,by decide⟩,trivial⟩⟩ ⟨by first|exact Bl rfl|exact Bf rfl,⟨by first|exact Bl rfl|exact Bf rfl,trivial⟩⟩) (K5 rfl Z.b1<|HU Jv Hm<|HQ (JG Z Q) a<|Hh (He 0)<|Hh (HA (Hv a) (Ka<|JA.out<|HW Hm<|HW Hm<|HW Hm<|HW Hm<|K3)<|HQ (JG Z Q) a<|Hh (He 0)<|Hh Hm<|Hq)<|Hq) (λC s0 b c=>sgn 0 jV) (λC s0 b c=>MX) (λC s0 b c=>HQ (zhb Z Q) a (Hh (He 1)<|Hh (He 2)<|Hq)) d rfl rfl)<|HB (J7 (JW (Oq<|JM a) (HQ (JG Z Q) a<|Hh (He 0)<|Hh Hm<|Hq) Hm rfl) (HL<|JS.mk<|KW<|Nd (He 4)<|Hh (HA (Hv a) (He 4)<|HQ (JG Z Q) a<|Hh (He 0)<|Hh (Ke Z Mg Mb<|Hh (He 4)<|Hq)<|Hq)<|Hq)<|Kj)<|HL<|JS.mk<|IF<|IV<|Hh (He 2)<|Hh (He 3)<|Hh (KY Z Mv Mi<|Hh (He 4)<|Hq)<|Hq)
theorem iI:Jl P w K mg base 2 "_law_standing" 4 OF:=Ju (k:=1) Z (top 28) 21 ["_law_pot","_law_house_here","_law_floor","_law_most","_law_there","_law_k","_law_place"] ["_law_pot","_law_house_here","_law_floor","_law_most"] λb f e A outer s H E a=>Iu.out (HB (JS.mk<|Ij 4 b<|Wr)<|HB (Kv AF rfl (K5 rfl Z.b1<|HQ (JG Z Q) a<|Hh (He 0)<|Hh (HU Jv (He 3)<|Hm)<|Hq) (sgn 5 b)<|HB (JS.mk<|Ij 6 b<|IV<|Hh (HQ (JG Z Q) a<|Hh (He 0)<|Hh (HA (Hv a) (He 2)<|Hm)<|Hq)<|Hh (HQ (JG Z Q) a<|Hh (He 0)<|Hh (HA (Hv a) (He 2)<|Hm)<|Hq)<|Hq)<|HL<|JS.mk<|LP (Hv a) (He 4) (He 6)<|HQ (JG Z Q) a<|Hh (He 0)<|Hh (Ke Z Mg Mb<|Hh (HA (Hv a) (He 1)<|Hm)<|Hq)<|Hq)<|HL<|JS.mk<|IF<|KY Z Mv Mi<|Hh (Ke Z XA Pd<|Hh (Ms rfl rfl (Ln (N':=["_law_place","_law_there"]) (nt:=1) (fr:=[4]) ["_law_there"] rfl (by decide +kernel) (by decide +kernel) (by decide +kernel) rfl ⟨⟨rfl,by decide⟩,trivial⟩ ⟨by first|exact Bl rfl|exact Bf rfl,trivial⟩) (aN<|He 4) (λC s0 c d=>sgn 0 Zh) (λC s0 c d=>MX) λC s0 c d=>HU Jv (He 0) (IV<|Hh (bX (Hv a) (He 1)<|He 0)<|Hq))<|Hq)<|Hq)
theorem zh4:Jl P w K mg base 4 "_law_bed" 1 W7:=Ju (k:=3) Z (top 29) 22 ["_law_pot","_law_house_here","_law_floor"] ["_law_pot"] λa f b A outer s H E C=>Iu.out (HB (JS.mk<|Ij 1 a<|HQ (zgs Z Q) C<|Hh (He 0)<|Hq)<|HB (JS.mk<|Ij 2 a<|IV<|Hh (HU Jv Hm<|HQ (JG Z Q) C<|Hh (He 0)<|Hh Hm<|Hq)<|Hh (HU Jv Hm<|HQ (JG Z Q) C<|Hh (He 0)<|Hh (HA (Hv C) (Ka<|JA.out<|HW Hm<|HW Hm<|HW Hm<|HW Hm<|K3)<|HQ (JG Z Q) C<|Hh (He 0)<|Hh Hm<|Hq)<|Hq)<|Hq)<|HB (J7 (JW (Oq<|JM C) (HQ (JG Z Q) C<|Hh (He 0)<|Hh Hm<|Hq) Hm rfl) (HL<|JS.mk<|Ij 2 a<|vD (He 2)<|pH<|Hm)<|Kj)<|HL<|JS.mk<|IF<|IV<|Hh (He 1)<|Hh (He 2)<|Hh (HQ (iI Z Q) C<|JA.out<|HW (He 0)<|HW (He 1)<|HW (He 2)<|HW (HA (Hv C) (Ka<|Hh Hm<|Hh Hm<|Hh Hm<|Hq)<|HQ (JG Z Q) C<|Hh (He 0)<|Hh Hm<|Hq)<|K3)<|Hq)
theorem Qs:Jl P w K mg base 1 "_law_lying" 1 NJ:=Ju (k:=0) Z (top 30) 23 ["_law_standing_here"] ["_law_standing_here"] λd f b A outer s H E c=>Iu.out (HL<|JS.mk<|IF<|KY Z (zjG rfl<|kI c) T7<|Hh (Ms rfl rfl (cS ["_law_x","_law_y","_law_kind_here"] 3 [] []) (Lo<|He 0) (λC s0 Q a=>MY rfl (Kb (sgn 0 Vm)<|Kb (sgn 1 Vm)<|Kb (sgn 2 Vm)<|Na)) (λC s0 Q a=>MX) λC s0 Q a=>IV (Hh (IV<|Hh (He 0)<|Hh (He 1)<|Hq)<|Hh (He 2)<|Hq))<|Hq)
theorem XQ:Jl P w K mg base 1 "_law_standing_of" 1 OH:=Ju (k:=0) Z (top 31) 24 ["_law_there"] ["_law_there"] λd f b A outer s H E c=>Iu.out (HL<|JS.mk<|IF<|KY Z Mv Mi<|Hh (Ke Z UO Pd<|Hh (vE<|Ms rfl rfl (Ln (N':=["_law_place","_law_there"]) (nt:=1) (fr:=[0]) ["_law_there"] rfl (by decide +kernel) (by decide +kernel) (by decide +kernel) rfl ⟨⟨rfl,by decide⟩,trivial⟩ ⟨by first|exact Bl rfl|exact Bf rfl,trivial⟩) (aN<|He 0) (λC s0 Q a=>sgn 0 Zh) (λC s0 Q a=>MX) λC s0 Q a=>HU Jv (He 0) (IV<|Hh (bX (Hv c) (He 1)<|He 0)<|Hq))<|Hq)<|Hq)
theorem gQ:Jl P w K mg base 1 "_law_step" 2 NH:=Ju (k:=0) Z (top 32) 25 ["_law_place","_law_side","_law_x","_law_y"] ["_law_place","_law_side"] λC f Q A outer s H E a=>Iu.out (HB (JS.mk<|VH (He 0)<|MY rfl<|Kb (sgn 2 C)<|Kb (sgn 3 C)<|Na)<|HL<|JS.mk<|IF<|HA (Hv a) (Ka<|JA.out<|HW (IV<|Hh (He 2)<|Hh (HU Jv (He 3)<|Hm)<|Hq)<|HW (IV<|Hh (HU Jv (He 2)<|Hm)<|Hh (He 3)<|Hq)<|HW (IV<|Hh (He 2)<|Hh (HU Qd (He 3)<|Hm)<|Hq)<|HW (IV<|Hh (HU Qd (He 2)<|Hm)<|Hh (He 3)<|Hq)<|K3)<|He 1)
theorem zgq:Jl P w K mg base 2 "_law_sides" 4 Xu:=Ju (k:=1) Z (top 33) 26 ["_law_bed_here","_law_there","_law_place","_law_kind_here","_law_kinds","_law_found","_law_side","_law_other","_law_mine"] ["_law_bed_here","_law_there","_law_place","_law_kind_here"] λa f b A outer s H E C=>Iu.out (HB (JS.mk<|ZY (i:=4) (j:=5) rfl a rfl rfl (!1) rfl rfl<|Hh (HA (Hv C) (HA (Hv C) (He 0)<|Hm)<|Hm)<|Hh (Ka<|Hq)<|Hq)<|HB (Kv AF rfl (K5 rfl Z.b1<|Hm) (sgn 6 a)<|HB (JS.mk<|Ij 7 a<|sM (Hv C) (He 1)<|HQ (gQ Z Q) C<|Hh (He 2)<|Hh (He 6)<|Hq)<|HB (JS.mk<|Ij 8 a<|HA (Hv C) (HA (Hv C) (He 4)<|He 3)<|HU Jv (He 6)<|Hm)<|HL<|J7 (SW.sb<|Mr (JW cJ (He 7) Tx rfl)<|Mr (JW (Np<|JM C) (He 8) Mq rfl)<|Ny<|JW (Oq<|JM C) (HA (Hv C) (HA (Hv C) (He 4)<|He 7)<|HU Jv (HU Md (HU Jv (He 6)<|Hm)<|Hm)<|Hm) (He 8) rfl) (HL<|JS.mk<|KW<|Nd (He 5)<|Hh (He 6)<|Hq)<|Kj)<|HL<|JS.mk<|IF<|He 5)
theorem Xj:Jl P w K mg base 3 "_law_by" 4 Nf:=Ju (k:=2) Z (top 34) 27 ["_law_bed_here","_law_there","_law_place","_law_kind_here","_law_sides_here","_law_strengths"] ["_law_bed_here","_law_there","_law_place","_law_kind_here"] λb f e A outer s H E a=>Iu.out (HB (JS.mk<|Ij 4 b<|HQ (zgq Z Q) a<|JA.out<|HW (He 0)<|HW (He 1)<|HW (He 2)<|HW (He 3)<|K3)<|HB (J7 (JW (Oq<|JM a) (He 4) (Ka<|Hq) rfl) (HL<|JS.mk<|IF<|Hm)<|Kj)<|HB (JS.mk<|Ij 5 b<|KY Z (Xc rfl) T7<|Hh (HA (Hv a) (HA (Hv a) (He 0)<|Hm)<|Hm)<|Hq)<|HL<|JS.mk<|IF<|Ke Z (eP rfl) Zz<|Hh (Ms rfl rfl (Ln (N':=["_law_side","_law_strengths","_law_bed_here","_law_kind_here"]) (nt:=1) (fr:=[5,0,3]) ["_law_strengths","_law_bed_here","_law_kind_here"] rfl (by decide +kernel) (by decide +kernel) (by decide +kernel) rfl ⟨⟨rfl,by decide⟩,⟨⟨rfl,by decide⟩,⟨⟨rfl,by decide⟩,trivial⟩⟩⟩ ⟨by first|exact Bl rfl|exact Bf rfl,⟨by first|exact Bl rfl|exact Bf rfl,⟨by first|exact Bl rfl|exact Bf rfl,trivial⟩⟩⟩) (Lo<|He 4) (λC s0 c d=>sgn 0 lA) (λC s0 c d=>MX) λC s0 c d=>HA (Hv a) (He 1) (HA (Hv a) (HA (Hv a) (HA (Hv a) (HA (Hv a) (He 2)<|Hm)<|Hm)<|He 3)<|HU Jv (He 0)<|Hm))<|Hq)
theorem zgt:Jl P w K mg base 2 "_law_empty" 2 UJ:=Ju (k:=1) Z (top 35) 28 ["_law_bed_here","_law_there","_law_found","_law_x","_law_y","_law_beside"] ["_law_bed_here","_law_there"] λb f e A outer s H E a=>Iu.out (HB (JS.mk<|Ij 2 b<|Ka<|Hq)<|HB (Kv AF rfl (K5 rfl Z.b1<|HA (Hv a) (HA (Hv a) (He 0)<|Hm)<|Hm) (sgn 3 b)<|HL<|Kv AF rfl (K5 rfl Z.b1<|HA (Hv a) (HA (Hv a) (He 0)<|Hm)<|Hm) (sgn 4 b)<|HB (JS.mk<|Uz (i:=5) rfl rfl (Ln (N':=["_law_side","_law_x","_law_y","_law_there"]) (nt:=1) (fr:=[3,4,1]) ["_law_x","_law_y","_law_there"] rfl (by decide +kernel) (by decide +kernel) (by decide +kernel) rfl ⟨⟨rfl,by decide⟩,⟨⟨rfl,by decide⟩,⟨⟨rfl,by decide⟩,trivial⟩⟩⟩ ⟨by first|exact Bl rfl|exact Bf rfl,⟨by first|exact Bl rfl|exact Bf rfl,⟨by first|exact Bl rfl|exact Bf rfl,trivial⟩⟩⟩) (K5 rfl Z.b1<|Hm) (λC s0 c d=>sgn 0 lB) (λC s0 c d=>Q9 (P2 (JM a) (HQ (gQ Z Q) a<|Hh (IV<|Hh (He 1)<|Hh (He 2)<|Hq)<|Hh (He 0)<|Hq)<|He 3)) (λC s0 c d=>He 0) b rfl rfl)<|HL<|J7 (SW.sb<|Mr (RD (JM a) (IV<|Hh (He 3)<|Hh (He 4)<|Hq)<|He 1)<|Ny<|JW (Np<|JM a) (He 5) (Ka<|Hq) rfl) (HL<|JS.mk<|KW<|Nd (He 2)<|Hh (IV<|Hh (He 3)<|Hh (He 4)<|Hq)<|Hq)<|Kj)<|HL<|JS.mk<|IF<|He 2)
theorem XB:Jl P w K mg base 4 "_law_may" 2 Nc:=Ju (k:=3) Z (top 36) 29 ["_law_bed_here","_law_there","_law_found","_law_place","_law_kind_here"] ["_law_bed_here","_law_there"] λa f b A outer s H E C=>Iu.out (HB (JS.mk<|Ij 2 a<|Ka<|Hq)<|HB (Kv AF rfl (Lo<|HQ (zgt Z Q) C<|Hh (He 0)<|Hh (He 1)<|Hq) (sgn 3 a)<|HL<|Kv AF rfl (K5 rfl Z.b1<|Ke Z Mg Mb<|Hh (HA (Hv C) (HA (Hv C) (He 0)<|Hm)<|Hm)<|Hq) (sgn 4 a)<|HL<|J7 (JW P0 (HQ (Xj Z Q) C<|JA.out<|HW (He 0)<|HW (He 1)<|HW (He 3)<|HW (He 4)<|K3) (HA (Hv C) (HA (Hv C) (He 0)<|Hm)<|Hm) rfl) (HL<|JS.mk<|KW<|Nd (He 2)<|Hh (HU Jv (He 3)<|IV<|Hh (He 4)<|Hq)<|Hq)<|Kj)<|HL<|JS.mk<|IF<|He 2)
theorem zha:Jl P w K mg base 5 "_law_walk" 3 UN:=Ju (k:=4) Z (top 37) 30 ["_law_pot","_law_bed_here","_law_most","_law_there","_law_row","_law_k","_law_some","_law_tile"] ["_law_pot","_law_bed_here","_law_most"] λa f b A outer s H E C=>Iu.out (HB (JS.mk<|ZY (i:=3) (j:=4) rfl a rfl rfl (!1) rfl rfl<|Hh (HQ (Qs Z Q) C<|Hh (HA (Hv C) (He 1)<|Hm)<|Hq)<|Hh (Ka<|Hq)<|Hq)<|HB (Kv AF rfl (K5 rfl Z.b1<|He 2) (sgn 5 a)<|HB (JS.mk<|Ij 6 a<|HQ (XB Z Q) C<|Hh (He 1)<|Hh (He 3)<|Hq)<|HL<|J7 (JW (Np<|JM C) (He 6) (Ka<|Hq) rfl) (HB (JS.mk<|Ij 7 a<|HA (Hv C) (He 6)<|HQ (JG Z Q) C<|Hh (He 0)<|Hh (Ke Z Mg Mb<|Hh (He 6)<|Hq)<|Hq)<|HB (JS.mk<|LP (Hv C) (He 3) (NA (He 7) Nv<|Nw<|Hm)<|HA (Hv C) (He 7)<|Hm)<|HL<|JS.mk<|KW<|Nd (He 4)<|Hh (He 7)<|Hq)<|Kj)<|HL<|JS.mk<|IF<|KY Z Mv Mi<|Hh (He 4)<|Hq)
theorem zfC:Jl P w K mg base 6 "_law_spoilt" 2 RN:=Ju (k:=5) Z (top 38) 31 ["_law_pot","_law_bed_here","_law_there","_law_tile","_law_k","_law_places","_law_way","_law_place"] ["_law_pot","_law_bed_here"] λa f b A outer s H E C=>Iu.out (HB (JS.mk<|Ij 2 a<|HQ (Qs Z Q) C<|Hh (HA (Hv C) (He 1)<|Hm)<|Hq)<|HB (Kv AF rfl (Lo<|HQ (zha Z Q) C<|Hh (He 0)<|Hh (He 1)<|Hh Hm<|Hq) (sgn 3 a)<|HL<|JS.mk<|LP (Hv C) (He 2) (NA (He 3) Nv<|Nw<|Hm)<|HA (Hv C) (He 3)<|Hm)<|HB (Kv AF rfl (K5 rfl Z.b1<|HQ (JG Z Q) C<|Hh (He 0)<|Hh Hm<|Hq) (sgn 4 a)<|HB (JS.mk<|Ij 5 a<|Ke Z (zhw rfl) Pd<|Hh (He 2)<|Hq)<|HB (JS.mk<|Ij 6 a<|HQ (JG Z Q) C<|Hh (He 0)<|Hh Hm<|Hq)<|HB (JS.mk<|Ij 7 a<|IV<|Hh (HQ (JG Z Q) C<|Hh (He 0)<|Hh (HA (Hv C) (HA (Hv C) (He 1)<|Hm)<|Hm)<|Hq)<|Hh (HQ (JG Z Q) C<|Hh (He 0)<|Hh (HA (Hv C) (HA (Hv C) (He 1)<|Hm)<|Hm)<|Hq)<|Hq)<|HB (J7 (SW.sb<|Mr (JW ZS (He 6) Hm rfl)<|Ny<|JW (Np<|JM C) (He 5) (Ka<|Hq) rfl) (HL<|JS.mk<|Ij 7 a<|HA (Hv C) (He 5)<|HQ (JG Z Q) C<|Hh (He 0)<|Hh (Ke Z Mg Mb<|Hh (He 5)<|Hq)<|Hq)<|Kj)<|HL<|J7 (SW.sb<|Mr (JW (Oq<|JM C) (He 6) Hm rfl)<|Ny<|P2 (JM C) (He 7)<|He 2) (HL<|JS.mk<|KW<|vC (Hv C) (He 2)<|He 7)<|HL<|JS.mk<|LP (Hv C) (He 2) (He 7)<|HQ (JG Z Q) C<|Hh (He 0)<|Hh (Ke Z Mg Mb<|Hh (HA (Hv C) (HA (Hv C) (He 1)<|Hm)<|Hm)<|Hq)<|Hq)<|HL<|JS.mk<|IF<|HQ (XQ Z Q) C<|Hh (He 2)<|Hq)
theorem ze1:Jl P w K mg base 4 "_law_without" 3 US:=Ju (k:=3) Z (top 39) 32 ["_law_bed_here","_law_tiles","_law_place","_law_there","_law_grows","_law_x","_law_y","_law_kind_here"] ["_law_bed_here","_law_tiles","_law_place"] λa f b A outer s H E C=>Iu.out (HB (JS.mk<|Ij 3 a<|HQ (Qs Z Q) C<|Hh (HA (Hv C) (He 0)<|Hm)<|Hq)<|HB (JS.mk<|Ij 4 a<|MW)<|HB (Wj AF (Q8<|He 4)<|HB (JS.mk<|Ij 4 a<|MW)<|HL<|Kv AF rfl (Lo<|He 1) (MY rfl<|Kb (sgn 5 a)<|Kb (sgn 6 a)<|Kb (sgn 7 a)<|Na)<|HL<|J7 (SW.sb<|Mr (JW (Np<|JM C) (IV<|Hh (He 5)<|Hh (He 6)<|Hq) (He 2) rfl)<|Mr (RD (JM C) (IV<|Hh (He 5)<|Hh (He 6)<|Hq)<|He 3)<|Ny<|JW P0 (HQ (Xj Z Q) C<|JA.out<|HW (He 0)<|HW (He 3)<|HW (IV<|Hh (He 5)<|Hh (He 6)<|Hq)<|HW (He 7)<|K3) (HA (Hv C) (HA (Hv C) (He 0)<|Hm)<|Hm) rfl) (HB (JS.mk<|LP (Hv C) (He 3) (IV<|Hh (He 5)<|Hh (He 6)<|Hq)<|He 7)<|HL<|JS.mk<|Ij 4 a<|MW)<|Kj)<|HL<|JS.mk<|IF<|He 3)
theorem zfD:Jl P w K mg base 5 "_law_end_of" 1 XG:=Ju (k:=4) Z (top 40) 33 ["_law_bed_here","_law_there","_law_k","_law_some","_law_tile"] ["_law_bed_here"] λa f b A outer s H E C=>Iu.out (HB (JS.mk<|Ij 1 a<|HQ (Qs Z Q) C<|Hh (HA (Hv C) (He 0)<|Hm)<|Hq)<|HB (Kv AF rfl (K5 rfl Z.b1<|HU Me (HA (Hv C) (HA (Hv C) (He 0)<|Hm)<|Hm)<|HA (Hv C) (HA (Hv C) (He 0)<|Hm)<|Hm) (sgn 2 a)<|HB (JS.mk<|Ij 3 a<|HQ (XB Z Q) C<|Hh (He 0)<|Hh (He 1)<|Hq)<|HL<|Kv AF rfl (Lo<|NA (He 3) Nv<|Nw<|Hm) (sgn 4 a)<|HL<|JS.mk<|LP (Hv C) (He 1) (NA (He 4) Nv<|Nw<|Hm)<|HA (Hv C) (He 4)<|Hm)<|HL<|JS.mk<|IF<|HQ (XQ Z Q) C<|Hh (He 1)<|Hq)
theorem ze2:Jl P w K mg base 5 "_law_is_sure" 2 XJ:=Ju (k:=4) Z (top 41) 34 ["_law_bed_here","_law_end","_law_seeds","_law_x","_law_y","_law_kind_here","_law_there","_law_some"] ["_law_bed_here","_law_end"] λb f e A outer s H E a=>Iu.out (HB (JS.mk<|Ij 2 b<|HQ (Qs Z Q) a<|Hh (HA (Hv a) (He 0)<|Hm)<|Hq)<|HB (Kv AF rfl (Lo<|He 1) (MY rfl<|Kb (sgn 3 b)<|Kb (sgn 4 b)<|Kb (sgn 5 b)<|Na)<|HL<|J7 (RD (JM a) (IV<|Hh (He 3)<|Hh (He 4)<|Hq)<|He 2) (HB (JS.mk<|Ij 6 b<|HQ (ze1 Z Q) a<|Hh (He 0)<|Hh (He 1)<|Hh (IV<|Hh (He 3)<|Hh (He 4)<|Hq)<|Hq)<|HB (JS.mk<|Uz (i:=7) rfl rfl (Ln (N':=["_law_one","_law_bed_here","_law_there","_law_x","_law_y"]) (nt:=1) (fr:=[0,6,3,4]) ["_law_bed_here","_law_there","_law_x","_law_y"] rfl (by decide +kernel) (by decide +kernel) (by decide +kernel) rfl ⟨⟨rfl,by decide⟩,⟨⟨rfl,by decide⟩,⟨⟨rfl,by decide⟩,⟨⟨rfl,by decide⟩,trivial⟩⟩⟩⟩ ⟨by first|exact Bl rfl|exact Bf rfl,⟨by first|exact Bl rfl|exact Bf rfl,⟨by first|exact Bl rfl|exact Bf rfl,⟨by first|exact Bl rfl|exact Bf rfl,trivial⟩⟩⟩⟩) (K5 rfl Z.b1<|Ke Z Mg Mb<|Hh (HA (Hv a) (HA (Hv a) (He 0)<|Hm)<|Hm)<|Hq) (λC s0 c d=>sgn 0 lC) (λC s0 c d=>Q9 (JW P0 (HQ (Xj Z Q) a<|JA.out<|HW (He 1)<|HW (He 2)<|HW (IV<|Hh (He 3)<|Hh (He 4)<|Hq)<|HW (He 0)<|K3) (HA (Hv a) (HA (Hv a) (He 1)<|Hm)<|Hm) rfl)) (λC s0 c d=>He 0) b rfl rfl)<|HL<|J7 (JW (Np<|JM a) (He 7) (Ka<|Hh (He 5)<|Hq) rfl) (HL<|JS.mk<|IF<|MW)<|Kj)<|Kj)<|HL<|JS.mk<|IF<|MW)
theorem nA{f:Addr}{fd:FuncData}(F:Mm K "law" "law" (top 42) f fd):Jj P w K mg base KG 9 f fd ["_law_script"] (Mw K 1<|Vj C):=jF (k:=8) F ["_law_script","_law_k","_law_pot","_law_bed_here","_law_end","_law_sure","_law_standing_here","_law_part","_law_there","_law_x","_law_y","_law_kind_here"] ["_law_script"] λb e A outer s H E a=>Iu.out (HB (Kv AF rfl (K5 rfl Z.b1<|HU Jv Hm<|Ke Z (yY rfl) Zy<|Hh Hm<|Hh (Ke Z Mg Mb<|Hh (He 0)<|Hq)<|Hq) (sgn 1 b)<|HB (JS.mk<|Ij 2 b<|HQ (zgu Z Q) a<|Hh (He 0)<|Hh (He 1)<|Hq)<|HB (JS.mk<|Ij 3 b<|HQ (zh4 Z Q) a<|Hh (He 2)<|Hq)<|HB (JS.mk<|Ij 4 b<|HQ (zfD Z Q) a<|Hh (He 3)<|Hq)<|HB (JS.mk<|Ij 5 b<|HQ (ze2 Z Q) a<|Hh (He 3)<|Hh (He 4)<|Hq)<|HL<|Kv AF rfl (Lo<|Ka<|Hh (HQ (zfC Z Q) a<|Hh (He 2)<|Hh (He 3)<|Hq)<|Hh (HQ (iI Z Q) a<|JA.out<|HW (He 2)<|HW (HA (Hv a) (He 3)<|Hm)<|HW (HA (Hv a) (He 3)<|Hm)<|HW Hm<|K3)<|Hq) (sgn 6 b)<|HB (JS.mk<|Ij 7 b<|HQ (cH Z Q) a<|Hh (He 3)<|Hh (He 6)<|Hq)<|HB (JS.mk<|Ij 8 b<|HQ (Qs Z Q) a<|Hh (He 7)<|Hq)<|HB (Kv AF rfl (Lo<|HA (Hv a) (HQ (zmL Z Q) a<|Hh (He 3)<|Hh (He 6)<|Hq)<|Hm) (MY rfl<|Kb (sgn 9 b)<|Kb (sgn 10 b)<|Kb (sgn 11 b)<|Na)<|HB (J7 (P2 (JM a) (IV<|Hh (He 9)<|Hh (He 10)<|Hq)<|He 8) (HL<|JS.mk<|IF<|MW)<|Kj)<|HL<|JS.mk<|LP (Hv a) (He 8) (IV<|Hh (He 9)<|Hh (He 10)<|Hq)<|He 11)<|HB (J7 (SW.sb<|Zn (JW (Np<|JM a) (HQ (XB Z Q) a<|Hh (He 3)<|Hh (He 8)<|Hq) (Ka<|Hq) rfl)<|Z0<|SW.sb<|Mr (Q8<|He 5)<|Ny<|JW (Np<|JM a) (HQ (XQ Z Q) a<|Hh (He 8)<|Hq) (He 4) rfl) (HL<|JS.mk<|IF<|MW)<|Kj)<|HL<|J7 (SW.sb<|Mr (Q8<|He 5)<|Ny<|Tv<|QO<|Ke Z (yT rfl) nZ<|Hh (Ms rfl rfl (Ln (N':=["_law_tile","_law_end"]) (nt:=1) (fr:=[4]) ["_law_end"] rfl (by decide +kernel) (by decide +kernel) (by decide +kernel) rfl ⟨⟨rfl,by decide⟩,trivial⟩ ⟨by first|exact Bl rfl|exact Bf rfl,trivial⟩) (Lo<|He 7) (λC s0 c d=>sgn 0 lD) (λC s0 c d=>MX) λC s0 c d=>pE (JM a) (He 0) (He 1))<|Hq) (HL<|JS.mk<|IF<|MW)<|Kj)<|HL<|JS.mk<|IF<|MW)
end
end L2.MP.T0
namespace L2.MP.T0
open PySem L2.MP L2.MP.Hd
open L2.MP.Hn (Hw)
variable {x y:Int}
def Ua{d:Nat}{kvs:List (List Key×D)}{st:Hg}(h:st[d]?=some (.dt kvs)):Kx (.tup [.int x,.int y]) (.ref d) st=some (.bl (!(HS kvs [.inl x,.inl y]).isSome),st):=by
 have a:IC 50 st (.ref d)=none:=by rw[IC];simp[HZ,h]
 have b:inD true (.tup [.int x,.int y]) (.ref d) st=none:=by
  unfold inD;rw[a];cases IC 50 st (.tup [.int x,.int y])<;>rfl
 unfold Kx JX TB JX;rw[b,Ku];simp[NZ,look,h,keysOf,keyOf,Kt]
def tD(t:Tl):D:=HG<|Ia t
def Jf(stk:List (Str×Int))(ks:List (!6))(P:List Tl)(x y:Int)(k:Nat):Int:=((Jw (Iz ks (k:Int))<|names4 ks P x y).map λp=>sv stk p.1).sum
def gK(e:Int)(stk:List (Str×Int))(ks:List (!6))(P:List Tl)(x y:Int)(n:Nat):List Tl:=((Av n).filter λk=>decide (e<=Jf stk ks P x y k)).map λ(k:Nat)=>(x,y,(k:Int))
def TX(e:Int)(stk:List (Str×Int))(ks:List (!6))(P:List Tl)(x y:Int)(n:Nat):gK e stk ks P x y (n+1)=if e<=Jf stk ks P x y n then gK e stk ks P x y n++[(x,y,(n:Int))]else gK e stk ks P x y n:=by
 unfold gK;rw[Cr,DO,AZ];by_cases h:e<=Jf stk ks P x y n
 ·rw[if_pos h];simp[h]
 rw[if_neg h];simp[h]
def Tr(e:Int)(stk:List (Str×Int))(ks:List (!6))(P:List Tl)(x y:Int)(n:Nat):(gK e stk ks P x y n).length<=n:=by unfold gK;rw[Af];exact AB (AQ _ _)<|by simp
structure Ctx(bed:D)(e:Int)(stk:List (Str×Int))(ks:List (!6))(w h:Int):Prop where
 at_:∃hs:D,(∀s:Hg,Hf bed (.int 0) s=some (hs,s))/\(∀s:Hg,Hf hs (.int 0) s=some (.int e,s))/\(∀s:Hg,Hf hs (.int 1) s=some (.tup (stk.map Ki),s))/\∀s:Hg,Hf hs (.int 2) s=some (.tup (ks.map IE),s)
 fl:∀s:Hg,Hf bed (.int 1) s=some (.tup [.int w,.int h],s)
 hs:N4 e stk ks
 fo:JE w h
variable {e w h:Int}
def Ctx.bed{bed:D}{e w h:Int}{stk:List (Str×Int)}{ks:List (!6)}(c:Ctx bed e stk ks w h):KH bed stk ks:=let ⟨x,i0,_,i1,i2⟩:=c.at_;⟨x,i0,i1,i2⟩
def Ctx.ks{bed:D}{e w h:Int}{stk:List (Str×Int)}{ks:List (!6)}(c:Ctx bed e stk ks w h):KO (stk.map (·.1)) ks:=⟨by have:=c.hs.hi;omega,c.hs.kd⟩
def Ctx.stk{bed:D}{e w h:Int}{stk:List (Str×Int)}{ks:List (!6)}(c:Ctx bed e stk ks w h):∀p∈stk,1<=p.2/\p.2<=4:=λp x=>(c.hs.nm p x).2
def Yw{S:List Str}:Jw S [("":Str),("":Str),("":Str),("":Str)]=[]:=by
 unfold Jw;rw[Di];intro p e;obtain⟨a,b⟩:=p;have w:b="":=by have:=(CS e).2;simpa using this
 subst w;cases h:a=="" with
 |true=>simp[bne,h]
 |false=>simp[h]
def Zu{stk:List (Str×Int)}{ks:List (!6)}{P:List Tl}(he:1<=e)(h:names4 ks P x y=[("":Str),("":Str),("":Str),("":Str)])(n:Nat):gK e stk ks P x y n=[]:=by
 unfold gK;have:(Av n).filter (λk=>decide (e<=Jf stk ks P x y k))=[]:=by rw[Di];intro k _;unfold Jf;rw[h,Yw];simp;omega
 rw[this];rfl
end L2.MP.T0
namespace L2.MP.T0
open PySem L2.MP L2.MP.Hd
def nb(x y:Int):Nat->Int×Int
 |0=>(x,y+1)
 |1=>(x+1,y)
 |2=>(x,y-1)
 |_=>(x-1,y)
def Iw(P:List Tl)(x y:Int)(j:Nat):Bool:=(HN P (nb x y j).1 (nb x y j).2).isSome
def Lq(P:List Tl)(x y:Int):Bool:=!(HN P x y).isSome&&!((Av 4).filter<|Iw P x y).isEmpty
variable {ks:List (!6)}{P:List Tl}{x y:Int}
def sQ(h:(Av 4).filter (Iw P x y)=[]):names4 ks P x y=[("":Str),("":Str),("":Str),("":Str)]:=by
 rw[Di]at h;have a:HN P x (y+1)=none:=by simpa[Iw,nb]using h 0 (!1)
 have b:HN P (x+1) y=none:=by simpa[Iw,nb]using h 1 (!1)
 have c:HN P x (y-1)=none:=by simpa[Iw,nb]using h 2 (!1)
 have d:HN P (x-1) y=none:=by simpa[Iw,nb]using h 3 (!1)
 unfold names4 JP;simp only[a,b,c,d]
section
variable (P:List Tl)
def eC(x:Int)(m:Nat):List (Int×Int):=((Av m).filter λ(j:Nat)=>Lq P x (j:Int)).map λ(j:Nat)=>(x,(j:Int))
def eF(h:Int)(n:Nat):List (Int×Int):=((Av n).map λ(i:Nat)=>eC P (i:Int) h.toNat).flatten
def rF(x:Int)(m:Nat):eC P x (m+1)=if Lq P x (m:Int)=true then eC P x m++[(x,(m:Int))]else eC P x m:=by
 unfold eC;rw[Cr,DO,AZ];by_cases h:Lq P x (m:Int)=true
 ·rw[if_pos h];simp[h]
 rw[if_neg h];simp[h]
def V5(h:Int)(n:Nat):eF P h (n+1)=eF P h n++eC P (n:Int) h.toNat:=by unfold eF;rw[Cr,AZ,DE];simp
def ZD(x:Int)(m:Nat):(eC P x m).length<=m:=by unfold eC;rw[Af];exact AB (AQ _ _)<|by simp
theorem Tq(h:Int):∀n:Nat,(eF P h n).length<=n*h.toNat
 |0=>by simp[eF]
 |n+1=>by have a:=Tq h n;have x:=ZD P (n:Int) h.toNat;rw[V5,AD,DJ];omega
end
def Ic(e:Int)(stk:List (Str×Int))(ks:List (!6))(P:List Tl)(ps:List (Int×Int)):List Tl:=(ps.map λp=>gK e stk ks P p.1 p.2 ks.length).flatten
def vL(e:Int)(stk:List (Str×Int))(ks:List (!6))(P:List Tl)(a b:List (Int×Int)):Ic e stk ks P (a++b)=Ic e stk ks P a++Ic e stk ks P b:=by unfold Ic;rw[AZ,DE]
variable {l:Nat}{st:Hg}
def ne_nil{m:Nat}{js:List Nat}(a:st[l]?=some (.lst<|js.map λ(i:Nat)=>D.int (i:Int)))(hm:st[m]?=some (.lst [])):IY (.ref l) (.ref m) st=some (.bl !js.isEmpty,st):=by
 have e:(js.map λ(i:Nat)=>D.int (i:Int))=(js.map λ(i:Nat)=>(i:Int)).map D.int:=by rw[AJ];rfl
 rw[e]at a;unfold IY;rw[OB (n:=98) a,OB (n:=98) (as:=[]) hm];cases js<;>rfl
variable {d:Nat}{s s1:Hg}
def sP{J a b:Int}{q:Bool}(c:NH [.tup [.int x,.int y],.int J] s=some (.tup [.int a,.int b],s1))(e:J5 (.tup [.int a,.int b]) (.ref d) s1=some (.bl q,s1)):Pl [some (.int J),some (.int x),some (.int y),some (.ref d)] s=some (q,s1):=by unfold Pl;simp[c,e]
def sO(hd:st[d]?=some (.dt<|P.map Hi)):∃b,Jc ⟨run 0 4,[]⟩ (Hl 0) Pl RO (run 0 4) [none,some (.int x),some (.int y),some (.ref d)] st=some (((Av 4).filter<|Iw P x y).map λ(i:Nat)=>D.int (i:Int),b)/\Gr st b:=by
 have key:=ON (W:=⟨run 0 4,[]⟩) (g:=Hl 0) (c:=Pl) (m:=RO) (ds:=run 0 4) (acc:=[]) (st:=st) (U:=[none,some (.int x),some (.int y),some (.ref d)])
  (Inv:=λk a U s=>Y3 ((∃u,U=[u,some (.int x),some (.int y),some (.ref d)])) (a=fl (Iw P x y) k) (Gr st s))
  ⟨⟨_,rfl⟩,rfl,Gr.refl _⟩ (λ_ _ _ _ _ _=>rfl) (λk z a U s j p=>by
   obtain⟨⟨u,rfl⟩,rfl,n⟩:=p;obtain⟨hk,rfl⟩:=LO j;have q:[D.tup [.int x,.int (y+1)],.tup [.int (x+1),.int y],.tup [.int x,.int (y-1)],.tup [.int (x-1),.int y]][((k:Nat):Int).toNat]?=some (.tup [.int (nb x y k).1,.int (nb x y k).2]):=by
    rw[BA]
    match k,hk with
    |0,_=>rfl
    |1,_=>rfl
    |2,_=>rfl
    |3,_=>rfl
   obtain⟨s1,r,g1⟩:=aP (s:=s) (J:=(k:Int)) (!0) q;have l:=n.trans g1;have e:=OV (x:=(nb x y k).1) (y:=(nb x y k).2)<|(l.old _<|qax hd).trans hd;rw[Lm,Be]at e;have f:=sP r e
   cases h:(HN P (nb x y k).1 (nb x y k).2).isSome with
   |true=>
    rw[h]at f;refine⟨[some (.int (k:Int)),some (.int x),some (.int y),some (.ref d)],s,true,s1,rfl,f,.inl ⟨rfl,.int (k:Int),s1,rfl,⟨_,rfl⟩,?_,l⟩⟩;rw[Qg,if_pos (show Iw P x y k=true from h)]
   |false=>
    rw[h]at f;refine⟨[some (.int (k:Int)),some (.int x),some (.int y),some (.ref d)],s,false,s1,rfl,f,.inr ⟨rfl,⟨_,rfl⟩,?_,l⟩⟩;rw[Qg,if_neg (show ¬Iw P x y k=true by unfold Iw;rw[h];decide)])
 obtain⟨xs,A,v,w,_,o,n⟩:=key;rw[CY]at o;subst o;exact⟨v,w,n⟩
variable {bed:D}{a5:Option D}{L:List D}{s2:Hg}
def rB{b:Nat}{c e:Bool}(h:I0 (IW<|mK<|.int 4) 1 [3,4,1] (Hl 0) Pl RO [some bed,some (.ref d),some (.ref l),some (.int x),some (.int y),a5] s=some (.ref b,s1))(f:Kx (.tup [.int x,.int y]) (.ref d) s1=some (.bl c,s1))(a:s1++[.lst []]=s2)(g:IY (.ref b) (.ref s1.length) s2=some (.bl e,s2))(i:s2[l]?=some (.lst L))(j:Lb (.ref l) [.tup [.int x,.int y]] s2=some (.non,s2.set l (.lst<|L++[.tup [.int x,.int y]]))):
  RS [some bed,some (.ref d),some (.ref l),some (.int x),some (.int y),a5] s=some (.nx [some bed,some (.ref d),some (.ref l),some (.int x),some (.int y),some (.ref b)],if c=true then(if e=true then s2.set l (.lst<|L++[.tup [.int x,.int y]])else s2)else s1):=by
 unfold RS;refine Hz (U1:=[some bed,some (.ref d),some (.ref l),some (.int x),some (.int y),some (.ref b)]) (s1:=s1) (by rw[Oj,h];rfl) ?_
 cases c with
 |false=>simp[f]
 |true=>
  cases e with
  |false=>simp[f,a,g]
  |true=>simp[f,a,g,HZ,i,j]
variable {st0:Hg}
def rA{L:List (Int×Int)}(hd:s[d]?=some (.dt<|P.map Hi))(e:s[l]?=some (.lst<|L.map HI))(A:L.length<=9000)(h0:st0.length<=l)(f:d≠l)(h:Gr st0 s):
  ∃(o:Option D) (s':Hg),Y4 (RS [some bed,some (.ref d),some (.ref l),some (.int x),some (.int y),a5] s=some (.nx [some bed,some (.ref d),some (.ref l),some (.int x),some (.int y),o],s')) (s'[l]?=some (.lst<|(if Lq P x y=true then L++[(x,y)]else L).map HI)) (s'[d]?=s[d]?) (Gr st0 s'):=by
 obtain⟨s1,p,g1⟩:=sO (x:=x) (y:=y) hd;have hle:((Av 4).filter<|Iw P x y).length<=4:=by have:=AQ (Iw P x y)<|Av 4;rw[Cb]at this;exact this
 have m:fits (((Av 4).filter<|Iw P x y).map λ(i:Nat)=>D.int (i:Int)).length=true:=JK (by rw[Af];omega);have a2:=Iq s1<|.lst<|((Av 4).filter<|Iw P x y).map λ(i:Nat)=>D.int (i:Int);have g2:=g1.trans<|Gr.app s1 [.lst (((Av 4).filter<|Iw P x y).map λ(i:Nat)=>D.int (i:Int))];have q:I0 (IW<|mK<|.int 4) 1 [3,4,1] (Hl 0) Pl RO [some bed,some (.ref d),some (.ref l),some (.int x),some (.int y),a5] s=some (.ref s1.length,s1++[.lst (((Av 4).filter<|Iw P x y).map λ(i:Nat)=>D.int (i:Int))]):=by rw[JH,Q6 (k:=4) rfl (!1)];simp only[Ac];rw[show IL [some bed,some (.ref d),some (.ref l),some (.int x),some (.int y),a5] 1 [3,4,1]=[none,some (.int x),some (.int y),some (.ref d)] from rfl,p];simp only[Ac,m,if_true]
 generalize s1++[O.lst (((Av 4).filter<|Iw P x y).map λ(i:Nat)=>D.int (i:Int))]=s2 at *;have b:=Ua (x:=x) (y:=y)<|(g2.old _<|qax hd).trans hd;rw[Lm,Be]at b;have r:(s2++[O.lst []])[s1.length]?=some (.lst<|((Av 4).filter<|Iw P x y).map λ(i:Nat)=>D.int (i:Int)):=by rw[Am (qax a2)];exact a2
 have u:=ne_nil r<|Iq s2<|.lst [];have g3:=g2.trans<|Gr.app s2 [.lst []];have n:=(g2.old _<|qax e).trans e;have a:=(g3.old _<|qax e).trans e;have hd2:=g2.old _<|qax hd;have c:=g3.old _<|qax hd;have v:=append_at (x:=.tup [.int x,.int y]) a (by rw[Af];omega);have w:=rB q b rfl u a v;generalize s2++[O.lst []]=s3 at *;refine⟨_,_,w,?_,?_,?_⟩
 ·unfold Lq
  cases (HN P x y).isSome with
  |true=>simpa using n
  |false=>
   cases ((Av 4).filter<|Iw P x y).isEmpty with
   |true=>simpa using a
   |false=>
    simp only[Fb,if_true,GL];rw[As (qax a),AZ];rfl
 ·cases (HN P x y).isSome with
  |true=>simpa using hd2
  |false=>
   cases ((Av 4).filter<|Iw P x y).isEmpty with
   |true=>simpa using c
   |false=>
    simp only[Fb,if_true];rw[Ah (BF f)];exact c
 ·cases (HN P x y).isSome with
  |true=>simpa using h.trans g2
  |false=>
   cases ((Av 4).filter<|Iw P x y).isEmpty with
   |true=>simpa using h.trans g3
   |false=>
    simp only[Fb,if_true];have g:=h.trans g3;exact⟨by rw[Bk];exact g.len,λj z=>by rw[Ah (!0)];exact g.old j z⟩
variable {e w h:Int}{stk:List (Str×Int)}
def Uk(c:Ctx bed e stk ks w h)(hd:st[d]?=some (.dt<|P.map Hi)):
  ∃o,Y3 (UJ [bed,.ref d] st=some (.ref st.length,o)) (o[st.length]?=some (.lst<|(eF P h w.toNat).map HI)) (Gr st o):=by
 have f1:=c.fo.w0;have f2:=c.fo.w1;have f3:=c.fo.h0;have f4:=c.fo.h1;have E:=qax hd;have F:h.toNat<=12:=by omega
 have bound:∀n m:Nat,n<=12->m<=h.toNat->(eF P h n++eC P (n:Int) m).length<=9000:=λn m N hm=>by have b1:=Tq P h n;have b2:=ZD P (n:Int) m;have b3:n*h.toNat<=12*12:=Cf N F;rw[AD];omega
 have G:(st++[O.lst []])[d]?=some (.dt<|P.map Hi):=by rw[Am E];exact hd
 have key:=Ky (W:=⟨run 0 w.toNat,[]⟩) (g:=Hl 3) (m:=XM) (ds:=run 0 w.toNat) (U:=[some bed,some (.ref d),some (.ref st.length),none,none,none]) (st:=st++[.lst []])
  (Inv:=λk U s=>Y4 ((∃a b H,U=[some bed,some (.ref d),some (.ref st.length),a,b,H])) (s[st.length]?=some (.lst<|(eF P h k).map HI)) (s[d]?=some (.dt<|P.map Hi)) (Gr st s))
  ⟨⟨_,_,_,rfl⟩,Iq _ _,G,Gr.app _ _⟩ (λ_ _ _ _ _=>rfl) (λk Q U s p I=>by
   obtain⟨⟨u,v,q,rfl⟩,L,f,B⟩:=I;obtain⟨hk,rfl⟩:=LO p;have C:=Ky (W:=⟨run 0 h.toNat,[]⟩) (g:=Hl 4) (m:=RS) (ds:=run 0 h.toNat) (U:=[some bed,some (.ref d),some (.ref st.length),some (.int (k:Int)),v,q]) (st:=s)
    (Inv:=λj U s=>Y4 ((∃b H,U=[some bed,some (.ref d),some (.ref st.length),some (.int (k:Int)),b,H])) (s[st.length]?=some (.lst<|(eF P h k++eC P (k:Int) j).map HI)) (s[d]?=some (.dt<|P.map Hi)) (Gr st s))
    ⟨⟨_,_,rfl⟩,by simpa[eC]using L,f,B⟩ (λ_ _ _ _ _=>rfl) (λj Q U s p I=>by
     obtain⟨⟨v,q,rfl⟩,L,f,B⟩:=I;obtain⟨hj,rfl⟩:=LO p;obtain⟨b5,A,S,l,i,r⟩:=rA (bed:=bed) (x:=(k:Int)) (y:=(j:Int)) (a5:=q) f L (bound k j (!0)<|by omega) (Ag _) (!0) B;refine⟨[some bed,some (.ref d),some (.ref st.length),some (.int (k:Int)),some (.int (j:Int)),q],s,_,A,rfl,S,⟨_,_,rfl⟩,?_,i.trans f,r⟩;rw[l,rF]
     by_cases ho:Lq P (k:Int) (j:Int)=true
     ·rw[if_pos ho,if_pos ho,Aj]
     rw[if_neg ho,if_neg ho])
   obtain⟨T,A,J,⟨X,Y,rfl⟩,l,i,r⟩:=C;rw[Ld]at l;refine⟨[some bed,some (.ref d),some (.ref st.length),some (.int (k:Int)),v,q],s,[some bed,some (.ref d),some (.ref st.length),some (.int (k:Int)),X,Y],A,rfl,?_,⟨_,_,_,rfl⟩,by rw[V5];exact l,i,r⟩;have K:small h=true:=Oy (!0) (!0);have z:=c.fl s;have M:Hf (.tup [.int w,.int h]) (.int 1) s=some (.int h,s):=Im (!1) rfl;unfold XM;have:IW (mB Hf (mB Hf (mV 0)<|mK<|.int 1)<|mK<|.int 1) [some bed,some (.ref d),some (.ref st.length),some (.int (k:Int)),v,q] s=some (⟨run 0 h.toNat,[]⟩,s):=by generalize (k:Int)=kk;simp[z,M,K]
   rw[Kg,this];exact J)
 obtain⟨T,A,J,⟨u,v,q,rfl⟩,L,f,B⟩:=key;rw[Ld]at L;refine⟨A,IH ?_,L,B⟩;have K:small w=true:=Oy (!0) (!0);have z:=c.fl (st++[.lst []]);have Z:Hf (.tup [.int w,.int h]) (.int 0) (st++[.lst []])=some (.int w,st++[.lst []]):=Im (!1) rfl;unfold gT;refine Hz (U1:=[some bed,some (.ref d),some (.ref st.length),none,none,none]) (s1:=st++[.lst []]) (!2) ?_;refine Hz (U1:=[some bed,some (.ref d),some (.ref st.length),u,v,q]) (s1:=A) (by
  have:IW (mB Hf (mB Hf (mV 0)<|mK<|.int 1)<|mK<|.int 0) [some bed,some (.ref d),some (.ref st.length),none,none,none] (st++[.lst []])=some (⟨run 0 w.toNat,[]⟩,st++[.lst []]):=by simp[z,Z,K]
  rw[Kg,this];exact J) ?_
 simp
open L2.MP.Hn (Hw Mu Hk Jo)
def Rg{k:Nat}(h:(Iz ks (k:Int)).length=4):((alike (Iz ks (k:Int))<|names4 ks P x y).map λi=>sv stk ((Iz ks (k:Int)).getD i "")).sum=Jf stk ks P x y k:=by unfold Jf;rw[zmg h rfl]
variable {hs pl:D}{K E:Int}
def tO{R:Int}{v:D}(b:Nf [bed,.ref d,pl,.int K] s=some (.int R,s1))(c:Hf bed (.int 0) s1=some (hs,s1))(f:Hf hs (.int 0) s1=some (.int E,s1))(g:E<=R)(i:s1[l]?=some (.lst L))(j:HF pl (.tup [.int K]) s1=some (v,s1))(a:Lb (.ref l) [v] s1=some (.non,s1.set l (.lst<|L++[v]))):
  Qx [some bed,some (.ref d),some (.ref l),some pl,some (.int K)] s=some (.nx [some bed,some (.ref d),some (.ref l),some pl,some (.int K)],s1.set l (.lst<|L++[v])):=by
 unfold Qx;simp[b,c,f,g,HZ,i,j,a]
def vO{R:Int}(a:Nf [bed,.ref d,pl,.int K] s=some (.int R,s1))(b:Hf bed (.int 0) s1=some (hs,s1))(c:Hf hs (.int 0) s1=some (.int E,s1))(f:¬E<=R):
  Qx [some bed,some (.ref d),some (.ref l),some pl,some (.int K)] s=some (.nx [some bed,some (.ref d),some (.ref l),some pl,some (.int K)],s1):=by
 unfold Qx;simp[a,b,c,f]
def Rt{P:List Tl}{p:Int×Int}{a4:Option D}{L:List Tl}(c:Ctx bed e stk ks w h)(B:∀t∈P,0<=t.2.2/\t.2.2<(ks.length:Int))(hd:s[d]?=some (.dt<|P.map Hi))(C:s[l]?=some (.lst<|L.map tD))(T:L.length<=9000)(h0:st0.length<=l)(i:d≠l)(X:Gr st0 s):
  ∃(F:Option D) (s':Hg),Y3 (UK [some bed,some (.ref d),some (.ref l),some (HI p),a4] s=some (.nx [some bed,some (.ref d),some (.ref l),some (HI p),F],s')) (s'[l]?=some (.lst<|(L++gK e stk ks P p.1 p.2 ks.length).map tD)) (Fr l s s'):=by
 obtain⟨hs,j,z,Y,G⟩:=c.at_;have H:=c.hs.hi;have key:=Ky (W:=⟨run 0 ks.length,[]⟩) (g:=Hl 4) (m:=Qx) (ds:=run 0 ks.length) (U:=[some bed,some (.ref d),some (.ref l),some (HI p),a4]) (st:=s)
  (Inv:=λk U s'=>Y3 ((∃a,U=[some bed,some (.ref d),some (.ref l),some (HI p),a])) (s'[l]?=some (.lst<|(L++gK e stk ks P p.1 p.2 k).map tD)) (Fr l s s'))
  ⟨⟨_,rfl⟩,by simpa[gK]using C,Fr.refl _ _⟩ (λ_ _ _ _ _=>rfl) (λk Z U s' n I=>by
   obtain⟨⟨u,rfl⟩,b,hf⟩:=I;obtain⟨hk,rfl⟩:=LO n;have A:((k:Nat):Int)<(ks.length:Int):=by omega
   obtain⟨f,b0,b1,b2,b3,ek,J,M⟩:=Mc c.ks (k:=(k:Int)) (!0) A;have o:=(hf.old _ (qax hd) i).trans hd;obtain⟨s2,q,g2⟩:=WU (x:=p.1) (y:=p.2) c.bed c.ks c.stk (by have:=c.hs.sl;omega) B (!0) A o;rw[Rg (by rw[J];rfl)]at q;have E:=(g2.old _<|qax b).trans b;have hlen:=Tr e stk ks P p.1 p.2 k
   by_cases hR:e<=Jf stk ks P p.1 p.2 k
   ·have N:HF (.tup [.int p.1,.int p.2]) (.tup [.int (k:Int)]) s2=some (tD (p.1,p.2,(k:Int)),s2):=TQ (!2) (!2);have r:=append_at (x:=tD (p.1,p.2,(k:Int))) E (by rw[Af,AD];omega);refine⟨_,s',_,_,rfl,tO q (j _) (z _) hR E N r,⟨_,rfl⟩,?_,(hf.trans<|g2.fr l).trans<|Gy _ _ _⟩;rw[As (qax E),TX,if_pos hR];simp
   refine⟨_,s',_,_,rfl,vO q (j _) (z _) hR,⟨_,rfl⟩,?_,hf.trans<|g2.fr l⟩;rw[TX,if_neg hR];exact E)
 obtain⟨U',s',Q,⟨u,rfl⟩,b,hf⟩:=key;rw[Ld]at b;refine⟨u,s',?_,b,hf⟩;have v:HM [.tup (ks.map IE)] s=some (.int (ks.length:Int),s):=by rw[Qa,Af]
 have S:IW (Ho HM<|Hc (mB Hf (mB Hf (mV 0)<|mK<|.int 0)<|mK<|.int 2)<|mZ) [some bed,some (.ref d),some (.ref l),some (HI p),a4] s=some (⟨run 0 ks.length,[]⟩,s):=by refine Q6 (k:=ks.length) ?_ (!0);generalize (ks.length:Int)=K at *;simp[j,G,v]
 unfold UK;rw[Kg,S];exact Q
def Vx{P:List Tl}(c:Ctx bed e stk ks w h)(G:∀t∈P,0<=t.2.2/\t.2.2<(ks.length:Int))(hd:st[d]?=some (.dt<|P.map Hi)):
  ∃f,Y3 (Nc [bed,.ref d] st=some (.ref st.length,f)) (f[st.length]?=some (.lst<|(Ic e stk ks P<|eF P h w.toNat).map tD)) (Gr st f):=by
 have f1:=c.fo.w0;have f2:=c.fo.w1;have T:=c.fo.h0;have f4:=c.fo.h1;have H:=c.hs.hi;have o:=qax hd;have x:(st++[O.lst []])[d]?=some (.dt<|P.map Hi):=by rw[Am o];exact hd
 have a1:=Iq st<|.lst [];have g1:=Gr.app st [.lst []];have X:(st++[O.lst []]).length=st.length+1:=by simp
 generalize r:st++[O.lst []]=s1 at *;obtain⟨s2,I,a2,g2⟩:=Uk c x;have z:=(g2.old _<|qax a1).trans a1;have hd2:=(g2.old _<|qax x).trans x;have hlen:=Tq P h w.toNat;have C:(eF P h w.toNat).length<=144:=AB hlen<|Cf (show w.toNat<=12 by omega) (show h.toNat<=12 by omega);generalize eF P h w.toNat=ps at *;have bound:∀i:Nat,(Ic e stk ks P<|ps.take i).length<=9000:=λi=>by
  have:∀y:List (Int×Int),(Ic e stk ks P y).length<=y.length*13:=by
   intro y
   induction y with
   |nil=>simp[Ic]
   |cons q y Y=>
    have J:=Tr e stk ks P q.1 q.2 ks.length;have F:(Ic e stk ks P (q::y)).length=(gK e stk ks P q.1 q.2 ks.length).length+(Ic e stk ks P y).length:=by simp[Ic]
    rw[F,Ay,DJ];omega
  have J:=this<|ps.take i;have F:(ps.take i).length<=144:=by rw[Bn];omega
  omega
 have key:=Ky (W:=⟨ps.map HI,[(s1.length,ps.map HI)]⟩) (g:=Hl 3) (m:=UK) (ds:=ps.map HI) (U:=[some bed,some (.ref d),some (.ref st.length),none,none]) (st:=s2)
  (Inv:=λi U s=>Y3 ((∃a b,U=[some bed,some (.ref d),some (.ref st.length),a,b])) (s[st.length]?=some (.lst<|(Ic e stk ks P<|ps.take i).map tD)) (Fr st.length s2 s))
  ⟨⟨_,_,rfl⟩,z,Fr.refl _ _⟩ (λi U s _ A=>OE ((A.h3.old _ (qax a2)<|by omega).trans a2)) (λi Z U s E A=>by obtain⟨⟨u,v,rfl⟩,l,hf⟩:=A;rw[Ax]at E;obtain⟨p,M,rfl⟩:=Ie E;obtain⟨b4,L,N,K,B⟩:=Rt (st0:=[]) (p:=p) (a4:=v) c G ((hf.old _ (qax hd2)<|by omega).trans hd2) l (bound i) (A9 _) (!0) ⟨A9 _,λj n=>absurd n (Dz _)⟩;refine⟨_,s,_,L,rfl,N,⟨_,_,rfl⟩,?_,hf.trans B⟩;rw[K,A7,M,vL];simp[Ic])
 obtain⟨U',L,Q,⟨u,v,rfl⟩,l,hf⟩:=key;rw[Af,AU]at l;refine⟨L,IH ?_,l,?_⟩
 ·generalize ps.map HI=PS at *;unfold gI;refine Hz (U1:=[some bed,some (.ref d),some (.ref st.length),none,none]) (s1:=s1) (by simp[r]) ?_;refine Hz (U1:=[some bed,some (.ref d),some (.ref st.length),u,v]) (s1:=L) (by
   have S:Jb (Ho UJ<|Hc (mV 0)<|Hc (mV 1)<|mZ) [some bed,some (.ref d),some (.ref st.length),none,none] s1=some (⟨PS,[(s1.length,PS)]⟩,s2):=by simp[I,Lg,HZ,a2]
   rw[Kg,S];exact Q) ?_
  simp
 have g:=g1.trans g2;exact⟨AB g.len hf.len,λj n=>(hf.old j (AC n g.len)<|by omega).trans (g.old j n)⟩
def WA{lo hi:Int}(a:lo<=x)(b:x<=hi):RC [.int x,.int lo,.int hi] st=some (.bl true,st):=by
 refine IH ?_;have t1:tyName st (.int x)=some "int":=rfl;have d:Kn "int" "int"=true:=by decide
 have t3:Kn "int" "bool"=false:=by decide
 unfold WW;simp[M4,t1,d,t3,a,b]
def dF{ds:List D}{n:Nat}{N:Int}(h:ds.length=n)(a:N=(n:Int)):WZ [.tup ds,.int N] st=some (.bl true,st):=by
 have e:HM [.tup ds] st=some (.int N,st):=by rw[Qa,h,a]
 refine IH ?_;have t1:tyName st (.tup ds)=some "tuple":=rfl;have d:Kn "tuple" "tuple"=true:=by decide
 unfold fE;simp[t1,d,e,eq_int]
def cL(c:Ctx bed e stk ks w h)(x0:0<=x)(f:x<w)(a:0<=y)(g:y<h):NI [bed,.tup [.int x,.int y]] st=some (.bl true,st):=by have d:=dF (ds:=[.int x,.int y]) (n:=2) (N:=2) (st:=st) rfl rfl;have l:=WA (x:=x) (lo:=0) (hi:=w-1) (st:=st) x0 (!0);have s:=WA (x:=y) (lo:=0) (hi:=h-1) (st:=st) a (!0);have E:Hf (.tup [.int x,.int y]) (.int 0) st=some (.int x,st):=Im (!1) rfl;have K:Hf (.tup [.int x,.int y]) (.int 1) st=some (.int y,st):=Im (!1) rfl;have L:Hf (.tup [.int w,.int h]) (.int 0) st=some (.int w,st):=Im (!1) rfl;have P:Hf (.tup [.int w,.int h]) (.int 1) st=some (.int h,st):=Im (!1) rfl;have b:=c.fl;refine IH ?_;unfold WV;refine Hz (U1:=[some bed,some (.tup [.int x,.int y]),some (.tup [.int w,.int h])]) (s1:=st) (by simp[b]) ?_;simp[d,l,s,E,K,L,P]
variable {k:Int}{sd:Nat}
def qE{b:D}{ln:Nat}{R:Int}(a:J5 (.tup [.int x,.int y]) (.ref d) s=some (.bl false,s))(c:NI [bed,.tup [.int x,.int y]] s=some (.bl true,s))(f:Qr [bed,.ref d,.tup [.int x,.int y]] s=some (.ref ln,s1))(g:Qq [bed,.int k] s1=some (b,s1)) (i:Po [.ref sd,b,.ref ln] s1=some (.int R,s2)) (j:Hf bed (.int 0) s2=some (hs,s2)) (m:Hf hs (.int 0) s2=some (.int E,s2)):OC [bed,.ref sd,.ref d,.tup [.int x,.int y,.int k]] s=some (.bl (decide (E<=R)),s2):=by
 have e:Hf (.tup [.int x,.int y,.int k]) (.int 2) s1=some (.int k,s1):=Im (!1) rfl;have h:LI (.tup [.int x,.int y,.int k]) none (some 2) s=some (.tup [.int x,.int y],s):=rfl;refine IH ?_;unfold Xv;refine Hz (U1:=[some bed,some (.ref sd),some (.ref d),some (.tup [.int x,.int y,.int k]),some (.tup [.int x,.int y]),none]) (s1:=s) (by simp[h]) ?_;refine Hz (U1:=[some bed,some (.ref sd),some (.ref d),some (.tup [.int x,.int y,.int k]),some (.tup [.int x,.int y]),none]) (s1:=s) (by simp[a,c]) ?_;refine Hz (U1:=[some bed,some (.ref sd),some (.ref d),some (.tup [.int x,.int y,.int k]),some (.tup [.int x,.int y]),some (.ref ln)]) (s1:=s1) (by simp[f]) ?_;simp[e,g,i,j,m]
def JU(e:Int)(stk:List (Str×Int))(ks:List (!6))(w h:Int)(P:List Tl)(t:Tl):Prop:=Ir w h ks.length t/\HN P t.1 t.2.1=none/\e<=Jf stk ks P t.1 t.2.1 t.2.2.toNat
def qD(a:J5 (.tup [.int x,.int y]) (.ref d) s=some (.bl true,s)):OC [bed,.ref sd,.ref d,.tup [.int x,.int y,.int k]] s=some (.bl false,s):=by have e:LI (.tup [.int x,.int y,.int k]) none (some 2) s=some (.tup [.int x,.int y],s):=rfl;refine IH ?_;unfold Xv;refine Hz (U1:=[some bed,some (.ref sd),some (.ref d),some (.tup [.int x,.int y,.int k]),some (.tup [.int x,.int y]),none]) (s1:=s) (by simp[e]) ?_;refine Ot ?_;simp[a]
variable {t:Tl}
def qC{P:List Tl}{t:Tl}(c:Ctx bed e stk ks w h)(i:∀t∈P,0<=t.2.2/\t.2.2<(ks.length:Int))(hd:st[d]?=some (.dt<|P.map Hi))(hs:st[sd]?=some (.dk<|JN stk))(j:Ir w h ks.length t):
  ∃(b:Bool) (a:Hg),Y3 (OC [bed,.ref sd,.ref d,tD t] st=some (.bl b,a)) ((b=true ↔ JU e stk ks w h P t)) (Gr st a):=by
 obtain⟨x,y,k⟩:=t;have tt:=j;obtain⟨x0,n,o,q,s,E⟩:=j;have s:0<=k:=s;have E:k<(ks.length:Int):=E;cases hf:HN P x y with
 |some C=>
  have l:J5 (.tup [.int x,.int y]) (.ref d) st=some (.bl true,st):=by rw[OV hd,Lm,hf];rfl
  refine⟨false,st,qD l,⟨λz=>(by cases z),λz=>?_⟩,Gr.refl _⟩;have:HN P x y=none:=z.2.1;rw[hf]at this;cases this
 |none=>
  obtain⟨F,r,ie,_,G⟩:=c.at_;obtain⟨f,H,b1,I,J,M,m,L⟩:=Mc c.ks (k:=k) s E;obtain⟨s1,u,a1,g1⟩:=eS (x:=x) (y:=y) c.bed c.ks i hd;have g:=(g1.old _<|qax hs).trans hs;have v:∀z∈names4 ks P x y,Bm z=true:=λz K=>by
   have:Iy z:=by
    simp only[names4,A4,Bd,or_false]at K;rcases K with rfl|rfl|rfl|rfl<;>exact Sl c.ks i _ _
   exact Q4 this.ab
  obtain⟨s2,A,g2⟩:=gG (S:=Iz ks k) (N:=names4 ks P x y) c.stk (by rw[m];exact Ag _) (by rw[m];exact λz K=>L z K) v g a1;have l:J5 (.tup [.int x,.int y]) (.ref d) st=some (.bl false,st):=by rw[OV hd,Lm,hf];rfl
  refine⟨_,s2,qE l (cL c x0 n o q) u (gB c.bed c.ks s E) A (r _)<|ie _,?_,g1.trans g2⟩;rw[decide_eq_true_iff];have B:Jf stk ks P x y k.toNat=((Jw (Iz ks k)<|names4 ks P x y).map λp=>sv stk p.1).sum:=by unfold Jf;rw[A2 s]
  rw[<-B];exact⟨λz=>⟨tt,hf,z⟩,λz=>z.2.2⟩
def cQ(hf:JE w h)(a:t∈Ic e stk ks P (eF P h w.toNat)):JU e stk ks w h P t:=by
 have f1:=hf.w0;have y:=hf.h0;simp only[Ic,eF,eC,gK,Ef,FJ,Ey,GH]at a;obtain⟨l,⟨p,⟨m,⟨i,E,rfl⟩,s⟩,rfl⟩,a⟩:=a;simp only[FJ,Ey,GH]at s a;obtain⟨j,⟨K,d⟩,rfl⟩:=s;obtain⟨k,⟨hk,hs⟩,rfl⟩:=a;have x:HN P (i:Int) (j:Int)=none:=by unfold Lq at d;rw[Aq]at d;simpa using d.1
 refine⟨⟨?_,?_,?_,?_,?_,?_⟩,x,by simpa using hs⟩
 ·show(0:Int)<=(i:Int);omega
 ·show(i:Int)<w;omega
 ·show(0:Int)<=(j:Int);omega
 ·show(j:Int)<h;omega
 ·show(0:Int)<=(k:Int);omega
 show(k:Int)<(ks.length:Int);omega
def Js(e:Int)(stk:List (Str×Int))(ks:List (!6))(w h:Int):List Tl->List Tl->Prop
 |_,[]=>True
 |P,t::R=>JU e stk ks w h P t/\Js e stk ks w h (P++[t]) R
theorem Ru:∀{R P:List Tl}{t:Tl},Js e stk ks w h P R->JU e stk ks w h (P++R) t->Js e stk ks w h P (R++[t])
 |[],P,t,_,hm=>⟨by simpa using hm,trivial⟩
 |u::R,P,t,a,hm=>⟨a.1,Ru a.2<|by simpa using hm⟩
theorem bW:∀{R P:List Tl} (i:Nat),Js e stk ks w h P R->Js e stk ks w h P (R.take i)
 |[],P,i,_=>by simp[Js]
 |u::R,P,0,_=>trivial
 |u::R,P,i+1,a=>⟨a.1,bW i a.2⟩
theorem Pe:∀{R P:List Tl},Js e stk ks w h P R->∀t∈R,Ir w h ks.length t
 |u::R,P,a,t,ht=>by
  rcases Os.mp ht with rfl|ht
  ·exact a.1.1
  exact Pe a.2 t ht
theorem Q7:∀{R P:List Tl}{i:Nat}{t:Tl},Js e stk ks w h P R->R[i]?=some t->JU e stk ks w h (P++R.take i) t
 |u::R,P,0,t,b,a=>by simp at a;subst a;simpa using b.1
 |u::R,P,i+1,t,b,a=>by have:=Q7 b.2 (i:=i) (t:=t) (by simpa using a);simpa using this
def K4{P:List Tl}:HN P x y=none ↔ ∀t∈P,¬(t.1=x/\t.2.1=y):=by unfold HN;simp
def Oz(hn:HN P t.1 t.2.1=none):IM P t=P++[t]:=by have d:=K4.mp hn;unfold IM;rw[if_neg];intro z;obtain⟨u,e,z⟩:=List.any_eq_true.mp z;unfold JF at z;rw[Aq]at z;exact d u e ⟨of_decide_eq_true z.1,of_decide_eq_true z.2⟩
def aC(a:Hy (P++[t])):HN P t.1 t.2.1=none:=by refine K4.mpr λu d z=>?_;have:=(List.pairwise_append.mp a).2.2 u d t (!2);unfold JF at this;simp[z.1,z.2]at this
def sR(a:Hy P)(hn:HN P t.1 t.2.1=none):Hy (P++[t]):=by refine List.pairwise_append.mpr ⟨a,by simp,λu d v e=>?_⟩;rw[KM.mp e];have:=K4.mp hn u d;unfold JF;simpa using this
theorem bJ:∀{ts acc:List Tl},Hy (acc++ts)->ts.foldl IM acc=acc++ts
 |[],acc,_=>by simp
 |t::ts,acc,b=>by
  have a:Hy ((acc++[t])++ts):=by simpa using b
  have d:Hy (acc++[t]):=(List.pairwise_append.mp a).1;rw[Ew,Oz (aC d),bJ a];simp
def Nz{ts:List Tl}(a:Hy ts):Lw ts=ts:=by have:=bJ (ts:=ts) (acc:=[]) (by simpa using a);simpa[Lw]using this
def Ou{a b:List Tl}(h:a.Perm b)(c:Hy b):Hy a:=by
 refine(List.Perm.pairwise_iff (λ{x y} z=>?_) h).mpr c;unfold JF at *;rw[Bool.and_eq_false_iff]at *;rcases z with z|z
 ·exact .inl<|by simpa using λq=>(of_decide_eq_false z) q.symm
 exact .inr<|by simpa using λq=>(of_decide_eq_false z) q.symm
theorem Lk{e w h:Int}{stk:List (Str×Int)}{ks:List (!6)}:∀{R P:List Tl},Hy P->Js e stk ks w h P R->Hy (P++R)
 |[],P,a,_=>by simpa using a
 |t::R,P,a,b=>by have:=Lk (sR a b.1.2.1) b.2;simpa using this
end L2.MP.T0
namespace L2.MP.T0
open PySem L2.MP L2.MP.Hd
open L2.MP.Hn (Hw Mu Hk Jo Pf Pn)
theorem ND(ts:List Tl):Hw ts=.tup (ts.map tD):=rfl
variable {ts:List Tl}
def zW(h:ts.length<2):Hk ts=ts:=by
 have a:=Jo ts
 match ts,h,a with
 |[],_,a=>exact a.eq_nil
 |[t],_,a=>exact List.perm_singleton.mp a
variable {st:Hg}
def gF(a:ts.length<64):Nx [.tup (ts.map tD)] st=some (.ref st.length,st++[.lst ((Hk ts).map tD)]):=by
 have b:Mf [.tup (ts.map tD)] st=none:=rfl;unfold Nx K7;rw[b,Ku];unfold Uh;dsimp only;by_cases h:ts.length<2
 ·rw[if_pos (by simpa using h),zW h]
 ·rw[if_neg (by simp;omega)];have c:rowsOf (ts.map tD)=some (ts.map Ia):=by
   have:ts.map tD=(ts.map Ia).map HG:=by rw[AJ];rfl
   rw[this];exact RJ λr d=>by obtain⟨t,_,rfl⟩:=Re.mp d;simp[Ia]
  rw[c];simp only[Ac];rw[if_pos (by simp;omega),<-Pf,AJ];rfl
variable {l:Nat}
def gR(b:st[l]?=some (.lst<|ts.map tD))(a:ts.length<64):Nx [.ref l] st=some (.ref st.length,st++[.lst ((Hk ts).map tD)]):=by unfold Nx K7;rw[Mu b a,Kt];rfl
variable {x y k:Int}{s:Hg}
def zmC{t:Nat}(hk:Nn (.ref t) (.tup [.int x,.int y]) s=some (.int k,s)):Qy [some (.tup [.int x,.int y]),some (.ref t)] s=some (.tup [.int x,.int y,.int k],s):=by have l:HF (.tup [.int x,.int y]) (.tup [.int k]) s=some (.tup [.int x,.int y,.int k],s):=TQ (!2) (!2);unfold Qy;simp[hk,l]
variable {P:List Tl}{d:Nat}
def XH(hd:st[d]?=some (.dt<|P.map Hi))(g:Hy P)(b:P.length<64):∃a,OH [.ref d] st=some (Hw (Hk P),a)/\Gr st a:=by
 have l:=qax hd;have s:PV (.ref d) st=some (⟨Jt<|P.map Hi,[]⟩,st.set d (.ft<|P.map Hi)):=by unfold PV;simp only[hd]
 have y:(st.set d<|.ft<|P.map Hi)[d]?=some (.ft<|P.map Hi):=by simp[l]
 have back:(st.set d (.ft<|P.map Hi)++[O.lst (P.map tD)]).set d (.dt<|P.map Hi)=st++[.lst (P.map tD)]:=by
  rw[List.set_append_left _ _ (by simpa using l),List.set_set]
  congr 1
  apply F3;intro i;by_cases hi:i=d
  ·subst hi;rw[As l,hd]
  rw[Ah (λz=>hi z.symm)]
 have f:(st.set d (.ft<|P.map Hi)++[O.lst (P.map tD)])[d]?=some (.ft<|P.map Hi):=by rw[Am (by simpa using l)];exact y
 have ls:(st.set d<|.ft<|P.map Hi).length=st.length:=by simp
 generalize h:st.set d (.ft<|P.map Hi)=s3 at s y back f ls;have QE:Jt (P.map Hi)=P.map λt=>D.tup [.int t.1,.int t.2.1]:=by unfold Jt;rw[AJ];rfl
 have j:Jc ⟨Jt<|P.map Hi,[]⟩ (Hl 0) IU Qy (Jt<|P.map Hi) [none,some (.ref d)] s3=some (P.map tD,s3):=by
  rw[QE];refine P9 (R:=λU=>∃x,U=[x,some (.ref d)]) ⟨none,rfl⟩ rfl λt m U n=>?_;obtain⟨x,rfl⟩:=n;have o:=Rf g m;have hk:Nn (.ref d) (.tup [.int t.1,.int t.2.1]) s3=some (.int t.2.2,s3):=by have p:keysOf [.int t.1,.int t.2.1]=some (Hi t).1:=rfl;simp only[Nn,Jq,y,p,AL,Ac,o]
  exact⟨[some (.tup [.int t.1,.int t.2.1]),some (.ref d)],rfl,rfl,zmC hk,⟨_,rfl⟩⟩
 have fl:fits (P.map tD).length=true:=JK (by rw[Af];omega);have q:=gR (Iq st<|.lst<|P.map tD) b;have r:=Mh<|Iq (st++[.lst (P.map tD)])<|.lst<|(Hk P).map tD;refine⟨st++[.lst (P.map tD)]++[.lst ((Hk P).map tD)],IH ?_,(Gr.app _ _).trans<|Gr.app _ _⟩;have c:I0 (OI<|mV 0) 1 [0] (Hl 0) IU Qy [some (.ref d)] st=some (.ref st.length,s3++[.lst (P.map tD)]):=by have:OI (mV 0) [some (.ref d)] st=some (⟨Jt<|P.map Hi,[]⟩,s3):=s;rw[JH,this];simp only[Ac];rw[show IL [some (D.ref d)] 1 [0]=[none,some (.ref d)] from rfl,j];simp only[Ac,fl,if_true,ls]
 have e:QR 0 (I0 (OI<|mV 0) 1 [0] (Hl 0) IU<|Qy) [some (.ref d)] st=some (.ref st.length,st++[.lst (P.map tD)]):=by unfold QR;simp only[Co,c,Ac];unfold VL;rw[hd,f];show Option.map _ (some<|List.set _ _ _)=_;rw[back];rfl
 unfold iF;rw[ND];generalize (Hk P).map tD=B at *;generalize P.map tD=A at *;generalize st++[O.lst A]=s4 at *;generalize s4++[O.lst B]=s5 at *;simp[e,q,r]
def zlX{a b:List Tl}(h:a.length+b.length<=1000):N1 (.tup<|a.map tD) (.tup<|b.map tD) st=some (.tup ((a++b).map tD),st):=by
 unfold N1 JX;cases a with
 |nil=>
  have d:HF (.tup<|([]:List Tl).map tD) (.tup<|b.map tD) st=none:=rfl;rw[d,Ku];unfold SQ;have:fits b.length=true:=JK (by simp at h;omega);simp[this]
 |cons t a=>
  rw[TQ (!2) (by simp at h ⊢;omega),Kt,AZ]
def tP(t:Tl):PyData:=.tuple [.int t.1,.int t.2.1,.int t.2.2]
variable {n:Nat}
theorem RK{n:Nat}{st:Hg}:∀ts:List Tl,Je (IC (n+2) st) (ts.map tD)=some (ts.map tP)
 |[]=>rfl
 |t::ts=>by
  have e:IC (n+2) st (tD t)=some (tP t):=by obtain⟨x,y,k⟩:=t;show IC (n+2) st (.tup [.int x,.int y,.int k])=_;rw[IC];simp only[Je,IC,Ac,AL];rfl
  rw[An,Je,e,Ac,RK ts];rfl
variable {m:Nat}
def cF(a:st[l]?=some (.lst<|ts.map tD))(hm:st[m]?=some (.lst [])):IY (.ref l) (.ref m) st=some (.bl !ts.isEmpty,st):=by
 have e:IC 100 st (.ref l)=some (.list<|ts.map tP):=by rw[IC];simp only[HZ,a,Ac];rw[RK];rfl
 unfold IY;rw[e,OB (n:=98) (as:=[]) hm];cases ts<;>rfl
variable {bed t2:D}{q:Nat}{a5 a6 a7:Option D}{s1 s2:Hg}
def xF(b:Nc [bed,.ref d] s=some (.ref q,s1))(a:s1++[.lst []]=s2)(c:IY (.ref q) (.ref s1.length) s2=some (.bl false,s2)):
  Pj [some (.ref n),some bed,some t2,some (.ref d),some (.ref l),a5,a6,a7] s=some (.nx [some (.ref n),some bed,some t2,some (.ref d),some (.ref l),a5,some (.ref q),a7],s2):=by
 unfold Pj;refine Hz (U1:=[some (.ref n),some bed,some t2,some (.ref d),some (.ref l),a5,some (.ref q),a7]) (s1:=s1) (by simp[b]) ?_;rw[Lf];simp[a,c]
def tV{N r:Int}{L:List D}{s3 s4 s5:Hg}(b:Nc [bed,.ref d] s=some (.ref q,s1))(a:s1++[.lst []]=s2)(c:IY (.ref q) (.ref s1.length) s2=some (.bl true,s2))(e:HM [.ref q] s2=some (.int N,s2))(f:Il [.ref n,.int N] s2=some (.int r,s3))(g:Hf (.ref q) (.int r) s3=some (.tup [.int x,.int y,.int k],s3)) (h:dput s3 d (.tup [.int x,.int y]) (.int k)=some s4) (i:s4[l]?=some (.lst L)) (ap:Lb (.ref l) [.tup [.int x,.int y,.int k]] s4=some (.non,s5)):
  Pj [some (.ref n),some bed,some t2,some (.ref d),some (.ref l),a5,a6,a7] s=some (.nx [some (.ref n),some bed,some t2,some (.ref d),some (.ref l),a5,some (.ref q),some (.tup [.int x,.int y,.int k])],s5):=by
 have m:LI (.tup [.int x,.int y,.int k]) none (some 2) s3=some (.tup [.int x,.int y],s3):=rfl;have P:Hf (.tup [.int x,.int y,.int k]) (.int 2) s3=some (.int k,s3):=Im (!1) rfl;unfold Pj;refine Hz (U1:=[some (.ref n),some bed,some t2,some (.ref d),some (.ref l),a5,some (.ref q),a7]) (s1:=s1) (by simp[b]) ?_;rw[Lf];have j:mT (mB IY (mV 6)<|mL<|mZ) [some (.ref n),some bed,some t2,some (.ref d),some (.ref l),a5,some (.ref q),a7] s1=some (true,s2):=by simp[a,c]
 rw[j,Ac];show mS _ _ _ s2=_;refine Hz (U1:=[some (.ref n),some bed,some t2,some (.ref d),some (.ref l),a5,some (.ref q),some (.tup [.int x,.int y,.int k])]) (s1:=s3) (by simp[e,f,g]) ?_;refine Hz (U1:=[some (.ref n),some bed,some t2,some (.ref d),some (.ref l),a5,some (.ref q),some (.tup [.int x,.int y,.int k])]) (s1:=s4) ?_ (by simp[HZ,i,ap]);rw[Mo];have o:Hr (mB Hf (mV 7)<|mK<|.int 2) (Lv Ik (mV 3)<|Jp (mV 7) K1<|K2<|mK<|.int 2) [some (.ref n),some bed,some t2,some (.ref d),some (.ref l),a5,some (.ref q),some (.tup [.int x,.int y,.int k])] s3=none:=by simp[m,P,Ik]
 rw[o,Ku];unfold LC;simp[m,P,h]
structure PF(n d l m:Nat)(P R:List Tl)(st0 s:Hg):Prop where
 at_:s[d]?=some (.dt ((P++R).map Hi))
 row:s[l]?=some (.lst (R.map tD))
 pot:HJ n m s
 fr:Fr n st0 s
variable {e w h:Int}{stk:List (Str×Int)}{ks:List (!6)}
def zma{P R:List Tl}{st0:Hg}(c:Ctx bed e stk ks w h)(q:PF n d l m P R st0 s)(Y:∀t∈P,Ir w h ks.length t)(K:Js e stk ks w h P R)(hd:st0.length<=d)(hl:st0.length<=l)(p:d≠l)(v:d≠n)(A:l≠n)(hlen:P.length+R.length<=100)(hm:m<=900000):
  ∃(R':List Tl) (Z b7:Option D) (s':Hg),Y4 (Pj [some (.ref n),some bed,some t2,some (.ref d),some (.ref l),a5,a6,a7] s=some (.nx [some (.ref n),some bed,some t2,some (.ref d),some (.ref l),a5,Z,b7],s')) (PF n d l (m+1) P R' st0 s') (Js e stk ks w h P R') (R'.length<=R.length+1):=by
 have hK:∀t∈P++R,0<=t.2.2/\t.2.2<(ks.length:Int):=λt hh=>by
  have:Ir w h ks.length t:=by
   rcases On.mp hh with hh|hh
   ·exact Y t hh
   exact Pe K t hh
  exists 15
 obtain⟨s1,T,a1,g1⟩:=Vx c hK q.at_;have g2:Gr s (s1++[.lst []]):=g1.trans<|Gr.app _ _;have a2:(s1++[O.lst []])[s.length]?=some (.lst<|(Ic e stk ks (P++R)<|eF (P++R) h w.toNat).map tD):=by rw[Am (qax a1)];exact a1
 have b2:=Iq s1<|.lst [];have B:∀t∈Ic e stk ks (P++R) (eF (P++R) h w.toNat),JU e stk ks w h (P++R) t:=λt ht=>cQ c.fo ht;generalize hM:Ic e stk ks (P++R) (eF (P++R) h w.toNat)=M at a1 a2 B;have I:=cF a2 b2;generalize C:s1++[O.lst []]=s2 at *;have at2:=(g2.old _<|qax q.at_).trans q.at_;have a:=(g2.old _<|qax q.row).trans q.row;have b:=q.pot.gr g2;have E:=q.fr.trans<|g2.fr n
 cases L:M with
 |nil=>
  rw[L]at I;exact⟨R,_,_,s2,xF T C I,⟨at2,a,b.up<|by omega,E⟩,K,by omega⟩
 |cons u M'=>
  rw[L]at I;have hML:0<M.length:=by rw[L];simp
  have hsz:M.length<100000:=by
   have bound:∀i:List (Int×Int),(Ic e stk ks (P++R) i).length<=i.length*13:=by
    intro i;have k13:=c.hs.hi
    induction i with
    |nil=>simp[Ic]
    |cons z i ih=>
     have h1:=Tr e stk ks (P++R) z.1 z.2 ks.length;have h2:(Ic e stk ks (P++R) (z::i)).length=(gK e stk ks (P++R) z.1 z.2 ks.length).length+(Ic e stk ks (P++R) i).length:=by simp[Ic]
     rw[h2,Ay,DJ];omega
   have f2:=c.fo.w1;have f4:=c.fo.h1;have U:(eF (P++R) h w.toNat).length<=144:=AB (Tq (P++R) h w.toNat)<|Cf (show w.toNat<=12 by omega) (show h.toNat<=12 by omega);have:=bound<|eF (P++R) h w.toNat;rw[hM]at this;omega
  have el:HM [.ref s.length] s2=some (.int (M.length:Int),s2):=by rw[TY a2,Af]
  have sq:s.length≠n:=q.pot.ne;obtain⟨r,s3,e3,r0,r1,p3,J⟩:=J0 (many:=(M.length:Int)) b (!0) (!0) (!0);have a3:=(J.old _ (qax a2) sq).trans a2;have F:r.toNat<M.length:=by omega
  have N:(M.map tD)[r.toNat]?=some (tD M[r.toNat]):=by rw[Ax,Ai F];rfl
  have W:=KU a3 r0 N;have o:=B _<|A5 F;generalize M[r.toNat]=t at W o;obtain⟨x,y,k⟩:=t;have G:=(J.old _ (qax at2) v).trans at2;have f:=(J.old _ (qax a) A).trans a;have X:=M8 (x:=x) (y:=y) (k:=k) G (by simp;omega);rw[Oz o.2.1,Aj]at X;have g:(s3.set d<|.dt<|(P++(R++[(x,y,k)])).map Hi)[l]?=some (.lst<|R.map tD):=by rw[Ah p];exact f
  have ap:=append_at (x:=tD (x,y,k)) g (by rw[Af];omega);have Q:=qax G;have S:=qax f;have H:=E.trans J;refine⟨R++[(x,y,k)],_,_,_,tV T C I el e3 W X g ap,⟨?_,?_,?_,?_⟩,Ru K o,by simp⟩
  ·rw[Ah (BF p),As Q]
  ·rw[As (by simpa using S)];simp
  ·exact(p3.set v).set A
  exact⟨by have:=H.len;simpa using this,λj hj nj=>by rw[Ah (!0),Ah (!0)];exact H.old j hj nj⟩
variable {sd:List Tl}
def tU{sd:List Tl}(c:Ctx (!3) e stk ks w h)(p:HJ n m st)(hm:m<=800000)(b:∀t∈sd,Ir w h ks.length t)(r:Hy sd)(H:sd.length<=6):
  ∃(R:List Tl) (a:Hg),Y5 (UN [.ref n,Hs e stk ks w h sd,.int 12] st=some (.tup (R.map tD),a)) (Js e stk ks w h sd R) (R.length<=12) (HJ n (m+12) a) (Fr n st a):=by
 obtain⟨d,s1,u,a1,hd,g1⟩:=Qn (ts:=sd) (st:=st) (!0);rw[Nz r]at a1;have I:=p.lt;have x:=qax a1;have a2:(s1++[O.lst []])[d]?=some (.dt<|(sd++[]).map Hi):=by rw[Am x,Ap];exact a1
 have v:(s1++[O.lst []])[s1.length]?=some (.lst<|([]:List Tl).map tD):=Iq s1 _;have g2:Gr st (s1++[O.lst []]):=g1.trans<|Gr.app _ _;have y:=g1.len;have key:=Ky (W:=⟨run 0 12,[]⟩) (g:=Hl 5) (m:=Pj) (ds:=run 0 12) (U:=[some (.ref n),some (!3),some (.int 12),some (.ref d),some (.ref s1.length),none,none,none]) (st:=s1++[O.lst []])
  (Inv:=λk U s=>(∃a5 a6 a7,U=[some (.ref n),some (!3),some (.int 12),some (.ref d),some (.ref s1.length),a5,a6,a7])/\∃R,PF n d s1.length (m+k) sd R st s/\Js e stk ks w h sd R/\R.length<=k)
  ⟨⟨_,_,_,rfl⟩,[],⟨a2,v,p.gr g2,g2.fr n⟩,trivial,Ag _⟩ (λ_ _ _ _ _=>rfl) (λk J U s P z=>by obtain⟨⟨a5,a6,a7,rfl⟩,R,q,f,i⟩:=z;obtain⟨hk,rfl⟩:=LO P;obtain⟨A,K,L,l,e,B,j,C⟩:=zma (t2:=.int 12) (a5:=some (.int (k:Int))) (a6:=a6) (a7:=a7) c q b f hd y (!0) (!0) (!0) (!0) (!0);exact⟨_,s,_,l,rfl,e,⟨_,_,_,rfl⟩,A,B,j,by omega⟩)
 obtain⟨M,l,E,⟨a5,a6,a7,rfl⟩,R,q,f,i⟩:=key;rw[Ld]at i q;have F:=Mh q.row;have G:∀s:Hg,Hf (!3) (.int 2) s=some (Hw sd,s):=λs=>Im (!1) rfl;refine⟨R,l,IH ?_,f,i,q.pot,q.fr⟩;unfold fN;exists 4;have o:IW (mV 2) [some (.ref n),some bed,some (.int 12),some (.ref d),some (.ref s1.length),none,none,none] (s1++[O.lst []])=some (⟨run 0 12,[]⟩,s1++[O.lst []]):=Q6 (k:=12) rfl (!0);refine Hz (U1:=[some (.ref n),some bed,some (.int 12),some (.ref d),some (.ref s1.length),none,none,none]) (s1:=s1++[O.lst []]) (by simp[G,u]) ?_;refine Hz (U1:=[some (.ref n),some bed,some (.int 12),some (.ref d),some (.ref s1.length),a5,a6,a7]) (s1:=l) (by rw[Kg,o];exact E) ?_;simp[F]
def Sub(P Q:List Tl):Prop:=∀x y k,HN P x y=some k->HN Q x y=some k
variable {Q:List Tl}
def T3(h:Sub P Q)(p:Int×Int)(j:Nat):JP ks P p j=""\/JP ks P p j=JP ks Q p j:=by
 unfold JP;cases e:HN P p.1 p.2 with
 |none=>exact .inl rfl
 |some k=>rw[h _ _ _ e];exact .inr rfl
def sU{S:List Str}{j:Nat}(h:Sub P Q)(a:LL S (!7) j=true):LL S (names4 ks Q x y) j=true:=by
 unfold LL at *;rw[Aq]at *;refine⟨a.1,?_⟩;have key:(!7).getD j ""=""\/(!7).getD j ""=(names4 ks Q x y).getD j "":=by
  unfold names4
  match j with
  |0=>exact T3 h _ _
  |1=>exact T3 h _ _
  |2=>exact T3 h _ _
  |3=>exact T3 h _ _
  |n+4=>exact .inl rfl
 rcases key with e|e
 ·rw[e]at a;have d:=a.1;unfold bne at d;rw[a.2]at d;cases d
 rw[<-e];exact a.2
theorem aR{f:Nat->Int}{p q:Nat->Bool}(h0:∀i,q i=true->0<=f i)(h:∀i,p i=true->q i=true):∀l:List Nat,((l.filter p).map f).sum<=((l.filter q).map f).sum
 |[]=>by simp
 |i::l=>by
  have a:=aR h0 h l;cases d:p i with
  |true=>simp[d,h i d];omega
  |false=>
   cases eq:q i with
   |true=>have e:=h0 i eq;simp[d,eq];omega
   |false=>simpa[d,eq]using a
def Wu{k:Nat}(c:Ctx bed e stk ks w h)(a:Sub P Q)(hk:k<ks.length):Jf stk ks P x y k<=Jf stk ks Q x y k:=by
 obtain⟨f,s,b1,b,g,j,l,n⟩:=Mc c.ks (k:=(k:Int)) (!0) (!0);rw[<-Rg (P:=P) (by rw[l];rfl),<-Rg (P:=Q) (by rw[l];rfl)];unfold alike;refine aR (λi m=>?_) (λi m=>sU a m) _;unfold LL at m;rw[Aq]at m;have d:=m.1;have hm:(Iz ks (k:Int)).getD i ""∈Iz ks (k:Int):=by
  rw[Au]at d ⊢;cases q:(Iz ks (k:Int))[i]? with
  |none=>rw[q]at d;exact absurd d<|by decide
  |some z=>exact AG q
 rw[l]at hm;rcases(n _ hm).2 with z|z
 ·rw[l,z]at d;exact absurd d<|by decide
 have:=(QU c.stk z).2.1;rw[l];omega
def M9(h:HN P x y=some k):(x,y,k)∈P:=by unfold HN at h;obtain⟨t,e,rfl⟩:=Ie h;have d:=GA e;have l:=CW e;rw[Aq]at d;rw[<-of_decide_eq_true d.1,<-of_decide_eq_true d.2];exact l
variable {t:Tl}
def Ox(a:Hy P)(h:t∈P):HN P t.1 t.2.1=some t.2.2:=by
 have l:=Rf a h;have d:=Lm t.1 t.2.1 P;rw[show HS (P.map Hi) [.inl t.1,.inl t.2.1]=some (.int t.2.2) from l]at d
 cases e:HN P t.1 t.2.1 with
 |none=>rw[e]at d;cases d
 |some k=>rw[e]at d;simp at d;rw[d]
variable {A B:List Tl}
def VI{A:List Tl}(h:∀t∈A,t∈B)(a:Hy (sd++B)):Sub (sd++A) (sd++B):=λx y k hf=>by
 refine Ox (t:=(x,y,k)) a ?_;rcases On.mp (M9 hf)with z|z
 ·exact AK _ z
 exact AH _<|h _ z
variable {T:List Tl}
structure Cl(e:Int)(stk:List (Str×Int))(ks:List (!6))(w h:Int)(sd T R:List Tl):Prop where
 row:Js e stk ks w h sd R
 sub:∀t∈R,t∈T
 sat:∀t∈T,¬JU e stk ks w h (sd++R) t
theorem SV{A B:List Tl}(c:Ctx bed e stk ks w h)(a:Hy T)(b:Hy sd)(f:Js e stk ks w h sd A)(g:∀t∈A,t∈T)(hB:Cl e stk ks w h sd T B):∀i:Nat,∀t∈A.take i,t∈B
 |0,t,ht=>by simp at ht
 |i+1,t,ht=>by
  have j:=SV c a b f g hB i;rw[A7,CZ]at ht;rcases ht with ht|ht
  ·exact j t ht
  ·have ht:A[i]?=some t:=by
    cases q:A[i]? with
    |none=>rw[q]at ht;cases ht
    |some z=>rw[q]at ht;rw[KM.mp ht]
   have hm:=Q7 f ht;have m:=g t<|AG ht;have l:=Lk b hB.row;have s:=hm.1.2.2.2.2.1;have x:=hm.1.2.2.2.2.2
   cases q:HN (sd++B) t.1 t.2.1 with
   |none=>exact absurd ⟨hm.1,q,Ci hm.2.2<|Wu c (VI j l)<|by omega⟩<|hB.sat t m
   |some k=>
    rcases On.mp (M9 q)with z|z
    ·exact absurd ⟨rfl,rfl⟩<|K4.mp hm.2.1 _<|AK _ z
    have n:=Ox a m;have d:=Ox a<|hB.sub _ z;have d:HN T t.1 t.2.1=some k:=d;rw[n]at d;cases d;exact z
def cE{l:List Tl}(c:Hy l):l.Nodup:=by refine List.Pairwise.imp (λ{a b} z q=>?_) c;subst q;unfold JF at z;simp at z
def G8(c:Ctx bed e stk ks w h)(b:Hy T)(a:Hy sd)(f:Cl e stk ks w h sd T A)(g:Cl e stk ks w h sd T B):Hk (sd++A)=Hk (sd++B):=by
 refine Pn<|List.Perm.append_left sd<|(List.perm_ext_iff_of_nodup ?_ ?_).mpr λt=>⟨λz=>?_,λz=>?_⟩
 ·exact cE (List.pairwise_append.mp<|Lk a f.row).2.1
 ·exact cE (List.pairwise_append.mp<|Lk a g.row).2.1
 ·exact SV c b a f.row f.sub g A.length t (by rw[AU];exact z)
 exact SV c b a g.row g.sub f B.length t (by rw[AU];exact z)
def free(T P:List Tl):Nat:=(T.filter λt=>(HN P t.1 t.2.1).isNone).length
theorem filter_lt{α:Type}{p q:α->Bool}(h:∀a,p a=true->q a=true):∀{l:List α},(l.filter p).length<=(l.filter q).length/\((∃a∈l,q a=true/\p a=false)->(l.filter p).length+1<=(l.filter q).length)
 |[]=>⟨Ag _,λ⟨a,f,_⟩=>by cases f⟩
 |a::l=>by
  obtain⟨g,c⟩:=filter_lt h (l:=l);cases d:p a with
  |true=>
   have eq:=h a d;simp only[BI,d,eq,if_true,Ay];refine⟨by omega,?_⟩;rintro⟨b,hb,z⟩
   rcases Os.mp hb with rfl|hb
   ·rw[d]at z;cases z.2
   have:=c ⟨b,hb,z⟩;omega
  |false=>
   cases eq:q a with
   |true=>
    simp only[BI,d,eq,if_true,Ay,AM,if_false];exact⟨by omega,λ_=>by omega⟩
   |false=>
    simp only[BI,d,eq,AM,if_false];refine⟨g,?_⟩;rintro⟨b,hb,z⟩;rcases Os.mp hb with rfl|hb
    ·rw[eq]at z;cases z.1
    exact c ⟨b,hb,z⟩
def bL(a:t∈T)(hn:HN P t.1 t.2.1=none):free T (P++[t])+1<=free T P:=by
 refine(filter_lt λu d=>?_).2 ⟨t,a,by rw[hn];rfl,?_⟩
 ·have e:HN (P++[t]) u.1 u.2.1=none:=by simpa using d
  have h:=K4.mp e;have:HN P u.1 u.2.1=none:=K4.mpr λv l=>h v<|AK _ l;rw[this];rfl
 ·cases q:HN (P++[t]) t.1 t.2.1 with
  |none=>exact absurd ⟨rfl,rfl⟩<|K4.mp q t<|by simp
  |some k=>rfl
def aW(T P:List Tl):free T P<=T.length:=AQ _ _
end L2.MP.T0
namespace L2.MP.T0
open PySem L2.MP L2.MP.Hd
open L2.MP.Hn (Hw Mu Hk Jo Pf Pn fJ)
variable {st s:Hg}{n:Nat}
def Lj{o:O}(g:Gr st s)(h:st.length<=n):Gr st (s.set n o):=⟨by rw[Bk];exact g.len,λj a=>by rw[Ah (!0)];exact g.old j a⟩
def Ks(p:Int×Int):List (Int×Int):=[(p.1,p.2+1),(p.1+1,p.2),(p.1,p.2-1),(p.1-1,p.2)]
def MV(T:List Tl)(p:Int×Int):List (Int×Int):=(Ks p).filter λa=>(HN T a.1 a.2).isSome
def WE(T:List Tl)(p:Int×Int):(MV T p).length<=4:=AQ _ _
variable {P:List Tl}{t:Tl}{x y:Int}
def Rh(h:¬(t.1=x/\t.2.1=y)):HN (P++[t]) x y=HN P x y:=by
 unfold HN;rw[D1];have:[t].find? (λt=>decide (t.1=x)&&decide (t.2.1=y))=none:=by rw[FI];intro u n;rw[KM.mp n];simpa using h
 rw[this,Option.or_none]
variable {ks:List (!6)}
def eE(h:(x,y)∉Ks (t.1,t.2.1)):names4 ks (P++[t]) x y=names4 ks P x y:=by simp only[Ks,A4,Bd,or_false,Prod.mk.injEq,not_or]at h;obtain⟨h0,n,s,a⟩:=h;unfold names4 JP;rw[Rh (x:=x) (y:=y+1) (!0),Rh (x:=x+1) (y:=y) (!0),Rh (x:=x) (y:=y-1) (!0),Rh (x:=x-1) (y:=y) (!0)]
variable {bed tl:D}{e w h k:Int}{stk:List (Str×Int)}{sd T:List Tl}{a2 d3 d4 l5 l6:Nat}{L:List D}{a7 a8 a0 a1:Option D}{s1 s2 st0:Hg}{p:Int×Int}{A:List (Int×Int)}
def xR{R:List Tl}{u:Tl}(b:u∈T)(a:Hy T)(hm:JU e stk ks w h (sd++(R++[t])) u):JU e stk ks w h (sd++R) u\/(u.1,u.2.1)∈MV T (t.1,t.2.1):=by
 rw[<-Aj]at hm;have s:HN (sd++R) u.1 u.2.1=none:=by have x:=K4.mp hm.2.1;exact K4.mpr λv y=>x v (AK _ y)
 by_cases p:(u.1,u.2.1)∈Ks (t.1,t.2.1)
 ·refine .inr<|List.mem_filter.mpr ⟨p,?_⟩;have:HN T u.1 u.2.1=some u.2.2:=Ox a b;rw[this];rfl
 refine .inl ⟨hm.1,s,?_⟩;have n:=hm.2.2;unfold Jf at n ⊢;rw[eE p]at n;exact n
structure RI(a2 d3 d4 l5 l6:Nat)(stk:List (Str×Int))(sd T R:List Tl)(A:List (Int×Int))(st0 s:Hg):Prop where
 h2:s[a2]?=some (.dk (JN stk))
 h3:s[d3]?=some (.dt ((sd++R).map Hi))
 h4:s[d4]?=some (.dt (T.map Hi))
 h5:s[l5]?=some (.lst (R.map tD))
 h6:s[l6]?=some (.lst (A.map HI))
 fr:Gr st0 s
def rJ(a:s[l6]?=some (.lst L))(b:Oc (.ref l6) [] s=some (.tup [.int x,.int y],s1))(c:Hf (.ref d4) (.tup [.int x,.int y]) s1=some (.int k,s1))(d:OC [bed,.ref a2,.ref d3,.tup [.int x,.int y,.int k]] s1=some (.bl false,s2)):
  OD [some bed,some tl,some (.ref a2),some (.ref d3),some (.ref d4),some (.ref l5),some (.ref l6),a7,a8] s=some (.nx [some bed,some tl,some (.ref a2),some (.ref d3),some (.ref d4),some (.ref l5),some (.ref l6),some (.tup [.int x,.int y]),some (.tup [.int x,.int y,.int k])],s2):=by
 have e:Hf (.tup [.int x,.int y]) (.int 0) s1=some (.int x,s1):=Im (!1) rfl;have h:Hf (.tup [.int x,.int y]) (.int 1) s1=some (.int y,s1):=Im (!1) rfl;unfold OD;refine Hz (U1:=[some bed,some tl,some (.ref a2),some (.ref d3),some (.ref d4),some (.ref l5),some (.ref l6),some (.tup [.int x,.int y]),a8]) (s1:=s1) (by simp[Z6,HZ,a,b]) ?_;refine Hz (U1:=[some bed,some tl,some (.ref a2),some (.ref d3),some (.ref d4),some (.ref l5),some (.ref l6),some (.tup [.int x,.int y]),some (.tup [.int x,.int y,.int k])]) (s1:=s1) (by simp[e,h,c]) ?_;simp[d]
def tX{c d:List D}{m:Nat}{a8:Option D}{s3 s4 s5 b:Hg}(f:s[l6]?=some (.lst L))(g:Oc (.ref l6) [] s=some (.tup [.int x,.int y],s1))(i:Hf (.ref d4) (.tup [.int x,.int y]) s1=some (.int k,s1))(j:OC [bed,.ref a2,.ref d3,.tup [.int x,.int y,.int k]] s1=some (.bl true,s2))(l:s2[l5]?=some (.lst c)) (o:Lb (.ref l5) [.tup [.int x,.int y,.int k]] s2=some (.non,s3)) (a:Hf (.ref d4) (.tup [.int x,.int y]) s3=some (.int k,s3)) (q:dput s3 d3 (.tup [.int x,.int y]) (.int k)=some s4)(r:∀a8:Option D,I0 (Jb<|Ho Mj<|Hc (mV 7)<|mZ) 1 [4] (Hl 0) RT UH [some bed,some tl,some (.ref a2),some (.ref d3),some (.ref d4),some (.ref l5),some (.ref l6),some (.tup [.int x,.int y]),a8] s4=some (.ref m,s5)) (u:s4[l6]?=some (.lst d)) (ex:Ow (.ref l6) [.ref m] s5=some (.non,b)):
  OD [some bed,some tl,some (.ref a2),some (.ref d3),some (.ref d4),some (.ref l5),some (.ref l6),a7,a8] s=some (.nx [some bed,some tl,some (.ref a2),some (.ref d3),some (.ref d4),some (.ref l5),some (.ref l6),some (.tup [.int x,.int y]),some (.tup [.int x,.int y,.int k])],b):=by
 have e:Hf (.tup [.int x,.int y]) (.int 0) s1=some (.int x,s1):=Im (!1) rfl;have h:Hf (.tup [.int x,.int y]) (.int 1) s1=some (.int y,s1):=Im (!1) rfl;unfold OD;refine Hz (U1:=[some bed,some tl,some (.ref a2),some (.ref d3),some (.ref d4),some (.ref l5),some (.ref l6),some (.tup [.int x,.int y]),a8]) (s1:=s1) (by simp[Z6,HZ,f,g]) ?_;refine Hz (U1:=[some bed,some tl,some (.ref a2),some (.ref d3),some (.ref d4),some (.ref l5),some (.ref l6),some (.tup [.int x,.int y]),some (.tup [.int x,.int y,.int k])]) (s1:=s1) (by simp[e,h,i]) ?_;rw[Lf];have n:mT (Ho OC<|Hc (mV 0)<|Hc (mV 2)<|Hc (mV 3)<|Hc (mV 8)<|mZ) [some bed,some tl,some (.ref a2),some (.ref d3),some (.ref d4),some (.ref l5),some (.ref l6),some (.tup [.int x,.int y]),some (.tup [.int x,.int y,.int k])] s1=some (true,s2):=by simp[j]
 rw[n,Ac];show mS _ _ _ s2=_;refine Hz (U1:=[some bed,some tl,some (.ref a2),some (.ref d3),some (.ref d4),some (.ref l5),some (.ref l6),some (.tup [.int x,.int y]),some (.tup [.int x,.int y,.int k])]) (s1:=s3) (by simp[HZ,l,o]) ?_;refine Hz (U1:=[some bed,some tl,some (.ref a2),some (.ref d3),some (.ref d4),some (.ref l5),some (.ref l6),some (.tup [.int x,.int y]),some (.tup [.int x,.int y,.int k])]) (s1:=s4) ?_ (by simp[nX,HZ,u,r,ex]);rw[Mo];have p:Hr (mB Hf (mV 4)<|mV 7) (Lv Ik (mV 3)<|mV 7) [some bed,some tl,some (.ref a2),some (.ref d3),some (.ref d4),some (.ref l5),some (.ref l6),some (.tup [.int x,.int y]),some (.tup [.int x,.int y,.int k])] s3=none:=by simp[a,Ik]
 rw[p,Ku];unfold LC;simp[a,q]
def vT{b c d f:Option D}(g:s[d4]?=some (.dt<|T.map Hi)):I0 (Jb<|Ho Mj<|Hc (mV 7)<|mZ) 1 [4] (Hl 0) RT UH [a0,a1,b,c,some (.ref d4),d,f,some (HI p),a8] s=some (.ref s.length,s++[.lst ((MV T p).map HI)]):=by
 have n:Jc ⟨(Ks p).map HI,[]⟩ (Hl 0) RT UH ((Ks p).map HI) [none,some (.ref d4)] s=some ((MV T p).map HI,s):=by refine Us (R:=λU=>∃x,U=[x,some (.ref d4)]) ⟨none,rfl⟩ rfl λa L U w=>?_;obtain⟨x,rfl⟩:=w;have e:=OV (x:=a.1) (y:=a.2) g;rw[Lm,Be]at e;refine⟨[some (HI a),some (.ref d4)],rfl,?_,λ_=>rfl,⟨_,rfl⟩⟩;have e:J5 (HI a) (.ref d4) s=some (.bl (HN T a.1 a.2).isSome,s):=e;unfold RT;generalize HI a=A at *;simp[e]
 have fl:fits ((MV T p).map HI).length=true:=JK (by rw[Af];have:=WE T p;omega);have h:=WO (x:=p.1) (y:=p.2) (st:=s);have h:Mj [HI p] s=some (.tup ((Ks p).map HI),s):=h;have hw:Jb (Ho Mj<|Hc (mV 7)<|mZ) [a0,a1,b,c,some (.ref d4),d,f,some (HI p),a8] s=some (⟨(Ks p).map HI,[]⟩,s):=by generalize (Ks p).map HI=N at *;generalize HI p=A at *;simp[h,Lg]
 rw[JH,hw];simp only[Ac];rw[show IL [a0,a1,b,c,some (D.ref d4),d,f,some (HI p),a8] 1 [4]=[none,some (.ref d4)] from rfl,n];simp only[Ac,fl,if_true]
def yR(h:s[n]?=some (.lst<|(A++[p]).map HI)):Oc (.ref n) [] s=some (HI p,s.set n (.lst<|A.map HI)):=by unfold Oc;simp[h]
def zlV{R:List Tl}(c:Ctx bed e stk ks w h)(hn:st0.length<=a2/\a2<d3/\d3<d4/\d4<l5/\l5<l6)(q:RI a2 d3 d4 l5 l6 stk sd T R (A++[p]) st0 s)(F:(p.1,p.2,k)∈T)(hT:∀t∈T,Ir w h ks.length t)(g:∀t∈sd,Ir w h ks.length t)(i:Hy T)(hr:Js e stk ks w h sd R)(hlen:sd.length+R.length<=900)(hA:A.length<=9000):
  ∃(b7 b8:Option D) (s':Hg) (j:List Tl) (l:List (Int×Int)),Y3 (OD [some bed,some tl,some (.ref a2),some (.ref d3),some (.ref d4),some (.ref l5),some (.ref l6),a7,a8] s=some (.nx [some bed,some tl,some (.ref a2),some (.ref d3),some (.ref d4),some (.ref l5),some (.ref l6),b7,b8],s')) (RI a2 d3 d4 l5 l6 stk sd T j l st0 s') (((j=R/\l=A/\¬JU e stk ks w h (sd++R) (p.1,p.2,k))\/(j=R++[(p.1,p.2,k)]/\l=A++MV T p/\JU e stk ks w h (sd++R) (p.1,p.2,k)))):=by
 obtain⟨n0,n1,n2,n3,n4⟩:=hn;have G:=yR q.h6;have a:=qax q.h6;have hK:∀t∈sd++R,0<=t.2.2/\t.2.2<(ks.length:Int):=λt hh=>by
  have:Ir w h ks.length t:=by
   rcases On.mp hh with hh|hh
   ·exact g t hh
   exact Pe hr t hh
  exists 15
 have m:(s.set l6<|.lst<|A.map HI)[a2]?=some (.dk<|JN stk):=by rw[Ah (!0)];exact q.h2
 have r:(s.set l6<|.lst<|A.map HI)[d3]?=some (.dt<|(sd++R).map Hi):=by rw[Ah (!0)];exact q.h3
 have u:(s.set l6<|.lst<|A.map HI)[d4]?=some (.dt<|T.map Hi):=by rw[Ah (!0)];exact q.h4
 have H:(s.set l6<|.lst<|A.map HI)[l5]?=some (.lst<|R.map tD):=by rw[Ah (!0)];exact q.h5
 have I:(s.set l6<|.lst<|A.map HI)[l6]?=some (.lst<|A.map HI):=by rw[As a]
 have xg:Gr st0 (s.set l6<|.lst<|A.map HI):=Lj q.fr (!0);generalize s.set l6 (.lst<|A.map HI)=s1 at *;have J:HS (T.map Hi) [.inl p.1,.inl p.2]=some (.int k):=Rf i F;have K:=Tb u J;obtain⟨b,s2,M,N,g2⟩:=qC c hK r m<|hT _ F;have Q:=(g2.old _<|qax m).trans m;have B:=(g2.old _<|qax r).trans r;have S:=(g2.old _<|qax u).trans u;have f:=(g2.old _<|qax H).trans H;have U:=(g2.old _<|qax I).trans I;have W:=xg.trans g2
 cases b with
 |false=>
  refine⟨_,_,s2,R,A,rJ q.h6 G K M,⟨Q,B,S,f,U,W⟩,.inl ⟨rfl,rfl,λz=>?_⟩⟩;exact absurd (N.mpr z)<|by decide
 |true=>
  have hm:=N.mp rfl;have d:=qax f;have L:=qax B;have ea:=append_at (x:=tD (p.1,p.2,k)) f (by rw[Af];omega);have X:(s2.set l5<|.lst<|R.map tD++[tD (p.1,p.2,k)])[d4]?=some (.dt<|T.map Hi):=by rw[Ah (!0)];exact S
  have Y:(s2.set l5<|.lst<|R.map tD++[tD (p.1,p.2,k)])[d3]?=some (.dt<|(sd++R).map Hi):=by rw[Ah (!0)];exact B
  have z2:(s2.set l5<|.lst<|R.map tD++[tD (p.1,p.2,k)])[a2]?=some (.dk<|JN stk):=by rw[Ah (!0)];exact Q
  have z6:(s2.set l5<|.lst<|R.map tD++[tD (p.1,p.2,k)])[l6]?=some (.lst<|A.map HI):=by rw[Ah (!0)];exact U
  have z5:(s2.set l5<|.lst<|R.map tD++[tD (p.1,p.2,k)])[l5]?=some (.lst<|(R++[(p.1,p.2,k)]).map tD):=by rw[As d];simp
  have zg:Gr st0 (s2.set l5<|.lst<|R.map tD++[tD (p.1,p.2,k)]):=Lj W (!0);generalize s2.set l5 (.lst<|R.map tD++[tD (p.1,p.2,k)])=s3 at *;have C:=Tb X J;have Z:=M8 (x:=p.1) (y:=p.2) (k:=k) Y (by simp;omega);rw[Oz hm.2.1,Aj]at Z;have L:=qax Y;have w2:(s3.set d3<|.dt<|(sd++(R++[(p.1,p.2,k)])).map Hi)[a2]?=some (.dk<|JN stk):=by rw[Ah (!0)];exact z2
  have w3:(s3.set d3<|.dt<|(sd++(R++[(p.1,p.2,k)])).map Hi)[d3]?=some (.dt<|(sd++(R++[(p.1,p.2,k)])).map Hi):=by rw[As L]
  have w4:(s3.set d3<|.dt<|(sd++(R++[(p.1,p.2,k)])).map Hi)[d4]?=some (.dt<|T.map Hi):=by rw[Ah (!0)];exact X
  have w5:(s3.set d3<|.dt<|(sd++(R++[(p.1,p.2,k)])).map Hi)[l5]?=some (.lst<|(R++[(p.1,p.2,k)]).map tD):=by rw[Ah (!0)];exact z5
  have E:(s3.set d3<|.dt<|(sd++(R++[(p.1,p.2,k)])).map Hi)[l6]?=some (.lst<|A.map HI):=by rw[Ah (!0)];exact z6
  have wg:Gr st0 (s3.set d3<|.dt<|(sd++(R++[(p.1,p.2,k)])).map Hi):=Lj zg (!0);generalize s3.set d3 (.dt<|(sd++(R++[(p.1,p.2,k)])).map Hi)=s4 at *;have v:∀{n:Nat}{o:O},s4[n]?=some o->(s4++[O.lst ((MV T p).map HI)])[n]?=some o:=λ{n o} z=>by rw[Am (qax z)];exact z
  have vg:=wg.trans<|Gr.app s4 [O.lst ((MV T p).map HI)];have hnl:=WE T p;have ex:=fJ (v E) (Iq s4<|.lst<|(MV T p).map HI) (by rw[Af,Af];omega);have P:=qax<|v E;refine⟨_,_,_,R++[(p.1,p.2,k)],A++MV T p,tX q.h6 G K M f ea C Z (λa8=>vT w4) E ex,⟨?_,?_,?_,?_,?_,Lj vg<|by omega⟩,.inr ⟨rfl,rfl,hm⟩⟩
  ·rw[Ah (!0)];exact v w2
  ·rw[Ah (!0)];exact v w3
  ·rw[Ah (!0)];exact v w4
  ·rw[Ah (!0)];exact v w5
  rw[As P,AZ]
def tY{A:List D}{a2 a3 a4 a5:Option D}(h:s[l6]?=some (.lst A)):RU [a0,a1,a2,a3,a4,a5,some (.ref l6),a7,a8] s=some (!A.isEmpty,s):=by unfold RU;simp[Ol,Km,HZ,h]
theorem W2{st0:Hg}(c:Ctx bed e stk ks w h)(hn:st0.length<=a2/\a2<d3/\d3<d4/\d4<l5/\l5<l6)(v:∀t∈T,Ir w h ks.length t)(g:∀t∈sd,Ir w h ks.length t)(a:Hy T)(j:Hy sd)(l:sd.length<=6)(m:T.length<=60):∀(n:Nat) {R:List Tl} {A:List (Int×Int)} {a7 a8:Option D}{s:Hg},n<=1000->RI a2 d3 d4 l5 l6 stk sd T R A st0 s->Js e stk ks w h sd R->(∀t∈R,t∈T)->(∀p∈A,∃k,(p.1,p.2,k)∈T)->(∀t∈T,JU e stk ks w h (sd++R) t->(t.1,t.2.1)∈A)->R.length+free T (sd++R)<=T.length->A.length+5*free T (sd++R)<n ->
  ∃(R':List Tl) (C E:Option D) (s':Hg),IS RU OD n [some bed,some tl,some (.ref a2),some (.ref d3),some (.ref d4),some (.ref l5),some (.ref l6),a7,a8] s=some (.nx [some bed,some tl,some (.ref a2),some (.ref d3),some (.ref d4),some (.ref l5),some (.ref l6),C,E],s')/\RI a2 d3 d4 l5 l6 stk sd T R' [] st0 s'/\Cl e stk ks w h sd T R'/\R'.length<=T.length
 |0,R,A,a7,a8,s,_,_,_,_,_,_,_,i=>absurd i<|Dz _
 |n+1,R,A,a7,a8,s,F,q,r,d,G,f,o,i=>by
  have M:=tY (a0:=some bed) (a1:=some tl) (a2:=some (.ref a2)) (a3:=some (.ref d3)) (a4:=some (.ref d4)) (a5:=some (.ref l5)) (a7:=a7) (a8:=a8) q.h6;rcases(List.eq_nil_or_concat A).imp_right (λ⟨B,b,z⟩=>(⟨B,b,z.trans List.concat_eq_append⟩:∃B b,A=B++[b]))with rfl|⟨A,p,rfl⟩
  ·refine⟨R,a7,a8,s,?_,q,⟨r,d,λt x z=>?_⟩,by omega⟩
   ·rw[IS];simp[M]
   have:=f t x z;cases this
  ·have hR:=o;obtain⟨k,hk⟩:=G p (!2);rw[AD,Br]at i;obtain⟨C,E,s1,R1,A1,Q,N,S⟩:=zlV (tl:=tl) (a7:=a7) (a8:=a8) c hn q hk v g a r (!0) (!0);have fin:∃(R':List Tl) (P H:Option D) (s':Hg),IS RU OD n [some bed,some tl,some (.ref a2),some (.ref d3),some (.ref d4),some (.ref l5),some (.ref l6),C,E] s1=some (.nx [some bed,some tl,some (.ref a2),some (.ref d3),some (.ref d4),some (.ref l5),some (.ref l6),P,H],s')/\RI a2 d3 d4 l5 l6 stk sd T R' [] st0 s'/\Cl e stk ks w h sd T R'/\R'.length<=T.length:=by
    rcases S with⟨rfl,rfl,I⟩|⟨rfl,rfl,hm⟩
    ·refine W2 c hn v g a j l m n (!0) N r d (λz J=>G z (AK _ J)) (λt x z=>?_) o (!0)
     rcases On.mp (f t x z)with y|y
     ·exact y
     have y:=KM.mp y;have U:=Ox a x;have L:=Ox a hk;subst y;have L:HN T t.1 t.2.1=some k:=L;rw[U]at L;cases L;exact absurd z I
    ·have hf:=bL hk hm.2.1;rw[Aj]at hf;have W:=WE T p;refine W2 c hn v g a j l m n (!0) N (Ru r hm) (λt x=>?_) (λz J=>?_) (λt x z=>?_) (by rw[AD,Br];omega) (by rw[AD];omega)
     ·rcases On.mp x with y|y
      ·exact d t y
      rw[KM.mp y];exact hk
     ·rcases On.mp J with y|y
      ·exact G z<|AK _ y
      have y:=(List.mem_filter.mp y).2;obtain⟨X,y⟩:=Option.isSome_iff_exists.mp y;exact⟨X,M9 y⟩
     ·rcases xR x a z with y|y
      ·rcases On.mp (f t x y)with u|u
       ·exact AK _ u
       have u:=KM.mp u;have Y:=K4.mp z.2.1 (p.1,p.2,k) (!2);subst u;exact absurd ⟨rfl,rfl⟩ Y
      exact AH _ y
   obtain⟨R',P,H,s',Z,q2,cl,hl⟩:=fin;refine⟨R',P,H,s',?_,q2,cl,hl⟩;rw[IS];dsimp only;rw[M];have K:(!((A++[p]).map HI).isEmpty)=true:=by simp
   simp only[Ac,K,if_true,Q];exact Z
def qN{d:Nat}(hd:s[d]?=some (.dt<|T.map Hi))(a:T.length<=60):OX [.ref d] s=some (.ref s.length,s++[.lst ((T.map λt=>(t.1,t.2.1)).map HI)]):=by
 have e:QI [.ref d] s=none:=by simp[QI,K7,LK,QJ,TJ,HZ,hd]
 have fl:fits T.length=true:=JK (!0);have h:Jt (T.map Hi)=(T.map λt=>(t.1,t.2.1)).map HI:=by unfold Jt;rw[AJ,AJ];rfl
 unfold OX K7;rw[e,Ku];unfold TH;simp only[hd,Af,fl,if_true,h]
def zhW(c:Ctx (!3) e stk ks w h)(m:∀t∈T,Ir w h ks.length t)(g:∀t∈sd,Ir w h ks.length t)(a:Hy T)(b:Hy sd)(i:sd.length<=6)(d:T.length<=60):
  ∃(R:List Tl) (f:Hg),Y4 (W8 [Hs e stk ks w h sd,Hw T] st=some (.tup (R.map tD),f)) (Gr st f) (Cl e stk ks w h sd T R) (R.length<=T.length):=by
 obtain⟨Q,r,S,B,U⟩:=c.at_;have A:=V4 (stk:=stk) (st:=st) (by have:=c.hs.sl;omega);obtain⟨s1,L,a1,g1⟩:=VF (ts:=sd) (st:=st++[.dk (JN stk)]) (!0);rw[Nz b]at a1;have b1:s1[st.length]?=some (.dk<|JN stk):=(g1.old _<|by simp).trans<|Iq st _;have C:(st++[O.dk (JN stk)]).length=st.length+1:=by simp
 rw[C]at L a1;obtain⟨s2,E,a2,g2⟩:=VF (ts:=T) (st:=s1) (!0);rw[Nz a]at a2;have W:st.length+1<s1.length:=qax a1;have X:s1.length<s2.length:=qax a2;have F:=((Gr.app st [.dk (JN stk)]).trans g1).trans g2;have G:=(g2.old _<|qax a1).trans a1;have H:=(g2.old _<|qax b1).trans b1;have v:∀{n:Nat}{o u:O},s2[n]?=some o->(s2++[u])[n]?=some o:=λ{n o u} z=>by rw[Am (qax z)];exact z
 have y:∀{n:Nat}{o u:O},(s2++[O.lst []])[n]?=some o->(s2++[O.lst []]++[u])[n]?=some o:=λ{n o u} z=>by rw[Am (qax z)];exact z
 have P:=qN (s:=s2++[O.lst []]) (v a2) d;have j:(s2++[O.lst []]).length=s2.length+1:=by simp
 have q:RI st.length (st.length+1) s1.length s2.length (s2.length+1) stk sd T [] (T.map λt=>(t.1,t.2.1)) st (s2++[O.lst []]++[.lst ((T.map λt=>(t.1,t.2.1)).map HI)]):=
  ⟨y<|v H,by rw[Ap];exact y (v G),y<|v a2,y<|Iq s2 _,by rw[<-j];exact Iq _ _,(F.trans<|Gr.app _ _).trans<|Gr.app _ _⟩
 rw[j]at P;have hf:=aW T (sd++[]);generalize s2++[O.lst []]++[O.lst ((T.map λt=>(t.1,t.2.1)).map HI)]=s3 at *;obtain⟨R,Y,Z,s4,I,l,cl,J⟩:=W2 (tl:=Hw T) (a7:=none) (a8:=none) c ⟨Ag _,by omega,by omega,by omega,by omega⟩ m g a b i d 1000 (Ag _) q trivial (λt x=>by cases x) (λp K=>by obtain⟨t,x,rfl⟩:=Re.mp K;exact⟨t.2.2,x⟩) (λt x _=>Re.mpr ⟨t,x,rfl⟩) (by simpa using hf) (by rw[Af];omega)
 have M:∀s:Hg,Hf (!3) (.int 2) s=some (Hw sd,s):=λs=>Im (!1) rfl;have N:=Mh l.h5;refine⟨R,s4,IH ?_,l.fr,cl,J⟩;unfold gJ;exists 4;generalize Hw T=TT at *;generalize Hw sd=SS at *;refine Hz (U1:=[some bed,some TT,some (.ref st.length),none,none,none,none,none,none]) (s1:=st++[O.dk (JN stk)]) (by simp[r,B,A]) ?_;refine Hz (U1:=[some bed,some TT,some (.ref st.length),some (.ref<|st.length+1),none,none,none,none,none]) (s1:=s1) (by simp[M,L]) ?_;refine Hz (U1:=[some bed,some TT,some (.ref st.length),some (.ref<|st.length+1),some (.ref s1.length),none,none,none,none]) (s1:=s2) (by simp[E]) ?_;refine Hz (U1:=[some bed,some TT,some (.ref st.length),some (.ref<|st.length+1),some (.ref s1.length),some (.ref s2.length),none,none,none]) (s1:=s2++[O.lst []]) (!2) ?_;refine Hz (U1:=[some bed,some TT,some (.ref st.length),some (.ref<|st.length+1),some (.ref s1.length),some (.ref s2.length),some (.ref<|s2.length+1),none,none]) (s1:=s3) (by simp[P]) ?_;refine Hz I ?_;simp[N]
def cB(c:Ctx (!3) e stk ks w h)(l:∀t∈T,Ir w h ks.length t)(f:∀t∈sd,Ir w h ks.length t)(g:Hy T)(i:Hy sd)(j:sd.length<=6)(m:T.length<=50):
  ∃(R:List Tl) (d:Hg),Y4 (TL [Hs e stk ks w h sd,Hw T] st=some (Hw (Hk<|sd++R),d)) (Gr st d) (Cl e stk ks w h sd T R) (R.length<=T.length):=by
 obtain⟨R,s1,n,g1,cl,p⟩:=zhW (st:=st) c l f g i j (!0);have x:=zlX (a:=sd) (b:=R) (st:=s1) (!0);have y:=gF (ts:=sd++R) (st:=s1) (by simp;omega);have A:=Mh<|Iq s1<|.lst<|(Hk<|sd++R).map tD;have L:∀s:Hg,Hf (!3) (.int 2) s=some (.tup (sd.map tD),s):=λs=>Im (!1) rfl;refine⟨R,s1++[.lst ((Hk<|sd++R).map tD)],IH ?_,g1.trans<|Gr.app _ _,cl,p⟩;unfold Z3;rw[ND (Hk<|sd++R)];generalize Hs e stk ks w h sd=bed at *;generalize Hw T=TT at *;generalize (Hk<|sd++R).map tD=B at *;generalize (sd++R).map tD=C at *;generalize R.map tD=P at *;generalize sd.map tD=SS at *;generalize s1++[O.lst B]=s5 at *;simp[L,n,x,y,A]
end L2.MP.T0
namespace L2.MP.T0
open PySem L2.MP L2.MP.Hd
open L2.MP.Hn (Hw Mu Hk Jo Pf Pn)
variable {bed hs:D}{e w h x y k a b E:Int}{stk:List (Str×Int)}{ks:List (!6)}{sd:List Tl}{d:Nat}{g a3 a4 a5 a6:Option D}{s s1 s2 st0 st:Hg}
section
variable {TT:D}{T:List Tl}
def Tg(a b x y:Int)(s:Hg):IY (.tup [.int x,.int y]) (.tup [.int a,.int b]) s=some (.bl (!decide (x=a/\y=b)),s):=by
 have e:∀u v:Int,IC 100 s (.tup [.int u,.int v])=some (.tuple [.int u,.int v]):=λu v=>by rw[IC,Je,Je,Je];rfl
 unfold IY;rw[e,e];simp[Bv,Ca];rfl
def qT(c:x=a/\y=b):Mt [some bed,some TT,some (.tup [.int a,.int b]),some (.ref d),g,some (.int x),some (.int y),some (.int k)] s=some (.nx [some bed,some TT,some (.tup [.int a,.int b]),some (.ref d),g,some (.int x),some (.int y),some (.int k)],s):=by have e:=Tg a b x y s;rw[decide_eq_true c]at e;unfold Mt;simp[e]
def qU(f:¬(x=a/\y=b))(c:Kx (.tup [.int x,.int y]) (.ref d) s=some (.bl false,s)):Mt [some bed,some TT,some (.tup [.int a,.int b]),some (.ref d),g,some (.int x),some (.int y),some (.int k)] s=some (.nx [some bed,some TT,some (.tup [.int a,.int b]),some (.ref d),g,some (.int x),some (.int y),some (.int k)],s):=by have e:=Tg a b x y s;rw[decide_eq_false f]at e;unfold Mt;simp[e,c]
def qV{R:Int}(f:¬(x=a/\y=b))(c:Kx (.tup [.int x,.int y]) (.ref d) s=some (.bl true,s))(i:Nf [bed,.ref d,.tup [.int x,.int y],.int k] s=some (.int R,s1))(j:Hf bed (.int 0) s1=some (hs,s1))(l:Hf hs (.int 0) s1=some (.int E,s1))(m:¬E<=R):
  Mt [some bed,some TT,some (.tup [.int a,.int b]),some (.ref d),g,some (.int x),some (.int y),some (.int k)] s=some (.nx [some bed,some TT,some (.tup [.int a,.int b]),some (.ref d),g,some (.int x),some (.int y),some (.int k)],s1):=by
 have e:=Tg a b x y s;rw[decide_eq_false f]at e;unfold Mt;simp[e,c,i,j,l,m]
def wQ{R:Int}(f:¬(x=a/\y=b))(c:Kx (.tup [.int x,.int y]) (.ref d) s=some (.bl true,s))(i:Nf [bed,.ref d,.tup [.int x,.int y],.int k] s=some (.int R,s1))(j:Hf bed (.int 0) s1=some (hs,s1))(l:Hf hs (.int 0) s1=some (.int E,s1))(m:E<=R)(n:dput s1 d (.tup [.int x,.int y]) (.int k)=some s2):
  Mt [some bed,some TT,some (.tup [.int a,.int b]),some (.ref d),g,some (.int x),some (.int y),some (.int k)] s=some (.nx [some bed,some TT,some (.tup [.int a,.int b]),some (.ref d),some (.bl true),some (.int x),some (.int y),some (.int k)],s2):=by
 have e:=Tg a b x y s;rw[decide_eq_false f]at e;unfold Mt;rw[Lf];have h:J9 (mT<|mB IY (mU<|Hc (mV 5)<|Hc (mV 6)<|mZ)<|mV 2) (J9 (mT<|mB Kx (mU<|Hc (mV 5)<|Hc (mV 6)<|mZ)<|mV 3)<|mT<|mB L1 (Ho Nf<|Hc (mV 0)<|Hc (mV 3)<|Hc (mU<|Hc (mV 5)<|Hc (mV 6)<|mZ)<|Hc (mV 7)<|mZ)<|mB Hf (mB Hf (mV 0)<|mK<|.int 0)<|mK<|.int 0) [some bed,some TT,some (.tup [.int a,.int b]),some (.ref d),g,some (.int x),some (.int y),some (.int k)] s=some (true,s1):=by simp[e,c,i,j,l,m]
 rw[h,Ac];show mS _ _ _ s1=_;refine Hz (U1:=[some bed,some TT,some (.tup [.int a,.int b]),some (.ref d),g,some (.int x),some (.int y),some (.int k)]) (s1:=s2) ?_ (!2);rw[Mo];have w:Hr (mV 7) (Lv Ik (mV 3)<|mU<|Hc (mV 5)<|Hc (mV 6)<|mZ) [some bed,some TT,some (.tup [.int a,.int b]),some (.ref d),g,some (.int x),some (.int y),some (.int k)] s1=none:=by simp[Ik]
 rw[w,Ku];unfold LC;simp[n]
def qS{R:List Tl}{t:Tl}(c:Ctx bed e stk ks w h)(hd:s[d]?=some (.dt<|(sd++R).map Hi))(h0:st0.length<=d)(j:Gr st0 s)(v:∀t∈sd++R,0<=t.2.2/\t.2.2<(ks.length:Int))(p:Ir w h ks.length t)(hlen:sd.length+R.length<=900):
  ∃(s':Hg) (g':Option D) (m:List Tl),Y4 (Mt [some bed,some TT,some (.tup [.int a,.int b]),some (.ref d),g,some (.int t.1),some (.int t.2.1),some (.int t.2.2)] s=some (.nx [some bed,some TT,some (.tup [.int a,.int b]),some (.ref d),g',some (.int t.1),some (.int t.2.1),some (.int t.2.2)],s')) (s'[d]?=some (.dt<|(sd++m).map Hi)) (Gr st0 s') (((g'=g/\m=R/\(¬(t.1=a/\t.2.1=b)->¬JU e stk ks w h (sd++R) t))\/(g'=some (.bl true)/\m=R++[t]/\¬(t.1=a/\t.2.1=b)/\JU e stk ks w h (sd++R) t))):=by
 obtain⟨x,y,k⟩:=t;have tt:=p;obtain⟨x0,C,F,G,T,l⟩:=p;have T:0<=k:=T;have l:k<(ks.length:Int):=l;by_cases hp:x=a/\y=b
 ·exact⟨s,g,R,qT hp,hd,j,.inl ⟨rfl,rfl,λz=>absurd hp z⟩⟩
 have E:=Ua (x:=x) (y:=y) hd;rw[Lm,Be]at E;cases hf:HN (sd++R) x y with
 |some H=>
  rw[hf]at E;refine⟨s,g,R,qU hp E,hd,j,.inl ⟨rfl,rfl,λ_ z=>?_⟩⟩;have:HN (sd++R) x y=none:=z.2.1;rw[hf]at this;cases this
 |none=>
  rw[hf]at E;obtain⟨hs,q,r,I,J⟩:=c.at_;obtain⟨f,K,b1,L,M,N,A,B⟩:=Mc c.ks T l;obtain⟨s2,n,g2⟩:=WU (x:=x) (y:=y) c.bed c.ks c.stk (by have:=c.hs.sl;omega) v T l hd;have o:((alike (Iz ks k)<|names4 ks (sd++R) x y).map λi=>sv stk ((Iz ks k).getD i "")).sum=Jf stk ks (sd++R) x y k.toNat:=by have:=Rg (stk:=stk) (P:=sd++R) (x:=x) (y:=y) (k:=k.toNat) (ks:=ks) (by rw[A2 T,A];rfl);rw[A2 T]at this;exact this
  rw[o]at n;have hd2:=(g2.old _<|qax hd).trans hd
  by_cases hR:e<=Jf stk ks (sd++R) x y k.toNat
  ·have hm:JU e stk ks w h (sd++R) (x,y,k):=⟨tt,hf,hR⟩
   have u:=M8 (x:=x) (y:=y) (k:=k) hd2 (by simp;omega);rw[Oz hm.2.1,Aj]at u;exact⟨_,_,R++[(x,y,k)],wQ hp E n (q _) (r _) hR u,by rw[As (qax hd2)],Lj (j.trans g2) h0,.inr ⟨rfl,rfl,hp,hm⟩⟩
  exact⟨s2,g,R,qV hp E n (q _) (r _) hR,hd2,j.trans g2,.inl ⟨rfl,rfl,λ_ z=>hR z.2.2⟩⟩
structure LS(e:Int)(stk:List (Str×Int))(ks:List (!6))(w h:Int)(d:Nat)(a b:Int)(sd T R:List Tl)(st0 s:Hg):Prop where
 at_:s[d]?=some (.dt ((sd++R).map Hi))
 fr:Gr st0 s
 row:Js e stk ks w h sd R
 sub:∀t∈R,t∈T/\¬(t.1=a/\t.2.1=b)
 few:R.length+free T (sd++R)<=T.length
def qR{R:List Tl}(c:Ctx bed e stk ks w h)(q:LS e stk ks w h d a b sd T R st0 s)(h0:st0.length<=d)(G:∀t∈T,Ir w h ks.length t)(A:∀t∈sd,Ir w h ks.length t)(I:sd.length<=6)(J:T.length<=60):
  ∃(g:Bool) (j l n:Option D) (f:List Tl) (s':Hg),Y4 (UZ [some bed,some (Hw T),some (.tup [.int a,.int b]),some (.ref d),a3,a4,a5,a6] s=some (.nx [some bed,some (Hw T),some (.tup [.int a,.int b]),some (.ref d),some (.bl g),j,l,n],s')) (LS e stk ks w h d a b sd T f st0 s') ((g=false->∀t∈T,¬(t.1=a/\t.2.1=b)->¬JU e stk ks w h (sd++f) t)) ((g=true->free T (sd++f)<free T (sd++R))):=by
 have key:=Ky (W:=⟨T.map tD,[]⟩) (g:=JY 3 (gC (Hl 5)<|gC (Hl 6)<|gC (Hl 7)<|JZ)) (m:=Mt) (ds:=T.map tD) (U:=[some bed,some (Hw T),some (.tup [.int a,.int b]),some (.ref d),some (.bl false),a4,a5,a6]) (st:=s)
  (Inv:=λi U s=>∃(g:Bool) (j l n:Option D) (f:List Tl),Y4 (U=[some bed,some (Hw T),some (.tup [.int a,.int b]),some (.ref d),some (.bl g),j,l,n]) (LS e stk ks w h d a b sd T f st0 s) ((g=false->f=R/\∀t∈T.take i,¬(t.1=a/\t.2.1=b)->¬JU e stk ks w h (sd++R) t)) ((g=true->free T (sd++f)<free T (sd++R))))
  ⟨false,_,_,_,R,rfl,q,λ_=>⟨rfl,λt v=>by simp at v⟩,λz=>by cases z⟩ (λ_ _ _ _ _=>rfl) (λi Q U s o K=>by
   obtain⟨g,j,l,n,f,rfl,x,p,y⟩:=K;rw[Ax]at o;obtain⟨t,v,rfl⟩:=Ie o;have E:=AG v;have L:∀t∈sd++f,0<=t.2.2/\t.2.2<(ks.length:Int):=λt hh=>by
    have:Ir w h ks.length t:=by
     rcases On.mp hh with hh|hh
     ·exact A t hh
     exact G t (x.sub t hh).1
    exists 15
   have H:=x.few;obtain⟨s2,g2,R2,M,at2,r,N⟩:=qS (TT:=Hw T) (g:=some (.bl g)) c x.at_ h0 x.fr L (G t E) (!0);refine⟨[some bed,some (Hw T),some (.tup [.int a,.int b]),some (.ref d),some (.bl g),some (.int t.1),some (.int t.2.1),some (.int t.2.2)],s,_,s2,rfl,M,?_⟩
   rcases N with⟨rfl,rfl,B⟩|⟨rfl,rfl,C,hm⟩
   ·refine⟨g,_,_,_,R2,rfl,⟨at2,r,x.row,x.sub,x.few⟩,λz=>?_,y⟩;obtain⟨rfl,F⟩:=p z;refine⟨rfl,λu hu=>?_⟩;rw[A7,v,CZ]at hu
    rcases hu with hu|hu
    ·exact F u hu
    rw[KM.mp hu];exact B
   ·have hf:=bL E hm.2.1;rw[Aj]at hf;refine⟨true,_,_,_,f++[t],rfl,⟨at2,r,Ru x.row hm,λu hu=>?_,by rw[AD,Br];omega⟩,(λz=>nomatch z),λ_=>?_⟩
    ·rcases On.mp hu with hu|hu
     ·exact x.sub u hu
     rw[KM.mp hu];exact⟨E,C⟩
    ·cases g with
     |true=>have:=y rfl;omega
     |false=>obtain⟨rfl,_⟩:=p rfl;omega)
 obtain⟨S,s',P,g,j,l,n,f,rfl,x,p,y⟩:=key;rw[Af,AU]at p;refine⟨g,j,l,n,f,s',?_,x,λz=>by obtain⟨rfl,F⟩:=p z;exact F,y⟩;unfold UZ;refine Hz (U1:=[some bed,some (Hw T),some (.tup [.int a,.int b]),some (.ref d),some (.bl false),a4,a5,a6]) (s1:=s) (!2) ?_;have hw:Jb (mV 1) [some bed,some (Hw T),some (.tup [.int a,.int b]),some (.ref d),some (.bl false),a4,a5,a6] s=some (⟨T.map tD,[]⟩,s):=rfl;rw[Kg,hw];exact P
def bM{g:Bool}{a0 a1 a2:Option D}:U4 [a0,a1,a2,a3,some (.bl g),a4,a5,a6] s=some (g,s):=by unfold U4;simp[Ol,Km]
theorem bD{a b:Int}{st0:Hg}(c:Ctx bed e stk ks w h)(h0:st0.length<=d)(v:∀t∈T,Ir w h ks.length t)(f:∀t∈sd,Ir w h ks.length t)(i:sd.length<=6)(j:T.length<=60):∀(n:Nat) {R:List Tl}{g:Bool}{a4 a5 a6:Option D}{s:Hg},LS e stk ks w h d a b sd T R st0 s->(g=false->0<n/\∀t∈T,¬(t.1=a/\t.2.1=b)->¬JU e stk ks w h (sd++R) t)->(g=true->free T (sd++R)+1<n) ->
  ∃(l:List Tl) (p r u:Option D) (s':Hg),IS U4 UZ n [some bed,some (Hw T),some (.tup [.int a,.int b]),some (.ref d),some (.bl g),a4,a5,a6] s=some (.nx [some bed,some (Hw T),some (.tup [.int a,.int b]),some (.ref d),some (.bl false),p,r,u],s')/\LS e stk ks w h d a b sd T l st0 s'/\∀t∈T,¬(t.1=a/\t.2.1=b)->¬JU e stk ks w h (sd++l) t
 |0,R,g,a4,a5,a6,s,q,m,o=>by
  cases g with
  |false=>exact absurd (m rfl).1<|AN _
  |true=>exact absurd (o rfl)<|Dz _
 |n+1,R,false,a4,a5,a6,s,q,m,o=>by refine⟨R,a4,a5,a6,s,?_,q,(m rfl).2⟩;rw[IS];dsimp only;rw[bM];rfl
 |n+1,R,true,a4,a5,a6,s,q,m,o=>by have I:=o rfl;obtain⟨g,p,r,u,J,s1,y,E,A,x⟩:=qR (a3:=some (.bl true)) (a4:=a4) (a5:=a5) (a6:=a6) c q h0 v f i j;obtain⟨l,B,C,F,s',G,H,sat⟩:=bD c h0 v f i j n (g:=g) (a4:=p) (a5:=r) (a6:=u) E (λz=>⟨by omega,A z⟩) (λz=>by have:=x z;omega);refine⟨l,B,C,F,s',?_,H,sat⟩;rw[IS];dsimp only;rw[bM];simp only[Ac,if_true,y];exact G
def zjQ(c:Ctx (!3) e stk ks w h)(m:∀t∈T,Ir w h ks.length t)(i:∀t∈sd,Ir w h ks.length t)(j:Hy sd)(l:sd.length<=6)(n:T.length<=60):
  ∃(d:Nat) (R:List Tl) (f:Hg),Y5 (US [Hs e stk ks w h sd,Hw T,.tup [.int a,.int b]] st=some (.ref d,f)) (f[d]?=some (.dt<|(sd++R).map Hi)) (Gr st f) (Js e stk ks w h sd R/\∀t∈R,t∈T/\¬(t.1=a/\t.2.1=b)) (∀t∈T,¬(t.1=a/\t.2.1=b)->¬JU e stk ks w h (sd++R) t):=by
 obtain⟨d,s1,x,a1,hd,g1⟩:=Qn (ts:=sd) (st:=st) (!0);rw[Nz j]at a1;have hf:=aW T<|sd++[];obtain⟨R,p,r,u,s2,y,q,sat⟩:=bD (a:=a) (b:=b) (g:=true) (a4:=none) (a5:=none) (a6:=none) c hd m i l (!0) 1000 (T:=T) (R:=[]) (s:=s1) ⟨by rw[Ap];exact a1,g1,trivial,λt E=>(by cases E),by simpa using hf⟩ (λz=>by cases z) (λ_=>by omega);refine⟨d,R,s2,IH ?_,q.at_,q.fr,⟨q.row,q.sub⟩,sat⟩;have o:∀s:Hg,Hf (!3) (.int 2) s=some (Hw sd,s):=λs=>Im (!1) rfl;unfold hG;generalize Hs e stk ks w h sd=bed at *;generalize Hw T=TT at *;generalize Hw sd=SS at *;refine Hz (U1:=[some bed,some TT,some (.tup [.int a,.int b]),some (.ref d),none,none,none,none]) (s1:=s1) (by simp[o,x]) ?_;refine Hz (U1:=[some bed,some TT,some (.tup [.int a,.int b]),some (.ref d),some (.bl true),none,none,none]) (s1:=s1) (!2) ?_;refine Hz y ?_;simp
end
theorem eR{α β:Type}(f:α->β):∀(l:List α) (i:Nat),(l.map f).eraseIdx i=(l.eraseIdx i).map f
 |[],i=>by simp
 |a::l,0=>by simp
 |a::l,i+1=>by simp[eR f l i]
def Yu(p:Int×Int):PyData:=.tuple [.int p.1,.int p.2]
variable {n:Nat}
theorem aS{n:Nat}{st:Hg}:∀ps:List (Int×Int),Je (IC (n+2) st) (ps.map HI)=some (ps.map Yu)
 |[]=>rfl
 |p::ps=>by
  have e:IC (n+2) st (HI p)=some (Yu p):=by show IC (n+2) st (.tup [.int p.1,.int p.2])=_;rw[IC];simp only[Je,IC,Ac,AL];rfl
  rw[An,Je,e,Ac,aS ps];rfl
variable {m:Nat}
def lE{l:Nat}{ps:List (Int×Int)}(c:st[l]?=some (.lst<|ps.map HI))(hm:st[m]?=some (.lst [])):IY (.ref l) (.ref m) st=some (.bl !ps.isEmpty,st):=by
 have e:IC 100 st (.ref l)=some (.list<|ps.map Yu):=by rw[IC];simp only[HZ,c,Ac];rw[aS];rfl
 unfold IY;rw[e,OB (n:=98) (as:=[]) hm];cases ps<;>rfl
variable {P:List Tl}
def zkc{P:List Tl}(hd:s[d]?=some (.dt<|P.map Hi))(c:P.length<64):∃L:List (Int×Int),Y3 (Qm [.ref d] s=some (.ref s.length,s++[.lst (L.map HI)])) (L.length=P.length) (∀p∈L,∃t∈P,t.1=p.1/\t.2.1=p.2):=by
 have fl:fits (P.map Hi).length=true:=JK (by rw[Af];omega);have g:Jt (P.map Hi)=(P.map λt=>(t.1,t.2.1)).map HI:=by unfold Jt;rw[AJ,AJ];rfl
 have m:((P.map λt=>(t.1,t.2.1)).map HI).length=P.length:=by rw[Af,Af]
 by_cases h:P.length<2
 ·refine⟨P.map λt=>(t.1,t.2.1),?_,by rw[Af],λp hp=>?_⟩
  ·unfold Qm;simp only[hd,fl,if_true,g];rw[if_pos (by rw[m];exact decide_eq_true h)]
  obtain⟨t,b,rfl⟩:=Re.mp hp;exact⟨t,b,rfl,rfl⟩
 ·have n:rowsOf ((P.map λt=>(t.1,t.2.1)).map HI)=some (P.map λt=>[t.1,t.2.1]):=by
   have:(P.map λt=>(t.1,t.2.1)).map HI=(P.map λt=>[t.1,t.2.1]).map HG:=by rw[AJ,AJ];rfl
   rw[this];exact RJ λr a=>by obtain⟨t,_,rfl⟩:=Re.mp a;simp
  have hp:=UB<|P.map λt=>[t.1,t.2.1];have e:∀r∈KS (P.map λt=>[t.1,t.2.1]),∃t∈P,r=[t.1,t.2.1]:=λr a=>by obtain⟨t,b,rfl⟩:=Re.mp<|hp.mem_iff.mp a;exact⟨t,b,rfl⟩
  have hlen:=hp.length_eq;rw[Af]at hlen;refine⟨(KS<|P.map λt=>[t.1,t.2.1]).map λr=>(r.getD 0 0,r.getD 1 0),?_,by rw[Af];exact hlen,λp w=>?_⟩
  ·have x:((KS<|P.map λt=>[t.1,t.2.1]).map λr=>(r.getD 0 0,r.getD 1 0)).map HI=(KS<|P.map λt=>[t.1,t.2.1]).map HG:=by
    rw[AJ];refine CQ λr a=>?_;obtain⟨t,_,rfl⟩:=e r a;rfl
   unfold Qm;simp only[hd,fl,if_true,g];rw[if_neg (by rw[m];simpa using h),n];simp only[Ac,Af];rw[if_pos (by simp;omega),x]
  obtain⟨r,a,rfl⟩:=Re.mp w;obtain⟨t,b,rfl⟩:=e r a;exact⟨t,b,rfl,rfl⟩
variable {q:Nat}{wy r:Int}
section
variable {pl:D}{s3:Hg}
def yH(hw:¬0<wy):IX (J9 (mT<|mB Nj (mV 6)<|mK<|.int 0)<|mT<|mB IY (mV 5)<|mL<|mZ) (Hr (mB Hf (mV 5)<|Ho Il<|Hc (mV 0)<|Hc (Ho HM<|Hc (mV 5)<|mZ)<|mZ)<|Hl 7) Jd [some (.ref n),some bed,some (.ref d),a3,a4,some (.ref q),some (.int wy),some pl] s=some (.nx [some (.ref n),some bed,some (.ref d),a3,a4,some (.ref q),some (.int wy),some pl],s):=by simp[hw]
def yI(hw:0<wy)(hs:s++[.lst []]=s1)(c:IY (.ref q) (.ref s.length) s1=some (.bl false,s1)):IX (J9 (mT<|mB Nj (mV 6)<|mK<|.int 0)<|mT<|mB IY (mV 5)<|mL<|mZ) (Hr (mB Hf (mV 5)<|Ho Il<|Hc (mV 0)<|Hc (Ho HM<|Hc (mV 5)<|mZ)<|mZ)<|Hl 7) Jd [some (.ref n),some bed,some (.ref d),a3,a4,some (.ref q),some (.int wy),some pl] s=some (.nx [some (.ref n),some bed,some (.ref d),a3,a4,some (.ref q),some (.int wy),some pl],s1):=by simp[hw,hs,c]
def yJ{N:Int}{c:D}(hw:0<wy)(hs:s++[.lst []]=s1)(f:IY (.ref q) (.ref s.length) s1=some (.bl true,s1))(i:HM [.ref q] s1=some (.int N,s1))(j:Il [.ref n,.int N] s1=some (.int r,s2))(l:Hf (.ref q) (.int r) s2=some (c,s2)):IX (J9 (mT<|mB Nj (mV 6)<|mK<|.int 0)<|mT<|mB IY (mV 5)<|mL<|mZ) (Hr (mB Hf (mV 5)<|Ho Il<|Hc (mV 0)<|Hc (Ho HM<|Hc (mV 5)<|mZ)<|mZ)<|Hl 7) Jd [some (.ref n),some bed,some (.ref d),a3,a4,some (.ref q),some (.int wy),some pl] s=some (.nx [some (.ref n),some bed,some (.ref d),a3,a4,some (.ref q),some (.int wy),some c],s2):=by simp[hw,hs,f,i,j,l]
def MC:MS:=IX (J9 (mT<|mB KC (mV 6)<|mK<|.int 3)<|mT<|mB J5 (mV 7)<|mV 2) (IJ<|QQ (mV 2)<|mV 7)<|Ji (mV 2) (mV 7)<|Ho Il<|Hc (mV 0)<|Hc (Ho HM<|Hc (mB Hf (mB Hf (mV 1)<|mK<|.int 0)<|mK<|.int 2)<|mZ)<|mZ
def qG{kvs:List (List Key×D)}(hw:wy=3)(hd:s[d]?=some (.dt kvs))(c:J5 (.tup [.int x,.int y]) (.ref d) s=some (.bl true,s))(f:HS kvs [.inl x,.inl y]=some (.int k)):MC [some (.ref n),some bed,some (.ref d),a3,a4,some (.ref q),some (.int wy),some (.tup [.int x,.int y])] s=some (.nx [some (.ref n),some bed,some (.ref d),a3,a4,some (.ref q),some (.int wy),some (.tup [.int x,.int y])],s.set d (.dt<|Kh kvs [.inl x,.inl y])):=by
 have hk:keysOf [.int x,.int y]=some [.inl x,.inl y]:=rfl;have a:QQ (mV 2) (mV 7) [some (.ref n),some bed,some (.ref d),a3,a4,some (.ref q),some (.int wy),some (.tup [.int x,.int y])] s=some (.int k,s.set d (.dt<|Kh kvs [.inl x,.inl y])):=by unfold QQ;simp[MQ,hd,hk,f]
 subst hw;unfold MC;rw[Lf];have b:J9 (mT<|mB KC (mV 6)<|mK<|.int 3) (mT<|mB J5 (mV 7)<|mV 2) [some (.ref n),some bed,some (.ref d),a3,a4,some (.ref q),some (.int 3),some (.tup [.int x,.int y])] s=some (true,s):=by simp[eq_int,c]
 rw[b,Ac,if_pos rfl,Nr,a];rfl
def qF{c:D}{K:Int}(o:J9 (mT<|mB KC (mV 6)<|mK<|.int 3) (mT<|mB J5 (mV 7)<|mV 2) [some (.ref n),some bed,some (.ref d),a3,a4,some (.ref q),some (.int wy),some (.tup [.int x,.int y])] s=some (false,s))(f:Hf bed (.int 0) s=some (hs,s))(i:Hf hs (.int 2) s=some (c,s))(j:HM [c] s=some (.int K,s))(l:Il [.ref n,.int K] s=some (.int r,s1))(p:dput s1 d (.tup [.int x,.int y]) (.int r)=some s2):MC [some (.ref n),some bed,some (.ref d),a3,a4,some (.ref q),some (.int wy),some (.tup [.int x,.int y])] s=some (.nx [some (.ref n),some bed,some (.ref d),a3,a4,some (.ref q),some (.int wy),some (.tup [.int x,.int y])],s2):=by
 unfold MC;rw[Lf,o,Ac,if_neg AW,Mo];have a:Hr (Ho Il<|Hc (mV 0)<|Hc (Ho HM<|Hc (mB Hf (mB Hf (mV 1)<|mK<|.int 0)<|mK<|.int 2)<|mZ)<|mZ) (Lv Ik (mV 2)<|mV 7) [some (.ref n),some bed,some (.ref d),a3,a4,some (.ref q),some (.int wy),some (.tup [.int x,.int y])] s=none:=by simp[f,i,j,l,Ik]
 rw[a,Ku];unfold LC;simp[f,i,j,l,p]
end
def VD{k:Nat}{o:O}(g:Fr n st s)(h:st.length<=k):Fr n st (s.set k o):=⟨by rw[Bk];exact g.len,λj a b=>by rw[Ah (!0)];exact g.old j a b⟩
def KP(w h:Int)(p:Int×Int):Prop:=0<=p.1/\p.1<w/\0<=p.2/\p.2<h
variable {p:Int×Int}{a7:Option D}
def Qe{L:List (Int×Int)}{p:Int×Int}(a:s[q]?=some (.lst<|L.map HI))(f:HJ n m s)(j:q≠n)(hm:m<=1000000)(z:L.length<=100)(hf:KP w h p)(c:∀p∈L,KP w h p):
  ∃(i:Int×Int) (s':Hg),Y4 (IX (J9 (mT<|mB Nj (mV 6)<|mK<|.int 0)<|mT<|mB IY (mV 5)<|mL<|mZ) (Hr (mB Hf (mV 5)<|Ho Il<|Hc (mV 0)<|Hc (Ho HM<|Hc (mV 5)<|mZ)<|mZ)<|Hl 7) Jd [some (.ref n),some bed,some (.ref d),a3,a4,some (.ref q),some (.int wy),some (HI p)] s=some (.nx [some (.ref n),some bed,some (.ref d),a3,a4,some (.ref q),some (.int wy),some (HI i)],s')) (KP w h i) (HJ n (m+1) s') (Fr n s s'):=by
 by_cases hw:0<wy
 ·have a1:(s++[O.lst []])[q]?=some (.lst<|L.map HI):=by rw[Am (qax a)];exact a
  have b1:=Iq s<|.lst [];have g1:=Gr.app s [.lst []];have e:=lE a1 b1;generalize hs:s++[O.lst []]=s1 at *;have y:=f.gr g1
  cases g:L with
  |nil=>
   rw[g]at e;exact⟨p,s1,yI hw hs e,hf,y.up<|by omega,g1.fr n⟩
  |cons u A=>
   rw[g]at e;have h0:0<L.length:=by rw[g];simp
   have E:HM [.ref q] s1=some (.int (L.length:Int),s1):=by rw[TY a1,Af]
   obtain⟨r,s2,P,l,B,o,f2⟩:=J0 (many:=(L.length:Int)) y hm (!0) (!0);have a2:=(f2.old _ (qax a1) j).trans a1;have b:r.toNat<L.length:=by omega
   have x:(L.map HI)[r.toNat]?=some (HI L[r.toNat]):=by rw[Ax,Ai b];rfl
   have v:=KU a2 l x;exact⟨L[r.toNat],s2,yJ hw hs e E P v,c _<|A5 b,o,(g1.fr n).trans f2⟩
 exact⟨p,s,yH hw,hf,f.up<|by omega,Fr.refl _ _⟩
structure SP(n m d:Nat)(w h kn:Int)(P:List Tl)(st0 s:Hg):Prop where
 at_:s[d]?=some (.dt (P.map Hi))
 nd:Hy P
 ok:∀t∈P,Ir w h kn t
 pot:HJ n m s
 fr:Fr n st0 s
def nG(c:Ctx bed e stk ks w h)(f:SP n m d w h ks.length P st0 s)(h0:st0.length<=d)(i:d≠n)(hm:m<=1000000)(hf:KP w h p)(L:P.length<=900)(M:0<ks.length):
  ∃(P':List Tl) (s':Hg),Y3 (MC [some (.ref n),some bed,some (.ref d),a3,a4,some (.ref q),some (.int wy),some (HI p)] s=some (.nx [some (.ref n),some bed,some (.ref d),a3,a4,some (.ref q),some (.int wy),some (HI p)],s')) (SP n (m+1) d w h ks.length P' st0 s') (P'.length<=P.length+1):=by
 obtain⟨x,y⟩:=p;have b:=qax f.at_;have a:=OV (x:=x) (y:=y) f.at_;by_cases hb:wy=3/\(HN P x y).isSome=true
 ·obtain⟨g,hs⟩:=hb;obtain⟨k,hk⟩:=Option.isSome_iff_exists.mp hs;have j:=Lm x y P;rw[hk]at j;rw[j]at a;have E:=qG (n:=n) (bed:=bed) (q:=q) (a3:=a3) (a4:=a4) (k:=k) g f.at_ a j;have e:Kh (P.map Hi) [.inl x,.inl y]=(P.eraseIdx<|(P.map Hi).findIdx λl=>decide (l.1=[.inl x,.inl y])).map Hi:=eR _ _ _;rw[e]at E;refine⟨_,_,E,⟨by rw[As b],?_,λt o=>f.ok t (Ed o),(f.pot.set i).up<|by omega,VD f.fr h0⟩,FZ<|C8 _ _⟩;exact Dm (EZ _ _) f.nd
 ·obtain⟨hs,u,N,Q,v⟩:=c.at_;have A:=c.hs.hi;have B:HM [.tup (ks.map IE)] s=some (.int (ks.length:Int),s):=by rw[Qa,Af]
  obtain⟨r,s1,C,F,G,H,f1⟩:=J0 (many:=(ks.length:Int)) f.pot hm (!0) (!0);have a1:=(f1.old _ b i).trans f.at_;have I:=M8 (x:=x) (y:=y) (k:=r) a1 (!0);have J:J9 (mT<|mB KC (mV 6)<|mK<|.int 3) (mT<|mB J5 (mV 7)<|mV 2) [some (.ref n),some bed,some (.ref d),a3,a4,some (.ref q),some (.int wy),some (.tup [.int x,.int y])] s=some (false,s):=by
   by_cases g:wy=3
   ·have K:(HN P x y).isSome=false:=by
     cases z:(HN P x y).isSome with
     |false=>rfl
     |true=>exact absurd ⟨g,z⟩ hb
    rw[Lm,Be,K]at a;subst g;simp[eq_int,a]
   simp[eq_int,g]
  have E:=qF J (u _) (v _) B C I;refine⟨_,_,E,⟨by rw[As (qax a1)],aK f.nd,bT f.ok ⟨hf.1,hf.2.1,hf.2.2.1,hf.2.2.2,F,G⟩,H.set i,VD (f.fr.trans f1) h0⟩,Wq _ _⟩
def zjm(c:Ctx bed e stk ks w h)(f:SP n m d w h ks.length P st0 s)(h0:st0.length<=d)(i:d≠n)(hm:m<=900000)(hl:P.length<=60)(K:0<ks.length):
  ∃(P':List Tl) (M N Q:Option D) (s':Hg),Y3 (UU [some (.ref n),some bed,some (.ref d),a3,a4,a5,a6,a7] s=some (.nx [some (.ref n),some bed,some (.ref d),a3,a4,M,N,Q],s')) (SP n (m+5) d w h ks.length P' st0 s') (P'.length<=P.length+1):=by
 have f1:=c.fo.w0;have f2:=c.fo.w1;have f3:=c.fo.h0;have f4:=c.fo.h1;obtain⟨L,S,T,y⟩:=zkc f.at_ (!0);have a1:=Iq s<|.lst<|L.map HI;have g1:=Gr.app s [.lst (L.map HI)];have sq:s.length≠n:=f.pot.ne;have a:=f.pot.gr g1;generalize s++[O.lst (L.map HI)]=s1 at *;obtain⟨b,s2,U,W,X,Y,E⟩:=J0 (many:=4) a (!0) (!1) (!1);obtain⟨I,s3,Z,j,l,p3,o⟩:=J0 (many:=w) Y (!0) (!0) (!0);obtain⟨J,s4,e4,u,v,p4,z⟩:=J0 (many:=h) p3 (!0) (!0) (!0);have g:=(E.trans o).trans z;have A:=(g.old _ (qax a1) sq).trans a1;have B:∀p∈L,KP w h p:=λp hp=>by obtain⟨t,ht,z1,z2⟩:=y p hp;obtain⟨x0,x1,y0,y1,_,_⟩:=f.ok t ht;unfold KP;rw[<-z1,<-z2];exact⟨x0,x1,y0,y1⟩
 obtain⟨p,s5,e5,C,p5,F⟩:=Qe (bed:=bed) (d:=d) (a3:=a3) (a4:=a4) (wy:=b) (p:=(I,J)) A p4 sq (!0) (!0) ⟨j,l,u,v⟩ B;have r:=((g1.fr n).trans g).trans F;have G:=(r.old _ (qax f.at_) i).trans f.at_;obtain⟨P',s6,e6,x,H⟩:=nG (q:=s.length) (a3:=a3) (a4:=a4) (wy:=b) c (⟨G,f.nd,f.ok,p5,f.fr.trans r⟩:SP n _ d w h ks.length P st0 s5) h0 i (!0) C (!0) K;refine⟨P',some<|.ref s.length,some<|.int b,some<|HI p,s6,?_,⟨x.at_,x.nd,x.ok,x.pot.up<|by omega,x.fr⟩,H⟩;have cf:=c.fl;have j0:∀s:Hg,Hf (.tup [.int w,.int h]) (.int 0) s=some (.int w,s):=λs=>Im (!1) rfl;have j1:∀s:Hg,Hf (.tup [.int w,.int h]) (.int 1) s=some (.int h,s):=λs=>Im (!1) rfl;unfold UU;refine Hz (U1:=[some (.ref n),some bed,some (.ref d),a3,a4,some (.ref s.length),a6,a7]) (s1:=s1) (by simp[S]) ?_;refine Hz (U1:=[some (.ref n),some bed,some (.ref d),a3,a4,some (.ref s.length),some (.int b),a7]) (s1:=s2) (by simp[U]) ?_;refine Hz (U1:=[some (.ref n),some bed,some (.ref d),a3,a4,some (.ref s.length),some (.int b),some (HI (I,J))]) (s1:=s4) (by simp[cf,j0,j1,Z,e4,HI]) ?_;refine Hz e5 ?_;exact e6
def uO(c:dput s d (.tup [.int x,.int y]) (.int k)=some s2):UT [some (.ref n),some bed,some (.ref d),some (.tup [.int x,.int y,.int k]),a4,a5,a6,a7] s=some (.nx [some (.ref n),some bed,some (.ref d),some (.tup [.int x,.int y,.int k]),a4,a5,a6,a7],s2):=by
 have a:LI (.tup [.int x,.int y,.int k]) none (some 2) s=some (.tup [.int x,.int y],s):=rfl;have b:Hf (.tup [.int x,.int y,.int k]) (.int 2) s=some (.int k,s):=Im (!1) rfl;unfold UT;rw[Mo];have e:Hr (mB Hf (mV 3)<|mK<|.int 2) (Lv Ik (mV 2)<|Jp (mV 3) K1<|K2<|mK<|.int 2) [some (.ref n),some bed,some (.ref d),some (.tup [.int x,.int y,.int k]),a4,a5,a6,a7] s=none:=by simp[a,b,Ik]
 rw[e,Ku];unfold LC;simp[a,b,c]
def zZ{sd:List Tl}(c:Ctx (!3) e stk ks w h)(Q:HJ n m st)(hm:m<=700000)(j:∀t∈sd,Ir w h ks.length t)(z:Hy sd)(Y:sd.length<=6)(Z:0<ks.length):
  ∃(P:List Tl) (f:Hg),Y6 (RN [.ref n,Hs e stk ks w h sd] st=some (Hw (Hk P),f)) (Hy P) ((∀t∈P,Ir w h ks.length t)) (P.length<=24) (HJ n (m+50) f) (Fr n st f):=by
 obtain⟨d,s1,e1,a1,hd,g1⟩:=Qn (ts:=sd) (st:=st) (!0);rw[Nz z]at a1;have hn:=Q.lt;have a:d≠n:=by omega
 obtain⟨R,s2,e2,A,hR,p2,f2⟩:=tU (st:=s1) c (Q.gr g1) (!0) j z Y;have a2:=(f2.old _ (qax a1) a).trans a1;have B:=(g1.fr n).trans f2;have key:=Ky (W:=⟨R.map tD,[]⟩) (g:=Hl 3) (m:=UT) (ds:=R.map tD) (U:=[some (.ref n),some (!3),some (.ref d),none,none,none,none,none]) (st:=s2)
  (Inv:=λi U s=>Y4 ((∃a3,U=[some (.ref n),some (!3),some (.ref d),a3,none,none,none,none])) (s[d]?=some (.dt<|(sd++R.take i).map Hi)) (HJ n (m+12) s) (Fr n st s))
  ⟨⟨_,rfl⟩,by simpa using a2,p2,B⟩ (λ_ _ _ _ _=>rfl) (λi dd U s b C=>by
   obtain⟨⟨a3,rfl⟩,l,F,G⟩:=C;rw[Ax]at b;obtain⟨⟨x,y,k⟩,ht,rfl⟩:=Ie b;have H:=Q7 A ht;have T:=M8 (x:=x) (y:=y) (k:=k) l (by simp;omega);have o:IM (sd++R.take i) (x,y,k)=sd++R.take (i+1):=by rw[Oz H.2.1,Aj,A7,ht];rfl
   rw[o]at T;exact⟨_,s,_,_,rfl,uO T,⟨_,rfl⟩,by rw[As (qax l)],F.set a,VD G hd⟩)
 obtain⟨U',s3,el,⟨a3,rfl⟩,p,I,J⟩:=key;rw[Af,AU]at p;obtain⟨r,s4,e4,r0,r1,p4,f4⟩:=J0 (many:=6) I (!0) (!1) (!1);have K:=(f4.old _ (qax p) a).trans p;obtain⟨E,L,hr6⟩:∃E:Nat,r=(E:Int)/\E<=5:=⟨r.toNat,by omega,by omega⟩
 have u:=Ky (W:=⟨run 0 E,[]⟩) (g:=Hl 4) (m:=UU) (ds:=run 0 E) (U:=[some (.ref n),some (!3),some (.ref d),a3,none,none,none,none]) (st:=s4)
  (Inv:=λi U s=>(∃a4 a5 a6 a7,U=[some (.ref n),some (!3),some (.ref d),a3,a4,a5,a6,a7])/\∃P:List Tl,SP n (m+13+5*i) d w h ks.length P st s/\P.length<=18+i)
  ⟨⟨_,_,_,_,rfl⟩,sd++R,⟨K,Lk z A,λt ht=>by
   rcases On.mp ht with ht|ht
   ·exact j t ht
   ·exact Pe A t ht,p4,J.trans f4⟩,by simp;omega⟩ (λ_ _ _ _ _=>rfl) (λi dd U s b C=>by
   obtain⟨⟨a4,a5,a6,a7,rfl⟩,P,q,X⟩:=C;obtain⟨hi,rfl⟩:=LO b;obtain⟨P',b5,b6,b7,s',e5,v,hP'⟩:=zjm (a3:=a3) (a4:=some (.int (i:Int))) (a5:=a5) (a6:=a6) (a7:=a7) c q hd a (!0) (!0) Z;exact⟨_,s,_,s',rfl,e5,⟨_,_,_,_,rfl⟩,P',⟨v.at_,v.nd,v.ok,v.pot.up<|by omega,v.fr⟩,by omega⟩)
 obtain⟨U'',s5,M,⟨a4,a5,a6,a7,rfl⟩,P,q,X⟩:=u;rw[Ld]at q X;obtain⟨s6,e6,g6⟩:=XH q.at_ q.nd (!0);refine⟨P,s6,IH ?_,q.nd,q.ok,by omega,(q.pot.gr g6).up<|by omega,q.fr.trans<|g6.fr n⟩;have x2:∀s:Hg,Hf (!3) (.int 2) s=some (Hw sd,s):=λs=>Im (!1) rfl;unfold iE;generalize Hs e stk ks w h sd=bed at *;generalize Hw sd=SS at *;generalize Hw (Hk P)=S at *;generalize R.map tD=RR at *;refine Hz (U1:=[some (.ref n),some bed,some (.ref d),none,none,none,none,none]) (s1:=s1) (by simp[x2,e1]) ?_;have hw:Jb (Ho UN<|Hc (mV 0)<|Hc (mV 1)<|Hc (mK<|.int 12)<|mZ) [some (.ref n),some bed,some (.ref d),none,none,none,none,none] s1=some (⟨RR,[]⟩,s2):=by simp[e2,Lg]
 refine Hz (U1:=[some (.ref n),some bed,some (.ref d),a3,none,none,none,none]) (s1:=s3) (by rw[Kg,hw];exact el) ?_;have N:IW (Ho Il<|Hc (mV 0)<|Hc (mK<|.int 6)<|mZ) [some (.ref n),some bed,some (.ref d),a3,none,none,none,none] s3=some (⟨run 0 E,[]⟩,s4):=by refine P1 (s1:=s4) (k:=E) L ?_ (!0);simp[e4]
 refine Hz (U1:=[some (.ref n),some bed,some (.ref d),a3,a4,a5,a6,a7]) (s1:=s5) (by rw[Kg,N];exact M) ?_;simp[e6]
end L2.MP.T0
namespace L2.MP.T0
open PySem L2.MP L2.MP.Hd
open L2.MP.Hn (Hw Mu Hk Jo)
variable {bed pl hs sl:D}{d ln l:Nat}{num E:Int}{L:List D}{s s1:Hg}
def VQ{R a b:Int}{c:D}(es:LI c (some 1) none s=some (sl,s))(e:Po [.ref d,sl,.ref ln] s=some (.int R,s1))(f:Hf hs (.int 0) s1=some (.int E,s1))(g:E<=R)(h:s1[l]?=some (.lst L))(i:Hf pl (.int 0) s1=some (.int a,s1))(j:Hf pl (.int 1) s1=some (.int b,s1))(m:Lb (.ref l) [.tup [.int a,.int b,.int num]] s1=some (.non,s1.set l (.lst<|L++[.tup [.int a,.int b,.int num]]))):
  Qw [some bed,some (.ref d),some (.ref ln),some pl,some hs,some (.ref l),some (.int num),some c] s=some (.nx [some bed,some (.ref d),some (.ref ln),some pl,some hs,some (.ref l),some (.int num),some c],s1.set l (.lst<|L++[.tup [.int a,.int b,.int num]])):=by
 unfold Qw;simp[es,e,f,g,HZ,h,i,j,m]
def uL{R:Int}{a:D}(es:LI a (some 1) none s=some (sl,s))(b:Po [.ref d,sl,.ref ln] s=some (.int R,s1))(c:Hf hs (.int 0) s1=some (.int E,s1))(e:¬E<=R):
  Qw [some bed,some (.ref d),some (.ref ln),some pl,some hs,some (.ref l),some (.int num),some a] s=some (.nx [some bed,some (.ref d),some (.ref ln),some pl,some hs,some (.ref l),some (.int num),some a],s1):=by
 unfold Qw;simp[es,b,c,e]
variable {e w h x y:Int}{stk:List (Str×Int)}{ks:List (!6)}{P:List Tl}{st:Hg}
def jW{P:List Tl}(c:Ctx bed e stk ks w h)(hP:∀t∈P,0<=t.2.2/\t.2.2<(ks.length:Int))(hd:st[d]?=some (.dk<|JN stk))(hn:st[ln]?=some (.lst<|(!7).map D.str)):
  ∃n,UI [bed,.ref d,.ref ln,.tup [.int x,.int y]] st=some (.ref st.length,n)/\n[st.length]?=some (.lst<|(gK e stk ks P x y ks.length).map tD)/\Gr st n:=by
 obtain⟨hs,i0,ie,_,i2⟩:=c.at_;have o:strsOf ((!7).map D.str)=some (!7):=fH _;have hN:∀u∈names4 ks P x y,Iy u:=λu E=>by
  simp[names4]at E;rcases E with rfl|rfl|rfl|rfl<;>exact Sl c.ks hP _ _
 have I:sizeLine=16777216:=Ct;have p:((!7).all λz=>decide (z.length<=sizeLine))=true:=List.all_eq_true.mpr λu E=>decide_eq_true (by
  have:=(hN u E).len;rw[len_list,I];omega)
 have J:(st++[O.lst []])[ln]?=some (.lst<|(!7).map D.str):=by rw[Am (qax hn)];exact hn
 have H:MF [.ref ln] (st++[O.lst []])=some (.bl ((!7).any NW),st++[O.lst []]):=by unfold MF;simp only[HZ,J,Ac,o,p,if_true]
 have hd1:(st++[O.lst []])[d]?=some (.dk<|JN stk):=by rw[Am (qax hd)];exact hd
 have a1:=Iq st<|.lst [];have g1:=Gr.app st [.lst []];have s1l:(st++[O.lst []]).length=st.length+1:=by simp
 generalize q:st++[O.lst []]=s1 at *;by_cases hany:(!7).any NW=true
 ·rw[hany]at H;have K:=qax hd;have M:=qax hn;have key:=Ky (W:=⟨pairs<|ks.map IE,[]⟩) (g:=JY 2 (gC (Hl 6)<|gC (Hl 7)<|JZ)) (m:=Qw) (ds:=pairs (ks.map IE)) (U:=[some bed,some (.ref d),some (.ref ln),some (.tup [.int x,.int y]),some hs,some (.ref st.length),none,none]) (st:=s1)
   (Inv:=λk U s=>(∃a b,U=[some bed,some (.ref d),some (.ref ln),some (.tup [.int x,.int y]),some hs,some (.ref st.length),a,b])/\s[st.length]?=some (.lst<|(gK e stk ks P x y k).map tD)/\Gr st s)
   ⟨⟨_,_,rfl⟩,a1,g1⟩ (λ_ _ _ _ _=>rfl) (λk dd U s Q hI=>by
    obtain⟨⟨u,v,rfl⟩,L,r⟩:=hI;obtain⟨kd,A,rfl⟩:=eJ Q;rw[Ax]at A;obtain⟨kk,B,rfl⟩:=Ie A;have hk:=qax B;have k1:((k:Nat):Int)<(ks.length:Int):=by omega
    obtain⟨f,b0,b1,b2,b3,ek,T,X⟩:=Mc c.ks (k:=(k:Int)) (!0) k1;have C:kk=[f,b0,b1,b2,b3]:=by rw[BA,B]at ek;exact AA ek
    subst C;have F:LI (IE [f,b0,b1,b2,b3]) (some 1) none s=some (.tup ((Iz ks (k:Int)).map D.str),s):=by rw[T];rfl
    obtain⟨s2,e2,g2⟩:=gG (S:=Iz ks (k:Int)) (N:=names4 ks P x y) (st:=s) c.stk (by rw[T];exact Ag _) (λu E=>by rw[T]at E;exact X u E) (λu E=>Q4 (hN u E).ab) ((r.old _ K).trans hd)<|(r.old _ M).trans hn;have l:=(g2.old _<|qax L).trans L;have Y:=r.trans g2;have hlen:=Tr e stk ks P x y k;have k13:=c.hs.hi
    by_cases hR:e<=Jf stk ks P x y k
    ·have Z:=append_at (x:=.tup [.int x,.int y,.int (k:Int)]) l (by rw[Af];omega);refine⟨_,s,_,_,rfl,VQ F e2 (ie _) hR l (Im (!1) rfl) (Im (!1) rfl) Z,⟨_,_,rfl⟩,?_,⟨by rw[Bk];exact Y.len,λj hj=>by rw[Ah (!0)];exact Y.old j hj⟩⟩;rw[As (qax l),TX,if_pos hR,AZ];rfl
    refine⟨_,s,_,_,rfl,uL F e2 (ie _) hR,⟨_,_,rfl⟩,?_,Y⟩;rw[TX,if_neg hR];exact l)
  obtain⟨U',s',el,⟨u,v,rfl⟩,L,r⟩:=key;have hpl:(pairs<|ks.map IE).length=ks.length:=by unfold pairs;simp
  rw[hpl]at L;refine⟨s',IH ?_,L,r⟩;unfold Xn;refine Hz (U1:=[some bed,some (.ref d),some (.ref ln),some (.tup [.int x,.int y]),some hs,none,none,none]) (s1:=st) (by simp[i0]) ?_;refine Hz (U1:=[some bed,some (.ref d),some (.ref ln),some (.tup [.int x,.int y]),some hs,some (.ref st.length),none,none]) (s1:=s1) (by simp[q]) ?_;refine Hz (U1:=[some bed,some (.ref d),some (.ref ln),some (.tup [.int x,.int y]),some hs,some (.ref st.length),none,none]) (s1:=s1) (by simp[H]) ?_;refine Hz (U1:=[some bed,some (.ref d),some (.ref ln),some (.tup [.int x,.int y]),some hs,some (.ref st.length),u,v]) (s1:=s') (by
   have ec:mB Hf (mV 4) (mK<|.int 2) [some bed,some (.ref d),some (.ref ln),some (.tup [.int x,.int y]),some hs,some (.ref st.length),none,none] s1=some (.tup (ks.map IE),s1):=by simp[i2]
   rw[Kg,bE ec];exact el) ?_
  simp
 ·have hf:(!7).any NW=false:=by simpa using hany
  rw[hf]at H;have i:∀u∈names4 ks P x y,u="":=λu E=>by
   have h1:NW u=false:=by rw[FN]at hf;simpa using hf u E
   unfold NW at h1;have h2:u.length=0:=by simpa using h1
   refine aQ ?_;have h3:u.cps.toList.length=0:=by rw[<-len_list];exact h2
   rw[List.length_eq_zero_iff.mp h3];rfl
  have h4:names4 ks P x y=[("":Str),("":Str),("":Str),("":Str)]:=by have q0:=i (JP ks P (x,y+1) 2) (by simp[names4]);have q1:=i (JP ks P (x+1,y) 3) (by simp[names4]);have q2:=i (JP ks P (x,y-1) 0) (by simp[names4]);have q3:=i (JP ks P (x-1,y) 1) (by simp[names4]);unfold names4;rw[q0,q1,q2,q3]
  have G:gK e stk ks P x y ks.length=[]:=Zu c.hs.e0 h4 _;refine⟨s1,IH ?_,by rw[G];exact a1,g1⟩;unfold Xn;refine Hz (U1:=[some bed,some (.ref d),some (.ref ln),some (.tup [.int x,.int y]),some hs,none,none,none]) (s1:=st) (by simp[i0]) ?_;refine Hz (U1:=[some bed,some (.ref d),some (.ref ln),some (.tup [.int x,.int y]),some hs,some (.ref st.length),none,none]) (s1:=s1) (by simp[q])<|Ot ?_;simp[H]
def Oe(bed:D)(sd a ld b:Nat):List (Str×D):=[("bed",bed),("strengths",.ref sd),("kinds",.ref a),("laid",.ref ld),("ready",.ref b)]
def OA(C:Addr)(o:Nat)(bed:D)(sd a ld b:Nat)(s:Hg):Prop:=s[o]?=some (.ob C<|Oe bed sd a ld b)
variable {kd o sd ld rd:Nat}{C:Addr}{U:Ii}{f:Str}{fs:List (Str×D)}
section
variable {m:ME}
def QY{d:D}(hm:m U s=some (.ref o,s1))(h:s1[o]?=some (.ob C fs))(l:fs.lookup f=some d):HE C f m U s=some (d,s1):=by unfold HE;simp[hm,h,l]
def QL(h:OA C o bed sd kd ld rd s):HE C "bed" (mV 0) (some (.ref o)::U) s=some (bed,s):=QY rfl h rfl
def jA(h:OA C o bed sd kd ld rd s):HE C "strengths" (mV 0) (some (.ref o)::U) s=some (.ref sd,s):=QY rfl h rfl
def S0(h:OA C o bed sd kd ld rd s):HE C "kinds" (mV 0) (some (.ref o)::U) s=some (.ref kd,s):=QY rfl h rfl
def VB(h:OA C o bed sd kd ld rd s):HE C "laid" (mV 0) (some (.ref o)::U) s=some (.ref ld,s):=QY rfl h rfl
def QM(h:OA C o bed sd kd ld rd s):HE C "ready" (mV 0) (some (.ref o)::U) s=some (.ref rd,s):=QY rfl h rfl
end
noncomputable abbrev Yq:=(Int×Int)×Nat
def ID(q:Yq):List Key×D:=([.inl q.1.1,.inl q.1.2],.ref q.2)
def Kr(Y:List Yq)(p:Int×Int):List Yq:=Y.filter λq=>!decide (q.1=p)
def TF(q:Yq)(p:Int×Int):decide ((ID q).1=[.inl p.1,.inl p.2])=decide (q.1=p):=by obtain⟨⟨a,b⟩,n⟩:=q;obtain⟨x,y⟩:=p;simp[ID]
variable {p:Int×Int}
def eQ:∀{Y:List Yq},(∀q∈Y,q.1≠p)->Kr Y p=Y:=λ{Y} h=>List.filter_eq_self.mpr λq d=>by simpa using h q d
theorem aV{p:Int×Int}:∀{Y:List Yq},(Y.map (·.1)).Nodup->Kh (Y.map ID) [.inl p.1,.inl p.2]=(Kr Y p).map ID
 |[],_=>rfl
 |q::Y,a=>by
  rw[An,Dw]at a;unfold Kh;rw[An,CB,TF];by_cases h:q.1=p
  ·rw[decide_eq_true h];have:∀z∈Y,z.1≠p:=λz l e=>a.1<|Re.mpr ⟨z,l,e.trans h.symm⟩;have d:Kr (q::Y) p=Y:=by
    have:=eQ this;unfold Kr at this ⊢;simp[h,this]
   rw[d];rfl
  ·rw[decide_eq_false h];have f:=aV (p:=p) a.2;unfold Kh at f;have d:Kr (q::Y) p=q::Kr Y p:=by
    unfold Kr;simp[h]
   rw[d,An,<-f];rfl
theorem VO{p:Int×Int}:∀{Y:List Yq},(HS (Y.map ID) [.inl p.1,.inl p.2]=none/\∀q∈Y,q.1≠p)\/∃n,(p,n)∈Y/\HS (Y.map ID) [.inl p.1,.inl p.2]=some (.ref n)
 |[]=>.inl ⟨rfl,λq c=>nomatch c⟩
 |q::Y=>by
  by_cases h:q.1=p
  ·refine .inr ⟨q.2,by rw[<-h];exact Ar,?_⟩;unfold HS;rw[An,AV];have:=TF q p;simp[this,h,ID]
  ·have e:HS ((q::Y).map ID) [.inl p.1,.inl p.2]=HS (Y.map ID) [.inl p.1,.inl p.2]:=by
    unfold HS;rw[An,AV];have:=TF q p;simp[this,h]
   rcases VO (p:=p) (Y:=Y)with⟨a,b⟩|⟨n,a,b⟩
   ·exact .inl ⟨e.trans a,λz hz=>by
     rcases Os.mp hz with rfl|hz
     ·exact h
     exact b z hz⟩
   exact .inr ⟨n,Al _ a,e.trans b⟩
variable {Y:List Yq}
def rX(h:OA C o bed sd kd ld rd s)(c:s[rd]?=some (.dt<|Y.map ID))(g:(Y.map (·.1)).Nodup):
  ∃v,Oa (HE C "ready"<|mV 0) (mV 1) (mK .non) (some (.ref o)::some (HI p)::U) s=some (v,s.set rd (.dt<|(Kr Y p).map ID)):=by
 have hk:keysOf [.int p.1,.int p.2]=some [.inl p.1,.inl p.2]:=rfl;have hd:MQ s rd=true:=by unfold MQ;rw[c]
 have d:=qax c;rcases VO (p:=p) (Y:=Y)with⟨a,b⟩|⟨n,a,b⟩
 ·refine⟨.non,?_⟩;have e:s.set rd (.dt<|(Kr Y p).map ID)=s:=by
   rw[eQ b];apply F3;intro i;by_cases hi:i=rd
   ·subst hi;rw[As d,c]
   rw[Ah (λz=>hi z.symm)]
  rw[e];unfold Oa;rw[QM h];simp[hd,c,HI,hk,a]
 refine⟨.ref n,?_⟩;rw[<-aV g];unfold Oa;rw[QM h];simp[hd,c,HI,hk,b]
variable {N:Nat}
def OU{ms:MS}{ds:List D}(h:ms (LJ N ds) st=some (.nx U,s)):Iv N ms ds st=some (.non,s):=by unfold Iv;rw[h];rfl
def cZ{lo hi:Int}(h:¬(lo<=x/\x<=hi)):RC [.int x,.int lo,.int hi] st=some (.bl false,st):=by
 refine IH ?_;have t1:tyName st (.int x)=some "int":=rfl;have d:Kn "int" "int"=true:=by decide
 have t3:Kn "int" "bool"=false:=by decide
 unfold WW;by_cases h1:lo<=x
 ·have e:¬x<=hi:=λz=>h ⟨h1,z⟩;simp[M4,t1,d,t3,h1,e]
 simp[M4,t1,d,t3,h1]
def yO(c:Ctx bed e stk ks w h)(hn:¬KP w h p):NI [bed,HI p] st=some (.bl false,st):=by
 obtain⟨x,y⟩:=p;have f:=dF (ds:=[.int x,.int y]) (n:=2) (N:=2) (st:=st) rfl rfl;have l:Hf (.tup [.int x,.int y]) (.int 0) st=some (.int x,st):=Im (!1) rfl;have s:Hf (.tup [.int x,.int y]) (.int 1) st=some (.int y,st):=Im (!1) rfl;have o:Hf (.tup [.int w,.int h]) (.int 0) st=some (.int w,st):=Im (!1) rfl;have C:Hf (.tup [.int w,.int h]) (.int 1) st=some (.int h,st):=Im (!1) rfl;have E:=c.fl;refine IH ?_;unfold WV;refine Hz (U1:=[some bed,some (.tup [.int x,.int y]),some (.tup [.int w,.int h])]) (s1:=st) (by simp[E,HI]) ?_
 by_cases hx:0<=x/\x<w
 ·have d:=WA (x:=x) (lo:=0) (hi:=w-1) (st:=st) hx.1 (!0);have L:=cZ (x:=y) (lo:=0) (hi:=h-1) (st:=st) λz=>hn ⟨hx.1,hx.2,z.1,by show y<h;omega⟩;simp[f,d,L,l,s,o,C]
 have d:=cZ (x:=x) (lo:=0) (hi:=w-1) (st:=st) λz=>hx ⟨z.1,by omega⟩;simp[f,d,l,o]
variable {v:D}{a2 a3:Option D}{s2 s3:Hg}
section
variable {s4:Hg}
def wK(b:Oa (HE C "ready"<|mV 0) (mV 1) (mK .non) [some (.ref o),some pl,none,none] s=some (v,s1))(c:OA C o bed sd kd ld rd s1)(a:Kx pl (.ref kd) s1=some (.bl false,s1)):
  Pg C [some (.ref o),some pl,none,none] s=some (.nx [some (.ref o),some pl,none,none],s1):=by
 have d:HE C "kinds" (mV 0) [some (.ref o),some pl,none,none] s1=some (.ref kd,s1):=S0 c;unfold Pg;refine Hz (U1:=[some (.ref o),some pl,none,none]) (s1:=s1) (by rw[Nr,b];rfl) ?_;simp[d,a]
def nS(c:Oa (HE C "ready"<|mV 0) (mV 1) (mK .non) [some (.ref o),some pl,none,none] s=some (v,s1))(b:OA C o bed sd kd ld rd s1)(a:Kx pl (.ref kd) s1=some (.bl true,s1))(g:NI [bed,pl] s1=some (.bl false,s1)):
  Pg C [some (.ref o),some pl,none,none] s=some (.nx [some (.ref o),some pl,none,none],s1):=by
 have d:HE C "kinds" (mV 0) [some (.ref o),some pl,none,none] s1=some (.ref kd,s1):=S0 b;have e:HE C "bed" (mV 0) [some (.ref o),some pl,none,none] s1=some (bed,s1):=QL b;unfold Pg;refine Hz (U1:=[some (.ref o),some pl,none,none]) (s1:=s1) (by rw[Nr,c];rfl) ?_;simp[d,e,a,g]
def cO{r:Option (Fl×Hg)}(g:Oa (HE C "ready"<|mV 0) (mV 1) (mK .non) [some (.ref o),some pl,none,none] s=some (v,s1))(b:OA C o bed sd kd ld rd s1)(a:Kx pl (.ref kd) s1=some (.bl true,s1))(i:NI [bed,pl] s1=some (.bl true,s1))(j:Qr [bed,.ref kd,pl] s1=some (.ref ln,s2)) (c:OA C o bed sd kd ld rd s2) (m:UI [bed,.ref sd,.ref ln,pl] s2=some (.ref l,s3)) (k:IX (J3<|mV 3) (Ji (HE C "ready"<|mV 0) (mV 1)<|mV 3) Jd [some (.ref o),some pl,some (.ref ln),some (.ref l)] s3=r):
  Pg C [some (.ref o),some pl,none,none] s=r:=by
 have d:HE C "kinds" (mV 0) [some (.ref o),some pl,none,none] s1=some (.ref kd,s1):=S0 b;have e:HE C "bed" (mV 0) [some (.ref o),some pl,none,none] s1=some (bed,s1):=QL b;have f:HE C "bed" (mV 0) [some (.ref o),some pl,some (.ref ln),none] s2=some (bed,s2):=QL c;have h:HE C "strengths" (mV 0) [some (.ref o),some pl,some (.ref ln),none] s2=some (.ref sd,s2):=jA c;unfold Pg;refine Hz (U1:=[some (.ref o),some pl,none,none]) (s1:=s1) (by rw[Nr,g];rfl) ?_;rw[Lf];have p:J9 (mT<|mB Kx (mV 1)<|HE C "kinds"<|mV 0) (mT<|Ho NI<|Hc (HE C "bed"<|mV 0)<|Hc (mV 1)<|mZ) [some (.ref o),some pl,none,none] s1=some (true,s1):=by simp[d,e,a,i]
 rw[p,Ac,if_pos rfl];refine Hz (U1:=[some (.ref o),some pl,some (.ref ln),none]) (s1:=s2) (by simp[d,e,j]) ?_;exact Hz (U1:=[some (.ref o),some pl,some (.ref ln),some (.ref l)]) (s1:=s3) (by simp[f,h,m]) k
def qL(a:s3[l]?=some (.lst [])):IX (J3<|mV 3) (Ji (HE C "ready"<|mV 0) (mV 1)<|mV 3) Jd [some (.ref o),some pl,some (.ref ln),some (.ref l)] s3=some (.nx [some (.ref o),some pl,some (.ref ln),some (.ref l)],s3):=by simp[Ol,Km,HZ,a]
def nT{d:D}(a:s3[l]?=some (.lst (d::L)))(b:OA C o bed sd kd ld rd s3)(c:dput s3 rd (.tup [.int x,.int y]) (.ref l)=some s4):IX (J3<|mV 3) (Ji (HE C "ready"<|mV 0) (mV 1)<|mV 3) Jd [some (.ref o),some (.tup [.int x,.int y]),some (.ref ln),some (.ref l)] s3=some (.nx [some (.ref o),some (.tup [.int x,.int y]),some (.ref ln),some (.ref l)],s4):=by
 have e:HE C "ready" (mV 0) [some (.ref o),some (.tup [.int x,.int y]),some (.ref ln),some (.ref l)] s3=some (.ref rd,s3):=QM b;rw[Lf];have f:J3 (mV 3) [some (.ref o),some (.tup [.int x,.int y]),some (.ref ln),some (.ref l)] s3=some (true,s3):=by simp[Ol,Km,HZ,a]
 rw[f,Ac,if_pos rfl,Mo];have h:Hr (mV 3) (Lv Ik (HE C "ready"<|mV 0)<|mV 1) [some (.ref o),some (.tup [.int x,.int y]),some (.ref ln),some (.ref l)] s3=none:=by simp[e,Ik]
 rw[h,Ku];unfold LC;simp[e,c]
end
structure Gw(C:Addr)(o sd kd ld rd:Nat)(bed:D)(stk:List (Str×Int))(P R:List Tl)(F:Int×Int->List Tl)(Y:List Yq)(st0 s:Hg):Prop where
 ob:OA C o bed sd kd ld rd s
 hs:s[sd]?=some (.dk (JN stk))
 hk:s[kd]?=some (.dt (P.map Hi))
 hl:s[ld]?=some (.lst (R.map tD))
 hr:s[rd]?=some (.dt (Y.map ID))
 nd:(Y.map (·.1)).Nodup
 hy:∀q∈Y,rd<q.2/\s[q.2]?=some (.lst ((F q.1).map tD))
 fr:Gr st0 s
def Kz(e:Int)(stk:List (Str×Int))(ks:List (!6))(w h:Int)(P:List Tl)(p:Int×Int):Prop:=KP w h p/\HN P p.1 p.2=none/\gK e stk ks P p.1 p.2 ks.length≠[]
def RB{q:Yq}:q∈Kr Y p ↔ q∈Y/\q.1≠p:=by unfold Kr;rw[Ey];simp
variable {n:Nat}
def oW{Y:List Yq}(h:∀q∈Y,q.1≠p):putD (Y.map ID) [.inl p.1,.inl p.2] (.ref n)=(Y++[(p,n)]).map ID:=by
 unfold putD;rw[if_neg,AZ]
 ·rfl
 intro z;obtain⟨f,d,z⟩:=List.any_eq_true.mp z;obtain⟨q,e,rfl⟩:=Re.mp d;rw[TF]at z;exact h q e<|of_decide_eq_true z
variable {F F':Int×Int->List Tl}{st0 s':Hg}{Y':List Yq}
section
variable {R:List Tl}
def Gw.gr(q:Gw C o sd kd ld rd bed stk P R F Y st0 s)(g:Gr s s'):Gw C o sd kd ld rd bed stk P R F Y st0 s':=⟨(g.old _<|qax q.ob).trans q.ob,(g.old _<|qax q.hs).trans q.hs,(g.old _<|qax q.hk).trans q.hk,(g.old _<|qax q.hl).trans q.hl,(g.old _<|qax q.hr).trans q.hr,q.nd,λz d=>⟨(q.hy z d).1,(g.old _<|qax (q.hy z d).2).trans (q.hy z d).2⟩,q.fr.trans g⟩
def Gw.rdy{Y':List Yq}(q:Gw C o sd kd ld rd bed stk P R F Y st0 s)(hn:st0.length<=o/\o<sd/\sd<kd/\kd<ld/\ld<rd)(b:(Y'.map (·.1)).Nodup)(a:∀z∈Y',rd<z.2/\s[z.2]?=some (.lst<|(F' z.1).map tD)):Gw C o sd kd ld rd bed stk P R F' Y' st0 (s.set rd<|.dt<|Y'.map ID):=by
 obtain⟨e,f,h,l,n⟩:=hn;refine⟨?_,?_,?_,?_,?_,b,λz d=>⟨(a z d).1,?_⟩,Lj q.fr<|by omega⟩
 ·unfold OA;rw[Ah (!0)];exact q.ob
 ·rw[Ah (!0)];exact q.hs
 ·rw[Ah (!0)];exact q.hk
 ·rw[Ah (!0)];exact q.hl
 ·rw[As (qax q.hr)]
 have:=(a z d).1;rw[Ah (!0)];exact(a z d).2
def Xl(c:Ctx bed e stk ks w h)(hn:st0.length<=o/\o<sd/\sd<kd/\kd<ld/\ld<rd)(q:Gw C o sd kd ld rd bed stk P R F Y st0 s)(M:∀t∈P,0<=t.2.2/\t.2.2<(ks.length:Int))(A:Y.length<=1000):
  ∃(Y':List Yq) (s':Hg),Ng C [.ref o,HI p] s=some (.non,s')/\Gw C o sd kd ld rd bed stk P R (λg=>if g=p then gK e stk ks P p.1 p.2 ks.length else F g) Y' st0 s'/\(∀g,(∃n,(g,n)∈Y') ↔ (g≠p/\∃n,(g,n)∈Y)\/(g=p/\Kz e stk ks w h P p))/\Y'.length<=Y.length+1:=by
 obtain⟨v,r⟩:=rX (p:=p) (U:=[none,none]) q.ob q.hr q.nd;have N:((Kr Y p).map (·.1)).Nodup:=q.nd.sublist<|(Fs).map _;have l:Gw C o sd kd ld rd bed stk P R (λg=>if g=p then gK e stk ks P p.1 p.2 ks.length else F g) (Kr Y p) st0 (s.set rd<|.dt<|(Kr Y p).map ID):=q.rdy hn N λz hz=>by obtain⟨W,B⟩:=RB.mp hz;rw[if_neg B];exact q.hy z W
 have G:(Kr Y p).length<=Y.length:=AQ _ _;have i:∀z∈Kr Y p,z.1≠p:=λz hz=>(RB.mp hz).2;have base:∀g,(∃n,(g,n)∈Kr Y p) ↔ (g≠p/\∃n,(g,n)∈Y):=λg=>⟨λ⟨n,z⟩=>⟨(RB.mp z).2,n,(RB.mp z).1⟩,λ⟨z,n,B⟩=>⟨n,RB.mpr ⟨B,z⟩⟩⟩;have stay:¬Kz e stk ks w h P p->∀g,(∃n,(g,n)∈Kr Y p) ↔ (g≠p/\∃n,(g,n)∈Y)\/(g=p/\Kz e stk ks w h P p):=λH g=>(base g).trans ⟨.inl,λz=>z.elim id λz=>absurd z.2 H⟩;generalize s.set rd (.dt<|(Kr Y p).map ID)=s1 at *;have d:=Ua (x:=p.1) (y:=p.2) l.hk;rw[Lm,Be]at d
 cases hf:HN P p.1 p.2 with
 |some k'=>
  rw[hf]at d;exact⟨_,s1,OU<|wK r l.ob d,l,stay (λz=>by rw[z.2.1]at hf;cases hf),by omega⟩
 |none=>
  rw[hf]at d;by_cases f:KP w h p
  ·obtain⟨s2,Q,a1,g1⟩:=eS (x:=p.1) (y:=p.2) c.bed c.ks M l.hk;have j:=l.gr g1;obtain⟨s3,S,a2,g2⟩:=jW (x:=p.1) (y:=p.2) c M j.hs a1;have E:=j.gr g2;have m:=cL (st:=s1) c f.1 f.2.1 f.2.2.1 f.2.2.2
   cases u:gK e stk ks P p.1 p.2 ks.length with
   |nil=>
    rw[u]at a2 E;exact⟨_,s3,OU<|cO r l.ob d m Q j.ob S<|qL a2,E,stay λz=>z.2.2 u,by omega⟩
   |cons t L=>
    rw[u]at a2 E;have I:rd<s2.length:=qax j.hr;have X:dput s3 rd (.tup [.int p.1,.int p.2]) (.ref s2.length)=some (s3.set rd<|.dt<|(Kr Y p++[(p,s2.length)]).map ID):=by have hk:keysOf [.int p.1,.int p.2]=some [.inl p.1,.inl p.2]:=rfl;have J:(Kr Y p).length<sizeLine:=BM (AB G A) (!1);unfold dput;rw[E.hr];simp only[hk,Ac,Af,decide_eq_true J,if_true];rw[oW i]
    refine⟨Kr Y p++[(p,s2.length)],_,OU<|cO r l.ob d m Q j.ob S<|nT a2 E.ob X,E.rdy hn ?_ λz hz=>?_,λg=>?_,by rw[AD,Br];omega⟩
    ·rw[AZ];refine List.nodup_append.mpr ⟨N,by simp,λa Z b T z=>?_⟩;obtain⟨y,hy,rfl⟩:=Re.mp Z;simp at T;exact i y hy<|z.trans T
    ·rcases On.mp hz with hz|hz
     ·exact E.hy z hz
     rw[KM.mp hz];refine⟨I,?_⟩;show s3[s2.length]?=_;rw[a2,if_pos rfl]
    ·have K:Kz e stk ks w h P p:=⟨f,hf,by rw[u];simp⟩
     constructor
     ·rintro⟨n,z⟩
      rcases On.mp z with z|z
      ·exact .inl<|(base g).mp ⟨n,z⟩
      have:=KM.mp z;exact .inr ⟨by cases this;rfl,K⟩
     ·rintro(z|⟨rfl,_⟩)
      ·obtain⟨n,z⟩:=(base g).mpr z;exact⟨n,AK _ z⟩
      exact⟨s2.length,by simp⟩
  exact⟨_,s1,OU<|nS r l.ob d<|yO c f,l,stay λz=>f z.1,by omega⟩
end
variable {F0:Int×Int->List Tl}{Y0:List Yq}
section
variable {R:List Tl}
structure JC(e:Int)(stk:List (Str×Int))(ks:List (!6))(w h:Int)(P:List Tl)(ps:List (Int×Int))(F0:Int×Int->List Tl)(Y0:List Yq)(F:Int×Int->List Tl)(Y:List Yq):Prop where
 old:∀p,p∉ps->((∃n,(p,n)∈Y) ↔ ∃n,(p,n)∈Y0)/\F p=F0 p
 new:∀p,p∈ps->((∃n,(p,n)∈Y) ↔ Kz e stk ks w h P p)/\F p=gK e stk ks P p.1 p.2 ks.length
def JC.nil:JC e stk ks w h P [] F0 Y0 F0 Y0:=⟨λp _=>⟨Iff.rfl,rfl⟩,λp d=>nomatch d⟩
def JC.step{ps:List (Int×Int)}(u:JC e stk ks w h P ps F0 Y0 F Y)(g:∀c,(∃n,(c,n)∈Y') ↔ (c≠p/\∃n,(c,n)∈Y)\/(c=p/\Kz e stk ks w h P p)):JC e stk ks w h P (ps++[p]) F0 Y0 (λc=>if c=p then gK e stk ks P p.1 p.2 ks.length else F c) Y':=by
 refine⟨λc d=>?_,λc d=>?_⟩
 ·rw[CZ,not_or,DP]at d;obtain⟨a,b⟩:=u.old c d.1;refine⟨(g c).trans ⟨λz=>?_,λz=>.inl ⟨d.2,a.mpr z⟩⟩,by rw[if_neg d.2];exact b⟩
  rcases z with z|z
  ·exact a.mp z.2
  exact absurd z.1 d.2
 ·by_cases hpp:c=p
  ·subst hpp;refine⟨(g c).trans ⟨λz=>?_,λz=>.inr ⟨rfl,z⟩⟩,by rw[if_pos rfl]⟩
   rcases z with z|z
   ·exact absurd rfl z.1
   exact z.2
  ·rw[CZ,DP]at d;have f:c∈ps:=d.resolve_right hpp;obtain⟨a,b⟩:=u.new c f;refine⟨(g c).trans ⟨λz=>?_,λz=>.inl ⟨hpp,a.mpr z⟩⟩,by rw[if_neg hpp];exact b⟩
   rcases z with z|z
   ·exact a.mp z.2
   exact absurd z.1 hpp
def Ri{g:GN}{mm:MA}(hf:(Oe bed sd kd ld rd).lookup f=none)(h:OA C o bed sd kd ld rd s):Lh C f g (mV 0) mm (some (.ref o)::U) s=(mm (some (.ref o)::U) s).bind λp=>g (.ref o::p.1) p.2:=by have h:s[o]?=some (.ob C<|Oe bed sd kd ld rd):=h;have e:mV 0 (some (.ref o)::U) s=some (.ref o,s):=rfl;unfold Lh;rw[e];simp only[Ac,h,hf];simp
def zjI{a:D}{a2:Option D}(h:OA C o bed sd kd ld rd s)(b:Ng C [.ref o,a] s=some (v,s1)):UR C [some (.ref o),some pl,some a] s=some (.nx [some (.ref o),some pl,some a],s1):=by have d:=Ri (C:=C) (o:=o) (f:="look_at") (g:=Ng C) (mm:=Hc (mV 2) mZ) (U:=[some pl,some a]) rfl h;unfold UR;rw[Nr,d];simp[b]
def zgC(c:Ctx bed e stk ks w h)(hn:st0.length<=o/\o<sd/\sd<kd/\kd<ld/\ld<rd)(q:Gw C o sd kd ld rd bed stk P R F Y st0 s)(b:∀t∈P,0<=t.2.2/\t.2.2<(ks.length:Int))(j:Y.length<=900):
  ∃(F':Int×Int->List Tl) (Y':List Yq) (s':Hg),RY C [.ref o,HI p] s=some (.non,s')/\Gw C o sd kd ld rd bed stk P R F' Y' st0 s'/\JC e stk ks w h P (p::Ks p) F Y F' Y'/\Y'.length<=Y.length+5:=by
 obtain⟨L,s1,u,z,B,Z⟩:=Xl (p:=p) c hn q b (!0);have G:=JC.step (ps:=[]) (F0:=F) (F:=F) JC.nil B;have key:=Ky (W:=⟨(Ks p).map HI,[]⟩) (g:=Hl 2) (m:=UR C) (ds:=(Ks p).map HI) (U:=[some (.ref o),some (HI p),none]) (st:=s1)
  (Inv:=λi U s=>(∃a,U=[some (.ref o),some (HI p),a])/\∃(F':Int×Int->List Tl) (Y':List Yq),Gw C o sd kd ld rd bed stk P R F' Y' st0 s/\JC e stk ks w h P (p::(Ks p).take i) F Y F' Y'/\Y'.length<=Y.length+1+i)
  ⟨⟨_,rfl⟩,_,L,z,by simpa using G,by omega⟩ (λ_ _ _ _ _=>rfl) (λi dd U s d H=>by obtain⟨⟨a,rfl⟩,F',Y',l,n,v⟩:=H;rw[Ax]at d;obtain⟨r,E,rfl⟩:=Ie d;have hi:i<4:=(KF.mp E).1;obtain⟨I,s2,J,K,M,l2⟩:=Xl (p:=r) c hn l b (!0);refine⟨_,s,_,s2,rfl,zjI (a2:=none) l.ob J,⟨_,rfl⟩,_,I,K,?_,by omega⟩;rw[A7,E];exact JC.step n M)
 obtain⟨U',s2,Q,⟨a,rfl⟩,F',Y',l,n,v⟩:=key;rw[Af,AU]at n;have S:((Ks p).map HI).length=4:=rfl;rw[S]at v;refine⟨F',Y',s2,OU (U:=[some (.ref o),some (HI p),a]) ?_,l,n,by omega⟩;have T:=Ri (C:=C) (o:=o) (f:="look_at") (g:=Ng C) (mm:=Hc (mV 1) mZ) (U:=[some (HI p),none]) rfl q.ob;unfold iJ;refine Hz (U1:=[some (.ref o),some (HI p),none]) (s1:=s1) (by
  show IJ _ [some (.ref o),some (HI p),none] s=_;rw[Nr,T];simp[u]) ?_
 have X:Mj [HI p] s1=some (.tup ((Ks p).map HI),s1):=WO (x:=p.1) (y:=p.2) (st:=s1);have hw:Jb (Ho Mj<|Hc (mV 1)<|mZ) [some (.ref o),some (HI p),none] s1=some (⟨(Ks p).map HI,[]⟩,s1):=by generalize (Ks p).map HI=N at *;generalize HI p=A at *;simp[X,Lg]
 rw[Kg,hw];exact Q
end
variable {t:Tl}
section
variable {R:List Tl}
def ZH(a:p∉Ks (t.1,t.2.1))(n:Nat):gK e stk ks (P++[t]) p.1 p.2 n=gK e stk ks P p.1 p.2 n:=by unfold gK Jf;rw[eE (x:=p.1) (y:=p.2) a]
structure Good(e:Int)(stk:List (Str×Int))(ks:List (!6))(w h:Int)(P:List Tl)(F:Int×Int->List Tl)(Y:List Yq):Prop where
 key:∀p,(∃n,(p,n)∈Y) ↔ Kz e stk ks w h P p
 lst:∀p,Kz e stk ks w h P p->F p=gK e stk ks P p.1 p.2 ks.length
def ZQ(c:p∉(t.1,t.2.1)::Ks (t.1,t.2.1)):Kz e stk ks w h (P++[t]) p ↔ Kz e stk ks w h P p:=by rw[A4,not_or]at c;unfold Kz;rw[ZH c.2,Rh λz=>c.1 (by obtain⟨a,b⟩:=p;exact Prod.ext z.1.symm z.2.symm)]
def zI(g:Good e stk ks w h P F Y)(u:JC e stk ks w h (P++[t]) ((t.1,t.2.1)::Ks (t.1,t.2.1)) F Y F' Y'):Good e stk ks w h (P++[t]) F' Y':=by
 refine⟨λp=>?_,λp d=>?_⟩
 ·by_cases hm:p∈(t.1,t.2.1)::Ks (t.1,t.2.1)
  ·exact(u.new p hm).1
  exact((u.old p hm).1.trans<|g.key p).trans (ZQ hm).symm
 ·by_cases hm:p∈(t.1,t.2.1)::Ks (t.1,t.2.1)
  ·exact(u.new p hm).2
  rw[(u.old p hm).2,g.lst p ((ZQ hm).mp d),ZH];rw[A4,not_or]at hm;exact hm.2
def Gw.lay(q:Gw C o sd kd ld rd bed stk P R F Y st0 s)(hn:st0.length<=o/\o<sd/\sd<kd/\kd<ld/\ld<rd)(R':List Tl):Gw C o sd kd ld rd bed stk P R' F Y st0 (s.set ld<|.lst<|R'.map tD):=by
 obtain⟨e,f,h,l,n⟩:=hn;refine⟨?_,?_,?_,?_,?_,q.nd,λz d=>⟨(q.hy z d).1,?_⟩,Lj q.fr<|by omega⟩
 ·unfold OA;rw[Ah (!0)];exact q.ob
 ·rw[Ah (!0)];exact q.hs
 ·rw[Ah (!0)];exact q.hk
 ·rw[As (qax q.hl)]
 ·rw[Ah (!0)];exact q.hr
 have:=(q.hy z d).1;rw[Ah (!0)];exact(q.hy z d).2
def Gw.kin(q:Gw C o sd kd ld rd bed stk P R F Y st0 s)(hn:st0.length<=o/\o<sd/\sd<kd/\kd<ld/\ld<rd)(P':List Tl):Gw C o sd kd ld rd bed stk P' R F Y st0 (s.set kd<|.dt<|P'.map Hi):=by
 obtain⟨e,f,h,l,n⟩:=hn;refine⟨?_,?_,?_,?_,?_,q.nd,λz d=>⟨(q.hy z d).1,?_⟩,Lj q.fr<|by omega⟩
 ·unfold OA;rw[Ah (!0)];exact q.ob
 ·rw[Ah (!0)];exact q.hs
 ·rw[As (qax q.hk)]
 ·rw[Ah (!0)];exact q.hl
 ·rw[Ah (!0)];exact q.hr
 have:=(q.hy z d).1;rw[Ah (!0)];exact(q.hy z d).2
def nV{k:Int}(h0:OA C o bed sd kd ld rd s)(a:s[ld]?=some (.lst L))(b:Lb (.ref ld) [.tup [.int x,.int y,.int k]] s=some (.non,s1))(c:OA C o bed sd kd ld rd s1)(i:dput s1 kd (.tup [.int x,.int y]) (.int k)=some s2)(j:OA C o bed sd kd ld rd s2)(m:RY C [.ref o,.tup [.int x,.int y]] s2=some (v,s3)):
  Qp C [.ref o,.tup [.int x,.int y,.int k]] s=some (.non,s3):=by
 have d:∀q:Hg,LI (.tup [.int x,.int y,.int k]) none (some 2) q=some (.tup [.int x,.int y],q):=λ_=>rfl;have e:Hf (.tup [.int x,.int y,.int k]) (.int 2) s1=some (.int k,s1):=Im (!1) rfl;have l:HE C "laid" (mV 0) [some (.ref o),some (.tup [.int x,.int y,.int k])] s=some (.ref ld,s):=VB h0;have h:HE C "kinds" (mV 0) [some (.ref o),some (.tup [.int x,.int y,.int k])] s1=some (.ref kd,s1):=S0 c;have n:=Ri (C:=C) (o:=o) (f:="look_around") (g:=RY C) (mm:=Hc (Jp (mV 1) K1<|K2<|mK<|.int 2) mZ) (U:=[some (.tup [.int x,.int y,.int k])]) rfl j;refine OU (U:=[some (.ref o),some (.tup [.int x,.int y,.int k])]) ?_;unfold fC;refine Hz (U1:=[some (.ref o),some (.tup [.int x,.int y,.int k])]) (s1:=s1) (by simp[l,HZ,a,b]) ?_;refine Hz (U1:=[some (.ref o),some (.tup [.int x,.int y,.int k])]) (s1:=s2) ?_ (by rw[Nr,n];simp[d,m]);rw[Mo];have p:Hr (mB Hf (mV 1)<|mK<|.int 2) (Lv Ik (HE C "kinds"<|mV 0)<|Jp (mV 1) K1<|K2<|mK<|.int 2) [some (.ref o),some (.tup [.int x,.int y,.int k])] s1=none:=by simp[h,d,e,Ik]
 rw[p,Ku];unfold LC;simp[h,d,e,i]
def nU(c:Ctx bed e stk ks w h)(hn:st0.length<=o/\o<sd/\sd<kd/\kd<ld/\ld<rd)(q:Gw C o sd kd ld rd bed stk P R F Y st0 s)(g:Good e stk ks w h P F Y)(b:∀t∈P,0<=t.2.2/\t.2.2<(ks.length:Int))(i:0<=t.2.2/\t.2.2<(ks.length:Int))(hf:HN P t.1 t.2.1=none)(a:Y.length<=900)(j:P.length<=900)(m:R.length<=900):
  ∃(F':Int×Int->List Tl) (Y':List Yq) (s':Hg),Qp C [.ref o,tD t] s=some (.non,s')/\Gw C o sd kd ld rd bed stk (P++[t]) (R++[t]) F' Y' st0 s'/\Good e stk ks w h (P++[t]) F' Y'/\Y'.length<=Y.length+5:=by
 obtain⟨x,y,k⟩:=t;have f:=append_at (x:=tD (x,y,k)) q.hl (by rw[Af];omega);have v:R.map tD++[tD (x,y,k)]=(R++[(x,y,k)]).map tD:=by simp
 rw[v]at f;have d:=q.lay hn (R++[(x,y,k)]);have l:=M8 (x:=x) (y:=y) (k:=k) d.hk (!0);rw[Oz hf]at l;have n:=d.kin hn (P++[(x,y,k)]);obtain⟨F',Y',s3,E,L,N,U⟩:=zgC (p:=(x,y)) c hn n (λz hz=>by
  rcases On.mp hz with hz|hz
  ·exact b z hz
  rw[KM.mp hz];exact i) a
 exact⟨F',Y',s3,nV q.ob q.hl f d.ob l n.ob E,L,zI g N,U⟩
end
def Rq{a:ME}{y:D}(b:a (some (.ref o)::U) s=some (y,s2))(h:s2[o]?=some (.ob C fs))(c:fs.length<1000):LD C f (mV 0) a (some (.ref o)::U) s=some (.nx (some (.ref o)::U),s2.set o (.ob C<|HY f y fs)):=by have e:mV 0 (some (.ref o)::U) s2=some (.ref o,s2):=rfl;unfold LD;rw[b];simp only[Ac,e,h];simp[c]
section
variable {R:List Tl}
def zM(h:OA C o bed sd kd ld rd s)(a:Ng C [.ref o,.tup [.int x,.int y]] s=some (v,s1)):UX C [some (.ref o),some pl,some (.int x),some (.int y)] s=some (.nx [some (.ref o),some pl,some (.int x),some (.int y)],s1):=by have d:=Ri (C:=C) (o:=o) (f:="look_at") (g:=Ng C) (mm:=Hc (mU<|Hc (mV 2)<|Hc (mV 3) mZ) mZ) (U:=[some pl,some (.int x),some (.int y)]) rfl h;unfold UX;rw[Nr,d];simp[a]
def KJ(x:Int)(m:Nat):List (Int×Int):=(Av m).map λ(j:Nat)=>(x,(j:Int))
def JB(h n:Nat):List (Int×Int):=((Av n).map λ(i:Nat)=>KJ (i:Int) h).flatten
def zC(x:Int)(m:Nat):KJ x (m+1)=KJ x m++[(x,(m:Int))]:=by unfold KJ;rw[Cr,AZ];rfl
def eT(h n:Nat):JB h (n+1)=JB h n++KJ (n:Int) h:=by unfold JB;rw[Cr,AZ,DE];simp
def T1{h:Nat}(h0:0<=p.1)(c:p.1<(n:Int))(g:0<=p.2)(i:p.2<(h:Int)):p∈JB h n:=by unfold JB KJ;rw[Ef];refine⟨_,Re.mpr ⟨p.1.toNat,by simp;omega,rfl⟩,Re.mpr ⟨p.2.toNat,by simp;omega,?_⟩⟩;obtain⟨a,b⟩:=p;simp at *;omega
def wD(c:Ctx bed e stk ks w h)(hn:st0.length<=o/\o<sd/\sd<kd/\kd<ld/\ld<rd)(q:Gw C o sd kd ld rd bed stk P R F0 [] st0 s)(J:∀t∈P,0<=t.2.2/\t.2.2<(ks.length:Int)):
  ∃(F:Int×Int->List Tl) (Y:List Yq) (b a:Option D) (s':Hg),mF (IW<|mB Hf (mB Hf (mV 1)<|mK<|.int 1)<|mK<|.int 0) (Hl 2) (UY C) [some (.ref o),some bed,a2,a3] s=some (.nx [some (.ref o),some bed,b,a],s')/\Gw C o sd kd ld rd bed stk P R F Y st0 s'/\Good e stk ks w h P F Y/\Y.length<=144:=by
 have f1:=c.fo.w0;have f2:=c.fo.w1;have f3:=c.fo.h0;have f4:=c.fo.h1;have K:∀s:Hg,Hf (.tup [.int w,.int h]) (.int 0) s=some (.int w,s):=λs=>Im (!1) rfl;have M:∀s:Hg,Hf (.tup [.int w,.int h]) (.int 1) s=some (.int h,s):=λs=>Im (!1) rfl;have x:h.toNat<=12:=by omega
 have key:=Ky (W:=⟨run 0 w.toNat,[]⟩) (g:=Hl 2) (m:=UY C) (ds:=run 0 w.toNat) (U:=[some (.ref o),some bed,a2,a3]) (st:=s)
  (Inv:=λi U s=>(∃b a,U=[some (.ref o),some bed,b,a])/\∃(F:Int×Int->List Tl) (Y:List Yq),Gw C o sd kd ld rd bed stk P R F Y st0 s/\JC e stk ks w h P (JB h.toNat i) F0 [] F Y/\Y.length<=i*h.toNat)
  ⟨⟨_,_,rfl⟩,F0,[],q,JC.nil,A9 _⟩ (λ_ _ _ _ _=>rfl) (λi Q U s f L=>by
   obtain⟨⟨b,a,rfl⟩,F,Y,v,d,N⟩:=L;obtain⟨hi,rfl⟩:=LO f;have r:i*h.toNat<=12*12:=Cf (!0) x;have y:=Ky (W:=⟨run 0 h.toNat,[]⟩) (g:=Hl 3) (m:=UX C) (ds:=run 0 h.toNat) (U:=[some (.ref o),some bed,some (.int (i:Int)),a]) (st:=s)
    (Inv:=λj U s=>(∃a,U=[some (.ref o),some bed,some (.int (i:Int)),a])/\∃(F:Int×Int->List Tl) (Y:List Yq),Gw C o sd kd ld rd bed stk P R F Y st0 s/\JC e stk ks w h P (JB h.toNat i++KJ (i:Int) j) F0 [] F Y/\Y.length<=i*h.toNat+j)
    ⟨⟨_,rfl⟩,F,Y,v,by simpa[KJ]using d,by omega⟩ (λ_ _ _ _ _=>rfl) (λj Q U s f L=>by obtain⟨⟨a,rfl⟩,F,Y,v,d,N⟩:=L;obtain⟨hj,rfl⟩:=LO f;obtain⟨S,s2,T,u,X,H⟩:=Xl (p:=((i:Int),(j:Int))) c hn v J (!0);refine⟨_,s,_,s2,rfl,zM v.ob T,⟨_,rfl⟩,_,S,u,?_,by omega⟩;rw[zC,<-Aj];exact JC.step d X)
   obtain⟨Z,s',A,⟨B,rfl⟩,F',Y',u,I,H⟩:=y;rw[Ld]at I H;refine⟨[some (.ref o),some bed,some (.int (i:Int)),a],s,[some (.ref o),some bed,some (.int (i:Int)),B],s',rfl,?_,⟨_,_,rfl⟩,F',Y',u,by rw[eT];exact I,by rw[DJ];omega⟩;have G:small h=true:=Oy (!0) (!0);have l:=c.fl s;unfold UY;have:IW (mB Hf (mB Hf (mV 1)<|mK<|.int 1)<|mK<|.int 1) [some (.ref o),some bed,some (.int (i:Int)),a] s=some (⟨run 0 h.toNat,[]⟩,s):=by generalize (i:Int)=kk;simp[l,M,G]
   rw[Kg,this];exact A)
 obtain⟨Z,s',A,⟨b,a,rfl⟩,F,Y,v,d,N⟩:=key;rw[Ld]at d N;have r:w.toNat*h.toNat<=12*12:=Cf (!0) x;refine⟨F,Y,b,a,s',?_,v,⟨λp=>?_,λp E=>?_⟩,by omega⟩
 ·have G:small w=true:=Oy (!0) (!0);have l:=c.fl s;have:IW (mB Hf (mB Hf (mV 1)<|mK<|.int 1)<|mK<|.int 0) [some (.ref o),some bed,a2,a3] s=some (⟨run 0 w.toNat,[]⟩,s):=by simp[l,K,G]
  rw[Kg,this];exact A
 ·by_cases hm:p∈JB h.toNat w.toNat
  ·exact(d.new p hm).1
  refine(d.old p hm).1.trans ⟨λ⟨n,z⟩=>(nomatch z),λz=>absurd (T1 z.1.1 (by have:=z.1.2.1;omega) z.1.2.2.1 (by have:=z.1.2.2.2;omega)) hm⟩
 have hm:p∈JB h.toNat w.toNat:=T1 E.1.1 (by have:=E.1.2.1;omega) E.1.2.2.1 (by have:=E.1.2.2.2;omega);exact(d.new p hm).2
end
section
variable {sd:List Tl}
def Q5{k:Nat}{x y:O}(h:s[n]?=some x)(hk:n≠k):(s.set k y)[n]?=some x:=by rw[Ah (λz=>hk z.symm)];exact h
def Mp{x y:O}(h:s[n]?=some x):(s++[y])[n]?=some x:=by rw[Am (qax h)];exact h
theorem eL(f:Str)(d:D):∀fs:List (Str×D),(HY f d fs).length<=fs.length+1
 |[]=>Ag _
 |(g,x)::r=>by
  have a:=eL f d r;unfold HY;split
  ·simp
  simp;omega
def M7{d:D}(h:fs.length<=n):(HY f d fs).length<=n+1:=AB (eL f d fs)<|CL h
def Ue(h:fs.length<=0+1+1+1+1):fs.length<1000:=BM h<|by decide
def qH(c:Ctx (!3) e stk ks w h)(a:∀t∈sd,Ir w h ks.length t)(g:Hy sd)(K:sd.length<=60):
  ∃(s5 kd ld rd:Nat) (F:Int×Int->List Tl) (Y:List Yq) (b:Hg),U8 C [.ref st.length,Hs e stk ks w h sd] (st++[.ob C []])=some (.non,b)/\(st.length<=st.length/\st.length<s5/\s5<kd/\kd<ld/\ld<rd)/\Gw C st.length s5 kd ld rd (!3) stk sd [] F Y st b/\Good e stk ks w h sd F Y/\Y.length<=144:=by
 obtain⟨hs,M,ie,Q,i2⟩:=c.at_;have S:∀s:Hg,Hf (!3) (.int 2) s=some (Hw sd,s):=λs=>Im (!1) rfl;have T:∀t∈sd,0<=t.2.2/\t.2.2<(ks.length:Int):=λt L=>⟨(a t L).2.2.2.2.1,(a t L).2.2.2.2.2⟩
 have o0:=Iq st (.ob C []);have W:Gr st (st++[.ob C []]):=Gr.app _ _;have X:(st++[O.ob C []]).length=st.length+1:=by simp
 generalize Z:st++[O.ob C []]=t0 at *;generalize N:Hs e stk ks w h sd=bed at *;have r1:LD C "bed" (mV 0) (mV 1) [some (.ref st.length),some bed,none,none] t0=some (.nx [some (.ref st.length),some bed,none,none],t0.set st.length (.ob C (HY "bed" bed []))):=Rq rfl o0 (!2);have P:(t0.set st.length (.ob C (HY "bed" bed [])))[st.length]?=some (.ob C (HY "bed" bed [])):=by rw[As (qax o0)]
 have g1:Gr st (t0.set st.length (.ob C (HY "bed" bed []))):=Lj W (Ag _);have p:(t0.set st.length (.ob C (HY "bed" bed []))).length=st.length+1:=by rw[Bk,X]
 generalize t0.set st.length (.ob C (HY "bed" bed []))=t1 at *;have i:=V4 (stk:=stk) (st:=t1) (by have:=c.hs.sl;omega);rw[p]at i;have d1:(t1++[O.dk (JN stk)])[st.length+1]?=some (.dk (JN stk)):=by rw[<-p];exact Iq t1 _
 have r2:LD C "strengths" (mV 0) (Ho OP (Hc (mB Hf (mB Hf (mV 1) (mK (.int 0))) (mK (.int 1))) mZ)) [some (.ref st.length),some bed,none,none] t1=some (.nx [some (.ref st.length),some bed,none,none],(t1++[O.dk (JN stk)]).set st.length (.ob C (HY "strengths" (.ref (st.length+1)) (HY "bed" bed [])))):=Rq (by simp[M,Q,i]) (Mp P) (Ue (AB (M7 (Ag 0)) (!1)));have j:((t1++[O.dk (JN stk)]).set st.length (.ob C (HY "strengths" (.ref (st.length+1)) (HY "bed" bed []))))[st.length]?=some (.ob C (HY "strengths" (.ref (st.length+1)) (HY "bed" bed []))):=by rw[As (qax (Mp P))]
 have m:=Q5 (k:=st.length) (y:=O.ob C (HY "strengths" (.ref (st.length+1)) (HY "bed" bed []))) d1 (!0);have g2:Gr st ((t1++[O.dk (JN stk)]).set st.length (.ob C (HY "strengths" (.ref (st.length+1)) (HY "bed" bed [])))):=Lj (g1.trans (Gr.app _ _)) (Ag _);have l2:((t1++[O.dk (JN stk)]).set st.length (.ob C (HY "strengths" (.ref (st.length+1)) (HY "bed" bed [])))).length=st.length+2:=by simp[p]
 generalize (t1++[O.dk (JN stk)]).set st.length (.ob C (HY "strengths" (.ref (st.length+1)) (HY "bed" bed [])))=r at *;obtain⟨t3,u,a3,g3⟩:=VF (ts:=sd) (st:=r) (!0);rw[Nz g]at a3;rw[l2]at u a3;have A:=(g3.old _ (qax j)).trans j;have d3:=(g3.old _ (qax m)).trans m;have l3:=qax a3;have v:=g2.trans g3;have r3:LD C "kinds" (mV 0) (Ho Qz (Hc (mB Hf (mV 1) (mK (.int 2))) mZ)) [some (.ref st.length),some bed,none,none] r=some (.nx [some (.ref st.length),some bed,none,none],t3.set st.length (.ob C (HY "kinds" (.ref (st.length+2)) (HY "strengths" (.ref (st.length+1)) (HY "bed" bed []))))):=Rq (by simp[S,u]) A (Ue (AB (M7 (M7 (Ag 0))) (!1)));have B:(t3.set st.length (.ob C (HY "kinds" (.ref (st.length+2)) (HY "strengths" (.ref (st.length+1)) (HY "bed" bed [])))))[st.length]?=some (.ob C (HY "kinds" (.ref (st.length+2)) (HY "strengths" (.ref (st.length+1)) (HY "bed" bed [])))):=by rw[As (qax A)]
 have d4:=Q5 (k:=st.length) (y:=O.ob C (HY "kinds" (.ref (st.length+2)) (HY "strengths" (.ref (st.length+1)) (HY "bed" bed [])))) d3 (!0);have G:=Q5 (k:=st.length) (y:=O.ob C (HY "kinds" (.ref (st.length+2)) (HY "strengths" (.ref (st.length+1)) (HY "bed" bed [])))) a3 (!0);have g4:Gr st (t3.set st.length (.ob C (HY "kinds" (.ref (st.length+2)) (HY "strengths" (.ref (st.length+1)) (HY "bed" bed []))))):=Lj v (Ag _);generalize t3.set st.length (.ob C (HY "kinds" (.ref (st.length+2)) (HY "strengths" (.ref (st.length+1)) (HY "bed" bed []))))=d at *;have l4:st.length+2<d.length:=qax G
 have r4:LD C "laid" (mV 0) (mL mZ) [some (.ref st.length),some bed,none,none] d=some (.nx [some (.ref st.length),some bed,none,none],(d++[O.lst []]).set st.length (.ob C (HY "laid" (.ref d.length) (HY "kinds" (.ref (st.length+2)) (HY "strengths" (.ref (st.length+1)) (HY "bed" bed [])))))):=Rq (!2) (Mp B) (Ue (AB (M7 (M7 (M7 (Ag 0)))) (!1)));have H:((d++[O.lst []]).set st.length (.ob C (HY "laid" (.ref d.length) (HY "kinds" (.ref (st.length+2)) (HY "strengths" (.ref (st.length+1)) (HY "bed" bed []))))))[st.length]?=some (.ob C (HY "laid" (.ref d.length) (HY "kinds" (.ref (st.length+2)) (HY "strengths" (.ref (st.length+1)) (HY "bed" bed []))))):=by rw[As (qax (Mp B))]
 have l:∀{n:Nat}{x:O},(d++[O.lst []])[n]?=some x->n≠st.length->((d++[O.lst []]).set st.length (.ob C (HY "laid" (.ref d.length) (HY "kinds" (.ref (st.length+2)) (HY "strengths" (.ref (st.length+1)) (HY "bed" bed []))))))[n]?=some x:=λz E=>Q5 z E;have d5:=l (Mp d4) (!0);have k5:=l (Mp G) (!0);have I:=l (Iq d (.lst [])) (!0);have g5:Gr st ((d++[O.lst []]).set st.length (.ob C (HY "laid" (.ref d.length) (HY "kinds" (.ref (st.length+2)) (HY "strengths" (.ref (st.length+1)) (HY "bed" bed [])))))):=Lj (g4.trans (Gr.app _ _)) (Ag _);clear l;generalize (d++[O.lst []]).set st.length (.ob C (HY "laid" (.ref d.length) (HY "kinds" (.ref (st.length+2)) (HY "strengths" (.ref (st.length+1)) (HY "bed" bed [])))))=f at *;have l5:d.length<f.length:=qax I
 have r5:LD C "ready" (mV 0) (OZ true) [some (.ref st.length),some bed,none,none] f=some (.nx [some (.ref st.length),some bed,none,none],(f++[O.dt []]).set st.length (.ob C (Oe bed (st.length+1) (st.length+2) d.length f.length))):=Rq (!2) (Mp H) (Ue (M7 (M7 (M7 (M7 (Ag 0))))));have o:∀{n:Nat}{x:O},(f++[O.dt []])[n]?=some x->n≠st.length->((f++[O.dt []]).set st.length (.ob C (Oe bed (st.length+1) (st.length+2) d.length f.length)))[n]?=some x:=λz E=>Q5 z E;have q:Gw C st.length (st.length+1) (st.length+2) d.length f.length bed stk sd [] (λ_=>[]) [] st ((f++[O.dt []]).set st.length (.ob C (Oe bed (st.length+1) (st.length+2) d.length f.length))):=
  ⟨by unfold OA;rw[As (qax (Mp H))],o (Mp d5) (!0),o (Mp k5) (!0),o (Mp I) (!0),o (Iq f (.dt [])) (!0),Cz,λz hz=>(nomatch hz),Lj (g5.trans (Gr.app _ _)) (Ag _)⟩
 have J:st.length<=st.length/\st.length<st.length+1/\st.length+1<st.length+2/\st.length+2<d.length/\d.length<f.length:=⟨Ag _,by omega,by omega,l4,l5⟩
 obtain⟨F,Y,b2,b3,t7,e7,q7,g7,y7⟩:=wD (a2:=none) (a3:=none) c J q T;refine⟨_,_,_,_,F,Y,t7,OU (U:=[some (.ref st.length),some bed,b2,b3]) ?_,J,q7,g7,y7⟩;unfold iA;refine Hz r1 (Hz r2 (Hz r3 (Hz r4 (Hz r5 e7))))
end
def LZ(p q:Int×Int):Prop:=p.1<q.1\/(p.1=q.1/\p.2<q.2)
def qM(p q:Int×Int):HT.lexLt [p.1,p.2] [q.1,q.2]=true ↔ LZ p q:=by
 unfold LZ;rw[HT.Ih,HT.Ih,HT.IT];by_cases h1:p.1=q.1
 ·rw[if_pos h1]
  by_cases h2:p.2=q.2
  ·rw[if_pos h2];constructor
   ·intro z;cases z
   intro z;omega
  rw[if_neg h2,decide_eq_true_iff];omega
 rw[if_neg h1,decide_eq_true_iff];omega
theorem V1{α:Type}{lt:α->α->Prop}(tr:∀a b c,lt a b->lt b c->lt a c)(m:∀a,¬lt a a)(at_:Nat->α)(g:Nat->Nat->Bool){N:Nat}(q:∀i j,i<=N->j<=N->(g i j=true ↔ lt (at_ i) (at_ j))):∀k j,k<=N->j<=k->¬lt (at_ j) (at_<|argBest g k)
 |0,j,_,r=>by
  have:j=0:=by omega
  subst this;exact m _
 |k+1,j,d,r=>by
  have hk:=W3 g k;unfold argBest;split
  ·rename_i h
   by_cases hjk:j=k+1
   ·subst hjk;exact m _
   intro z;exact V1 tr m at_ g q k j (!0) (!0)<|tr _ _ _ z<|(q _ _ d<|by omega).mp h
  ·rename_i h
   by_cases hjk:j=k+1
   ·subst hjk;exact λz=>h ((q _ _ d<|by omega).mpr z)
   exact V1 tr m at_ g q k j (!0)<|by omega
def Jh(q:Yq):List Int:=[q.1.1,q.1.2]
def qW{Y:List Yq}(g:Y≠[]):∃q∈Y,QN (Y.map Jh)=Jh q/\∀z∈Y,¬LZ z.1 q.1:=by
 have n:0<Y.length:=List.length_pos_iff.mpr g;have get:∀i,i<=Y.length-1->(Y.map Jh).getD i []=Jh (Y.getD i ((0,0),0)):=λi f=>by
  have:i<Y.length:=by omega
  simp[Au,this]
 have key:=V1 (lt:=LZ) (λa b c x y=>by unfold LZ at *;omega) (λa z=>by unfold LZ at z;omega) (λi=>(Y.getD i ((0,0),0)).1) (λi j=>HT.lexLt ((Y.map Jh).getD i []) ((Y.map Jh).getD j [])) (N:=Y.length-1) (λi j f d=>by rw[get i f,get j d];exact qM _ _) (Y.length-1)
 have h:=W3 (λi j=>HT.lexLt ((Y.map Jh).getD i []) ((Y.map Jh).getD j []))<|Y.length-1;have e:QN (Y.map Jh)=(Y.map Jh).getD (argBest (λi j=>HT.lexLt ((Y.map Jh).getD i []) ((Y.map Jh).getD j []))<|Y.length-1) []:=by unfold QN;rw[Af]
 rw[e];generalize argBest (λi j=>HT.lexLt ((Y.map Jh).getD i []) ((Y.map Jh).getD j [])) (Y.length-1)=b at *;refine⟨Y.getD b ((0,0),0),?_,get b h,λz l=>?_⟩
 ·have:b<Y.length:=by omega
  rw[Au,Ai this];exact A5 this
 obtain⟨j,d,rfl⟩:=CN l;have:=key j (Ag _) (!0);simpa[Au,d]using this
section
variable {R:List Tl}
def lL(b:s[rd]?=some (.dt<|Y.map ID))(c:Y≠[])(g:Y.length<=1000):OT [.ref rd] s=some (HG (QN<|Y.map Jh),s):=by
 have fl:fits (Y.map ID).length=true:=JK (by rw[Af];omega);have ne:(!(Y.map ID).isEmpty)=true:=by
  cases Y with
  |nil=>exact absurd rfl c
  |cons a l=>rfl
 have d:Jt (Y.map ID)=(Y.map Jh).map HG:=by unfold Jt;rw[AJ,AJ];rfl
 have e:rowsOf ((Y.map Jh).map HG)=some (Y.map Jh):=RJ λr b=>by obtain⟨q,_,rfl⟩:=Re.mp b;simp[Jh]
 unfold OT;simp only[b,fl,ne,GQ,if_true,d,e,AL]
def Z1(a:OA C o bed sd kd ld rd s)(b:s[rd]?=some (.dt<|Y.map ID))(c:Y.length<=1000):OS (HE C "ready"<|mV 0) (some (.ref o)::U) s=some (!Y.isEmpty,s):=by
 have fl:fits (Y.map ID).length=true:=JK (by rw[Af];omega);unfold OS;rw[QM a];simp only[Ac,b,fl,if_true]
 cases Y<;>rfl
def sV(q:Gw C o sd kd ld rd bed stk P R F [] st0 s):Pc C [.ref o] s=some (.non,s):=by
 have t:=Z1 (U:=[none]) q.ob q.hr (!2);refine IH ?_;unfold WN;refine Ot ?_;show IX _ _ _ [some (.ref o),none] s=_;rw[Lf];have d:MU (OS<|HE C "ready"<|mV 0) [some (.ref o),none] s=some (true,s):=by rw[VY,t];rfl
 rw[d,Ac,if_pos rfl];simp
def lF{p:D}{tl:D}(a:OA C o bed sd kd ld rd s)(t:OS (HE C "ready"<|mV 0) [some (.ref o),none] s=some (true,s))(em:OT [.ref rd] s=some (p,s))(b:Hf (.ref rd) p s=some (.ref n,s))(c:Hf (.ref n) (.int 0) s=some (tl,s))(i:Qp C [.ref o,tl] s=some (v,s1)):Pc C [.ref o] s=some (tl,s1):=by
 have d:∀U:Ii,HE C "ready" (mV 0) (some (.ref o)::U) s=some (.ref rd,s):=λU=>QM a;have e:=Ri (C:=C) (o:=o) (f:="lay") (g:=Qp C) (mm:=Hc (mV 1) mZ) (U:=[some tl]) rfl a;refine IH ?_;unfold WN;refine Hz (U1:=[some (.ref o),none]) (s1:=s) ?_ ?_
 ·show IX _ _ _ [some (.ref o),none] s=_;rw[Lf];have h:MU (OS<|HE C "ready"<|mV 0) [some (.ref o),none] s=some (false,s):=by rw[VY,t];rfl
  rw[h,Ac,if_neg AW];rfl
 refine Hz (U1:=[some (.ref o),some tl]) (s1:=s) (by simp[d,em,b,c]) ?_;refine Hz (U1:=[some (.ref o),some tl]) (s1:=s1) (by rw[Nr,e];simp[i]) ?_;simp
def nB(a:t∈gK e stk ks P p.1 p.2 n):t.1=p.1/\t.2.1=p.2/\0<=t.2.2/\t.2.2<(n:Int):=by unfold gK at a;obtain⟨k,hk,rfl⟩:=Re.mp a;have:=List.mem_range.mp (List.mem_filter.mp hk).1;exact⟨rfl,rfl,by show(0:Int)<=(k:Int);omega,by show(k:Int)<(n:Int);omega⟩
def sW(c:Ctx bed e stk ks w h)(hn:st0.length<=o/\o<sd/\sd<kd/\kd<ld/\ld<rd)(q:Gw C o sd kd ld rd bed stk P R F Y st0 s)(g:Good e stk ks w h P F Y)(G:∀t∈P,0<=t.2.2/\t.2.2<(ks.length:Int))(b:Y≠[])(j:Y.length<=900)(m:P.length<=900)(r:R.length<=900):
  ∃(p:Int×Int) (t:Tl) (L:List Tl) (F':Int×Int->List Tl) (Y':List Yq) (s':Hg),Kz e stk ks w h P p/\(∀i,Kz e stk ks w h P i->¬LZ i p)/\gK e stk ks P p.1 p.2 ks.length=t::L/\Pc C [.ref o] s=some (tD t,s')/\Gw C o sd kd ld rd bed stk (P++[t]) (R++[t]) F' Y' st0 s'/\Good e stk ks w h (P++[t]) F' Y'/\Y'.length<=Y.length+5:=by
 obtain⟨⟨p,H⟩,B,I,v⟩:=qW b;have d:=(g.key p).mp ⟨H,B⟩;have f:∀i,Kz e stk ks w h P i->¬LZ i p:=λi E=>by obtain⟨n',N⟩:=(g.key i).mpr E;exact v _ N
 have t:=Z1 (U:=[none]) q.ob q.hr (!0);have tt:(!Y.isEmpty)=true:=by
  cases Y with
  |nil=>exact absurd rfl b
  |cons a l=>rfl
 rw[tt]at t;have em:=lL q.hr b (!0);rw[I]at em;have em:OT [.ref rd] s=some (.tup [.int p.1,.int p.2],s):=em
 rcases VO (p:=p) (Y:=Y)with⟨_,z⟩|⟨n,u,J⟩
 ·exact absurd rfl<|z _ B
 ·have K:=Tb q.hr J;have A:=(q.hy _ u).2;rw[g.lst p d]at A
  cases x:gK e stk ks P p.1 p.2 ks.length with
  |nil=>exact absurd x d.2.2
  |cons y L=>
   rw[x]at A;have M:Hf (.ref n) (.int 0) s=some (tD y,s):=KU A (!1) rfl;obtain⟨Q,S,T,W⟩:=nB (p:=p) (t:=y) (by rw[x];exact Ar);obtain⟨F',Y',s',X,Z,g',l'⟩:=nU (t:=y) c hn q g G ⟨T,W⟩ (by rw[Q,S];exact d.2.1) j m r;exact⟨p,y,L,F',Y',s',d,f,x,lF q.ob t em K M X,Z,g',l'⟩
end
end L2.MP.T0
namespace L2.MP.T0
open PySem L2.MP L2.MP.Hd
variable {e w h:Int}{stk:List (Str×Int)}{ks:List (!6)}{P L:List Tl}{f:Int×Int->List Tl}{p:Int×Int}{t:Tl}{m n:Nat}{bed:D}
theorem bG{f:Int×Int->List Tl}:∀{ps:List (Int×Int)},(∀p∈ps,f p=[])->(ps.map f).flatten=[]
 |[],_=>rfl
 |p::ps,h=>by rw[An,F4,h p Ar,bG λq a=>h q (Al _ a)];rfl
theorem eY{f:Int×Int->List Tl}{p:Int×Int}{t:Tl}{L:List Tl}(d:f p=t::L):∀{ps:List (Int×Int)},ps.Pairwise LZ->p∈ps->(∀q∈ps,f q≠[]->¬LZ q p)->∃M,(ps.map f).flatten=t::M
 |[],_,hm,_=>nomatch hm
 |q::ps,c,hm,hl=>by
  rw[An,F4];rw[List.pairwise_cons]at c;rcases Os.mp hm with rfl|hm
  ·exact⟨L++(ps.map f).flatten,by rw[d];rfl⟩
  ·have:f q=[]:=by
    cases z:f q with
    |nil=>rfl
    |cons a b=>exact absurd (c.1 p hm)<|hl q Ar (by rw[z];simp)
   rw[this];exact eY d c.2 hm λr e=>hl r (Al _ e)
def mQ(x:Int)(m:Nat):(eC P x m).Pairwise LZ:=by unfold eC;refine List.Pairwise.map _ (R:=λa b:Nat=>a<b) (λa b e=>.inr ⟨rfl,by show(a:Int)<(b:Int);omega⟩) ?_;exact List.Pairwise.filter _ List.pairwise_lt_range
def To{x:Int}:p∈eC P x m ↔ p.1=x/\0<=p.2/\p.2<(m:Int)/\Lq P p.1 p.2=true:=by
 unfold eC;rw[FJ];constructor
 ·rintro⟨j,n,rfl⟩;obtain⟨e,f⟩:=List.mem_filter.mp n;have:=List.mem_range.mp e;exact⟨rfl,by show(0:Int)<=(j:Int);omega,by show(j:Int)<(m:Int);omega,f⟩
 rintro⟨h0,e,f,w⟩;obtain⟨a,b⟩:=p;have h0:a=x:=h0;have e:0<=b:=e;have f:b<(m:Int):=f;subst h0;have h:((b.toNat:Nat):Int)=b:=A2 e;exact⟨b.toNat,List.mem_filter.mpr ⟨List.mem_range.mpr<|by omega,by rw[h];exact w⟩,by rw[h]⟩
def ZE(d:0<=h):p∈eF P h n ↔ 0<=p.1/\p.1<(n:Int)/\0<=p.2/\p.2<h/\Lq P p.1 p.2=true:=by
 unfold eF;rw[Ef];constructor
 ·rintro⟨l,w,L⟩;obtain⟨i,a,rfl⟩:=Re.mp w;have:=List.mem_range.mp a;obtain⟨h0,e,f,m⟩:=To.mp L;exact⟨by omega,by omega,e,by omega,m⟩
 rintro⟨h0,e,f,m,b⟩;have c:((p.1.toNat:Nat):Int)=p.1:=A2 h0;exact⟨_,Re.mpr ⟨p.1.toNat,List.mem_range.mpr<|by omega,rfl⟩,To.mpr ⟨c.symm,f,by omega,b⟩⟩
theorem ZF:∀n:Nat,(eF P h n).Pairwise LZ
 |0=>by simp[eF]
 |n+1=>by rw[V5];refine List.pairwise_append.mpr ⟨ZF n,mQ _ _,λa c b d=>?_⟩;have d:=(To.mp d).1;unfold eF at c;obtain⟨l,e,f⟩:=List.mem_flatten.mp c;obtain⟨i,m,rfl⟩:=Re.mp e;have:=List.mem_range.mp m;have c:=(To.mp f).1;exact .inl<|by omega
def Zi(c:Ctx bed e stk ks w h)(b:Kz e stk ks w h P p):p∈eF P h w.toNat:=by
 have f1:=c.fo.w0;have d:=c.fo.h0;obtain⟨⟨x0,g,f,m⟩,hf,n⟩:=b;refine(ZE<|by omega).mpr ⟨x0,by omega,f,m,?_⟩;unfold Lq;rw[hf]
 cases L:(Av 4).filter (Iw P p.1 p.2) with
 |nil=>exact absurd (Zu c.hs.e0 (sQ L) _) n
 |cons a l=>rfl
def Zd(c:Ctx bed e stk ks w h)(a:p∈eF P h w.toNat)(b:gK e stk ks P p.1 p.2 ks.length≠[]):Kz e stk ks w h P p:=by have f1:=c.fo.w0;have L:=c.fo.h0;obtain⟨h0,d,m,n,f⟩:=(ZE<|by omega).mp a;refine⟨⟨h0,by omega,m,n⟩,?_,b⟩;unfold Lq at f;rw[Aq]at f;simpa using f.1
def zmX(c:Ctx bed e stk ks w h)(hno:∀p,¬Kz e stk ks w h P p):Ic e stk ks P (eF P h w.toNat)=[]:=by
 unfold Ic;refine bG (f:=λp=>gK e stk ks P p.1 p.2 ks.length) λp m=>?_;cases z:gK e stk ks P p.1 p.2 ks.length with
 |nil=>rfl
 |cons a l=>exact absurd (Zd c m (by rw[z];simp))<|hno p
def zk1(c:Ctx bed e stk ks w h)(b:Kz e stk ks w h P p)(d:∀a,Kz e stk ks w h P a->¬LZ a p)(g:gK e stk ks P p.1 p.2 ks.length=t::L):∃M,Ic e stk ks P (eF P h w.toNat)=t::M:=by unfold Ic;exact eY (f:=λp=>gK e stk ks P p.1 p.2 ks.length) (p:=p) g (ZF _) (Zi c b) λq n m=>d q (Zd c n m)
variable {C:Addr}{o kd ld rd:Nat}{S:List Tl}{F:Int×Int->List Tl}{Y:List Yq}{st0 s:Hg}{ps:List (Int×Int)}
section
variable {sd:Nat}
def JI(e:Int)(stk:List (Str×Int))(ks:List (!6))(w h:Int)(P:List Tl):Option Tl:=(Ic e stk ks P<|eF P h w.toNat).head?
def Ht(e:Int)(stk:List (Str×Int))(ks:List (!6))(w h:Int)(S:List Tl):Nat->List Tl
 |0=>[]
 |n+1=>match JI e stk ks w h (S++Ht e stk ks w h S n) with
  |some t=>Ht e stk ks w h S n++[t]
  |none=>Ht e stk ks w h S n
def Wt(a:JI e stk ks w h (S++Ht e stk ks w h S n)=some t):Ht e stk ks w h S (n+1)=Ht e stk ks w h S n++[t]:=by rw[Ht,a]
theorem Ud{n:Nat}(a:JI e stk ks w h (S++Ht e stk ks w h S n)=none):∀k,Ht e stk ks w h S (n+k)=Ht e stk ks w h S n
 |0=>rfl
 |k+1=>by have b:=Ud a k;show Ht e stk ks w h S (n+k+1)=_;rw[Ht,b,a]
theorem V9:∀n,(Ht e stk ks w h S n).length<=n
 |0=>Ag _
 |n+1=>by
  have a:=V9 n;rw[Ht];split
  ·rw[AD,Br];omega
  omega
def vH(hn:JI e stk ks w h (S++Ht e stk ks w h S n)=none)(hm:JI e stk ks w h (S++Ht e stk ks w h S m)=none):Ht e stk ks w h S n=Ht e stk ks w h S m:=by
 rcases Nat.le_total n m with z|z
 ·obtain⟨k,rfl⟩:=GZ z;exact(Ud hn k).symm
 obtain⟨k,rfl⟩:=GZ z;exact Ud hm k
def T4(hf:JE w h)(a:JI e stk ks w h P=some t):JU e stk ks w h P t:=cQ hf<|List.mem_of_mem_head? a
theorem Rp(hf:JE w h):∀n,Js e stk ks w h S (Ht e stk ks w h S n)
 |0=>trivial
 |n+1=>by
  have a:=Rp hf n;rw[Ht];split
  ·rename_i t f;exact Ru a<|T4 hf f
  exact a
def Ta(ps:List (Int×Int))(P:List Tl):Nat:=(ps.filter λp=>(HN P p.1 p.2).isNone).length
def WR(a:(t.1,t.2.1)∈ps)(hn:HN P t.1 t.2.1=none):Ta ps (P++[t])+1<=Ta ps P:=by
 refine(filter_lt λu e=>?_).2 ⟨(t.1,t.2.1),a,by rw[hn];rfl,?_⟩
 ·have f:HN (P++[t]) u.1 u.2=none:=by simpa using e
  have h:=K4.mp f;have:HN P u.1 u.2=none:=K4.mpr λv m=>h v<|AK _ m;rw[this];rfl
 ·cases q:HN (P++[t]) t.1 t.2.1 with
  |none=>exact absurd ⟨rfl,rfl⟩<|K4.mp q t<|by simp
  |some k=>rfl
def aB(hf:JE w h)(hm:JU e stk ks w h P t):(t.1,t.2.1)∈JB h.toNat w.toNat:=by have f1:=hf.w0;have m:=hf.h0;obtain⟨⟨x0,n,f,o,_,_⟩,_,_⟩:=hm;exact T1 x0 (by show t.1<_;omega) f (by show t.2.1<_;omega)
theorem VU(a:Nat):∀n,(JB a n).length=n*a
 |0=>by simp[JB]
 |n+1=>by rw[eT,AD,VU a n,DJ];simp[KJ]
theorem Uc(hf:JE w h):∀n,(∀m,m<n->JI e stk ks w h (S++Ht e stk ks w h S m)≠none)->Ta (JB h.toNat w.toNat) (S++Ht e stk ks w h S n)+n<=w.toNat*h.toNat
 |0,_=>by have:=AQ (λp:Int×Int=>(HN (S++Ht e stk ks w h S 0) p.1 p.2).isNone)<|JB h.toNat w.toNat;rw[VU]at this;exact this
 |n+1,hh=>by
  have o:=Uc hf n λm hm=>hh m<|by omega
  cases f:JI e stk ks w h (S++Ht e stk ks w h S n) with
  |none=>exact absurd f<|hh n<|by omega
  |some t=>
   have hm:=T4 hf f;have:=WR (aB hf hm) hm.2.1;rw[Wt f,<-Aj];omega
end
open L2.MP.Hn (Hw Mu Hk Jo)
variable {kn:Int}
section
variable {s5:Nat}{R:List Tl}
theorem bK{ps:List (Int×Int)}(a:Hy P)(b:∀t∈P,(t.1,t.2.1)∈ps):∀n,n<=P.length->Ta ps (P.take n)+n<=ps.length
 |0,_=>AQ _ _
 |n+1,hn=>by
  have c:=bK a b n (!0);have f:n<P.length:=hn;have e:P.take (n+1)=P.take n++[P[n]]:=by rw[A7,Ai f];rfl
  have h:Hy (P.take n++[P[n]]):=by rw[<-e];exact Dm (FO _ _) a
  have:=WR (b _<|A5 f)<|aC h;rw[e];omega
def Rz(hf:JE w h):w.toNat*h.toNat<=60:=by
 have e:=hf.w1;have f:=hf.h1;rcases hf.wh with z|z
 ·exact Cf (show w.toNat<=5 by omega) (show h.toNat<=12 by omega)
 exact Cf (show w.toNat<=12 by omega) (show h.toNat<=5 by omega)
def P6(hf:JE w h)(a:Hy P)(b:∀t∈P,Ir w h kn t):P.length<=60:=by
 have f1:=hf.w0;have m:=hf.h0;have:=bK (ps:=JB h.toNat w.toNat) a (λt e=>by obtain⟨x0,n,f,o,_,_⟩:=b t e;exact T1 x0 (by show t.1<_;omega) f (by show t.2.1<_;omega)) P.length (Ag _)
 rw[VU]at this;have:=Rz hf;omega
def O8(hf:JE w h)(a:Hy S)(m:Nat):Hy (S++Ht e stk ks w h S m):=Lk a<|Rp hf m
def Qo(hf:JE w h)(a:∀t∈S,Ir w h ks.length t)(m:Nat):∀t∈S++Ht e stk ks w h S m,Ir w h ks.length t:=λt ht=>by
 rcases On.mp ht with ht|ht
 ·exact a t ht
 exact Pe (Rp hf m) t ht
def VM(a:∀t∈P,Ir w h kn t):∀t∈P,0<=t.2.2/\t.2.2<kn:=λt e=>⟨(a t e).2.2.2.2.1,(a t e).2.2.2.2.2⟩
def Wb{f:Str}{g:GN}{mm:MA}{b:Option D}{U:Ii}(hf:(Oe bed s5 kd ld rd).lookup f=none)(h:OA C o bed s5 kd ld rd s):Lh C f g (mV 1) mm (b::some (.ref o)::U) s=(mm (b::some (.ref o)::U) s).bind λp=>g (.ref o::p.1) p.2:=by have h:s[o]?=some (.ob C<|Oe bed s5 kd ld rd):=h;have e:mV 1 (b::some (.ref o)::U) s=some (.ref o,s):=rfl;unfold Lh;rw[e];simp only[Ac,h,hf];simp
def ZR{d:D}{s1:Hg}(h:OA C o bed s5 kd ld rd s)(a:Pc C [.ref o] s=some (d,s1)):UL C [some bed,some (.ref o)] s=some (!MR d,s1):=by
 have e:=Wb (C:=C) (o:=o) (f:="on") (g:=Pc C) (mm:=mZ) (b:=some bed) (U:=[]) rfl h;have nn:∀q:Hg,Th d .non q=some (.bl !MR d,q):=λq=>by unfold Th JX Ob;rw[Kt]
 unfold UL;simp[e,a,nn]
theorem eX(c:Ctx bed e stk ks w h)(hn:st0.length<=o/\o<s5/\s5<kd/\kd<ld/\ld<rd)(u:∀t∈S,Ir w h ks.length t)(a:Hy S):
  ∀(n m:Nat) {F:Int×Int->List Tl}{Y:List Yq}{s:Hg},Gw C o s5 kd ld rd bed stk (S++Ht e stk ks w h S m) (Ht e stk ks w h S m) F Y st0 s->Good e stk ks w h (S++Ht e stk ks w h S m) F Y->(∀j,j<m->JI e stk ks w h (S++Ht e stk ks w h S j)≠none)->w.toNat*h.toNat<n+m->Y.length<=144+5*m ->
  ∃(M:Nat) (v:Int×Int->List Tl) (x:List Yq) (s':Hg),Y3 (IS (UL C) (XN C) n [some bed,some (.ref o)] s=some (.nx [some bed,some (.ref o)],s')) (Gw C o s5 kd ld rd bed stk (S++Ht e stk ks w h S M) (Ht e stk ks w h S M) v x st0 s') (JI e stk ks w h (S++Ht e stk ks w h S M)=none)
 |0,m,F,Y,s,q,g,b,d,E=>by have:=Uc (e:=e) (stk:=stk) (ks:=ks) (S:=S) c.fo m b;omega
 |n+1,m,F,Y,s,q,g,b,d,E=>by
  have hf:=Uc (e:=e) (stk:=stk) (ks:=ks) (S:=S) c.fo m b;have G:=Rz c.fo;have y:=Qo (e:=e) (stk:=stk) (ks:=ks) c.fo u m;have H:=P6 c.fo (O8 (e:=e) (stk:=stk) (ks:=ks) c.fo a m) y;have I:=V9 (e:=e) (stk:=stk) (ks:=ks) (w:=w) (h:=h) (S:=S) m;by_cases hy:Y=[]
  ·subst hy;have P:=ZR q.ob<|sV q;refine⟨m,F,[],s,?_,q,?_⟩
   ·rw[IS];simp[P,MR]
   ·unfold JI;rw[zmX c λp J=>by
     obtain⟨k,hk⟩:=(g.key p).mpr J;cases hk]
    rfl
  ·obtain⟨p,t,L,v,x,s',i,f,K,N,z,A,Q⟩:=sW c hn q g (VM y) hy (!0) (!0) (!0);obtain⟨M0,l⟩:=zk1 c i f K;have B:JI e stk ks w h (S++Ht e stk ks w h S m)=some t:=by
    unfold JI;rw[l];rfl
   rw[Aj,<-Wt B]at z A;have P:=ZR q.ob N;have nn:(!MR (tD t))=true:=rfl;rw[nn]at P;obtain⟨M,T,U,s2,W,X,Z⟩:=eX c hn u a n (m+1) z A (λj hj=>by
    by_cases r:j=m
    ·subst r;rw[B];simp
    exact b j (!0)) (!0) (!0)
   refine⟨M,T,U,s2,?_,X,Z⟩;rw[IS];simp only[P,Ac,if_true];unfold XN;rw[rM];exact W
def oZ(q:Gw C o s5 kd ld rd bed stk P R F Y st0 s):UD C [.ref o] s=some (.tup (R.map tD),s):=by have f:=VB (U:=[]) q.ob;have e:=Mh q.hl;refine IH ?_;unfold fD;simp[f,e]
def kN(q:Gw C o s5 kd ld rd bed stk P R F Y st0 s)(a:∀st:Hg,Hf bed (.int 2) st=some (Hw S,st))(b:(S++R).length<64):∃s',U9 C [.ref o] s=some (Hw (Hk<|S++R),s')/\Gr s s':=by
 have d:∀st:Hg,OA C o bed s5 kd ld rd st->HE C "bed" (mV 0) [some (.ref o)] st=some (bed,st):=λst z=>QL z;have f1:=QL (U:=[]) q.ob;rw[AD]at b;have m:fits S.length=true:=JK (!0);have n:OX [Hw S] s=some (.ref s.length,s++[.lst (S.map tD)]):=by
  rw[ND];unfold OX QI K7;have:QJ [.tup (S.map tD)] s=some (.ref s.length,s++[.lst (S.map tD)]):=by unfold QJ;simp only[Af,m,if_true]
  rw[this,Kt,Kt]
 have h:=q.gr<|Gr.app s [.lst (S.map tD)];have a1:=Iq s<|.lst<|S.map tD;have f2:=VB (U:=[]) h.ob;generalize e:s++[O.lst (S.map tD)]=s1 at *;have g1:Gr s s1:=e ▸ Gr.app _ _;have p:HF (.ref s.length) (.ref ld) s1=some (.ref s1.length,s1++[.lst ((S++R).map tD)]):=by have w:fits (S.length+R.length)=true:=JK (!0);unfold HF;simp only[a1,h.hl,Af,w,if_true];rw[AZ]
 have a2:=Iq s1<|.lst<|(S++R).map tD;have L:=gR a2 (by rw[AD];omega);generalize f:s1++[O.lst ((S++R).map tD)]=s2 at *;have g2:Gr s1 s2:=f ▸ Gr.app _ _;have c:=Mh<|Iq s2<|.lst<|(Hk<|S++R).map tD;refine⟨s2++[.lst ((Hk<|S++R).map tD)],IH ?_,(g1.trans g2).trans<|Gr.app _ _⟩;unfold iB;rw[ND (Hk<|S++R)];generalize (Hk<|S++R).map tD=B at *;generalize Hw S=SS at *;simp[f1,a,n,f2,p,L,c]
def NY(e:Int)(stk:List (Str×Int))(ks:List (!6))(w h:Int)(S:List Tl)(M:Nat):D:=.tup [.tup ((Ht e stk ks w h S M).map tD),Hw (Hk<|S++Ht e stk ks w h S M)]
def zih{st:Hg}(c:Ctx (Hs e stk ks w h S) e stk ks w h)(i:∀t∈S,Ir w h ks.length t)(a:Hy S)(l:S.length<=60):
  ∃(M:Nat) (d:Hg),Y3 (W6 C [Hs e stk ks w h S] st=some (NY e stk ks w h S M,d)) (Gr st d) (JI e stk ks w h (S++Ht e stk ks w h S M)=none):=by
 obtain⟨s5,kd,ld,rd,F,Y,s1,n,p,q,g,E⟩:=qH (C:=C) (st:=st) c i a l;have L:=Rz c.fo;obtain⟨M,G,H,s2,P,m,r⟩:=eX (S:=S) c p i a 1000 0 (F:=F) (Y:=Y) (s:=s1) (by simpa[Ht]using q) (by simpa[Ht]using g) (λj I=>by omega) (!0) (!0);have u:=Qo (e:=e) (stk:=stk) (ks:=ks) c.fo i M;have v:=P6 c.fo (O8 (e:=e) (stk:=stk) (ks:=ks) c.fo a M) u;have x:∀s:Hg,Hf (Hs e stk ks w h S) (.int 2) s=some (Hw S,s):=λs=>Im (!1) rfl;obtain⟨s3,y,g3⟩:=kN m x (!0);have z:=oZ m;have A:=Wb (C:=C) (o:=st.length) (f:="row") (g:=UD C) (mm:=mZ) (b:=some (Hs e stk ks w h S)) (U:=[]) rfl m.ob;have B:=Wb (C:=C) (o:=st.length) (f:="standing") (g:=U9 C) (mm:=mZ) (b:=some (Hs e stk ks w h S)) (U:=[]) rfl m.ob;refine⟨M,s3,IH ?_,m.fr.trans g3,r⟩;unfold gH NY;generalize Hs e stk ks w h S=bed at *;generalize (Ht e stk ks w h S M).map tD=J at *;generalize Hw (Hk<|S++Ht e stk ks w h S M)=SS at *;refine Hz (U1:=[some bed,some (.ref st.length)]) (s1:=s1) ?_<|Hz P ?_
 ·have em:QP C (U8 C) (Hc (mV 0) mZ) [some bed,none] st=some (.ref st.length,s1):=by
   unfold QP;simp[n]
  show Hr _ _ [some bed,none] st=_;simp[em]
 simp[A,z,B,y]
end
end L2.MP.T0
namespace L2.MP.T0
open PySem L2.MP L2.MP.Hd
open L2.MP.Hn (Hw Mu Hk Jo Pn)
variable {bed:D}{d l:Nat}{e w h:Int}{stk:List (Str×Int)}{ks:List (!6)}{S:List Tl}{st0:Hg}
def zH(hf:JE w h){n:Nat}(a:∀m,m<n->JI e stk ks w h (S++Ht e stk ks w h S m)≠none)(hn:w.toNat*h.toNat<=n):JI e stk ks w h (S++Ht e stk ks w h S n)=none:=by
 have l:=Uc (e:=e) (stk:=stk) (ks:=ks) (S:=S) hf n a;cases d:JI e stk ks w h (S++Ht e stk ks w h S n) with
 |none=>rfl
 |some t=>
  have hm:=T4 hf d;have:=WR (aB hf hm) hm.2.1;omega
section
variable {S' P Q:List Tl}
def Qj(A B:List Tl)(x y:Int):HN (A++B) x y=(HN A x y).or (HN B x y):=by unfold HN;rw[D1];cases List.find? (λt:Tl=>decide (t.1=x)&&decide (t.2.1=y)) A<;>rfl
def eG(h':HN P=HN Q):JI e stk ks w h P=JI e stk ks w h Q:=by
 have d:JP ks P=JP ks Q:=by funext p j;unfold JP;rw[h']
 have l:names4 ks P=names4 ks Q:=by funext x y;unfold names4;rw[d]
 have S:Iw P=Iw Q:=by funext x y j;unfold Iw;rw[h']
 have b:Lq P=Lq Q:=by funext x y;unfold Lq;rw[h',S]
 have s1:Jf stk ks P=Jf stk ks Q:=by funext x y k;unfold Jf;rw[l]
 have g1:gK e stk ks P=gK e stk ks Q:=by funext x y n;unfold gK;rw[s1]
 have c:eC P=eC Q:=by funext x m;unfold eC;rw[b]
 have f1:eF P=eF Q:=by funext a n;unfold eF;rw[c]
 unfold JI Ic;rw[g1,f1]
theorem WL(h':HN S=HN S'):∀n,Ht e stk ks w h S n=Ht e stk ks w h S' n
 |0=>rfl
 |n+1=>by have a:=WL h' n;have d:JI e stk ks w h (S++Ht e stk ks w h S n)=JI e stk ks w h (S'++Ht e stk ks w h S' n):=eG (by funext x y;rw[Qj,Qj,h',a]);rw[Ht,Ht,d,a]
def RA(hp:P.Perm Q)(a:Hy Q):HN P=HN Q:=by
 funext x y
 refine Option.ext λk=>⟨λz=>?_,λz=>?_⟩
 ·exact Ox (t:=(x,y,k)) a<|hp.mem_iff.mp<|M9 z
 exact Ox (t:=(x,y,k)) (Ou hp a)<|hp.mem_iff.mpr<|M9 z
def V8(hf:JE w h):JI e stk ks w h (S++Ht e stk ks w h S (w.toNat*h.toNat))=none:=by
 by_cases hh:∀m,m<w.toNat*h.toNat->JI e stk ks w h (S++Ht e stk ks w h S m)≠none
 ·exact zH hf hh<|Ag _
 obtain⟨m,hm⟩:=Classical.not_forall.mp hh;obtain⟨hm,d⟩:=Classical.not_imp.mp hm;have d:=Classical.not_not.mp d;have:=Ud d<|w.toNat*h.toNat-m;rw[show m+(w.toNat*h.toNat-m)=w.toNat*h.toNat by omega]at this;rw[this];exact d
end
variable {a2 a3 a4:Option D}{ds:List D}{s:Hg}
section
variable {q:Nat}
def pN{a b:Option Int}(h:s[l]?=some (.lst ds)):LI (.ref l) a b s=some (.ref s.length,s++[.lst (cutD ds a b)]):=by
 have:Yi (.ref l) a b s=some (.ref s.length,s++[.lst (cutD ds a b)]):=by show(HZ s l).map _=_;simp only[HZ,h,AL]
 unfold LI Yj;rw[this,Kt,Kt]
def rC(ds:List D):cutD ds none (some 1)=ds.take 1:=by cases ds<;>rfl
def zlw{s1:Hg}(c:s1[q]?=some (.lst ds)):Jb (Jp (mV 3) K1<|K2<|mK<|.int 1) [some bed,some (.ref d),a2,some (.ref q),a4] s1=some (⟨ds.take 1,[(s1.length,ds.take 1)]⟩,s1++[.lst (ds.take 1)]):=by have e:=pN (a:=none) (b:=some 1) c;rw[rC]at e;have a:=Iq s1<|.lst<|ds.take 1;simp[e,Lg,HZ,a]
def qQ{x y k:Int}{s2:Hg}(a:dput s d (.tup [.int x,.int y]) (.int k)=some s2):
  RL [some bed,some (.ref d),a2,a3,some (.tup [.int x,.int y,.int k])] s=some (.nx [some bed,some (.ref d),a2,a3,some (.tup [.int x,.int y,.int k])],s2):=by
 have e:LI (.tup [.int x,.int y,.int k]) none (some 2) s=some (.tup [.int x,.int y],s):=rfl;have h:Hf (.tup [.int x,.int y,.int k]) (.int 2) s=some (.int k,s):=Im (!1) rfl;unfold RL;rw[Mo];have l:Hr (mB Hf (mV 4)<|mK<|.int 2) (Lv Ik (mV 1)<|Jp (mV 4) K1<|K2<|mK<|.int 2) [some bed,some (.ref d),a2,a3,some (.tup [.int x,.int y,.int k])] s=none:=by simp[e,h,Ik]
 rw[l,Ku];unfold LC;simp[e,h,a]
end
section
variable {m:Nat}
def wV(c:Ctx bed e stk ks w h)(a:st0.length<=d)(u:∀t∈S,Ir w h ks.length t)(b:Hy S)(q:s[d]?=some (.dt<|(S++Ht e stk ks w h S m).map Hi))(j:Gr st0 s):
  ∃(v z:Option D) (s':Hg),XE [some bed,some (.ref d),a2,a3,a4] s=some (.nx [some bed,some (.ref d),a2,v,z],s')/\s'[d]?=some (.dt<|(S++Ht e stk ks w h S (m+1)).map Hi)/\Gr st0 s':=by
 have n:=Qo (e:=e) (stk:=stk) (ks:=ks) c.fo u m;have A:=O8 (e:=e) (stk:=stk) (ks:=ks) c.fo b m;have B:=P6 c.fo A n;obtain⟨s1,C,a1,g1⟩:=Vx c (VM n) q;have l:JI e stk ks w h (S++Ht e stk ks w h S m)=(Ic e stk ks (S++Ht e stk ks w h S m)<|eF (S++Ht e stk ks w h S m) h w.toNat).head?:=rfl;generalize Ic e stk ks (S++Ht e stk ks w h S m) (eF (S++Ht e stk ks w h S m) h w.toNat)=M at a1 l;have o:=zlw (bed:=bed) (d:=d) (a2:=a2) (a4:=a4) a1;have p:Hr (Ho Nc<|Hc (mV 0)<|Hc (mV 1)<|mZ) (Hl 3) [some bed,some (.ref d),a2,a3,a4] s=some (.nx [some bed,some (.ref d),a2,some (.ref s.length),a4],s1):=by simp[C]
 have at2:=Iq s1<|.lst<|(M.map tD).take 1;have f:=g1.trans<|Gr.app s1 [.lst ((M.map tD).take 1)];have g:=(f.old _<|qax q).trans q;have dl:=qax q;have J:=g1.len;generalize E:s1++[O.lst ((M.map tD).take 1)]=s2 at *
 cases M with
 |nil=>
  have F:Ht e stk ks w h S (m+1)=Ht e stk ks w h S m:=by rw[Ht,l];rfl
  refine⟨some<|.ref s.length,a4,s2,Hz p ?_,by rw[F];exact g,j.trans f⟩;rw[Kg,o];have at2:s2[s1.length]?=some (.lst []):=at2;show Kf ⟨[],[(s1.length,[])]⟩ (Hl 4) RL [] _ s2=_;unfold Kf;rw[if_pos (OE at2)]
 |cons t L=>
  have l:JI e stk ks w h (S++Ht e stk ks w h S m)=some t:=l;have hm:=T4 c.fo l;have G:=Wt l;obtain⟨x,y,k⟩:=t;have r:=M8 (x:=x) (y:=y) (k:=k) g (!0);rw[Oz hm.2.1,Aj,<-G]at r;have i:=qax g;have H:(s2.set d<|.dt<|(S++Ht e stk ks w h S (m+1)).map Hi)[s1.length]?=some (.lst [tD (x,y,k)]):=by rw[Ah (!0)];exact at2
  have I:=qQ (bed:=bed) (a2:=a2) (a3:=some (.ref s.length)) r;refine⟨some<|.ref s.length,some<|tD (x,y,k),s2.set d<|.dt<|(S++Ht e stk ks w h S (m+1)).map Hi,Hz p ?_,by rw[As i],Lj (j.trans f) a⟩;rw[Kg,o];have at2:s2[s1.length]?=some (.lst [tD (x,y,k)]):=at2;show Kf ⟨[tD (x,y,k)],[(s1.length,[tD (x,y,k)])]⟩ (Hl 4) RL [tD (x,y,k)] _ s2=_;rw[bC (OE at2) (U1:=[some bed,some (.ref d),a2,some (.ref s.length),some (tD (x,y,k))]) rfl I];unfold Kf;rw[if_pos (OE H)];rfl
end
def zF{sd:List Tl}{st:Hg}(c:Ctx (!3) e stk ks w h)(b:∀t∈sd,Ir w h ks.length t)(a:Hy sd)(j:sd.length<=6):
  ∃f:Hg,XG [Hs e stk ks w h sd] st=some (Hw (Hk<|sd++Ht e stk ks w h sd (w.toNat*h.toNat)),f)/\Gr st f:=by
 obtain⟨d,s1,S,a1,hd,g1⟩:=Qn (ts:=sd) (st:=st) (!0);rw[Nz a]at a1;have f1:=c.fo.w0;have f2:=c.fo.w1;have K:=c.fo.h0;have n:=c.fl;have o:∀st:Hg,Hf (.tup [.int w,.int h]) (.int 0) st=some (.int w,st):=λ_=>Im (!1) rfl;have p:∀st:Hg,Hf (.tup [.int w,.int h]) (.int 1) st=some (.int h,st):=λ_=>Im (!1) rfl;have em:∀st:Hg,HX (.int w) (.int h) st=some (.int (w*h),st):=λ_=>mul_int (!0);have q:=Rz c.fo;have key:=Ky (W:=⟨run 0<|w.toNat*h.toNat,[]⟩) (g:=Hl 2) (m:=XE) (ds:=run 0 (w.toNat*h.toNat)) (U:=[some (!3),some (.ref d),none,none,none]) (st:=s1)
  (Inv:=λi U s=>(∃a2 a3 a4,U=[some (!3),some (.ref d),a2,a3,a4])/\s[d]?=some (.dt<|(sd++Ht e stk ks w h sd i).map Hi)/\Gr st s)
  ⟨⟨_,_,_,rfl⟩,by rw[Ht,Ap];exact a1,g1⟩ (λ_ _ _ _ _=>rfl) (λi r U s u v=>by obtain⟨⟨a2,a3,a4,rfl⟩,x,y⟩:=v;obtain⟨L,N,z,A,B,C⟩:=wV (a2:=some r) (a3:=a3) (a4:=a4) c hd b a x y;exact⟨_,s,_,z,rfl,A,⟨_,_,_,rfl⟩,B,C⟩)
 obtain⟨P,s3,E,⟨a2,a3,a4,rfl⟩,l,g3⟩:=key;rw[Ld]at l;have F:=P6 c.fo (O8 (e:=e) (stk:=stk) (ks:=ks) c.fo a<|w.toNat*h.toNat)<|Qo (e:=e) (stk:=stk) (ks:=ks) c.fo b _;obtain⟨s4,G,H⟩:=XH l (O8 (e:=e) (stk:=stk) (ks:=ks) c.fo a _) (!0);have I:IW (mB HX (mB Hf (mB Hf (mV 0)<|mK<|.int 1)<|mK<|.int 0)<|mB Hf (mB Hf (mV 0)<|mK<|.int 1)<|mK<|.int 1) [some (!3),some (.ref d),none,none,none] s1=some (⟨run 0<|w.toNat*h.toNat,[]⟩,s1):=by
  refine P1 (s1:=s1) (k:=w.toNat*h.toNat) (M:=w*h) ?_ ?_<|by omega
  ·rw[Gn,A2 (!0),A2 (!0)]
  exists 4;simp[n,o,p,em]
 have J:∀s:Hg,Hf (!3) (.int 2) s=some (Hw sd,s):=λs=>Im (!1) rfl;refine⟨s4,IH ?_,g3.trans H⟩;unfold iD;generalize Hw (Hk<|sd++Ht e stk ks w h sd (w.toNat*h.toNat))=SE at *;exists 4;generalize Hw sd=SS at *;refine Hz (U1:=[some bed,some (.ref d),none,none,none]) (s1:=s1) (by simp[J,S]) ?_;refine Hz (U1:=[some bed,some (.ref d),a2,a3,a4]) (s1:=s3) (by rw[Kg,I];exact E) ?_;simp[G]
end L2.MP.T0
namespace L2.MP.T0
open PySem L2.MP L2.MP.Hd
open L2.MP.Hn (Hw Mu Hk Jo Pf Pn)
theorem ZA{W:Wk}{g:MG}{c:MT}{m:ME}{α:Type}{f h:α->D}{p:α->Bool}{R:Ii->Prop}:∀{as:List α}{U:Ii}{st:Hg},R U->(∀s,walked W s=true)->(∀a∈as,∀U s,R U->Gr st s->∃U1 s1,g (f a) U s=some (U1,s)/\c U1 s=some (p a,s1)/\m U1 s1=some (h a,s1)/\Gr s s1/\R U1) ->
  ∃s',Jc W g c m (as.map f) U st=some ((as.filter p).map h,s')/\Gr st s'
 |[],U,st,r,d,_=>⟨st,by unfold Jc;rw[Bx];simp only[d st,if_true,Er,Bx],Gr.refl st⟩
 |a::as,U,st,r,d,l=>by
  obtain⟨U1,s1,n,i,o,g1,r1⟩:=l a Ar U st r<|Gr.refl st;obtain⟨s',e,u⟩:=ZA (W:=W) (g:=g) (c:=c) (m:=m) (f:=f) (h:=h) (p:=p) (R:=R) (as:=as) (st:=s1) r1 d λb v U s q z=>l b (Al _ v) U s q<|g1.trans z;refine⟨s',?_,g1.trans u⟩;rw[An];unfold Jc;rw[if_pos (d st),n]
  cases j:p a with
  |true=>
   rw[j]at i;simp only[Ac,i,if_true,o,e,AL,BI,j,An]
  |false=>
   rw[j]at i;simp only[Ac,i,AM,if_false,e,BI,j]
variable {h e w:Int}{stk:List (Str×Int)}{ks:List (!6)}{sd T A P:List Tl}{bed:D}
section
variable {Q:List Tl}
def P4(e:Int)(stk:List (Str×Int))(ks:List (!6))(w h:Int)(sd T:List Tl)(t:Tl):Prop:=HN sd t.1 t.2.1=none->∃R,(Js e stk ks w h sd R/\∀u∈R,u∈T/\¬(u.1=t.1/\u.2.1=t.2.1))/\(∀u∈T,¬(u.1=t.1/\u.2.1=t.2.1)->¬JU e stk ks w h (sd++R) u)/\∀k:Nat,k<ks.length->e<=Jf stk ks (sd++R) t.1 t.2.1 k->(k:Int)=t.2.2
def Vy(c:Ctx bed e stk ks w h)(b:JI e stk ks w h P=none)(t:Tl):¬JU e stk ks w h P t:=λhm=>by
 obtain⟨⟨x0,T,d,f,g,o⟩,i,j⟩:=hm;have Q:t∈gK e stk ks P t.1 t.2.1 ks.length:=by unfold gK;refine Re.mpr ⟨t.2.2.toNat,List.mem_filter.mpr ⟨List.mem_range.mpr<|by omega,decide_eq_true j⟩,?_⟩;obtain⟨x,y,k⟩:=t;have:((k.toNat:Nat):Int)=k:=A2 g;rw[this]
 have m:=Zi (p:=(t.1,t.2.1)) c ⟨⟨x0,T,d,f⟩,i,λz=>by rw[z]at Q;cases Q⟩;have A:t∈Ic e stk ks P (eF P h w.toNat):=List.mem_flatten.mpr ⟨_,Re.mpr ⟨_,m,rfl⟩,Q⟩;have:Ic e stk ks P (eF P h w.toNat)=[]:=by
  unfold JI at b;cases n:Ic e stk ks P (eF P h w.toNat) with
  |nil=>rfl
  |cons a l=>rw[n]at b;cases b
 rw[this]at A;cases A
theorem Wg(c:Ctx bed e stk ks w h)(a:Hy sd)(v:Js e stk ks w h sd Q)(hE:∀t,¬JU e stk ks w h (sd++Q) t)(j:∀t,t∈T ↔ t∈sd++Q)(x:∀t∈T,P4 e stk ks w h sd T t)(m:Js e stk ks w h sd A):∀i:Nat,∀t∈A.take i,t∈Q
 |0,t,ht=>by simp at ht
 |i+1,t,ht=>by
  have n:=Wg c a v hE j x m i;rw[A7,CZ]at ht;rcases ht with ht|ht
  ·exact n t ht
  have ht:A[i]?=some t:=by
   cases q:A[i]? with
   |none=>rw[q]at ht;cases ht
   |some z=>rw[q]at ht;rw[KM.mp ht]
  have hm:=Q7 m ht;have b:=Lk a v;have B:=hm.1.2.2.2.2.1;have E:=hm.1.2.2.2.2.2;cases q:HN (sd++Q) t.1 t.2.1 with
  |none=>exact absurd ⟨hm.1,q,Ci hm.2.2<|Wu c (VI n b)<|by omega⟩<|hE t
  |some k=>
   have y:=M9 q;have ns:HN sd t.1 t.2.1=none:=K4.mpr λu P=>K4.mp hm.2.1 u<|AK _ P;obtain⟨R,⟨o,p⟩,d,f⟩:=x (t.1,t.2.1,k) ((j _).mpr y) ns;have r:Hy Q:=(List.pairwise_append.mp b).2.1;have cl:Cl e stk ks w h sd (Q.filter λu=>!decide (u.1=t.1/\u.2.1=t.2.1)) R:=by
    refine⟨o,λu P=>?_,λu P=>?_⟩
    ·obtain⟨s,l⟩:=p u P;refine List.mem_filter.mpr ⟨?_,by rw[decide_eq_false l];rfl⟩
     rcases On.mp ((j u).mp s)with z|z
     ·have:=(List.pairwise_append.mp<|Lk a o).2.2 u z u P;unfold JF at this;simp at this
     exact z
    ·obtain⟨s,l⟩:=List.mem_filter.mp P;exact d u ((j u).mpr<|AH _ s) (by
      intro z;rw[decide_eq_true z]at l;cases l)
   have g:=SV (A:=A.take i) c (Dm Fs r) a (bW i m) (λu P=>List.mem_filter.mpr ⟨n u P,by
    rw[decide_eq_false (K4.mp hm.2.1 u<|AH _ P)]
    rfl⟩) cl (A.take i).length
   rw[AU]at g;have hk:=f t.2.2.toNat (!0) (Ci hm.2.2<|Wu c (VI g<|Lk a o)<|by omega);rw[A2 B]at hk;have C:t=(t.1,t.2.1,k):=by have hk:t.2.2=k:=hk;rw[<-hk]
   rcases On.mp y with z|z
   ·exact absurd ⟨rfl,rfl⟩<|K4.mp ns _ z
   rw[C];exact z
def zmf(c:Ctx bed e stk ks w h)(a:Hy sd)(b:Js e stk ks w h sd Q)(f:∀t,¬JU e stk ks w h (sd++Q) t)(i:∀t,t∈T ↔ t∈sd++Q)(j:∀t∈T,P4 e stk ks w h sd T t)(g:Js e stk ks w h sd A)(l:∀t,¬JU e stk ks w h (sd++A) t):Hk (sd++A)=Hk (sd++Q):=by have P:=Wg c a b f i j g A.length;rw[AU]at P;have d:Hy Q:=(List.pairwise_append.mp<|Lk a b).2.1;exact G8 (T:=Q) c d a ⟨g,P,λt _=>l t⟩ ⟨b,λt m=>m,λt _=>f t⟩
end
variable {t:Tl}{L:List Tl}
section
variable {P':List Tl}
def zmY(h':HN P=HN P')(hm:JU e stk ks w h P t):JU e stk ks w h P' t:=by
 have A:JP ks P=JP ks P':=by funext p j;unfold JP;rw[h']
 have L:names4 ks P=names4 ks P':=by funext x y;unfold names4;rw[A]
 have s1:Jf stk ks P=Jf stk ks P':=by funext x y k;unfold Jf;rw[L]
 exact⟨hm.1,by rw[<-h'];exact hm.2.1,by rw[<-s1];exact hm.2.2⟩
theorem dG:∀{L P P':List Tl},HN P=HN P'->Js e stk ks w h P L->Js e stk ks w h P' L
 |[],_,_,_,_=>trivial
 |u::L,P,P',h',a=>⟨zmY h' a.1,dG (by funext x y;rw[Qj,Qj,h']) a.2⟩
theorem bV{L:List Tl}:∀{A P:List Tl},Js e stk ks w h P A->Js e stk ks w h (P++A) L->Js e stk ks w h P (A++L)
 |[],P,_,a=>by simpa using a
 |u::A,P,b,a=>⟨b.1,bV b.2<|by simpa using a⟩
end
theorem bF:∀as bs:List Int,Ca (as.map Fi) (bs.map Fi)=decide (as=bs)
 |[],[]=>rfl
 |[],b::bs=>by simp[Ca]
 |a::as,[]=>by simp[Ca]
 |a::as,b::bs=>by
  have c:=bF as bs;simp only[An,Ca,Bv,c];by_cases h1:a=b
  ·subst h1;simp
  simp[h1]
variable {l:Nat}{st:Hg}
def tQ{m:Nat}{as bs:List Int}(a:st[l]?=some (.lst<|as.map D.int))(hm:st[m]?=some (.lst<|bs.map D.int)):IY (.ref l) (.ref m) st=some (.bl (!decide (as=bs)),st):=by unfold IY;rw[OB (n:=98) a,OB (n:=98) hm];simp only[Ac,AL,Bv,bF]
variable {d:Nat}{x y k:Int}{a6 a7:Option D}{s s1 s2 s3:Hg}
section
variable {d0:Nat}
def uM{P:List Tl}(c:Ctx bed e stk ks w h)(o:∀t∈P,0<=t.2.2/\t.2.2<(ks.length:Int))(hd:st[d]?=some (.dt<|P.map Hi)):
  ∃s',Jc ⟨run 0 ks.length,[]⟩ (Hl 0) RM UW (run 0 ks.length) [none,some bed,some (.ref d),some (.int x),some (.int y)] st=some (((Av ks.length).filter λj=>decide (e<=Jf stk ks P x y j)).map λ(j:Nat)=>D.int (0+(j:Int)),s')/\Gr st s':=by
 refine ZA (f:=λ(j:Nat)=>D.int (0+(j:Int))) (h:=λ(j:Nat)=>D.int (0+(j:Int))) (p:=λj=>decide (e<=Jf stk ks P x y j)) (as:=Av ks.length) (R:=λr=>∃u,r=[u,some bed,some (.ref d),some (.int x),some (.int y)]) ⟨none,rfl⟩ (λ_=>rfl) λj a U s q g=>?_;obtain⟨u,rfl⟩:=q;have a:=List.mem_range.mp a;obtain⟨B,b,m,C,E⟩:=c.at_;have l:(0:Int)<=0+(j:Int):=by omega
 have n:0+(j:Int)<(ks.length:Int):=by omega
 obtain⟨f,F,b1,G,H,I,v,z⟩:=Mc c.ks l n;obtain⟨s2,A,g2⟩:=WU (x:=x) (y:=y) c.bed c.ks c.stk (by have:=c.hs.sl;omega) o l n<|(g.old _<|qax hd).trans hd;have L:(0+(j:Int)).toNat=j:=by omega
 have T:((alike (Iz ks<|0+(j:Int))<|names4 ks P x y).map λi=>sv stk ((Iz ks<|0+(j:Int)).getD i "")).sum=Jf stk ks P x y j:=by have:=Rg (stk:=stk) (P:=P) (x:=x) (y:=y) (k:=(0+(j:Int)).toNat) (ks:=ks) (by rw[A2 l,v];rfl);rw[A2 l,L]at this;exact this
 rw[T]at A;generalize 0+(j:Int)=J at *;refine⟨[some (.int J),some bed,some (.ref d),some (.int x),some (.int y)],s2,rfl,?_,rfl,g2,_,rfl⟩;unfold RM;by_cases hR:e<=Jf stk ks P x y j
 ·simp[A,b,m,hR]
 simp[A,b,m,hR]
def qO{TT:D}{ds:Nat}{q:Bool}(b:Kx (.tup [.int x,.int y]) (.ref ds) s=some (.bl true,s))(f:US [bed,TT,.tup [.int x,.int y]] s=some (.ref d,s1))(g:I0 (IW<|Ho HM<|Hc (mB Hf (mB Hf (mV 0)<|mK<|.int 0)<|mK<|.int 2)<|mZ) 1 [0,6,3,4] (Hl 0) RM UW [some bed,some TT,some (.ref ds),some (.int x),some (.int y),some (.int k),some (.ref d),a7] s1=some (.ref l,s2)) (a:s2++[.lst [.int k]]=s3) (c:IY (.ref l) (.ref s2.length) s3=some (.bl q,s3)):
  OG [some bed,some TT,some (.ref ds),some (.int x),some (.int y),some (.int k),a6,a7] s=if q=true then some (.rt (.bl false),s3)else some (.nx [some bed,some TT,some (.ref ds),some (.int x),some (.int y),some (.int k),some (.ref d),some (.ref l)],s3):=by
 unfold OG;rw[Lf];have e:mT (mB Kx (mU<|Hc (mV 3)<|Hc (mV 4)<|mZ)<|mV 2) [some bed,some TT,some (.ref ds),some (.int x),some (.int y),some (.int k),a6,a7] s=some (true,s):=by simp[b]
 rw[e,Ac];show mS _ _ _ s=_;refine Hz (U1:=[some bed,some TT,some (.ref ds),some (.int x),some (.int y),some (.int k),some (.ref d),a7]) (s1:=s1) (by simp[f]) ?_;refine Hz (U1:=[some bed,some TT,some (.ref ds),some (.int x),some (.int y),some (.int k),some (.ref d),some (.ref l)]) (s1:=s2) (by simp[g]) ?_
 cases q with
 |true=>simp[a,c]
 |false=>simp[a,c]
def zme{t:Tl}(c:Ctx (!3) e stk ks w h)(g:Hy sd)(f:∀t∈sd,Ir w h ks.length t)(i:sd.length<=6)(v:∀t∈T,Ir w h ks.length t)(m:T.length<=60)(hd:s[d0]?=some (.dt<|sd.map Hi)):
  ∃s',Gr s s'/\(OG [some (!3),some (Hw T),some (.ref d0),some (.int t.1),some (.int t.2.1),some (.int t.2.2),a6,a7] s=some (.rt (.bl false),s')\/∃B C,OG [some (!3),some (Hw T),some (.ref d0),some (.int t.1),some (.int t.2.1),some (.int t.2.2),a6,a7] s=some (.nx [some (!3),some (Hw T),some (.ref d0),some (.int t.1),some (.int t.2.1),some (.int t.2.2),B,C],s')/\P4 e stk ks w h sd T t):=by
 obtain⟨x,y,k⟩:=t;have l:=Ua (x:=x) (y:=y) hd;rw[Lm,Be]at l;cases hf:HN sd x y with
 |some X=>
  rw[hf]at l;refine⟨s,Gr.refl _,.inr ⟨a6,a7,?_,λz=>?_⟩⟩
  ·unfold OG;exists 4;generalize Hw T=TT at *;simp[l]
  have z:HN sd x y=none:=z;rw[hf]at z;cases z
 |none=>
  rw[hf]at l;obtain⟨d,R,s1,E,n,g1,q,A⟩:=zjQ (a:=x) (b:=y) (st:=s) c v f g i m;have F:∀t∈sd++R,0<=t.2.2/\t.2.2<(ks.length:Int):=λt ht=>by
   have:Ir w h ks.length t:=by
    rcases On.mp ht with ht|ht
    ·exact f t ht
    exact Pe q.1 t ht
   exists 15
  obtain⟨s2,G,g2⟩:=uM (x:=x) (y:=y) c F n;obtain⟨Y,H,Z,i1,I⟩:=c.at_;have J:=c.hs.hi;have fl:fits (((Av ks.length).filter λj=>decide (e<=Jf stk ks (sd++R) x y j)).map λ(j:Nat)=>D.int (0+(j:Int))).length=true:=JK (by rw[Af];have:=AQ (λj=>decide (e<=Jf stk ks (sd++R) x y j)) (Av ks.length);rw[Cb]at this;omega);have K:HM [.tup (ks.map IE)] s1=some (.int (ks.length:Int),s1):=by rw[Qa,Af]
  have o:I0 (IW<|Ho HM<|Hc (mB Hf (mB Hf (mV 0)<|mK<|.int 0)<|mK<|.int 2)<|mZ) 1 [0,6,3,4] (Hl 0) RM UW [some (!3),some (Hw T),some (.ref d0),some (.int x),some (.int y),some (.int k),some (.ref d),a7] s1=some (.ref s2.length,s2++[.lst (((Av ks.length).filter λj=>decide (e<=Jf stk ks (sd++R) x y j)).map λ(j:Nat)=>D.int (0+(j:Int)))]):=by
   have N:IW (Ho HM<|Hc (mB Hf (mB Hf (mV 0)<|mK<|.int 0)<|mK<|.int 2)<|mZ) [some (!3),some (Hw T),some (.ref d0),some (.int x),some (.int y),some (.int k),some (.ref d),a7] s1=some (⟨run 0 ks.length,[]⟩,s1):=by refine P1 (s1:=s1) (k:=ks.length) (M:=(ks.length:Int)) rfl ?_ (!0);generalize Hs e stk ks w h sd=bed at *;generalize Hw T=TT at *;generalize ks.map IE=KK at *;simp[H,I,K]
   rw[JH,N];simp only[Ac];rw[show IL [some (!3),some (Hw T),some (.ref d0),some (.int x),some (.int y),some (.int k),some (.ref d),a7] 1 [0,6,3,4]=[none,some (!3),some (.ref d),some (.int x),some (.int y)] from rfl,G];simp only[Ac,fl,if_true]
  have r:=Iq s2<|.lst<|((Av ks.length).filter λj=>decide (e<=Jf stk ks (sd++R) x y j)).map λ(j:Nat)=>D.int (0+(j:Int));have g3:=Gr.app s2 [.lst (((Av ks.length).filter λj=>decide (e<=Jf stk ks (sd++R) x y j)).map λ(j:Nat)=>D.int (0+(j:Int)))];generalize Q:s2++[O.lst (((Av ks.length).filter λj=>decide (e<=Jf stk ks (sd++R) x y j)).map λ(j:Nat)=>D.int (0+(j:Int)))]=s3 at *;have u:=Gr.app s3 [.lst [.int k]];have hm:=Iq s3<|.lst [.int k];have L:=(u.old _<|qax r).trans r;generalize p:s3++[O.lst [D.int k]]=s4 at *;have em:(((Av ks.length).filter λj=>decide (e<=Jf stk ks (sd++R) x y j)).map λ(j:Nat)=>D.int (0+(j:Int)))=(((Av ks.length).filter λj=>decide (e<=Jf stk ks (sd++R) x y j)).map λ(j:Nat)=>(0+(j:Int))).map D.int:=by rw[AJ];rfl
  rw[em]at L;have S:=tQ (bs:=[k]) L hm;have P:=qO (a6:=a6) (k:=k) l E o p S;refine⟨s4,((g1.trans g2).trans g3).trans u,?_⟩;by_cases hq:(((Av ks.length).filter λj=>decide (e<=Jf stk ks (sd++R) x y j)).map λ(j:Nat)=>(0+(j:Int)))=[k]
  ·rw[decide_eq_true hq]at P;refine .inr ⟨_,_,P,λ_=>⟨R,q,A,λj U W=>?_⟩⟩;have:(0+(j:Int))∈(((Av ks.length).filter λj=>decide (e<=Jf stk ks (sd++R) x y j)).map λ(j:Nat)=>(0+(j:Int))):=Re.mpr ⟨j,List.mem_filter.mpr ⟨List.mem_range.mpr U,decide_eq_true W⟩,rfl⟩;rw[hq,DP]at this;show(j:Int)=k;omega
  rw[decide_eq_false hq]at P;exact .inl P
theorem dO(c:Ctx (!3) e stk ks w h)(a:Hy sd)(b:∀t∈sd,Ir w h ks.length t)(f:sd.length<=6)(m:∀t∈T,Ir w h ks.length t)(g:T.length<=60):∀(us:List Tl) {a3 a4 a5 a6 a7:Option D}{s:Hg},s[d0]?=some (.dt<|sd.map Hi) ->
  ∃s',Gr s s'/\(Kf ⟨T.map tD,[]⟩ (JY 3<|gC (Hl 3)<|gC (Hl 4)<|gC (Hl 5)<|JZ) OG (us.map tD) [some (!3),some (Hw T),some (.ref d0),a3,a4,a5,a6,a7] s=some (.rt (.bl false),s')\/∃j,Kf ⟨T.map tD,[]⟩ (JY 3<|gC (Hl 3)<|gC (Hl 4)<|gC (Hl 5)<|JZ) OG (us.map tD) [some (!3),some (Hw T),some (.ref d0),a3,a4,a5,a6,a7] s=some (.nx j,s')/\∀u∈us,P4 e stk ks w h sd T u)
 |[],a3,a4,a5,a6,a7,s,hd=>⟨s,Gr.refl _,.inr ⟨_,by unfold Kf;rw[Bx];rfl,λu hu=>by cases hu⟩⟩
 |t::us,a3,a4,a5,a6,a7,s,hd=>by
  obtain⟨s1,g1,i⟩:=zme (t:=t) (a6:=a6) (a7:=a7) c a b f m g hd;have x:JY 3 (gC (Hl 3)<|gC (Hl 4)<|gC (Hl 5)<|JZ) (tD t) [some (!3),some (Hw T),some (.ref d0),a3,a4,a5,a6,a7] s=some ([some (!3),some (Hw T),some (.ref d0),some (.int t.1),some (.int t.2.1),some (.int t.2.2),a6,a7],s):=rfl;rw[An]
  rcases i with i|⟨y,A,i,L⟩
  ·exact⟨s1,g1,.inl<|qP rfl x i⟩
  ·obtain⟨s2,g2,d⟩:=dO c a b f m g us (a3:=some (.int t.1)) (a4:=some (.int t.2.1)) (a5:=some (.int t.2.2)) (a6:=y) (a7:=A) (s:=s1)<|(g1.old _<|qax hd).trans hd;refine⟨s2,g1.trans g2,?_⟩;rw[bC rfl x i]
   rcases d with d|⟨j,d,l⟩
   ·exact .inl d
   ·refine .inr ⟨j,d,λu hu=>?_⟩
    rcases Os.mp hu with rfl|hu
    ·exact L
    exact l u hu
def zld(c:Ctx (!3) e stk ks w h)(a:Hy sd)(g:∀t∈sd,Ir w h ks.length t)(i:sd.length<=6)(m:∀t∈T,Ir w h ks.length t)(j:T.length<=60):
  ∃(b:Bool) (f:Hg),XJ [Hs e stk ks w h sd,Hw T] st=some (.bl b,f)/\Gr st f/\(b=true->∀t∈T,P4 e stk ks w h sd T t):=by
 obtain⟨d,s1,y,a1,hd,g1⟩:=Qn (ts:=sd) (st:=st) (!0);rw[Nz a]at a1;obtain⟨s2,g2,l⟩:=dO c a g i m j T (a3:=none) (a4:=none) (a5:=none) (a6:=none) (a7:=none) a1;have A:∀s:Hg,Hf (!3) (.int 2) s=some (Hw sd,s):=λs=>Im (!1) rfl;have x:Hr (Ho NJ<|Hc (mB Hf (mV 0)<|mK<|.int 2)<|mZ) (Hl 2) (LJ 8 [Hs e stk ks w h sd,Hw T]) st=some (.nx [some (!3),some (Hw T),some (.ref d),none,none,none,none,none],s1):=by generalize Hs e stk ks w h sd=bed at *;generalize Hw T=TT at *;generalize Hw sd=SS at *;simp[LJ,A,y]
 have hw:Jb (mV 1) [some (!3),some (Hw T),some (.ref d),none,none,none,none,none] s1=some (⟨T.map tD,[]⟩,s1):=rfl;rcases l with l|⟨L,l,P⟩
 ·refine⟨false,s2,IH ?_,g1.trans g2,λz=>by cases z⟩;unfold XI;refine Hz x<|Ot ?_;rw[Kg,hw];exact l
 refine⟨true,s2,IH ?_,g1.trans g2,λ_=>P⟩;unfold XI;refine Hz x<|Hz (U1:=L) (s1:=s2) ?_ rfl;rw[Kg,hw];exact l
end
def ZC(a:N4 e stk ks)(hf:JE w h):Ctx (!3) e stk ks w h:=⟨⟨LN e stk ks,λs=>Im (!1) rfl,λs=>Im (!1) rfl,λs=>Im (!1) rfl,λs=>Im (!1) rfl⟩,λs=>Im (!1) rfl,a,hf⟩
def Uv{a:Int}{l:List Tl}(h':∀t∈l,Ir w h a t):∀t∈Hk l,Ir w h a t:=λt d=>h' t<|(Jo l).mem_iff.mp d
def fG{sd R:List Tl}(a:∀t∈sd,Ir w h ks.length t)(b:Js e stk ks w h sd R):∀t∈sd++R,Ir w h ks.length t:=λt ht=>by
 rcases On.mp ht with ht|ht
 ·exact a t ht
 exact Pe b t ht
def rG{mt:MT}{mc:ME}{U:Ii}{fr:List Nat}{v:Option D}{p:Tl->Bool}(b:IL U 1 fr=[none,v])(hw:U[1]?=some (some<|Hw T))(c:∀t,mt [some (tD t),v] s=some (p t,s))(f:∀t,mc [some (tD t),v] s=some (tD t,s))(g:T.length<=1000):
  I0 (Jb<|mV 1) 1 fr (Hl 0) mt mc U s=some (.ref s.length,s++[.lst ((T.filter p).map tD)]):=by
 have e:Jb (mV 1) U s=some (⟨T.map tD,[]⟩,s):=by rw[ND]at hw;simp[hw,Lg]
 have d:Jc ⟨T.map tD,[]⟩ (Hl 0) mt mc (T.map tD) [none,v] s=some ((T.filter p).map tD,s):=
  Us (R:=λr=>∃u,r=[u,v]) ⟨none,rfl⟩ rfl λa _ r h=>by obtain⟨u,rfl⟩:=h;exact⟨[some (tD a),v],rfl,c a,λ_=>f a,_,rfl⟩
 have fl:fits ((T.filter p).map tD).length=true:=JK (by rw[Af];have:=AQ p T;omega);rw[JH,e];simp only[Ac];rw[b,d];simp only[Ac,fl,if_true]
variable {C:Addr}{n:Nat}{a0 a1 a2 a9 a10 a11 z a8:Option D}{b:Bool}
section
def VN(a:Tl):IC (n+2) s (tD a)=some (tP a):=by
 have:=RK (n:=n) (st:=s) [a];simp only[An,Bx,Je]at this;cases b:IC (n+2) s (tD a) with
 |none=>rw[b]at this;cases this
 |some z=>rw[b]at this;simpa using this
def dC(a b:Tl):Bv (tP a) (tP b)=decide (a=b):=by obtain⟨a1,a2,d⟩:=a;obtain⟨b1,e,h⟩:=b;simp[tP,Bv,Ca];rfl
def zmN(P:List Tl)(s:Hg)(t:Tl):∃b,Kx (tD t) (Hw P) s=some (.bl b,s):=by
 have e:IC 50 s (.tup<|P.map tD)=some (.tuple<|P.map tP):=by rw[IC,RK (n:=47) P];rfl
 refine⟨!((P.map tP).any λy=>Bv y (tP t)),?_⟩;rw[ND];unfold Kx TB JX inD;rw[VN (n:=48) t,e];simp only[Ac,Pu,AL,Kt];rfl
def vF(a:P.length<64):W9 [Hs e stk ks w h sd,Hw P] st=some (Hs e stk ks w h (Hk P),st++[.lst ((Hk P).map tD)]):=by have b:∀s:Hg,Hf (!3) (.int 0) s=some (LN e stk ks,s):=λs=>Im (!1) rfl;have d:∀s:Hg,Hf (!3) (.int 1) s=some (.tup [.int w,.int h],s):=λs=>Im (!1) rfl;have l:=gF (ts:=P) (st:=st) a;have n:=Mh<|Iq st<|.lst<|(Hk P).map tD;refine IH ?_;unfold gL;rw[show Hs e stk ks w h (Hk P)=.tup [LN e stk ks,.tup [.int w,.int h],.tup ((Hk P).map tD)] from rfl,ND P];generalize Hs e stk ks w h sd=bed at *;generalize LN e stk ks=x at *;generalize (Hk P).map tD=B at *;generalize P.map tD=A at *;simp[b,d,l,n]
def zmV(c:Ctx (!3) e stk ks w h)(q:∀t∈T,Ir w h ks.length t)(a:∀t∈sd,Ir w h ks.length t)(i:Hy T)(f:Hy sd)(j:sd.length<=6)(m:T.length<=50):
  ∃(R:List Tl) (o:D) (g:Hg),Y3 (Rr C [Hs e stk ks w h sd,Hw T] st=some (.tup [o,.tup ((Ht e stk ks w h (sd++R)<|w.toNat*h.toNat).map tD)],g)) (Gr st g) (Cl e stk ks w h sd T R):=by
 obtain⟨R,s1,x,g1,cl,H⟩:=cB (st:=st) c q a i f j m;have l:=Lk f cl.row;have y:=fG a cl.row;have pl:(Hk<|sd++R).length<=56:=by rw[(Jo _).length_eq,AD];omega
 have b:=Ou (Jo<|sd++R) l;have d:=Ou (Jo<|Hk<|sd++R) b;have z:HN (Hk<|Hk<|sd++R)=HN (sd++R):=(RA (Jo _) b).trans (RA (Jo _) l);obtain⟨p,A⟩:=Classical.axiomOfChoice (zmN (Hk<|sd++R) s1);have L:=rG (mt:=W0 C) (mc:=fF C) (U:=[some (!3),some (Hw T),some (Hw<|Hk<|sd++R),none]) (fr:=[2]) (T:=T) (p:=p) (s:=s1) rfl rfl (λt=>by have:=A t;unfold W0;simp[this]) (λt=>rfl) (!0)
 have at2:=Iq s1<|.lst<|(T.filter p).map tD;have r:=Mh at2;have g2:=Gr.app s1 [.lst ((T.filter p).map tD)];generalize s1++[O.lst ((T.filter p).map tD)]=s2 at *;have u:=vF (e:=e) (stk:=stk) (ks:=ks) (w:=w) (h:=h) (sd:=sd) (st:=s2) (P:=Hk (sd++R)) (!0);have g3:=Gr.app s2 [.lst ((Hk<|Hk<|sd++R).map tD)];generalize s2++[O.lst ((Hk<|Hk<|sd++R).map tD)]=s3 at *;have v:Ctx (Hs e stk ks w h<|Hk<|Hk<|sd++R) e stk ks w h:=ZC c.hs c.fo;obtain⟨M,s4,B,E,F⟩:=zih (C:=C) (st:=s3) v (Uv<|Uv y) d (by rw[(Jo _).length_eq];omega);have sq:Ht e stk ks w h (Hk<|Hk<|sd++R) M=Ht e stk ks w h (sd++R) (w.toNat*h.toNat):=(vH F<|V8 c.fo).trans<|WL z _;have G:∀s:Hg,Hf (NY e stk ks w h (Hk<|Hk<|sd++R) M) (.int 0) s=some (.tup ((Ht e stk ks w h (sd++R)<|w.toNat*h.toNat).map tD),s):=λs=>by rw[<-sq];exact Im (!1) rfl
 refine⟨R,.tup<|(T.filter p).map tD,s4,IH ?_,((g1.trans g2).trans g3).trans E,cl⟩;unfold bS;generalize (Ht e stk ks w h (sd++R)<|w.toNat*h.toNat).map tD=I at *;generalize (T.filter p).map tD=o at *;generalize NY e stk ks w h (Hk<|Hk<|sd++R) M=J at *;generalize Hs e stk ks w h (Hk<|Hk<|sd++R)=n at *;exists 4;generalize Hw (Hk<|sd++R)=PP at *;generalize Hw T=TT at *;refine Hz (U1:=[some bed,some TT,some PP,none]) (s1:=s1) (by simp[x]) ?_;refine Hz (U1:=[some bed,some TT,some PP,some (.tup o)]) (s1:=s2) (by simp[L,r]) ?_;simp[u,B,G]
def zkZ(c:Ctx (!3) e stk ks w h)(p:∀t∈T,Ir w h ks.length t)(i:∀t∈sd,Ir w h ks.length t)(f:Hy T)(a:Hy sd)(j:sd.length<=6)(m:T.length<=50)(o:Cl e stk ks w h sd T A):
  ∃(E:D) (g:Hg),Rr C [Hs e stk ks w h sd,Hw T] st=some (E,g)/\Gr st g/\∀s:Hg,Hf E (.int 1) s=some (.tup ((Ht e stk ks w h (sd++A)<|w.toNat*h.toNat).map tD),s):=by
 obtain⟨R,d,s1,b,g1,cl⟩:=zmV (C:=C) (st:=st) c p i f a j m;have hf:HN (sd++R)=HN (sd++A):=by rw[<-RA (Jo<|sd++R) (Lk a cl.row),<-RA (Jo<|sd++A) (Lk a o.row),G8 c f a cl o]
 refine⟨_,s1,b,g1,λs=>?_⟩;rw[WL hf];exact Im (!1) rfl
theorem dP:∀ts:List Tl,Ca (ts.map tP) (ts.map tP)=true
 |[]=>rfl
 |t::ts=>by simp only[An,Ca,dC,dP ts,decide_true,GQ]
def vS(ts:List Tl)(s:Hg):IY (Hw ts) (Hw ts) s=some (.bl false,s):=by
 have e:IC 100 s (.tup<|ts.map tD)=some (.tuple<|ts.map tP):=by rw[IC,RK (n:=97) ts];rfl
 rw[ND];unfold IY;rw[e];simp only[Ac,AL,Bv,dP];rfl
section
variable {part sure end_ SS:D}
def uZ{kvs:List (List Key×D)}(a:J5 (.tup [.int x,.int y]) (.ref d) s=some (.bl false,s))(c:dput s d (.tup [.int x,.int y]) (.int k)=some s2):
  Rk C [a0,a1,a2,some bed,some end_,some sure,some SS,some part,some (.ref d),some (.int x),some (.int y),some (.int k)] s=some (.nx [a0,a1,a2,some bed,some end_,some sure,some SS,some part,some (.ref d),some (.int x),some (.int y),some (.int k)],s2):=by
 unfold Rk;refine Hz (U1:=[a0,a1,a2,some bed,some end_,some sure,some SS,some part,some (.ref d),some (.int x),some (.int y),some (.int k)]) (s1:=s) (by simp[a]) ?_;rw[Mo];have b:Hr (mV 11) (Lv Ik (mV 8)<|mU<|Hc (mV 9)<|Hc (mV 10)<|mZ) [a0,a1,a2,some bed,some end_,some sure,some SS,some part,some (.ref d),some (.int x),some (.int y),some (.int k)] s=none:=by simp[Ik]
 rw[b,Ku];unfold LC;simp[c]
def xK{st0:Hg}(h0:st0.length<=d)(j:Js e stk ks w h P L)(E:P.length+L.length<=900)(s:Hg)(hd:s[d]?=some (.dt<|P.map Hi))(o:Gr st0 s):
  ∃(f a c:Option D) (s':Hg),Kf ⟨L.map tD,[]⟩ (JY 3<|gC (Hl 9)<|gC (Hl 10)<|gC (Hl 11)<|JZ) (Rk C) (L.map tD) [a0,a1,a2,some bed,some end_,some sure,some SS,some part,some (.ref d),a9,a10,a11] s=some (.nx [a0,a1,a2,some bed,some end_,some sure,some SS,some part,some (.ref d),f,a,c],s')/\s'[d]?=some (.dt<|(P++L).map Hi)/\Gr st0 s':=by
 have key:=Ky (W:=⟨L.map tD,[]⟩) (g:=JY 3 (gC (Hl 9)<|gC (Hl 10)<|gC (Hl 11)<|JZ)) (m:=Rk C) (ds:=L.map tD) (U:=[a0,a1,a2,some bed,some end_,some sure,some SS,some part,some (.ref d),a9,a10,a11]) (st:=s)
  (Inv:=λi U s=>(∃f a c,U=[a0,a1,a2,some bed,some end_,some sure,some SS,some part,some (.ref d),f,a,c])/\s[d]?=some (.dt<|(P++L.take i).map Hi)/\Gr st0 s)
  ⟨⟨_,_,_,rfl⟩,by simpa using hd,o⟩ (λ_ _ _ _ _=>rfl) (λi F U s b T=>by
   obtain⟨⟨f,a,c,rfl⟩,z,p⟩:=T;rw[Ax]at b;obtain⟨t,A,rfl⟩:=Ie b;have hm:=Q7 j A;have r:(L.take i).length<=L.length:=by rw[Bn];omega
   have l:=OV (x:=t.1) (y:=t.2.1) z;rw[Lm,Be,hm.2.1]at l;have n:=M8 (x:=t.1) (y:=t.2.1) (k:=t.2.2) z (by rw[AD];omega);rw[Oz hm.2.1,Aj]at n;have u:L.take i++[t]=L.take (i+1):=by rw[A7,A];rfl
   have n:dput s d (.tup [.int t.1,.int t.2.1]) (.int t.2.2)=some (s.set d<|.dt<|(P++(L.take i++[t])).map Hi):=n;rw[u]at n;have v:=uZ (C:=C) (kvs:=[]) (bed:=bed) (end_:=end_) (sure:=sure) (SS:=SS) (part:=part) (a0:=a0) (a1:=a1) (a2:=a2) l n;exact⟨_,s,_,_,rfl,v,⟨_,_,_,rfl⟩,by rw[As (qax z)],Lj p h0⟩)
 obtain⟨G,s',B,⟨f,a,c,rfl⟩,q,g⟩:=key;rw[Af,AU]at q;exact⟨f,a,c,s',B,q,g⟩
def mX{q:Nat}{x y:Option D}(c:Nc [bed,.ref d] s=some (.ref q,s1))(a:s1++[.lst []]=s2)(f:IY (.ref q) (.ref s1.length) s2=some (.bl false,s2))(g:b=true->OH [.ref d] s2=some (end_,s3)/\IY end_ end_ s3=some (.bl false,s3))(h0:b=false->s3=s2):
  IX (Mz (mT<|mB IY (Ho Nc<|Hc (mV 3)<|Hc (mV 8)<|mZ)<|mL<|mZ)<|J9 (J3<|mV 5)<|mT<|mB IY (Ho OH<|Hc (mV 8)<|mZ)<|mV 4) (mR<|mK<|.bl false) Jd [a0,a1,a2,some bed,some end_,some (.bl b),some SS,some part,some (.ref d),x,y,z] s=some (.nx [a0,a1,a2,some bed,some end_,some (.bl b),some SS,some part,some (.ref d),x,y,z],s3):=by
 cases b with
 |true=>
  obtain⟨e,h⟩:=g rfl;simp[c,a,f,Ol,Km,e,h]
 |false=>
  have:=h0 rfl;subst this;simp[c,a,f,Ol,Km]
def tH{Tp Te:List Tl}{dd x y:Option D}(c:b=true->∀t∈Tp,t∈Te)(i:Tp.length<=1000):∃s',Gr s s' /\
  IX (J9 (J3<|mV 5)<|MU<|mT<|Ho Lx<|Hc (I0 (Jb<|mV 7) 1 [4] (Hl 0) IU<|TK C)<|mZ) (mR<|mK<|.bl false) Jd [a0,a1,a2,some bed,some (Hw Te),some (.bl b),some SS,some (Hw Tp),dd,x,y,z] s=some (.nx [a0,a1,a2,some bed,some (Hw Te),some (.bl b),some SS,some (Hw Tp),dd,x,y,z],s'):=by
 cases b with
 |false=>
  refine⟨s,Gr.refl _,?_⟩;generalize Hw Te=A;generalize Hw Tp=B;simp[Ol,Km]
 |true=>
  have hw:Jb (mV 7) [a0,a1,a2,some bed,some (Hw Te),some (.bl true),some SS,some (Hw Tp),dd,x,y,z] s=some (⟨Tp.map tD,[]⟩,s):=rfl;obtain⟨s',e,g⟩:=Ce.MH (mi:=Jb (mV 7)) (m:=TK C) (fr:=[4]) (b:=λ_=>true) (as:=Tp.map tD) (gd:=[]) (U0:=[some (Hw Te)]) (U:=[a0,a1,a2,some bed,some (Hw Te),some (.bl true),some SS,some (Hw Tp),dd,x,y,z]) (st:=s) hw (λ_ _=>rfl) rfl (by rw[Af];omega) (λa h s1 _=>by obtain⟨t,l,rfl⟩:=Re.mp h;have d:=Ce.PB (st:=s1) (f:=tD) (p:=tP) dC (x:=t) (as:=Te) (VN (n:=48) t) (λa _=>VN (n:=47) a);simp only[c rfl t l,decide_true]at d;rw[<-ND]at d;refine⟨s1,?_,Gr.refl _⟩;unfold TK;generalize Hw Te=A at *;simp[d])
  rw[show((Tp.map tD).all λ_=>true)=true by simp]at e;refine⟨s',g,?_⟩;generalize Hw Te=A at *;generalize Hw Tp=B at *;rw[Lf,rL];simp only[Ol,Km,Tn,Co,C9,Ac,if_true,VY,ZJ,e,AL];rfl
end
def lQ(c:Ctx (!3) e stk ks w h)(p:∀t∈sd,Ir w h ks.length t)(f:Hy sd)(B:sd.length<=6)(hb:b=true->∀t∈Hk (sd++Ht e stk ks w h sd (w.toNat*h.toNat)),P4 e stk ks w h sd (Hk<|sd++Ht e stk ks w h sd (w.toNat*h.toNat)) t)(hT:∀t∈T,Ir w h ks.length t)(F:Hy T)(hTl:T.length<=24):
  ∃(b7 b8 v g i:Option D) (s':Hg),TM C [a0,a1,a2,some (!3),some (Hw<|Hk<|sd++Ht e stk ks w h sd (w.toNat*h.toNat)),some (.bl b),some (Hw T),a7,a8,a9,a10,a11] s=some (.nx [a0,a1,a2,some (!3),some (Hw<|Hk<|sd++Ht e stk ks w h sd (w.toNat*h.toNat)),some (.bl b),some (Hw T),b7,b8,v,g,i],s')/\Gr s s':=by
 obtain⟨A,s1,e1,g1,cl,hl⟩:=cB (st:=s) c hT p F f B (!0);have M:=Lk f cl.row;have hS:=fG p cl.row;have pl:(Hk<|sd++A).length<=30:=by rw[(Jo _).length_eq,AD];omega
 have N:=Ou (Jo<|sd++A) M;have hf:=RA (Jo<|sd++A) M;obtain⟨d,s2,e2,q,hd,g2⟩:=Qn (ts:=Hk (sd++A)) (st:=s1) (!0);rw[Nz N]at q;obtain⟨E,s3,e3,g3,i1⟩:=zkZ (C:=C) (st:=s2) c hT p F f B (!0) cl;have U:=(g3.old _<|qax q).trans q;have G:Js e stk ks w h (sd++A) (Ht e stk ks w h (sd++A)<|w.toNat*h.toNat):=Rp c.fo _;have H:=V8 (e:=e) (stk:=stk) (ks:=ks) (w:=w) (h:=h) (S:=sd++A) c.fo;have hQ:Js e stk ks w h sd (Ht e stk ks w h sd<|w.toNat*h.toNat):=Rp c.fo _;have I:=V8 (e:=e) (stk:=stk) (ks:=ks) (w:=w) (h:=h) (S:=sd) c.fo;have hLl:=V9 (e:=e) (stk:=stk) (ks:=ks) (w:=w) (h:=h) (S:=sd++A)<|w.toNat*h.toNat;have h60:=Rz c.fo;have P:=Qo (e:=e) (stk:=stk) (ks:=ks) c.fo hS<|w.toNat*h.toNat;have W:=P6 c.fo (O8 (e:=e) (stk:=stk) (ks:=ks) c.fo M<|w.toNat*h.toNat) P;generalize hL:Ht e stk ks w h (sd++A) (w.toNat*h.toNat)=L at *;generalize hQ':Ht e stk ks w h sd (w.toNat*h.toNat)=Q at *;obtain⟨v,g,i,s4,e4,j,g4⟩:=xK (C:=C) (a0:=a0) (a1:=a1) (a2:=a2) (bed:=Hs e stk ks w h sd) (end_:=Hw (Hk<|sd++Q)) (sure:=.bl b) (SS:=Hw T) (part:=Hw (Hk<|sd++A)) (a9:=a9) (a10:=a10) (a11:=a11) (st0:=s1) hd (dG hf.symm G) (!0) s3 U<|g2.trans g3;have X:HN (Hk (sd++A)++L)=HN (sd++A++L):=by funext x y;rw[Qj,Qj,hf]
 have r:JI e stk ks w h (Hk (sd++A)++L)=none:=(eG X).trans H;have Y:∀t∈Hk (sd++A)++L,Ir w h ks.length t:=λt ht=>by
  rcases On.mp ht with ht|ht
  ·exact hS t<|(Jo _).mem_iff.mp ht
  exact P t<|AH _ ht
 obtain⟨s5,e5,u,Z⟩:=Vx c (VM Y) j;have hM:Ic e stk ks (Hk (sd++A)++L) (eF (Hk (sd++A)++L) h w.toNat)=[]:=by
  unfold JI at r;cases hq:Ic e stk ks (Hk (sd++A)++L) (eF (Hk (sd++A)++L) h w.toNat) with
  |nil=>rfl
  |cons a l=>rw[hq]at r;cases r
 rw[hM]at u;have g6:=Gr.app s5 [.lst []];have en:=cF (ts:=[]) ((g6.old _<|qax u).trans u)<|Iq s5<|.lst [];have a6':=(g6.old _<|qax ((Z.old _<|qax j).trans j:s5[d]?=_)).trans<|(Z.old _<|qax j).trans j;have n:(Hk (sd++A)++L).Perm (sd++(A++L)):=by rw[<-Aj];exact(Jo _).append_right L
 have o:=bV cl.row G;have ndP:Hy (Hk (sd++A)++L):=Ou n<|Lk f o;have J:(Hk (sd++A)++L).length<64:=by rw[n.length_eq,<-Aj];omega
 generalize hs6:s5++[O.lst []]=K at *;have fin:∃m,Gr K m/\(b=true->OH [.ref d] K=some (Hw (Hk<|sd++Q),m)/\IY (Hw<|Hk<|sd++Q) (Hw<|Hk<|sd++Q) m=some (.bl false,m))/\(b=false->m=K):=by
  cases b with
  |false=>exact⟨K,Gr.refl _,(λz=>by cases z),λ_=>rfl⟩
  |true=>
   obtain⟨m,e7,g7⟩:=XH a6' ndP J;have es:Hk (Hk (sd++A)++L)=Hk (sd++Q):=by
    rw[Pn n];exact zmf (T:=Hk (sd++Q)) c f hQ (Vy c I) (λt=>(Jo _).mem_iff) (hb rfl) o (λt=>by rw[<-Aj];exact Vy c H t)
   rw[es]at e7;exact⟨m,g7,(λ_=>⟨e7,vS _ _⟩),λz=>by cases z⟩
 obtain⟨m,g7,f1,f2⟩:=fin;have k4:=mX (a0:=a0) (a1:=a1) (a2:=a2) (bed:=Hs e stk ks w h sd) (end_:=Hw (Hk<|sd++Q)) (SS:=Hw T) (part:=Hw (Hk<|sd++A)) (x:=v) (y:=g) (z:=i) e5 hs6 en f1 f2;obtain⟨s8,g8,k5⟩:=tH (C:=C) (b:=b) (Tp:=Hk (sd++A)) (Te:=Hk (sd++Q)) (a0:=a0) (a1:=a1) (a2:=a2) (bed:=Hs e stk ks w h sd) (SS:=Hw T) (dd:=some (.ref d)) (x:=v) (y:=g) (z:=i) (s:=m) (λhbt t ht=>by
  have hin:=Wg (T:=Hk (sd++Q)) c f hQ (Vy c I) (λt=>(Jo _).mem_iff) (hb hbt) cl.row A.length;rw[AU]at hin;rcases On.mp ((Jo _).mem_iff.mp ht)with ht|ht
  ·exact(Jo _).mem_iff.mpr<|AK _ ht
  exact(Jo _).mem_iff.mpr (AH _<|hin t ht)) (!0)
 refine⟨some<|Hw<|Hk<|sd++A,some<|.ref d,v,g,i,s8,?_,(g1.trans g4).trans<|((Z.trans g6).trans g7).trans g8⟩;generalize Hw (Hk<|sd++A)=PP at *;generalize Hw (Hk<|sd++Q)=EE at *;exists 4;generalize Hw T=TT at *;unfold TM;refine Hz (U1:=[a0,a1,a2,some bed,some EE,some (.bl b),some TT,some PP,a8,a9,a10,a11]) (s1:=s1) (by simp[e1]) ?_;refine Hz (U1:=[a0,a1,a2,some bed,some EE,some (.bl b),some TT,some PP,some (.ref d),a9,a10,a11]) (s1:=s2) (by simp[e2]) ?_;refine Hz (U1:=[a0,a1,a2,some bed,some EE,some (.bl b),some TT,some PP,some (.ref d),v,g,i]) (s1:=s4) ?_<|Hz k4 k5;have ew:Jb (mB Hf (Ho (Rr C)<|Hc (mV 3)<|Hc (mV 6)<|mZ)<|mK<|.int 1) [a0,a1,a2,some bed,some EE,some (.bl b),some TT,some PP,some (.ref d),a9,a10,a11] s2=some (⟨L.map tD,[]⟩,s3):=by simp[e3,i1,Lg]
 rw[Kg,ew];exact e4
end
variable {a4 a5:Option D}
def wO{f fl a c:D}(g:RN [.ref n,bed] s=some (a,s1))(i:Hf bed (.int 0) s1=some (f,s1))(j:Hf bed (.int 1) s1=some (fl,s1))(m:OF [.ref n,f,fl,.int 9] s1=some (c,s2)):
  Jb (mL<|Hc (Ho RN<|Hc (mV 2)<|Hc (mV 3)<|mZ)<|Hc (Ho OF<|Hc (mV 2)<|Hc (mB Hf (mV 3)<|mK<|.int 0)<|Hc (mB Hf (mV 3)<|mK<|.int 1)<|Hc (mK<|.int 9)<|mZ)<|mZ) [a0,a1,some (.ref n),some bed,a4,a5,a6,a7,a8,a9,a10,a11] s=some (⟨[a,c],[(s2.length,[a,c])]⟩,s2++[.lst [a,c]]):=by
 have b:=Iq s2<|.lst [a,c];simp[g,i,j,m,Lg,HZ,b]
def xP{ns:List Int}{a3:Option D}(h0:0<=k)(h1:k<=1000):
  ∃(b2 b3 b4 b5 u o p r f j:Option D) (s':Hg),TN C [some (.kl<|ns.map D.int),some (.int k),a2,a3,a4,a5,a6,a7,a8,a9,a10,a11] s=some (.nx [some (.kl<|ns.map D.int),some (.int k),b2,b3,b4,b5,u,o,p,r,f,j],s'):=by
 obtain⟨s1,e1,p1,g1⟩:=tZ (ns:=ns) (k:=k) (st:=s) h0 h1;generalize hn:s.length=n at *;obtain⟨e,stk,ks,w,h,sd,s2,e2,I,hf,d,⟨l,J,K⟩,y,p2,f2⟩:=rO p1 (!0);have L:Hy sd:=by rw[J];exact Ou (Jo l) K
 have c:Ctx (!3) e stk ks w h:=ZC I hf;have w0:=hf.w0;have w1:=hf.w1;have w2:=hf.h1;have w3:=hf.h0;have k2:=I.hi;have k1:=I.lo;obtain⟨s3,e3,g3⟩:=zF (st:=s2) c d L y;have x:=Qo (e:=e) (stk:=stk) (ks:=ks) c.fo d<|w.toNat*h.toNat;have z:=P6 c.fo (O8 (e:=e) (stk:=stk) (ks:=ks) c.fo L<|w.toNat*h.toNat) x;obtain⟨b,s4,e4,g4,hb⟩:=zld (T:=Hk (sd++Ht e stk ks w h sd (w.toNat*h.toNat))) (st:=s3) c L d y (Uv x) (by rw[(Jo _).length_eq];exact z);have p4:=(p2.gr g3).gr g4;obtain⟨P,s5,e5,M,Kz,lP,p5,f5⟩:=zZ c p4 (!0) d L y (!0);obtain⟨A,N,e6,v,⟨l',Q,B⟩,lt,p6,f6⟩:=gS (most:=9) (a:=.int e) (b:=.tup (stk.map Ki)) (ks:=ks.map IE) (w:=w) (h:=h) p5 (!0) (!0) (!0) (!0) (by rw[Af];omega) (by rw[Af];omega) (!0) (!0) (!0);rw[Af]at v;have S:Hy A:=by rw[Q];exact Ou (Jo l') B
 have i0:∀s:Hg,Hf (!3) (.int 0) s=some (LN e stk ks,s):=λs=>Im (!1) rfl;have i1:∀s:Hg,Hf (!3) (.int 1) s=some (.tup [.int w,.int h],s):=λs=>Im (!1) rfl;have hw:=wO (a0:=some (.kl<|ns.map D.int)) (a1:=some (.int k)) (a4:=some (Hw<|Hk<|sd++Ht e stk ks w h sd (w.toNat*h.toNat))) (a5:=some (.bl b)) (a6:=a6) (a7:=a7) (a8:=a8) (a9:=a9) (a10:=a10) (a11:=a11) e5 (i0 _) (i1 _) e6;have X:[Hw (Hk P),Hw A]=[Hk P,A].map Hw:=rfl;rw[X]at hw;have E:=Iq N<|.lst<|[Hk P,A].map Hw;have all:∀T∈[Hk P,A],(∀t∈T,Ir w h ks.length t)/\Hy T/\T.length<=24:=λT G=>by
  simp only[A4,Bd,or_false]at G;rcases G with rfl|rfl
  ·exact⟨Uv Kz,Ou (Jo P) M,by rw[(Jo P).length_eq];exact lP⟩
  exact⟨v,S,by omega⟩
 generalize [Hk P,A]=Ts at *;generalize hs7:N++[O.lst (Ts.map Hw)]=s7 at *;have key:=Ky (W:=⟨Ts.map Hw,[(N.length,Ts.map Hw)]⟩) (g:=Hl 6) (m:=TM C) (ds:=Ts.map Hw) (U:=[some (.kl<|ns.map D.int),some (.int k),some (.ref n),some (!3),some (Hw<|Hk<|sd++Ht e stk ks w h sd (w.toNat*h.toNat)),some (.bl b),a6,a7,a8,a9,a10,a11]) (st:=s7)
  (Inv:=λi U q=>(∃u o p r f j,U=[some (.kl<|ns.map D.int),some (.int k),some (.ref n),some (!3),some (Hw<|Hk<|sd++Ht e stk ks w h sd (w.toNat*h.toNat)),some (.bl b),u,o,p,r,f,j])/\Gr s7 q)
  ⟨⟨_,_,_,_,_,_,rfl⟩,Gr.refl _⟩ (λi U q _ Y=>OE ((Y.2.old _<|qax E).trans E)) (λi dd U q F Y=>by obtain⟨⟨u,o,p,r,f,j,rfl⟩,gq⟩:=Y;rw[Ax]at F;obtain⟨T,G,rfl⟩:=Ie F;obtain⟨Z,ndT,lT⟩:=all T (AG G);obtain⟨c7,c8,c9,c10,c11,s',e',g'⟩:=lQ (C:=C) (a0:=some (.kl<|ns.map D.int)) (a1:=some (.int k)) (a2:=some (.ref n)) (a7:=o) (a8:=p) (a9:=r) (a10:=f) (a11:=j) (s:=q) c d L y hb Z ndT lT;exact⟨_,q,_,s',rfl,e',⟨_,_,_,_,_,_,rfl⟩,gq.trans g'⟩)
 obtain⟨U',s8,el,⟨u,o,p,r,f,j,rfl⟩,g8⟩:=key;generalize Hw (Hk<|sd++Ht e stk ks w h sd (w.toNat*h.toNat))=EE at *;refine⟨some<|.ref n,some<|Hs e stk ks w h sd,some EE,some<|.bl b,u,o,p,r,f,j,s8,?_⟩;exists 4;generalize ns.map D.int=H at *;unfold TN;refine Hz (U1:=[some (.kl H),some (.int k),some (.ref n),a3,a4,a5,a6,a7,a8,a9,a10,a11]) (s1:=s1) (by simp[e1]) ?_;refine Hz (U1:=[some (.kl H),some (.int k),some (.ref n),some bed,a4,a5,a6,a7,a8,a9,a10,a11]) (s1:=s2) (by simp[e2]) ?_;refine Hz (U1:=[some (.kl H),some (.int k),some (.ref n),some bed,some EE,a5,a6,a7,a8,a9,a10,a11]) (s1:=s3) (by simp[e3]) ?_;refine Hz (U1:=[some (.kl H),some (.int k),some (.ref n),some bed,some EE,some (.bl b),a6,a7,a8,a9,a10,a11]) (s1:=s4) (by simp[e4]) ?_;rw[Kg,hw];exact el
def wN(ns:List Int)(o:ns.length<=63):∃st,Vj C [.kl (ns.map D.int)] []=some (.bl true,st):=by
 obtain⟨M,w,x⟩:∃M:Nat,(1+(if(ns.length:Int)<3 then(ns.length:Int)else 3))=(M:Int)/\M<=4:=by
  by_cases h:(ns.length:Int)<3
  ·exact⟨1+ns.length,by rw[if_pos h];omega,by omega⟩
  exact⟨4,by rw[if_neg h];rfl,by omega⟩
 have key:=Ky (W:=⟨run 0 M,[]⟩) (g:=Hl 1) (m:=TN C) (ds:=run 0 M) (U:=[some (.kl<|ns.map D.int),none,none,none,none,none,none,none,none,none,none,none]) (st:=[])
  (Inv:=λi U s=>∃a b c d e f g h i j k,U=[some (.kl<|ns.map D.int),a,b,c,d,e,f,g,h,i,j,k]) ⟨_,_,_,_,_,_,_,_,_,_,_,rfl⟩ (λ_ _ _ _ _=>rfl) (λi p U s hd y=>by obtain⟨a1,a2,l,a4,a5,a6,a7,a8,a9,a10,a11,rfl⟩:=y;obtain⟨q,rfl⟩:=LO hd;obtain⟨r,u,v,B,E,F,G,H,z,A,L,e⟩:=xP (C:=C) (ns:=ns) (k:=(i:Int)) (a2:=a2) (a3:=l) (a4:=a4) (a5:=a5) (a6:=a6) (a7:=a7) (a8:=a8) (a9:=a9) (a10:=a10) (a11:=a11) (s:=s) (!0) (!0);exact⟨[some (.kl<|ns.map D.int),some (.int (i:Int)),a2,l,a4,a5,a6,a7,a8,a9,a10,a11],s,_,L,rfl,e,_,_,_,_,_,_,_,_,_,_,_,rfl⟩)
 obtain⟨I,s2,P,a1,a2,l,a4,a5,a6,a7,a8,a9,a10,a11,rfl⟩:=key;refine⟨s2,IH ?_⟩;unfold Zs;have n:HM [.kl (ns.map D.int)] []=some (.int (ns.length:Int),[]):=by rw[VG,Af]
 have T:IW (mB HF (mK<|.int 1)<|Ho QS<|Hc (mK<|.int 3)<|Hc (Ho HM<|Hc (mV 0)<|mZ)<|mZ) [some (.kl<|ns.map D.int),none,none,none,none,none,none,none,none,none,none,none] []=some (⟨run 0 M,[]⟩,[]):=by refine P1 (s1:=[]) (k:=M) w ?_ (!0);generalize ns.map D.int=J at *;generalize (ns.length:Int)=K at *;simp[n,QS]
 refine Hz (U1:=[some (.kl<|ns.map D.int),a1,a2,l,a4,a5,a6,a7,a8,a9,a10,a11]) (s1:=s2) (by
  show mF _ _ _ [some (.kl<|ns.map D.int),none,none,none,none,none,none,none,none,none,none,none] []=_;rw[Kg,T];exact P) ?_
 simp
end L2.MP.T0
namespace L2.MP.T0
open PySem L2 L2.MP PySem.Spec PyProof.Rows PySem.W
def vw:SZ:=view PySem.Challenge.pw_stickytiles_k42_spoilt_grows_on [0,2,3,4,6,7,8,9,10,11,12,14,16,17,19,20,21,23,24,25,26,27,28,29,30,31,32,33,34,35,36,37,38,39,40,41,42]
noncomputable abbrev hk:=Hx.OJ fns iR cos "Grow" Ni iM
def vG:LeftO PySem.Challenge.pw_stickytiles_k42_spoilt_grows_on vw [] (λs=>xlAt vw [] s&&recOk [] s) hk.obs hk.val 20000:=by
 intro w
 kernel_rfl
end L2.MP.T0
open PySem PySem.W PyProof.Rows L2 L2.MP L2.MP.T0 in
set_option maxRecDepth 100000 in
set_option maxHeartbeats 0 in
theorem PySem.Challenge.cw_stickytiles_k42_spoilt_grows_on_holds : PySem.Challenge.rw_stickytiles_k42_spoilt_grows_on.Holds := by
 refine holds_law (by decide +kernel) λb=>?_;refine holds_open (q:=vw) (loose:=[]) (XP:=XL vw []) (YP:=hk.says) vG hk.of hk.keeps (λs e=>xl_of s (Bool.and_eq_true_iff.mp e).1) XL.keeps (by rfl) (by rfl) (by rfl) (λs e=>recFacts_of (Bool.and_eq_true_iff.mp e).2) (by rfl) b (by decide +kernel) ⟨rfl,rfl,rfl,rfl,rfl,by decide +kernel⟩ ?hw ?hc
 case hw=>w_witness2
 case hc=>
  refine Hx.LU (l:=PySem.Challenge.rw_stickytiles_k42_spoilt_grows_on) (n:=63) (k:=9) (x:="_law_script") (CX:=KG) (sp:=λK C=>Mw K 1 (Vj C)) rfl (!1) rfl ⟨rfl,by decide,by decide,rfl⟩ (λK C w m o h A B X G e=>?_) (λK C H a ns d g j=>(wN (C:=C) ns d).elim λ_ e=>wY g j e) λ_ _ _ _ z=>z;obtain⟨f,⟨p,r,kV,u,pm,an,cd,y,E,l,c⟩,n,k⟩:=A.fn ("law",top 42) (AG (i:=35) rfl)
  cases e.symm.trans (mg_of X G n);exact⟨_,λs v=>.of_eq rfl,λbase _ _=>nA (En.of A X G) (EC.of B X G) (O5 (st:=top 42) l c k)⟩