import PyProof.Rows.All
import Wide.All
import OpenK.AllK
import Wide.FinOn
import Lean
import PyProof.EqAt
import PyProof.EqKinds
import PyProof.TupleCall
import KE.KRevSl
import PyProof.AttrMissHeap
import KE.KDictOf
import PyProof.StrWalks
import PyProof.ListStr
import PyProof.EnumMake
import PyProof.Rows.Range3
import PyProof.Rows.StrIndexOr
import KE.KRevIter
import PyProof.SumWalk
import PyProof.ReprRoads
import PyProof.DictWalks
import PyProof.FitsBits
import PyProof.CallStr
import PyProof.Rows.FStr
import PyProof.Rows.StrNews
import KE.KIntText
import PyProof.Rows.MinMaxN
import PyProof.StrCalls
import KE.KDictList
import PyProof.RulesTry
import PyProof.Rows.RuleIs
import KE.KDictSum
import PyProof.DictTruth
import PyProof.MinMaxWalk
import PyProof.StrLawsIn
import PyProof.Rows.StrLawsPart
import PyProof.StrLawsChain
import PyProof.Rows.StrIntSpec
import PyProof.StrLawsTight
import PyProof.Rows.ReprOcc
import PySem.Challenge.RW_stickytiles_k09_houses_and_beds_at_their
set_option maxHeartbeats 8000000
set_option maxRecDepth 100000
open PySem renaming wpAny_bind→Aa,wpAny_pure→Ad,mem_of_lookup→AH,wpAny_holding→AR,wpAny_field→AV,wpAny_newObj_type→AX,wpAny_callSpecial?_slot→A2,wpAny_call_entry→A3,wpAny_mono→A9,wpAny_truthy_bool→Bi,wpAny_seqItems→Bo,wpAny_setField_rec→Bt,wpAny_getItem_str_slice→BC,wpAny_typeOf→BP,wpAny_newList→BX,wpAny_passesOwn→B1,post_val_or_str→B2,wpAny_pyNext_list_item→Cj,plainId_quiet→Co,wpAny_pyNext_list_end→Cu,pushCells_keeps→Cz,wpAny_rule→CC,wpAny_updateSeq_pair→CD,codeAny_builtin→CF,wpAny_newTuple→CL,wpAny_Call_Name_kw→CM,tupleKind_room_in1→CN,wpAny_onRaise→CT,wpAny_pyIter_list→CW,wpAny_sequenceKey→CY,wpAny_pyNext_tuple_item→Di,wpAny_execs_nil→Dm,wpAny_pyNext_tuple_end→Dw,builtinLookup_eq_fast→DM,wpAny_notOrdered_dict→DN,call_meets→DQ,wpAny_standAt→DV,evalPart_none→DX,wpAny_dictSet_pairs→D5,codeAny_mono→Ea,seqIndex_neg→Eg,sub_AttributeError→En,wpAny_assign_Name→Eo,sizeLine_eq→Ex,seqIndex_of→Ey,wpAny_letGo→EA,wpAny_Name→EJ,typeIs_str→EK,call→EL
open PySem.W renaming Frag→Ab,mg_none_of→AF,nsIn→AQ,fnOf→Bq,keepIn→By,codeIn→Ce,mg_of→CU,methodObj→CV,OpenLaw→Dp,cellsFrom_some→Dx,KitAt→DY,kitx_list→Es,kitx_dict→Et,kat_kind→EE,kas_ask→ES,kitOne→Fd,WalkO→Fi
open PySem.Heap renaming get?_push_of_some→Ac,lt_size→Aj,get?_push_size→Ap,size_push→Bm,SameBut→BK,size_update→Cs,get?_update_other→DA,get?_update_self→DE,get?_push_ne→Ew,ExtBut→Ez
open Option renaming bind_some→Ae,map_some→Au,isNone_none→CQ,getD_some→Da,isSome_some→Eb,isSome_map→Ep,getD_none→EC,bind→Fv
open Nat renaming le_refl→Af,lt_of_lt_of_le→As,ne_of_lt→Aw,le_trans→AB,lt_irrefl→AM,zero_le→A7,le_of_succ_le→Bw,le_add_right→Bz,le_of_lt→BI,lt_trans→BN,le_succ→BZ,ne_of_gt→B6,lt_of_le_of_lt→B8,succ_le_succ→Cp,sub_self→Cy,add_le_add_left→CI,lt_succ_of_lt→C2,le_of_eq→Eh,min_le_right→EB,min_le_left→EN,not_lt_zero→ER,mod_lt→E4,mul_le_mul→Fe
open List renaming length_map→Ag,getElem?_eq_getElem→Ah,mem_cons_of_mem→Ak,getElem?_append_left→Al,size_toArray→Am,mem_cons_self→An,append_nil→Ao,append_assoc→Aq,getD_eq_getElem?_getD→Av,map_cons→Az,length_cons→AD,getElem?_append_right→AE,range→AJ,getElem?_set_ne→AK,getElem?_map→AL,length_append→AN,mem_append_right→AO,find?_cons→AZ,lookup_cons→A0,not_mem_nil→A1,mem_cons→A8,replicate→Ba,length_nil→Bf,length_take→Bl,toArray→Bs,mem_append_left→Bx,filterMap_cons→BA,getElem?_replicate→BB,getElem?_set_self→BF,eq_nil_of_length_eq_zero→BG,length_replicate→BL,map_nil→BM,mem_of_getElem?→BR,any_cons→BU,forIn_nil→Cf,getElem?_cons_zero→Cg,reverse_cons→Ci,all_eq_true→Cq,getElem_mem→Cr,length_singleton→Cv,of_mem_zip→Cw,map_map→CG,getElem?_range→CJ,getElem?_drop→CP,getElem?_set→C0,length_range→C1,drop_eq_getElem_cons→C4,getElem?_zip_eq_some→C6,length_drop→C9,map_reverse→Dh,pairwise_mergeSort→Dl,length_set→Do,forIn_cons→Dq,drop_eq_nil_of_le→DB,getElem?_toArray→DF,countP_mono_left→DG,mem_of_mem_drop→DU,getElem_of_mem→D0,mergeSort_perm→D2,length_reverse→D6,map_congr_left→D7,zip_cons_cons→Ed,filterMap_map→Ee,nodup_append→Er,countP_cons→ED,getElem_map→EF,zipIdx_cons→EG,take_length→EH,nodup_cons→EM,zipIdx_nil→EW,length_zip→EX,nil_append→EY,range_succ→E3,map_append→Fb,drop_zero→Fc,all_cons→Fj,map_drop→Fn,map_take→Fp,all_nil→Fs
open Option.some renaming inj→Ai
open Bool renaming and_eq_true→Ar,false_ne_true→Bd,false_eq_true→Be,not_eq_true'→Bj,true_and→BY,or_eq_true→Dr,false_and→DD,and_true→Fk,not_true→Fo
open Or renaming inr→Ax,inl→Ay
open PySem.NameKind renaming free→AA,cell→AI
open PySem.Builtin.SmallTypes renaming nextOf→AG,ownedTupleIsFree→Bb,ownedTupleHandOut→Cb
open PySem.Builtin.Slice renaming slicePlaces→AS,sliceAdjust→A5,sliceApplied→Bu,sliceFields→C3
open PySem.Obj renaming mapSeq→AU,data_mapFields→Em
open PySem.Builtin.Tuple renaming tupleExact→AW,tupleItemsOf→BV
open PyProof.Rows renaming slot_tuple_getitem→AY,callWith_type1→BQ,listUpdate_at→BW,slot_tupleiter_next→B0,seqEpoch_at→Cn,wpS_bind→Ct,entry_tuple_getitem→CH,args_tuple_getitem→CO,get?_update_seq→Dt,list_sort_plain→Du,entry_list_sort→Dv,subscriptTail_builtinR→Dz,slot_list_sort→DJ,args_list_sort→DK,Subscript_→DP,entry_tupleiter_next→DS,wpS_pure→DT,tupleItemsOf_→DW,sortedAll_old→DZ,args_tupleiter_next→D3,ltCps_eq→D8,sortedAll_at→Ei,listItems_at→Ej,args_sorted1→Ek,lt_int→EI,size_push'→EV
open Array renaming length_toList→A4,getD_eq_getD_getElem?→Br,getElem?_toList→DI,toList→Fq
open PySem.Value renaming ref→A6,none→Bp,bool→Cd,int→D9,str→Ff,isStrOf→Fh,builtin→Fm,isInt→Ft
open PySem.Builtin.Str renaming occurrences→Bc
open PySem.PyData renaming strOk→Bg,canLay0→Bn,canLayAll0→BH,depth→B9,eqv→C5,depthAll→Ds
open PySem.Paired renaming length→Bk,snoc→Fu
open Int renaming toNat_natCast→Bv,emod_nonneg→B4,le_of_lt→Ca,emod_lt_of_pos→Cc,le_refl→Cm,le_trans→CB,le_antisymm→EO
open PySem.Builtin.Dict renaming updateFrom→BD,addKeywords→De,selfAndRest→Df,pairItems→DC
open Array.Perm renaming refl→BE
open Ne renaming symm→BJ
open PySem.Str renaming ofString→BO
open PySem.Around renaming under_plainId→BS
open PySem.Calls renaming call_function_entry→B3,Name_function_global→CS
open PySem.PassesOwn renaming never→B5
open PySem.Builtin.List renaming listTooLong→B7
open Prod.mk renaming inj→Ck
open ForInStep renaming yield→CA
open Sum renaming inr→CK,inl→C7
open List.Pairwise renaming nil→CZ
open PySem.F renaming args_tuple_add_2→C8,entry_tuple_add→Dj,plainAttrs_list→Dk,slot_tuple_add→Dy
open PySem.Txt renaming slice_le→Dc,slice→Fg
open Nat.succ renaming inj→Dg
open PySem.W.Looks renaming of_pure→DH
open PySem.Heap.IsList renaming «at»→DL
open True renaming intro→DO
open PySem.W.KasFin renaming intro→DR
open PySem.Builtin.Int renaming intBits→D1
open PySem.Heap.SameBut renaming update→D4
open PySem.SeqAt.EqAt renaming int_int→Ec
open PySem.Heap.IsSliceOf renaming new→Ef
open PySem.Heap.IsListIter renaming «at»→El
open PySem.W.UpdF renaming head→Eu
open PyProof.Rows.SortSt renaming mk'→ET
open StateT renaming run_pure→EU
open PySem.Heap.DictOf renaming new→EZ
open PySem.W.KatTups renaming cons→Fw,nil→Fx
set_option Elab.async false
set_option linter.all false
namespace L2
open PySem PySem.Spec PyProof.Rows
noncomputable abbrev Key:=Sum Int Str
noncomputable def zkM:Key->Value->Bool
 | .inl k,v=>Ft k v
 | .inr x,v=>Fh x v
noncomputable def keyH(w:World):Key->Int
 | .inl k=>hashInt k
 | .inr x=>hashStr w x
theorem zaT:∀ {k:Key} {v:Value},zkM k v=true->(∃ i t,k=C7 i/\v=D9 i t)\/(∃ x t,k=CK x/\v=Ff x t)
 | .inl i,v,h=>by
   obtain⟨t,e⟩:=Value.isInt_shape (k:=i) (v:=v) h;exact .inl ⟨i,t,rfl,e⟩
 | .inr x,v,h=>by
   obtain⟨t,e⟩:=Value.isStrOf_shape (x:=x) (v:=v) h;exact .inr ⟨x,t,rfl,e⟩
theorem ziq(i:Int)(t:Tok):zkM (.inl i) (.int i t)=true:=by simp[zkM,Ft]
theorem zio(x:Str)(t:Tok):zkM (.inr x) (.str x t)=true:=by simp[zkM,Fh]
theorem zns(a b:Int):decide ((C7 a:Key)=C7 b)=(a==b):=by
 by_cases e:a=b
 . subst e;simp
 . have h:¬ (C7 a:Key)=C7 b:=fun q=>e (Sum.inl.inj q);rw[decide_eq_false h];exact (beq_eq_false_iff_ne.mpr e).symm
theorem znp(a b:Str):decide ((CK a:Key)=CK b)=decide (a=b):=by
 by_cases e:a=b
 . subst e;simp
 . have h:¬ (CK a:Key)=CK b:=fun q=>e (Sum.inr.inj q);rw[decide_eq_false h,decide_eq_false e]
theorem znr(a:Int)(b:Str):decide ((C7 a:Key)=CK b)=false:=decide_eq_false (fun q=>nomatch q)
theorem znq(a:Str)(b:Int):decide ((CK a:Key)=C7 b)=false:=decide_eq_false (fun q=>nomatch q)
noncomputable def zaL(prog:Program)(w:World):PySem.KeyKind prog w Key where
 is:=zkM
 hash:=keyH w
 inj:=fun v a b ha hb=>by
   rcases zaT ha with ⟨i,t,rfl,rfl⟩ | ⟨x,t,rfl,rfl⟩
   . rcases zaT hb with ⟨j,u,rfl,e⟩ | ⟨y,u,rfl,e⟩
     . injection e with e1 _;rw[e1]
     . exact nomatch e
   . rcases zaT hb with ⟨j,u,rfl,e⟩ | ⟨y,u,rfl,e⟩
     . exact nomatch e
     . injection e with e1 _;rw[e1]
 byValue:=fun k v h=>by
   rcases zaT h with ⟨i,t,rfl,rfl⟩ | ⟨x,t,rfl,rfl⟩ <;> rfl
 pyHash:=fun hv h=>by
   rcases zaT hv with ⟨i,t,rfl,rfl⟩ | ⟨x,t,rfl,rfl⟩
   . exact wpAny_pyHash_int h
   . exact wpAny_pyHash_str h
 eqBool:=fun hu hv h=>by
   rcases zaT hu with ⟨i,t,rfl,rfl⟩ | ⟨x,t,rfl,rfl⟩
   . rcases zaT hv with ⟨j,u,rfl,rfl⟩ | ⟨y,u,rfl,rfl⟩
     . rw[zns] at h;exact wpAny_eqBool_int h
     . rw[znr] at h;exact SeqAt.EqAt.int_str i t y u _ _ _ _ h
   . rcases zaT hv with ⟨j,u,rfl,rfl⟩ | ⟨y,u,rfl,rfl⟩
     . rw[znq] at h;exact SeqAt.EqAt.str_int x t j u _ _ _ _ h
     . rw[znp] at h;exact wpAny_eqBool_str h
 «strs»:=fun k x t v h=>by
   rcases zaT h with ⟨i,u,rfl,e⟩ | ⟨y,u,rfl,e⟩
   . exact nomatch e
   . injection e with e1 _
     subst e1
     cases v <;> rfl
theorem zf6(prog:Program)(w:World)(i:Int)(t:Tok):(zaL prog w).is (.inl i) (.int i t)=true:=ziq i t
theorem zf5(prog:Program)(w:World)(x:Str)(t:Tok):(zaL prog w).is (.inr x) (.str x t)=true:=zio x t
inductive V where
 | non | bl (b:Bool) | int (i:Int) | str (x:Str) | byt (b:Array UInt8) | flt (b:UInt64) | ref (a:Addr) | ty (n:String)
 deriving DecidableEq
noncomputable def RelV:V->Value->Prop
 | .non,u=>u=Bp
 | .bl b,u=>u=Cd b
 | .int i,u=>∃ t,u=D9 i t
 | .str x,u=>∃ t,u=Ff x t
 | .byt b,u=>∃ t,u=Value.bytes b t
 | .flt b,u=>∃ t,u=Value.float b t
 | .ref a,u=>u=A6 a
 | .ty n,u=>u=Value.type n
noncomputable abbrev Vals:List V->List Value->Prop:=Paired RelV
theorem Vals.length{xs:List V}{us:List Value}(r:Vals xs us):xs.length=us.length:=Bk r
theorem Vals.get:∀ {xs:List V} {us:List Value} {i:Nat} {x:V},Vals xs us->xs[i]?=some x->∃ u,us[i]?=some u/\RelV x u
 | _,_,_,_,.nil,e=>by simp at e
 | _,_,0,_,.cons r _,e=>by simp at e;subst e;exact⟨_,rfl,r⟩
 | _,_,i+1,x,.cons _ t,e=>by
   obtain⟨u,h1,h2⟩:=Vals.get (i:=i) (x:=x) t (by simpa using e);exact⟨u,by simpa using h1,h2⟩
theorem Vals.set{x:V}{u:Value}(r:RelV x u):∀ {xs:List V} {us:List Value} (i:Nat),Vals xs us->Vals (xs.set i x) (us.set i u)
 | _,_,_,.nil=>.nil
 | _,_,0,.cons _ t=>.cons r t
 | _,_,i+1,.cons q t=>.cons q (Vals.set r i t)
theorem Vals.append:∀ {xs ys:List V} {us ws:List Value},Vals xs us->Vals ys ws->Vals (xs++ys) (us++ws)
 | _,_,_,_,.nil,s=>s
 | _,_,_,_,.cons r t,s=>.cons r (Vals.append t s)
theorem Vals.take:∀ {xs:List V} {us:List Value} (n:Nat),Vals xs us->Vals (xs.take n) (us.take n)
 | _,_,0,_=>.nil
 | _,_,_+1,.nil=>.nil
 | _,_,n+1,.cons r t=>.cons r (Vals.take n t)
theorem Vals.drop:∀ {xs:List V} {us:List Value} (n:Nat),Vals xs us->Vals (xs.drop n) (us.drop n)
 | _,_,0,r=>r
 | _,_,_+1,.nil=>.nil
 | _,_,n+1,.cons _ t=>Vals.drop n t
noncomputable def RelO:Option V->Option Value->Prop
 | some v,some u=>RelV v u
 | none,none=>True
 | _,_=>False
noncomputable def KV{κ:Type}:List (κ×V)->List (κ×Value)->Prop:=Paired fun (p:κ×V) (q:κ×Value)=>p.1=q.1/\RelV p.2 q.2
noncomputable def kV:Key->V
 | .inl i=>.int i
 | .inr x=>.str x
inductive HO where
  | lst (xs:List V)
  | tup (xs:List V)
  | dK (kvs:List (Key×V)) | dT (kvs:List (List Key×V))
  | set (S:Int->Bool) (n:Nat)
  | ins (C dx:Addr) (fs:List (Str×V))
  | own (x:Addr)
  | xd (fs:List (Str×V))
  | met (f x:Addr)
  | rng (lo hi:Int)
  | frz (o:Obj) (u:HO)
  | tbl (ps:Array Value)
  | ext (φ:Heap->Prop)
noncomputable abbrev Hp:=Addr->Option HO
noncomputable def upd(H:Hp)(a:Addr)(o:HO):Hp:=fun b=>if b=a then some o else H b
theorem zbt{H:Hp}{a:Addr}{o:HO}:upd H a o a=some o:=by unfold upd;rw[if_pos rfl]
theorem zaJ{H:Hp}{a b:Addr}{o:HO}(h:b≠a):upd H a o b=H b:=by unfold upd;rw[if_neg h]
theorem znl{H:Hp}{a b:Addr}{o u:HO}(h:H a=some o)(h':H b=some u)(d:o≠u):a≠b:=by
 intro e;subst e;rw[h] at h';exact d (Ai h')
theorem zan{H:Hp}{a b:Addr}{o:HO}(h:H a=some o)(h':H b=none):a≠b:=by
 intro e;subst e;rw[h] at h';cases h'
def zb6(h:Heap)(a:Addr)(items:Array Value):Prop:=∃ o,h.get? a=some o/\o.cls=.type "tuple"/\o.dict=none/\∃ n,o.data=.seq items n
theorem zb6.t{h:Heap}{a:Addr}{items:Array Value}(x:zb6 h a items):IsTup h a items:=let ⟨o,ho,hc,_,r⟩:=x;⟨o,ho,hc,r⟩
theorem zb6.keeps{h h':Heap}{a:Addr}{items:Array Value}(x:zb6 h a items)(hk:∀ b o,h.get? b=some o->h'.get? b=some o):zb6 h' a items:=let ⟨o,ho,r⟩:=x;⟨o,hk a o ho,r⟩
theorem zb6.new(h:Heap)(items:Array Value):zb6 (h.push { cls:=.type "tuple",data:=.seq items }) h.objs.size items:=⟨_,Ap _ rfl,rfl,rfl,0,rfl⟩
section
variable (P:Program) (w:World)
noncomputable def zdn(H:Hp)(h:Heap)(a:Addr):HO->Prop
 | .lst xs=>xs.length<=sizeLine/\∃ (its:List Value) (n:Nat),Vals xs its/\h.get? a=some { cls:=.type "list",data:=.seq its.toArray n }
 | .tup xs=>xs.length<=sizeLine/\∃ its:List Value,Vals xs its/\zb6 h a its.toArray
 | .dK kvs=>kvs.length<=sizeLine/\(a==sysModules)=false/\∃ vs,KV kvs vs/\h.DictOf (zaL P w) a vs
 | .dT kvs=>kvs.length<=sizeLine/\(a==sysModules)=false/\∃ xs:List (List Key×Addr×Value),
     Paired (fun (p:List Key×V) (q:List Key×Addr×Value)=>p.1=q.1/\H q.2.1=some (.tup (p.1.map kV))/\RelV p.2 q.2.2) kvs xs /\
     ∃ o es ep,h.get? a=some o/\o.ExactDict/\o.data=.dict es ep/\es.toList=xs.map (entryOfKey (tupleKind (zaL P w)))/\(xs.map (·.1)).Nodup
 | .set S n=>h.SetOf (intKind P w) a S n
 | .ins C dx fs=>H dx=some (.own a)/\fs.length<=1000/\dx≠a/\h.get? a=some (PySem.W.instObj C dx) /\
     ∃ mA,h.Ns1 dx mA/\(∀ f,RelO (fs.lookup f) (mA f))/\PySem.Within mA (fs.map (·.1))
 | .own _=>∃ o,h.get? a=some o
 | .xd fs=>∃ mA,h.Ns1 a mA/\∀ f,RelO (fs.lookup f) (mA f)
 | .rng lo hi=>∃ t u v,h.get? a=some { cls:=.type "range",data:=.fields #[.int lo t,.int hi u,.int 1 v] }
 | .frz o u=>h.get? a=some o/\zdn H h a u
 | .tbl ps=>h.get? a=some { cls:=.none,data:=.fields ps }
 | .met f x=>h.get? a=some (CV (.ref f) (.ref x))
 | .ext φ=>φ h/\(∃ o,h.get? a=some o)/\∀ h1 h2:Heap,φ h1->(∀ o,h1.get? a=some o->h2.get? a=some o)->φ h2
def HOk(H:Hp)(h:Heap):Prop:=∀ a o,H a=some o->zdn P w H h a o
end
section
variable {P:Program} {w:World} {H H':Hp} {h h':Heap} {a:Addr} {o:HO}
theorem zdn.lt(x:zdn P w H h a o):a < h.objs.size:=by
 cases o with
 | lst xs=>obtain⟨_,_,_,_,e⟩:=x;exact Aj e
 | tup xs=>obtain⟨_,_,_,p⟩:=x;exact p.t.lt
 | dK kvs=>obtain⟨_,_,_,_,o,_,_,e,_⟩:=x;exact Aj e
 | dT kvs=>obtain⟨_,_,_,_,o,_,_,e,_⟩:=x;exact Aj e
 | set S n=>obtain⟨o,_,_,_,e,_⟩:=x;exact Aj e
 | ins C dx fs=>obtain⟨_,_,_,e,_⟩:=x;exact Aj e
 | own y=>obtain⟨_,e⟩:=x;exact Aj e
 | xd fs=>obtain⟨_,⟨_,_,_,e,_⟩,_⟩:=x;exact Aj e
 | rng lo hi=>obtain⟨_,_,_,e⟩:=x;exact Aj e
 | frz ob u=>obtain⟨e,_⟩:=x;exact Aj e
 | tbl ps=>exact Aj (show h.get? a=some _ from x)
 | met f y=>exact Aj (show h.get? a=some _ from x)
 | ext φ=>obtain⟨_,⟨_,e⟩,_⟩:=x;exact Aj e
theorem Paired.mapP{α β:Type}{F G:α->β->Prop}:∀ {l₁:List α} {l₂:List β},Paired F l₁ l₂->(∀ a b,F a b->G a b)->Paired G l₁ l₂
 | _,_,.nil,_=>.nil
 | _,_,.cons r t,f=>.cons (f _ _ r) (Paired.mapP t f)
theorem zdn.stay(x:zdn P w H h a o)(k:∀ b u,(b=a\/H b=some (.own a))->h.get? b=some u->h'.get? b=some u)
   (ho:∀ b,H b=some (.own a)->H' b=some (.own a)) (ht:∀ b xs,H b=some (.tup xs)->H' b=some (.tup xs)):zdn P w H' h' a o:=by
 induction o with
 | lst xs=>obtain⟨z,its,n,r,e⟩:=x;exact⟨z,its,n,r,k _ _ (.inl rfl) e⟩
 | tup xs=>obtain⟨z,its,r,ob,e,c⟩:=x;exact⟨z,its,r,ob,k _ _ (.inl rfl) e,c⟩
 | dK kvs=>obtain⟨z,y,vs,r,ob,es,ep,e,c⟩:=x;exact⟨z,y,vs,r,ob,es,ep,k _ _ (.inl rfl) e,c⟩
 | dT kvs =>
   obtain⟨z,y,xs,r,ob,es,ep,e,c⟩:=x;exact⟨z,y,xs,Paired.mapP r fun p q z=>⟨z.1,ht _ _ z.2.1,z.2.2⟩,ob,es,ep,k _ _ (.inl rfl) e,c⟩
 | set S n=>obtain⟨ob,es,ep,t,e,c⟩:=x;exact⟨ob,es,ep,t,k _ _ (.inl rfl) e,c⟩
 | ins C dx fs =>
   obtain⟨d,z,ne,e,mA,⟨od,es,ep,e2,c⟩,r⟩:=x;exact⟨ho _ d,z,ne,k _ _ (.inl rfl) e,mA,⟨od,es,ep,k _ _ (.inr d) e2,c⟩,r⟩
 | own y=>obtain⟨ob,e⟩:=x;exact⟨ob,k _ _ (.inl rfl) e⟩
 | xd fs=>obtain⟨mA,⟨od,es,ep,e,c⟩,r⟩:=x;exact⟨mA,⟨od,es,ep,k _ _ (.inl rfl) e,c⟩,r⟩
 | rng lo hi=>obtain⟨t,u,v,e⟩:=x;exact⟨t,u,v,k _ _ (.inl rfl) e⟩
 | frz ob u ih=>obtain⟨e,q⟩:=x;exact⟨k _ _ (.inl rfl) e,ih q⟩
 | tbl ps =>
   have e:h.get? a=some { cls:=.none,data:=.fields ps }:=x;show h'.get? a=some { cls:=.none,data:=.fields ps };exact k a _ (.inl rfl) e
 | met f y =>
   have e:h.get? a=some (CV (.ref f) (.ref y)):=x;show h'.get? a=some (CV (.ref f) (.ref y));exact k a _ (.inl rfl) e
 | ext φ=>obtain⟨p,⟨o,e⟩,st⟩:=x;exact⟨st _ _ p fun o q=>k _ _ (.inl rfl) q,⟨o,k _ _ (.inl rfl) e⟩,st⟩
theorem HOk.lt(x:HOk P w H h)(e:H a=some o):a < h.objs.size:=(x a o e).lt
theorem HOk.fresh(x:HOk P w H h)(e:h.objs.size<=a):H a=none:=by
 cases q:H a with
 | none=>rfl
 | some u=>exact absurd (As (x.lt q) e) (AM _)
theorem HOk.kept(x:HOk P w H h)(k:∀ b u,h.get? b=some u->h'.get? b=some u):HOk P w H h':=fun a o e =>
 (x a o e).stay (fun b u _ q=>k b u q) (fun _ q=>q) fun _ _ q=>q
theorem HOk.laid(x:HOk P w H h)(k:∀ b u,h.get? b=some u->h'.get? b=some u)(hp:h.objs.size<=a)(new:zdn P w (upd H a o) h' a o):HOk P w (upd H a o) h':=fun b u e=>by
 have hn:=x.fresh hp
 by_cases hb:b=a
 . subst hb;rw[zbt] at e;cases e;exact new
 . rw[zaJ hb] at e;exact (x b u e).stay (fun c v _ q=>k c v q) (fun c q=>by rw[zaJ (zan q hn)];exact q) fun c xs q=>by rw[zaJ (zan q hn)];exact q
end
def Rd(H:Hp)(a:Addr)(u:HO):Prop:=H a=some u\/∃ o,H a=some (.frz o u)
theorem Rd.ok{P:Program}{w:World}{H:Hp}{h:Heap}{a:Addr}{u:HO}(r:Rd H a u)(x:HOk P w H h):zdn P w H h a u:=by
 rcases r with r | ⟨o,r⟩
 . exact x a u r
 . obtain⟨_,q⟩:=x a _ r;exact q
noncomputable def Mut:Option HO->Prop
 | some (.lst _)=>True
 | some (.dK _)=>True
 | some (.dT _)=>True
 | some (.set _ _)=>True
 | some (.ins _ _ _)=>True
 | some (.ext _)=>True
 | _=>False
section
variable {P:Program} {w:World} {H:Hp} {h h':Heap} {x e:Addr} {o':HO}
theorem HOk.write(ok:HOk P w H h)(mu:Mut (H x))(he:e=x\/H e=some (.own x))(k:∀ b u,b≠e->h.get? b=some u->h'.get? b=some u)(heo:∃ u,h'.get? e=some u)
   (new:zdn P w (upd H x o') h' x o'):HOk P w (upd H x o') h':=fun b u q=>by
 have nown:∀ c y,H c=some (.own y)->c≠x:=fun c y r z=>by subst z;rw[r] at mu;exact mu
 have ntup:∀ c xs,H c=some (.tup xs)->c≠x:=fun c xs r z=>by subst z;rw[r] at mu;exact mu
 by_cases hb:b=x
 . subst hb;rw[zbt] at q;cases q;exact new
 . rw[zaJ hb] at q
   by_cases hbe:b=e
   . have q':H b=some (.own x):=by
       rcases he with z | z
       . exact absurd (hbe.trans z) hb
       . rw[hbe];exact z
     rw[q] at q';cases q';obtain⟨v,hv⟩:=heo;exact⟨v,by rw[hbe];exact hv⟩
   . refine (ok b u q).stay (fun c v hc r=>k c v ?_ r) (fun c r=>by rw[zaJ (nown c b r)];exact r) fun c xs r=>by rw[zaJ (ntup c xs r)];exact r
     rcases hc with rfl | hc
     . exact hbe
     . rintro rfl
       rcases he with z | z
       . exact nown c b hc z
       . rw[hc] at z;cases z;exact hb rfl
end
structure Un(fs ex:List Addr)(H H':Hp)(h h':Heap):Prop where
 keep:∀ b o,h.get? b=some o->H b=none->b ∉ fs->b ∉ ex->h'.get? b=some o
 slot:∀ b o,h.get? b=some o->H b=none->b∈fs->b ∉ ex->∃ sl,h'.get? b=some { o with slots:=sl }
 free:∀ b o,h.get? b=some o->H b=none->b ∉ ex->H' b=none
 there:∀ b o,h.get? b=some o->b ∉ ex->∃ o',h'.get? b=some o'
 tups:∀ b xs,H b=some (.tup xs)->H' b=some (.tup xs)
 frzs:∀ b o u,H b=some (.frz o u)->H' b=some (.frz o u)
 tbls:∀ b ps,H b=some (.tbl ps)->∃ more,H' b=some (.tbl (ps++more))
section
variable {fs fs' ex ex':List Addr} {H H1 H2:Hp} {h h1 h2 h':Heap} {a x e:Addr} {o:HO}
theorem Un.any(u:Un fs ex H H1 h h1){b:Addr}{ob:Obj}(q:h.get? b=some ob)(n:H b=none)(hx:b ∉ ex):∃ sl,h1.get? b=some { ob with slots:=sl }:=by
 by_cases hb:b∈fs
 . exact u.slot b ob q n hb hx
 . exact⟨ob.slots,u.keep b ob q n hb hx⟩
theorem Un.kept(k:∀ b u,h.get? b=some u->h'.get? b=some u):Un fs ex H H h h' :=
 ⟨fun b ob q _ _ _=>k b ob q,fun b ob q _ _ _=>⟨ob.slots,k b ob q⟩,fun _ _ _ n _=>n,fun b ob q _=>⟨ob,k b ob q⟩,fun _ _ q=>q,fun _ _ _ q=>q,fun _ ps q=>⟨#[],by rw[q];simp⟩⟩
theorem Un.refl:Un fs ex H H h h:=Un.kept fun _ _ q=>q
theorem Un.laid(k:∀ b u,h.get? b=some u->h'.get? b=some u)(hp:h.objs.size<=a)(hn:H a=none):Un fs ex H (upd H a o) h h' where
 keep:=fun b u q _ _ _=>k b u q
 slot:=fun b u q _ _ _=>⟨u.slots,k b u q⟩
 free:=fun b u q n _=>by rw[zaJ (Aw (As (Aj q) hp))];exact n
 there:=fun b u q _=>⟨u,k b u q⟩
 tups:=fun b xs q=>by rw[zaJ (zan q hn)];exact q
 frzs:=fun b u xs q=>by rw[zaJ (zan q hn)];exact q
 tbls:=fun b ps q=>⟨#[],by rw[zaJ (zan q hn),q];simp⟩
theorem Un.write(mu:Mut (H x))(he:e=x\/H e=some (.own x))(k:∀ b u,b≠e->h.get? b=some u->h'.get? b=some u)(heo:∃ u,h'.get? e=some u):Un fs ex H (upd H x o) h h':=by
 have hx:∀ b,H b=none->b≠x:=fun b n z=>by subst z;rw[n] at mu;exact mu
 have hb:∀ b,H b=none->b≠e:=fun b n z=>by
   subst z
   rcases he with r | r
   . exact hx b n r
   . rw[n] at r;cases r
 have hm:∀ b u,H b=some u->¬ Mut (some u)->b≠x:=fun b u q nm z=>by subst z;rw[q] at mu;exact nm mu
 refine⟨fun b u q n _ _=>k b u (hb b n) q,fun b u q n _ _=>⟨u.slots,k b u (hb b n) q⟩,fun b u q n _=>by rw[zaJ (hx b n)];exact n,fun b u q _=>?_,
   fun b xs q=>by rw[zaJ (hm b _ q fun z=>z)];exact q,fun b u xs q=>by rw[zaJ (hm b _ q fun z=>z)];exact q,fun b ps q=>⟨#[],by rw[zaJ (hm b _ q fun z=>z),q];simp⟩⟩
 by_cases hbe:b=e
 . subst hbe;exact heo
 . exact⟨u,k b u hbe q⟩
end
noncomputable def trk(h:Heap)(H:Hp):List Addr:=(AJ h.objs.size).filter fun a=>(H a).isSome
noncomputable def hidT(h:Heap)(H:Hp):Heap:=PySem.W.hideAll h (trk h H)
theorem ziv(h:Heap)(H:Hp):(hidT h H).objs.size=h.objs.size:=PySem.W.hideAll_size _ _
theorem zkg{h:Heap}{H:Hp}{b:Addr}{o:Obj}(e:h.get? b=some o)(n:H b=none):(hidT h H).get? b=some o :=
 PySem.W.hideAll_get _ e fun hm=>by
   have q:(H b).isSome=true:=(List.mem_filter.mp hm).2;rw[n] at q;simp at q
theorem zlG{h:Heap}{H:Hp}{b:Addr}{o:Obj}(e:(hidT h H).get? b=some o):h.get? b=some o/\H b=none:=by
 have e':h.get? b=some o:=PySem.W.of_hideAll (trk h H) e;refine⟨e',?_⟩
 cases q:H b with
 | none=>rfl
 | some x =>
   have hm:b∈trk h H:=List.mem_filter.mpr ⟨List.mem_range.mpr (Aj e'),by simp[q]⟩;have z:(hidT h H).get? b=none:=PySem.W.hideAll_none (trk h H) hm;rw[z] at e;cases e
noncomputable def zdm(g h:Heap)(L:Addr):List (Addr×Obj):=(AJ h.objs.size).filterMap fun a=>if a=L\/(g.get? a).isSome=true then none else (h.get? a).map fun o=>(a,o)
theorem zcB{g h:Heap}{L a:Addr}{o:Obj}(h1:a≠L)(h2:g.get? a=none)(h3:h.get? a=some o):(a,o)∈zdm g h L :=
 List.mem_filterMap.mpr ⟨a,List.mem_range.mpr (Aj h3),by simp[h1,h2,h3]⟩
theorem zdT{g h:Heap}{L:Addr}{p:Addr×Obj}(hp:p∈zdm g h L):p.1≠L/\g.get? p.1=none/\h.get? p.1=some p.2:=by
 obtain⟨b,_,e⟩:=List.mem_filterMap.mp hp
 split at e
 . cases e
 . rename_i hn
   cases q:h.get? b with
   | none=>rw[q] at e;simp at e
   | some u =>
     rw[q] at e;simp only[Au,Option.some.injEq] at e;subst e;refine⟨fun z=>hn (.inl z),?_,q⟩;show g.get? b=none
     cases r:g.get? b with
     | none=>rfl
     | some v=>exact (hn (.inr (by simp[r]))).elim
theorem zeW{g h:Heap}{L:Addr}:News g L h (zdm g h L):=fun p hp=>let ⟨a,b,c⟩:=zdT hp;⟨c,a,b⟩
structure Mod(K:Ab)(mg:Str->Option Value)(base:Heap):Prop where
 kin:K.In base
 glob:base.Ns mainGlobals mg
 blt:∃ mb,base.Ns builtinsNs mb/\∀ x:Str,x≠"__name__"->mb x=bootBuiltins x
 nolimit:base.NoLimit
structure Cx where
 prog:Program
 w:World
 K:Ab
 mg:Str->Option Value
 base:Heap
 A:Around
 N:List Str
 s₀:Shared
 H₀:Hp
 env:Env
 outer:List Env
 stack:List Env
 ex:List Addr
 fn:Str->Bool
 calm:Bool
 pn:List (Addr×Obj)
 xe:Value->Shared->Prop
noncomputable def frs(l:List Env):List Addr:=l.filterMap (·.frame)
noncomputable abbrev Cx.fs (X:Cx):List Addr:=frs X.outer
def Vis(sc:Scope)(x:Str):Prop:=sc.names.lookup x=some .local\/sc.names.lookup x=some .cell\/sc.names.lookup x=some .free
def Loc(sc:Scope)(x:Str):Prop:=sc.names.lookup x=some .local\/sc.names.lookup x=some .cell
def Look(env:Env)(h:Heap)(m:Str->Option Value)(x:Str)(u:Value):Prop :=
 (env.kindOf x=some .local/\m x=some u)\/((env.kindOf x=some .cell\/env.kindOf x=some .free)/\∃ c,env.cells.lookup x=some c/\h.IsCell c (some u))
structure Cx.Ok(X:Cx):Prop where
 mod:Mod X.K X.mg X.base
 kind:X.env.scope.kind=.function
 glob:X.env.globals=mainGlobals
 blt:X.env.builtins=builtinsNs
 above:X.s₀.heap.objs.size<=X.env.locals
 inj:∀ x y c,X.env.cells.lookup x=some c->X.env.cells.lookup y=some c->x=y
 has:∀ x,(X.env.kindOf x=some .cell\/X.env.kindOf x=some .free)->∃ c,X.env.cells.lookup x=some c
 cab:∀ x c,X.fn x=true->X.env.cells.lookup x=some c->X.s₀.heap.objs.size<=c
 hd:X.calm=true->X.A.handled=none
 frames:X.A.frames=some X.stack
 stk:X.stack=X.outer\/(X.stack=X.env::X.outer/\X.env.frame=some X.env.locals)
 exf:∀ b∈X.ex,b≠X.env.locals/\∀ x c,X.env.cells.lookup x=some c->c≠b
 bs:∀ b o,X.base.get? b=some o->X.s₀.heap.get? b=some o/\X.H₀ b=none
 bsz:X.base.objs.size<=X.s₀.heap.objs.size
 noex:∀ b o,X.base.get? b=some o->b ∉ X.ex
 exfs:∀ b∈X.ex,b ∉ X.fs
 funs:X.s₀.heap.FunFrames X.base X.outer
 frf:∀ b∈X.fs,X.H₀ b=none
structure Inv(X:Cx)(pins:List (Addr×Obj))(σ:List (Option V))(H:Hp)(s:Shared):Prop where
 ok:X.Ok
 os:s.os=X.s₀.os
 bare:AllBare s.gens
 base:Un X.fs X.ex X.H₀ H X.s₀.heap s.heap
 loc:∃ m,s.heap.Ns X.env.locals m/\∀ (i:Nat) (x:Str) (v:V),X.N[i]?=some x->σ[i]?=some (some v)->Vis X.env.scope x->∃ u,RelV v u/\Look X.env s.heap m x u
 cell:∀ x c,X.env.cells.lookup x=some c->∃ v,s.heap.IsCell c v
 free:H X.env.locals=none
 freeC:∀ x c,X.env.cells.lookup x=some c->H c=none
 pin:∀ p∈X.pn++pins,s.heap.get? p.1=some p.2/\H p.1=none/\p.1≠X.env.locals/\p.1 ∉ X.fs/\∀ v,p.2.data≠.cell v
 hok:HOk X.prog X.w H s.heap
 len:σ.length=X.N.length
section
variable {X:Cx} {pins:List (Addr×Obj)} {σ:List (Option V)} {H H':Hp} {s:Shared} {h':Heap}
theorem Cx.Ok.nofr(ok:X.Ok){b:Addr}{o:Obj}(e:X.base.get? b=some o):b ∉ X.fs:=fun hb=>by
 have:=(ok.funs.mem hb).1;rw[e] at this;cases this
theorem Inv.bs(I:Inv X pins σ H s):∀ b o,X.base.get? b=some o->s.heap.get? b=some o/\H b=none:=fun b o e =>
 ⟨I.base.keep b o (I.ok.bs b o e).1 (I.ok.bs b o e).2 (I.ok.nofr e) (I.ok.noex b o e),I.base.free b o (I.ok.bs b o e).1 (I.ok.bs b o e).2 (I.ok.noex b o e)⟩
theorem Inv.bk(I:Inv X pins σ H s):∀ b o,X.base.get? b=some o->s.heap.get? b=some o:=fun b o e=>(I.bs b o e).1
theorem Inv.mod(I:Inv X pins σ H s):Mod X.K X.mg X.base:=I.ok.mod
theorem Inv.kIn(I:Inv X pins σ H s):X.K.In s.heap:=I.ok.mod.kin.keeps I.bk
theorem Inv.fr(I:Inv X pins σ H s):∃ m,Fr X.base X.env.locals s.heap m :=
 let ⟨m,hn,_⟩:=I.loc
 ⟨m,hn,I.bk,AB I.ok.bsz I.ok.above⟩
theorem Inv.lt(I:Inv X pins σ H s):X.env.locals < s.heap.objs.size:=let ⟨_,hn,_⟩:=I.loc;hn.lt
theorem Inv.sz(I:Inv X pins σ H s):X.s₀.heap.objs.size<=s.heap.objs.size:=AB I.ok.above (BI I.lt)
theorem Inv.nofs(I:Inv X pins σ H s){a:Addr}(h:s.heap.objs.size<=a):a ∉ X.fs:=fun hb=>by
 obtain⟨_,o,ho,_⟩:=I.ok.funs.mem hb;exact absurd (As (Aj ho) (AB I.sz h)) (AM _)
theorem Inv.cne(I:Inv X pins σ H s):∀ x c,X.env.cells.lookup x=some c->c≠X.env.locals:=fun x c e z=>by
 obtain⟨v,o,ho,hd⟩:=I.cell x c e;obtain⟨m,⟨o',es,ep,ho',hd',_⟩,_⟩:=I.loc;rw[z,ho'] at ho;cases ho;rw[hd'] at hd;cases hd
theorem Inv.funs(I:Inv X pins σ H s):s.heap.FunFrames X.base X.outer:=by
 have all:∀ (l:List Env),(∀ b∈frs l,b∈X.fs)->X.s₀.heap.FunFrames X.base l->s.heap.FunFrames X.base l:=by
   intro l
   induction l with
   | nil=>intro _ _;trivial
   | cons env r ih =>
     intro hs hl;obtain⟨hk,⟨L,o,hf,hn,ho,hd⟩,hr⟩:=hl;have hL:L∈X.fs:=hs L (by unfold frs;rw[BA,hf];exact An);obtain⟨sl,e⟩:=I.base.slot L o ho (I.ok.frf L hL) hL fun z=>I.ok.exfs L z hL;exact⟨hk,⟨L,_,hf,hn,e,hd⟩,ih (fun b hb=>hs b (by unfold frs;rw[BA,hf];exact Ak _ hb)) hr⟩
 exact all X.outer (fun _ hb=>hb) I.ok.funs
theorem Inv.stack(I:Inv X pins σ H s):s.heap.FunFrames X.base X.stack:=by
 rcases I.ok.stk with e | ⟨e,hf⟩
 . rw[e];exact I.funs
 . rw[e];obtain⟨m,hn,_⟩:=I.loc;refine .cons (by rw[I.ok.kind];decide) hf hn ?_ I.funs;exact Heap.get?_none_of_le (AB I.ok.bsz I.ok.above)
theorem Inv.stkSub(I:Inv X pins σ H s):∀ b∈frs X.stack,b∈X.env.locals::X.fs:=fun b hb=>by
 rcases I.ok.stk with e | ⟨e,hf⟩
 . rw[e] at hb;exact Ak _ hb
 . rw[e] at hb;unfold frs at hb;rw[BA,hf] at hb;exact hb
theorem Inv.stkFree(I:Inv X pins σ H s):∀ b∈frs X.stack,H b=none:=fun b hb=>by
 rcases List.mem_cons.mp (I.stkSub b hb) with e | hb
 . rw[e];exact I.free
 . obtain⟨_,o,ho,_⟩:=I.ok.funs.mem hb;exact I.base.free b o ho (I.ok.frf b hb) fun z=>I.ok.exfs b z hb
theorem Inv.step{g':Array GenState}{t':Nat}{d':Drawn}{ch:List Addr}(I:Inv X pins σ H s)
   (hch:∀ b∈ch,(b∈X.ex\/X.s₀.heap.objs.size<=b)/\b≠X.env.locals/\(∀ x c,X.env.cells.lookup x=some c->c≠b)/\∀ p∈X.pn++pins,p.1≠b)
   (keep:∀ b o,b≠X.env.locals->b ∉ X.fs->b ∉ ch->s.heap.get? b=some o->H b=none->h'.get? b=some o)
   (slot:∀ b o,b≠X.env.locals->b∈X.fs->b ∉ ch->s.heap.get? b=some o->H b=none->∃ sl,h'.get? b=some { o with slots:=sl }) (free:∀ b o,b ∉ ch->s.heap.get? b=some o->H b=none->H' b=none)
   (there:∀ b o,b ∉ ch->s.heap.get? b=some o->∃ o',h'.get? b=some o')
   (tups:∀ b xs,H b=some (.tup xs)->H' b=some (.tup xs)) (frzs:∀ b o u,H b=some (.frz o u)->H' b=some (.frz o u)) (tbls:∀ b ps,H b=some (.tbl ps)->∃ more,H' b=some (.tbl (ps++more)))
   (ns:∀ m,s.heap.Ns X.env.locals m->h'.Ns X.env.locals m) (hok:HOk X.prog X.w H' h') (hg:AllBare g') :
   Inv X pins σ H' { s with heap:=h',gens:=g',drawn:=d',toks:=t' }:=by
 have neL:∀ b o,X.s₀.heap.get? b=some o->b≠X.env.locals:=fun b o e=>Aw (As (Aj e) I.ok.above);have neC:∀ b o,X.s₀.heap.get? b=some o->b ∉ X.ex->b ∉ ch:=fun b o e hx hb=>by
   rcases (hch b hb).1 with z | z
   . exact hx z
   . exact absurd (As (Aj e) z) (AM _)
 have cellK:∀ x c,X.env.cells.lookup x=some c->∀ v,s.heap.IsCell c v->h'.IsCell c v:=by
   rintro x c e v ⟨o,ho,hd⟩;have nch:c ∉ ch:=fun z=>(hch c z).2.2.1 x c e rfl
   by_cases hc:c∈X.fs
   . obtain⟨sl,q⟩:=slot c o (I.cne x c e) hc nch ho (I.freeC x c e);exact⟨_,q,hd⟩
   . exact⟨o,keep c o (I.cne x c e) hc nch ho (I.freeC x c e),hd⟩
 refine⟨I.ok,I.os,hg,⟨fun b o e n hb hx=>?_,fun b o e n hb hx=>?_,fun b o e n hx=>?_,fun b o e hx=>?_,fun b xs e=>tups b xs (I.base.tups b xs e),fun b o xs e=>frzs b o xs (I.base.frzs b o xs e),fun b ps e=>?_⟩,?_,fun x c e=>?_,?_,fun x c e=>?_,fun p hp=>?_,hok,I.len⟩
 . exact keep b o (neL b o e) hb (neC b o e hx) (I.base.keep b o e n hb hx) (I.base.free b o e n hx)
 . obtain⟨sl,e1⟩:=I.base.slot b o e n hb hx;obtain⟨sl',e2⟩:=slot b _ (neL b o e) hb (neC b o e hx) e1 (I.base.free b o e n hx);exact⟨sl',e2⟩
 . obtain⟨o',e1⟩:=I.base.there b o e hx;exact free b o' (neC b o e hx) e1 (I.base.free b o e n hx)
 . obtain⟨o',e1⟩:=I.base.there b o e hx;exact there b o' (neC b o e hx) e1
 . obtain⟨m1,e1⟩:=I.base.tbls b ps e;obtain⟨m2,e2⟩:=tbls b _ e1;exact⟨m1++m2,by rw[e2,Array.append_assoc]⟩
 . obtain⟨m,hn,hl⟩:=I.loc;refine⟨m,ns m hn,fun i x v e1 e2 e3=>?_⟩;obtain⟨u,r,l⟩:=hl i x v e1 e2 e3;refine⟨u,r,?_⟩
   rcases l with l | ⟨k,c,e,z⟩
   . exact .inl l
   . exact .inr ⟨k,c,e,cellK x c e _ z⟩
 . obtain⟨v,z⟩:=I.cell x c e;exact⟨v,cellK x c e v z⟩
 . obtain⟨m,⟨o,_,_,ho,_⟩,_⟩:=I.loc;exact free _ o (fun z=>(hch _ z).2.1 rfl) ho I.free
 . obtain⟨v,o,ho,hd⟩:=I.cell x c e;exact free c o (fun z=>(hch c z).2.2.1 x c e rfl) ho (I.freeC x c e)
 . obtain⟨e,n,ne,nf,d⟩:=I.pin p hp;have nch:p.1 ∉ ch:=fun z=>(hch p.1 z).2.2.2 p hp rfl;exact⟨keep p.1 p.2 ne nf nch e n,free p.1 p.2 nch e n,ne,nf,d⟩
theorem Inv.un{t':Nat}(I:Inv X pins σ H s)(u:Un X.fs [] H H' s.heap h')(hok:HOk X.prog X.w H' h'):Inv X pins σ H' { s with heap:=h',toks:=t' }:=by
 obtain⟨m,⟨o,es,ep,ho,r⟩,_⟩:=id I.loc;obtain⟨sl,hL⟩:=u.any ho I.free (by simp);exact I.step (g':=s.gens) (d':=s.drawn) (ch:=[]) (fun _ z=>nomatch z) (fun b o _ hb _ e n=>u.keep b o e n hb (by simp)) (fun b o _ hb _ e n=>u.slot b o e n hb (by simp)) (fun b o _ e n=>u.free b o e n (by simp)) (fun b o _ e=>u.there b o e (by simp)) u.tups u.frzs u.tbls (fun m' hm=>by
   obtain⟨o',es',ep',ho',r'⟩:=hm;rw[ho] at ho';cases ho';exact⟨_,es',ep',hL,r'⟩) hok I.bare
theorem Inv.call{g':Array GenState}{t':Nat}{d':Drawn}{ch:List Addr}(I:Inv X pins σ H s)(u:Un (frs X.stack) ch H H' s.heap h')(hok:HOk X.prog X.w H' h')(hg:AllBare g')
   (hch:∀ b∈ch,(b∈X.ex\/X.s₀.heap.objs.size<=b)/\b≠X.env.locals/\(∀ x c,X.env.cells.lookup x=some c->c≠b)/\∀ p∈X.pn++pins,p.1≠b) :
   Inv X pins σ H' { s with heap:=h',gens:=g',drawn:=d',toks:=t' }:=by
 obtain⟨m,⟨o,es,ep,ho,r⟩,_⟩:=id I.loc;obtain⟨sl,hL⟩:=u.any ho I.free fun z=>(hch _ z).2.1 rfl;exact I.step (ch:=ch) hch (fun b o hL hb hc e n=>u.keep b o e n (fun z=>(List.mem_cons.mp (I.stkSub b z)).elim hL hb) hc) (fun b o _ _ hc e n=>u.any e n hc) (fun b o hc e n=>u.free b o e n hc) (fun b o hc e=>u.there b o e hc) u.tups u.frzs u.tbls (fun m' hm=>by
   obtain⟨o',es',ep',ho',r'⟩:=hm;rw[ho] at ho';cases ho';exact⟨_,es',ep',hL,r'⟩) hok hg
theorem Inv.turned{t':Nat}{it:Addr}(I:Inv X pins σ H s)(k:∀ b o,b≠it->s.heap.get? b=some o->h'.get? b=some o)(hn:H it=none)(hL:it≠X.env.locals)
   (h1:it∈X.ex\/X.s₀.heap.objs.size<=it) (h2:∀ x c,X.env.cells.lookup x=some c->c≠it) (h3:∀ p∈X.pn++pins,p.1≠it):Inv X pins σ H { s with heap:=h',toks:=t' }:=by
 have nit:∀ b u,H b=some u->b≠it:=fun b u e z=>by rw[z,hn] at e;cases e
 refine I.step (g':=s.gens) (d':=s.drawn) (ch:=[it]) (fun b hb=>?_) (fun b o _ _ hc e _=>k b o (fun z=>hc (by simp[z])) e) (fun b o _ _ hc e _=>⟨o.slots,k b o (fun z=>hc (by simp[z])) e⟩) (fun _ _ _ _ n=>n)
   (fun b o hc e=>⟨o,k b o (fun z=>hc (by simp[z])) e⟩) (fun _ _ e=>e) (fun _ _ _ e=>e) (fun b ps e=>⟨#[],by rw[e];simp⟩) (fun m hm=>?_) (fun b u e=>?_) I.bare
 . have e:b=it:=by simpa using hb
   subst e;exact⟨h1,hL,h2,h3⟩
 . obtain⟨o,es,ep,ho,r⟩:=hm;exact⟨o,es,ep,k _ o (BJ hL) ho,r⟩
 . refine (I.hok b u e).stay (fun c v hc q=>k c v ?_ q) (fun _ q=>q) fun _ _ q=>q
   rcases hc with z | z
   . rw[z];exact nit b u e
   . exact nit c _ z
theorem Inv.tok(I:Inv X pins σ H s)(t:Nat):Inv X pins σ H { s with toks:=t }:=I.un (h':=s.heap) (t':=t) Un.refl I.hok
theorem Inv.kept{t':Nat}(I:Inv X pins σ H s)(k:∀ b u,s.heap.get? b=some u->h'.get? b=some u):Inv X pins σ H { s with heap:=h',toks:=t' }:=I.un (Un.kept k) (I.hok.kept k)
theorem Inv.laid{a:Addr}{o:HO}{t':Nat}(I:Inv X pins σ H s)(k:∀ b u,s.heap.get? b=some u->h'.get? b=some u)(hp:s.heap.objs.size<=a)(new:zdn X.prog X.w (upd H a o) h' a o) :
   Inv X pins σ (upd H a o) { s with heap:=h',toks:=t' }:=I.un (Un.laid k hp (I.hok.fresh hp)) (I.hok.laid k hp new)
theorem Inv.write{x e:Addr}{o:HO}{t':Nat}(I:Inv X pins σ H s)(mu:Mut (H x))(he:e=x\/H e=some (.own x))(k:∀ b u,b≠e->s.heap.get? b=some u->h'.get? b=some u)(heo:∃ u,h'.get? e=some u)
   (new:zdn X.prog X.w (upd H x o) h' x o):Inv X pins σ (upd H x o) { s with heap:=h',toks:=t' }:=I.un (Un.write mu he k heo) (I.hok.write mu he k heo new)
theorem Inv.pins_of{pins':List (Addr×Obj)}(I:Inv X pins σ H s)(h:∀ p∈pins',s.heap.get? p.1=some p.2/\H p.1=none/\p.1≠X.env.locals/\p.1 ∉ X.fs/\∀ v,p.2.data≠.cell v):Inv X pins' σ H s :=
 ⟨I.ok,I.os,I.bare,I.base,I.loc,I.cell,I.free,I.freeC,fun p hp=>(List.mem_append.mp hp).elim (fun z=>I.pin p (Bx _ z)) (h p),I.hok,I.len⟩
theorem zg4{N:List Str}(hN:N.Nodup){i j:Nat}{x:Str}(a:N[i]?=some x)(b:N[j]?=some x):i=j:=by
 obtain⟨h1,e1⟩:=List.getElem?_eq_some_iff.mp a;obtain⟨h2,e2⟩:=List.getElem?_eq_some_iff.mp b;exact (List.getElem_inj hN).mp (e1.trans e2.symm)
theorem zff{M:Model}{A:Around}{E:Value->Shared->Prop}{i:Nat}{x:Str}{v:V}{u:Value}{Q:Unit->Shared->Prop}(I:Inv X pins σ H s)(hN:X.N.Nodup)(hi:X.N[i]?=some x)(hx:Loc X.env.scope x)(r:RelV v u)
   (h:∀ s',Inv X pins (σ.set i (some v)) H s'->(∃ a,BK a s.heap s'.heap/\(a=X.env.locals\/X.env.cells.lookup x=some a))->Q () s') (hf:X.fn x=true\/X.env.scope.names.lookup x=some .local:=by first | exact .inl rfl | exact .inr rfl | assumption):wpAny M A (storeName X.env x u) Q E s:=by
 obtain⟨m,hn,hl⟩:=id I.loc;have hcls:(X.env.scope.kind==.class || (X.env.scope.kind==.module&&X.env.locals != X.env.globals))=false:=by rw[I.ok.kind];rfl
 have hiσ:i < σ.length:=by rw[I.len];exact (List.getElem?_eq_some_iff.mp hi).1
 have cne:=I.cne;have tracked:∀ {a:Addr} {h':Heap},(∃ o,s.heap.get? a=some o/\H a=none)->BK a s.heap h'->HOk X.prog X.w H h':=fun {a h'} ha hs b ob e=>by
   obtain⟨_,_,hfree⟩:=ha;refine (I.hok b ob e).stay (fun c w' hc q=>(hs.2 c ?_).trans q) (fun _ q=>q) fun _ _ q=>q;rintro rfl
   rcases hc with rfl | hc
   . rw[hfree] at e;cases e
   . rw[hfree] at hc;cases hc
 rcases hx with hk | hk
 . refine wpAny_storeName_local hk hn (fun h' hn' hs=>?_) hcls;obtain⟨oL,_,_,hoL,_⟩:=id hn;refine h _ ⟨I.ok,I.os,I.bare,⟨fun b o e n hb hx=>?_,fun b o e n hb hx=>?_,I.base.free,fun b o e hx=>?_,I.base.tups,I.base.frzs,I.base.tbls⟩,⟨_,hn',fun j y v' e1 e2 e3=>?_⟩,fun y c e=>?_,I.free,I.freeC,fun p hp=>?_,tracked ⟨oL,hoL,I.free⟩ hs,by simpa using I.len⟩ ⟨_,hs,.inl rfl⟩
   . exact (hs.2 b (Aw (As (Aj e) I.ok.above))).trans (I.base.keep b o e n hb hx)
   . obtain⟨sl,e1⟩:=I.base.slot b o e n hb hx;exact⟨sl,(hs.2 b (Aw (As (Aj e) I.ok.above))).trans e1⟩
   . obtain⟨o',e1⟩:=I.base.there b o e hx;exact⟨o',(hs.2 b (Aw (As (Aj e) I.ok.above))).trans e1⟩
   . by_cases hj:j=i
     . subst hj;rw[hi] at e1;cases e1;rw[BF hiσ] at e2;cases e2;exact⟨u,r,.inl ⟨hk,by simp⟩⟩
     . rw[AK (BJ hj)] at e2;obtain⟨u',r',q⟩:=hl j y v' e1 e2 e3;refine⟨u',r',?_⟩
       rcases q with ⟨k,e⟩ | ⟨k,c,e,z⟩
       . refine .inl ⟨k,?_⟩;have:y≠x:=fun e=>hj (zg4 hN e1 (e ▸ hi));simp[this,e]
       . exact .inr ⟨k,c,e,z.sameBut hs (cne y c e)⟩
   . obtain⟨w',z⟩:=I.cell y c e;exact⟨w',z.sameBut hs (cne y c e)⟩
   . obtain⟨e,n,ne,nf,d⟩:=I.pin p hp;exact⟨(hs.2 p.1 ne).trans e,n,ne,nf,d⟩
 . have hfn:X.fn x=true:=by
     rcases hf with z | z
     . exact z
     . rw[z] at hk;cases hk
   obtain⟨c,hc⟩:=I.ok.has x (.inl hk);obtain⟨w',z⟩:=I.cell x c hc;refine wpAny_storeName_cell I.ok.kind hk hc z (fun h' hc' hs=>?_);obtain⟨oc,hoc,hocd⟩:=id z;refine h { s with heap:=h' } ⟨I.ok,I.os,I.bare,⟨fun b o e n hb hx=>?_,fun b o e n hb hx=>?_,I.base.free,fun b o e hx=>?_,I.base.tups,I.base.frzs,I.base.tbls⟩,⟨m,hn.sameBut hs (BJ (cne x c hc)),fun j y v' e1 e2 e3=>?_⟩,fun y c' e=>?_,I.free,I.freeC,fun p hp=>?_,tracked ⟨oc,hoc,I.freeC x c hc⟩ hs,by simpa using I.len⟩ ⟨c,hs,.inr hc⟩
   . exact (hs.2 b (Aw (As (Aj e) (I.ok.cab x c hfn hc)))).trans (I.base.keep b o e n hb hx)
   . obtain⟨sl,e1⟩:=I.base.slot b o e n hb hx;exact⟨sl,(hs.2 b (Aw (As (Aj e) (I.ok.cab x c hfn hc)))).trans e1⟩
   . obtain⟨o',e1⟩:=I.base.there b o e hx;exact⟨o',(hs.2 b (Aw (As (Aj e) (I.ok.cab x c hfn hc)))).trans e1⟩
   . by_cases hj:j=i
     . subst hj;rw[hi] at e1;cases e1;rw[BF hiσ] at e2;cases e2;exact⟨u,r,.inr ⟨.inl hk,c,hc,hc'⟩⟩
     . rw[AK (BJ hj)] at e2;obtain⟨u',r',q⟩:=hl j y v' e1 e2 e3;refine⟨u',r',?_⟩
       rcases q with q | ⟨k,c',e,z'⟩
       . exact .inl q
       . refine .inr ⟨k,c',e,z'.sameBut hs ?_⟩;rintro rfl;exact hj (zg4 hN e1 (I.ok.inj _ _ _ e hc ▸ hi))
   . by_cases hcc:c'=c
     . subst hcc;exact⟨_,hc'⟩
     . obtain⟨w2,z2⟩:=I.cell y c' e;exact⟨w2,z2.sameBut hs hcc⟩
   . obtain⟨e,n,ne,nf,d⟩:=I.pin p hp;refine⟨(hs.2 p.1 ?_).trans e,n,ne,nf,d⟩;intro q;rw[q,hoc] at e;have q':oc=p.2:=Ai e;exact d w' (by rw[<-q'];exact hocd)
theorem zgy{M:Model}{A:Around}{E:Value->Shared->Prop}{i:Nat}{x:Str}{v:V}{u:Value}{Q:Unit->Shared->Prop}(I:Inv X pins σ H s)(hN:X.N.Nodup)(hi:X.N[i]?=some x)(hx:Loc X.env.scope x)(r:RelV v u)
   (h:∀ s',Inv X pins (σ.set i (some v)) H s'->Q () s') (hf:X.fn x=true\/X.env.scope.names.lookup x=some .local:=by first | exact .inl rfl | exact .inr rfl | assumption):wpAny M A (storeName X.env x u) Q E s :=
 zff I hN hi hx r (fun s' I' _=>h s' I') hf
theorem Inv.call'{s':Shared}{ch:List Addr}(I:Inv X pins σ H s)(ho:s'.os=s.os)(u:Un (frs X.stack) ch H H' s.heap s'.heap)(hok:HOk X.prog X.w H' s'.heap)(hg:AllBare s'.gens)
   (hch:∀ b∈ch,(b∈X.ex\/X.s₀.heap.objs.size<=b)/\b≠X.env.locals/\(∀ x c,X.env.cells.lookup x=some c->c≠b)/\∀ p∈X.pn++pins,p.1≠b):Inv X pins σ H' s':=by
 obtain⟨h',g',d',t',o'⟩:=s';have e:o'=s.os:=ho;subst e;exact I.call (g':=g') (t':=t') (d':=d') u hok hg hch
end
noncomputable abbrev XK:=Value->Option Addr->Hp->Prop
noncomputable abbrev St:=List (Option V)
noncomputable abbrev VK:=V->Hp->Prop
noncomputable abbrev TE:=St->Hp->VK->Prop
noncomputable abbrev TT:=St->Hp->(Bool->Hp->Prop)->Prop
noncomputable abbrev TA:=St->Hp->(List V->Hp->Prop)->Prop
structure Ends where
 nx:St->Hp->Prop
 rt:VK
 bk:St->Hp->Prop:=fun _ _=>False
 ct:St->Hp->Prop:=fun _ _=>False
noncomputable abbrev TS:=Ends->St->Hp->Prop
def EP(X:Cx)(pins:List (Addr×Obj))(σ:St)(Q:VK)(u:Value)(s':Shared):Prop:=∃ v H',Inv X pins σ H' s'/\RelV v u/\Q v H'
def TP(X:Cx)(pins:List (Addr×Obj))(σ:St)(Q:Bool->Hp->Prop)(b:Bool)(s':Shared):Prop:=∃ H',Inv X pins σ H' s'/\Q b H'
def AP(X:Cx)(pins:List (Addr×Obj))(σ:St)(Q:List V->Hp->Prop)(us:List Value)(s':Shared):Prop:=∃ vs H',Inv X pins σ H' s'/\Vals vs us/\Q vs H'
def SP(X:Cx)(pins:List (Addr×Obj))(D:Ends)(f:Flow)(s':Shared):Prop :=
 match f with
 | .next=>∃ σ' H',Inv X pins σ' H' s'/\D.nx σ' H'
 | .brk=>∃ σ' H',Inv X pins σ' H' s'/\D.bk σ' H'
 | .cont=>∃ σ' H',Inv X pins σ' H' s'/\D.ct σ' H'
 | .ret u=>∃ v σ' H',Inv X pins σ' H' s'/\RelV v u/\D.rt v H'
def PE(X:Cx)(e:Expr)(t:TE):Prop :=
 ∀ (pins:List (Addr×Obj)) (s:Shared) (σ:St) (H:Hp) (Q:VK),Inv X pins σ H s->t σ H Q->wpAny (model X.prog X.w) X.A (eval e X.env) (EP X pins σ Q) X.xe s
def PT(X:Cx)(e:Expr)(t:TT):Prop :=
 ∀ (pins:List (Addr×Obj)) (s:Shared) (σ:St) (H:Hp) (Q:Bool->Hp->Prop),Inv X pins σ H s->t σ H Q->wpAny (model X.prog X.w) X.A (isTrue e X.env (eval e X.env)) (TP X pins σ Q) X.xe s
def PW(X:Cx)(e:Expr)(t:TT):Prop :=
 ∀ (whole:Sem Value) (pins:List (Addr×Obj)) (s:Shared) (σ:St) (H:Hp) (Q:Bool->Hp->Prop),Inv X pins σ H s->t σ H Q->wpAny (model X.prog X.w) X.A (isTrue e X.env whole) (TP X pins σ Q) X.xe s
theorem PW.pt{X:Cx}{e:Expr}{t:TT}(h:PW X e t):PT X e t:=h _
def PA(X:Cx)(es:List Expr)(t:TA):Prop :=
 ∀ (pos:Pos) (pins:List (Addr×Obj)) (s:Shared) (σ:St) (H:Hp) (Q:List V->Hp->Prop),Inv X pins σ H s->t σ H Q->wpAny (model X.prog X.w) X.A (spliced (backTo pos (starEach es X.env))) (AP X pins σ Q) X.xe s
def PS(X:Cx)(st:Stmt)(t:TS):Prop :=
 ∀ (pins:List (Addr×Obj)) (s:Shared) (σ:St) (H:Hp) (D:Ends),Inv X pins σ H s->t D σ H->wpAny (model X.prog X.w) X.A (exec st X.env) (SP X pins D) X.xe s
def PSs(X:Cx)(st:List Stmt)(t:TS):Prop :=
 ∀ (pins:List (Addr×Obj)) (s:Shared) (σ:St) (H:Hp) (D:Ends),Inv X pins σ H s->t D σ H->wpAny (model X.prog X.w) X.A (execs st X.env) (SP X pins D) X.xe s
theorem thn{α:Type}{t:Sem α}{Q Q':α->Shared->Prop}{M:Model}{A:Around}{E:Value->Shared->Prop}{s:Shared}(h:wpAny M A t Q E s)(hQ:∀ a s,Q a s->Q' a s):wpAny M A t Q' E s:=A9 h hQ fun _ _ x=>x
section
variable {X:Cx}
noncomputable def tVar(i:Nat):TE:=fun σ H Q=>∃ v,σ[i]?=some (some v)/\Q v H
noncomputable def tC(v:V):TE:=fun _ H Q=>Q v H
theorem zm0{i:Nat}{x:Str}{pos:Pos}(hN:X.N[i]?=some x)(hv:Vis X.env.scope x)(hd:(x==("__debug__":Str))=false:=by decide)(hcd:(x==("__classdict__":Str))=false:=by decide):PE X (.Name x pos) (tVar i):=by
 intro pins s σ H Q I h;obtain⟨v,e,h⟩:=h;obtain⟨m,hn,hl⟩:=I.loc;obtain⟨u,r,l⟩:=hl i x v hN e hv;have fin:EP X pins σ Q u s:=⟨v,H,I,r,h⟩
 rcases l with ⟨hk,hm⟩ | ⟨hk,c,hc,hcell⟩
 . exact EJ (wpAny_loadName_local I.ok.kind hk hn hm fin) hd
 . rcases hk with hk | hk
   . exact EJ (wpAny_loadName_cell I.ok.kind hk hc hcell fin) hd
   . exact EJ (wpAny_loadName_free I.ok.kind hk hc hcell fin hcd) hd
theorem zm5{i j pos}:PE X (.Constant (.int i) j pos) (tC (.int i)):=fun _ _ _ H _ I h=>wpAny_Constant_int ⟨.int i,H,I.tok _,⟨_,rfl⟩,h⟩
theorem zor{b j pos}:PE X (.Constant (.bool b) j pos) (tC (.bl b)):=fun _ _ _ H _ I h=>Constant_bool ⟨.bl b,H,I,rfl,h⟩
theorem zm2{x j pos}:PE X (.Constant (.str x) j pos) (tC (.str x)):=fun _ _ _ H _ I h=>Calls.Constant_str ⟨.str x,H,I.tok _,⟨_,rfl⟩,h⟩
def Gl(X:Cx)(x:Str):Prop:=X.env.kindOf x=some .globalImplicit
theorem zjd{E:Value->Shared->Prop}{pins:List (Addr×Obj)}{s:Shared}{σ:St}{H:Hp}{x:Str}{u:Value}{pos:Pos}{Q:Value->Shared->Prop}(I:Inv X pins σ H s)(hg:Gl X x)(hm:X.mg x=some u)(h:Q u s)
   (hd:(x==("__debug__":Str))=false:=by decide):wpAny (model X.prog X.w) X.A (eval (.Name x pos) X.env) Q E s :=
 CS I.ok.kind hg (Calls.loadGlobal_global (by rw[I.ok.glob];exact I.mod.glob.keeps I.bk) hm h) hd
theorem zhf{E:Value->Shared->Prop}{pins:List (Addr×Obj)}{s:Shared}{σ:St}{H:Hp}{x:Str}{u:Value}{pos:Pos}{Q:Value->Shared->Prop}(I:Inv X pins σ H s)(hg:Gl X x)(hm:X.mg x=none)(hv:bootBuiltins x=some u)(h:Q u s)
   (hn:x≠"__name__":=by decide) (hd:(x==("__debug__":Str))=false:=by decide):wpAny (model X.prog X.w) X.A (eval (.Name x pos) X.env) Q E s:=by
 obtain⟨mb,h1,h2⟩:=I.mod.blt;exact CS I.ok.kind hg (Calls.loadGlobal_builtin (by rw[I.ok.glob];exact I.mod.glob.keeps I.bk) hm (by rw[I.ok.blt];exact h1.keeps I.bk) ((h2 x hn).trans hv) h) hd
theorem zlr{x:Str}{v:V}{u:Value}{pos:Pos}(hg:Gl X x)(hm:X.mg x=some u)(r:RelV v u)(hd:(x==("__debug__":Str))=false:=by decide):PE X (.Name x pos) (tC v) :=
 fun _ _ _ H _ I h=>zjd I hg hm ⟨v,H,I,r,h⟩ hd
theorem zlv{x:Str}{v:V}{u:Value}{pos:Pos}(hg:Gl X x)(hm:X.mg x=none)(hv:bootBuiltins x=some u)(r:RelV v u)(hn:x≠"__name__":=by decide)(hd:(x==("__debug__":Str))=false:=by decide):PE X (.Name x pos) (tC v) :=
 fun _ _ _ H _ I h=>zhf I hg hm hv ⟨v,H,I,r,h⟩ hn hd
variable {a b:Expr} {ta tb:TE} {pos:Pos}
def PC(X:Cx)(op:CmpOp)(a b:Expr)(t:TE):Prop :=
 ∀ (pins:List (Addr×Obj)) (s:Shared) (σ:St) (H:Hp) (Q:VK),Inv X pins σ H s->t σ H Q ->
   wpAny (model X.prog X.w) X.A (eval a X.env) (fun v s₁=>wpAny (model X.prog X.w) X.A (eval b X.env) (fun u s₂=>wpAny (model X.prog X.w) X.A (compareOp op v u) (EP X pins σ Q) X.xe s₂) X.xe s₁) X.xe s
theorem zm6{op:CmpOp}{t:TE}(h:PC X op a b t)(h1:behindInMarks op b=false:=by first | exact nobehind _ (by decide) (by decide) | rfl):PE X (.Compare a [op] [b] pos) t:=fun pins s σ H Q I hw=>wpAny_Compare1 (h pins s σ H Q I hw) h1
variable {tA tB':TT} {rest:List Expr}
noncomputable def tAnd(t u:TT):TT:=fun σ H Q=>t σ H fun c H1=>if c=true then u σ H1 Q else Q false H1
noncomputable def tOr(t u:TT):TT:=fun σ H Q=>t σ H fun c H1=>if c=true then Q true H1 else u σ H1 Q
noncomputable def tNot(t:TT):TT:=fun σ H Q=>t σ H fun c H1=>Q (!c) H1
theorem pw_and1(ha:PT X a tA):PW X (.BoolOp .And [a] pos) tA:=by
 intro wh pins s σ H Q I h;refine isTrue_and (thn (ha pins s σ H Q I h) fun c s1 e=>?_)
 cases c with
 | true=>exact isTrue_and_nil e
 | false=>exact e
theorem pw_or1(ha:PT X a tA):PW X (.BoolOp .Or [a] pos) tA:=by
 intro wh pins s σ H Q I h;refine isTrue_or (thn (ha pins s σ H Q I h) fun c s1 e=>?_)
 cases c with
 | false=>exact isTrue_or_nil e
 | true=>exact e
theorem pw_and(ha:PT X a tA)(hb:PW X (.BoolOp .And (b::rest) pos) tB'):PW X (.BoolOp .And (a::b::rest) pos) (tAnd tA tB'):=by
 intro wh pins s σ H Q I h;refine isTrue_and (thn (ha pins s σ H _ I h) ?_);rintro c s1 ⟨H1,I1,q1⟩
 cases c with
 | true=>exact hb wh pins s1 σ H1 Q I1 q1
 | false=>exact⟨H1,I1,q1⟩
theorem pw_or(ha:PT X a tA)(hb:PW X (.BoolOp .Or (b::rest) pos) tB'):PW X (.BoolOp .Or (a::b::rest) pos) (tOr tA tB'):=by
 intro wh pins s σ H Q I h;refine isTrue_or (thn (ha pins s σ H _ I h) ?_);rintro c s1 ⟨H1,I1,q1⟩
 cases c with
 | true=>exact⟨H1,I1,q1⟩
 | false=>exact hb wh pins s1 σ H1 Q I1 q1
theorem zmQ(ha:PT X a tA):PT X (.UnaryOp .Not a pos) (tNot tA):=by
 intro pins s σ H Q I h;exact isTrue_not (ha pins s σ H (fun c H1=>Q (!c) H1) I h)
noncomputable def zn9(ta tb:TE):TE:=fun σ H Q=>ta σ H fun x H1=>∃ c,x=.bl c/\if c=true then tb σ H1 Q else Q (.bl false) H1
noncomputable def tOrV(ta tb:TE):TE:=fun σ H Q=>ta σ H fun x H1=>∃ c,x=.bl c/\if c=true then Q (.bl true) H1 else tb σ H1 Q
noncomputable def zn3(ta:TE):TE:=fun σ H Q=>ta σ H fun x H1=>∃ c,x=.bl c/\Q (.bl (!c)) H1
theorem zlq{op}{t:TE}(h:PE X a t):PE X (.BoolOp op [a] pos) t:=fun pins s σ H Q I hw=>BoolOp_one (h pins s σ H Q I hw)
theorem zm7(ha:PE X a ta)(hb:PE X (.BoolOp .And (b::rest) pos) tb):PE X (.BoolOp .And (a::b::rest) pos) (zn9 ta tb):=by
 intro pins s σ H Q I h;refine BoolOp_and (thn (ha pins s σ H _ I h) ?_);rintro v s1 ⟨x,H1,I1,r1,q1⟩;obtain⟨c,rfl,q1⟩:=q1;cases r1;refine Bi ?_
 cases c with
 | true=>exact hb pins s1 σ H1 Q I1 q1
 | false=>exact⟨.bl false,H1,I1,rfl,q1⟩
theorem zoo(ha:PE X a ta)(hb:PE X (.BoolOp .Or (b::rest) pos) tb):PE X (.BoolOp .Or (a::b::rest) pos) (tOrV ta tb):=by
 intro pins s σ H Q I h;refine BoolOp_or (thn (ha pins s σ H _ I h) ?_);rintro v s1 ⟨x,H1,I1,r1,q1⟩;obtain⟨c,rfl,q1⟩:=q1;cases r1;refine Bi ?_
 cases c with
 | false=>exact hb pins s1 σ H1 Q I1 q1
 | true=>exact⟨.bl true,H1,I1,rfl,q1⟩
theorem zm3(ha:PE X a ta):PE X (.UnaryOp .Not a pos) (zn3 ta):=by
 intro pins s σ H Q I h;refine UnaryOp_ (thn (ha pins s σ H _ I h) ?_);rintro v s1 ⟨x,H1,I1,r1,q1⟩;obtain⟨c,rfl,q1⟩:=q1;cases r1;exact not_of (Bi ⟨.bl (!c),H1,I1,rfl,q1⟩)
end
def SqL(K:Ab)(H:Hp)(a:Addr)(xs:List V):Prop :=
 Rd H a (.lst xs) \/
   ∃ (o:Obj) (its:Array Value) (n:Nat),K.lookup a=some o/\o.cls=.type "list"/\o.dict=none/\o.data=.seq its n/\its.size<=sizeLine/\Vals xs its.toList
def SqT(K:Ab)(H:Hp)(a:Addr)(xs:List V):Prop :=
 Rd H a (.tup xs) \/
   ∃ (o:Obj) (its:Array Value) (n:Nat),K.lookup a=some o/\o.cls=.type "tuple"/\o.data=.seq its n/\its.size<=sizeLine/\Vals xs its.toList
noncomputable def absV:Value->Option V
 | .none=>some .non
 | .bool b=>some (.bl b)
 | .int i _=>some (.int i)
 | .str x _=>some (.str x)
 | .bytes b _=>some (.byt b)
 | .float b _=>some (.flt b)
 | .ref a=>some (.ref a)
 | .type n=>some (.ty n)
 | _=>none
theorem RelV.abs{x:V}{u:Value}(r:RelV x u):absV u=some x:=by
 cases x with
 | non=>cases r;rfl
 | bl _=>cases r;rfl
 | int _=>obtain⟨t,rfl⟩:=r;rfl
 | str _=>obtain⟨t,rfl⟩:=r;rfl
 | byt _=>obtain⟨t,rfl⟩:=r;rfl
 | flt _=>obtain⟨t,rfl⟩:=r;rfl
 | ref _=>cases r;rfl
 | ty _=>cases r;rfl
theorem RelV.inj{x y:V}{u:Value}(r:RelV x u)(q:RelV y u):x=y:=Ai (r.abs.symm.trans q.abs)
theorem Vals.inj:∀ {xs ys:List V} {us:List Value},Vals xs us->Vals ys us->xs=ys
 | _,_,_,.nil,.nil=>rfl
 | _,_,_,.cons r t,.cons r' t'=>by rw[r.inj r',Vals.inj t t']
section
variable {X:Cx} {pins:List (Addr×Obj)} {σ:St} {H:Hp} {s:Shared} {a:Addr} {xs ys:List V}
theorem SqL.of{K:Ab}(h:H a=some (.lst xs)):SqL K H a xs:=.inl (.inl h)
theorem SqT.of{K:Ab}(h:H a=some (.tup xs)):SqT K H a xs:=.inl (.inl h)
theorem Inv.list(I:Inv X pins σ H s)(h:SqL X.K H a xs):∃ its:List Value,Vals xs its/\PlainL s.heap a its.toArray/\xs.length<=sizeLine:=by
 rcases h with h | ⟨o,its,n,hk,hc,hd,hs,hz,r⟩
 . obtain⟨z,its,n,r,e⟩:=h.ok I.hok;exact⟨its,r,⟨_,n,e,rfl,rfl,rfl⟩,z⟩
 . refine⟨its.toList,r,⟨o,n,I.kIn a o hk,hc,hd,by simpa using hs⟩,?_⟩;have e:=r.length;simp only[A4] at e;omega
theorem Inv.tuple(I:Inv X pins σ H s)(h:SqT X.K H a xs):∃ its:List Value,Vals xs its/\IsTup s.heap a its.toArray/\xs.length<=sizeLine:=by
 rcases h with h | ⟨o,its,n,hk,hc,hs,hz,r⟩
 . obtain⟨z,its,r,p⟩:=h.ok I.hok;exact⟨its,r,p.t,z⟩
 . refine⟨its.toList,r,⟨o,I.kIn a o hk,hc,n,by simpa using hs⟩,?_⟩;have e:=r.length;simp only[A4] at e;omega
theorem Inv.list_inj(I:Inv X pins σ H s)(h:SqL X.K H a xs)(h':SqL X.K H a ys):xs=ys:=by
 obtain⟨its,r,⟨o,n,e,_,_,d⟩,_⟩:=I.list h;obtain⟨its',r',⟨o',n',e',_,_,d'⟩,_⟩:=I.list h';rw[e] at e';cases e';rw[d] at d';injection d' with d1 _
 have:its=its':=by simpa using congrArg Fq d1
 subst this;exact r.inj r'
theorem Inv.tuple_inj(I:Inv X pins σ H s)(h:SqT X.K H a xs)(h':SqT X.K H a ys):xs=ys:=by
 obtain⟨its,r,⟨o,e,_,n,d⟩,_⟩:=I.tuple h;obtain⟨its',r',⟨o',e',_,n',d'⟩,_⟩:=I.tuple h';rw[e] at e';cases e';rw[d] at d';injection d' with d1 _
 have:its=its':=by simpa using congrArg Fq d1
 subst this;exact r.inj r'
end
noncomputable abbrev Cx.wish (X:Cx) (E:Value->Shared->Prop):Cx:={ X with xe:=E }
noncomputable abbrev Cx.nox (X:Cx):Cx:=X.wish fun _ _=>False
theorem Cx.Ok.wish{X:Cx}(ok:X.Ok)(E:Value->Shared->Prop):(X.wish E).Ok :=
 ⟨ok.mod,ok.kind,ok.glob,ok.blt,ok.above,ok.inj,ok.has,ok.cab,ok.hd,ok.frames,ok.stk,ok.exf,ok.bs,ok.bsz,ok.noex,ok.exfs,ok.funs,ok.frf⟩
theorem Cx.Ok.unwish{X:Cx}{E:Value->Shared->Prop}(ok:(X.wish E).Ok):X.Ok :=
 ⟨ok.mod,ok.kind,ok.glob,ok.blt,ok.above,ok.inj,ok.has,ok.cab,ok.hd,ok.frames,ok.stk,ok.exf,ok.bs,ok.bsz,ok.noex,ok.exfs,ok.funs,ok.frf⟩
section
variable {X:Cx} {pins:List (Addr×Obj)} {σ:St} {H:Hp} {s:Shared} {E:Value->Shared->Prop}
theorem Inv.wish(I:Inv X pins σ H s)(E:Value->Shared->Prop):Inv (X.wish E) pins σ H s:=⟨I.ok.wish E,I.os,I.bare,I.base,I.loc,I.cell,I.free,I.freeC,I.pin,I.hok,I.len⟩
theorem Inv.unwish(I:Inv (X.wish E) pins σ H s):Inv X pins σ H s:=⟨I.ok.unwish,I.os,I.bare,I.base,I.loc,I.cell,I.free,I.freeC,I.pin,I.hok,I.len⟩
theorem SP.unwish{D:Ends}{f:Flow}{s':Shared}(h:SP (X.wish E) pins D f s'):SP X pins D f s':=by
 cases f with
 | next=>obtain⟨σ',H',I,q⟩:=h;exact⟨σ',H',I.unwish,q⟩
 | brk=>obtain⟨σ',H',I,q⟩:=h;exact⟨σ',H',I.unwish,q⟩
 | cont=>obtain⟨σ',H',I,q⟩:=h;exact⟨σ',H',I.unwish,q⟩
 | ret u=>obtain⟨v,σ',H',I,r,q⟩:=h;exact⟨v,σ',H',I.unwish,r,q⟩
theorem PSs.nox{st:List Stmt}{t:TS}(h:PSs X.nox st t):PSs X st t:=fun pins s σ H D I hw =>
 A9 (h pins s σ H D (I.wish _) hw) (fun _ _ q=>q.unwish) fun _ _ z=>False.elim z
end
section
variable {X:Cx} {st:Stmt} {rest:List Stmt} {t u:TS} {e:Expr} {te:TE} {pos:Pos}
noncomputable def zn4:TS:=fun D σ H=>D.nx σ H
noncomputable def tSeq(t u:TS):TS:=fun D σ H=>t { D with nx:=u D } σ H
theorem zli:PSs X [] zn4:=fun _ _ σ H _ I h=>Dm ⟨σ,H,I,h⟩
theorem zjR(h1:PS X st t)(h2:PSs X rest u):PSs X (st::rest) (tSeq t u):=by
 intro pins s σ H D I h;refine wpAny_execs_cons (thn (h1 pins s σ H { D with nx:=u D } I h) fun f s1 q=>?_)
 cases f with
 | next =>
   obtain⟨σ',H',I',q⟩:=q;exact h2 pins s1 σ' H' D I' q
 | ret v=>exact q
 | brk=>exact q
 | cont=>exact q
theorem zlh(h1:PS X st t):PSs X [st] t:=by
 intro pins s σ H D I h;refine wpAny_execs_cons (thn (h1 pins s σ H D I h) fun f s1 q=>?_)
 cases f with
 | next=>exact Dm q
 | ret v=>exact q
 | brk=>exact q
 | cont=>exact q
theorem Inv.quiet{pins:List (Addr×Obj)}{σ:St}{H:Hp}{s:Shared}(I:Inv X pins σ H s):interactive X.env=false:=by simp[interactive,I.ok.kind]
noncomputable def zn5(te:TE):TS:=fun D σ H=>te σ H fun _ H1=>D.nx σ H1
theorem zlj(he:PE X e te)(hs:swapsWith e none pos.line X.env=pure false:=by rfl):PS X (.Expr e pos) (zn5 te):=by
 intro pins s σ H D I h;exact wpAny_Expr_any (thn (he pins s σ H _ I h) fun v s1 ⟨x,H1,I1,r1,q1⟩=>⟨σ,H1,I1,q1⟩) I.quiet hs
noncomputable def tRet(te:TE):TS:=fun D σ H=>te σ H D.rt
theorem zmS(he:PE X e te):PS X (.Return (some e) pos) (tRet te):=by
 intro pins s σ H D I h;exact wpAny_Return_some (thn (he pins s σ H _ I h) fun v s1 ⟨x,H1,I1,r1,q1⟩=>⟨x,σ,H1,I1,r1,q1⟩)
noncomputable def tIfS(c:TT)(t u:TS):TS:=fun D σ H=>c σ H fun b H1=>if b=true then t D σ H1 else u D σ H1
theorem zom{c:Expr}{a b:List Stmt}{tc:TT}(hc:PT X c tc)(ha:PSs X a t)(hb:PSs X b u):PS X (.If c a b pos) (tIfS tc t u):=by
 intro pins s σ H D I h;refine wpAny_If (thn (hc pins s σ H _ I h) ?_);rintro d s1 ⟨H1,I1,q1⟩
 cases d with
 | true=>exact ha pins s1 σ H1 D I1 q1
 | false=>exact hb pins s1 σ H1 D I1 q1
end
noncomputable abbrev TG:=V->St->Hp->(St->Hp->Prop)->Prop
noncomputable abbrev TGs:=List V->St->Hp->(St->Hp->Prop)->Prop
def PG(X:Cx)(target:Expr)(t:TG):Prop :=
 ∀ (pins:List (Addr×Obj)) (s:Shared) (σ:St) (H:Hp) (v:V) (u:Value) (Q:St->Hp->Prop),Inv X pins σ H s->RelV v u->t v σ H Q ->
   wpAny (model X.prog X.w) X.A (assign target X.env u) (fun _ s'=>∃ σ' H',Inv X pins σ' H' s'/\Q σ' H') X.xe s
def PGs(X:Cx)(ts:List Expr)(t:TGs):Prop :=
 ∀ (pins:List (Addr×Obj)) (s:Shared) (σ:St) (H:Hp) (vs:List V) (us:List Value) (Q:St->Hp->Prop),Inv X pins σ H s->Vals vs us->t vs σ H Q ->
   wpAny (model X.prog X.w) X.A (assignInOrder ((assignEach ts X.env).map (·.2)) us) (fun _ s'=>∃ σ' H',Inv X pins σ' H' s'/\Q σ' H') X.xe s
noncomputable abbrev TSet:=V->V->V->Hp->(Hp->Prop)->Prop
def PSet(X:Cx)(t:TSet):Prop :=
 ∀ (pins:List (Addr×Obj)) (s:Shared) (σ:St) (H:Hp) (o i v:V) (ov iv u:Value) (Q:Hp->Prop),Inv X pins σ H s->RelV o ov->RelV i iv->RelV v u->t o i v H Q ->
   wpAny (model X.prog X.w) X.A (setItem ov iv u) (fun _ s'=>∃ H',Inv X pins σ H' s'/\Q H') X.xe s
section
variable {X:Cx} {pos:Pos}
noncomputable def znV(i:Nat):TG:=fun v σ H Q=>Q (σ.set i (some v)) H
theorem zlo{i:Nat}{x:Str}(hN:X.N.Nodup)(hi:X.N[i]?=some x)(hx:Loc X.env.scope x)(hf:X.fn x=true\/X.env.scope.names.lookup x=some .local:=by first | exact .inl rfl | exact .inr rfl | assumption):PG X (.Name x pos) (znV i):=by
 intro pins s σ H v u Q I r h;exact Eo (zgy I hN hi hx r (fun s' I'=>⟨_,H,I',h⟩) hf)
noncomputable def gNil:TGs:=fun vs σ H Q=>vs=[]/\Q σ H
noncomputable def zoK(t:TG)(u:TGs):TGs:=fun vs σ H Q=>∃ v r,vs=v::r/\t v σ H fun σ' H'=>u r σ' H' Q
theorem zln:PGs X [] gNil:=by
 intro pins s σ H vs us Q I r h;obtain⟨e,h⟩:=h;subst e;cases r;exact assignInOrder_nil ⟨σ,H,I,h⟩
theorem zjW{e:Expr}{es:List Expr}{t:TG}{u:TGs}(h1:PG X e t)(h2:PGs X es u)
   (hs:(assignEach (e::es) X.env).map (·.2)=assign e X.env::(assignEach es X.env).map (·.2):=by rfl):PGs X (e::es) (zoK t u):=by
 intro pins s σ H vs us Q I r h;obtain⟨v,vr,e1,h⟩:=h;subst e1
 cases r with
 | cons r rr =>
   rw[hs];refine assignInOrder_cons (thn (h1 pins s σ H _ _ _ I r h) ?_);rintro _ s1 ⟨σ1,H1,I1,q1⟩;exact h2 pins s1 σ1 H1 _ _ Q I1 rr q1
noncomputable def gTup(K:Ab)(n:Nat)(t:TGs):TG:=fun v σ H Q=>∃ a xs,v=.ref a/\SqT K H a xs/\xs.length=n/\t xs σ H Q
theorem zmY{es:List Expr}{k:Nat}{t:TGs}{n:Nat}(hc:X.calm=true)(h:PGs X es t)
   (hn:(assignEach es X.env).length=n:=by rfl) (hst:(assignEach es X.env).findIdx? (·.1)=none:=by rfl):PG X (.Tuple es k pos) (gTup X.K n t):=by
 intro pins s σ H v u Q I r hw;obtain⟨a,xs,e1,hq,hl,hw⟩:=hw;subst e1;cases r;obtain⟨its,rv,ht,hz⟩:=I.tuple hq;refine assign_Tuple_tuple (I.ok.hd hc) ht (by simp[hn,<-hl,rv.length]) hst fun h' hx=>?_;have I1:Inv X pins σ H { s with heap:=h' }:=I.kept (t':=s.toks) fun b o e=>hx b o (Aw (Aj e)) e;exact h pins _ σ H xs _ Q I1 (by simpa using rv) hw
noncomputable def gSub(to ti:TE)(t:TSet):TG:=fun v σ H Q=>to σ H fun o H1=>ti σ H1 fun i H2=>t o i v H2 fun H3=>Q σ H3
theorem zmZ{o i:Expr}{to ti:TE}{t:TSet}(ho:PE X o to)(hi:PE X i ti)(hs:PSet X t)
   (ha:∀ v,assign (.Subscript o i pos) X.env v=(do
     let ov <-holding [v] (eval o X.env)
     let iv <-holding [v,ov] (eval i X.env)
     standAt pos
     holding [v,ov,iv] (setItem ov iv v)
     release [v,ov,iv] []):=by intro _;rfl):PG X (.Subscript o i pos) (gSub to ti t):=by
 intro pins s σ H v u Q I r h;rw[ha];refine Aa (AR (thn (ho pins s σ H _ I h) ?_));rintro ov s1 ⟨x,H1,I1,r1,q1⟩;refine Aa (AR (thn (hi pins s1 σ H1 _ I1 q1) ?_));rintro iv s2 ⟨y,H2,I2,r2,q2⟩;refine Aa (DV (Aa (AR (thn (hs pins s2 σ H2 x y v ov iv u _ I2 r1 r2 r q2) ?_))));rintro _ s3 ⟨H3,I3,q3⟩;exact wpAny_release ⟨σ,H3,I3,q3⟩
noncomputable def tAsg(te:TE)(g:TG):TS:=fun D σ H=>te σ H fun x H1=>g x σ H1 D.nx
theorem zmU{tg e:Expr}{te:TE}{g:TG}(he:PE X e te)(hg:PG X tg g)(hs:swapsWithSole [tg] e pos.line X.env=pure false:=by rfl)(hw:swappedStores [tg] e X.env=pure none:=by rfl)
   (h1:(assignEach [tg] X.env).map (·.2)=[assign tg X.env]:=by rfl):PS X (.Assign [tg] e pos) (tAsg te g):=by
 intro pins s σ H D I h;refine wpAny_Assign_stores (thn (he pins s σ H _ I h) ?_) hs hw;rintro v s1 ⟨x,H1,I1,r1,q1⟩;rw[h1];exact thn (hg pins s1 σ H1 x v _ I1 r1 q1) fun _ s2 q=>q
theorem zmR{i:Nat}{x:Str}{e:Expr}{te:TE}{pos':Pos}(hN:X.N.Nodup)(hi:X.N[i]?=some x)(hx:Loc X.env.scope x)(he:PE X e te)(hs:swapsWith e (some (.Name x pos')) pos.line X.env=pure false:=by rfl)(hf:X.fn x=true\/X.env.scope.names.lookup x=some .local:=by first | exact .inl rfl | exact .inr rfl | assumption) :
   PS X (.Assign [.Name x pos'] e pos) (tAsg te (znV i)):=by
 intro pins s σ H D I h;refine wpAny_Assign_Name (thn (he pins s σ H _ I h) ?_) hs;rintro v s1 ⟨y,H1,I1,r1,q1⟩;exact zgy I1 hN hi hx r1 (fun s2 I2=>⟨_,H1,I2,q1⟩) hf
end
structure It where
 go:Nat->Hp->Prop
 yld:Nat->Hp->V->Hp->Prop
 stop:Nat->Hp->Prop
def FpOk(X:Cx)(pins:List (Addr×Obj))(H:Hp)(b:Addr):Prop :=
 H b=none/\b≠X.env.locals/\b ∉ X.fs/\(b∈X.ex\/X.s₀.heap.objs.size<=b)/\(∀ x c,X.env.cells.lookup x=some c->c≠b)/\∀ p∈X.pn++pins,p.1≠b
theorem Inv.fpOk{X:Cx}{pins:List (Addr×Obj)}{σ:St}{H H':Hp}{s:Shared}{b:Addr}(I:Inv X pins σ H s)(hb:s.heap.objs.size<=b)(hn:H' b=none):FpOk X pins H' b:=by
 refine⟨hn,B6 (As I.lt hb),I.nofs hb,.inr (AB I.sz hb),fun x c e z=>?_,fun p hp z=>?_⟩
 . obtain⟨v,q⟩:=I.cell x c e;exact absurd (As q.lt (by rw[z];exact hb)) (AM _)
 . exact absurd (As (Aj (I.pin p hp).1) (by rw[z];exact hb)) (AM _)
structure Turn(P:Program)(w:World)(K:Ab)(tg:Expr)(J:It)(fp:List Addr)(it:Addr)(tn:Nat->Heap->Prop):Prop where
 mem:it∈fp
 obj:∀ i h,tn i h->∀ b∈fp,∃ o,h.get? b=some o/\∀ v,o.data≠.cell v
 keep:∀ i h h',tn i h->(∀ b∈fp,∀ o,h.get? b=some o->h'.get? b=some o)->tn i h'
 item:∀ (X:Cx),X.prog=P->X.w=w->X.K=K->X.calm=true->∀ (i:Nat) (pins:List (Addr×Obj)) (s:Shared) (σ:St) (H:Hp) (E:Value->Shared->Prop),Inv X pins σ H s->(∀ b∈fp,FpOk X pins H b)->tn i s.heap->J.go i H ->
   wpAny (model P w) X.A (pyNext (.ref it)) (fun r s1=>∃ u,r=some u /\
     wpAny (model P w) X.A (letOwnedTupleGo tg (.ref it) u) (fun _ s2=>∃ x H',Inv X pins σ H' s2/\RelV x u/\J.yld i H x H'/\tn (i+1) s2.heap/\∀ b∈fp,H' b=none) E s1) E s
 done:∀ (X:Cx),X.prog=P->X.w=w->X.K=K->X.calm=true->∀ (i:Nat) (pins:List (Addr×Obj)) (s:Shared) (σ:St) (H:Hp) (E:Value->Shared->Prop),Inv X pins σ H s->(∀ b∈fp,FpOk X pins H b)->tn i s.heap->J.stop i H ->
   wpAny (model P w) X.A (pyNext (.ref it)) (fun r s1=>r=none/\Inv X pins σ H s1) E s
 self:∀ (A:Around) (i:Nat) (s:Shared) (Q:Value->Shared->Prop) (E:Value->Shared->Prop),tn i s.heap->Q (.ref it) s->wpAny (model P w) A (pyIter (.ref it)) Q E s
noncomputable abbrev TI:=St->Hp->(It->Hp->Prop)->Prop
def PIE(X:Cx)(pins:List (Addr×Obj))(σ:St)(tg:Expr)(R:It->Hp->Prop)(itv:Value)(s2:Shared):Prop :=
 ∃ (it:Addr) (fp:List Addr) (tn:Nat->Heap->Prop) (J:It) (H':Hp),itv=.ref it/\Inv X pins σ H' s2/\Turn X.prog X.w X.K tg J fp it tn/\tn 0 s2.heap/\(∀ b∈fp,FpOk X pins H' b)/\R J H'
def PI(X:Cx)(tg iter:Expr)(wi:TI):Prop :=
 ∀ (pins:List (Addr×Obj)) (s:Shared) (σ:St) (H:Hp) (R:It->Hp->Prop),Inv X pins σ H s->wi σ H R ->
   wpAny (model X.prog X.w) X.A (eval iter X.env) (fun v s1=>wpAny (model X.prog X.w) X.A (pyIter v) (PIE X pins σ tg R) X.xe s1) X.xe s
theorem zmo{M:Model}{A:Around}{E:Value->Shared->Prop}{s:Shared}{tg:Expr}{it:Addr}{u:Value}{o:Obj}{n:String}{vs:Array Value}{Q:Unit->Shared->Prop}(ho:s.heap.get? it=some o)(hc:o.cls=.type n)(hd:o.data=.fields vs)
   (hn:["enumerate","zip","dict_itemiterator","dict_reverseitemiterator","odict_iterator","itertools.zip_longest","itertools.pairwise"].contains n=false) (hQ:Q () s):wpAny M A (letOwnedTupleGo tg (.ref it) u) Q E s:=by
 unfold letOwnedTupleGo
 cases tg <;> first
   | exact Ad hQ
   | (cases u <;> first
       | exact Ad hQ
       | (refine Aa (wpAny_load ho ?_)
          rw[hc,hd];show wpAny M A (if (["enumerate","zip","dict_itemiterator","dict_reverseitemiterator","odict_iterator","itertools.zip_longest","itertools.pairwise"].contains n&&vs[0]?==some (rawInt _))=true then _ else _) Q E s;rw[if_neg (by intro h;rw[hn,DD] at h;cases h)];exact Ad hQ))
noncomputable def Itl(K:Ab)(a:Addr):It :=
 ⟨fun i H=>∃ xs x,SqL K H a xs/\xs[i]?=some x,fun i H x H'=>H'=H/\∀ xs,SqL K H a xs->xs[i]?=some x,fun i H=>∃ xs,SqL K H a xs/\xs.length<=i⟩
noncomputable def Itt(K:Ab)(a:Addr):It :=
 ⟨fun i H=>∃ xs x,SqT K H a xs/\xs[i]?=some x,fun i H x H'=>H'=H/\∀ xs,SqT K H a xs->xs[i]?=some x,fun i H=>∃ xs,SqT K H a xs/\xs.length<=i⟩
noncomputable def Itr(lo:Int)(n:Nat):It:=⟨fun i _=>i < n,fun i H x H'=>H'=H/\x=.int (lo+i),fun i _=>n<=i⟩
theorem zhQ{P:Program}{w:World}{K:Ab}{tg:Expr}(a it:Addr):Turn P w K tg (Itl K a) [it] it (fun i h=>h.IsListIter it a i) where
 mem:=by simp
 obj:=fun i h st b hb=>by
   have e:b=it:=by simpa using hb
   subst e;obtain⟨o,e,c,d⟩:=st;exact⟨o,e,fun v z=>by rw[d] at z;cases z⟩
 keep:=fun i h h' st k=>st.at fun o e=>k it (by simp) o e
 item:=by
   intro X hP hw hK hc i pins s σ H E I hf st hg;subst hP hw hK;obtain⟨xs,x,hq,hx⟩:=hg;obtain⟨its,rv,p,hz⟩:=I.list hq;obtain⟨u,hu,ru⟩:=rv.get hx;obtain⟨f0,f1,f2,f3,f4,f5⟩:=hf it (by simp);refine Cj st p.isList (x:=u) (by simpa using hu) fun h' st' sb=>?_;have I1:Inv X pins σ H { s with heap:=h' }:=I.turned (t':=s.toks) (fun b o hb e=>(sb.2 b hb).trans e) f0 f1 f3 f4 f5;obtain⟨o,e,c,d⟩:=id st';exact⟨u,rfl,zmo (s:={ s with heap:=h' }) e c d (by decide) ⟨x,H,I1,ru,⟨rfl,fun ys hy=>by rw[I.list_inj hy hq];exact hx⟩,st',fun b hb=>(hf b hb).1⟩⟩
 done:=by
   intro X hP hw hK hc i pins s σ H E I hf st hg;subst hP hw hK;obtain⟨xs,hq,hx⟩:=hg;obtain⟨its,rv,p,hz⟩:=I.list hq;obtain⟨f0,f1,f2,f3,f4,f5⟩:=hf it (by simp);have hl:=rv.length;exact Cu (I.ok.hd hc) st p.isList (by simp;omega) fun h' eb=>⟨rfl,I.turned (t':=s.toks) (fun b o hb e=>eb b o hb e) f0 f1 f3 f4 f5⟩
 self:=fun _ _ _ _ _ st h=>wpAny_pyIter_listiter st h
theorem zgr{P:Program}{w:World}{K:Ab}{tg:Expr}(a it:Addr):Turn P w K tg (Itt K a) [it] it (fun i h=>h.IsTupleIter it a i) where
 mem:=by simp
 obj:=fun i h st b hb=>by
   have e:b=it:=by simpa using hb
   subst e;obtain⟨o,e,c,d⟩:=st;exact⟨o,e,fun v z=>by rw[d] at z;cases z⟩
 keep:=fun i h h' st k=>st.at fun o e=>k it (by simp) o e
 item:=by
   intro X hP hw hK hc i pins s σ H E I hf st hg;subst hP hw hK;obtain⟨xs,x,hq,hx⟩:=hg;obtain⟨its,rv,p,hz⟩:=I.tuple hq;obtain⟨u,hu,ru⟩:=rv.get hx;obtain⟨f0,f1,f2,f3,f4,f5⟩:=hf it (by simp);refine Di st (show s.heap.IsTuple a its.toArray from p) (x:=u) (by simpa using hu) fun h' st' sb=>?_;have I1:Inv X pins σ H { s with heap:=h' }:=I.turned (t':=s.toks) (fun b o hb e=>(sb.2 b hb).trans e) f0 f1 f3 f4 f5;obtain⟨o,e,c,d⟩:=id st';exact⟨u,rfl,zmo (s:={ s with heap:=h' }) e c d (by decide) ⟨x,H,I1,ru,⟨rfl,fun ys hy=>by rw[I.tuple_inj hy hq];exact hx⟩,st',fun b hb=>(hf b hb).1⟩⟩
 done:=by
   intro X hP hw hK hc i pins s σ H E I hf st hg;subst hP hw hK;obtain⟨xs,hq,hx⟩:=hg;obtain⟨its,rv,p,hz⟩:=I.tuple hq;obtain⟨f0,f1,f2,f3,f4,f5⟩:=hf it (by simp);have hl:=rv.length;exact Dw (I.ok.hd hc) st (show s.heap.IsTuple a its.toArray from p) (by simp;omega) fun h' eb=>⟨rfl,I.turned (t':=s.toks) (fun b o hb e=>eb b o hb e) f0 f1 f3 f4 f5⟩
 self:=fun _ _ _ _ _ st h=>wpAny_pyIter_tupleiter st h
theorem zgs{P:Program}{w:World}{K:Ab}{tg:Expr}(it:Addr)(lo:Int)(n:Nat):Turn P w K tg (Itr lo n) [it] it (fun i h=>IsRangeIter h it (lo+(i:Nat)*1) ((n:Int) - (i:Nat)) 1) where
 mem:=by simp
 obj:=fun i h st b hb=>by
   have e:b=it:=by simpa using hb
   subst e;exact⟨_,st,fun v z=>by
     have z':Data.fields _=Data.cell v:=z;cases z'⟩
 keep:=fun i h h' st k=>k it (by simp) _ st
 item:=by
   intro X hP hw hK hc i pins s σ H E I hf st hg;subst hP hw hK;obtain⟨f0,f1,f2,f3,f4,f5⟩:=hf it (by simp);have W:=Walks.range (prog:=X.prog) (w:=X.w) (I.ok.hd hc) it lo 1 n;refine W.item i s _ _ hg st fun v h' tk hv st' kk=>?_;obtain⟨t,rfl⟩:=hv;have I1:Inv X pins σ H { s with heap:=h',toks:=tk }:=I.turned (fun b o hb e=>kk b o (by simpa using hb) e) f0 f1 f3 f4 f5;refine⟨_,rfl,zmo (s:={ s with heap:=h',toks:=tk }) (n:="range_iterator") st' rfl rfl (by decide) ⟨.int (lo+i),H,I1,⟨t,?_⟩,⟨rfl,rfl⟩,st',fun b hb=>(hf b hb).1⟩⟩;rw[Int.mul_one]
 done:=by
   intro X hP hw hK hc i pins s σ H E I hf st hg;subst hP hw hK;obtain⟨f0,f1,f2,f3,f4,f5⟩:=hf it (by simp);exact wpAny_pyNext_range_end (I.ok.hd hc) st (by have:n<=i:=hg;omega) fun h' eb=>⟨rfl,I.turned (t':=s.toks) (fun b o hb e=>eb b o hb e) f0 f1 f3 f4 f5⟩
 self:=fun _ _ _ _ _ st h=>wpAny_pyIter_rangeiter st h
section
variable {X:Cx} {tg:Expr}
noncomputable def zoG(K:Ab)(tl:TE):TI:=fun σ H R=>tl σ H fun x H1=>∃ a,x=.ref a/\(∃ xs,SqL K H1 a xs)/\R (Itl K a) H1
noncomputable def iTup(K:Ab)(tl:TE):TI:=fun σ H R=>tl σ H fun x H1=>∃ a,x=.ref a/\(∃ xs,SqT K H1 a xs)/\R (Itt K a) H1
theorem zlm{l:Expr}{tl:TE}(hl:PE X l tl):PI X tg l (zoG X.K tl):=by
 intro pins s σ H R I h;refine thn (hl pins s σ H _ I h) ?_;rintro v s1 ⟨x,H1,I1,r1,q1⟩;obtain⟨a,e,⟨xs,hq⟩,q⟩:=q1;subst e;cases r1;obtain⟨its,rv,p,hz⟩:=I1.list hq;refine CW p.isList ?_;refine⟨s1.heap.objs.size,[s1.heap.objs.size],_,_,H1,rfl,I1.kept (t':=s1.toks) fun b o e=>Ac _ e,zhQ a _,⟨_,Ap _ rfl,rfl,rfl⟩,fun b hb=>?_,q⟩;have e:b=s1.heap.objs.size:=by simpa using hb
 subst e;exact I1.fpOk (Af _) (I1.hok.fresh (Af _))
theorem zmW{l:Expr}{tl:TE}(hl:PE X l tl):PI X tg l (iTup X.K tl):=by
 intro pins s σ H R I h;refine thn (hl pins s σ H _ I h) ?_;rintro v s1 ⟨x,H1,I1,r1,q1⟩;obtain⟨a,e,⟨xs,hq⟩,q⟩:=q1;subst e;cases r1;obtain⟨its,rv,p,hz⟩:=I1.tuple hq;refine wpAny_pyIter_tuple (show s1.heap.IsTuple a its.toArray from p) ?_;refine⟨s1.heap.objs.size,[s1.heap.objs.size],_,_,H1,rfl,I1.kept (t':=s1.toks) fun b o e=>Ac _ e,zgr a _,⟨_,Ap _ rfl,rfl,rfl⟩,fun b hb=>?_,q⟩;have e:b=s1.heap.objs.size:=by simpa using hb
 subst e;exact I1.fpOk (Af _) (I1.hok.fresh (Af _))
theorem zjP{pins:List (Addr×Obj)}{σ:St}{H:Hp}{s:Shared}{R:It->Hp->Prop}{E:Value->Shared->Prop}{lo hi:Int}{t u v:Tok}{tk:Nat}(I:Inv X pins σ H s)(h1:-(2 ^ 62)<=lo)(h2:lo < 2 ^ 62)(h3:-(2 ^ 62)<=hi)(h4:hi < 2 ^ 62)
   (q:R (Itr lo (hi - lo).toNat) H):wpAny (model X.prog X.w) X.A (pyIter (.ref s.heap.objs.size)) (PIE X pins σ tg R) E { s with heap:=s.heap.push { cls:=.type "range",data:=.fields #[.int lo t,.int hi u,.int 1 v] },toks:=tk }:=by
 refine wpAny_pyIter_range (IsRange.new ..) (small_one h1 h2 h3 h4) ?_;have I1:Inv X pins σ H { s with heap:=s.heap.push { cls:=.type "range",data:=.fields #[.int lo t,.int hi u,.int 1 v] },toks:=tk }:=I.kept fun b o e=>Ac _ e;refine⟨(s.heap.push { cls:=.type "range",data:=.fields #[.int lo t,.int hi u,.int 1 v] }).objs.size,[(s.heap.push { cls:=.type "range",data:=.fields #[.int lo t,.int hi u,.int 1 v] }).objs.size],_,_,H,rfl,
   I1.kept (t':=tk) fun b o e=>Ac _ e,zgs _ lo (hi - lo).toNat,?_,fun b hb=>?_,q⟩
 . have e1:lo+((0:Nat):Int)*1=lo:=by simp
   have e2:(((hi - lo).toNat:Nat):Int) - ((0:Nat):Int)=Builtin.Range.rangeSize lo hi 1:=by rw[rangeSize_one];split <;> omega
   show IsRangeIter _ _ (lo+((0:Nat):Int)*1) ((((hi - lo).toNat:Nat):Int) - ((0:Nat):Int)) 1;rw[e1,e2];exact Ap _ rfl
 . have e:b=(s.heap.push { cls:=.type "range",data:=.fields #[.int lo t,.int hi u,.int 1 v] }).objs.size:=by simpa using hb
   subst e;exact I1.fpOk (Af _) (I1.hok.fresh (Af _))
noncomputable def zoF(ta:TA):TI:=fun σ H R=>ta σ H fun vs H1=>∃ j:Int,vs=[.int j]/\-(2 ^ 62)<=j/\j < 2 ^ 62/\R (Itr 0 j.toNat) H1
theorem zib{a:Expr}{ta:TA}{p pos:Pos}(hg:Gl X "range")(hm:X.mg "range"=none)(ha:PA X [a] ta)(hs:starEach [a] X.env=[(false,eval a X.env)]:=by rfl):PI X tg (.Call (.Name "range" p) [a] [] pos) (zoF ta):=by
 intro pins s σ H R I h;refine Call_ (zhf I hg hm boot_range (BQ (thn (ha pos pins s σ H _ I h) ?_) hs rfl));rintro us s1 ⟨vs,H1,I1,r1,q1⟩;obtain⟨j,e,q1,q2,q⟩:=q1;subst e
 cases r1 with
 | cons r rr =>
   cases rr;obtain⟨t,rfl⟩:=r;exact call_range_1 (zjP I1 (by omega) (by omega) q1 q2 (by simpa using q))
noncomputable def tFor(wi:TI)(g:TG)(tb:TS):TS:=fun D σ H=>wi σ H fun J H1=>∃ W:Nat->Nat->St->Hp->Prop,(∃ m,W 0 m σ H1)/\∀ i m σ H,W i m σ H ->
 (J.stop i H/\D.nx σ H)\/(J.go i H/\∃ N:St->Hp->Prop,(∀ σ' H',N σ' H'->∃ m',m' < m/\W (i+1) m' σ' H')/\∀ x H',J.yld i H x H'->g x σ H' fun σ2 H2=>tb { D with nx:=N,ct:=N,bk:=D.nx } σ2 H2)
noncomputable def zgQ(fp:List Addr)(h:Heap):List (Addr×Obj):=fp.filterMap fun b=>(h.get? b).map fun o=>(b,o)
theorem zcj{fp:List Addr}{h:Heap}{b:Addr}{o:Obj}(hb:b∈fp)(e:h.get? b=some o):(b,o)∈zgQ fp h:=List.mem_filterMap.mpr ⟨b,hb,by rw[e];rfl⟩
theorem zig{fp:List Addr}{h:Heap}{p:Addr×Obj}(hp:p∈zgQ fp h):p.1∈fp/\h.get? p.1=some p.2:=by
 obtain⟨b,hb,e⟩:=List.mem_filterMap.mp hp
 cases q:h.get? b with
 | none=>rw[q] at e;cases e
 | some o =>
   rw[q] at e;have e':(b,o)=p:=Ai e;subst e';exact⟨hb,q⟩
theorem Inv.pinned{pins:List (Addr×Obj)}{σ:St}{H:Hp}{s:Shared}{fp:List Addr}(I:Inv X pins σ H s)(hf:∀ b∈fp,FpOk X pins H b)(ho:∀ b∈fp,∃ o,s.heap.get? b=some o/\∀ v,o.data≠.cell v):Inv X (pins++zgQ fp s.heap) σ H s :=
 I.pins_of fun p hp=>(List.mem_append.mp hp).elim (fun z=>I.pin p (AO _ z)) fun z=>by
   obtain⟨hb,e⟩:=zig z;obtain⟨f0,f1,f2,_⟩:=hf p.1 hb;obtain⟨o,e',d⟩:=ho p.1 hb;rw[e] at e';cases e';exact⟨e,f0,f1,f2,d⟩
theorem Inv.unpinned{pins pl:List (Addr×Obj)}{σ:St}{H:Hp}{s:Shared}(I:Inv X (pins++pl) σ H s):Inv X pins σ H s:=I.pins_of fun p hp=>I.pin p (AO _ (Bx _ hp))
theorem zmT{iter:Expr}{body:List Stmt}{wi:TI}{g:TG}{tb:TS}{pos:Pos}(hp:PassesOwn (model X.prog X.w) X.A X.env X.xe)(hc:X.calm=true)(hi:PI X tg iter wi)(hg:PG X tg g)(hb:PSs X body tb)
   (hs:∀ x,foldedSetIterable iter X.env x=pure x:=by intro _;rfl):PS X (.For tg iter body [] pos) (tFor wi g tb):=by
 intro pins s σ H D I h;refine wpAny_For (thn (hi pins s σ H _ I h) fun v s1 h1=>thn h1 fun itv s2 h2=>?_) hs;obtain⟨it,fp,tn,J,H2,e,I2,T,st2,f2,W,⟨m0,w0⟩,turn⟩:=h2;subst e
 -- what stays true of the iterator's objects through the loop
 have stat:∀ {H':Hp},(∀ b∈fp,H' b=none)->∀ b∈fp,FpOk X pins H' b:=fun hn b hb=>⟨hn b hb,(f2 b hb).2⟩
 refine codeAny_forLoop_any (fun n s'=>∃ i σ' H',Inv X pins σ' H' s'/\tn i s'.heap/\(∀ b∈fp,H' b=none)/\W i n σ' H') ?_ m0 ⟨0,σ,H2,I2,st2,fun b hb=>(f2 b hb).1,w0⟩;rintro n s3 ⟨i,σ3,H3,I3,st3,fr3,w3⟩
 rcases turn i n σ3 H3 w3 with ⟨stop,qn⟩ | ⟨go,N,hN,step⟩
 . refine B1 hp (thn (T.done X rfl rfl rfl hc i pins s3 σ3 H3 X.xe I3 (stat fr3) st3 stop) ?_);rintro r s4 ⟨hr,I4⟩;subst hr;exact Dm ⟨σ3,H3,I4,qn⟩
 . refine B1 hp (thn (T.item X rfl rfl rfl hc i pins s3 σ3 H3 X.xe I3 (stat fr3) st3 go) ?_);rintro r s4 ⟨u,hr,h4⟩;subst hr;refine B1 hp (thn h4 ?_);rintro _ s5 ⟨x,H5,I5,r5,y5,st5,fr5⟩;have I5':=I5.pinned (stat fr5) (T.obj _ _ st5);refine B1 hp (thn (hg _ s5 σ3 H5 x u _ I5' r5 (step x H5 y5)) ?_);rintro _ s6 ⟨σ6,H6,I6,q6⟩;refine B1 hp (thn (hb _ s6 σ6 H6 _ I6 q6) fun f s7 q7=>?_);have again:∀ {σ7:St} {H7:Hp},Inv X (pins++zgQ fp s5.heap) σ7 H7 s7->N σ7 H7->∃ m,m < n/\∃ i σ' H',Inv X pins σ' H' s7/\tn i s7.heap/\(∀ b∈fp,H' b=none)/\W i m σ' H':=fun {σ7 H7} I7 n7=>by
     obtain⟨m',hm,w7⟩:=hN σ7 H7 n7;refine⟨m',hm,i+1,σ7,H7,I7.unpinned,T.keep _ _ _ st5 fun b hb o e=>(I7.pin (b,o) (AO _ (AO _ (zcj hb e)))).1,fun b hb=>?_,w7⟩;obtain⟨o,e,d⟩:=T.obj _ _ st5 b hb;exact (I7.pin (b,o) (AO _ (AO _ (zcj hb e)))).2.1
   cases f with
   | next=>obtain⟨σ7,H7,I7,n7⟩:=q7;exact again I7 n7
   | cont=>obtain⟨σ7,H7,I7,n7⟩:=q7;exact again I7 n7
   | brk=>obtain⟨σ7,H7,I7,q7⟩:=q7;exact⟨σ7,H7,I7.unpinned,q7⟩
   | ret v=>obtain⟨x7,σ7,H7,I7,r7,q7⟩:=q7;exact⟨x7,σ7,H7,I7.unpinned,r7,q7⟩
end
noncomputable abbrev R2:=V->V->Hp->VK->Prop
def OpR(X:Cx)(f:Value->Value->Sem Value)(r:R2):Prop :=
 ∀ (pins:List (Addr×Obj)) (s:Shared) (σ:St) (H:Hp) (x y:V) (v u:Value) (Q:VK),Inv X pins σ H s->RelV x v->RelV y u->r x y H Q ->
   wpAny (model X.prog X.w) X.A (f v u) (EP X pins σ Q) X.xe s
def UnR(X:Cx)(f:Value->Sem Value)(r:V->Hp->VK->Prop):Prop :=
 ∀ (pins:List (Addr×Obj)) (s:Shared) (σ:St) (H:Hp) (x:V) (v:Value) (Q:VK),Inv X pins σ H s->RelV x v->r x H Q ->
   wpAny (model X.prog X.w) X.A (f v) (EP X pins σ Q) X.xe s
def zhK(X:Cx)(f:Value)(r:List V->Hp->VK->Prop):Prop :=
 ∀ (pins:List (Addr×Obj)) (s:Shared) (σ:St) (H:Hp) (xs:List V) (us:List Value) (Q:VK),Inv X pins σ H s->Vals xs us->r xs H Q ->
   wpAny (model X.prog X.w) X.A (call f us) (EP X pins σ Q) X.xe s
def TruR(X:Cx)(r:V->Hp->(Bool->Hp->Prop)->Prop):Prop :=
 ∀ (pins:List (Addr×Obj)) (s:Shared) (σ:St) (H:Hp) (x:V) (v:Value) (Q:Bool->Hp->Prop),Inv X pins σ H s->RelV x v->r x H Q ->
   wpAny (model X.prog X.w) X.A (truthy v) (TP X pins σ Q) X.xe s
noncomputable def tOp(r:R2)(ta tb:TE):TE:=fun σ H Q=>ta σ H fun x H1=>tb σ H1 fun y H2=>r x y H2 Q
noncomputable def tUn(r:V->Hp->VK->Prop)(ta:TE):TE:=fun σ H Q=>ta σ H fun x H1=>r x H1 Q
noncomputable def rI(C:Int->Int->Prop)(g:Int->Int->V):R2:=fun x y H Q=>∃ i j,x=.int i/\y=.int j/\C i j/\Q (g i j) H
noncomputable def rI0(g:Int->Int->V):R2:=fun x y H Q=>∃ i j,x=.int i/\y=.int j/\Q (g i j) H
noncomputable def rU(g:Int->V):V->Hp->VK->Prop:=fun x H Q=>∃ i,x=.int i/\Q (g i) H
section
variable {X:Cx} {a b c:Expr} {ta tb tc:TE} {pos:Pos}
theorem binT(ha:PE X a ta)(hb:PE X b tb){pins:List (Addr×Obj)}{s:Shared}{σ:St}{H:Hp}{R:V->V->Hp->Prop}(I:Inv X pins σ H s)
   (h:ta σ H fun x H1=>tb σ H1 fun y H2=>R x y H2) {Q:Value->Shared->Prop} {f:Value->Value->Sem Value}
   (hf:∀ v u s2 x y H2,Inv X pins σ H2 s2->RelV x v->RelV y u->R x y H2->wpAny (model X.prog X.w) X.A (f v u) Q X.xe s2) :
   wpAny (model X.prog X.w) X.A (eval a X.env) (fun v s₁=>wpAny (model X.prog X.w) X.A (eval b X.env) (fun u s₂=>wpAny (model X.prog X.w) X.A (f v u) Q X.xe s₂) X.xe s₁) X.xe s:=by
 refine thn (ha pins s σ H _ I h) ?_;rintro v s1 ⟨x,H1,I1,r1,q1⟩;refine thn (hb pins s1 σ H1 _ I1 q1) ?_;rintro u s2 ⟨y,H2,I2,r2,q2⟩;exact hf v u s2 x y H2 I2 r1 r2 q2
theorem zop{op:Operator}{r:R2}(ho:OpR X (binaryOp op) r)(ha:PE X a ta)(hb:PE X b tb):PE X (.BinOp a op b pos) (tOp r ta tb):=by
 intro pins s σ H Q I h;exact wpAny_BinOp (binT ha hb I h fun v u s2 x y H2 I2 rx ry q=>ho pins s2 σ H2 x y v u Q I2 rx ry q)
theorem zon{op:UnaryOp}{r:V->Hp->VK->Prop}(ho:UnR X (unaryOp op) r)(ha:PE X a ta):PE X (.UnaryOp op a pos) (tUn r ta):=by
 intro pins s σ H Q I h;exact UnaryOp_ (thn (ha pins s σ H _ I h) fun v s1 ⟨x,H1,I1,r1,q1⟩=>ho pins s1 σ H1 x v Q I1 r1 q1)
theorem opI{f:Value->Value->Sem Value}{C:Int->Int->Prop}{g:Int->Int->Int}
   (rule:∀ (i j:Int) (t u:Tok) (s:Shared) (Q:Value->Shared->Prop) (E:Value->Shared->Prop),C i j->Q (.int (g i j) s.toks) { s with toks:=s.toks+1 }->wpAny (model X.prog X.w) X.A (f (.int i t) (.int j u)) Q E s) :
   OpR X f (rI C fun i j=>.int (g i j)):=by
 intro pins s σ H x y v u Q I rx ry h;obtain⟨i,j,rfl,rfl,hc,q⟩:=h;obtain⟨t,rfl⟩:=rx;obtain⟨t',rfl⟩:=ry;exact rule i j t t' s _ _ hc ⟨.int (g i j),H,I.tok _,⟨_,rfl⟩,q⟩
theorem opI0{f:Value->Value->Sem Value}{g:Int->Int->Int}
   (rule:∀ (i j:Int) (t u:Tok) (s:Shared) (Q:Value->Shared->Prop) (E:Value->Shared->Prop),Q (.int (g i j) s.toks) { s with toks:=s.toks+1 }->wpAny (model X.prog X.w) X.A (f (.int i t) (.int j u)) Q E s) :
   OpR X f (rI0 fun i j=>.int (g i j)):=by
 intro pins s σ H x y v u Q I rx ry h;obtain⟨i,j,rfl,rfl,q⟩:=h;obtain⟨t,rfl⟩:=rx;obtain⟨t',rfl⟩:=ry;exact rule i j t t' s _ _ ⟨.int (g i j),H,I.tok _,⟨_,rfl⟩,q⟩
theorem opB0{f:Value->Value->Sem Value}{g:Int->Int->Bool}
   (rule:∀ (i j:Int) (t u:Tok) (s:Shared) (Q:Value->Shared->Prop) (E:Value->Shared->Prop),Q (.bool (g i j)) s->wpAny (model X.prog X.w) X.A (f (.int i t) (.int j u)) Q E s) :
   OpR X f (rI0 fun i j=>.bl (g i j)):=by
 intro pins s σ H x y v u Q I rx ry h;obtain⟨i,j,rfl,rfl,q⟩:=h;obtain⟨t,rfl⟩:=rx;obtain⟨t',rfl⟩:=ry;exact rule i j t t' s _ _ ⟨.bl (g i j),H,I,rfl,q⟩
def CMul(i j:Int):Prop:=(-(2 ^ 64) < i/\i < 2 ^ 64)\/(-(2 ^ 64) < j/\j < 2 ^ 64)
theorem CMul.ok{i j:Int}(h:CMul i j):IntMulOk i j:=by
 rcases h with ⟨h1,h2⟩ | ⟨h1,h2⟩
 . exact .of_left (intBits_le_64 h1 h2)
 . exact .of_right (intBits_le_64 h1 h2)
theorem znh:OpR X (binaryOp .Add) (rI0 fun i j=>.int (i+j)):=opI0 fun _ _ _ _ _ _ _ q=>add_int q
theorem zm9:OpR X (binaryOp .Sub) (rI0 fun i j=>.int (i - j)):=opI0 fun _ _ _ _ _ _ _ q=>sub_int q
theorem zna:OpR X (binaryOp .Mult) (rI CMul fun i j=>.int (i*j)):=opI fun _ _ _ _ _ _ _ hc q=>mul_int q hc.ok
theorem znb:OpR X (binaryOp .Mod) (rI (fun _ j=>0 < j) fun i j=>.int (i % j)):=opI fun i j _ _ _ _ _ hc q=>by
 have h1:(0:Int) < j:=hc;exact mod_int' (by omega) (by rw[Int.fmod_eq_emod_of_nonneg i (by omega)];exact q)
theorem unI{f:Value->Sem Value}{g:Int->Int}
   (rule:∀ (i:Int) (t:Tok) (s:Shared) (Q:Value->Shared->Prop) (E:Value->Shared->Prop),Q (.int (g i) s.toks) { s with toks:=s.toks+1 }->wpAny (model X.prog X.w) X.A (f (.int i t)) Q E s) :
   UnR X f (rU fun i=>.int (g i)):=by
 intro pins s σ H x v Q I rx h;obtain⟨i,rfl,q⟩:=h;obtain⟨t,rfl⟩:=rx;exact rule i t s _ _ ⟨.int (g i),H,I.tok _,⟨_,rfl⟩,q⟩
theorem zmv:UnR X (unaryOp .USub) (rU fun i=>.int (-i)):=unI fun _ _ _ _ _ q=>neg_int q
end
section
variable {X:Cx} {a b c:Expr} {ta tb tc:TE} {pos:Pos}
theorem zl5{pins:List (Addr×Obj)}{σ:St}{H:Hp}{s:Shared}{Q:VK}{k k':Bool}(I:Inv X pins σ H s)(q:Q (.bl k) H)(e:k=k'):EP X pins σ Q (.bool k') s:=by
 subst e;exact⟨.bl k,H,I,rfl,q⟩
theorem zot:OpR X (compareOp .Lt) (rI0 fun i j=>.bl (decide (i < j))):=opB0 fun _ _ _ _ _ _ _ q=>EI q
theorem zou:OpR X (compareOp .LtE) (rI0 fun i j=>.bl (decide (i<=j))):=opB0 fun _ _ _ _ _ _ _ q=>le_int q
theorem zov:OpR X (compareOp .Gt) (rI0 fun i j=>.bl (decide (j < i))):=opB0 fun _ _ _ _ _ _ _ q=>gt_int q
theorem zow:OpR X (compareOp .GtE) (rI0 fun i j=>.bl (decide (j<=i))):=opB0 fun _ _ _ _ _ _ _ q=>ge_int q
theorem zie:OpR X (compareOp .In) (fun x y H Q=>∃ i j,x=.str i/\y=.str j/\Q (.bl (!(Bc j i 0 j.length 1).isEmpty)) H):=by
 intro pins s σ H x y v u Q I rx ry h;obtain⟨i,j,rfl,rfl,q⟩:=h;obtain⟨t,rfl⟩:=rx;obtain⟨t',rfl⟩:=ry;exact in_str (zl5 I q rfl)
theorem zlx:OpR X (compareOp .IsNot) (fun x y H Q=>y=.non/\Q (.bl (!decide (x=.non))) H):=by
 intro pins s σ H x y v u Q I rx ry h;obtain⟨rfl,q⟩:=h;cases ry;refine isnot_none_gen (zl5 I q ?_)
 cases x <;> first
   | (cases rx;rfl)
   | (obtain⟨t,rfl⟩:=rx;rfl)
theorem zlt{op:CmpOp}{r:R2}(ho:OpR X (compareOp op) r)(ha:PE X a ta)(hb:PE X b tb)(hm:behindInMarks op b=false):PE X (.Compare a [op] [b] pos) (tOp r ta tb):=by
 intro pins s σ H Q I h;exact wpAny_Compare1 (binT ha hb I h fun v u s2 x y H2 I2 rx ry q=>ho pins s2 σ H2 x y v u Q I2 rx ry q) hm
noncomputable def zn0(t:TE):TT:=fun σ H Q=>t σ H fun x H'=>∃ k,x=.bl k/\Q k H'
theorem zlg{op:CmpOp}{r:R2}(ho:OpR X (compareOp op) r)(ha:PE X a ta)(hb:PE X b tb)(hm:behindInMarks op b=false):PT X (.Compare a [op] [b] pos) (zn0 (tOp r ta tb)):=by
 intro pins s σ H Q I h;refine wpAny_isTrue_Compare1 (thn (ha pins s σ H _ I h) fun v s1 ⟨x,H1,I1,r1,q1⟩=>thn (hb pins s1 σ H1 _ I1 q1) fun u s2 ⟨y,H2,I2,r2,q2⟩ =>
   thn (ho pins s2 σ H2 x y v u _ I2 r1 r2 q2) fun c s3 ⟨z,H3,I3,r3,k,e,q3⟩=>?_) hm
 subst e;cases r3;exact Bi ⟨H3,I3,q3⟩
noncomputable def zkS(r r':R2)(ta tb tc:TE):TE:=fun σ H Q=>ta σ H fun x H1=>tb σ H1 fun y H2=>r x y H2 fun z H3=>∃ k,z=.bl k /\
 (if k=true then tc σ H3 fun w' H4=>r' y w' H4 Q else Q (.bl false) H3)
theorem zjX{op op':CmpOp}{r r':R2}(ho:OpR X (compareOp op) r)(ho':OpR X (compareOp op') r')(ha:PE X a ta)(hb:PE X b tb)(hc:PE X c tc)
   (hm:lastMarks [op,op'] [b,c]=false:=by with_unfolding_all rfl):PE X (.Compare a [op,op'] [b,c] pos) (zkS r r' ta tb tc):=by
 intro pins s σ H Q I h;refine Compare_chain (thn (ha pins s σ H _ I h) fun v s1 ⟨x,H1,I1,r1,q1⟩=>chain_link (thn (hb pins s1 σ H1 _ I1 q1) fun u s2 ⟨y,H2,I2,r2,q2⟩ =>
   thn (ho pins s2 σ H2 x y v u _ I2 r1 r2 q2) fun d s3 ⟨z,H3,I3,r3,k,e,q3⟩=>?_)) hm
 subst e;cases r3;refine Bi ?_
 cases k with
 | false=>exact ite_ff ⟨.bl false,H3,I3,rfl,q3⟩
 | true=>exact ite_tt (chain_last (thn (hc pins s3 σ H3 _ I3 q3) fun w' s4 ⟨z',H4,I4,r4,q4⟩=>ho' pins s4 σ H4 y z' u w' Q I4 r2 r4 q4))
def TruV(K:Ab)(x:V)(H:Hp)(k:Bool):Prop :=
 match x with
 | .non=>k=false
 | .bl b=>k=b
 | .int i=>k=(i != 0)
 | .str y=>y.length<=sizeLine/\k=((y.length:Int) != 0)
 | .byt y=>y.size<=sizeLine/\k=((y.size:Int) != 0)
 | .ref p=>(∃ xs,SqL K H p xs/\k=!xs.isEmpty)\/(∃ xs,SqT K H p xs/\k=!xs.isEmpty)\/∃ kvs,H p=some (.dK kvs)/\k=!kvs.isEmpty
 | _=>False
theorem zhl{κ:Type}{kvs:List (κ×V)}{vs:List (κ×Value)}(r:KV kvs vs):(!vs.isEmpty)=!kvs.isEmpty:=by
 cases r <;> rfl
theorem zeq{xs:List V}{its:List Value}(r:Vals xs its):(!its.toArray.isEmpty)=!xs.isEmpty:=by
 cases r <;> simp
theorem zeZ:(sizeLine:Nat) < 2 ^ 63:=by rw[Ex];decide
theorem zmy:TruR X (fun x H Q=>∃ k,TruV X.K x H k/\Q k H):=by
 intro pins s σ H x v Q I rx h;obtain⟨k,e,q⟩:=h;have hl:=zeZ;have hs:sizeLine=16777216:=Ex
 cases x with
 | non =>
   cases rx;have e':k=false:=e;subst e';exact truthy_none ⟨H,I,q⟩
 | bl b =>
   cases rx;have e':k=b:=e;subst e';exact Bi ⟨H,I,q⟩
 | int i =>
   obtain⟨t,rfl⟩:=rx;have e':k=(i != 0):=e;subst e';exact PySem.P.truthy_int ⟨H,I,q⟩
 | str y =>
   obtain⟨t,rfl⟩:=rx;obtain⟨hy,e'⟩:y.length<=sizeLine/\k=((y.length:Int) != 0):=e;subst e';exact PySem.P.truthy_str (by omega) ⟨H,I.tok _,q⟩
 | byt y =>
   obtain⟨t,rfl⟩:=rx;obtain⟨hy,e'⟩:y.size<=sizeLine/\k=((y.size:Int) != 0):=e;subst e';exact PySem.W.truthy_bytes (by omega) ⟨H,I.tok _,q⟩
 | ref p =>
   cases rx;have e':(∃ xs,SqL X.K H p xs/\k=!xs.isEmpty)\/(∃ xs,SqT X.K H p xs/\k=!xs.isEmpty)\/∃ kvs,H p=some (.dK kvs)/\k=!kvs.isEmpty:=e
   rcases e' with ⟨xs,hx,e'⟩ | ⟨xs,hx,e'⟩ | ⟨kvs,hx,e'⟩
   . subst e';obtain⟨its,r,pl,hz⟩:=I.list hx;have hlen:=r.length;exact wpAny_truthy_list pl.isList (by simp only[Am];omega) ⟨H,I.tok _,by rw[zeq r];exact q⟩
   . subst e';obtain⟨its,r,pl,hz⟩:=I.tuple hx;have hlen:=r.length;exact truthy_tuple pl (by simp only[Am];omega) ⟨H,I.tok _,by rw[zeq r];exact q⟩
   . subst e';obtain⟨hz,hS,vs,r,m⟩:kvs.length<=sizeLine/\(p==sysModules)=false/\∃ vs,KV kvs vs/\s.heap.DictOf (zaL X.prog X.w) p vs:=I.hok p _ hx;have hlen:kvs.length=vs.length:=Bk r;exact wpAny_truthy_dict hS m (by omega) ⟨H,I.tok _,by rw[zhl r];exact q⟩
 | _=>exact (show False from e).elim
theorem zjQ(ha:PE X a ta)(he:∀ whole,isTrue a X.env whole=(do let v <-whole;standAt a.pos;holding [v] (truthy v))) :
   PT X a (fun σ H Q=>ta σ H fun x H'=>∃ k,TruV X.K x H' k/\Q k H'):=by
 intro pins s σ H Q I h;exact isTrue_plain (thn (ha pins s σ H _ I h) fun v s1 ⟨x,H1,I1,r1,q1⟩=>zmy pins s1 σ H1 x v Q I1 r1 q1) (he _)
theorem zgX:OpR X (binaryOp .Add) (fun x y H Q=>∃ i j,x=.str i/\y=.str j/\i.length+j.length<=sizeLine/\Q (.str (i++j)) H):=by
 intro pins s σ H x y v u Q I rx ry h;obtain⟨i,j,rfl,rfl,hz,q⟩:=h;obtain⟨t,rfl⟩:=rx;obtain⟨t',rfl⟩:=ry;exact add_str (fun t' tk=>⟨.str (i++j),H,I.tok _,⟨_,rfl⟩,q⟩) hz
theorem vals1{x:V}{us:List Value}(r:Vals [x] us):∃ u,us=[u]/\RelV x u:=by
 cases r with
 | cons r1 r2=>cases r2;exact⟨_,rfl,r1⟩
theorem vals2{x y:V}{us:List Value}(r:Vals [x,y] us):∃ u w',us=[u,w']/\RelV x u/\RelV y w':=by
 cases r with
 | cons r1 r2 =>
   cases r2 with
   | cons r3 r4=>cases r4;exact⟨_,_,rfl,r1,r3⟩
theorem zky:zhK X (.builtin "abs") (fun xs H Q=>∃ i,xs=[.int i]/\Q (.int (if i < 0 then -i else i)) H):=by
 intro pins s σ H xs us Q I r h;obtain⟨i,rfl,q⟩:=h;obtain⟨u,rfl,t,rfl⟩:=vals1 r;exact call_abs_int fun u tk=>⟨.int (if i < 0 then -i else i),H,I.tok _,⟨_,rfl⟩,q⟩
theorem ziP(hc:X.calm=true):zhK X (.builtin "max") (fun xs H Q=>∃ i j,xs=[.int i,.int j]/\Q (.int (if j > i then j else i)) H):=by
 intro pins s σ H xs us Q I r h;obtain⟨i,j,rfl,q⟩:=h;obtain⟨u,w',rfl,⟨t,rfl⟩,⟨t',rfl⟩⟩:=vals2 r;refine max_two_ints (I.ok.hd hc) fun h' tk k=>⟨_,H,I.kept k,?_,q⟩
 by_cases hj:j > i
 . rw[if_pos hj,if_pos hj];exact⟨_,rfl⟩
 . rw[if_neg hj,if_neg hj];exact⟨_,rfl⟩
theorem ziN(hc:X.calm=true):zhK X (.builtin "min") (fun xs H Q=>∃ i j,xs=[.int i,.int j]/\Q (.int (if j < i then j else i)) H):=by
 intro pins s σ H xs us Q I r h;obtain⟨i,j,rfl,q⟩:=h;obtain⟨u,w',rfl,⟨t,rfl⟩,⟨t',rfl⟩⟩:=vals2 r;refine min_two_ints (I.ok.hd hc) fun h' tk k=>⟨_,H,I.kept k,?_,q⟩
 by_cases hj:j < i
 . rw[if_pos hj,if_pos hj];exact⟨_,rfl⟩
 . rw[if_neg hj,if_neg hj];exact⟨_,rfl⟩
theorem zfw:zhK X (.type "int") (fun xs H Q=>(∃ i,xs=[.int i]/\Q (.int i) H)\/∃ k,xs=[.bl k]/\Q (.int (if k then 1 else 0)) H):=by
 intro pins s σ H xs us Q I r h
 rcases h with ⟨i,rfl,q⟩ | ⟨k,rfl,q⟩
 . obtain⟨u,rfl,t,rfl⟩:=vals1 r;exact call_int_int ⟨.int i,H,I,⟨_,rfl⟩,q⟩
 . obtain⟨u,rfl,r1⟩:=vals1 r;cases r1;exact call_int_bool ⟨.int (if k then 1 else 0),H,I.tok _,⟨_,rfl⟩,q⟩
end
theorem RelO.some_of{v:V}{o:Option Value}(r:RelO (some v) o):∃ u,o=some u/\RelV v u:=by
 cases o with
 | none=>exact (show False from r).elim
 | some u=>exact⟨u,rfl,r⟩
structure Room(k:Nat)(A:Around):Prop where
 hd:A.handled=none
 dp:A.depth+3*k+5 < recursionLimit
 un:A.units+16*k+200 < cLine
 gd:A.guards=some []
theorem Room.mono{j k:Nat}{A:Around}(r:Room k A)(h:j<=k):Room j A:=⟨r.hd,by have:=r.dp;omega,by have:=r.un;omega,r.gd⟩
theorem Room.deeper{k:Nat}{A:Around}(r:Room (k+1) A)(env:Env):Room k (A.deeper env) :=
 ⟨r.hd,by have:=r.dp;show A.depth+1+3*k+5 < _;omega,by have:=r.un;show A.units+3+16*k+200 < _;omega,r.gd⟩
theorem Room.depth{k:Nat}{A:Around}(r:Room k A):A.depth < recursionLimit:=by have:=r.dp;omega
theorem Room.units{k:Nat}{A:Around}(r:Room k A):A.units+64 < cLine:=by have:=r.un;omega
noncomputable def tNil:TA:=fun _ H Q=>Q [] H
noncomputable def zn7(ta:TE)(tr:TA):TA:=fun σ H Q=>ta σ H fun x H1=>tr σ H1 fun xs H2=>Q (x::xs) H2
section
variable {X:Cx} {e:Expr} {es:List Expr} {te:TE} {t:TA} {pos:Pos}
theorem zlw:PA X [] tNil:=fun _ _ _ _ H Q I h=>Calls.spliced_nil ⟨[],H,I,.nil,h⟩
theorem zgS(ha:PE X e te)(hr:PA X es t)(hs:starEach (e::es) X.env=(false,eval e X.env)::starEach es X.env:=by rfl):PA X (e::es) (zn7 te t):=by
 intro pos pins s σ H Q I h;rw[hs];show wpAny _ _ (spliced ((false,eval e X.env)::backTo pos (starEach es X.env))) _ _ s;refine Calls.spliced_cons (thn (ha pins s σ H _ I h) ?_);rintro u s1 ⟨x,H1,I1,r1,q1⟩;exact thn (hr pos pins s1 σ H1 _ I1 q1) fun us s2 ⟨xs,H2,I2,r2,q2⟩=>⟨x::xs,H2,I2,.cons r1 r2,q2⟩
noncomputable def tTup(t:TA):TE:=fun σ H Q=>t σ H fun xs H1=>xs.length<=sizeLine/\∀ p,H1 p=none->Q (.ref p) (upd H1 p (.tup xs))
noncomputable def tLst(t:TA):TE:=fun σ H Q=>t σ H fun xs H1=>xs.length<=sizeLine/\∀ p,H1 p=none->Q (.ref p) (upd H1 p (.lst xs))
theorem zm1{x1}(h:PA X es t):PE X (.Tuple es x1 pos) (tTup t):=by
 intro pins s σ H Q I hq;refine wpAny_Tuple_spliced (thn (h pos pins s σ H _ I hq) fun us s1 ⟨xs,H1,I1,r,z,q⟩=>⟨by rw[<-r.length];exact z,?_⟩);have hf:H1 s1.heap.objs.size=none:=I1.hok.fresh (Af _);refine⟨.ref s1.heap.objs.size,upd H1 s1.heap.objs.size (.tup xs),I1.laid (t':=s1.toks) (fun b u e=>Ac _ e) (Af _) ?_,rfl,q _ hf⟩;exact⟨z,us,r,⟨_,Ap _ rfl,rfl,rfl,_,rfl⟩⟩
theorem zm4(h:PA X es t):PE X (.List es pos) (tLst t):=by
 intro pins s σ H Q I hq;refine wpAny_List_spliced (thn (h pos pins s σ H _ I hq) fun us s1 ⟨xs,H1,I1,r,z,q⟩=>⟨by rw[<-r.length];exact z,?_⟩);have hf:H1 s1.heap.objs.size=none:=I1.hok.fresh (Af _);refine⟨.ref s1.heap.objs.size,upd H1 s1.heap.objs.size (.lst xs),I1.laid (t':=s1.toks) (fun b u e=>Ac _ e) (Af _) ?_,rfl,q _ hf⟩;exact⟨z,us,0,r,Ap _ rfl⟩
end
noncomputable abbrev Sp:=List V->Hp->VK->XK->Prop
noncomputable abbrev CXT:=List Env->Hp->Shared->XK->Value->Shared->Prop
structure Env0(P:Program)(w:World)(K:Ab)(mg:Str->Option Value)(base:Heap)(A:Around)(outer:List Env)(s:Shared)(H:Hp):Prop where
 frames:A.frames=some outer
 mod:Mod K mg base
 bs:∀ b o,base.get? b=some o->s.heap.get? b=some o/\H b=none
 bsz:base.objs.size<=s.heap.objs.size
 funs:s.heap.FunFrames base outer
 frf:∀ b∈frs outer,H b=none
 hok:HOk P w H s.heap
 bare:AllBare s.gens
def CE(outer:List Env)(P:Program)(w:World)(H:Hp)(s:Shared)(Q:VK)(u:Value)(s':Shared):Prop :=
 ∃ v H',s'.os=s.os/\AllBare s'.gens/\Un (frs outer) [] H H' s.heap s'.heap/\HOk P w H' s'.heap/\RelV v u/\Q v H'
def CR(CX:CXT)(outer:List Env)(P:Program)(w:World)(H:Hp)(s:Shared)(Q:VK)(E:XK)(r:Result)(s':Shared):Prop :=
 match r with
 | .ok (.ret u)=>CE outer P w H s Q u s'
 | .ok _=>False
 | .error e=>CX outer H s E e s'
structure FnOk(P:Program)(w:World)(K:Ab)(mg:Str->Option Value)(base:Heap)(CX:CXT)(k:Nat)(f:Addr)(fd:FuncData)(ps:List Str)(sp:Sp):Prop where
 len:∀ vs H Q E,sp vs H Q E->vs.length=ps.length
 run:∀ (A:Around) (outer:List Env) (s:Shared) (H:Hp) (args:Args) (us:List Value) (vs:List V) (Q:VK) (E:XK),Room k A->Env0 P w K mg base A outer s H->BindsTo s fd args (ps.zip us)->Vals vs us->sp vs H Q E ->
   codeAny (model P w) A (.call (.ref f) args) (CR CX outer P w H s Q E) s
section
variable {X:Cx} {pins:List (Addr×Obj)} {σ:St} {H:Hp} {s s':Shared}
theorem Inv.env0(I:Inv X pins σ H s):Env0 X.prog X.w X.K X.mg X.base X.A X.stack s H :=
 ⟨I.ok.frames,I.ok.mod,I.bs,AB I.ok.bsz I.sz,I.stack,I.stkFree,I.hok,I.bare⟩
theorem Inv.after{Q:VK}{u:Value}(I:Inv X pins σ H s)(h:CE X.stack X.prog X.w H s Q u s'):EP X pins σ Q u s':=by
 obtain⟨v,H',os,bare,un,hok,r,q⟩:=h;obtain⟨hh,g,d,t,os'⟩:=s';obtain rfl:os'=s.os:=os;exact⟨v,H',I.call (h':=hh) (g':=g) (d':=d) (t':=t) (ch:=[]) un hok bare (fun b z=>absurd z (by simp)),r,q⟩
end
noncomputable def zn8(sp:Sp)(dvs:List V)(E:XK)(t:TA):TE:=fun σ H Q=>t σ H fun vs H1=>sp (vs++dvs) H1 Q E
def Binds(K:Ab)(fd:FuncData)(ps:List Str)(ds:List Value):Prop :=
 ∀ (s:Shared) (us:List Value),K.In s.heap->(us++ds).length=ps.length->BindsTo s fd ⟨us,[]⟩ (ps.zip (us++ds))
theorem Binds.all{K:Ab}{fd:FuncData}{ps:List Str}(h:∀ us:List Value,us.length=ps.length->bindArgs fd ⟨us,[]⟩=pure (ps.zip us)):Binds K fd ps []:=fun s us _ hl=>by
 rw[Ao] at hl ⊢;exact .of_eq (h us hl)
def Passes(CX:CXT)(X:Cx)(E:XK):Prop:=∀ (pins:List (Addr×Obj)) (σ:St) (H:Hp) (s:Shared) (e:Value) (s':Shared),Inv X pins σ H s->CX X.stack H s E e s'->X.xe e s'
section
variable {X:Cx} {CX:CXT} {k:Nat} {f C:Addr} {fd:FuncData} {ps:List Str} {sp:Sp} {dvs:List V} {ds:List Value} {E:XK} {x m:Str} {p pos apos:Pos} {e o:Expr} {es:List Expr} {ta:TE} {t:TA}
theorem zmO{pins:List (Addr×Obj)}{σ:St}{H:Hp}{s:Shared}{Q:VK}{us:List Value}{vs:List V}(F:FnOk X.prog X.w X.K X.mg X.base CX k f fd ps sp)(hr:Room k X.A)(hb:Binds X.K fd ps ds)(hd:Vals dvs ds)(hx:Passes CX X E)
   (I:Inv X pins σ H s) (r:Vals vs us) (h:sp (vs++dvs) H Q E):wpAny (model X.prog X.w) X.A (call (.ref f) us) (EP X pins σ Q) X.xe s:=by
 have r2:Vals (vs++dvs) (us++ds):=r.append hd;have hl:(us++ds).length=ps.length:=by rw[<-r2.length];exact F.len _ _ _ _ h
 refine wpAny_call (Ea (F.run X.A X.stack s H ⟨us,[]⟩ (us++ds) (vs++dvs) Q E hr I.env0 (hb s us I.kIn hl) r2 h) fun r s' hq=>?_)
 cases r with
 | error e=>exact hx pins σ H s e s' I hq
 | ok fl =>
   cases fl with
   | ret u=>exact I.after hq
   | next=>exact False.elim hq
   | brk=>exact False.elim hq
   | cont=>exact False.elim hq
theorem zlu(F:FnOk X.prog X.w X.K X.mg X.base CX k f fd ps sp)(hr:Room k X.A)(hg:Gl X x)(hm:X.mg x=some (.ref f))(hk:By X.K (.ref f)=true)(hb:Binds X.K fd ps ds)(hd:Vals dvs ds)(hx:Passes CX X E)
   (ha:PA X (e::es) t) (hdb:(x==("__debug__":Str))=false:=by decide) (he:starEach (e::es) X.env=(false,eval e X.env)::starEach es X.env:=by rfl) (hpl:(backTo pos (starEach es X.env)).any (·.1)=false:=by rfl) :
   PE X (.Call (.Name x p) (e::es) [] pos) (zn8 sp dvs E t):=by
 intro pins s σ H Q I h;refine CM (zjd I hg hm ?_ hdb);refine PySem.W.callWith_K (h₀:=X.base) I.ok.mod.kin hk (thn (ha pos pins s σ H _ I h) fun us s1 ⟨vs,H1,I1,r,q⟩=>⟨I1.kIn,?_⟩) he hpl;exact zmO F hr hb hd hx I1 r q
end
structure FnScope(N P:List Str)(sc:Scope):Prop where
 kind:sc.kind=.function
 co:sc.isCoroutine=false
 gen:sc.isGenerator=false
 nd:N.Nodup
 pre:N.take P.length=P
 par:∀ x∈P,sc.names.lookup x=some .local\/sc.names.lookup x=some .cell
 nofree:∀ y∈sc.names,y.2≠.free
theorem zfx{kindOf:Str->Option NameKind}{x:Str}:∀ {binds:List (Str×Value)} {m:Str->Option Value},(∀ v,(x,v) ∉ binds)->bindL kindOf binds m x=m x
 | [],_,_=>rfl
 | (n,v)::r,m,h=>by
   unfold bindL;rw[zfx fun w hw=>h w (Ak _ hw)]
   split
   . have:x≠n:=by rintro rfl;exact h v An
     simp[this]
   . rfl
theorem zfz{kindOf:Str->Option NameKind}{x:Str}:∀ {binds:List (Str×Value)} {m:Str->Option Value},(∀ v,(x,v) ∉ binds)->bindC kindOf binds m x=m x
 | [],_,_=>rfl
 | (n,v)::r,m,h=>by
   unfold bindC;rw[zfz fun w hw=>h w (Ak _ hw)]
   split
   . rfl
   . have:x≠n:=by rintro rfl;exact h v An
     simp[this]
theorem zfy{kindOf:Str->Option NameKind}{x:Str}{v:Value}:∀ {P:List Str} {vs:List Value} {i:Nat} {m:Str->Option Value},P.Nodup->P[i]?=some x->vs[i]?=some v->kindOf x=some .local ->
   bindL kindOf (P.zip vs) m x=some v
 | [],_,_,_,_,h,_,_=>by simp at h
 | _::_,[],_,_,_,_,h,_=>by simp at h
 | p::P,w::vs,0,m,nd,h1,h2,hk=>by
   simp at h1 h2;subst h1;subst h2;show bindL kindOf ((p,w)::P.zip vs) m p=_;unfold bindL;rw[zfx fun v hv=>(List.nodup_cons.mp nd).1 (Cw hv).1,if_pos hk];simp
 | p::P,w::vs,i+1,m,nd,h1,h2,hk=>by
   show bindL kindOf ((p,w)::P.zip vs) m x=_;unfold bindL;exact zfy (i:=i) (List.nodup_cons.mp nd).2 (by simpa using h1) (by simpa using h2) hk
theorem zfA{kindOf:Str->Option NameKind}{x:Str}{v:Value}:∀ {P:List Str} {vs:List Value} {i:Nat} {m:Str->Option Value},P.Nodup->P[i]?=some x->vs[i]?=some v->kindOf x≠some .local ->
   bindC kindOf (P.zip vs) m x=some v
 | [],_,_,_,_,h,_,_=>by simp at h
 | _::_,[],_,_,_,_,h,_=>by simp at h
 | p::P,w::vs,0,m,nd,h1,h2,hk=>by
   simp at h1 h2;subst h1;subst h2;show bindC kindOf ((p,w)::P.zip vs) m p=_;unfold bindC;rw[zfz fun v hv=>(List.nodup_cons.mp nd).1 (Cw hv).1,if_neg hk];simp
 | p::P,w::vs,i+1,m,nd,h1,h2,hk=>by
   show bindC kindOf ((p,w)::P.zip vs) m x=_;unfold bindC;exact zfA (i:=i) (List.nodup_cons.mp nd).2 (by simpa using h1) (by simpa using h2) hk
noncomputable def start(N:List Str)(vs:List V):St:=vs.map some++Ba (N.length - vs.length) none
noncomputable def cxOf(CX:CXT)(P:Program)(w:World)(K:Ab)(mg:Str->Option Value)(base:Heap)(N:List Str)(qual:Str)(scope:Scope)(f:Addr)(cd:Value)(A:Around)(outer:List Env)(s:Shared)(H:Hp)(E:XK):Cx where
 prog:=P
 w:=w
 K:=K
 mg:=mg
 base:=base
 A:=A.deeper (envOfC qual scope s.heap.objs.size f cd)
 N:=N
 s₀:=s
 H₀:=H
 env:=envOfC qual scope s.heap.objs.size f cd
 outer:=outer
 stack:=envOfC qual scope s.heap.objs.size f cd::outer
 ex:=[]
 calm:=true
 fn:=fun _=>true
 pn:=[]
 xe:=fun e s'=>wpAny (model P w) (A.deeper (envOfC qual scope s.heap.objs.size f cd)) (leaving (envOfC qual scope s.heap.objs.size f cd) e) (fun _ s''=>CX outer H s E e s'') (fun e' s''=>CX outer H s E e' s'') s'
theorem zhC{sc:Scope}{n:Nat}{x:Str}(h:sc.names.lookup x=some .cell):∃ c,(cellsFrom n sc.names []).lookup x=some c:=by
 have q:=Dx sc.names n [] (.inl h);exact Option.isSome_iff_exists.mp q
theorem zis{CX:CXT}{P:Program}{w:World}{K:Ab}{mg:Str->Option Value}{base:Heap}{N ps:List Str}{qual:Str}{scope:Scope}{f:Addr}{cd:Value}{A:Around}{outer:List Env}{s s1:Shared}{H:Hp}{E:XK}{us:List Value}{vs:List V}
   (S:FnScope N ps scope) (hd:A.handled=none) (e0:Env0 P w K mg base A outer s H) (hl:vs.length=ps.length) (r:Vals vs us)
   (x:InCallC s s.heap.objs.size (bindL (envOfC qual scope s.heap.objs.size f cd).kindOf (ps.zip us) fun _=>none) (cellsFrom (s.heap.objs.size+1) scope.names []) (bindC (envOfC qual scope s.heap.objs.size f cd).kindOf (ps.zip us) fun _=>none) s1) :
   Inv (cxOf CX P w K mg base N qual scope f cd A outer s H E) [] (start N vs) H s1:=by
 have hpl:ps.length<=N.length:=by have:=congrArg List.length S.pre;rw[Bl] at this;omega
 obtain⟨h1,tk,rfl,hk⟩:=x.done;have noA:∀ b:Addr,b ∉ (cxOf CX P w K mg base N qual scope f cd A outer s H E).ex:=fun b z=>absurd (show b∈([]:List Addr) from z) (by simp);refine⟨⟨e0.mod,S.kind,rfl,rfl,Af _,fun y z c h1 h2=>?_,fun y hy=>?_,fun y c _ h=>?_,fun _=>hd,Around.frames_deeper e0.frames,.inr ⟨rfl,rfl⟩,fun b z=>absurd z (noA b),e0.bs,e0.bsz,fun b _ _=>noA b,fun b z=>absurd z (noA b),e0.funs,e0.frf⟩,
   rfl,e0.bare,Un.kept hk,⟨_,x.toInCall.ns,fun i y v h1 h2 h3=>?_⟩,fun y c h=>⟨_,x.cell y c h⟩,e0.hok.fresh (Af _),fun y c h=>?_,fun p hp=>absurd (show p∈([]:List (Addr×Obj)) from hp) (by simp),e0.hok.kept hk,?_⟩
 . exact name_of_addr x.apart (AH h1) (AH h2)
 . have hy:scope.names.lookup y=some .cell\/scope.names.lookup y=some .free:=hy
   rcases hy with hy | hy
   . exact zhC hy
   . exact absurd rfl (S.nofree _ (AH hy))
 . exact BI (x.above y c (AH h))
 . have hi:i < vs.length:=by
     unfold start at h2
     by_cases hi:i < vs.length
     . exact hi
     . rw[AE (by simpa using hi)] at h2;rw[BB] at h2
       split at h2 <;> cases h2
   have ha:vs[i]?=some v:=by
     unfold start at h2;rw[Al (by simpa using hi),AL] at h2
     cases e:vs[i]? with
     | none=>rw[e] at h2;cases h2
     | some a=>rw[e] at h2;cases h2;rfl
   obtain⟨u,hu,rv⟩:=r.get ha;have hp:ps[i]?=some y:=by
     rw[<-S.pre,List.getElem?_take_of_lt (by omega)];exact h1
   have ndP:ps.Nodup:=by rw[<-S.pre];exact S.nd.sublist (List.take_sublist _ _)
   refine⟨u,rv,?_⟩
   rcases S.par y (BR hp) with k | k
   . exact .inl ⟨k,zfy ndP hp hu k⟩
   . obtain⟨c,e⟩:=zhC (n:=s.heap.objs.size+1) k;refine .inr ⟨.inl k,c,e,?_⟩;have q:=x.cell y c e;rw[zfA ndP hp hu (by show scope.names.lookup y≠_;rw[k];decide)] at q;exact q
 . exact e0.hok.fresh (BI (x.above y c (AH h)))
 . unfold start;show _=N.length;rw[AN,Ag,BL];omega
theorem zoL{CX:CXT}{P:Program}{w:World}{K:Ab}{mg:Str->Option Value}{base:Heap}{k:Nat}{f:Addr}{name qual:Str}{params:Arguments}{body:List Stmt}{scope:Scope}{dV kV doc pm cdv ct oc:Value}{an od:Option Addr}
   {osl:Array (Option Value)} {N ps:List Str} {sp:Sp} (lk:K.lookup f=some ⟨oc,od,.func (Bq name qual params body scope dV kV doc pm an cdv ct),osl⟩) (hcd:Ce K cdv qual=true) (S:FnScope N ps scope)
   (len:∀ vs H Q E,sp vs H Q E->vs.length=ps.length)
   (hbody:∀ (A:Around) (outer:List Env) (s:Shared) (H:Hp) (vs:List V) (Q:VK) (E:XK),Room k (A.deeper (envOfC qual scope s.heap.objs.size f cdv))->sp vs H Q E ->
     ∃ t,PSs (cxOf CX P w K mg base N qual scope f cdv A outer s H E) body t/\t { nx:=fun _ H'=>Q .non H',rt:=Q } (start N vs) H) :
   FnOk P w K mg base CX (k+1) f (Bq name qual params body scope dV kV doc pm an cdv ct) ps sp:=by
 refine⟨len,fun A outer s H args us vs Q E hr e0 hb r hsp=>?_⟩;have hl:=len _ _ _ _ hsp;have KX:K.In s.heap:=e0.mod.kin.keeps fun b o e=>(e0.bs b o e).1;have lim:s.heap.NoLimit:=e0.mod.nolimit.keeps fun b o e=>(e0.bs b o e).1;have hkind:∀ y∈ps.zip us,scope.names.lookup y.1=some .local\/(scope.names.lookup y.1=some .cell/\((cellsFrom (s.heap.objs.size+1) scope.names []).lookup y.1).isSome=true):=by
   rintro ⟨n,v⟩ hy
   rcases S.par n (Cw hy).1 with q | q
   . exact .inl q
   . exact .inr ⟨q,Dx _ _ _ (.inl q)⟩
 refine codeAny_call_function hr.depth (KX _ _ lk) rfl S.co S.gen rfl (PySem.W.codeRec_of KX hcd) (hb _ _ _ _ ?_);refine wpAny_newFunctionEnv_cells S.kind hkind fun env he s1 x=>?_;subst he;refine⟨lim.keeps x.toInCall.keep,codeAny_func ?_⟩;obtain⟨t,ht,hq⟩:=hbody A outer s H vs Q E (hr.deeper _) hsp;have I:Inv (cxOf CX P w K mg base N qual scope f cdv A outer s H E) [] (start N vs) H s1:=zis S hr.hd e0 hl r x;refine A9 (ht [] s1 (start N vs) H _ I hq) (fun fl s' hs=>?_) fun e s' hs=>hs;have fin:∀ {σ':St} {H':Hp} {v:V} {u:Value},Inv (cxOf CX P w K mg base N qual scope f cdv A outer s H E) [] σ' H' s'->RelV v u->Q v H'->CE outer P w H s Q u s' :=
   fun {σ' H' v u} J rv q=>⟨v,H',J.os,J.bare,J.base,J.hok,rv,q⟩
 cases fl with
 | ret u =>
   obtain⟨v,σ',H',J,rv,q⟩:=hs;exact fin J rv q
 | next =>
   obtain⟨σ',H',J,q⟩:=hs;exact fin (v:=V.non) (u:=Bp) J rfl q
 | brk =>
   obtain⟨_,_,_,q⟩:=hs;exact False.elim q
 | cont =>
   obtain⟨_,_,_,q⟩:=hs;exact False.elim q
section
variable {X:Cx} {x:Str} {p pos:Pos} {e:Expr} {es:List Expr} {t:TA} {id T:String} {r:List V->Hp->VK->Prop}
noncomputable def tCB(r:List V->Hp->VK->Prop)(t:TA):TE:=fun σ H Q=>t σ H fun vs H1=>r vs H1 Q
theorem zgR(hc:zhK X (.builtin id) r)(hg:Gl X x)(hm:X.mg x=none)(hv:bootBuiltins x=some (.builtin id))(ha:PA X (e::es) t)(hn:x≠"__name__":=by decide)(hdb:(x==("__debug__":Str))=false:=by decide)
   (he:starEach (e::es) X.env=(false,eval e X.env)::starEach es X.env:=by rfl) (hpl:(backTo pos (starEach es X.env)).any (·.1)=false:=by rfl):PE X (.Call (.Name x p) (e::es) [] pos) (tCB r t):=by
 intro pins s σ H Q I h;refine CM (zhf I hg hm hv ?_ hn hdb);exact PyProof.Rows.callWith_builtin1 (thn (ha pos pins s σ H _ I h) fun us s1 ⟨vs,H1,I1,r1,q1⟩=>hc pins s1 σ H1 vs us Q I1 r1 q1) he hpl
theorem zic(hc:zhK X (.type T) r)(hg:Gl X x)(hm:X.mg x=none)(hv:bootBuiltins x=some (.type T))(ha:PA X (e::es) t)(hn:x≠"__name__":=by decide)(hdb:(x==("__debug__":Str))=false:=by decide)
   (he:starEach (e::es) X.env=(false,eval e X.env)::starEach es X.env:=by rfl) (hpl:(backTo pos (starEach es X.env)).any (·.1)=false:=by rfl):PE X (.Call (.Name x p) (e::es) [] pos) (tCB r t):=by
 intro pins s σ H Q I h;refine CM (zhf I hg hm hv ?_ hn hdb);exact BQ (thn (ha pos pins s σ H _ I h) fun us s1 ⟨vs,H1,I1,r1,q1⟩=>hc pins s1 σ H1 vs us Q I1 r1 q1) he hpl
end
section
variable {κ:Type} [DecidableEq κ]
noncomputable def valV(kvs:List (κ×V))(k:κ):Option V:=(kvs.find? fun kv=>decide (kv.1=k)).map (·.2)
noncomputable def putK(kvs:List (κ×V))(k:κ)(v:V):List (κ×V) :=
 if (kvs.any fun kv=>decide (kv.1=k))=true then kvs.map (fun kv=>if kv.1=k then (kv.1,v) else kv) else kvs++[(k,v)]
theorem zeJ{p:κ×V}{r:List (κ×V)}{k:κ}(e:p.1=k):valV (p::r) k=some p.2:=by simp[valV,AZ,e]
theorem zeK{p:κ×V}{r:List (κ×V)}{k:κ}(e:¬ p.1=k):valV (p::r) k=valV r k:=by simp[valV,AZ,e]
theorem zgo(k:κ):∀ kvs:List (κ×V),(kvs.any fun kv=>decide (kv.1=k))=(valV kvs k).isSome
 | []=>rfl
 | p::r=>by
   rw[BU]
   by_cases e:p.1=k
   . simp only[zeJ e,decide_eq_true e,Bool.true_or,Eb]
   . rw[zeK e,decide_eq_false e,Bool.false_or];exact zgo k r
theorem zcD(kvs:List (κ×V))(k:κ)(v:V):(putK kvs k v).length<=kvs.length+1:=by
 unfold putK
 split
 . rw[Ag];omega
 . rw[AN,AD,Bf];omega
theorem RelO.isSome_eq{o:Option V}{u:Option Value}(r:RelO o u):o.isSome=u.isSome:=by
 cases o with
 | none=>cases u with
   | none=>rfl
   | some _=>exact (show False from r).elim
 | some _=>cases u with
   | none=>exact (show False from r).elim
   | some _=>rfl
theorem KV.val{kvs:List (κ×V)}{vs:List (κ×Value)}(r:KV kvs vs)(k:κ):RelO (valV kvs k) (valueAt vs k):=by
 unfold KV at r
 induction r with
 | nil=>exact DO
 | @cons p q ps qs h t ih =>
   obtain⟨h1,h2⟩:=h
   by_cases e:p.1=k
   . have e':q.1=k:=h1.symm.trans e;have b:valueAt (q::qs) k=some q.2:=by simp[valueAt,AZ,e']
     rw[zeJ e,b];exact h2
   . have e':¬ q.1=k:=fun z=>e (h1.trans z);have b:valueAt (q::qs) k=valueAt qs k:=by simp[valueAt,AZ,e']
     rw[zeK e,b];exact ih
theorem KV.any{kvs:List (κ×V)}{vs:List (κ×Value)}(r:KV kvs vs)(k:κ):(kvs.any fun kv=>decide (kv.1=k))=vs.any fun kv=>decide (kv.1=k):=by
 unfold KV at r
 induction r with
 | nil=>rfl
 | cons h t ih=>rw[BU,BU,ih,h.1]
theorem KV.repl{kvs:List (κ×V)}{vs:List (κ×Value)}(r:KV kvs vs)(k:κ){y:V}{u:Value}(ry:RelV y u) :
   KV (kvs.map fun kv=>if kv.1=k then (kv.1,y) else kv) (vs.map fun kv=>if kv.1=k then (kv.1,u) else kv):=by
 unfold KV at r ⊢
 induction r with
 | nil=>exact .nil
 | @cons p q ps qs h t ih =>
   rw[Az,Az];refine .cons ?_ ih;obtain⟨h1,h2⟩:=h
   by_cases e:p.1=k
   . rw[if_pos e,if_pos (h1.symm.trans e)];exact⟨h1,ry⟩
   . rw[if_neg e,if_neg (fun z=>e (h1.trans z))];exact⟨h1,h2⟩
theorem KV.put{kvs:List (κ×V)}{vs:List (κ×Value)}(r:KV kvs vs)(k:κ){y:V}{u:Value}(ry:RelV y u):KV (putK kvs k y) (stored vs k u):=by
 unfold putK stored;rw[r.any k]
 by_cases e:(vs.any fun kv=>decide (kv.1=k))=true
 . rw[if_pos e,if_pos e];exact r.repl k ry
 . rw[if_neg e,if_neg e];exact Fu r ⟨rfl,ry⟩
theorem KV.length{kvs:List (κ×V)}{vs:List (κ×Value)}(r:KV kvs vs):kvs.length=vs.length:=Bk r
end
theorem zlZ{P:Program}{w:World}{k:Key}{u:Value}(r:RelV (kV k) u):(zaL P w).is k u=true:=by
 cases k with
 | inl i=>obtain⟨t,e⟩:=(show ∃ t,u=D9 i t from r);subst e;exact zf6 P w i t
 | inr x=>obtain⟨t,e⟩:=(show ∃ t,u=Ff x t from r);subst e;exact zf5 P w x t
theorem zft{P:Program}{w:World}:∀ {ks:List Key} {us:List Value},Vals (ks.map kV) us->ItemsAre (zaL P w) ks us
 | [],_,r=>by rw[BM] at r;cases r;exact .nil
 | k::ks,_,r=>by
   rw[Az] at r
   cases r with
   | cons h t=>exact .cons (zlZ h) (zft t)
noncomputable abbrev KT (H:Hp):List (List Key×V)->List (List Key×Addr×Value)->Prop:=Paired fun p q=>p.1=q.1/\H q.2.1=some (.tup (p.1.map kV))/\RelV p.2 q.2.2
theorem KT.val{H:Hp}{kvs:List (List Key×V)}{xs:List (List Key×Addr×Value)}(r:KT H kvs xs)(k:List Key):RelO (valV kvs k) ((atKey xs k).map (·.2)):=by
 induction r with
 | nil=>exact DO
 | @cons p q ps qs h t ih =>
   obtain⟨h1,_,h2⟩:=h
   by_cases e:p.1=k
   . have e':q.1=k:=h1.symm.trans e;have b:atKey (q::qs) k=some q.2:=by simp[atKey,AZ,e']
     rw[zeJ e,b];exact h2
   . have e':¬ q.1=k:=fun z=>e (h1.trans z);have b:atKey (q::qs) k=atKey qs k:=by simp[atKey,AZ,e']
     rw[zeK e,b];exact ih
theorem KT.repl{H:Hp}{kvs:List (List Key×V)}{xs:List (List Key×Addr×Value)}(r:KT H kvs xs)(k:List Key){y:V}{u:Value}(ry:RelV y u) :
   KT H (kvs.map fun kv=>if kv.1=k then (kv.1,y) else kv) (xs.map (putAt k u)):=by
 induction r with
 | nil=>exact .nil
 | @cons p q ps qs h t ih =>
   rw[Az,Az];refine .cons ?_ ih;obtain⟨h1,h2,h3⟩:=h;unfold putAt
   by_cases e:p.1=k
   . rw[if_pos e,if_pos (h1.symm.trans e)];exact⟨h1,h2,ry⟩
   . rw[if_neg e,if_neg (fun z=>e (h1.trans z))];exact⟨h1,h2,h3⟩
theorem KT.put{H:Hp}{kvs:List (List Key×V)}{xs:List (List Key×Addr×Value)}(r:KT H kvs xs)(k:List Key){b:Addr}{y:V}{u:Value}(hb:H b=some (.tup (k.map kV)))(ry:RelV y u) :
   KT H (putK kvs k y) (storedH xs k b u):=by
 have e:(kvs.any fun kv=>decide (kv.1=k))=(atKey xs k).isSome:=by
   rw[zgo,(r.val k).isSome_eq,Ep]
 unfold putK storedH;rw[e]
 by_cases q:(atKey xs k).isSome=true
 . rw[if_pos q,if_pos q];exact r.repl k ry
 . rw[if_neg q,if_neg q];exact Fu r ⟨rfl,hb,ry⟩
theorem KT.keeps{H H':Hp}{kvs:List (List Key×V)}{xs:List (List Key×Addr×Value)}(r:KT H kvs xs)(ht:∀ b ys,H b=some (.tup ys)->H' b=some (.tup ys)):KT H' kvs xs :=
 Paired.mapP r fun _ _ z=>⟨z.1,ht _ _ z.2.1,z.2.2⟩
section
variable {P:Program} {w:World} {H:Hp} {h:Heap} {a:Addr}
theorem znP{u:HO}(ok:HOk P w H h)(e:Rd H a u):zdn P w H h a u:=e.ok ok
theorem zmq{kvs:List (Key×V)}(ok:HOk P w H h)(e:Rd H a (.dK kvs)):kvs.length<=sizeLine/\(a==sysModules)=false/\∃ vs,KV kvs vs/\h.DictOf (zaL P w) a vs :=
 show zdn P w H h a (.dK kvs) from znP ok e
theorem zoQ{kvs:List (Key×V)}(ok:HOk P w H h)(e:H a=some (.dK kvs)):kvs.length<=sizeLine/\(a==sysModules)=false/\∃ vs,KV kvs vs/\h.DictOf (zaL P w) a vs:=zmq ok (.inl e)
theorem zin{ks:List Key}(ok:HOk P w H h)(e:H a=some (.tup (ks.map kV))):(tupleKind (zaL P w)).is h ks a:=by
 obtain⟨_,its,r,o,h1,h2,_,n,h3⟩:=(show zdn P w H h a (.tup (ks.map kV)) from ok a _ e)
 exact⟨o,its.toArray,n,h1,h2,h3,by simpa using zft r⟩
theorem zmp{kvs:List (List Key×V)}(ok:HOk P w H h)(e:Rd H a (.dT kvs)):kvs.length<=sizeLine/\(a==sysModules)=false /\
   ∃ xs,KT H kvs xs/\h.DictOfH (tupleKind (zaL P w)) a xs:=by
 obtain⟨z,y,xs,r,o,es,ep,h1,h2,h3,h4,h5⟩:=(show zdn P w H h a (.dT kvs) from znP ok e)
 refine⟨z,y,xs,r,o,es,ep,h1,h2,h3,h4,fun x hx=>?_,h5⟩;have all:∀ {l:List (List Key×V)} {m:List (List Key×Addr×Value)},KT H l m->∀ x∈m,(tupleKind (zaL P w)).is h x.1 x.2.1:=by
   intro l m q
   induction q with
   | nil=>intro x hx;exact nomatch hx
   | @cons p q ps qs hq t ih =>
     intro x hx
     rcases List.mem_cons.mp hx with e | hx
     . subst e;exact zin ok (by rw[<-hq.1];exact hq.2.1)
     . exact ih x hx
 exact all r x hx
theorem zoO{kvs:List (List Key×V)}(ok:HOk P w H h)(e:H a=some (.dT kvs)):kvs.length<=sizeLine/\(a==sysModules)=false /\
   ∃ xs,KT H kvs xs/\h.DictOfH (tupleKind (zaL P w)) a xs:=zmp ok (.inl e)
end
def DGet(H:Hp)(a:Addr)(y:V)(r:Option V):Prop :=
 (∃ kvs k,Rd H a (.dK kvs)/\y=kV k/\r=valV kvs k)\/∃ kvs k b,Rd H a (.dT kvs)/\y=.ref b/\H b=some (.tup (k.map kV))/\r=valV kvs k
def DPut(H:Hp)(a:Addr)(y v:V)(H':Hp):Prop :=
 (∃ kvs k,H a=some (.dK kvs)/\y=kV k/\kvs.length < sizeLine/\H'=upd H a (.dK (putK kvs k v))) \/
 ∃ kvs k b,H a=some (.dT kvs)/\y=.ref b/\H b=some (.tup (k.map kV))/\kvs.length < sizeLine/\H'=upd H a (.dT (putK kvs k v))
theorem DGet.k{H:Hp}{a:Addr}{kvs:List (Key×V)}{k:Key}(e:H a=some (.dK kvs)):DGet H a (kV k) (valV kvs k):=.inl ⟨kvs,k,.inl e,rfl,rfl⟩
theorem DGet.t{H:Hp}{a b:Addr}{kvs:List (List Key×V)}{k:List Key}(e:H a=some (.dT kvs))(eb:H b=some (.tup (k.map kV))):DGet H a (.ref b) (valV kvs k):=.inr ⟨kvs,k,b,.inl e,rfl,eb,rfl⟩
theorem DPut.k{H:Hp}{a:Addr}{kvs:List (Key×V)}{k:Key}{v:V}(e:H a=some (.dK kvs))(hl:kvs.length < sizeLine):DPut H a (kV k) v (upd H a (.dK (putK kvs k v))):=.inl ⟨kvs,k,e,rfl,hl,rfl⟩
theorem DPut.t{H:Hp}{a b:Addr}{kvs:List (List Key×V)}{k:List Key}{v:V}(e:H a=some (.dT kvs))(eb:H b=some (.tup (k.map kV)))(hl:kvs.length < sizeLine) :
   DPut H a (.ref b) v (upd H a (.dT (putK kvs k v))):=.inr ⟨kvs,k,b,e,rfl,eb,hl,rfl⟩
section
variable {X:Cx} {pins:List (Addr×Obj)} {σ:St} {H:Hp} {s:Shared} {a:Addr} {y v:V} {u r:Value} {o:Option V} {A:Around} {E:Value->Shared->Prop}
theorem Inv.big(I:Inv X pins σ H s):sysModules < s.heap.objs.size:=by
 have h:mainGlobals < s.heap.objs.size:=(I.mod.glob.keeps I.bk).lt;exact BN (by decide) h
theorem ziI{Q:Value->Shared->Prop}(hu:A.units+1 < cLine)(I:Inv X pins σ H s)(g:DGet H a y (some v))(ry:RelV y u)(h:∀ w' s',Inv X pins σ H s'->RelV v w'->Q w' s') :
   wpAny (model X.prog X.w) A (getItem (.ref a) u) Q E s:=by
 rcases g with ⟨kvs,k,e,ey,l⟩ | ⟨kvs,k,b,e,ey,eb,l⟩
 . subst ey;obtain⟨z,hd,vs,rel,dd⟩:=zmq I.hok e;obtain⟨w',hw,rw'⟩:=RelO.some_of (v:=v) (o:=valueAt vs k) (by rw[l];exact rel.val k);exact wpAny_getItem_of (zlZ ry) dd.mapOf hw (h w' _ (I.tok _) rw')
 . subst ey
   cases (show u=A6 b from ry)
   obtain⟨z,hd,xs,rel,dd⟩:=zmp I.hok e;obtain⟨w',hw,rw'⟩:=RelO.some_of (v:=v) (o:=(atKey xs k).map (·.2)) (by rw[l];exact rel.val k);obtain⟨p,hp,hp2⟩:=Option.map_eq_some_iff.mp hw;refine wpAny_getItem_heap (CN hu) (zin I.hok eb) dd hp ?_;rw[hp2];exact h w' _ (I.tok _) rw'
theorem d_in{Q:Value->Shared->Prop}(hu:A.units+1 < cLine)(I:Inv X pins σ H s)(g:DGet H a y o)(ry:RelV y u)(h:∀ s',Inv X pins σ H s'->Q (.bool o.isSome) s') :
   wpAny (model X.prog X.w) A (compareOp .In u (.ref a)) Q E s:=by
 rcases g with ⟨kvs,k,e,ey,l⟩ | ⟨kvs,k,b,e,ey,eb,l⟩
 . subst ey;obtain⟨z,hd,vs,rel,dd⟩:=zmq I.hok e;refine wpAny_in_of (zlZ ry) hd dd.mapOf ?_;rw[<-(rel.val k).isSome_eq,<-l];exact h _ (I.tok _)
 . subst ey
   cases (show u=A6 b from ry)
   obtain⟨z,hd,xs,rel,dd⟩:=zmp I.hok e;refine wpAny_in_heap (CN hu) (zin I.hok eb) hd dd ?_;have q:=(rel.val k).isSome_eq;rw[Ep] at q;rw[<-q,<-l];exact h _ (I.tok _)
theorem zji{h':Heap}{t':Nat}{ob:HO}(I:Inv X pins σ H s)(mu:Mut (H a))(hs:BK a s.heap h')(he:∃ q,h'.get? a=some q)(new:zdn X.prog X.w (upd H a ob) h' a ob) :
   Inv X pins σ (upd H a ob) { s with heap:=h',toks:=t' } :=
 I.write (x:=a) (e:=a) mu (.inl rfl) (fun b q hb z=>(hs.2 b hb).trans z) he new
theorem zks{P:Program}{w:World}{H':Hp}{h':Heap}{kvs:List (Key×V)}{vs:List (Key×Value)}(z:kvs.length<=sizeLine)(hd:(a==sysModules)=false)(rel:KV kvs vs)(dd:h'.DictOf (zaL P w) a vs) :
   zdn P w H' h' a (.dK kvs):=⟨z,hd,vs,rel,dd⟩
theorem ziH{H':Hp}{Q:Unit->Shared->Prop}(hu:A.units+1 < cLine)(I:Inv X pins σ H s)(g:DPut H a y v H')(ry:RelV y u)(rv:RelV v r)(h:∀ s',Inv X pins σ H' s'->Q () s') :
   wpAny (model X.prog X.w) A (setItem (.ref a) u r) Q E s:=by
 rcases g with ⟨kvs,k,e,ey,l,eH⟩ | ⟨kvs,k,b,e,ey,eb,l,eH⟩
 . subst ey eH;obtain⟨z,hd,vs,rel,dd⟩:=zoQ I.hok e;have hz:vs.length<=sizeLine:=by rw[<-rel.length];exact z
   have hl:(putK kvs k v).length<=sizeLine:=by have:=zcD kvs k v;omega
   refine wpAny_setItem_pairs (hsz:=hz) (zlZ ry) dd fun h' dd' hs=>h _ ?_;have he:∃ q,h'.get? a=some q:=let ⟨q,_,_,hq,_⟩:=dd';⟨q,hq⟩
   exact zji I (by rw[e];exact DO) hs he (zks hl hd (rel.put k rv) dd')
 . subst ey eH
   cases (show u=A6 b from ry)
   obtain⟨z,hd,xs,rel,dd⟩:=zoO I.hok e;have hz:xs.length<=sizeLine:=by rw[<-Bk rel];exact z
   have hl:(putK kvs k v).length<=sizeLine:=by have:=zcD kvs k v;omega
   refine wpAny_setItem_heap (hsz:=hz) (CN hu) (zin I.hok eb) dd fun h' dd' hs=>h _ ?_;obtain⟨q,es,ep,hq,h2,h3,h4,_,h5⟩:=dd';refine zji I (by rw[e];exact DO) hs ⟨q,hq⟩ ⟨hl,hd,_,(rel.put k eb rv).keeps fun c ys ec=>?_,q,es,ep,hq,h2,h3,h4,h5⟩;rw[zaJ (znl ec e (fun z=>nomatch z))];exact ec
end
def NoSl(i:Expr):Prop:=∀ ov iv,subscripted i false ov iv=operate [ov,iv] (getItem ov iv)
theorem zkU{prog:Program}{w:World}{A:Around}{E:Value->Shared->Prop}{s:Shared}{env:Env}{value slice:Expr}{pos:Pos}{T id:String}{Q:Value->Shared->Prop}
   (hl:typeLookup (.type T) "__getitem__"=pure (some (.builtin id))) (hs:NoSl slice)
   (h:wpAny (model prog w) A (eval value env) (fun o s₁=>wpAny (model prog w) A (eval slice env) (fun i s₂=>s₂.TypeIs o T/\wpAny (model prog w) A (getItem o i) Q E s₂) E s₁) E s) :
   wpAny (model prog w) A (eval (.Subscript value slice pos) env) Q E s:=by
 refine DP (A9 h (fun o s₁ h₁=>A9 h₁ (fun i s₂ h₂=>?_) fun _ _ x=>x) fun _ _ x=>x);obtain⟨hT,h₂⟩:=h₂;unfold subscriptTail;refine Aa ?_;rw[getitemInPython_of_ne hT.not_modules];refine Aa (wpAny_specialOf hT hl ?_);have fin:wpAny (model prog w) A (subscripted slice false o i) (fun r s₃=>wpAny (model prog w) A (letTemporaryGo value o r >>= fun _=>pure r) Q E s₃) E s₂:=by
   rw[hs o i];exact wpAny_operating (A9 h₂ (fun r s₃ h₃=>Aa (wpAny_letTemporaryGo (Ad h₃))) fun _ _ x=>x)
 first
   | exact Ad (Aa fin)
   | exact Aa (Ad (Aa fin))
   | exact Aa fin
theorem zga{X:Cx}{pins:List (Addr×Obj)}{σ:St}{H:Hp}{s:Shared}{a:Addr}{y:V}{o:Option V}(I:Inv X pins σ H s)(g:DGet H a y o):s.TypeIs (.ref a) "dict":=by
 rcases g with ⟨kvs,k,e,_,_⟩ | ⟨kvs,k,b,e,_,_,_⟩
 . obtain⟨_,_,vs,_,dd⟩:=zmq I.hok e;exact dd.typeIs
 . obtain⟨_,_,xs,_,dd⟩:=zmp I.hok e;exact dd.typeIs
noncomputable def zn6(td ty:TE):TE:=fun σ H Q=>td σ H fun x H1=>ty σ H1 fun y H2=>∃ a v,x=.ref a/\DGet H2 a y (some v)/\Q v H2
noncomputable def tDIn(ty td:TE):TE:=fun σ H Q=>ty σ H fun y H1=>td σ H1 fun x H2=>∃ a o,x=.ref a/\DGet H2 a y o/\Q (.bl o.isSome) H2
noncomputable def zoe(td ty tv:TE):TS:=fun D σ H=>tv σ H fun v H1=>td σ H1 fun x H2=>ty σ H2 fun y H3=>∃ a H4,x=.ref a/\DPut H3 a y v H4/\D.nx σ H4
section
variable {X:Cx} {o i e value:Expr} {pos pos' tpos:Pos} {td ty tv:TE}
theorem zls(hu:X.A.units+1 < cLine)(ho:PE X o td)(hi:PE X i ty)(hs:NoSl i):PE X (.Subscript o i pos) (zn6 td ty):=by
 intro pins s σ H Q I h;refine zkU PySem.F.slot_dict_getitem.lookup hs (thn (ho pins s σ H _ I h) fun u s1 ⟨x,H1,I1,rx,q1⟩=>thn (hi pins s1 σ H1 _ I1 q1) ?_);rintro iv s2 ⟨y,H2,I2,ry,a,v,ex,g,q2⟩;subst ex;obtain rfl:u=A6 a:=rx;exact⟨zga I2 g,ziI hu I2 g ry fun w' s3 I3 rw'=>⟨v,H2,I3,rw',q2⟩⟩
theorem zm8(hu:X.A.units+1 < cLine)(hi:PE X i ty)(ho:PE X o td):PC X .In i o (tDIn ty td):=by
 intro pins s σ H Q I h;refine thn (hi pins s σ H _ I h) fun iv s1 ⟨y,H1,I1,ry,q1⟩=>thn (ho pins s1 σ H1 _ I1 q1) ?_;rintro u s2 ⟨x,H2,I2,rx,a,ov,ex,g,q2⟩;subst ex;obtain rfl:u=A6 a:=rx;exact d_in hu I2 g ry fun s3 I3=>⟨.bl ov.isSome,H2,I3,rfl,q2⟩
theorem zlk(hu:X.A.units+1 < cLine)(ho:PE X o td)(hi:PE X i ty)(hv:PE X value tv)(hs:swapsWith value (some (.Subscript o i pos')) pos.line X.env=pure false) :
   PS X (.Assign [.Subscript o i pos'] value pos) (zoe td ty tv):=by
 intro pins s σ H D I h;refine wpAny_Assign_Subscript (thn (hv pins s σ H _ I h) fun r s1 ⟨v,H1,I1,rv,q1⟩=>thn (ho pins s1 σ H1 _ I1 q1) fun u s2 ⟨x,H2,I2,rx,q2⟩=>thn (hi pins s2 σ H2 _ I2 q2) ?_) hs;rintro iv s3 ⟨y,H3,I3,ry,a,H4,ex,g,q3⟩;subst ex;obtain rfl:u=A6 a:=rx;exact ziH hu I3 g ry rv fun s4 I4=>⟨σ,H4,I4,q3⟩
end
noncomputable def zdt(kvs more:List (Key×V)):List (Key×V):=more.foldl (fun acc kv=>putK acc kv.1 kv.2) kvs
theorem KV.merge:∀ {more:List (Key×V)} {rs:List (Key×Value)} {kvs:List (Key×V)} {vs:List (Key×Value)},KV more rs->KV kvs vs->KV (zdt kvs more) (merged vs rs):=by
 intro more rs kvs vs r;unfold KV at r
 induction r generalizing kvs vs with
 | nil=>intro q;exact q
 | @cons p q ps qs h t ih =>
   intro r0;have e:KV (putK kvs p.1 p.2) (stored vs q.1 q.2):=by
     have:=r0.put p.1 h.2;rw[<-h.1];exact this
   exact ih e
theorem zbK:∀ (more kvs:List (Key×V)),(zdt kvs more).length<=kvs.length+more.length
 | [],kvs=>by show kvs.length<=kvs.length+0;omega
 | p::r,kvs=>by
   have h1:=zbK r (putK kvs p.1 p.2);have h2:=zcD kvs p.1 p.2;show (zdt (putK kvs p.1 p.2) r).length<=_;rw[AD];omega
end L2
namespace HT
open PySem PyProof.Rows
noncomputable def lexLt:List Int->List Int->Bool
 | [],[]=>false
 | [],_::_=>true
 | _::_,[]=>false
 | x::xs,y::ys=>if x=y then lexLt xs ys else decide (x < y)
theorem lexLt_cons(x y:Int)(xs ys:List Int):lexLt (x::xs) (y::ys)=if x=y then lexLt xs ys else decide (x < y):=rfl
theorem lexLt_nil_nil:lexLt [] []=false:=rfl
theorem lexLt_nil_cons(y:Int)(ys:List Int):lexLt [] (y::ys)=true:=rfl
theorem lexLt_cons_nil(x:Int)(xs:List Int):lexLt (x::xs) []=false:=rfl
theorem zkp(A:Around)(s:Shared)(a:Int)(t:Tok)(c:Int)(u:Tok):∃ e,SeqAt.EqAt A s (.int a t) (.int c u) e/\(e=true ↔ a=c) :=
 ⟨(a==c),Ec a t c u,by simp⟩
theorem zjO(A:Around)(s:Shared)(a:Int)(t:Tok)(c:Int)(u:Tok)(prog:Program)(w:World)(E:Value->Shared->Prop)(Q:Value->Shared->Prop)(h:Q (.bool (decide (a < c))) s) :
   wpAny (model prog w) A (richCompare .Lt (.int a t) (.int c u)) Q E s :=
 (EI h:wpAny (model prog w) A (compareOp .Lt (.int a t) (.int c u)) Q E s)
section
open PySem.SeqAt
open PySem.MeetsSeq PySem.MeetsSeq2 PySem.MeetsSeq3
theorem zd8(l b:Addr)(items items2:Array Value)(n n2:Nat)(dd dd2:Option Addr)(sl sl2:Array (Option Value))(ns ms:List Int)(hi:IntsAre items.toList ns)(hj:IntsAre items2.toList ms) :
   Meets (Builtin.«tuple.__lt__» ⟨[.ref l,.ref b],[]⟩)
     (fun _ R s=>s.heap.get? l=some { cls:=.type "tuple",dict:=dd,data:=.seq items n,slots:=sl }/\s.heap.get? b=some { cls:=.type "tuple",dict:=dd2,data:=.seq items2 n2,slots:=sl2 } /\
       R (.ok (.ret (.bool (lexLt ns ms)))) s) :=
 .of_wp fun prog w A R s h=>by
   obtain⟨hp,g,d,tk,os⟩:=s;obtain⟨hl,hb,h⟩:=h;have f2:=AutoSeq1.sub_tuple_tuple;have z1:items.size=ns.length:=by rw[<-hi.length];simp
   have z2:items2.size=ms.length:=by rw[<-hj.length];simp
   wp_walk using wpAny_loadPart' hl,wpAny_loadPart' hb,wpAny_forIn_list _ (fun rest b s'=>b.1=none/\s'=⟨hp,g,d,tk,os⟩/\∃ (vs ws:List Value) (ns' ms':List Int),rest=vs.zip ws /\
     IntsAre vs ns'/\IntsAre ws ms'/\ns'.length+items2.size=ms'.length+items.size/\R (.ok (.ret (.bool (lexLt ns' ms')))) ⟨hp,g,d,tk,os⟩) _
   case turn =>
     rintro ⟨y,x⟩ rest b s' ⟨hb',rfl,vs,ws,ns',ms',hz,hvi,hwi,hlen,hR⟩
     cases hvi with
     | nil=>rw[List.zip_nil_left] at hz;cases hz
     | cons a t hvi' =>
       cases hwi with
       | nil=>rw[List.zip_nil_right] at hz;cases hz
       | cons c u hwi' =>
         rw[Ed] at hz;injection hz with hyx hrest
         injection hyx with hy hx
         subst hy hx;rw[lexLt_cons] at hR;simp only[AD] at hlen;obtain⟨e,he,hiff⟩:=zkp A.in1 ⟨hp,g,d,tk,os⟩ a t c u;refine Aa (he prog w _ _ ?_)
         cases e with
         | true =>
           rw[if_pos (hiff.mp rfl)] at hR
           wp_walk
           exact⟨rfl,rfl,_,_,_,_,hrest,hvi',hwi',by omega,hR⟩
         | false =>
           rw[if_neg (fun q=>absurd (hiff.mpr q) Bd)] at hR;have hri:=zjO A.in1 ⟨hp,g,d,tk,os⟩ a t c u prog w
           wp_walk using hri
           exact⟨_,rfl,by simpa using hR⟩
   case fin =>
     rintro ⟨b1,b2⟩ s' ⟨hb',rfl,vs,ws,ns',ms',hz,hvi,hwi,hlen,hR⟩;simp only at hb';subst hb';have hv:lexLt ns' ms'=decide (items.size < items2.size):=by
       cases hvi with
       | nil =>
         cases hwi with
         | nil =>
           simp only[Bf] at hlen;rw[lexLt_nil_nil];exact (decide_eq_false (by omega)).symm
         | cons c u hw =>
           simp only[Bf,AD] at hlen;rw[lexLt_nil_cons];exact (decide_eq_true (by omega)).symm
       | cons a t hv =>
         cases hwi with
         | nil =>
           simp only[Bf,AD] at hlen;rw[lexLt_cons_nil];exact (decide_eq_false (by omega)).symm
         | cons c u hw =>
           rw[Ed] at hz;cases hz
     rw[hv] at hR
     wp_walk
     exact⟨_,rfl,by simpa[Builtin.Tuple.tupleCompareSizes] using hR⟩
   case h =>
     exact⟨rfl,rfl,items.toList,items2.toList,ns,ms,rfl,hi,hj,by omega,h⟩
end
section
variable {prog:Program} {w:World} {A:Around} {E:Value->Shared->Prop} {s:Shared}
theorem lt_tupInts{l b:Addr}{items items2:Array Value}{ns ms:List Int}{Q:Value->Shared->Prop}(hl:IsTup s.heap l items)(hb:IsTup s.heap b items2)(hi:IntsAre items.toList ns)(hj:IntsAre items2.toList ms)
   (hu:A.units < cLine) (h:Q (.bool (lexLt ns ms)) s):wpAny (model prog w) A (compareOp .Lt (.ref l) (.ref b)) Q E s:=by
 obtain⟨⟨cls,dd,data,sl⟩,ho,hc,n,hd⟩:=id hl;obtain⟨⟨cls2,dd2,data2,sl2⟩,ho2,hc2,n2,hd2⟩:=id hb;simp only at hc hd hc2 hd2;subst hc hd hc2 hd2;exact richCompare_meets_room (op:=.Lt) ⟨_,ho,rfl⟩ ⟨_,ho2,rfl⟩ PySem.F.slot_tuple_lt PySem.F.entry_tuple_lt (PySem.F.args_tuple_lt_2 _ _) (zd8 l b items items2 n n2 dd dd2 sl sl2 ns ms hi hj)
   ⟨ho,ho2,show Cd (lexLt ns ms)≠Value.notImplemented/\Q (.bool (lexLt ns ms)) s from ⟨(fun x=>nomatch x),h⟩⟩ hu
theorem cat_tup{t b:Addr}{vs ws:List Value}{Q:Value->Shared->Prop}(ht:IsTup s.heap t vs.toArray)(hb:IsTup s.heap b ws.toArray)(hv:vs≠[])
   (h1:ws=[]->Q (.ref t) s) (h2:ws≠[]->Q (.ref s.heap.objs.size) { s with heap:=s.heap.push { cls:=.type "tuple",data:=.seq (vs++ws).toArray } })
   (hsz:vs.length+ws.length<=sizeLine):wpAny (model prog w) A (binaryOp .Add (.ref t) (.ref b)) Q E s:=by
 obtain⟨⟨cls,dd,data,sl⟩,ho,hc,n,hd⟩:=id ht;obtain⟨⟨cls2,dd2,data2,sl2⟩,ho2,hc2,n2,hd2⟩:=id hb;simp only at hc hd hc2 hd2;subst hc hd hc2 hd2;have e:vs.toArray++ws.toArray=(vs++ws).toArray:=by simp
 by_cases hw:ws=[]
 . exact concat_meets ⟨_,ho,rfl⟩ ⟨_,ho2,rfl⟩ noFill_tuple_add seq_tuple_add Dy Dj (C8 _ _)
     (tuple_addW1 t b vs.toArray ws.toArray n n2 dd dd2 sl sl2 (by simpa using hv) (by simp[hw])) ⟨ho,ho2,h1 hw⟩
 . refine concat_meets ⟨_,ho,rfl⟩ ⟨_,ho2,rfl⟩ noFill_tuple_add seq_tuple_add Dy Dj (C8 _ _)
     (tuple_addW2 t b vs.toArray ws.toArray n n2 dd dd2 sl sl2 (by simpa using hv) (by simpa using hw) (by rw[Am,Am];exact hsz)) ⟨ho,ho2,?_⟩
   rw[e];exact h2 hw
noncomputable def sIx(n d:Nat):Option Int->Nat
 | none=>d
 | some v=>if v < 0 then (v+(n:Int)).toNat else min v.toNat n
theorem sIx_none(n d:Nat):sIx n d none=d:=rfl
theorem sIx_nat(n d k:Nat):sIx n d (some (k:Int))=min k n:=by
 show (if (k:Int) < 0 then ((k:Int)+(n:Int)).toNat else min (k:Int).toNat n)=min k n;rw[if_neg (by omega),Bv]
theorem zmN(n d:Nat)(hd:d<=n)(o:Option Int):sIx n d o<=n:=by
 cases o with
 | none=>exact hd
 | some v =>
   show (if v < 0 then (v+(n:Int)).toNat else min v.toNat n)<=n
   by_cases hv:v < 0
   . rw[if_pos hv];omega
   . rw[if_neg hv];exact EB _ _
theorem zjj(v:Int)(n d:Nat):(if v < 0 then max (v+(n:Int)) 0 else min v (n:Int))=((sIx n d (some v):Nat):Int):=by
 show (if v < 0 then max (v+(n:Int)) 0 else min v (n:Int))=(((if v < 0 then (v+(n:Int)).toNat else min v.toNat n):Nat):Int)
 by_cases hv:v < 0
 . simp only[if_pos hv];omega
 . simp only[if_neg hv];omega
theorem zhI(lo hi:Option Int)(n:Nat):A5 lo hi 1 (n:Int)=(((sIx n 0 lo:Nat):Int),((sIx n n hi:Nat):Int)):=by
 have h1:¬ ((1:Int) < 0):=by omega
 unfold A5;simp only[h1,if_false];refine Prod.ext ?_ ?_
 . cases lo with
   | none=>rfl
   | some v=>exact zjj v n 0
 . cases hi with
   | none=>rfl
   | some v=>exact zjj v n n
theorem zgP(i j:Nat):AS (i:Int) (j:Int) 1=j - i:=by
 unfold AS;have h1:(1:Int) > 0:=by omega
 simp only[h1,if_true,Int.ediv_one]
 split <;> omega
theorem slicePart_{v:Value}{o:Option Int}{Q:Option Int->Shared->Prop}(p:IsPart v o)(h:Q o s):wpAny (model prog w) A (Builtin.Slice.slicePartIndex v) Q E s:=by
 cases p with
 | none=>exact slicePart_none h
 | int i t=>exact slicePart_int h
theorem sliceApplied_gen{sl:Addr}{vl vu:Value}{lo hi:Option Int}{n:Nat}{Q:Int×Int×Nat->Shared->Prop}(hs:s.heap.IsSliceOf sl vl vu .none)(pl:IsPart vl lo)(pu:IsPart vu hi)
   (h:Q (((sIx n 0 lo:Nat):Int),1,sIx n n hi - sIx n 0 lo) s):wpAny (model prog w) A (Bu (.ref sl) (pure (n:Int))) Q E s:=by
 obtain⟨os,hos,hcs,hds⟩:=id hs;unfold Bu C3;refine Aa (Aa (AV hos hds (x:=vl) rfl (Aa (AV hos hds (x:=vu) rfl (Aa (AV hos hds (x:=.none) rfl (Ad ?_)))))));refine Aa (slicePart_none ?_);show wpAny _ _ (if ((1:Int)==0)=true then _ else _) _ _ s;rw[if_neg (by decide)];refine Aa (slicePart_ pl (Aa (slicePart_ pu (Aa (Ad ?_)))));show wpAny _ _ (match A5 lo hi 1 (n:Int) with | (lo,hi)=>pure (lo,(1:Int),AS lo hi 1)) _ _ s;rw[zhI lo hi n];show wpAny _ _ (pure (((sIx n 0 lo:Nat):Int),(1:Int),AS ((sIx n 0 lo:Nat):Int) ((sIx n n hi:Nat):Int) 1)) _ _ s;rw[zgP];exact Ad h
theorem zjV(xs:Array Value)(i k:Nat):((AJ k).filterMap fun (m:Nat)=>xs[((i:Int)+(m:Int)*1).toNat]?).toArray=((xs.toList.drop i).take k).toArray:=by
 have e:(fun (m:Nat)=>xs[((i:Int)+(m:Int)*1).toNat]?)=fun m=>xs[i+m]?:=by
   funext m
   have:((i:Int)+(m:Int)*1).toNat=i+m:=by omega
   rw[this]
 rw[e];have:=pick_run xs i k;rw[Ee] at this;have e2:((fun x=>xs[x]?) ∘ fun x=>i+x)=fun m=>xs[i+m]?:=rfl;rw[e2] at this;rw[this]
theorem getItem_tuple_cut{t sl:Addr}{items:Array Value}{vl vu:Value}{lo hi:Option Int}{Q:Value->Shared->Prop}(ht:IsTup s.heap t items)(hs:s.heap.IsSliceOf sl vl vu .none)(pl:IsPart vl lo)(pu:IsPart vu hi)
   (hw:¬ (sIx items.size 0 lo=0/\sIx items.size items.size hi=items.size))
   (h:Q (.ref s.heap.objs.size) { s with heap:=s.heap.push { cls:=.type "tuple",data:=.seq ((items.toList.drop (sIx items.size 0 lo)).take (sIx items.size items.size hi - sIx items.size 0 lo)).toArray } })
   (hsz:items.size<=sizeLine):wpAny (model prog w) A (getItem (.ref t) (.ref sl)) Q E s:=by
 have htake:sizeOk (.seq ((items.toList.drop (sIx items.size 0 lo)).take (sIx items.size items.size hi - sIx items.size 0 lo)).toArray):=by
   show ((items.toList.drop (sIx items.size 0 lo)).take (sIx items.size items.size hi - sIx items.size 0 lo)).toArray.size<=sizeLine;rw[Am,Bl,C9,A4];omega
 have hj:sIx items.size items.size hi<=items.size:=zmN _ _ (Af _) hi;obtain⟨os,hos,hcs,hds⟩:=id hs;have hTs:s.TypeIs (.ref sl) "slice":=⟨os,hos,hcs⟩
 unfold getItem
 try with_reducible refine AR ?_
 first | refine Aa (Ad ?_) | skip
 refine Aa (CY ht.typeIs (by decide) ?_);refine Aa (A2 (name:=BO "__getitem__") ht.typeIs AY
   (A3 AY ht.typeIs CH ?_ (CO _ _)))
 show wpAny _ _ (BV (.ref t) >>= _) _ _ s;refine Aa (DW ht ?_);refine Aa (BP hTs ?_);rw[if_pos (by decide)];refine Aa (sliceApplied_gen hs pl pu ?_);have hno:¬ ((((sIx items.size 0 lo:Nat):Int)==0&&(1:Int)==1&&(sIx items.size items.size hi - sIx items.size 0 lo)==items.size)=true):=by
   intro q;rw[Ar,Ar] at q;have q1:((sIx items.size 0 lo:Nat):Int)=0:=eq_of_beq q.1.1;have q2:sIx items.size items.size hi - sIx items.size 0 lo=items.size:=eq_of_beq q.2;exact hw ⟨by omega,by omega⟩
 show wpAny _ _ (if (((sIx items.size 0 lo:Nat):Int)==0&&(1:Int)==1&&(sIx items.size items.size hi - sIx items.size 0 lo)==items.size)=true then _ else _) _ _ s;rw[if_neg hno,zjV]
 first
   | exact Aa (m:=AW _) (AX (Ad ⟨_,rfl,Ad h⟩) htake)
   | exact Aa (m:=AW _) (AX (Aa (Ad (Ad ⟨_,rfl,Ad h⟩))) htake)
   | exact Aa (Aa (m:=AW _) (AX (Ad (Ad ⟨_,rfl,Ad h⟩)) htake))
   | exact Aa (Aa (m:=AW _) (AX (Ad ⟨_,rfl,Ad h⟩) htake))
end
end HT
namespace L2
open PySem PySem.Spec PyProof.Rows
noncomputable abbrev TO:=St->Hp->(Option Int->Hp->Prop)->Prop
def PO(X:Cx)(e:Option Expr)(t:TO):Prop :=
 ∀ (pins:List (Addr×Obj)) (s:Shared) (σ:St) (H:Hp) (Q:Option Int->Hp->Prop),Inv X pins σ H s->t σ H Q ->
   wpAny (model X.prog X.w) X.A (evalPart e X.env) (fun u s'=>∃ o H',Inv X pins σ H' s'/\IsPart u o/\Q o H') X.xe s
noncomputable def zkR:TO:=fun _ H Q=>Q none H
noncomputable def zn2(t:TE):TO:=fun σ H Q=>t σ H fun x H1=>∃ i,x=.int i/\Q (some i) H1
theorem intsAre_of{ns:List Int}:∀ {us:List Value},Vals (ns.map V.int) us->IntsAre us ns:=by
 induction ns with
 | nil=>intro us r;rw[BM] at r;cases r;exact .nil
 | cons n ns ih =>
   intro us r;rw[Az] at r
   cases r with
   | cons r1 r2 =>
     obtain⟨t,e⟩:=r1;subst e;exact .cons n t (ih r2)
section
variable {X:Cx} {e:Expr} {te:TE} {lo hi:Option Expr} {tl th:TO} {pos p2:Pos}
theorem zll:PO X none zkR:=by
 intro pins s σ H Q I h;rw[DX];exact Ad ⟨none,H,I,.none,h⟩
theorem zi9(h:PE X e te):PO X (some e) (zn2 te):=by
 intro pins s σ H Q I hw;rw[evalPart_some];refine thn (h pins s σ H _ I hw) ?_;rintro u s1 ⟨x,H1,I1,r1,q1⟩;obtain⟨i,rfl,q⟩:=q1;obtain⟨t,rfl⟩:=r1;exact⟨some i,H1,I1,.int i t,q⟩
def SlR(X:Cx)(r:V->Option Int->Option Int->Hp->VK->Prop):Prop :=
 ∀ (pins:List (Addr×Obj)) (s:Shared) (σ:St) (H:Hp) (x:V) (v vl vu:Value) (lo hi:Option Int) (sl:Addr) (Q:VK),Inv X pins σ H s->RelV x v->s.heap.IsSliceOf sl vl vu .none->IsPart vl lo->IsPart vu hi->r x lo hi H Q ->
   ∃ T id,typeLookup (.type T) "__getitem__"=pure (some (.builtin id))/\s.TypeIs v T/\wpAny (model X.prog X.w) X.A (getItem v (.ref sl)) (EP X pins σ Q) X.xe s
noncomputable def tSl(r:V->Option Int->Option Int->Hp->VK->Prop)(te:TE)(tl th:TO):TE:=fun σ H Q=>te σ H fun x H1=>tl σ H1 fun l H2=>th σ H2 fun u H3=>r x l u H3 Q
theorem zdN{r:V->Option Int->Option Int->Hp->VK->Prop}(hr:SlR X r)(he:PE X e te)(hl:PO X lo tl)(hu:PO X hi th):PE X (.Subscript e (.Slice lo hi none p2) pos) (tSl r te tl th):=by
 intro pins s σ H Q I h;refine DP (thn (he pins s σ H _ I h) ?_);rintro v s1 ⟨x,H1,I1,r1,q1⟩;refine wpAny_Slice (thn (hl pins s1 σ H1 _ I1 q1) fun vl s2 ⟨l,H2,I2,pl,q2⟩=>thn (hu pins s2 σ H2 _ I2 q2) ?_);rintro vu s3 ⟨u,H3,I3,pu,q3⟩;rw[DX];refine Ad ?_;have I4:Inv X pins σ H3 { s3 with heap:=s3.heap.push { cls:=.type "slice",data:=.fields #[vl,vu,.none] } }:=I3.kept (t':=s3.toks) fun b ob q=>Ac _ q;obtain⟨T,id,hT,ht,hg⟩:=hr pins { s3 with heap:=s3.heap.push { cls:=.type "slice",data:=.fields #[vl,vu,.none] } } σ H3 x v vl vu l u s3.heap.objs.size Q I4 r1 (Ef ..) pl pu q3;show wpAny (model X.prog X.w) X.A (subscriptTail e (.Slice lo hi none p2) v (.ref s3.heap.objs.size)) (EP X pins σ Q) X.xe { s3 with heap:=s3.heap.push { cls:=.type "slice",data:=.fields #[vl,vu,.none] } };exact tail_any (ops:=[.ref s3.heap.objs.size,v]) ht hT hg (by with_unfolding_all rfl)
noncomputable def cutV(xs:List V)(lo hi:Option Int):List V:=(xs.drop (HT.sIx xs.length 0 lo)).take (HT.sIx xs.length xs.length hi - HT.sIx xs.length 0 lo)
theorem zdE(xs:List V)(lo hi:Option Int):(cutV xs lo hi).length<=xs.length:=by
 unfold cutV;rw[Bl,C9];omega
noncomputable def rSlT(K:Ab):V->Option Int->Option Int->Hp->VK->Prop:=fun x lo hi H Q=>∃ a xs,x=.ref a/\SqT K H a xs /\
 ¬ (HT.sIx xs.length 0 lo=0/\HT.sIx xs.length xs.length hi=xs.length)/\∀ p,H p=none->Q (.ref p) (upd H p (.tup (cutV xs lo hi)))
theorem zmD:SlR X (rSlT X.K):=by
 intro pins s σ H x v vl vu lo hi sl Q I rx hs pl pu h;obtain⟨a,xs,rfl,hx,hw,q⟩:=h;cases rx;obtain⟨its,r,ht,hz⟩:=I.tuple hx;have hlen:its.toArray.size=xs.length:=by rw[Am];exact r.length.symm
 refine⟨"tuple",_,PyProof.Rows.slot_tuple_getitem.lookup,ht.typeIs,?_⟩;refine HT.getItem_tuple_cut ht hs pl pu (by rw[hlen];exact hw) ?_ (by rw[hlen];exact hz);rw[hlen];refine⟨.ref s.heap.objs.size,_,I.laid (t':=s.toks) (o:=.tup (cutV xs lo hi)) (fun b ob q=>Ac _ q) (Af _) ?_,rfl,q _ (I.hok.fresh (Af _))⟩;exact⟨AB (zdE xs lo hi) hz,_,(r.drop (HT.sIx xs.length 0 lo)).take (HT.sIx xs.length xs.length hi - HT.sIx xs.length 0 lo),zb6.new _ _⟩
noncomputable def rLtT(K:Ab):R2:=fun x y H Q=>∃ a b ns ms,x=.ref a/\y=.ref b/\SqT K H a (ns.map V.int)/\SqT K H b (ms.map V.int)/\Q (.bl (HT.lexLt ns ms)) H
theorem znc(hu:X.A.units < cLine):OpR X (compareOp .Lt) (rLtT X.K):=by
 intro pins s σ H x y v u Q I rx ry h;obtain⟨a,b,ns,ms,rfl,rfl,ha,hb,q⟩:=h;cases rx;cases ry;obtain⟨its,r1,p1,_⟩:=I.tuple ha;obtain⟨its2,r2,p2,_⟩:=I.tuple hb;have i1:IntsAre its.toArray.toList ns:=intsAre_of r1;have i2:IntsAre its2.toArray.toList ms:=intsAre_of r2;exact HT.lt_tupInts p1 p2 i1 i2 hu ⟨.bl (HT.lexLt ns ms),H,I,rfl,q⟩
noncomputable def zog(K:Ab):R2:=fun x y H Q=>∃ a b xs ys,x=.ref a/\y=.ref b/\SqT K H a xs/\SqT K H b ys/\xs≠[]/\xs.length+ys.length<=sizeLine /\
 (ys=[]->Q (.ref a) H)/\(ys≠[]->∀ p,H p=none->Q (.ref p) (upd H p (.tup (xs++ys))))
theorem Vals.nil_iff{xs:List V}{us:List Value}(r:Vals xs us):us=[] ↔ xs=[]:=by
 cases r with
 | nil=>simp
 | cons _ _=>simp
theorem zlD:OpR X (binaryOp .Add) (zog X.K):=by
 intro pins s σ H x y v u Q I rx ry h;obtain⟨a,b,xs,ys,rfl,rfl,ha,hb,hx,hz,q1,q2⟩:=h;cases rx;cases ry;obtain⟨its,r1,p1,_⟩:=I.tuple ha;obtain⟨its2,r2,p2,_⟩:=I.tuple hb;refine HT.cat_tup p1 p2 (fun z=>hx (r1.nil_iff.mp z)) (fun z=>⟨.ref a,H,I,rfl,q1 (r2.nil_iff.mp z)⟩) (fun z=>?_) (by rw[<-r1.length,<-r2.length];exact hz);refine⟨.ref s.heap.objs.size,_,I.laid (t':=s.toks) (o:=.tup (xs++ys)) (fun b ob q=>Ac _ q) (Af _) ?_,rfl,q2 (fun w=>z (r2.nil_iff.mpr w)) _ (I.hok.fresh (Af _))⟩;exact⟨by rw[AN];exact hz,_,r1.append r2,zb6.new _ _⟩
end
noncomputable def ixN(n:Nat)(i:Int):Option Nat:=if 0<=i then (if i < n then some i.toNat else none) else if -(n:Int)<=i then some (i+n).toNat else none
noncomputable def atI{α:Type}(xs:List α)(i:Int):Option α:=(ixN xs.length i).bind fun j=>xs[j]?
theorem zjf{n:Nat}{i:Int}{j:Nat}(h:ixN n i=some j):seqIndex? i n=some j/\j < n/\-(n:Int)<=i/\i < n:=by
 unfold ixN at h
 by_cases h0:0<=i
 . rw[if_pos h0] at h
   by_cases h1:i < n
   . rw[if_pos h1] at h;have e:i.toNat=j:=Ai h;exact⟨by rw[Ey h0 h1,e],by omega,by omega,h1⟩
   . rw[if_neg h1] at h;cases h
 . rw[if_neg h0] at h
   by_cases h1:-(n:Int)<=i
   . rw[if_pos h1] at h;have e:(i+n).toNat=j:=Ai h;exact⟨by rw[Eg (by omega) h1,e],by omega,h1,by omega⟩
   . rw[if_neg h1] at h;cases h
theorem zhG{α:Type}{xs:List α}{i:Int}{v:α}(h:atI xs i=some v):∃ j,seqIndex? i xs.length=some j/\xs[j]?=some v/\j < xs.length/\-(xs.length:Int)<=i/\i < xs.length:=by
 unfold atI at h
 cases e:ixN xs.length i with
 | none=>rw[e] at h;cases h
 | some j =>
   rw[e] at h;obtain⟨h1,h2,h3,h4⟩:=zjf e;exact⟨j,h1,h,h2,h3,h4⟩
def zhJ(b:Expr):Prop:=∀ o i,subscripted b false o i=operate [o,i] (getItem o i)
def IxR(X:Cx)(r:R2):Prop :=
 ∀ (value slice:Expr) (pins:List (Addr×Obj)) (s:Shared) (σ:St) (H:Hp) (x y:V) (v u:Value) (Q:VK),Inv X pins σ H s->RelV x v->RelV y u->r x y H Q ->
   subscripted slice false v u=operate [v,u] (getItem v u)->wpAny (model X.prog X.w) X.A (subscriptTail value slice v u) (EP X pins σ Q) X.xe s
def MtR(X:Cx)(id:String)(r:V->List V->Hp->VK->Prop):Prop :=
 ∀ (pins:List (Addr×Obj)) (s:Shared) (σ:St) (H:Hp) (x:V) (xs:List V) (v:Value) (us:List Value) (Q:VK),Inv X pins σ H s->RelV x v->Vals xs us->r x xs H Q ->
   wpAny (model X.prog X.w) X.A (call (.builtin id) (v::us)) (EP X pins σ Q) X.xe s
section
variable {X:Cx} {a b:Expr} {ta tb:TE} {pos:Pos}
theorem zoq{r:R2}(hr:IxR X r)(ha:PE X a ta)(hb:PE X b tb)(hs:zhJ b):PE X (.Subscript a b pos) (tOp r ta tb):=by
 intro pins s σ H Q I h;exact DP (binT ha hb I h fun v u s2 x y H2 I2 rx ry q=>hr a b pins s2 σ H2 x y v u Q I2 rx ry q (hs _ _))
noncomputable def rIxL(K:Ab):R2:=fun x y H Q=>∃ p xs i v,x=.ref p/\y=.int i/\SqL K H p xs/\atI xs i=some v/\Q v H
noncomputable def rIxT(K:Ab):R2:=fun x y H Q=>∃ p xs i v,x=.ref p/\y=.int i/\SqT K H p xs/\atI xs i=some v/\Q v H
noncomputable def rIxS:R2:=fun x y H Q=>∃ z i c,x=.str z/\y=.int i/\z.length<=sizeLine/\atI z.cps.toList i=some c/\Q (.str ⟨#[c]⟩) H
theorem zje:IxR X (rIxL X.K):=by
 intro value slice pins s σ H x y v u Q I rx ry h hs;obtain⟨p,xs,i,z,rfl,rfl,hq,he,q⟩:=h;cases rx;obtain⟨t,rfl⟩:=ry;obtain⟨its,r,pl,hz⟩:=I.list hq;obtain⟨j,h1,h2,h3,h4,h5⟩:=zhG he;obtain⟨w,ew,rw'⟩:=r.get h2;have hl:=r.length;have hn:=zeZ;have fin:EP X pins σ Q w s:=⟨z,H,I,rw',q⟩
 by_cases h0:0<=i
 . have hj:i.toNat=j:=by
     rw[Ey h0 h5] at h1;exact Ai h1
   exact item_listR pl.isList h0 (by omega) (by rw[hj];simpa using ew) fin hs
 . have hj:(i+(its.toArray.size:Int)).toNat=j:=by
     rw[Eg (by omega) h4] at h1;rw[Am,<-hl];exact Ai h1
   exact Dz (x:=w) pl.isList.typeIs slot_list_getitem.lookup
     (wpAny_getItem_list_neg (Q:=fun r s'=>r=w/\EP X pins σ Q r s') pl.isList (by omega) (by rw[Am] <;> omega) (by omega) (by rw[hj];simpa using ew) ⟨rfl,fin⟩) hs
theorem za2:IxR X (rIxT X.K):=by
 intro value slice pins s σ H x y v u Q I rx ry h hs;obtain⟨p,xs,i,z,rfl,rfl,hq,he,q⟩:=h;cases rx;obtain⟨t,rfl⟩:=ry;obtain⟨its,r,pl,hz⟩:=I.tuple hq;obtain⟨j,h1,h2,h3,h4,h5⟩:=zhG he;obtain⟨w,ew,rw'⟩:=r.get h2;have hl:=r.length;have hn:=zeZ;have fin:EP X pins σ Q w s:=⟨z,H,I,rw',q⟩
 exact Dz (x:=w) pl.typeIs slot_tuple_getitem.lookup
   (getItem_tuple (j:=j) (Q:=fun r s'=>r=w/\EP X pins σ Q r s') pl (by omega) (by omega) (by rw[Am,<-hl];exact h1) (by simpa using ew) ⟨rfl,fin⟩) hs
theorem zir:IxR X rIxS:=by
 intro value slice pins s σ H x y v u Q I rx ry h hs;obtain⟨z,i,c,rfl,rfl,hz,he,q⟩:=h;obtain⟨t,rfl⟩:=rx;obtain⟨t',rfl⟩:=ry;obtain⟨j,h1,h2,h3,h4,h5⟩:=zhG he;have hl:z.cps.toList.length=z.length:=by simp[Str.length]
 rw[hl] at h1 h4 h5;have hn:=zeZ;exact tail_any (EK s z t) slot_str_getitem.lookup (getItem_str (c:=c) (by
   have e1:decide (i < -(2 ^ 63:Int))=false:=decide_eq_false (by omega);have e2:decide (i ≥ 2 ^ 63)=false:=decide_eq_false (by omega);rw[e1,e2,Bool.or_false]) (by rw[h1];simpa using h2) ⟨.str ⟨#[c]⟩,H,I.tok _,⟨_,rfl⟩,q⟩) hs
theorem zhb(its:List Value)(n j:Nat)(u:Value):AU (·.setIfInBounds j u) { cls:=.type "list",data:=.seq its.toArray n }={ cls:=.type "list",data:=.seq (its.set j u).toArray n }:=by
 simp[AU]
theorem Inv.lst{pins:List (Addr×Obj)}{σ:St}{H:Hp}{s:Shared}{p:Addr}{xs:List V}(I:Inv X pins σ H s)(h:H p=some (.lst xs)) :
   ∃ (its:List Value) (n:Nat),Vals xs its/\s.heap.get? p=some { cls:=.type "list",data:=.seq its.toArray n }/\xs.length<=sizeLine:=by
 obtain⟨z,its,n,r,e⟩:=I.hok p _ h;exact⟨its,n,r,e,z⟩
theorem Inv.lstUpd{pins:List (Addr×Obj)}{σ:St}{H:Hp}{s:Shared}{p:Addr}{xs ys:List V}{its its':List Value}{n n':Nat}{f:Obj->Obj}(I:Inv X pins σ H s)(h:H p=some (.lst xs))
   (ho:s.heap.get? p=some { cls:=.type "list",data:=.seq its.toArray n }) (hf:f { cls:=.type "list",data:=.seq its.toArray n }={ cls:=.type "list",data:=.seq its'.toArray n' }) (r:Vals ys its') (hz:ys.length<=sizeLine) (t:Nat) :
   Inv X pins σ (upd H p (.lst ys)) { s with heap:=s.heap.update p f,toks:=t }:=by
 have e:(s.heap.update p f).get? p=some { cls:=.type "list",data:=.seq its'.toArray n' }:=by
   rw[DE f ho (by rw[hf] <;> rfl),hf]
 refine I.write (x:=p) (e:=p) (by rw[h];trivial) (.inl rfl) (fun b u hb q=>(DA _ _ (BJ hb)).trans q) ⟨_,e⟩ ?_;exact⟨hz,its',n',r,e⟩
noncomputable def zof:V->V->V->Hp->(Hp->Prop)->Prop:=fun o i v H Q=>∃ p xs k j,o=.ref p/\i=.int k/\H p=some (.lst xs)/\ixN xs.length k=some j/\Q (upd H p (.lst (xs.set j v)))
theorem set_list:PSet X zof:=by
 intro pins s σ H o i v ov iv u Q I ro ri rv h;obtain⟨p,xs,k,j,rfl,rfl,hp,hj,q⟩:=h;cases ro;obtain⟨t,rfl⟩:=ri;obtain⟨its,n,r,ho,hz⟩:=I.lst hp;obtain⟨h1,h2,h3,h4⟩:=zjf hj;have hl:=r.length;have hn:=zeZ;have I':Inv X pins σ (upd H p (.lst (xs.set j v))) { s with heap:=s.heap.update p (AU (·.setIfInBounds j u)) } :=
   I.lstUpd hp ho (zhb its n j u) (r.set rv j) (by rw[Do];exact hz) s.toks
 by_cases h0:0<=k
 . have hk:k.toNat=j:=by
     rw[Ey h0 h4] at h1;exact Ai h1
   exact PySem.W.ki_setAt ho h0 (by omega) (by rw[Am,<-hl];exact h4) (by rw[hk];exact⟨_,I',q⟩)
 . have hk:(k+(its.toArray.size:Int)).toNat=j:=by
     rw[Eg (by omega) h3] at h1;rw[Am,<-hl];exact Ai h1
   exact PySem.W.ki_setBack ho (by omega) (by rw[Am,<-hl];exact h3) (by omega) (by rw[hk];exact⟨_,I',q⟩)
theorem zeR(lo hi:Option Int)(n:Nat):(sliceBounds lo hi none n).1=((HT.sIx n 0 lo:Nat):Int)/\(sliceBounds lo hi none n).2.1=((HT.sIx n n hi:Nat):Int)/\(sliceBounds lo hi none n).2.2=1:=by
 refine⟨?_,?_,rfl⟩
 . cases lo with
   | none=>simp[sliceBounds,HT.sIx]
   | some i =>
     simp only[sliceBounds,HT.sIx,EC,show (1:Int) > 0 by decide,if_true]
     by_cases h:i < 0
     . simp only[h,if_true] <;> omega
     . simp only[h,if_false] <;> omega
 . cases hi with
   | none=>simp[sliceBounds,HT.sIx]
   | some i =>
     simp only[sliceBounds,HT.sIx,EC,show (1:Int) > 0 by decide,if_true]
     by_cases h:i < 0
     . simp only[h,if_true] <;> omega
     . simp only[h,if_false] <;> omega
theorem zeb(its:List Value)(lo hi:Option Int):slicePick its.toArray lo hi none=((its.drop (HT.sIx its.length 0 lo)).take (HT.sIx its.length its.length hi - HT.sIx its.length 0 lo)).toArray:=by
 obtain⟨h1,h2,h3⟩:=zeR lo hi its.toArray.size;unfold slicePick;rw[h1,h2,h3];simp only[sliceRange_one,pick_run,Am] <;> rfl
noncomputable def rSlL(K:Ab):V->Option Int->Option Int->Hp->VK->Prop:=fun x lo hi H Q=>∃ a xs,x=.ref a/\SqL K H a xs/\∀ p,H p=none->Q (.ref p) (upd H p (.lst (cutV xs lo hi)))
theorem zi4:SlR X (rSlL X.K):=by
 intro pins s σ H x v vl vu lo hi sl Q I rx hs pl pu h;obtain⟨a,xs,rfl,hx,q⟩:=h;cases rx;obtain⟨its,r,ht,hz⟩:=I.list hx;have hlen:=r.length;refine⟨"list",_,slot_list_getitem.lookup,ht.isList.typeIs,?_⟩;refine wpAny_getItem_list_slice ht.isList hs pl pu .none (by simp) ?_ (by rw[Am] <;> omega);rw[zeb,<-hlen];refine⟨.ref s.heap.objs.size,_,I.laid (t':=s.toks) (o:=.lst (cutV xs lo hi)) (fun b ob q=>Ac _ q) (Af _) ?_,rfl,q _ (I.hok.fresh (Af _))⟩;exact⟨AB (zdE xs lo hi) hz,_,0,(r.drop (HT.sIx xs.length 0 lo)).take (HT.sIx xs.length xs.length hi - HT.sIx xs.length 0 lo),Ap _ rfl⟩
theorem zb5:zhK X (.builtin "len") (fun xs H Q=>∃ p ys,xs=[.ref p]/\(SqL X.K H p ys\/SqT X.K H p ys)/\Q (.int ys.length) H):=by
 intro pins s σ H xs us Q I r h;obtain⟨p,ys,rfl,hq,q⟩:=h;obtain⟨u,rfl,rx⟩:=vals1 r;cases rx;have hn:=zeZ
 rcases hq with hq | hq
 . obtain⟨its,r',pl,hz⟩:=I.list hq;have hlen:=r'.length;exact Calls.call_len_list pl.isList (by simp only[Am] <;> omega) ⟨.int ys.length,H,I.tok _,⟨s.toks+1,by rw[Am,hlen]⟩,q⟩
 . obtain⟨its,r',pl,hz⟩:=I.tuple hq;have hlen:=r'.length;exact len_tuple pl (by simp only[Am] <;> omega) ⟨.int ys.length,H,I.tok _,⟨s.toks+1,by rw[Am,hlen]⟩,q⟩
theorem ze8:zhK X (.builtin "len") (fun xs H Q=>∃ z,xs=[.str z]/\z.length<=sizeLine/\Q (.int z.length) H):=by
 intro pins s σ H xs us Q I r h;obtain⟨z,rfl,hz,q⟩:=h;obtain⟨u,rfl,t,rfl⟩:=vals1 r;have hn:=zeZ;exact len_str (by omega) ⟨.int z.length,H,I.tok _,⟨_,rfl⟩,q⟩
theorem zcL:zhK X (.type "tuple") (fun xs H Q=>∃ p ys,xs=[.ref p]/\((SqL X.K H p ys/\∀ l,H l=none->Q (.ref l) (upd H l (.tup ys)))\/(SqT X.K H p ys/\Q (.ref p) H))):=by
 intro pins s σ H xs us Q I r h;obtain⟨p,ys,rfl,h⟩:=h;obtain⟨u,rfl,rx⟩:=vals1 r;cases rx
 rcases h with ⟨hq,q⟩ | ⟨hq,q⟩
 . obtain⟨its,r',pl,hz⟩:=I.list hq;have hlen:=r'.length;refine call_tuple_list pl.isList (fun h' kp=>?_) (by simp only[Am] <;> omega);have I1:Inv X pins σ H { s with heap:=h' }:=I.kept (t':=s.toks) kp;have I2:Inv X pins σ (upd H h'.objs.size (.tup ys)) { s with heap:=h'.push { cls:=.type "tuple",data:=.seq its.toArray } } :=
     I1.laid (t':=s.toks) (fun b o e=>Ac _ e) (Af _) (show zdn X.prog X.w _ _ _ (.tup ys) from ⟨hz,its,r',zb6.new _ _⟩)
   exact⟨.ref h'.objs.size,_,I2,rfl,q _ (I1.hok.fresh (Af _))⟩
 . obtain⟨its,r',pl,hz⟩:=I.tuple hq;exact call_tuple_same pl ⟨.ref p,H,I,rfl,q⟩
def tyV(K:Ab)(T:String)(x:V)(H:Hp):Prop:=match x with
 | .str _=>T="str"
 | .int _=>T="int"
 | .ref p=>(T="list"/\∃ xs,SqL K H p xs)\/(T="tuple"/\∃ o,K.lookup p=some o/\o.cls=.type "tuple"/\o.dict=none) \/
     (T="dict"/\((∃ kvs,H p=some (.dK kvs))\/∃ kvs,H p=some (.dT kvs)))\/(T="set"/\∃ S n,H p=some (.set S n))
 | _=>False
theorem zmw{pins:List (Addr×Obj)}{σ:St}{H:Hp}{s:Shared}{T:String}{x:V}{v:Value}(I:Inv X pins σ H s)(r:RelV x v)(ty:tyV X.K T x H) :
   s.TypeIs v T/\∀ a,v=.ref a->∃ ob,s.heap.get? a=some ob/\ob.dict=none:=by
 cases x with
 | str z =>
   obtain⟨t,rfl⟩:=r
   cases (show T="str" from ty)
   exact⟨EK s z t,fun _ e=>nomatch e⟩
 | int i =>
   obtain⟨t,rfl⟩:=r
   cases (show T="int" from ty)
   exact⟨typeIs_int s i t,fun _ e=>nomatch e⟩
 | ref p =>
   cases r
   rcases ty with ⟨rfl,xs,hq⟩ | ⟨rfl,o,hk,hc,hd⟩ | ⟨rfl,hk⟩ | ⟨rfl,S,n,hk⟩
   . obtain⟨its,_,pl,_⟩:=I.list hq;refine⟨pl.isList.typeIs,fun a e=>?_⟩;cases e;obtain⟨o,n,e,c,hd,_⟩:=pl;exact⟨o,e,hd⟩
   . refine⟨⟨o,I.kIn p o hk,hc⟩,fun a e=>?_⟩;cases e;exact⟨o,I.kIn _ o hk,hd⟩
   . have z:∃ o,s.heap.get? p=some o/\o.ExactDict:=by
       rcases hk with ⟨kvs,hk⟩ | ⟨kvs,hk⟩
       . obtain⟨_,_,_,_,o,_,_,e,ex,_⟩:=I.hok p _ hk;exact⟨o,e,ex⟩
       . obtain⟨_,_,_,_,o,_,_,e,ex,_⟩:=I.hok p _ hk;exact⟨o,e,ex⟩
     obtain⟨o,e,ex⟩:=z;refine⟨⟨o,e,ex.1⟩,fun a e2=>?_⟩;cases e2;exact⟨o,e,ex.2.1⟩
   . obtain⟨o,_,_,_,e,ex,_⟩:=I.hok p _ hk;refine⟨⟨o,e,ex.1⟩,fun a e2=>?_⟩;cases e2;exact⟨o,e,ex.2.1⟩
 | _=>exact False.elim ty
noncomputable def tBM(K:Ab)(T:String)(r:V->List V->Hp->VK->Prop)(to:TE)(t:TA):TE:=fun σ H Q=>to σ H fun x H1=>tyV K T x H1/\t σ H1 fun xs H2=>r x xs H2 Q
variable {o e:Expr} {es:List Expr} {to:TE} {t:TA} {name:Str} {apos cpos:Pos} {T id:String} {r:V->List V->Hp->VK->Prop}
theorem znQ(pa:PlainAttrs T)(slot:Slot T name id)(hty:typeOf (.builtin id)=pure (.type "method_descriptor"))(hm:MtR X id r)(ho:PE X o to)(ha:PA X (e::es) t)
   (hbase:attributeBase o name X.env (eval o X.env)=eval o X.env:=by rfl)
   (hfew:((backTo cpos (starEach (e::es) X.env)).all (fun x=>!x.1)&&(backToKw cpos (keywordEach [] X.env)).all (fun x=>x.1.isSome)
    &&decide ((e::es).length+([]:List Keyword).length+(if ([]:List Keyword).isEmpty then 0 else 1) < 30))=true:=by rfl)
   (hline:(apos.endLine==cpos.line)=true:=by rfl) (hs:starEach (e::es) X.env=(false,eval e X.env)::starEach es X.env:=by rfl) (hplain:(backTo cpos (starEach es X.env)).any (·.1)=false:=by rfl) :
   PE X (.Call (.Attribute o name apos) (e::es) [] cpos) (tBM X.K T r to t):=by
 intro pins s σ H Q I h;refine wpAny_Call_method_late hbase hfew hline rfl (thn (ho pins s σ H _ I h) ?_);rintro v s1 ⟨x,H1,I1,r1,ty,q1⟩;obtain⟨h1,h2⟩:=zmw I1 r1 ty;refine⟨T,id,pa,slot,hty,h1,h2,?_⟩;have hA:=ha cpos pins s1 σ H1 _ I1 q1;rw[hs] at hA ⊢;refine Calls.callWith_builtin (by show (false || (backTo cpos (starEach es X.env)).any (·.1))=false;rw[hplain] <;> rfl) (Calls.evalArgs_plain ?_);exact thn hA fun us s2 ⟨vs,H2,I2,r2,q2⟩=>hm pins s2 σ H2 x vs v us Q I2 r1 r2 q2
end
def MtM(X:Cx)(id:String)(r:V->List V->Hp->VK->Prop):Prop :=
 ∀ (pins:List (Addr×Obj)) (s:Shared) (σ:St) (H:Hp) (x:V) (xs:List V) (v:Value) (us:List Value) (Q:VK),Inv X pins σ H s->RelV x v->Vals xs us->r x xs H Q ->
   wpAny (model X.prog X.w) X.A (call (.builtin id) (v::us)) (EP X pins σ Q) X.xe s
theorem Vals.one:∀ {x:V} {us:List Value},Vals [x] us->∃ u,us=[u]/\RelV x u
 | _,_,.cons r .nil=>⟨_,rfl,r⟩
theorem Vals.two{x y:V}{us:List Value}(h:Vals [x,y] us):∃ u v,us=[u,v]/\RelV x u/\RelV y v:=by
 cases h with
 | cons r t =>
   cases t with
   | cons q t =>
     cases t;exact⟨_,_,rfl,r,q⟩
section
variable {X:Cx} {pins:List (Addr×Obj)} {σ:St} {H:Hp} {s:Shared} {l b:Addr} {xs ys zs:List V}
theorem Inv.lset{its its':List Value}{n:Nat}{f:Array Value->Array Value}{t':Nat}(I:Inv X pins σ H s)(hH:H l=some (.lst xs))
   (e:s.heap.get? l=some { cls:=.type "list",data:=.seq its.toArray n }) (hf:f its.toArray=its'.toArray) (hv:Vals ys its') (hz:ys.length<=sizeLine) :
   Inv X pins σ (upd H l (.lst ys)) { s with heap:=s.heap.update l (AU f),toks:=t' }:=by
 have q:=PySem.IsL.update e f;rw[hf] at q;refine I.write (x:=l) (e:=l) (by rw[hH];exact trivial) (.inl rfl) (fun b' u hb hu=>(DA s.heap (AU f) (BJ hb)).trans hu) ⟨_,q⟩ ?_;exact⟨hz,its',_,hv,q⟩
theorem Inv.lnew{its:List Value}{t':Nat}(I:Inv X pins σ H s)(hv:Vals ys its)(hz:ys.length<=sizeLine) :
   Inv X pins σ (upd H s.heap.objs.size (.lst ys)) { s with heap:=s.heap.push { cls:=.type "list",data:=.seq its.toArray },toks:=t' } :=
 I.laid (fun _ _ q=>Ac _ q) (Af _) ⟨hz,its,0,hv,Ap _ rfl⟩
theorem Inv.fresh(I:Inv X pins σ H s):H s.heap.objs.size=none:=I.hok.fresh (Af _)
theorem Inv.lstM(I:Inv X pins σ H s)(hH:H l=some (.lst xs)):xs.length<=sizeLine/\∃ (its:List Value) (n:Nat),Vals xs its/\xs.length=its.length/\s.heap.get? l=some { cls:=.type "list",data:=.seq its.toArray n }:=by
 obtain⟨z,its,n,r,e⟩:=I.hok l _ hH;exact⟨z,its,n,r,r.length,e⟩
theorem zj6{n:Nat}(h:n<=sizeLine):B7 n=false:=by
 unfold B7;exact decide_eq_false (by omega)
end
section
variable {X:Cx}
noncomputable def zlf:V->List V->Hp->VK->Prop:=fun x vs H Q=>∃ l xs y,x=.ref l/\vs=[y]/\H l=some (.lst xs)/\xs.length < sizeLine/\Q .non (upd H l (.lst (xs++[y])))
theorem zfq:MtM X "list.append" zlf:=by
 intro pins s σ H x vs v us Q I rx rv h;obtain⟨l,xs,y,rfl,rfl,hH,hz,q⟩:=h;cases rx;obtain⟨u,rfl,ru⟩:=rv.one;obtain⟨z,its,n,r,hl,e⟩:=I.lstM hH;refine DQ F.slot_list_append ⟨_,e,rfl⟩ F.entry_list_append (F.args_list_append_2 _ _) (PySem.list_append l its.toArray n u (by rw[Am];omega)) ⟨e,?_⟩;refine⟨.non,_,I.lset (its':=its++[u]) hH e (by simp) (r.append (.cons ru .nil)) ?_,rfl,q⟩;rw[AN,Cv];omega
noncomputable def zle:V->List V->Hp->VK->Prop:=fun x vs H Q=>∃ l b xs zs,x=.ref l/\vs=[.ref b]/\H l=some (.lst xs)/\H b=some (.lst zs)/\xs.length+zs.length<=sizeLine/\Q .non (upd H l (.lst (xs++zs)))
theorem zii:MtM X "list.extend" zle:=by
 intro pins s σ H x vs v us Q I rx rv h;obtain⟨l,b,xs,zs,rfl,rfl,hH,hB,hz,q⟩:=h;cases rx;obtain⟨u,rfl,ru⟩:=rv.one;cases ru;obtain⟨z,its,n,r,hl,e⟩:=I.lstM hH;obtain⟨z2,its2,n2,r2,hl2,e2⟩:=I.lstM hB;have hsz:its.toArray.size+its2.toArray.size<=sizeLine:=by rw[Am,Am];omega
 have hlong:¬ (!its.toArray.isEmpty&&B7 (its.toArray.size+its2.toArray.size))=true:=by
   rw[zj6 hsz,Bool.and_false];exact Bd
 refine DQ F.slot_list_extend ⟨_,e,rfl⟩ F.entry_list_extend (F.args_list_extend_2 _ _)
   (AutoSeq1.list_extend_list_list_0 l its.toArray n b its2.toArray n2 hlong (by rw[Am];omega) (by omega)) ⟨e,e2,?_⟩
 refine⟨.non,_,I.lset (its':=its++its2) hH e (by simp) (r.append r2) ?_,rfl,q⟩;rw[AN];omega
noncomputable def rCat:R2:=fun x y H Q=>∃ l b xs zs,x=.ref l/\y=.ref b/\H l=some (.lst xs)/\H b=some (.lst zs)/\xs.length+zs.length<=sizeLine/\∀ p,H p=none->Q (.ref p) (upd H p (.lst (xs++zs)))
theorem zng:OpR X (binaryOp .Add) rCat:=by
 intro pins s σ H x y v u Q I rx ry h;obtain⟨l,b,xs,zs,rfl,rfl,hH,hB,hz,q⟩:=h;cases rx;cases ry;obtain⟨z,its,n,r,hl,e⟩:=I.lstM hH;obtain⟨z2,its2,n2,r2,hl2,e2⟩:=I.lstM hB;refine PySem.P.add_list e e2 ?_ (by rw[Am,Am];omega);have ea:its.toArray++its2.toArray=(its++its2).toArray:=by simp
 rw[ea];exact⟨.ref _,_,I.lnew (t':=s.toks) (r.append r2) (by rw[AN];omega),rfl,q _ I.fresh⟩
end
section
variable {prog:Program} {w:World} {A:Around} {E:Value->Shared->Prop} {s:Shared}
set_option maxRecDepth 100000 in
end
end L2
namespace Att
open PySem PySem.W PySem.Calls PyProof.Rows
theorem zdu{P:Params}{h:Heap}:∀ (ns:List Int) (vs:List Value),WellAll P h vs (ns.map WData.int)->IntsAre vs ns:=by
 intro ns
 induction ns with
 | nil =>
   intro vs w;rw[BM] at w;cases w;exact .nil
 | cons n ns ih =>
   intro vs w;rw[Az] at w
   cases w with
   | cons a b =>
     cases a;exact .cons _ _ (ih _ b)
theorem zh5{l:OpenLaw}{n:Nat}(hn:l.most=some n){P:Params}{h:Heap}{args:List WData}{vals:List Value}
   (hpre:l.row.toRowW.claim.pre args=true) (hwl:WellAll P h vals args) :
   ∃ a vs ns,vals=[A6 a]/\args=[WData.list (ns.map WData.int)]/\h.get? a=some { cls:=.type "list",data:=.seq vs.toArray }/\IntsAre vs ns/\ns.length<=n:=by
 have hsh:WShape.hasAll [] args [.list .int]=true:=(pre_splitW hpre).1;have hc:l.pre.holds [] { args:=args }=true:=(pre_splitW hpre).2;obtain⟨d,r,rfl,h1,h2⟩:=hasAllW_cons hsh;obtain rfl:=hasAllW_nil h2;obtain⟨xs,rfl,h3⟩:=hasW_list h1;obtain⟨ns,rfl⟩:=items_int h3;have hlen:ns.length<=n:=by
   unfold OpenLaw.pre at hc;have h4:(WTm.not (.lt (.lit (.int (n:Int))) (.len (.arg 0)))).holds [] { args:=[.list (ns.map .int)] }=true:=by
     have h4:=(holds_andW hc).1;rw[hn] at h4;exact h4
   have h5:=condW_of h4 (w_not (w_lt w_lit (w_len_list (w_arg rfl))));rw[Ag] at h5;refine Nat.le_of_not_lt fun q=>?_;have q':(n:Int) < ((ns.length:Nat):Int):=by omega
   first
     | (rw[decide_eq_true q'] at h5;exact absurd h5 (by decide))
     | (simp at h5;omega)
 cases hwl with
 | cons w1 w2 =>
   cases w2
   cases w1 with
   | list ho hall=>exact⟨_,_,ns,rfl,rfl,ho,zdu ns _ hall,hlen⟩
theorem zia(l:OpenLaw)(args:List WData):l.row.toRowW.claim.post args (.bool true) args=true :=
 postW_of (r:=l.row.toRowW) (X:=(true==true))
   (show WShape.has [] (.bool true) .bool=true by first | rfl | decide | simp[WShape.has,WShape.arms,WShape.armsAll])
   (show (WTm.eq .res (.lit (.bool true))).value [] { args:=args,res:=some (.bool true),after:=args }=some (.bool (true==true)) from w_eq_bool (w_res rfl) w_lit) rfl
theorem attach_call{l:OpenLaw}{n:Nat}{q:Program}{loose:List Str}{XP:(Str->Option Value)->Heap->Prop}{YP:World->Heap->Prop}{d:DefRec}
   (hn:l.most=some n) (hdf:d.params.defaults=[])
   (call:∀ (w:World) (s₀ s₁:Shared) (mg mb:Str->Option Value) (fa:Addr) (o:Obj) (pm cd doc:Value) (a:Addr) (vs:List Value) (ns:List Int),
     Ground q loose [] XP w s₀ mg mb s₁.heap->YP w s₁.heap ->
     s₁.heap.get? fa=some o->o.data=.func (docDef d.name d.params d.body d.scope pm cd doc)->s₁.heap.CodeRec cd d.name->mg d.name=some (.ref fa) ->
     s₁.heap.get? a=some { cls:=.type "list",data:=.seq vs.toArray }->IntsAre vs ns->ns.length<=n->s₁.gens=#[] ->
     codeAny (model l.prog w) callerA (.call (.ref fa) ⟨[.ref a],[]⟩) (fun r s'=>r=.ok (.ret (.bool true))/\OldK s₁.heap s'.heap/\s'.os=s₁.os/\AllBare s'.gens) s₁) :
   WalkO q loose XP YP l.row.toRowW d [] (fun f vs=>EL f vs):=by
 intro w s₀ s₁ mg mb G Y fa o pm cd doc dV kV ho hd hcd hD hmg hg args vals as hpre hlay hrd hwl hlo;obtain rfl:dV=.none:=Dflts.none hD hdf;obtain rfl:kV=.none:=Dflts.noKw hD;obtain⟨a,vs,ns,rfl,rfl,hobj,hints,hlen⟩:=zh5 hn hpre hwl;refine enter_call (Ea (call w s₀ s₁ mg mb fa o pm cd doc a vs ns G Y ho (fd_plain hd) hcd hmg hobj hints hlen hg) fun r s' hq=>?_);obtain⟨rfl,h2,h3,h4⟩:=hq;exact⟨.inl ⟨.bool true,.bool true,[],rfl,fun _=>rfl,.bool true,zia l _,fun _=>⟨CZ,fun _ hm=>(nomatch hm)⟩⟩,h2,h3,h4⟩
end Att
namespace L2
open PySem PySem.Spec PyProof.Rows
theorem zfc:∀ {vs:List Value} {ns:List Int},IntsAre vs ns->Vals (ns.map V.int) vs
 | _,_,.nil=>.nil
 | _,_,.cons n t h=>.cons ⟨t,rfl⟩ (zfc h)
def Only(H:Hp):Prop:=∀ b,H b=none\/∃ o xs,H b=some (.frz o (.lst xs))
theorem zkd{P:Program}{w:World}{K:Ab}{mg mb:Str->Option Value}{CX:CXT}{k:Nat}{fa a:Addr}{fd:FuncData}{x:Str}{sp:Sp}{s₁:Shared}{vs:List Value}{ns:List Int}
   (KX:K.In s₁.heap) (hns:s₁.heap.Ns mainGlobals mg) (hb:s₁.heap.Ns builtinsNs mb) (hbb:∀ x:Str,x≠"__name__"->mb x=bootBuiltins x) (hlim:s₁.heap.NoLimit) (hg:s₁.gens=#[])
   (ha:s₁.heap.get? a=some { cls:=.type "list",data:=.seq vs.toArray }) (hi:IntsAre vs ns) (hl:ns.length<=sizeLine) (hr:Room k callerA)
   (F:∀ base:Heap,K.In base->base.Ns mainGlobals mg->FnOk P w K mg base CX k fa fd [x] sp) (hbind:∀ (s:Shared) (u:Value),BindsTo s fd ⟨[u],[]⟩ [(x,u)])
   (hsp:∀ H:Hp,Only H->SqL K H a (ns.map V.int)->sp [.ref a] H (fun v _=>v=.bl true) fun _ _ _=>False)
   (hCX:∀ H e s',CX [] H s₁ (fun _ _ _=>False) e s'->False) :
   codeAny (model P w) callerA (.call (.ref fa) ⟨[.ref a],[]⟩) (fun r s'=>r=.ok (.ret (.bool true))/\OldK s₁.heap s'.heap/\s'.os=s₁.os/\AllBare s'.gens) s₁:=by
 have rv:=zfc hi;have lenV:=hi.length
 -- from an abstract heap in which nothing but the script may be tracked
 have core:∀ H:Hp,Only H->SqL K H a (ns.map V.int)->HOk P w H s₁.heap->(∀ b,H b≠none->b=a)->(H a≠none->K.lookup a=none) ->
     codeAny (model P w) callerA (.call (.ref fa) ⟨[.ref a],[]⟩) (fun r s'=>r=.ok (.ret (.bool true))/\OldK s₁.heap s'.heap/\s'.os=s₁.os/\AllBare s'.gens) s₁:=by
   intro H hO hS hok hA hK;have base_of:∀ {b:Addr} {o:Obj},s₁.heap.get? b=some o->H b=none->(hidT s₁.heap H).get? b=some o:=fun e n=>zkg e n;have noA:∀ {b:Addr} {o:Obj} {es:Array DictEntry} {ep:Nat},s₁.heap.get? b=some o->o.data=.dict es ep->H b=none:=fun {b o es ep} e d=>by
     cases q:H b with
     | none=>rfl
     | some u =>
       have e':b=a:=hA b (by rw[q];simp);subst e';rw[ha] at e;cases e;have d':Data.seq vs.toArray _=Data.dict es ep:=d;cases d'
   have nsK:∀ {b:Addr} {m:Str->Option Value},s₁.heap.Ns b m->(hidT s₁.heap H).Ns b m:=fun {b m} ⟨o,es,ep,e,d,r⟩=>⟨o,es,ep,base_of e (noA e d),d,r⟩
   have hKb:K.In (hidT s₁.heap H):=fun b o e=>base_of (KX b o e) (by
     cases q:H b with
     | none=>rfl
     | some u =>
       have e':b=a:=hA b (by rw[q];simp);subst e';rw[hK (by rw[q];simp)] at e;cases e)
   have hM:Mod K mg (hidT s₁.heap H):=⟨hKb,nsK hns,⟨mb,nsK hb,hbb⟩,let ⟨mc,h1,h2⟩:=hlim;⟨mc,nsK h1,h2⟩⟩
   have e0:Env0 P w K mg (hidT s₁.heap H) callerA [] s₁ H:=⟨rfl,hM,fun b o e=>zlG e,Eh (ziv _ _),trivial,fun b hb=>absurd (show b∈([]:List Addr) from hb) (by simp),hok,.of_eq hg⟩
   refine Ea ((F _ hKb (nsK hns)).run callerA [] s₁ H ⟨[.ref a],[]⟩ [.ref a] [.ref a] _ _ hr e0 (hbind s₁ (.ref a)) (.cons rfl .nil) (hsp H hO hS)) fun r s' h=>?_
   cases r with
   | error e=>exact (hCX H e s' h).elim
   | ok fl =>
     cases fl with
     | next=>exact False.elim h
     | brk=>exact False.elim h
     | cont=>exact False.elim h
     | ret u =>
       obtain⟨v,H',os,bare,un,hok',r',q⟩:=h;have q':v=.bl true:=q;subst q';obtain rfl:u=Cd true:=r';refine⟨rfl,OldK.of_keep fun b o e=>?_,os,bare⟩
       cases q:H b with
       | none=>exact un.keep b o e q (by intro z;exact absurd (show b∈([]:List Addr) from z) (by simp)) (by simp)
       | some u =>
         rcases hO b with z | ⟨ob,xs,z⟩
         . rw[q] at z;cases z
         . have z2:=un.frzs b ob _ z;obtain⟨e1,_⟩:=hok b _ z;obtain⟨e2,_⟩:=hok' b _ z2;rw[e] at e1;cases e1;exact e2
 cases hk:K.lookup a with
 | some o =>
   -- the script is one of the module's own objects
   have e:=KX a o hk;rw[ha] at e;cases e;refine core (fun _=>none) (fun _=>.inl rfl) (.inr ⟨_,vs.toArray,_,hk,rfl,rfl,rfl,by rw[Am,lenV];exact hl,by simpa using rv⟩) (fun b u z=>by have z':(none:Option HO)=some u:=z;cases z') (fun b z=>absurd rfl z) fun z=>absurd rfl z
 | none =>
   refine core (fun b=>if b=a then some (.frz { cls:=.type "list",data:=.seq vs.toArray } (.lst (ns.map V.int))) else none) (fun b=>?_) (.inl (.inr ⟨{ cls:=.type "list",data:=.seq vs.toArray },if_pos rfl⟩)) (fun b u z=>?_) (fun b z=>?_) fun _=>hk
   . by_cases hb:b=a
     . exact .inr ⟨_,_,if_pos hb⟩
     . exact .inl (if_neg hb)
   . by_cases hb:b=a
     . have z':=(if_pos hb).symm.trans z;cases z';subst hb;exact⟨ha,by rw[Ag];exact hl,vs,_,rv,ha⟩
     . have z':=(if_neg hb).symm.trans z;cases z'
   . by_cases hb:b=a
     . exact hb
     . exact absurd (if_neg hb) z
theorem walk_of{l:Dp}{n k:Nat}{q:Program}{loose:List Str}{XP:(Str->Option Value)->Heap->Prop}{YP:World->Heap->Prop}{d:DefRec}{K:Params->Ab}{CX:World->CXT}{sp:World->Sp}{x:Str}
   (hn:l.most=some n) (hn2:n<=sizeLine) (hdf:d.params.defaults=[]) (hr:Room k callerA)
   (hY:∀ (w:World) (h:Heap),YP w h->(K w.params).In h)
   (F:∀ (w:World) (mg:Str->Option Value) (fa:Addr) (h:Heap),(K w.params).In h->h.Ns mainGlobals mg->mg d.name=some (.ref fa) ->
     ∃ fd:FuncData,(∀ (s:Shared) (u:Value),BindsTo s fd ⟨[u],[]⟩ [(x,u)]) /\
       ∀ base:Heap,(K w.params).In base->base.Ns mainGlobals mg->FnOk l.prog w (K w.params) mg base (CX w) k fa fd [x] (sp w))
   (hsp:∀ (w:World) (H:Hp) (a:Addr) (ns:List Int),ns.length<=n->Only H->SqL (K w.params) H a (ns.map V.int)->sp w [.ref a] H (fun v _=>v=.bl true) fun _ _ _=>False)
   (hCX:∀ (w:World) (H:Hp) (s:Shared) (e:Value) (s':Shared),CX w [] H s (fun _ _ _=>False) e s'->False) :
   Fi q loose XP YP l.row.toRowW d [] (fun f vs=>EL f vs):=by
 refine Att.attach_call hn hdf fun w s₀ s₁ mg mb fa o pm cd doc a vs ns G Y ho hd hcd hmg hobj hints hlen hg=>?_;have KX:=hY w _ Y;obtain⟨fd,hb,hF⟩:=F w mg fa _ KX G.T.g hmg;exact zkd KX G.T.g G.T.b G.T.builtins G.T.nolimit hg hobj hints (AB hlen hn2) hr hF hb (fun H hO hS=>hsp w H a ns hlen hO hS) fun H e s'=>hCX w H s₁ e s'
noncomputable def zdd(s:Stmt):Arguments:=match s with
 | .FunctionDef _ a _ _ _ _ _ _ _ _=>a
 | _=>{ posonlyargs:=[],args:=[],vararg:=none,kwonlyargs:=[],kw_defaults:=[],kwarg:=none,defaults:=[] }
noncomputable def zbX(s:Stmt):List Stmt:=match s with
 | .FunctionDef _ _ b _ _ _ _ _ _ _=>b
 | _=>[]
noncomputable def zal(s:Stmt):Scope:=match s with
 | .FunctionDef _ _ _ _ _ _ sc _ _ _=>sc
 | _=>{ kind:=.function,names:=[],isGenerator:=false,isCoroutine:=false }
noncomputable abbrev CX0:CXT:=fun _ _ _ _ _ _=>False
noncomputable abbrev E0:XK:=fun _ _ _=>False
theorem zos{X:Cx}:Passes CX0 X E0:=fun _ _ _ _ _ _ _ h=>h.elim
structure Fun(K:Ab)(x qual:Str)(st:Stmt)(f:Addr)(fd:FuncData):Prop where
 ex:∃ (oc:Value) (od:Option Addr) (kV doc pm:Value) (an:Option Addr) (cdv ct:Value) (osl:Array (Option Value)),
   fd=Bq x qual (zdd st) (zbX st) (zal st) .none kV doc pm an cdv ct/\K.lookup f=some ⟨oc,od,.func fd,osl⟩/\Ce K cdv qual=true
 kp:By K (.ref f)=true
section
variable {P:Program} {w:World} {K:Ab} {mg:Str->Option Value} {base:Heap}
theorem Fun.ok{x qual:Str}{st:Stmt}{f:Addr}{fd:FuncData}{N ps:List Str}{k:Nat}{sp:Sp}(F:Fun K x qual st f fd)(S:FnScope N ps (zal st))(len:∀ vs H Q E,sp vs H Q E->vs.length=ps.length)
   (hbody:∀ (cdv:Value) (A:Around) (outer:List Env) (s:Shared) (H:Hp) (vs:List V) (Q:VK) (E:XK),Room k (A.deeper (envOfC qual (zal st) s.heap.objs.size f cdv))->sp vs H Q E ->
     ∃ t,PSs (cxOf CX0 P w K mg base N qual (zal st) f cdv A outer s H E).nox (zbX st) t/\t { nx:=fun _ H'=>Q .non H',rt:=Q } (start N vs) H):FnOk P w K mg base CX0 (k+1) f fd ps sp:=by
 obtain⟨oc,od,kV,doc,pm,an,cdv,ct,osl,rfl,lk,hcd⟩:=F.ex;refine zoL lk hcd S len fun A outer s H vs Q E hr hsp=>?_;obtain⟨t,h,q⟩:=hbody cdv A outer s H vs Q E hr hsp;exact⟨t,h.nox,q⟩
theorem Fun.binds{x qual:Str}{st:Stmt}{f:Addr}{fd:FuncData}{ps:List Str}(F:Fun K x qual st f fd)
   (h:∀ (kV doc pm:Value) (an:Option Addr) (cdv ct:Value) (us:List Value),us.length=ps.length->bindArgs (Bq x qual (zdd st) (zbX st) (zal st) .none kV doc pm an cdv ct) ⟨us,[]⟩=pure (ps.zip us)):Binds K fd ps []:=by
 obtain⟨oc,od,kV,doc,pm,an,cdv,ct,osl,rfl,lk,hcd⟩:=F.ex;exact .all (h kV doc pm an cdv ct)
theorem zkj{x qual:Str}{st:Stmt}{f:Addr}{oc:Value}{od an:Option Addr}{osl:Array (Option Value)}{kV doc pm cdv ct:Value}(l:K.lookup f=some ⟨oc,od,.func (Bq x qual (zdd st) (zbX st) (zal st) .none kV doc pm an cdv ct),osl⟩)
   (c:Ce K cdv qual=true) (k:By K (.ref f)=true):Fun K x qual st f (Bq x qual (zdd st) (zbX st) (zal st) .none kV doc pm an cdv ct):=⟨⟨oc,od,kV,doc,pm,an,cdv,ct,osl,rfl,l,c⟩,k⟩
end
theorem zbo{A:Around}{k:Nat}(hr:Room k A):A.units+1 < cLine:=B8 (CI (by decide:1<=64) _) hr.units
end L2
namespace L2.MP
open PySem PySem.Spec PyProof.Rows
inductive D where
 | non | bl (b:Bool) | int (i:Int) | str (x:Str) | tup (xs:List D) | ref (n:Nat) | kl (xs:List D)
inductive O where
 | lst (xs:List D) | fz (xs:List D) | dk (kvs:List (Key×D)) | dt (kvs:List (List Key×D)) | fk (kvs:List (Key×D)) | ft (kvs:List (List Key×D)) | ob (C:Addr) (fs:List (Str×D))
noncomputable abbrev Sto:=List O
noncomputable abbrev Rho:=List (Option D)
structure Kp(H H':Hp):Prop where
 tup:∀ a xs,H a=some (.tup xs)->H' a=some (.tup xs)
 frz:∀ a o u,H a=some (.frz o u)->H' a=some (.frz o u)
def SqF(K:Ab)(H:Hp)(a:Addr)(xs:List V):Prop :=
 (∃ o,H a=some (.frz o (.lst xs)))\/∃ (o:Obj) (its:Array Value) (n:Nat),K.lookup a=some o/\o.cls=.type "list"/\o.dict=none/\o.data=.seq its n/\its.size<=sizeLine/\Vals xs its.toList
theorem SqF.sq{K:Ab}{H:Hp}{a:Addr}{xs:List V}(h:SqF K H a xs):SqL K H a xs:=by
 rcases h with h | h
 . exact .inl (.inr h)
 . exact .inr h
theorem SqF.kp{K:Ab}{H H':Hp}{a:Addr}{xs:List V}(T:Kp H H')(h:SqF K H a xs):SqF K H' a xs:=by
 rcases h with ⟨o,h⟩ | h
 . exact .inl ⟨o,T.frz _ _ _ h⟩
 . exact .inr h
mutual
noncomputable def Rep(K:Ab)(H:Hp)(io:List Addr):V->D->Prop
 | v,.non=>v=.non
 | v,.bl b=>v=.bl b
 | v,.int i=>v=.int i
 | v,.str x=>v=.str x
 | v,.tup ds=>∃ a xs,v=.ref a/\H a=some (.tup xs)/\Reps K H io xs ds
 | v,.ref n=>∃ a,v=.ref a/\io[n]?=some a
 | v,.kl ds=>∃ a xs,v=.ref a/\SqF K H a xs/\Reps K H io xs ds
noncomputable def Reps(K:Ab)(H:Hp)(io:List Addr):List V->List D->Prop
 | xs,[]=>xs=[]
 | xs,d::ds=>∃ y ys,xs=y::ys/\Rep K H io y d/\Reps K H io ys ds
end
mutual
theorem Rep.mono{K:Ab}{H H':Hp}{io ka:List Addr}(T:Kp H H'):∀ {v:V} {d:D},Rep K H io v d->Rep K H' (io++ka) v d
 | _,.non,h=>h
 | _,.bl _,h=>h
 | _,.int _,h=>h
 | _,.str _,h=>h
 | _,.tup ds,h=>by
   obtain⟨a,xs,e,q,r⟩:=h;exact⟨a,xs,e,T.tup a xs q,Reps.mono T r⟩
 | _,.ref n,h=>by
   obtain⟨a,e,q⟩:=h;exact⟨a,e,by rw[Al (List.getElem?_eq_some_iff.mp q).1];exact q⟩
 | _,.kl ds,h=>by
   obtain⟨a,xs,e,q,r⟩:=h;exact⟨a,xs,e,q.kp T,Reps.mono T r⟩
theorem Reps.mono{K:Ab}{H H':Hp}{io ka:List Addr}(T:Kp H H'):∀ {xs:List V} {ds:List D},Reps K H io xs ds->Reps K H' (io++ka) xs ds
 | _,[],h=>h
 | _,d::ds,h=>by
   obtain⟨y,ys,e,r,rs⟩:=h;exact⟨y,ys,e,Rep.mono T r,Reps.mono T rs⟩
end
section
variable {K:Ab} {H H' H1 H2:Hp} {io ka kb:List Addr} {st st':Sto} {xs ys:List V} {ds es:List D}
theorem Reps.length:∀ {xs:List V} {ds:List D},Reps K H io xs ds->xs.length=ds.length
 | _,[],h=>by rw[show _=[] from h];rfl
 | _,d::ds,h=>by
   obtain⟨y,ys,e,_,rs⟩:=h;rw[e,AD,AD,Reps.length rs]
theorem Reps.get:∀ {xs:List V} {ds:List D} {i:Nat} {d:D},Reps K H io xs ds->ds[i]?=some d->∃ v,xs[i]?=some v/\Rep K H io v d
 | _,[],_,_,_,e=>by simp at e
 | _,a::ds,0,d,h,e=>by
   obtain⟨y,ys,rfl,r,_⟩:=h;have e':a=d:=by simpa using e
   subst e';exact⟨y,rfl,r⟩
 | _,a::ds,i+1,d,h,e=>by
   obtain⟨y,ys,rfl,_,rs⟩:=h;exact Reps.get (i:=i) rs (by simpa using e)
theorem Reps.append:∀ {xs ys:List V} {ds es:List D},Reps K H io xs ds->Reps K H io ys es->Reps K H io (xs++ys) (ds++es)
 | _,_,[],_,h,q=>by rw[show _=[] from h];exact q
 | _,_,d::ds,_,h,q=>by
   obtain⟨y,ys,rfl,r,rs⟩:=h;exact⟨y,_,rfl,r,Reps.append rs q⟩
theorem Reps.set:∀ {xs:List V} {ds:List D} {v:V} {d:D} (i:Nat),Reps K H io xs ds->Rep K H io v d->Reps K H io (xs.set i v) (ds.set i d)
 | _,[],_,_,_,h,_=>by rw[show _=[] from h];exact rfl
 | _,a::ds,v,d,0,h,q=>by
   obtain⟨y,ys,rfl,_,rs⟩:=h;exact⟨v,ys,rfl,q,rs⟩
 | _,a::ds,v,d,i+1,h,q=>by
   obtain⟨y,ys,rfl,r,rs⟩:=h;exact⟨y,_,rfl,r,Reps.set i rs q⟩
theorem Reps.take:∀ {xs:List V} {ds:List D} (n:Nat),Reps K H io xs ds->Reps K H io (xs.take n) (ds.take n)
 | _,[],n,h=>by rw[show _=[] from h];simp[Reps]
 | _,_::_,0,_=>by simp[Reps]
 | _,d::ds,n+1,h=>by
   obtain⟨y,ys,rfl,r,rs⟩:=h;exact⟨y,_,rfl,r,Reps.take n rs⟩
theorem Reps.drop:∀ {xs:List V} {ds:List D} (n:Nat),Reps K H io xs ds->Reps K H io (xs.drop n) (ds.drop n)
 | _,[],n,h=>by rw[show _=[] from h];simp[Reps]
 | _,_::_,0,h=>h
 | _,d::ds,n+1,h=>by
   obtain⟨y,ys,rfl,r,rs⟩:=h;exact Reps.drop n rs
theorem Reps.nil:Reps K H io [] []:=rfl
theorem Reps.cons{v:V}{d:D}(r:Rep K H io v d)(rs:Reps K H io xs ds):Reps K H io (v::xs) (d::ds):=⟨v,xs,rfl,r,rs⟩
theorem Reps.one{d:D}(r:Reps K H io xs [d]):∃ v,xs=[v]/\Rep K H io v d:=by
 obtain⟨y,ys,rfl,r,e⟩:=r
 cases (show ys=[] from e)
 exact⟨y,rfl,r⟩
theorem Reps.two{d e:D}(r:Reps K H io xs [d,e]):∃ v u,xs=[v,u]/\Rep K H io v d/\Rep K H io u e:=by
 obtain⟨y,ys,rfl,r,q⟩:=r;obtain⟨v,rfl,q'⟩:=q.one;exact⟨y,v,rfl,r,q'⟩
noncomputable abbrev KR (κ:Type) (K:Ab) (H:Hp) (io:List Addr):List (κ×V)->List (κ×D)->Prop:=Paired fun (p:κ×V) (q:κ×D)=>p.1=q.1/\Rep K H io p.2 q.2
noncomputable def OR(K:Ab)(H:Hp)(io:List Addr)(a:Addr):O->Prop
 | .lst ds=>∃ xs,H a=some (.lst xs)/\Reps K H io xs ds
 | .fz ds=>∃ o xs,H a=some (.frz o (.lst xs))/\Reps K H io xs ds
 | .dk kvs=>∃ ps,H a=some (.dK ps)/\KR Key K H io ps kvs
 | .dt kvs=>∃ ps,H a=some (.dT ps)/\KR (List Key) K H io ps kvs
 | .fk kvs=>∃ o ps,H a=some (.frz o (.dK ps))/\KR Key K H io ps kvs
 | .ft kvs=>∃ o ps,H a=some (.frz o (.dT ps))/\KR (List Key) K H io ps kvs
 | .ob C fs=>∃ dx ps,H a=some (.ins C dx ps)/\KR Str K H io ps fs
structure StR(K:Ab)(H:Hp)(io:List Addr)(st:Sto):Prop where
 len:io.length=st.length
 nd:io.Nodup
 ob:∀ (n:Nat) (a:Addr) (o:O),io[n]?=some a->st[n]?=some o->OR K H io a o
structure EnvR(K:Ab)(H:Hp)(io:List Addr)(σ:St)(ρ:Rho):Prop where
 len:σ.length=ρ.length
 at_:∀ (i:Nat) (d:D),ρ[i]?=some (some d)->∃ v,σ[i]?=some (some v)/\Rep K H io v d
structure Ext(io ka:List Addr)(H H':Hp):Prop where
 keep:∀ b o,H b=some o->b ∉ io->H' b=some o
 fresh:∀ b,b∈ka->H b=none
 frz:∀ b o u,H b=some (.frz o u)->H' b=some (.frz o u)
theorem OR.stands{a:Addr}{o:O}(h:OR K H io a o):∃ u,H a=some u/\∀ xs,u≠.tup xs/\∀ ob,u≠.frz ob (.tup xs):=by
 cases o with
 | lst ds=>obtain⟨xs,e,_⟩:=h;exact⟨_,e,fun _=>⟨by simp,by simp⟩⟩
 | fz ds=>obtain⟨ob,xs,e,_⟩:=h;exact⟨_,e,fun _=>⟨by simp,by simp⟩⟩
 | dk kvs=>obtain⟨xs,e,_⟩:=h;exact⟨_,e,fun _=>⟨by simp,by simp⟩⟩
 | dt kvs=>obtain⟨xs,e,_⟩:=h;exact⟨_,e,fun _=>⟨by simp,by simp⟩⟩
 | fk kvs=>obtain⟨ob,xs,e,_⟩:=h;exact⟨_,e,fun _=>⟨by simp,by simp⟩⟩
 | ft kvs=>obtain⟨ob,xs,e,_⟩:=h;exact⟨_,e,fun _=>⟨by simp,by simp⟩⟩
 | ob C fs=>obtain⟨dx,xs,e,_⟩:=h;exact⟨_,e,fun _=>⟨by simp,by simp⟩⟩
theorem StR.mem(S:StR K H io st){a:Addr}(h:a∈io):∃ u,H a=some u/\∀ xs,u≠.tup xs/\∀ ob,u≠.frz ob (.tup xs):=by
 obtain⟨n,hn,e⟩:=D0 h;have h1:io[n]?=some a:=by rw[Ah hn,e]
 have h2:n < st.length:=by rw[<-S.len];exact hn
 exact (S.ob n a _ h1 (Ah h2)).stands
theorem Ext.sqT(S:StR K H io st)(E:Ext io ka H H'):∀ a xs,H a=some (.tup xs)->H' a=some (.tup xs):=by
 intro a xs h;refine E.keep _ _ h fun m=>?_;obtain⟨u,e,q⟩:=S.mem m;rw[h] at e;exact (q xs).1 (Ai e).symm
theorem Ext.kp(S:StR K H io st)(E:Ext io ka H H'):Kp H H':=⟨E.sqT S,E.frz⟩
theorem Ext.refl:Ext io [] H H:=⟨fun _ _ h _=>h,fun _ h=>absurd h (by simp),fun _ _ _ h=>h⟩
theorem Ext.trans(S1:StR K H1 (io++ka) st)(E1:Ext io ka H H1)(E2:Ext (io++ka) kb H1 H2):Ext io (ka++kb) H H2 where
 keep:=fun b o h n=>E2.keep b o (E1.keep b o h n) fun m=>by
   rcases List.mem_append.mp m with m | m
   . exact n m
   . rw[E1.fresh b m] at h;cases h
 fresh:=fun b m=>by
   rcases List.mem_append.mp m with m | m
   . exact E1.fresh b m
   . have h1:=E2.fresh b m
     cases e:H b with
     | none=>rfl
     | some o =>
       by_cases hb:b∈io
       . obtain⟨u,e',_⟩:=S1.mem (Bx _ hb);rw[e'] at h1;cases h1
       . rw[E1.keep b o e hb] at h1;cases h1
 frz:=fun b o u h=>E2.frz b o u (E1.frz b o u h)
theorem Ext.app(E:Ext io (ka++[]) H H'):Ext io ka H H':=by rw[Ao] at E;exact E
theorem Rep.ext{v:V}{d:D}(S:StR K H io st)(E:Ext io ka H H')(h:Rep K H io v d):Rep K H' (io++ka) v d:=Rep.mono (E.kp S) h
theorem Reps.ext(S:StR K H io st)(E:Ext io ka H H')(h:Reps K H io xs ds):Reps K H' (io++ka) xs ds:=Reps.mono (E.kp S) h
theorem EnvR.ext{σ:St}{ρ:Rho}(h:EnvR K H io σ ρ)(S:StR K H io st)(E:Ext io ka H H'):EnvR K H' (io++ka) σ ρ :=
 ⟨h.len,fun i d e=>let ⟨v,q,r⟩:=h.at_ i d e;⟨v,q,r.ext S E⟩⟩
theorem EnvR.set{σ:St}{ρ:Rho}{v:V}{d:D}(i:Nat)(h:EnvR K H io σ ρ)(r:Rep K H io v d):EnvR K H io (σ.set i (some v)) (ρ.set i (some d)):=by
 refine⟨by rw[Do,Do];exact h.len,fun j e q=>?_⟩
 by_cases hij:i=j
 . subst hij;rw[C0] at q;rw[if_pos rfl] at q
   split at q
   . rename_i hl
     cases (Ai (Ai q))
     exact⟨v,by rw[C0,if_pos rfl,if_pos (by rw[h.len];exact hl)],r⟩
   . cases q
 . rw[AK hij] at q;obtain⟨u,q',r'⟩:=h.at_ j e q;exact⟨u,by rw[AK hij];exact q',r'⟩
theorem StR.nil(S:StR K H io st):StR K H (io++[]) st:=by rw[Ao];exact S
theorem KR.mono{κ:Type}{ps:List (κ×V)}{kvs:List (κ×D)}(T:Kp H H')(h:KR κ K H io ps kvs):KR κ K H' (io++ka) ps kvs:=Paired.mapP h fun _ _ z=>⟨z.1,Rep.mono T z.2⟩
theorem OR.mono{a:Addr}{o:O}(T:Kp H H')(e:H' a=H a)(h:OR K H io a o):OR K H' (io++ka) a o:=by
 cases o with
 | lst ds=>obtain⟨xs,q,r⟩:=h;exact⟨xs,e.trans q,Reps.mono T r⟩
 | fz ds=>obtain⟨ob,xs,q,r⟩:=h;exact⟨ob,xs,e.trans q,Reps.mono T r⟩
 | dk kvs=>obtain⟨xs,q,r⟩:=h;exact⟨xs,e.trans q,KR.mono T r⟩
 | dt kvs=>obtain⟨xs,q,r⟩:=h;exact⟨xs,e.trans q,KR.mono T r⟩
 | fk kvs=>obtain⟨ob,xs,q,r⟩:=h;exact⟨ob,xs,e.trans q,KR.mono T r⟩
 | ft kvs=>obtain⟨ob,xs,q,r⟩:=h;exact⟨ob,xs,e.trans q,KR.mono T r⟩
 | ob C fs=>obtain⟨dx,xs,q,r⟩:=h;exact⟨dx,xs,e.trans q,KR.mono T r⟩
theorem zg6{p:Addr}{o:HO}(S:StR K H io st)(hp:H p=none):Ext io [] H (upd H p o)/\StR K (upd H p o) (io++[]) st:=by
 have E:Ext io [] H (upd H p o):=⟨fun b u h _=>by rw[zaJ (zan h hp)];exact h,fun _ h=>absurd h (by simp),fun b u v h=>by rw[zaJ (zan h hp)];exact h⟩
 refine⟨E,?_⟩;refine⟨by rw[Ao];exact S.len,by rw[Ao];exact S.nd,fun n a ob h1 h2=>?_⟩;rw[Ao] at h1;obtain⟨u,hu,_⟩:=(S.ob n a ob h1 h2).stands;exact OR.mono (E.kp S) (zaJ (zan hu hp)) (S.ob n a ob h1 h2)
theorem zj8{p:Addr}{o:HO}{ob:O}(S:StR K H io st)(hp:H p=none)(new:∀ H',Kp H H'->H' p=some o->OR K H' (io++[p]) p ob):Ext io [p] H (upd H p o)/\StR K (upd H p o) (io++[p]) (st++[ob]):=by
 have E:Ext io [p] H (upd H p o):=⟨fun b u h _=>by rw[zaJ (zan h hp)];exact h,fun b h=>by rw[List.mem_singleton.mp h];exact hp,fun b u v h=>by rw[zaJ (zan h hp)];exact h⟩
 have np:p ∉ io:=fun m=>by
   obtain⟨u,hu,_⟩:=S.mem m;rw[hp] at hu;cases hu
 refine⟨E,by simp[S.len],?_,fun n a ob' h1 h2=>?_⟩
 . rw[Er];refine⟨S.nd,by simp,fun a ha b hb=>?_⟩;rw[List.mem_singleton.mp hb];rintro rfl;exact np ha
 . by_cases hn:n < io.length
   . rw[Al hn] at h1;rw[Al (by rw[<-S.len];exact hn)] at h2;obtain⟨u,hu,_⟩:=(S.ob n a ob' h1 h2).stands;exact OR.mono (E.kp S) (zaJ (zan hu hp)) (S.ob n a ob' h1 h2)
   . have hl:n < (io++[p]).length:=(List.getElem?_eq_some_iff.mp h1).1;rw[AN,Cv] at hl;have e:n=io.length:=by omega
     subst e;rw[AE (Af _),Cy] at h1;rw[S.len,AE (Af _),Cy] at h2
     cases (Ai h1)
     cases (Ai h2)
     exact new _ (E.kp S) zbt
theorem zgO{p:Addr}{n:Nat}{o:HO}{ob old:O}(S:StR K H io st)(hn:io[n]?=some p)(ho:st[n]?=some old)(nf:∀ o u,H p≠some (.frz o u))(new:∀ H',Kp H H'->H' p=some o->OR K H' (io++[]) p ob):Ext io [] H (upd H p o)/\StR K (upd H p o) (io++[]) (st.set n ob):=by
 have hp:p∈io:=BR hn;have E:Ext io [] H (upd H p o):=⟨fun b u h nb=>by rw[zaJ (fun e=>nb (by rw[e];exact hp))];exact h,fun b h=>absurd h (by simp),fun b u v h=>by
   by_cases hb:b=p
   . subst hb;exact absurd h (nf u v)
   . rw[zaJ hb];exact h⟩
 refine⟨E,by simp[S.len],by rw[Ao];exact S.nd,fun m a ob' h1 h2=>?_⟩;rw[Ao] at h1
 by_cases hm:m=n
 . subst hm;rw[hn] at h1
   cases (Ai h1)
   rw[C0,if_pos rfl] at h2
   split at h2
   . cases (Ai h2)
     exact new _ (E.kp S) zbt
   . cases h2
 . rw[AK (fun e=>hm e.symm)] at h2;have hap:a≠p:=fun e=>by
     subst e;exact hm ((List.getElem?_inj (List.getElem?_eq_some_iff.mp h1).1 S.nd).mp (h1.trans hn.symm))
   exact OR.mono (E.kp S) (zaJ hap) (S.ob m a ob' h1 h2)
end
noncomputable abbrev ME:=Rho->Sto->Option (D×Sto)
noncomputable abbrev MT:=Rho->Sto->Option (Bool×Sto)
noncomputable abbrev MA:=Rho->Sto->Option (List D×Sto)
inductive Fl where
 | nx (ρ:Rho) | rt (d:D) | bk (ρ:Rho) | ct (ρ:Rho)
noncomputable abbrev MS:=Rho->Sto->Option (Fl×Sto)
noncomputable abbrev MG:=D->Rho->Sto->Option (Rho×Sto)
noncomputable abbrev MGs:=List D->Rho->Sto->Option (Rho×Sto)
def Bh(K:Ab)(io:List Addr)(H:Hp)(st':Sto)(d:D)(Q:VK):Prop:=∀ v H' ka,Ext io ka H H'->StR K H' (io++ka) st'->Rep K H' (io++ka) v d->Q v H'
inductive tE (K:Ab) (m:ME) (σ:L2.St) (H:Hp) (Q:VK):Prop
 | mk (ρ:Rho) (st:Sto) (io:List Addr) (d:D) (st':Sto) (h1:EnvR K H io σ ρ) (h2:StR K H io st) (h3:m ρ st=some (d,st')) (h4:Bh K io H st' d Q)
inductive tT (K:Ab) (m:MT) (σ:L2.St) (H:Hp) (Q:Bool->Hp->Prop):Prop
 | mk (ρ:Rho) (st:Sto) (io:List Addr) (b:Bool) (st':Sto) (h1:EnvR K H io σ ρ) (h2:StR K H io st) (h3:m ρ st=some (b,st')) (h4:∀ H' ka,Ext io ka H H'->StR K H' (io++ka) st'->Q b H')
inductive tA (K:Ab) (m:MA) (σ:L2.St) (H:Hp) (Q:List V->Hp->Prop):Prop
 | mk (ρ:Rho) (st:Sto) (io:List Addr) (ds:List D) (st':Sto) (h1:EnvR K H io σ ρ) (h2:StR K H io st) (h3:m ρ st=some (ds,st')) (h4:∀ vs H' ka,Ext io ka H H'->StR K H' (io++ka) st'->Reps K H' (io++ka) vs ds->Q vs H')
noncomputable def tS(K:Ab)(m:MS):TS:=fun N σ H=>∃ ρ st io f st',EnvR K H io σ ρ/\StR K H io st/\m ρ st=some (f,st') /\
 match f with
 | .nx ρ'=>∀ σ' H' ka,Ext io ka H H'->StR K H' (io++ka) st'->EnvR K H' (io++ka) σ' ρ'->N.nx σ' H'
 | .bk ρ'=>∀ σ' H' ka,Ext io ka H H'->StR K H' (io++ka) st'->EnvR K H' (io++ka) σ' ρ'->N.bk σ' H'
 | .ct ρ'=>∀ σ' H' ka,Ext io ka H H'->StR K H' (io++ka) st'->EnvR K H' (io++ka) σ' ρ'->N.ct σ' H'
 | .rt d=>Bh K io H st' d N.rt
inductive tG (K:Ab) (m:MG) (v:V) (σ:L2.St) (H:Hp) (Q:L2.St->Hp->Prop):Prop
 | mk (d:D) (ρ:Rho) (st:Sto) (io:List Addr) (ρ':Rho) (st':Sto) (h0:Rep K H io v d) (h1:EnvR K H io σ ρ) (h2:StR K H io st) (h3:m d ρ st=some (ρ',st')) (h4:∀ σ' H' ka,Ext io ka H H'->StR K H' (io++ka) st'->EnvR K H' (io++ka) σ' ρ'->Q σ' H')
inductive tGs (K:Ab) (m:MGs) (vs:List V) (σ:L2.St) (H:Hp) (Q:L2.St->Hp->Prop):Prop
 | mk (ds:List D) (ρ:Rho) (st:Sto) (io:List Addr) (ρ':Rho) (st':Sto) (h0:Reps K H io vs ds) (h1:EnvR K H io σ ρ) (h2:StR K H io st) (h3:m ds ρ st=some (ρ',st')) (h4:∀ σ' H' ka,Ext io ka H H'->StR K H' (io++ka) st'->EnvR K H' (io++ka) σ' ρ'->Q σ' H')
def SE(X:Cx)(e:Expr)(m:ME):Prop:=PE X e (tE X.K m)
def SB(X:Cx)(e:Expr)(m:MT):Prop:=PT X e (tT X.K m)
def SA(X:Cx)(es:List Expr)(m:MA):Prop:=PA X es (tA X.K m)
def SS(X:Cx)(s:Stmt)(m:MS):Prop:=PS X s (tS X.K m)
def SSs(X:Cx)(s:List Stmt)(m:MS):Prop:=PSs X s (tS X.K m)
def SG(X:Cx)(e:Expr)(m:MG):Prop:=PG X e (tG X.K m)
def SGs(X:Cx)(e:List Expr)(m:MGs):Prop:=PGs X e (tGs X.K m)
section
variable {X:Cx} {e a b c:Expr} {es:List Expr} {st1 st2:Stmt} {rest body orelse:List Stmt} {pos:Pos} {m ma mb mc:ME} {mt mu:MT} {mm:MA} {ms mq mr:MS} {mg:MG} {mgs:MGs}
theorem PE.imp{t u:TE}(h:PE X e t)(k:∀ σ H Q,u σ H Q->t σ H Q):PE X e u:=fun pins s σ H Q I q=>h pins s σ H Q I (k σ H Q q)
theorem PT.imp{t u:TT}(h:PT X e t)(k:∀ σ H Q,u σ H Q->t σ H Q):PT X e u:=fun pins s σ H Q I q=>h pins s σ H Q I (k σ H Q q)
theorem PA.imp{t u:TA}(h:PA X es t)(k:∀ σ H Q,u σ H Q->t σ H Q):PA X es u:=fun p pins s σ H Q I q=>h p pins s σ H Q I (k σ H Q q)
theorem PS.imp{t u:TS}(h:PS X st1 t)(k:∀ N σ H,u N σ H->t N σ H):PS X st1 u:=fun pins s σ H N I q=>h pins s σ H N I (k N σ H q)
theorem PSs.imp{t u:TS}(h:PSs X rest t)(k:∀ N σ H,u N σ H->t N σ H):PSs X rest u:=fun pins s σ H N I q=>h pins s σ H N I (k N σ H q)
theorem PG.imp{t u:TG}(h:PG X e t)(k:∀ v σ H Q,u v σ H Q->t v σ H Q):PG X e u:=fun pins s σ H v w Q I r q=>h pins s σ H v w Q I r (k v σ H Q q)
theorem PGs.imp{t u:TGs}(h:PGs X es t)(k:∀ v σ H Q,u v σ H Q->t v σ H Q):PGs X es u:=fun pins s σ H v w Q I r q=>h pins s σ H v w Q I r (k v σ H Q q)
theorem zad{α β:Type}{x:Option α}{f:α->Option β}{y:β}(h:x.bind f=some y):∃ z,x=some z/\f z=some y:=by
 cases x with
 | none=>cases h
 | some z=>exact⟨z,rfl,h⟩
variable {K:Ab} {H H1 H2:Hp} {io ka kb:List Addr} {st st':Sto}
theorem Bh.now{d:D}{Q:VK}{v:V}(h:Bh K io H st d Q)(S:StR K H io st)(r:Rep K H io v d):Q v H:=h v H [] Ext.refl S.nil (by rw[Ao];exact r)
theorem Bh.on{d:D}{Q:VK}(h:Bh K io H st' d Q)(S1:StR K H1 (io++ka) st)(E:Ext io ka H H1):Bh K (io++ka) H1 st' d Q:=fun v H' kb E' S' r =>
 h v H' (ka++kb) (E.trans S1 E') (by rw[<-Aq];exact S') (by rw[<-Aq];exact r)
noncomputable def mVar(i:Nat):ME:=fun ρ st=>match ρ[i]? with
 | some (some d)=>some (d,st)
 | _=>none
theorem zac(i:Nat){x:Str}{pos:Pos}(hN:X.N[i]?=some x:=by rfl)(hv:Vis X.env.scope x:=by first | exact Ay rfl | exact Ax (Ay rfl) | exact Ax (Ax rfl))(hd:(x==("__debug__":Str))=false:=by decide)
   (hcd:(x==("__classdict__":Str))=false:=by decide):SE X (.Name x pos) (mVar i):=PE.imp (zm0 hN hv hd hcd) <| by
 rintro σ H Q ⟨ρ,st,io,d,st',E,S,e,k⟩;unfold mVar at e
 split at e
 . rename_i d' he;cases e;obtain⟨v,hv,r⟩:=E.at_ i _ he;exact⟨v,hv,k.now S r⟩
 . cases e
noncomputable def mCon(d:D):ME:=fun _ st=>some (d,st)
theorem zae{i j pos}:SE X (.Constant (.int i) j pos) (mCon (.int i)):=PE.imp zm5 <| by
 rintro σ H Q ⟨ρ,st,io,d,st',E,S,e,k⟩
 cases e;exact k.now S rfl
theorem zb3{b j pos}:SE X (.Constant (.bool b) j pos) (mCon (.bl b)):=PE.imp zor <| by
 rintro σ H Q ⟨ρ,st,io,d,st',E,S,e,k⟩
 cases e;exact k.now S rfl
theorem zdr{x j pos}:SE X (.Constant (.str x) j pos) (mCon (.str x)):=PE.imp zm2 <| by
 rintro σ H Q ⟨ρ,st,io,d,st',E,S,e,k⟩
 cases e;exact k.now S rfl
theorem zi6{x:Str}{z:Str}{t:Tok}{pos:Pos}(hg:Gl X x)(hm:X.mg x=some (.str z t))(hd:(x==("__debug__":Str))=false:=by decide):SE X (.Name x pos) (mCon (.str z)) :=
 PE.imp (zlr hg hm (v:=.str z) ⟨t,rfl⟩ hd) <| by
   rintro σ H Q ⟨ρ,st,io,d,st',E,S,e,k⟩
   cases e;exact k.now S rfl
noncomputable abbrev G2:=D->D->Sto->Option (D×Sto)
inductive r2M (K:Ab) (g:G2) (x y:V) (H:Hp) (Q:VK):Prop
 | mk (dx dy:D) (st:Sto) (io:List Addr) (d:D) (st':Sto) (h0:Rep K H io x dx) (h1:Rep K H io y dy) (h2:StR K H io st) (h3:g dx dy st=some (d,st')) (h4:Bh K io H st' d Q)
def OpM(X:Cx)(f:Value->Value->Sem Value)(g:G2):Prop:=OpR X f (r2M X.K g)
noncomputable def mBin(g:G2)(ma mb:ME):ME:=fun ρ st=>(ma ρ st).bind fun (x,s1)=>(mb ρ s1).bind fun (y,s2)=>g x y s2
theorem zcV{g:G2}{σ:L2.St}{H:Hp}{Q:VK}(h:tE K (mBin g ma mb) σ H Q):tOp (r2M K g) (tE K ma) (tE K mb) σ H Q:=by
 obtain⟨ρ,st,io,d,st',E,S,e,k⟩:=h;obtain⟨⟨x,s1⟩,e1,e⟩:=zad e;obtain⟨⟨y,s2⟩,e2,e3⟩:=zad e;refine⟨ρ,st,io,x,s1,E,S,e1,fun v1 H1 k1 X1 S1 R1=>?_⟩;refine⟨ρ,s1,io++k1,y,s2,E.ext S X1,S1,e2,fun v2 H2 k2 X2 S2 R2=>?_⟩;exact⟨x,y,s2,(io++k1)++k2,d,st',R1.ext S1 X2,R2,S2,e3,(k.on S1 X1).on S2 X2⟩
theorem zaA{op:Operator}{g:G2}(ho:OpM X (binaryOp op) g)(ha:SE X a ma)(hb:SE X b mb):SE X (.BinOp a op b pos) (mBin g ma mb):=PE.imp (zop ho ha hb) fun _ _ _ h=>zcV h
theorem zeS{op:CmpOp}{g:G2}(ho:OpM X (compareOp op) g)(ha:SE X a ma)(hb:SE X b mb)(hm:behindInMarks op b=false):SE X (.Compare a [op] [b] pos) (mBin g ma mb):=PE.imp (zlt ho ha hb hm) fun _ _ _ h=>zcV h
noncomputable def mTst(m:ME):MT:=fun ρ st=>(m ρ st).bind fun (x,s1)=>match x with
 | .bl b=>some (b,s1)
 | _=>none
theorem zhR{ρ:Rho}{b:Bool}(e:mTst m ρ st=some (b,st')):m ρ st=some (.bl b,st'):=by
 obtain⟨⟨x,s1⟩,e1,e⟩:=zad e;dsimp only at e
 split at e
 . cases e;exact e1
 . cases e
theorem zfd{σ:L2.St}{H:Hp}{Q:Bool->Hp->Prop}(h:tT K (mTst m) σ H Q):tE K m σ H fun x H'=>∃ b,x=.bl b/\Q b H':=by
 obtain⟨ρ,st,io,b,st',E,S,e,k⟩:=h;exact⟨ρ,st,io,_,st',E,S,zhR e,fun v H' ka X' S' R'=>⟨b,R',k H' ka X' S'⟩⟩
theorem zc5{op:CmpOp}{g:G2}(ho:OpM X (compareOp op) g)(ha:SE X a ma)(hb:SE X b mb)(hm:behindInMarks op b=false):SB X (.Compare a [op] [b] pos) (mTst (mBin g ma mb)) :=
 PT.imp (zlg ho ha hb hm) fun σ H Q h=>zcV (zfd h)
theorem zd7(h:SE X a m)(he:∀ whole,isTrue a X.env whole=(do let v <-whole;standAt a.pos;holding [v] (truthy v)):=by intro _;rfl):SB X a (mTst m) :=
 PT.imp (zjQ h he) fun σ H Q h=>by
   obtain⟨ρ,st,io,b,st',E,S,e,k⟩:=zfd h;refine⟨ρ,st,io,b,st',E,S,e,fun v H' ka X' S' R'=>?_⟩;obtain⟨c,hc,q⟩:=k v H' ka X' S' R';subst hc;exact⟨c,rfl,q⟩
noncomputable def zdW(m:MT):MT:=fun ρ st=>(m ρ st).map fun (b,s)=>(!b,s)
theorem zcy(h:SB X a mt):SB X (.UnaryOp .Not a pos) (zdW mt):=PT.imp (zmQ h) <| by
 rintro σ H Q ⟨ρ,st,io,b,st',E,S,e,k⟩;unfold zdW at e
 cases e1:mt ρ st with
 | none=>rw[e1] at e;cases e
 | some p=>rw[e1] at e;cases e;exact⟨ρ,st,io,_,_,E,S,e1,fun H' ka X' S'=>k H' ka X' S'⟩
noncomputable def zmn(m n:MT):MT:=fun ρ st=>(m ρ st).bind fun (b,s)=>if b=true then n ρ s else some (false,s)
noncomputable def mOrT(m n:MT):MT:=fun ρ st=>(m ρ st).bind fun (b,s)=>if b=true then some (true,s) else n ρ s
def SW(X:Cx)(e:Expr)(m:MT):Prop:=PW X e (tT X.K m)
theorem PW.imp{t u:TT}(h:PW X e t)(k:∀ σ H Q,u σ H Q->t σ H Q):PW X e u:=fun w pins s σ H Q I q=>h w pins s σ H Q I (k σ H Q q)
theorem SW.sb(h:SW X a mt):SB X a mt:=PW.pt h
theorem zkT(ha:SB X a mt):SW X (.BoolOp .And [a] pos) mt:=pw_and1 ha
theorem zdq(ha:SB X a mt):SW X (.BoolOp .Or [a] pos) mt:=pw_or1 ha
theorem zgY{n:MT}{σ:L2.St}{ρ:Rho}{Q:Bool->Hp->Prop}{b:Bool}{s1:Sto}(E:EnvR K H io σ ρ)(S:StR K H io st)(X1:Ext io ka H H1)(S1:StR K H1 (io++ka) s1)(e:n ρ s1=some (b,st'))(k:∀ H' ka,Ext io ka H H'->StR K H' (io++ka) st'->Q b H'):tT K n σ H1 Q :=
 ⟨ρ,s1,io++ka,b,st',E.ext S X1,S1,e,fun H' kb X' S'=>k H' (ka++kb) (X1.trans S1 X') (by rw[<-Aq];exact S')⟩
theorem zmz{rs:List Expr}(ha:SB X a mt)(hb:SW X (.BoolOp .And (b::rs) pos) mu):SW X (.BoolOp .And (a::b::rs) pos) (zmn mt mu):=PW.imp (pw_and ha hb) <| by
 rintro σ H Q ⟨ρ,st,io,v,st',E,S,e,k⟩;obtain⟨⟨x,s1⟩,e1,e⟩:=zad e;refine⟨ρ,st,io,x,s1,E,S,e1,fun H1 k1 X1 S1=>?_⟩
 cases x with
 | true=>rw[if_pos rfl];exact zgY E S X1 S1 e k
 | false =>
   rw[if_neg (by decide)];have e':some (false,s1)=some (v,st'):=e;cases e';exact k H1 k1 X1 S1
theorem zfF{rs:List Expr}(ha:SB X a mt)(hb:SW X (.BoolOp .Or (b::rs) pos) mu):SW X (.BoolOp .Or (a::b::rs) pos) (mOrT mt mu):=PW.imp (pw_or ha hb) <| by
 rintro σ H Q ⟨ρ,st,io,v,st',E,S,e,k⟩;obtain⟨⟨x,s1⟩,e1,e⟩:=zad e;refine⟨ρ,st,io,x,s1,E,S,e1,fun H1 k1 X1 S1=>?_⟩
 cases x with
 | false=>rw[if_neg (by decide)];exact zgY E S X1 S1 e k
 | true =>
   rw[if_pos rfl];have e':some (true,s1)=some (v,st'):=e;cases e';exact k H1 k1 X1 S1
noncomputable def zdp(m n:ME):ME:=fun ρ st=>(mTst m ρ st).bind fun (b,s)=>if b=true then n ρ s else some (.bl false,s)
noncomputable def mOrV(m n:ME):ME:=fun ρ st=>(mTst m ρ st).bind fun (b,s)=>if b=true then some (.bl true,s) else n ρ s
noncomputable def zmm(m:ME):ME:=fun ρ st=>(mTst m ρ st).map fun (b,s)=>(.bl !b,s)
theorem zlF{n:ME}{σ:L2.St}{ρ:Rho}{Q:VK}{d:D}{s1:Sto}(E:EnvR K H io σ ρ)(S:StR K H io st)(X1:Ext io ka H H1)(S1:StR K H1 (io++ka) s1)(e:n ρ s1=some (d,st'))(k:Bh K io H st' d Q):tE K n σ H1 Q :=
 ⟨ρ,s1,io++ka,d,st',E.ext S X1,S1,e,k.on S1 X1⟩
theorem zbW(ha:SE X a ma):SE X (.BoolOp .And [a] pos) ma:=zlq ha
theorem zmJ(ha:SE X a ma):SE X (.BoolOp .Or [a] pos) ma:=zlq ha
theorem zbG{rs:List Expr}(ha:SE X a ma)(hb:SE X (.BoolOp .And (b::rs) pos) mb):SE X (.BoolOp .And (a::b::rs) pos) (zdp ma mb):=PE.imp (zm7 ha hb) <| by
 rintro σ H Q ⟨ρ,st,io,v,st',E,S,e,k⟩;obtain⟨⟨x,s1⟩,e1,e⟩:=zad e;refine⟨ρ,st,io,.bl x,s1,E,S,zhR e1,fun v1 H1 k1 X1 S1 R1=>⟨x,R1,?_⟩⟩
 cases x with
 | true=>rw[if_pos rfl];exact zlF E S X1 S1 e k
 | false =>
   rw[if_neg (by decide)];have e':some (D.bl false,s1)=some (v,st'):=e;cases e';exact k _ H1 k1 X1 S1 rfl
theorem zoc{rs:List Expr}(ha:SE X a ma)(hb:SE X (.BoolOp .Or (b::rs) pos) mb):SE X (.BoolOp .Or (a::b::rs) pos) (mOrV ma mb):=PE.imp (zoo ha hb) <| by
 rintro σ H Q ⟨ρ,st,io,v,st',E,S,e,k⟩;obtain⟨⟨x,s1⟩,e1,e⟩:=zad e;refine⟨ρ,st,io,.bl x,s1,E,S,zhR e1,fun v1 H1 k1 X1 S1 R1=>⟨x,R1,?_⟩⟩
 cases x with
 | false=>rw[if_neg (by decide)];exact zlF E S X1 S1 e k
 | true =>
   rw[if_pos rfl];have e':some (D.bl true,s1)=some (v,st'):=e;cases e';exact k _ H1 k1 X1 S1 rfl
theorem zmK(ha:SE X a ma):SE X (.UnaryOp .Not a pos) (zmm ma):=PE.imp (zm3 ha) <| by
 rintro σ H Q ⟨ρ,st,io,v,st',E,S,e,k⟩;unfold zmm at e
 cases e1:mTst ma ρ st with
 | none=>rw[e1] at e;cases e
 | some p =>
   rw[e1] at e;cases e;exact⟨ρ,st,io,_,_,E,S,zhR e1,fun v1 H1 k1 X1 S1 R1=>⟨_,R1,k _ H1 k1 X1 S1 rfl⟩⟩
end
end L2.MP
set_option linter.unusedVariables false
namespace L2.MP
open PySem PySem.Spec PyProof.Rows
section
variable {X:Cx} {e a b c:Expr} {es:List Expr} {st1 st2:Stmt} {rest body orelse:List Stmt} {pos:Pos} {m ma mb mc:ME} {mt mu:MT} {mm:MA} {ms mq mr:MS} {mg:MG} {mgs:MGs}
variable {K:Ab} {H H1 H2:Hp} {io ka kb:List Addr} {st st':Sto}
noncomputable def mNil:MA:=fun _ st=>some ([],st)
noncomputable def zab(m:ME)(mm:MA):MA:=fun ρ st=>(m ρ st).bind fun (x,s1)=>(mm ρ s1).bind fun (xs,s2)=>some (x::xs,s2)
theorem zaf:SA X [] mNil:=PA.imp zlw <| by
 rintro σ H Q ⟨ρ,st,io,ds,st',E,S,e,k⟩
 cases e;exact k [] H [] Ext.refl S.nil Reps.nil
theorem zaa(ha:SE X e m)(hr:SA X es mm)(hs:starEach (e::es) X.env=(false,eval e X.env)::starEach es X.env:=by rfl):SA X (e::es) (zab m mm):=PA.imp (zgS ha hr hs) <| by
 rintro σ H Q ⟨ρ,st,io,ds,st',E,S,e,k⟩;obtain⟨⟨x,s1⟩,e1,e⟩:=zad e;obtain⟨⟨xs,s2⟩,e2,e⟩:=zad e;cases e;refine⟨ρ,st,io,x,s1,E,S,e1,fun v1 H1 k1 X1 S1 R1=>⟨ρ,s1,io++k1,xs,_,E.ext S X1,S1,e2,fun vs H2 k2 X2 S2 R2=>?_⟩⟩;exact k _ H2 (k1++k2) (X1.trans S1 X2) (by rw[<-Aq];exact S2) (by rw[<-Aq];exact Reps.cons (R1.ext S1 X2) R2)
noncomputable def fits(n:Nat):Bool:=decide (n<=sizeLine)
noncomputable def mTup(mm:MA):ME:=fun ρ st=>(mm ρ st).bind fun (xs,s)=>if fits xs.length=true then some (.tup xs,s) else none
noncomputable def mLst(mm:MA):ME:=fun ρ st=>(mm ρ st).bind fun (xs,s)=>if fits xs.length=true then some (.ref s.length,s++[.lst xs]) else none
theorem zar{α:Type}{c:Prop}[Decidable c]{x:Option α}{y:α}(h:(if c then x else none)=some y):c/\x=some y:=by
 by_cases hc:c
 . rw[if_pos hc] at h;exact⟨hc,h⟩
 . rw[if_neg hc] at h;cases h
theorem Bh.tup{ds:List D}{vs:List V}{Q:VK}{p:Addr}(k:Bh K io H st (.tup ds) Q)(S:StR K H io st)(R:Reps K H io vs ds)(hp:H p=none):Q (.ref p) (upd H p (.tup vs)):=by
 obtain⟨E,S'⟩:=zg6 (o:=.tup vs) S hp;refine k _ _ [] E S' ⟨p,vs,rfl,zbt,R.ext S E⟩
theorem getElem?_len{α:Type}(l:List α)(x:α):(l++[x])[l.length]?=some x:=by
 rw[AE (Af _),Cy];rfl
theorem Bh.lst{ds:List D}{vs:List V}{Q:VK}{p:Addr}(k:Bh K io H (st++[.lst ds]) (.ref st.length) Q)(S:StR K H io st)(R:Reps K H io vs ds)(hp:H p=none):Q (.ref p) (upd H p (.lst vs)):=by
 obtain⟨E,S'⟩:=zj8 (o:=.lst vs) (ob:=.lst ds) S hp fun H' T e=>⟨vs,e,Reps.mono T R⟩
 exact k _ _ [p] E S' ⟨p,rfl,by rw[<-S.len];exact getElem?_len io p⟩
theorem zaK{x1}(h:SA X es mm):SE X (.Tuple es x1 pos) (mTup mm):=PE.imp (zm1 h) <| by
 rintro σ H Q ⟨ρ,st,io,d,st',E,S,e,k⟩;obtain⟨⟨xs,s1⟩,e1,e⟩:=zad e;obtain⟨hf,e⟩:=zar e;cases e;refine⟨ρ,st,io,xs,_,E,S,e1,fun vs H1 k1 X1 S1 R1=>⟨by rw[R1.length];exact of_decide_eq_true hf,fun p hp=>(k.on S1 X1).tup S1 R1 hp⟩⟩
theorem zds(h:SA X es mm):SE X (.List es pos) (mLst mm):=PE.imp (zm4 h) <| by
 rintro σ H Q ⟨ρ,st,io,d,st',E,S,e,k⟩;obtain⟨⟨xs,s1⟩,e1,e⟩:=zad e;obtain⟨hf,e⟩:=zar e;cases e;refine⟨ρ,st,io,xs,_,E,S,e1,fun vs H1 k1 X1 S1 R1=>⟨by rw[R1.length];exact of_decide_eq_true hf,fun p hp=>(k.on S1 X1).lst S1 R1 hp⟩⟩
noncomputable abbrev GN:=List D->Sto->Option (D×Sto)
inductive rNM (K:Ab) (g:GN) (xs:List V) (H:Hp) (Q:VK):Prop
 | mk (ds:List D) (st:Sto) (io:List Addr) (d:D) (st':Sto) (h1:Reps K H io xs ds) (h2:StR K H io st) (h3:g ds st=some (d,st')) (h4:Bh K io H st' d Q)
def zdo(X:Cx)(f:Value)(g:GN):Prop:=zhK X f (rNM X.K g)
noncomputable def zaq(g:GN)(mm:MA):ME:=fun ρ st=>(mm ρ st).bind fun (xs,s)=>g xs s
theorem zes{g:GN}{σ:L2.St}{Q:VK}(h:tE K (zaq g mm) σ H Q):tCB (rNM K g) (tA K mm) σ H Q:=by
 obtain⟨ρ,st,io,d,st',E,S,e,k⟩:=h;obtain⟨⟨xs,s1⟩,e1,e⟩:=zad e;exact⟨ρ,st,io,xs,s1,E,S,e1,fun vs H1 k1 X1 S1 R1=>⟨xs,s1,io++k1,d,st',R1,S1,e,k.on S1 X1⟩⟩
theorem zaG{x:Str}{p:Pos}{id:String}{g:GN}(hc:zdo X (.builtin id) g)(hg:Gl X x)(hm:X.mg x=none)(hv:bootBuiltins x=some (.builtin id))(ha:SA X (e::es) mm)(hn:x≠"__name__":=by decide)(hdb:(x==("__debug__":Str))=false:=by decide)
   (he:starEach (e::es) X.env=(false,eval e X.env)::starEach es X.env:=by rfl) (hpl:(backTo pos (starEach es X.env)).any (·.1)=false:=by rfl):SE X (.Call (.Name x p) (e::es) [] pos) (zaq g mm) :=
 PE.imp (zgR hc hg hm hv ha hn hdb he hpl) fun _ _ _ h=>zes h
theorem za3{x:Str}{p:Pos}{T:String}{g:GN}(hc:zdo X (.type T) g)(hg:Gl X x)(hm:X.mg x=none)(hv:bootBuiltins x=some (.type T))(ha:SA X (e::es) mm)(hn:x≠"__name__":=by decide)(hdb:(x==("__debug__":Str))=false:=by decide)
   (he:starEach (e::es) X.env=(false,eval e X.env)::starEach es X.env:=by rfl) (hpl:(backTo pos (starEach es X.env)).any (·.1)=false:=by rfl):SE X (.Call (.Name x p) (e::es) [] pos) (zaq g mm) :=
 PE.imp (zic hc hg hm hv ha hn hdb he hpl) fun _ _ _ h=>zes h
noncomputable def spM(K:Ab)(n:Nat)(g:GN):Sp:=fun vs H Q _=>∃ ds st io d st',vs.length=n/\Reps K H io vs ds/\StR K H io st/\g ds st=some (d,st')/\Bh K io H st' d Q
theorem zla{x:Str}{p:Pos}{k:Nat}{f:Addr}{fd:FuncData}{ps:List Str}{n:Nat}{g:GN}(F:FnOk X.prog X.w X.K X.mg X.base CX0 k f fd ps (spM X.K n g))(hr:Room k X.A)(hg:Gl X x)(hm:X.mg x=some (.ref f))(hk:By X.K (.ref f)=true)(hb:Binds X.K fd ps [])
   (ha:SA X (e::es) mm) (hdb:(x==("__debug__":Str))=false:=by decide) (he:starEach (e::es) X.env=(false,eval e X.env)::starEach es X.env:=by rfl) (hpl:(backTo pos (starEach es X.env)).any (·.1)=false:=by rfl) (hn:(e::es).length=n:=by rfl)
   (hl:∀ ρ st xs s,mm ρ st=some (xs,s)->xs.length=n) :
   SE X (.Call (.Name x p) (e::es) [] pos) (zaq g mm):=PE.imp (zlu F hr hg hm hk hb .nil zos ha hdb he hpl) <| by
 rintro σ H Q ⟨ρ,st,io,d,st',E,S,e,k⟩;obtain⟨⟨xs,s1⟩,e1,e⟩:=zad e;refine⟨ρ,st,io,xs,s1,E,S,e1,fun vs H1 k1 X1 S1 R1=>⟨xs,s1,io++k1,d,st',?_,?_,S1,e,k.on S1 X1⟩⟩
 . rw[Ao,R1.length];exact hl _ _ _ _ e1
 . rw[Ao];exact R1
theorem zj9{ρ:Rho}{st:Sto}{xs:List D}{s:Sto}(h:mNil ρ st=some (xs,s)):xs.length=0:=by cases h;rfl
theorem zij{ρ:Rho}{st:Sto}{xs:List D}{s:Sto}{n:Nat}(hr:∀ ρ st xs s,mm ρ st=some (xs,s)->xs.length=n)(h:zab m mm ρ st=some (xs,s)):xs.length=n+1:=by
 obtain⟨⟨x,s1⟩,e1,e⟩:=zad h;obtain⟨⟨ys,s2⟩,e2,e⟩:=zad e;cases e;rw[AD,hr _ _ _ _ e2]
noncomputable def Wn(K:Ab)(io:List Addr)(H:Hp)(st':Sto)(N:Ends):Fl->Prop
 | .nx ρ'=>∀ σ' H' ka,Ext io ka H H'->StR K H' (io++ka) st'->EnvR K H' (io++ka) σ' ρ'->N.nx σ' H'
 | .bk ρ'=>∀ σ' H' ka,Ext io ka H H'->StR K H' (io++ka) st'->EnvR K H' (io++ka) σ' ρ'->N.bk σ' H'
 | .ct ρ'=>∀ σ' H' ka,Ext io ka H H'->StR K H' (io++ka) st'->EnvR K H' (io++ka) σ' ρ'->N.ct σ' H'
 | .rt d=>Bh K io H st' d N.rt
inductive tSi (K:Ab) (m:MS) (N:Ends) (σ:L2.St) (H:Hp):Prop
 | mk (ρ:Rho) (st:Sto) (io:List Addr) (f:Fl) (st':Sto) (h1:EnvR K H io σ ρ) (h2:StR K H io st) (h3:m ρ st=some (f,st')) (h4:Wn K io H st' N f)
theorem zcN{N:Ends}{σ:L2.St}{H:Hp}:tS K ms N σ H ↔ tSi K ms N σ H:=by
 constructor
 . rintro ⟨ρ,st,io,f,st',E,S,e,k⟩;exact⟨ρ,st,io,f,st',E,S,e,by cases f <;> exact k⟩
 . rintro ⟨ρ,st,io,f,st',E,S,e,k⟩;exact⟨ρ,st,io,f,st',E,S,e,by cases f <;> exact k⟩
theorem zei{P:L2.St->Hp->Prop}{ρ':Rho}(h:∀ σ' H' ka,Ext io ka H H'->StR K H' (io++ka) st'->EnvR K H' (io++ka) σ' ρ'->P σ' H')(X1:Ext io ka H H1)(S1:StR K H1 (io++ka) st) :
   ∀ σ' H' kb,Ext (io++ka) kb H1 H'->StR K H' ((io++ka)++kb) st'->EnvR K H' ((io++ka)++kb) σ' ρ'->P σ' H':=fun σ' H' kb E' S' R' =>
 h σ' H' (ka++kb) (X1.trans S1 E') (by rw[<-Aq];exact S') (by rw[<-Aq];exact R')
theorem Wn.on{N:Ends}{f:Fl}(h:Wn K io H st' N f)(X1:Ext io ka H H1)(S1:StR K H1 (io++ka) st):Wn K (io++ka) H1 st' N f:=by
 cases f with
 | nx ρ'=>exact zei h X1 S1
 | bk ρ'=>exact zei h X1 S1
 | ct ρ'=>exact zei h X1 S1
 | rt d=>exact Bh.on h S1 X1
theorem zkG{N:Ends}{σ:L2.St}{ρ:Rho}{f:Fl}(E:EnvR K H io σ ρ)(S:StR K H io st)(e:ms ρ st=some (f,st'))(w:Wn K io H st' N f):tS K ms N σ H:=zcN.mpr ⟨ρ,st,io,f,st',E,S,e,w⟩
theorem zmx{N:Ends}{σ:L2.St}{ρ:Rho}{f:Fl}{s1:Sto}(X1:Ext io ka H H1)(S1:StR K H1 (io++ka) s1)(E:EnvR K H1 (io++ka) σ ρ)(e:ms ρ s1=some (f,st'))(w:Wn K io H st' N f):tS K ms N σ H1 :=
 zkG E S1 e (w.on X1 S1)
noncomputable def zck:MS:=fun ρ st=>some (.nx ρ,st)
theorem zkZ:SSs X [] zck:=PSs.imp zli fun N σ H h=>by
 obtain⟨ρ,st,io,f,st',E,S,e,w⟩:=zcN.mp h;cases e;exact w σ H [] Ext.refl S.nil (by rw[Ao];exact E)
noncomputable def mSeq(m n:MS):MS:=fun ρ st=>(m ρ st).bind fun (f,s)=>match f with
 | .nx ρ1=>n ρ1 s
 | f=>some (f,s)
theorem zjx(h1:SS X st1 ms)(h2:SSs X rest mq):SSs X (st1::rest) (mSeq ms mq):=PSs.imp (zjR h1 h2) fun N σ H h=>by
 obtain⟨ρ,st,io,f,st',E,S,e,w⟩:=zcN.mp h;obtain⟨⟨f1,s1⟩,e1,e⟩:=zad e;refine zkG E S e1 ?_
 cases f1 with
 | nx ρ1=>exact fun σ' H' ka X' S' R'=>zmx X' S' R' e w
 | bk ρ1=>cases e;exact w
 | ct ρ1=>cases e;exact w
 | rt d=>cases e;exact w
theorem zkY(h1:SS X st1 ms):SSs X [st1] ms:=zlh h1
noncomputable def mExp(m:ME):MS:=fun ρ st=>(m ρ st).map fun (_,s)=>(.nx ρ,s)
noncomputable def mRet(m:ME):MS:=fun ρ st=>(m ρ st).map fun (d,s)=>(.rt d,s)
theorem zag{α β:Type}{x:Option α}{f:α->β}{y:β}(h:x.map f=some y):∃ z,x=some z/\f z=y:=by
 cases x with
 | none=>cases h
 | some z=>exact⟨z,rfl,Ai h⟩
theorem zi3(he:SE X e m)(hs:swapsWith e none pos.line X.env=pure false:=by rfl):SS X (.Expr e pos) (mExp m):=PS.imp (zlj he hs) fun N σ H h=>by
 obtain⟨ρ,st,io,f,st',E,S,e,w⟩:=zcN.mp h;obtain⟨⟨d,s1⟩,e1,e⟩:=zag e;cases e;exact⟨ρ,st,io,d,_,E,S,e1,fun v H' ka X' S' R'=>w σ H' ka X' S' (E.ext S X')⟩
theorem zaQ(he:SE X e m):SS X (.Return (some e) pos) (mRet m):=PS.imp (zmS he) fun N σ H h=>by
 obtain⟨ρ,st,io,f,st',E,S,e,w⟩:=zcN.mp h;obtain⟨⟨d,s1⟩,e1,e⟩:=zag e;cases e;exact⟨ρ,st,io,d,_,E,S,e1,w⟩
noncomputable def mIf(c:MT)(m n:MS):MS:=fun ρ st=>(c ρ st).bind fun (b,s)=>if b=true then m ρ s else n ρ s
theorem zoa(hc:SB X c mt)(h1:SSs X body ms)(h2:SSs X orelse mq):SS X (.If c body orelse pos) (mIf mt ms mq):=PS.imp (zom hc h1 h2) fun N σ H h=>by
 obtain⟨ρ,st,io,f,st',E,S,e,w⟩:=zcN.mp h;obtain⟨⟨x,s1⟩,e1,e⟩:=zad e;refine⟨ρ,st,io,x,s1,E,S,e1,fun H1 k1 X1 S1=>?_⟩
 cases x with
 | true=>rw[if_pos rfl];exact zmx X1 S1 (E.ext S X1) e w
 | false=>rw[if_neg (by decide)];exact zmx X1 S1 (E.ext S X1) e w
noncomputable def gNm(i:Nat):MG:=fun d ρ st=>some (ρ.set i (some d),st)
theorem zaV{i:Nat}{x:Str}(hN:X.N.Nodup)(hi:X.N[i]?=some x)(hx:Loc X.env.scope x)(hf:X.fn x=true\/X.env.scope.names.lookup x=some .local:=by first | exact .inl rfl | exact .inr rfl | assumption):SG X (.Name x pos) (gNm i) :=
 PG.imp (zlo hN hi hx hf) <| by
   rintro v σ H Q ⟨d,ρ,st,io,ρ',st',R,E,S,e,k⟩;cases e;exact k _ H [] Ext.refl S.nil (by rw[Ao];exact E.set i R)
noncomputable def gN0:MGs:=fun ds ρ st=>match ds with
 | []=>some (ρ,st)
 | _=>none
noncomputable def gC(g:MG)(h:MGs):MGs:=fun ds ρ st=>match ds with
 | d::r=>(g d ρ st).bind fun (ρ1,s1)=>h r ρ1 s1
 | []=>none
theorem zgC:SGs X [] gN0:=PGs.imp zln <| by
 rintro v σ H Q ⟨ds,ρ,st,io,ρ',st',R,E,S,e,k⟩
 cases ds with
 | nil=>cases e;exact⟨R,k σ H [] Ext.refl S.nil (by rw[Ao];exact E)⟩
 | cons d r=>cases e
theorem zb2(h1:SG X e mg)(h2:SGs X es mgs)(hs:(assignEach (e::es) X.env).map (·.2)=assign e X.env::(assignEach es X.env).map (·.2):=by rfl):SGs X (e::es) (gC mg mgs) :=
 PGs.imp (zjW h1 h2 hs) <| by
   rintro v σ H Q ⟨ds,ρ,st,io,ρ',st',R,E,S,e,k⟩
   cases ds with
   | nil=>cases e
   | cons d r =>
     obtain⟨y,ys,rfl,r1,rs⟩:=R;obtain⟨⟨ρ1,s1⟩,e1,e⟩:=zad e;refine⟨y,ys,rfl,d,ρ,st,io,ρ1,s1,r1,E,S,e1,fun σ1 H1 k1 X1 S1 E1=>?_⟩;exact⟨r,ρ1,s1,io++k1,ρ',st',rs.ext S X1,E1,S1,e,zei k X1 S1⟩
noncomputable def gTp(n:Nat)(h:MGs):MG:=fun d ρ st=>match d with
 | .tup ds=>if ds.length=n then h ds ρ st else none
 | _=>none
theorem zjG{k:Nat}{n:Nat}(hc:X.calm=true)(h:SGs X es mgs)(hn:(assignEach es X.env).length=n:=by rfl)(hst:(assignEach es X.env).findIdx? (·.1)=none:=by rfl):SG X (.Tuple es k pos) (gTp n mgs) :=
 PG.imp (zmY hc h hn hst) <| by
   rintro v σ H Q ⟨d,ρ,st,io,ρ',st',R,E,S,e,k⟩
   cases d with
   | tup ds =>
     obtain⟨a,xs,rfl,hq,rs⟩:=R;obtain⟨hl,e⟩:=zar e;exact⟨a,xs,rfl,SqT.of hq,by rw[rs.length];exact hl,ds,ρ,st,io,ρ',st',rs,E,S,e,k⟩
   | _=>cases e
noncomputable abbrev G3:=D->D->D->Sto->Option Sto
inductive tSetM (K:Ab) (g:G3) (o i v:V) (H:Hp) (Q:Hp->Prop):Prop
 | mk (d1 d2 d3:D) (st:Sto) (io:List Addr) (st':Sto) (h0:Rep K H io o d1) (h1:Rep K H io i d2) (h2:Rep K H io v d3) (h3:StR K H io st) (h4:g d1 d2 d3 st=some st') (h5:∀ H' ka,Ext io ka H H'->StR K H' (io++ka) st'->Q H')
def SetM(X:Cx)(g:G3):Prop:=PSet X (tSetM X.K g)
noncomputable def gSb(g:G3)(mo mi:ME):MG:=fun d ρ st=>(mo ρ st).bind fun (o,s1)=>(mi ρ s1).bind fun (i,s2)=>(g o i d s2).map fun s3=>(ρ,s3)
theorem zmI{o i:Expr}{mo mi:ME}{g:G3}(ho:SE X o mo)(hi:SE X i mi)(hs:SetM X g)
   (ha:∀ v,assign (.Subscript o i pos) X.env v=(do
     let ov <-holding [v] (eval o X.env)
     let iv <-holding [v,ov] (eval i X.env)
     standAt pos
     holding [v,ov,iv] (setItem ov iv v)
     release [v,ov,iv] []):=by intro _;rfl):SG X (.Subscript o i pos) (gSb g mo mi) :=
 PG.imp (zmZ ho hi hs ha) <| by
   rintro v σ H Q ⟨d,ρ,st,io,ρ',st',R,E,S,e,k⟩;obtain⟨⟨x,s1⟩,e1,e⟩:=zad e;obtain⟨⟨y,s2⟩,e2,e⟩:=zad e;obtain⟨s3,e3,e⟩:=zag e;cases e;refine⟨ρ,st,io,x,s1,E,S,e1,fun v1 H1 k1 X1 S1 R1=>⟨ρ,s1,io++k1,y,s2,E.ext S X1,S1,e2,fun v2 H2 k2 X2 S2 R2=>?_⟩⟩;have X12:=X1.trans S1 X2;refine⟨x,y,d,s2,(io++k1)++k2,_,R1.ext S1 X2,R2,(R.ext S X1).ext S1 X2,S2,e3,fun H3 k3 X3 S3=>?_⟩;rw[Aq] at X3 S2;rw[Aq,Aq] at S3;refine k σ H3 ((k1++k2)++k3) (X12.trans S2 X3) (by simpa using S3) ?_;have E2:EnvR X.K H2 (io++(k1++k2)) σ ρ:=E.ext S X12;have:=E2.ext S2 X3;simpa using this
noncomputable def mAsg(m:ME)(g:MG):MS:=fun ρ st=>(m ρ st).bind fun (d,s1)=>(g d ρ s1).map fun (ρ',s2)=>(.nx ρ',s2)
theorem ziS{N:Ends}{σ:L2.St}{H:Hp}(h:tS K (mAsg m mg) N σ H):tAsg (tE K m) (tG K mg) N σ H:=by
 obtain⟨ρ,st,io,f,st',E,S,e,w⟩:=zcN.mp h;obtain⟨⟨x,s1⟩,e1,e⟩:=zad e;obtain⟨⟨ρ',s2⟩,e2,e⟩:=zag e;cases e;exact⟨ρ,st,io,x,s1,E,S,e1,fun v1 H1 k1 X1 S1 R1=>⟨x,ρ,s1,io++k1,ρ',_,R1,E.ext S X1,S1,e2,zei w X1 S1⟩⟩
theorem zmB{tg:Expr}(he:SE X e m)(hg:SG X tg mg)(hs:swapsWithSole [tg] e pos.line X.env=pure false:=by rfl)(hw:swappedStores [tg] e X.env=pure none:=by rfl)
   (h1:(assignEach [tg] X.env).map (·.2)=[assign tg X.env]:=by rfl):SS X (.Assign [tg] e pos) (mAsg m mg):=PS.imp (zmU he hg hs hw h1) fun _ _ _ h=>ziS h
theorem zbc{i:Nat}{x:Str}{pos':Pos}(hN:X.N.Nodup)(hi:X.N[i]?=some x)(hx:Loc X.env.scope x)(he:SE X e m)(hs:swapsWith e (some (.Name x pos')) pos.line X.env=pure false:=by rfl)(hf:X.fn x=true\/X.env.scope.names.lookup x=some .local:=by first | exact .inl rfl | exact .inr rfl | assumption) :
   SS X (.Assign [.Name x pos'] e pos) (mAsg m (gNm i)):=PS.imp (zmR hN hi hx he hs hf) fun N σ H h=>by
 obtain⟨ρ,st,io,f,st',E,S,e,w⟩:=zcN.mp h;obtain⟨⟨x,s1⟩,e1,e⟩:=zad e;obtain⟨⟨ρ',s2⟩,e2,e⟩:=zag e;cases e;cases e2;exact⟨ρ,st,io,x,_,E,S,e1,fun v1 H1 k1 X1 S1 R1=>w _ H1 k1 X1 S1 ((E.ext S X1).set i R1)⟩
structure Wk where
 ds:List D
 g:List (Nat×List D)
def stays(W:Wk)(st:Sto):Prop:=∀ p,p∈W.g->st[p.1]?=some (.lst p.2)\/st[p.1]?=some (.fz p.2)
structure ItOk(K:Ab)(H0:Hp)(io:List Addr)(W:Wk)(J:It):Prop where
 go:∀ i d H ka st,W.ds[i]?=some d->Ext io ka H0 H->StR K H (io++ka) st->stays W st->J.go i H/\∀ x H',J.yld i H x H'->Ext (io++ka) [] H H'/\StR K H' (io++ka) st/\Rep K H' (io++ka) x d
 stop:∀ H ka st,Ext io ka H0 H->StR K H (io++ka) st->stays W st->J.stop W.ds.length H
 stop':∀ H ka st i,W.ds.length<=i->Ext io ka H0 H->StR K H (io++ka) st->stays W st->J.stop i H
noncomputable abbrev MI:=Rho->Sto->Option (Wk×Sto)
inductive tI (K:Ab) (m:MI) (σ:L2.St) (H:Hp) (R:It->Hp->Prop):Prop
 | mk (ρ:Rho) (st:Sto) (io:List Addr) (W:Wk) (st':Sto) (h1:EnvR K H io σ ρ) (h2:StR K H io st) (h3:m ρ st=some (W,st')) (h4:∀ J H' ka,Ext io ka H H'->StR K H' (io++ka) st'->ItOk K H' (io++ka) W J->R J H')
def SI(X:Cx)(tg iter:Expr)(m:MI):Prop:=PI X tg iter (tI X.K m)
theorem PI.imp{tg iter:Expr}{t u:TI}(h:PI X tg iter t)(k:∀ σ H R,u σ H R->t σ H R):PI X tg iter u:=fun pins s σ H R I q=>h pins s σ H R I (k σ H R q)
end
mutual
noncomputable def D.eqb:D->D->Bool
 | .non,.non=>true
 | .bl a,.bl b=>a==b
 | .int a,.int b=>decide (a=b)
 | .str a,.str b=>decide (a=b)
 | .tup a,.tup b=>D.eqbs a b
 | .ref a,.ref b=>decide (a=b)
 | .kl a,.kl b=>D.eqbs a b
 | _,_=>false
noncomputable def D.eqbs:List D->List D->Bool
 | [],[]=>true
 | a::as,b::bs=>D.eqb a b&&D.eqbs as bs
 | _,_=>false
end
mutual
theorem D.eqb_refl:∀ a:D,D.eqb a a=true
 | .non=>rfl
 | .bl a=>by simp[D.eqb]
 | .int a=>by simp[D.eqb]
 | .str a=>by simp[D.eqb]
 | .tup a=>by rw[D.eqb];exact D.eqbs_refl a
 | .ref a=>by simp[D.eqb]
 | .kl a=>by rw[D.eqb];exact D.eqbs_refl a
theorem D.eqbs_refl:∀ a:List D,D.eqbs a a=true
 | []=>rfl
 | a::as=>by rw[D.eqbs,D.eqb_refl a,D.eqbs_refl as];rfl
end
mutual
theorem D.eq_of:∀ {a b:D},D.eqb a b=true->a=b
 | .non,b,h=>by cases b <;> simp[D.eqb] at h ⊢
 | .bl a,b,h=>by cases b <;> simp[D.eqb] at h ⊢;exact h
 | .int a,b,h=>by cases b <;> simp[D.eqb] at h ⊢;exact h
 | .str a,b,h=>by cases b <;> simp[D.eqb] at h ⊢;exact h
 | .tup a,.tup b,h=>by rw[D.eqb] at h;rw[D.eqs_of h]
 | .tup a,.non,h=>by simp[D.eqb] at h
 | .tup a,.bl _,h=>by simp[D.eqb] at h
 | .tup a,.int _,h=>by simp[D.eqb] at h
 | .tup a,.str _,h=>by simp[D.eqb] at h
 | .tup a,.ref _,h=>by simp[D.eqb] at h
 | .tup a,.kl _,h=>by simp[D.eqb] at h
 | .kl a,.kl b,h=>by rw[D.eqb] at h;rw[D.eqs_of h]
 | .kl a,.non,h=>by simp[D.eqb] at h
 | .kl a,.bl _,h=>by simp[D.eqb] at h
 | .kl a,.int _,h=>by simp[D.eqb] at h
 | .kl a,.str _,h=>by simp[D.eqb] at h
 | .kl a,.ref _,h=>by simp[D.eqb] at h
 | .kl a,.tup _,h=>by simp[D.eqb] at h
 | .ref a,b,h=>by cases b <;> simp[D.eqb] at h ⊢;exact h
theorem D.eqs_of:∀ {a b:List D},D.eqbs a b=true->a=b
 | [],[],_=>rfl
 | [],_::_,h=>by simp[D.eqbs] at h
 | _::_,[],h=>by simp[D.eqbs] at h
 | a::as,b::bs,h=>by
   rw[D.eqbs,Ar] at h;rw[D.eq_of h.1,D.eqs_of h.2]
end
noncomputable instance:DecidableEq D:=fun a b=>if h:D.eqb a b=true then .isTrue (D.eq_of h) else .isFalse fun e=>h (by rw[e];exact D.eqb_refl b)
noncomputable def zho(st:Sto)(n:Nat)(ds:List D):Bool:=match st[n]? with
 | some (.lst xs)=>D.eqbs xs ds
 | some (.fz xs)=>D.eqbs xs ds
 | _=>false
theorem ziu{st:Sto}{n:Nat}{ds:List D}(h:zho st n ds=true):st[n]?=some (.lst ds)\/st[n]?=some (.fz ds):=by
 unfold zho at h
 split at h
 . rename_i xs e;rw[D.eqs_of h] at e;exact .inl e
 . rename_i xs e;rw[D.eqs_of h] at e;exact .inr e
 . cases h
theorem zhn{st:Sto}{n:Nat}{ds:List D}(h:st[n]?=some (.lst ds)):zho st n ds=true:=by unfold zho;rw[h];exact D.eqbs_refl ds
section
variable {X:Cx} {e a b c:Expr} {es:List Expr} {st1 st2:Stmt} {rest body orelse:List Stmt} {pos:Pos} {m ma mb mc:ME} {mt mu:MT} {mm:MA} {ms mq mr:MS} {mg:MG} {mgs:MGs} {mi:MI}
variable {K:Ab} {H H1 H2:Hp} {io ka kb:List Addr} {st st':Sto}
noncomputable def walked(W:Wk)(st:Sto):Bool:=W.g.all fun p=>zho st p.1 p.2
theorem zce{W:Wk}(h:walked W st=true):stays W st:=fun p hp=>ziu (List.all_eq_true.mp h p hp)
noncomputable def zf7(W:Wk)(g:MG)(m:MS):List D->Rho->Sto->Option (Fl×Sto)
 | [],ρ,st=>if walked W st=true then some (.nx ρ,st) else none
 | d::ds,ρ,st=>if walked W st=true then (g d ρ st).bind fun (ρ1,s1)=>(m ρ1 s1).bind fun (f,s2)=>match f with
   | .nx ρ2=>zf7 W g m ds ρ2 s2
   | .ct ρ2=>zf7 W g m ds ρ2 s2
   | .bk ρ2=>some (.nx ρ2,s2)
   | .rt d=>some (.rt d,s2) else none
noncomputable def mFor(mi:MI)(g:MG)(m:MS):MS:=fun ρ st=>(mi ρ st).bind fun (W,s)=>zf7 W g m W.ds ρ s
theorem zmA{tg iter:Expr}(hp:PassesOwn (model X.prog X.w) X.A X.env X.xe)(hc:X.calm=true)(hi:SI X tg iter mi)(hg:SG X tg mg)(hb:SSs X body ms)
   (hs:∀ x,foldedSetIterable iter X.env x=pure x:=by intro _;rfl):SS X (.For tg iter body [] pos) (mFor mi mg ms):=PS.imp (zmT hp hc hi hg hb hs) fun N σ H h=>by
 obtain⟨ρ,st,io,f,st',E,S,e,w⟩:=zcN.mp h;obtain⟨⟨W,s1⟩,e1,e⟩:=zad e;refine⟨ρ,st,io,W,s1,E,S,e1,fun J H1 k1 X1 S1 IO=>?_⟩;refine⟨fun i n σ2 H2=>n=W.ds.length - i/\∃ ρ2 s2 k2,Ext (io++k1) k2 H1 H2/\StR X.K H2 ((io++k1)++k2) s2/\EnvR X.K H2 ((io++k1)++k2) σ2 ρ2/\zf7 W mg ms (W.ds.drop i) ρ2 s2=some (f,st'),
   ⟨_,rfl,ρ,s1,[],Ext.refl,by rw[Ao];exact S1,by rw[Ao];exact E.ext S X1,by rw[Fc];exact e⟩,?_⟩
 rintro i n σ2 H2 ⟨rfl,ρ2,s2,k2,X2,S2,E2,e2⟩;have w2:Wn X.K ((io++k1)++k2) H2 st' N f:=(w.on X1 S1).on X2 S2
 cases hd:W.ds[i]? with
 | none =>
   have hl:W.ds.length<=i:=List.getElem?_eq_none_iff.mp hd;rw[DB hl] at e2;obtain⟨hw,e2⟩:=zar e2;cases e2;refine .inl ⟨?_,w2 σ2 H2 [] Ext.refl S2.nil (by rw[Ao];exact E2)⟩
   -- the end may lie behind
   by_cases hi:i=W.ds.length
   . rw[hi];exact IO.stop H2 k2 _ X2 S2 (zce hw)
   . exact IO.stop' H2 k2 _ i hl X2 S2 (zce hw)
 | some d =>
   have hl:i < W.ds.length:=(List.getElem?_eq_some_iff.mp hd).1;have hdr:W.ds.drop i=d::W.ds.drop (i+1):=by
     rw[C4 hl,(List.getElem?_eq_some_iff.mp hd).2]
   rw[hdr] at e2;obtain⟨hw,e2⟩:=zar e2;obtain⟨⟨ρ3,s3⟩,e3,e2⟩:=zad e2;obtain⟨⟨f4,s4⟩,e4,e2⟩:=zad e2;obtain⟨go,yl⟩:=IO.go i d H2 k2 s2 hd X2 S2 (zce hw);refine .inr ⟨go,fun σ5 H5=>∃ ρ5 s5 k5,Ext (io++k1) k5 H1 H5/\StR X.K H5 ((io++k1)++k5) s5/\EnvR X.K H5 ((io++k1)++k5) σ5 ρ5/\zf7 W mg ms (W.ds.drop (i+1)) ρ5 s5=some (f,st'),
     fun σ5 H5 h5=>⟨W.ds.length - (i+1),by omega,rfl,h5⟩,fun x H' y=>?_⟩
   obtain⟨X3,S3,R3⟩:=yl x H' y;have X23:Ext (io++k1) k2 H1 H':=(X2.trans S2 X3).app;refine⟨d,ρ2,s2,(io++k1)++k2,ρ3,s3,R3,?_,S3,e3,fun σ6 H6 k6 X6 S6 E6=>?_⟩
   . have:=E2.ext S2 X3;rw[Ao] at this;exact this
   . refine zkG E6 S6 e4 ?_;have X26:=X23.trans S3 X6;have S6':StR X.K H6 ((io++k1)++(k2++k6)) s3:=by rw[<-Aq];exact S6
     have fin:∀ {ρ7:Rho},zf7 W mg ms (W.ds.drop (i+1)) ρ7 s4=some (f,st')->∀ σ7 H7 k7,Ext ((io++k1)++k2++k6) k7 H6 H7->StR X.K H7 ((io++k1)++k2++k6++k7) s4->EnvR X.K H7 ((io++k1)++k2++k6++k7) σ7 ρ7 ->
         ∃ ρ5 s5 k5,Ext (io++k1) k5 H1 H7/\StR X.K H7 ((io++k1)++k5) s5/\EnvR X.K H7 ((io++k1)++k5) σ7 ρ5/\zf7 W mg ms (W.ds.drop (i+1)) ρ5 s5=some (f,st'):=by
       intro ρ7 e7 σ7 H7 k7 X7 S7 E7;rw[Aq (io++k1)] at X7;rw[Aq (io++k1),Aq (io++k1)] at S7 E7;exact⟨ρ7,s4,(k2++k6)++k7,X26.trans S6' X7,S7,E7,e7⟩
     cases f4 with
     | nx ρ7=>exact fin e2
     | ct ρ7=>exact fin e2
     | bk ρ7 =>
       cases e2;exact ((w.on X1 S1).on X23 S3).on X6 S6
     | rt dd =>
       cases e2;exact ((w.on X1 S1).on X23 S3).on X6 S6
end
section
variable {X:Cx} {e a b c:Expr} {es:List Expr} {st1 st2:Stmt} {rest body orelse:List Stmt} {pos:Pos} {m ma mb mc:ME} {mt mu:MT} {mm:MA} {ms mq mr:MS} {mg:MG} {mgs:MGs} {mi:MI}
variable {K:Ab} {H H1 H2:Hp} {io ka kb:List Addr} {st st':Sto}
theorem zeX{ρ:Rho}{x:D}{xs:List D}{s s1 s2:Sto}(h1:m ρ s=some (x,s1))(h2:mm ρ s1=some (xs,s2)):zab m mm ρ s=some (x::xs,s2):=by
 unfold zab;rw[h1];show Fv (mm ρ s1) _=_;rw[h2];rfl
noncomputable def zbf(st:Sto)(n:Nat):Option (List D):=match st[n]? with
 | some (.lst ds)=>some ds
 | some (.fz ds)=>some ds
 | _=>none
theorem zaX{n:Nat}{p:Addr}{ds:List D}(S:StR K H io st)(hn:io[n]?=some p)(h:zbf st n=some ds):∃ xs,SqL K H p xs/\Reps K H io xs ds:=by
 unfold zbf at h
 split at h
 . rename_i o he;cases h;obtain⟨xs,e,r⟩:=S.ob n p _ hn he;exact⟨xs,SqL.of e,r⟩
 . rename_i o he;cases h;obtain⟨ob,xs,e,r⟩:=S.ob n p _ hn he;exact⟨xs,.inl (.inr ⟨ob,e⟩),r⟩
 . cases h
theorem zcC{n:Nat}{ds:List D}{W:Wk}(hm:(n,ds)∈W.g)(h:stays W st):zbf st n=some ds:=by
 unfold zbf
 rcases h _ hm with h | h
 . have h:st[n]?=some (.lst ds):=h;rw[h]
 . have h:st[n]?=some (.fz ds):=h;rw[h]
noncomputable def mWL(m:ME):MI:=fun ρ st=>(m ρ st).bind fun (d,s)=>match d with
 | .ref n=>(zbf s n).map fun ds=>(⟨ds,[(n,ds)]⟩,s)
 | _=>none
noncomputable def mWT(m:ME):MI:=fun ρ st=>(m ρ st).bind fun (d,s)=>match d with
 | .tup ds=>some (⟨ds,[]⟩,s)
 | _=>none
theorem zbk{io ka:List Addr}{n:Nat}{p:Addr}(h:io[n]?=some p):(io++ka)[n]?=some p:=by
 rw[Al (List.getElem?_eq_some_iff.mp h).1];exact h
theorem znx{n:Nat}{p:Addr}{ds:List D}(hn:io[n]?=some p):ItOk K H io ⟨ds,[(n,ds)]⟩ (Itl K p) where
 go:=fun i d H1 k1 s hd X1 S1 hs=>by
   obtain⟨xs,hx,r⟩:=zaX S1 (zbk hn) (zcC An hs);obtain⟨v,hv,rv⟩:=r.get hd;refine⟨⟨xs,v,hx,hv⟩,fun x H' y=>?_⟩;obtain⟨rfl,y⟩:=y;have e:=y xs hx;rw[hv] at e;cases e;exact⟨Ext.refl,S1,rv⟩
 stop:=fun H1 k1 s X1 S1 hs=>by
   obtain⟨xs,hx,r⟩:=zaX S1 (zbk hn) (zcC An hs);exact⟨xs,hx,by rw[r.length];exact Af _⟩
 stop':=fun H1 k1 s i hi X1 S1 hs=>by
   obtain⟨xs,hx,r⟩:=zaX S1 (zbk hn) (zcC An hs);exact⟨xs,hx,by rw[r.length];exact hi⟩
theorem zk6{tg l:Expr}(hl:SE X l m):SI X tg l (mWL m):=PI.imp (zlm hl) <| by
 rintro σ H R ⟨ρ,st,io,W,st',E,S,e,k⟩;obtain⟨⟨d,s1⟩,e1,e⟩:=zad e;dsimp only at e
 split at e
 . rename_i n;obtain⟨ds,e2,e⟩:=zag e;cases e;refine⟨ρ,st,io,_,_,E,S,e1,fun v H1 k1 X1 S1 R1=>?_⟩;obtain⟨p,rfl,hn⟩:=R1;obtain⟨xs,hx,r⟩:=zaX S1 hn e2;exact⟨p,rfl,⟨xs,hx⟩,k _ H1 k1 X1 S1 (znx hn)⟩
 . cases e
theorem znv{st:Sto}{p:Addr}{xs:List V}{ds:List D}(S:StR K H io st)(hp:H p=some (.tup xs))(r:Reps K H io xs ds):ItOk K H io ⟨ds,[]⟩ (Itt K p) where
 go:=fun i d H1 k1 s hd X1 S1 hs=>by
   obtain⟨v,hv,rv⟩:=(r.ext S X1).get hd;have hx:SqT K H1 p xs:=SqT.of (X1.sqT S p xs hp);refine⟨⟨xs,v,hx,hv⟩,fun x H' y=>?_⟩;obtain⟨rfl,y⟩:=y;have e:=y xs hx;rw[hv] at e;cases e;exact⟨Ext.refl,S1,rv⟩
 stop:=fun H1 k1 s X1 S1 hs=>⟨xs,SqT.of (X1.sqT S p xs hp),by rw[r.length];exact Af _⟩
 stop':=fun H1 k1 s i hi X1 S1 hs=>⟨xs,SqT.of (X1.sqT S p xs hp),by rw[r.length];exact hi⟩
theorem zmG{tg l:Expr}(hl:SE X l m):SI X tg l (mWT m):=PI.imp (zmW hl) <| by
 rintro σ H R ⟨ρ,st,io,W,st',E,S,e,k⟩;obtain⟨⟨d,s1⟩,e1,e⟩:=zad e;dsimp only at e
 split at e
 . rename_i ds;cases e;refine⟨ρ,st,io,_,_,E,S,e1,fun v H1 k1 X1 S1 R1=>?_⟩;obtain⟨p,xs,rfl,hp,r⟩:=R1;exact⟨p,rfl,⟨xs,SqT.of hp⟩,k _ H1 k1 X1 S1 (znv S1 hp r)⟩
 . cases e
noncomputable def run(lo:Int)(n:Nat):List D:=(AJ n).map fun (k:Nat)=>D.int (lo+(k:Int))
theorem zcI(lo:Int)(n:Nat):(run lo n).length=n:=by unfold run;rw[Ag,C1]
theorem run_get{lo:Int}{n i:Nat}{d:D}(h:(run lo n)[i]?=some d):i < n/\d=.int (lo+(i:Int)):=by
 have hi:i < n:=by
   have q:=(List.getElem?_eq_some_iff.mp h).1
   rwa [zcI] at q
 unfold run at h;rw[AL,CJ hi] at h;exact⟨hi,(Ai h).symm⟩
theorem znw(lo:Int)(n:Nat):ItOk K H io ⟨run lo n,[]⟩ (Itr lo n) where
 go:=fun i d H1 k1 s hd X1 S1 hs=>by
   obtain⟨hi,rfl⟩:=run_get hd;refine⟨hi,fun x H' y=>?_⟩;obtain⟨rfl,rfl⟩:=y;exact⟨Ext.refl,S1,rfl⟩
 stop:=fun H1 k1 s X1 S1 hs=>by
   show n<=_;rw[zcI];exact Af _
 stop':=fun H1 k1 s i hi X1 S1 hs=>by
   show n<=i;have hi:(run lo n).length<=i:=hi
   rwa [zcI] at hi
noncomputable def small(j:Int):Bool:=decide (-(2 ^ 62)<=j)&&decide (j < 2 ^ 62)
theorem zgB{j:Int}(h:small j=true):-(2 ^ 62)<=j/\j < 2 ^ 62:=by
 unfold small at h;rw[Ar] at h;exact⟨of_decide_eq_true h.1,of_decide_eq_true h.2⟩
noncomputable def mR1(m:ME):MI:=fun ρ st=>(m ρ st).bind fun (d,s)=>match d with
 | .int j=>if small j=true then some (⟨run 0 j.toNat,[]⟩,s) else none
 | _=>none
theorem zbP{tg a:Expr}{p pos:Pos}(hg:Gl X "range")(hm:X.mg "range"=none)(ha:SE X a m)(hs:starEach [a] X.env=[(false,eval a X.env)]:=by rfl):SI X tg (.Call (.Name "range" p) [a] [] pos) (mR1 m) :=
 PI.imp (zib hg hm (zaa ha zaf hs) hs) <| by
   rintro σ H R ⟨ρ,st,io,W,st',E,S,e,k⟩;obtain⟨⟨d,s1⟩,e1,e⟩:=zad e;dsimp only at e
   split at e
   . rename_i j;obtain⟨hj,e⟩:=zar e;cases e;refine⟨ρ,st,io,[.int j],_,E,S,(zeX e1 rfl),fun vs H1 k1 X1 S1 R1=>?_⟩;obtain⟨v,rfl,rfl⟩:=R1.one;exact⟨j,rfl,(zgB hj).1,(zgB hj).2,k _ H1 k1 X1 S1 (znw 0 _)⟩
   . cases e
end
noncomputable def rho(n:Nat)(ds:List D):Rho:=ds.map some++Ba (n - ds.length) none
noncomputable def fnM(n:Nat)(m:MS):GN:=fun ds st=>(m (rho n ds) st).bind fun (f,s)=>match f with
 | .rt d=>some (d,s)
 | .nx _=>some (.non,s)
 | _=>none
theorem ziF{K:Ab}{H:Hp}{io:List Addr}{N:List Str}{vs:List V}{ds:List D}(R:Reps K H io vs ds):EnvR K H io (start N vs) (rho N.length ds):=by
 have hl:=R.length;refine⟨by unfold start rho;simp[hl],fun i d h=>?_⟩;unfold rho at h;unfold start
 by_cases hi:i < ds.length
 . rw[Al (by simpa using hi),AL] at h
   cases e:ds[i]? with
   | none=>rw[e] at h;cases h
   | some d' =>
     rw[e] at h
     cases (Ai (Ai h))
     obtain⟨v,hv,r⟩:=R.get e;exact⟨v,by rw[Al (by simpa[hl] using hi),AL,hv];rfl,r⟩
 . rw[AE (by simpa using hi),BB] at h
   split at h <;> cases h
section
variable {P:Program} {w:World} {K:Ab} {mg:Str->Option Value} {base:Heap}
theorem fn_m{x qual:Str}{st:Stmt}{f:Addr}{fd:FuncData}{N ps:List Str}{k:Nat}{m:MS}(F:Fun K x qual st f fd)(S:FnScope N ps (zal st))
   (hbody:∀ (cdv:Value) (A:Around) (outer:List Env) (s:Shared) (H:Hp) (E:XK),Room k (A.deeper (envOfC qual (zal st) s.heap.objs.size f cdv)) ->
     SSs (cxOf CX0 P w K mg base N qual (zal st) f cdv A outer s H E).nox (zbX st) m):FnOk P w K mg base CX0 (k+1) f fd ps (spM K ps.length (fnM N.length m)):=by
 refine F.ok S (fun vs H Q E ⟨_,_,_,_,_,h,_⟩=>h) fun cdv A outer s H vs Q E hr h=>?_;obtain⟨ds,st0,io,d,st',hl,R,SR,e,k'⟩:=h;refine⟨_,hbody cdv A outer s H E hr,?_⟩;obtain⟨⟨fl,s1⟩,e1,e⟩:=zad e;refine zkG (ziF R) SR e1 ?_
 cases fl with
 | rt dd=>cases e;exact k'
 | nx ρ=>cases e;exact fun σ' H' ka X' S' E'=>k' .non H' ka X' S' rfl
 | bk ρ=>cases e
 | ct ρ=>cases e
end
noncomputable def clOf(cells:List (Str×Addr)):List (Str×NameKind)->List (Str×Addr)->List (Str×Addr)
 | [],acc=>acc
 | (n,k)::r,acc=>if k==.free then clOf cells r ((n,(cells.lookup n).getD 0)::acc) else clOf cells r acc
theorem zde{env:Env}(f:Str×NameKind->List (Str×Addr)->Sem (ForInStep (List (Str×Addr))))
   (hf:∀ n k acc,f (n,k) acc=if k==.free then (do let c <-cellOf env n;pure (.yield ((n,c)::acc))) else pure (.yield acc)) :
   ∀ (names:List (Str×NameKind)) (acc:List (Str×Addr)),(∀ n,(n,AA)∈names->∃ c,env.cells.lookup n=some c)->(forIn names acc f:Sem (List (Str×Addr)))=pure (clOf env.cells names acc)
 | [],acc,_=>by rw[Cf];rfl
 | (n,k)::r,acc,h=>by
   rw[Dq,hf];unfold clOf
   cases hk:k==AA with
   | false =>
     rw[if_neg (by simp),if_neg (by simp)];have:=zde f hf r acc fun m hm=>h m (Ak _ hm);rw[<-this];rfl
   | true =>
     rw[if_pos rfl,if_pos rfl];have hk':k=AA:=by simpa using hk
     obtain⟨c,hc⟩:=h n (by rw[hk'];exact An);have:=zde f hf r ((n,c)::acc) fun m hm=>h m (Ak _ hm);rw[hc,Da,<-this];unfold cellOf;rw[hc];rfl
theorem zhA{env:Env}{scope:Scope}(h:∀ n,(n,AA)∈scope.names->∃ c,env.cells.lookup n=some c):closureFor scope env=pure (clOf env.cells scope.names []):=by
 unfold closureFor;have:=zde (env:=env) (fun x acc=>(match x with | (n,k)=>if k==.free then (do let c <-cellOf env n;pure (.yield ((n,c)::acc))) else pure (.yield acc))) (fun _ _ _=>rfl) scope.names [] h;refine Eq.trans ?_ this;simp only[bind_pure]
theorem ze2{cells:List (Str×Addr)}:∀ {names:List (Str×NameKind)} {acc:List (Str×Addr)} {p:Str×Addr},p∈clOf cells names acc->p∈acc\/((p.1,AA)∈names/\p.2=(cells.lookup p.1).getD 0)
 | [],acc,p,h=>.inl h
 | (n,k)::r,acc,p,h=>by
   unfold clOf at h
   cases hk:k==AA with
   | false =>
     rw[hk,if_neg (by simp)] at h
     rcases ze2 h with h | h
     . exact .inl h
     . exact .inr ⟨Ak _ h.1,h.2⟩
   | true =>
     rw[hk,if_pos rfl] at h;have hk':k=AA:=by simpa using hk
     rcases ze2 h with h | h
     . rcases List.mem_cons.mp h with h | h
       . subst h;exact .inr ⟨by rw[hk'];exact An,rfl⟩
       . exact .inl h
     . exact .inr ⟨Ak _ h.1,h.2⟩
theorem zdX{cells:List (Str×Addr)}:∀ {names:List (Str×NameKind)} {acc:List (Str×Addr)} {x:Str},((x,AA)∈names\/(acc.lookup x).isSome=true)->((clOf cells names acc).lookup x).isSome=true
 | [],acc,x,h=>by
   rcases h with h | h
   . exact absurd h (by simp)
   . exact h
 | (n,k)::r,acc,x,h=>by
   unfold clOf
   cases hk:k==AA with
   | false =>
     rw[if_neg (by simp)];refine zdX ?_
     rcases h with h | h
     . rcases List.mem_cons.mp h with h | h
       . have:k=AA:=(Ck h).2.symm;rw[this] at hk;exact absurd hk (by decide)
       . exact .inl h
     . exact .inr h
   | true =>
     rw[if_pos rfl];refine zdX ?_
     by_cases hx:x=n
     . subst hx;exact .inr (by simp)
     . rcases h with h | h
       . rcases List.mem_cons.mp h with h | h
         . exact absurd (Ck h).1 hx
         . exact .inl h
       . refine .inr ?_;rw[A0];have:(x==n)=false:=by simpa using hx
         rw[this];exact h
theorem zdP:∀ {names:List (Str×NameKind)} {n:Nat} {acc:List (Str×Addr)} {p:Str×Addr},p∈cellsFrom n names acc->p∈acc\/n<=p.2
 | [],_,_,_,h=>.inl h
 | (x,k)::r,n,acc,p,h=>by
   unfold cellsFrom at h
   split at h
   . rcases zdP h with h | h
     . rcases List.mem_cons.mp h with h | h
       . subst h;exact .inr (Af _)
       . exact .inl h
     . exact .inr (Bw h)
   . exact zdP h
theorem zcF:∀ {names:List (Str×NameKind)} {n:Nat} {acc:List (Str×Addr)},(acc.Pairwise fun x y=>x.2≠y.2)->(∀ p∈acc,p.2 < n)->(cellsFrom n names acc).Pairwise fun x y=>x.2≠y.2
 | [],_,_,h,_=>h
 | (x,k)::r,n,acc,h,hl=>by
   unfold cellsFrom
   split
   . refine zcF (List.pairwise_cons.mpr ⟨fun y hy e=>?_,h⟩) fun p hp=>?_
     . have q:=hl y hy;have e':n=y.2:=e;rw[<-e'] at q;exact AM _ q
     . rcases List.mem_cons.mp hp with rfl | hp
       . exact Nat.lt_succ_self _
       . exact C2 (hl p hp)
   . exact zcF h hl
theorem zgT:∀ {names:List (Str×NameKind)} {n:Nat} {acc:List (Str×Addr)} {x:Str},((x,AI)∈names\/(acc.lookup x).isSome=true)->((cellsFrom n names acc).lookup x).isSome=true
 | [],n,acc,x,h=>by
   rcases h with h | h
   . exact absurd h (by simp)
   . exact h
 | (m,k)::r,n,acc,x,h=>by
   unfold cellsFrom
   cases hk:k==AI with
   | false =>
     rw[if_neg (by simp)];refine zgT ?_
     rcases h with h | h
     . rcases List.mem_cons.mp h with h | h
       . have:k=AI:=(Ck h).2.symm;rw[this] at hk;exact absurd hk (by decide)
       . exact .inl h
     . exact .inr h
   | true =>
     rw[if_pos rfl];refine zgT ?_
     by_cases hx:x=m
     . subst hx;exact .inr (by simp)
     . rcases h with h | h
       . rcases List.mem_cons.mp h with h | h
         . exact absurd (Ck h).1 hx
         . exact .inl h
       . refine .inr ?_;rw[A0];have:(x==m)=false:=by simpa using hx
         rw[this];exact h
theorem zdO:∀ {names:List (Str×NameKind)} {n:Nat} {acc:List (Str×Addr)} {x:Str},(x,AI) ∉ names->(cellsFrom n names acc).lookup x=acc.lookup x
 | [],_,_,_,_=>rfl
 | (m,k)::r,n,acc,x,h=>by
   unfold cellsFrom
   cases hk:k==AI with
   | false=>rw[if_neg (by simp)];exact zdO fun q=>h (Ak _ q)
   | true =>
     rw[if_pos rfl,zdO fun q=>h (Ak _ q),A0];have hk':k=AI:=by simpa using hk
     have:(x==m)=false:=by
       cases e:x==m with
       | false=>rfl
       | true=>exact absurd (by rw[hk',show x=m by simpa using e];exact An) h
     rw[this]
theorem zgU:∀ {names:List (Str×NameKind)} {n:Nat} {acc:List (Str×Addr)} {x:Str} {c:Addr},(x,AI)∈names->(cellsFrom n names acc).lookup x=some c->n<=c
 | [],_,_,_,_,h,_=>absurd h (by simp)
 | (m,k)::r,n,acc,x,c,h,e=>by
   unfold cellsFrom at e
   cases hk:k==AI with
   | false =>
     rw[hk,if_neg (by simp)] at e
     rcases List.mem_cons.mp h with h | h
     . have:k=AI:=(Ck h).2.symm;rw[this] at hk;exact absurd hk (by decide)
     . exact zgU h e
   | true =>
     rw[hk,if_pos rfl] at e
     by_cases hr:(x,AI)∈r
     . exact Bw (zgU hr e)
     . rw[zdO hr] at e
       rcases List.mem_cons.mp h with h | h
       . have hx:x=m:=(Ck h).1;subst hx;rw[List.lookup_cons_self] at e;exact Eh (Ai e)
       . exact absurd h hr
theorem zdL:∀ {names:List (Str×NameKind)} {h:Heap} {acc:List (Str×Addr)} {p:Str×Addr},p∈cellsFrom h.objs.size names acc->p∈acc\/(pushCells h names).IsCell p.2 none
 | [],_,_,_,h=>.inl h
 | (x,k)::r,h,acc,p,e=>by
   unfold cellsFrom at e;unfold pushCells
   split at e
   . rename_i hk;rw[if_pos hk];have sz:(h.push { cls:=.type "cell",data:=.cell none }).objs.size=h.objs.size+1:=Bm ..;rw[<-sz] at e
     rcases zdL e with q | q
     . rcases List.mem_cons.mp q with q | q
       . subst q;exact .inr ⟨_,Cz _ _ _ _ (Ap _ rfl),rfl⟩
       . exact .inl q
     . exact .inr q
   . rename_i hk;rw[if_neg hk];exact zdL e
noncomputable def zcl(X:Cx)(scope:Scope)(N':List Str)(cells:List (Str×Addr))(C:Addr)(s0:Shared)(H0:Hp)(ex:List Addr):Cx :=
 { X with N:=N',s₀:=s0,H₀:=H0,env:=compEnvC scope cells C X.env,outer:=X.stack,ex:=ex,fn:=fun x=>scope.names.any fun p=>p.1==x&&p.2==.cell,pn:=[],xe:=fun _ _=>False }
structure CompS(X:Cx)(scope:Scope)(N':List Str)(nt:Nat)(fr:List Nat):Prop where
 kind:scope.kind=.function
 nd:(scope.names.map (·.1)).Nodup
 len:N'.length=nt+fr.length
 cap:∀ (i j:Nat) (x:Str),fr[i]?=some j->N'[nt+i]?=some x->X.N[j]?=some x/\(x,AA)∈scope.names
 out:∀ x,(x,AA)∈scope.names->X.env.kindOf x=some .cell\/X.env.kindOf x=some .free
theorem lookup_mem:∀ {l:List (Str×NameKind)} {x:Str} {k:NameKind},(l.map (·.1)).Nodup->(x,k)∈l->l.lookup x=some k
 | [],_,_,_,h=>absurd h (by simp)
 | (n,j)::r,x,k,nd,h=>by
   rw[Az,EM] at nd;rw[A0]
   rcases List.mem_cons.mp h with h | h
   . cases h;simp
   . have:x≠n:=fun e=>nd.1 (by rw[<-e];exact List.mem_map.mpr ⟨_,h,rfl⟩);have:(x==n)=false:=by simpa using this
     rw[this];exact lookup_mem nd.2 h
theorem zbd{env:Env}:∀ {l:List (Str×NameKind)} {x:Str} {k:NameKind},(l.map fun (n,k)=>if (k==AA&&env.scope.kind==.function&&env.kindOf n==some .cell) then (n,AI) else (n,k)).lookup x=some k ->
   ∃ k',l.lookup x=some k'/\(k'=k\/k'=.free)
 | [],_,_,h=>by simp at h
 | (n,j)::r,x,k,h=>by
   rw[Az] at h;dsimp only at h
   by_cases hc:(j==AA&&env.scope.kind==.function&&env.kindOf n==some .cell)=true
   . rw[if_pos hc,A0] at h;rw[A0]
     cases hx:x==n with
     | true =>
       have:j=.free:=by
         rw[Ar,Ar] at hc;simpa using hc.1.1
       exact⟨j,rfl,.inr this⟩
     | false=>rw[hx] at h;exact zbd h
   . rw[if_neg hc,A0] at h;rw[A0]
     cases hx:x==n with
     | true=>rw[hx] at h;cases h;exact⟨j,rfl,.inl rfl⟩
     | false=>rw[hx] at h;exact zbd h
theorem zb4{env:Env}:∀ {l:List (Str×NameKind)} {x:Str},l.lookup x=some .free ->
   (l.map fun (n,k)=>if (k==AA&&env.scope.kind==.function&&env.kindOf n==some .cell) then (n,AI) else (n,k)).lookup x=some .cell \/
   (l.map fun (n,k)=>if (k==AA&&env.scope.kind==.function&&env.kindOf n==some .cell) then (n,AI) else (n,k)).lookup x=some .free
 | [],_,h=>by simp at h
 | (n,j)::r,x,h=>by
   rw[Az];dsimp only;rw[A0] at h
   by_cases hc:(j==AA&&env.scope.kind==.function&&env.kindOf n==some .cell)=true
   . rw[if_pos hc,A0]
     cases hx:x==n with
     | true=>exact .inl rfl
     | false=>rw[hx] at h;exact zb4 h
   . rw[if_neg hc,A0]
     cases hx:x==n with
     | true=>rw[hx] at h;cases h;exact .inr rfl
     | false=>rw[hx] at h;exact zb4 h
section
variable {X:Cx} {scope:Scope} {N':List Str} {nt:Nat} {fr:List Nat} {pins:List (Addr×Obj)} {σ:L2.St} {H:Hp} {s:Shared}
noncomputable abbrev clX (X:Cx) (scope:Scope):List (Str×Addr):=clOf X.env.cells scope.names []
noncomputable abbrev zcm (X:Cx) (scope:Scope) (C:Nat):List (Str×Addr):=cellsFrom (C+1) scope.names (clX X scope)
theorem zhB(Z:CompS X scope N' nt fr)(ok:X.Ok){p:Str×Addr}(h:p∈clX X scope):(p.1,AA)∈scope.names/\X.env.cells.lookup p.1=some p.2:=by
 rcases ze2 h with h | ⟨h1,h2⟩
 . exact absurd h (by simp)
 . obtain⟨c,hc⟩:=ok.has p.1 (Z.out p.1 h1);rw[hc,Da] at h2;exact⟨h1,by rw[hc,h2]⟩
theorem ziK(Z:CompS X scope N' nt fr)(ok:X.Ok){x:Str}(h:(x,AA)∈scope.names):∃ c,X.env.cells.lookup x=some c/\∀ C,(zcm X scope C).lookup x=some c:=by
 obtain⟨c,hc⟩:=ok.has x (Z.out x h);refine⟨c,hc,fun C=>?_⟩;have no:(x,AI) ∉ scope.names:=fun q=>by
   have a:=lookup_mem Z.nd h;have b:=lookup_mem Z.nd q;rw[a] at b;cases b
 rw[zdO no];have q:=zdX (cells:=X.env.cells) (acc:=[]) (.inl h);obtain⟨c',e⟩:=Option.isSome_iff_exists.mp q;have:=(zhB Z ok (AH e)).2;have this:X.env.cells.lookup x=some c':=this;rw[hc] at this;rw[e,this]
theorem zkv(Z:CompS X scope N' nt fr)(ok:X.Ok):(clX X scope).Pairwise fun x y=>x.2≠y.2:=by
 have gen:∀ (names:List (Str×NameKind)) (acc:List (Str×Addr)),(∀ n,(n,AA)∈names->∃ c,X.env.cells.lookup n=some c)->(names.map (·.1)).Nodup->(∀ p∈acc,p.1 ∉ names.map (·.1)/\X.env.cells.lookup p.1=some p.2)->(acc.Pairwise fun x y=>x.2≠y.2) ->
     (clOf X.env.cells names acc).Pairwise fun x y=>x.2≠y.2:=by
   intro names
   induction names with
   | nil=>intro acc _ _ _ h;exact h
   | cons p r ih =>
     intro acc hf nd ha hp;obtain⟨n,k⟩:=p;rw[Az,EM] at nd;unfold clOf
     cases hk:k==AA with
     | false =>
       rw[if_neg (by simp)];exact ih acc (fun m hm=>hf m (Ak _ hm)) nd.2 (fun q hq=>⟨fun z=>(ha q hq).1 (by rw[Az];exact Ak _ z),(ha q hq).2⟩) hp
     | true =>
       rw[if_pos rfl];have hk':k=AA:=by simpa using hk
       obtain⟨c,hc⟩:=hf n (by rw[hk'];exact An);refine ih _ (fun m hm=>hf m (Ak _ hm)) nd.2 (fun q hq=>?_) (List.pairwise_cons.mpr ⟨fun y hy e=>?_,hp⟩)
       . rcases List.mem_cons.mp hq with rfl | hq
         . exact⟨nd.1,by rw[hc];rfl⟩
         . exact⟨fun z=>(ha q hq).1 (by rw[Az];exact Ak _ z),(ha q hq).2⟩
       . have e1:(X.env.cells.lookup n).getD 0=y.2:=e;rw[hc,Da] at e1;have e2:=(ha y hy).2;rw[<-e1] at e2;have:=ok.inj _ _ _ e2 hc;exact (ha y hy).1 (by rw[this,Az];exact An)
 exact gen scope.names [] (fun n hn=>ok.has n (Z.out n hn)) Z.nd (fun p hp=>absurd hp (by simp)) CZ
theorem zku{M:Model}{A:Around}{E:Value->Shared->Prop}{env:Env}{cl:List (Str×Addr)}{Q:Env->Shared->Prop}
   (h:Q { scope:=scope,locals:=s.heap.objs.size,globals:=env.globals,cells:=cellsFrom (s.heap.objs.size+1) scope.names cl,qual:=env.qual,func:=none,code:=env.code,frame:=env.frame,builtins:=env.builtins }
     { s with heap:=pushCells (s.heap.push { cls:=.type "dict",data:=.dict #[] }) scope.names }) :
   wpAny M A (newFunctionEnv scope env.globals cl [] env.qual none .none (some env)) Q E s:=by
 simp only[newFunctionEnv,Eb,if_true];refine Aa (wpAny_alloc ?_);refine Aa (wpAny_layCells _ (fun name kind cells=>by cases hkc:kind==AI <;> simp[hkc]) _ _ _ _ ?_);rw[show ({ s with heap:=s.heap.push { cls:=.type "dict",data:=.dict #[] } }:Shared).heap.objs.size=s.heap.objs.size+1 from Bm ..];rw[Cf];exact Aa (Ad (Ad h))
noncomputable def ziJ(σ:L2.St)(nt:Nat)(fr:List Nat):L2.St:=Ba nt none++fr.map fun (j:Nat)=>(σ[j]?).join
theorem zke{fp:List Addr}(Z:CompS X scope N' nt fr)(I:Inv X pins σ H s)(hf:∀ b∈fp,FpOk X pins H b)(hlt:∀ b∈fp,b < s.heap.objs.size) :
   Inv (zcl X scope N' (zcm X scope s.heap.objs.size) s.heap.objs.size s H fp) [] (ziJ σ nt fr) H { s with heap:=pushCells (s.heap.push { cls:=.type "dict",data:=.dict #[] }) scope.names }:=by
 have ok:=I.ok;have kp:∀ b o,s.heap.get? b=some o->(pushCells (s.heap.push { cls:=.type "dict",data:=.dict #[] }) scope.names).get? b=some o:=fun b o e=>Cz _ _ b o (Ac _ e);have clt:∀ p∈clX X scope,p.2 < s.heap.objs.size:=fun p hp=>by
   obtain⟨_,e⟩:=zhB Z ok hp;obtain⟨v,q⟩:=I.cell p.1 p.2 e;exact q.lt
 have sz:(s.heap.push { cls:=.type "dict",data:=.dict #[] }).objs.size=s.heap.objs.size+1:=Bm ..;have cells:∀ x c,(zcm X scope s.heap.objs.size).lookup x=some c->(X.env.cells.lookup x=some c)\/(s.heap.objs.size+1<=c/\(pushCells (s.heap.push { cls:=.type "dict",data:=.dict #[] }) scope.names).IsCell c none):=fun x c e=>by
   have m:=AH e
   rcases zdP m with h | h
   . exact .inl (zhB Z ok h).2
   . refine .inr ⟨h,?_⟩;have m':(x,c)∈cellsFrom (s.heap.push { cls:=.type "dict",data:=.dict #[] }).objs.size scope.names (clX X scope):=by rw[sz];exact m
     rcases zdL m' with q | q
     . have l:=clt _ q;exact absurd (As l (Bw h)) (AM _)
     . exact q
 refine⟨⟨ok.mod,Z.kind,ok.glob,ok.blt,Af _,fun x y c h1 h2=>?_,fun x hx=>?_,fun x c h1 h2=>?_,ok.hd,ok.frames,.inl rfl,fun b hb=>?_,I.bs,AB ok.bsz I.sz,fun b o e hb=>?_,fun b hb=>?_,I.stack,I.stkFree⟩,
   rfl,I.bare,Un.kept kp,⟨fun _=>none,?_,fun i x v h1 h2 h3=>?_⟩,fun x c e=>?_,I.hok.fresh (Af _),fun x c e=>?_,fun p hp=>absurd hp (by simp[zcl]),I.hok.kept kp,?_⟩
 . exact name_of_addr (zcF (zkv Z ok) fun p hp=>C2 (clt p hp)) (AH h1) (AH h2)
 . have hx:(relabel scope X.env).names.lookup x=some .cell\/(relabel scope X.env).names.lookup x=some .free:=hx;have q:(x,AI)∈scope.names\/(x,AA)∈scope.names:=by
     rcases hx with hx | hx
     . obtain⟨k',e,z | z⟩:=zbd hx
       . subst z;exact .inl (AH e)
       . subst z;exact .inr (AH e)
     . obtain⟨k',e,z | z⟩:=zbd hx
       . subst z;exact .inr (AH e)
       . subst z;exact .inr (AH e)
   refine Option.isSome_iff_exists.mp (zgT (n:=s.heap.objs.size+1) (acc:=clX X scope) ?_)
   rcases q with q | q
   . exact .inl q
   . exact .inr (zdX (.inl q))
 . have h1:(scope.names.any fun p=>p.1==x&&p.2==AI)=true:=h1;obtain⟨p,hp,e⟩:=List.any_eq_true.mp h1;rw[Ar] at e;have e1:p.1=x:=by simpa using e.1
   have e2:p.2=AI:=by simpa using e.2
   have hm:(x,AI)∈scope.names:=by rw[<-e1,<-e2];exact hp
   exact Bw (zgU hm h2)
 . refine⟨Aw (hlt b hb),fun x c e z=>?_⟩
   rcases cells x c e with q | ⟨q,_⟩
   . exact (hf b hb).2.2.2.2.1 x c q z
   . have l:=hlt b hb;rw[<-z] at l;exact absurd (As l (Bw q)) (AM _)
 . rcases (hf b hb).2.2.2.1 with z | z
   . exact ok.noex b o e z
   . exact absurd (As (Aj e) (AB ok.bsz z)) (AM _)
 . intro hs
   rcases List.mem_cons.mp (I.stkSub b hs) with e | e
   . exact (hf b hb).2.1 e
   . exact (hf b hb).2.2.1 e
 . exact (Heap.Ns.new s.heap (.type "dict")).keeps (Cz _ _)
 . -- a captured name
   have hi:nt<=i:=by
     by_cases hi:i < nt
     . unfold ziJ at h2;rw[Al (by simpa using hi),BB,if_pos hi] at h2;cases h2
     . omega
   obtain⟨i',rfl⟩:∃ i',i=nt+i':=⟨i - nt,by omega⟩
   unfold ziJ at h2;rw[AE (by simp),BL,Nat.add_sub_cancel_left,AL] at h2
   cases ej:fr[i']? with
   | none=>rw[ej] at h2;cases h2
   | some j =>
     rw[ej] at h2;have h2:(σ[j]?).join=some v:=Ai h2;have h2:σ[j]?=some (some v):=by
       cases q:σ[j]? with
       | none=>rw[q] at h2;cases h2
       | some w=>rw[q] at h2;cases w with
         | none=>cases h2
         | some w=>cases h2;rfl
     obtain⟨hN,hfree⟩:=Z.cap i' j x ej h1;obtain⟨c,hc,hcc⟩:=ziK Z ok hfree;have ho:=Z.out x hfree;obtain⟨m,hn,hl⟩:=I.loc;obtain⟨u,r,l⟩:=hl j x v hN h2 (ho.elim (fun z=>.inr (.inl z)) fun z=>.inr (.inr z));refine⟨u,r,.inr ⟨?_,c,hcc _,?_⟩⟩
     . exact zb4 (lookup_mem Z.nd hfree)
     . rcases l with ⟨k,_⟩ | ⟨_,c',e',z⟩
       . rcases ho with q | q
         . rw[k] at q;cases q
         . rw[k] at q;cases q
       . rw[hc] at e';cases e';exact z.keeps kp
 . rcases cells x c e with q | ⟨_,q⟩
   . obtain⟨v,z⟩:=I.cell x c q;exact⟨v,z.keeps kp⟩
   . exact⟨none,q⟩
 . rcases cells x c e with q | ⟨q,_⟩
   . exact I.freeC x c q
   . exact I.hok.fresh (Bw q)
 . show _=N'.length;unfold ziJ;rw[Z.len,AN,BL,Ag]
end
noncomputable abbrev FF:Value->Shared->Prop:=fun _ _=>False
theorem zgb{prog:Program}{w:World}{A:Around}{R:Result->Shared->Prop}{s:Shared}{elt target iter:Expr}{ifs:List Expr}{scope:Scope}{pos:Pos}{it acc:Value}{env:Env}(I:Nat->Shared->Prop)
   (turn:∀ n s,I n s->wpAny (model prog w) A (pyNext it) (fun r s1=>match r with
     | none=>R (.ok .next) s1
     | some v=>wpAny (model prog w) A (letOwnedTupleGo target it v) (fun _ s1=>wpAny (model prog w) A (assign target env v) (fun _ s2 =>
         wpAny (model prog w) A (forIn ifs true fun c r=>if r=true then do let ok <-isTrue c env (eval c env);pure (CA ok) else pure (CA r)) (fun ok s3 =>
           if ok=true then wpAny (model prog w) A (eval elt env) (fun x s4 =>
             wpAny (model prog w) A (call (.builtin "list.append") [acc,x]) (fun _ s5=>∃ m,m < n/\I m s5) FF s4) FF s3
           else ∃ m,m < n/\I m s3) FF s2) FF s1) FF s1) FF s)
   (n:Nat) (h:I n s) :
   codeAny (model prog w) A (.compLoop (.ListComp elt [⟨target,iter,ifs,0⟩] scope pos) 0 it acc env) R s:=by
 refine codeAny_loop rfl I (fun n s hI=>?_) n h;show wpAny _ A ((compTurn (.ListComp elt [⟨target,iter,ifs,0⟩] scope pos) 0 it acc env).onRaise (fun x=>do noteFrame x env;theTreesLotGoes x)) _ _ s;refine wpAny_noted ?_;rw[compTurn_list];refine Aa (DV (Aa (A9 (turn n s hI) (fun r s₁ h₁=>?_) fun _ _ h'=>False.elim h')))
 cases r with
 | none=>exact Ad h₁
 | some v =>
   refine Aa (A9 h₁ (fun _ s₂ h₂=>?_) fun _ _ h'=>False.elim h');refine Aa (A9 h₂ (fun _ s₂ h₂=>Aa (A9 h₂ (fun ok s₃ h₃=>?_) fun _ _ h'=>False.elim h')) fun _ _ h'=>False.elim h')
   cases ok with
   | false=>exact Ad ⟨rfl,h₃⟩
   | true =>
     exact Aa (Aa (A9 h₃ (fun x s₄ h₄=>Aa (A9 h₄ (fun _ s₅ h₅=>Ad (Ad ⟨rfl,h₅⟩)) fun _ _ h'=>False.elim h')) fun _ _ h'=>False.elim h'))
noncomputable def mCI(W:Wk)(g:MG)(c:MT)(m:ME):List D->Rho->Sto->Option (List D×Sto)
 | [],ρ,st=>if walked W st=true then some ([],st) else none
 | d::ds,ρ,st=>if walked W st=true then (g d ρ st).bind fun (ρ1,s1)=>(c ρ1 s1).bind fun (b,s2) =>
     if b=true then (m ρ1 s2).bind fun (x,s3)=>(mCI W g c m ds ρ1 s3).map fun (xs,s4)=>(x::xs,s4) else mCI W g c m ds ρ1 s2 else none
noncomputable def rho0(ρ:Rho)(nt:Nat)(fr:List Nat):Rho:=Ba nt none++fr.map fun (j:Nat)=>(ρ[j]?).join
noncomputable def zbv(mi:MI)(nt:Nat)(fr:List Nat)(g:MG)(c:MT)(m:ME):ME:=fun ρ st=>(mi ρ st).bind fun (W,s1)=>(mCI W g c m W.ds (rho0 ρ nt fr) s1).bind fun (xs,s2) =>
 if fits xs.length=true then some (.ref s2.length,s2++[.lst xs]) else none
noncomputable def za9:MT:=fun _ st=>some (true,st)
def SC(X:Cx)(ifs:List Expr)(m:MT):Prop:=∀ (pins:List (Addr×Obj)) (s:Shared) (σ:L2.St) (H:Hp) (Q:Bool->Hp->Prop),Inv X pins σ H s->tT X.K m σ H Q ->
 wpAny (model X.prog X.w) X.A (forIn ifs true fun c r=>if r=true then do let ok <-isTrue c X.env (eval c X.env);pure (CA ok) else pure (CA r)) (TP X pins σ Q) X.xe s
theorem zcx{X:Cx}:SC X [] za9:=by
 rintro pins s σ H Q I ⟨ρ,st,io,b,st',E,S,e,k⟩;cases e;rw[Cf];exact Ad ⟨H,I,k H [] Ext.refl S.nil⟩
section
variable {K:Ab} {H H1:Hp} {io ka:List Addr} {st:Sto} {σ:L2.St} {ρ:Rho}
theorem zkq{nt:Nat}{fr:List Nat}(h:EnvR K H io σ ρ):EnvR K H io (ziJ σ nt fr) (rho0 ρ nt fr):=by
 refine⟨by unfold ziJ rho0;simp,fun i d e=>?_⟩;unfold rho0 at e;unfold ziJ
 by_cases hi:i < nt
 . rw[Al (by simpa using hi),BB,if_pos hi] at e;cases e
 . rw[AE (by simpa using hi),BL,AL] at e ⊢
   cases ej:fr[i - nt]? with
   | none=>rw[ej] at e;cases e
   | some j =>
     rw[ej] at e;have e:(ρ[j]?).join=some d:=Ai e;have e:ρ[j]?=some (some d):=by
       cases q:ρ[j]? with
       | none=>rw[q] at e;cases e
       | some w=>rw[q] at e;cases w with
         | none=>cases e
         | some w=>cases e;rfl
     obtain⟨v,hv,r⟩:=h.at_ j d e;exact⟨v,by simp[hv],r⟩
theorem adopt{p:Addr}{xs:List V}{ds:List D}(S:StR K H io st)(hp:H p=some (.lst xs))(np:p ∉ io)(R:Reps K H io xs ds):StR K H (io++[p]) (st++[.lst ds]):=by
 refine⟨by simp[S.len],?_,fun n a ob h1 h2=>?_⟩
 . rw[Er];refine⟨S.nd,by simp,fun a ha b hb=>?_⟩;rw[List.mem_singleton.mp hb];rintro rfl;exact np ha
 . by_cases hn:n < io.length
   . rw[Al hn] at h1;rw[Al (by rw[<-S.len];exact hn)] at h2;exact OR.mono ⟨fun _ _ h=>h,fun _ _ _ h=>h⟩ rfl (S.ob n a ob h1 h2)
   . have hl:n < (io++[p]).length:=(List.getElem?_eq_some_iff.mp h1).1;rw[AN,Cv] at hl;have e:n=io.length:=by omega
     subst e;rw[AE (Af _),Cy] at h1;rw[S.len,AE (Af _),Cy] at h2
     cases (Ai h1)
     cases (Ai h2)
     exact⟨xs,hp,Reps.mono ⟨fun _ _ h=>h,fun _ _ _ h=>h⟩ R⟩
end
section
variable {X:Cx} {scope:Scope} {N':List Str} {nt:Nat} {fr:List Nat} {elt tg iter:Expr} {ifs:List Expr} {pos:Pos} {mi:MI} {g:MG} {c:MT} {m:ME}
structure CompEnd(X:Cx)(pins:List (Addr×Obj))(σ:L2.St)(H:Hp)(io:List Addr)(d:D)(st':Sto)(Dd C:Addr)(H5:Hp)(s6:Shared):Prop where
 inv:Inv X pins σ H5 s6
 ns:∃ m,s6.heap.Ns C m
 free:H5 C=none
 ne:C≠X.env.locals
 young:X.s₀.heap.objs.size<=C
 cells:∀ x c,X.env.cells.lookup x=some c->c≠C
 pin:∀ p∈X.pn++pins,p.1≠C
 val:∃ ka,Ext io ka H H5/\StR X.K H5 (io++ka) st'/\Rep X.K H5 (io++ka) (.ref Dd) d
inductive CompI (X Y:Cx) (W:Wk) (tn:Nat->Heap->Prop) (fp io:List Addr) (H1:Hp) (Dd:Addr) (g:MG) (c:MT) (m:ME) (t2:Sto) (xs:List D) (n:Nat) (s5:Shared):Prop
 | mk (i:Nat) (σ5:L2.St) (H5:Hp) (ρ5:Rho) (st5:Sto) (k5:List Addr) (ac rs:List D) (h0:n=W.ds.length - i) (h1:Inv Y [] σ5 H5 s5) (h2:tn i s5.heap) (h3:∀ b∈fp,H5 b=none) (h4:Ext io k5 H1 H5) (h5:Dd ∉ k5) (h6:StR X.K H5 (io++k5) st5) (h7:EnvR X.K H5 (io++k5) σ5 ρ5) (h8:∃ vs,H5 Dd=some (.lst vs)/\Reps X.K H5 (io++k5) vs ac) (h9:mCI W g c m (W.ds.drop i) ρ5 st5=some (rs,t2)) (h10:xs=ac++rs)
theorem zhz(hx:X.xe=FF)(hc:X.calm=true)(Z:CompS X scope N' nt fr)(hi:SI X tg iter mi)
   (hg:∀ C s0 H0 fp,SG (zcl X scope N' (zcm X scope C) C s0 H0 fp) tg g) (ht:∀ C s0 H0 fp,SC (zcl X scope N' (zcm X scope C) C s0 H0 fp) ifs c) (he:∀ C s0 H0 fp,SE (zcl X scope N' (zcm X scope C) C s0 H0 fp) elt m)
   (hs:∀ x,foldedSetIterable iter X.env x=pure x) {pins:List (Addr×Obj)} {s:Shared} {σ:L2.St} {H:Hp} {ρ:Rho} {st st':Sto} {io:List Addr} {d:D} {use:Option (Value->Sem Unit)} {Qf:Value->Shared->Prop} {ps:Pos}
   (I:Inv X pins σ H s) (E:EnvR X.K H io σ ρ) (S:StR X.K H io st) (e:zbv mi nt fr g c m ρ st=some (d,st'))
   (kf:∀ Dd C H5 s6,CompEnd X pins σ H io d st' Dd C H5 s6->compPost (model X.prog X.w) X.A X.xe use Qf (.ref Dd) C (.ok .next) s6) :
   wpAny (model X.prog X.w) X.A (comprehension (.ListComp elt [⟨tg,iter,ifs,0⟩] scope pos) scope X.env ps (newList []) false (eval iter X.env) use) Qf X.xe s:=by
 obtain⟨⟨W,t1⟩,e1,e⟩:=zad e;obtain⟨⟨xs,t2⟩,e2,e⟩:=zad e;obtain⟨hfit,e⟩:=zar e;cases e;refine wpAny_comprehension_free (use:=use) rfl hs (zhA fun n hn=>I.ok.has n (Z.out n hn)) Z.kind (fun x hx hl=>by
   obtain⟨n,k⟩:=x
   cases (show k=.local from hl)
   exact lookup_mem Z.nd hx) ?_
 refine thn (hi pins s σ H (fun J H1=>∃ ka,Ext io ka H H1/\StR X.K H1 (io++ka) t1/\ItOk X.K H1 (io++ka) W J) I ⟨ρ,st,io,W,t1,E,S,e1,fun J H' ka X' S' O'=>⟨ka,X',S',O'⟩⟩) fun v sa ha=>?_;refine thn ha ?_;rintro itv s2 ⟨it,fp,tn,J,H1,eit,I1,T,tn0,fpok,k1,X1,S1,IO⟩;subst eit;refine AX ?_
 -- the new list
 have hD:H1 s2.heap.objs.size=none:=I1.hok.fresh (Af _);have I3:Inv X pins σ (upd H1 s2.heap.objs.size (.lst [])) { s2 with heap:=s2.heap.push { cls:=.type "list",data:=.seq ([]:List Value).toArray },toks:=s2.toks }:=I1.lnew .nil (A7 _);obtain⟨X2,S2a⟩:=zg6 (o:=.lst []) S1 hD;rw[Ao] at S2a;have S2:StR X.K (upd H1 s2.heap.objs.size (.lst [])) (io++k1) t1:=S2a;clear S2a;generalize hH3:upd H1 s2.heap.objs.size (.lst [])=H3 at I3 X2 S2;have H3D:H3 s2.heap.objs.size=some (.lst []):=by rw[<-hH3];exact zbt
 generalize hD':s2.heap.objs.size=Dd at hD I3 X2 S2 hH3 H3D ⊢;generalize hs3:({ s2 with heap:=s2.heap.push { cls:=.type "list",data:=.seq ([]:List Value).toArray },toks:=s2.toks }:Shared)=s3 at I3;have fplt:∀ b∈fp,b < s3.heap.objs.size:=fun b hb=>by
   obtain⟨o,ho,_⟩:=T.obj 0 _ tn0 b hb;rw[<-hs3];exact As (Aj ho) (by show _<=(s2.heap.push _).objs.size;rw[Bm];exact BZ _)
 have fpD:∀ b∈fp,b≠Dd:=fun b hb z=>by
   obtain⟨o,ho,_⟩:=T.obj 0 _ tn0 b hb;have:=Aj ho;rw[z,<-hD'] at this;exact AM _ this
 have fp3:∀ b∈fp,FpOk X pins H3 b:=fun b hb=>⟨by rw[<-hH3,zaJ (fpD b hb)];exact (fpok b hb).1,(fpok b hb).2⟩
 have tn3:tn 0 s3.heap:=T.keep 0 _ _ tn0 fun b _ o ho=>by rw[<-hs3];exact Ac _ ho
 refine zku ?_;have I4:=zke (fp:=fp) Z I3 fp3 fplt;have tn4:tn 0 (pushCells (s3.heap.push { cls:=.type "dict",data:=.dict #[] }) scope.names):=T.keep 0 _ _ tn3 fun b _ o ho=>Cz _ _ _ _ (Ac _ ho);generalize hs4:({ s3 with heap:=pushCells (s3.heap.push { cls:=.type "dict",data:=.dict #[] }) scope.names }:Shared)=s4 at I4;have tn4:tn 0 s4.heap:=by rw[<-hs4];exact tn4
 show codeAny (model X.prog X.w) X.A (.compStart (.ListComp elt [⟨tg,iter,ifs,0⟩] scope pos) 0 (.ref it) (.ref Dd) (zcl X scope N' (zcm X scope s3.heap.objs.size) s3.heap.objs.size s3 H3 fp).env) _ _;generalize hY:zcl X scope N' (zcm X scope s3.heap.objs.size) s3.heap.objs.size s3 H3 fp=Y at I4;have yP:Y.prog=X.prog:=by rw[<-hY];rfl
 have yW:Y.w=X.w:=by rw[<-hY];rfl
 have yK:Y.K=X.K:=by rw[<-hY];rfl
 have yC:Y.calm=true:=by rw[<-hY];exact hc
 have yA:Y.A=X.A:=by rw[<-hY];rfl
 have yx:Y.xe=FF:=by rw[<-hY];rfl
 have hg:=hg s3.heap.objs.size s3 H3 fp;have ht:=ht s3.heap.objs.size s3 H3 fp;have he:=he s3.heap.objs.size s3 H3 fp;rw[hY] at hg ht he;have yex:Y.ex=fp:=by rw[<-hY];rfl
 have yfs:∀ b∈fp,b ∉ Y.fs:=fun b hb hs=>by
   rw[<-hY] at hs;have hs:b∈frs X.stack:=hs
   rcases List.mem_cons.mp (I3.stkSub b hs) with z | z
   . exact (fp3 b hb).2.1 z
   . exact (fp3 b hb).2.2.1 z
 have yL:Y.env.locals=s3.heap.objs.size:=by rw[<-hY];rfl
 -- the loop
 have hio:Dd ∉ io++k1:=fun hm=>by
   obtain⟨u,hu,_⟩:=S1.mem hm;rw[hD] at hu;cases hu
 have start:∀ {H':Hp} {sx:Shared} {σ':L2.St},Inv Y [] σ' H' sx->(∀ b∈fp,H' b=none)->∀ b∈fp,FpOk Y [] H' b:=fun {H' sx σ'} I' hn b hb=>by
   refine⟨hn b hb,fun z=>?_,yfs b hb,.inl (by rw[yex];exact hb),fun x cc e z=>?_,fun p hp=>absurd hp (by rw[<-hY];simp[zcl])⟩
   . rw[yL] at z;exact absurd (fplt b hb) (by rw[z];exact AM _)
   . exact (I'.ok.exf b (by rw[yex];exact hb)).2 x cc e z
 have loop:∀ sx:Shared,Inv Y [] (ziJ σ nt fr) H3 sx->tn 0 sx.heap->codeAny (model X.prog X.w) X.A (.compLoop (.ListComp elt [⟨tg,iter,ifs,0⟩] scope pos) 0 (.ref it) (.ref Dd) Y.env) (compPost (model X.prog X.w) X.A X.xe use Qf (.ref Dd) s3.heap.objs.size) sx:=by
   intro sx Ix tnx;refine zgb (CompI X Y W tn fp (io++k1) H1 Dd g c m t2 xs) ?_ (W.ds.length - 0)
     ⟨0,ziJ σ nt fr,H3,rho0 ρ nt fr,t1,[],[],xs,rfl,Ix,tnx,fun b hb=>(fp3 b hb).1,X2,by simp,S2.nil,by rw[Ao];exact zkq (by have:=(E.ext S X1).ext S1 X2;rw[Ao] at this;exact this),⟨[],H3D,rfl⟩,by rw[Fc];exact e2,rfl⟩
   rintro n s5 ⟨i,σ5,H5,ρ5,st5,k5,ac,rs,rfl,I5,tn5,fr5,X25,nk5,S5,E5,⟨vs,hvs,Rvs⟩,e5,exs⟩;have nD:∀ {kk:List Addr},Dd ∉ kk->Dd ∉ (io++k1)++kk:=fun {kk} hk hm=>(List.mem_append.mp hm).elim hio hk;have nF:∀ {kk jj:List Addr} {Ha Hb:Hp} {vv:List V},Ext jj kk Ha Hb->Ha Dd=some (.lst vv)->Dd ∉ kk:=fun {kk jj Ha Hb vv} Xx hv hm=>by
     have q:=Xx.fresh Dd hm;rw[hv] at q;cases q
   cases hd:W.ds[i]? with
   | none =>
     have hl:W.ds.length<=i:=List.getElem?_eq_none_iff.mp hd;rw[DB hl] at e5;obtain⟨hw,e5⟩:=zar e5;cases e5;have:=T.done Y yP yW yK yC i [] s5 σ5 H5 FF I5 (start I5 fr5) tn5 (IO.stop' H5 k5 _ i hl X25 S5 (zce hw));rw[yA] at this;refine thn this ?_;rintro r s6 ⟨hr,I6⟩;subst hr;obtain⟨mm,hn,_⟩:=id I6.loc;rw[yL] at hn
     -- back in the frame
     have base:Un (frs X.stack) fp H3 H5 s3.heap s6.heap:=by
       have b:=I6.base;rw[<-hY] at b;exact b
     have os:s6.os=s3.os:=by
       have b:=I6.os;rw[<-hY] at b;exact b
     have free:H5 s3.heap.objs.size=none:=by
       have b:=I6.free;rw[yL] at b;exact b
     have hok:HOk X.prog X.w H5 s6.heap:=by
       have b:=I6.hok;rw[yP,yW] at b;exact b
     have I7:Inv X pins σ H5 s6:=Inv.call' (s':=s6) (ch:=fp) I3 os base hok I6.bare fun b hb=>⟨(fp3 b hb).2.2.2.1,(fp3 b hb).2.1,(fp3 b hb).2.2.2.2.1,(fp3 b hb).2.2.2.2.2⟩
     have np:Dd ∉ (io++k1)++k5:=nD nk5;rw[Ao] at exs;subst exs;have SA:=adopt S5 hvs np Rvs;have X6:Ext io (k1++k5) H H5:=X1.trans S1 X25;have lt3:X.env.locals < s3.heap.objs.size:=I3.lt;refine kf Dd s3.heap.objs.size H5 s6 ⟨I7,⟨mm,hn⟩,free,B6 lt3,I3.sz,fun x cc e z=>?_,fun p hp z=>?_,?_⟩
     . obtain⟨vv,q⟩:=I3.cell x cc e;have:=q.lt;rw[z] at this;exact AM _ this
     . have:=Aj (I3.pin p hp).1;rw[z] at this;exact AM _ this
     refine⟨(k1++k5)++[Dd],⟨fun b o hb nb=>X6.keep b o hb nb,fun b hb=>?_,X6.frz⟩,(by simpa using SA),⟨Dd,rfl,?_⟩⟩
     . rcases List.mem_append.mp hb with hb | hb
       . exact X6.fresh b hb
       . rw[List.mem_singleton.mp hb]
         cases q:H Dd with
         | none=>rfl
         | some o =>
           by_cases hb:Dd∈io
           . exact absurd (Bx _ hb) hio
           . have:=X1.keep Dd o q hb;rw[hD] at this;cases this
     . have:=getElem?_len ((io++k1)++k5) Dd;rw[<-S5.len];simpa using this
   | some dd =>
     have hl:i < W.ds.length:=(List.getElem?_eq_some_iff.mp hd).1;have hdr:W.ds.drop i=dd::W.ds.drop (i+1):=by
       rw[C4 hl,(List.getElem?_eq_some_iff.mp hd).2]
     rw[hdr] at e5;obtain⟨hw,e5⟩:=zar e5;obtain⟨⟨ρ6,t6⟩,e6,e5⟩:=zad e5;obtain⟨⟨b7,t7⟩,e7,e5⟩:=zad e5;obtain⟨go,yl⟩:=IO.go i dd H5 k5 st5 hd X25 S5 (zce hw);have hit:=T.item Y yP yW yK yC i [] s5 σ5 H5 FF I5 (start I5 fr5) tn5 go;rw[yA] at hit;refine thn hit ?_;rintro r s6 ⟨u,hr,h6⟩;subst hr;refine thn h6 ?_;rintro _ s7 ⟨x,H7,I7,r7,y7,tn7,fr7⟩;obtain⟨X7,S7,R7⟩:=yl x H7 y7;have X57:Ext (io++k1) k5 H1 H7:=(X25.trans S5 X7).app;have hv7:H7 Dd=some (.lst vs):=X7.keep _ _ hvs (nD nk5);have E7:EnvR X.K H7 ((io++k1)++k5) σ5 ρ5:=by
       have:=E5.ext S5 X7;rw[Ao] at this;exact this
     have R7v:Reps X.K H7 ((io++k1)++k5) vs ac:=by
       have:=Rvs.ext S5 X7;rw[Ao] at this;exact this
     have I7p:=I7.pinned (start I7 fr7) (T.obj _ _ tn7);rw[<-yA,<-yP,<-yW];rw[<-yx];refine thn (hg _ s7 σ5 H7 x u (fun σ8 H8=>∃ k8,Ext ((io++k1)++k5) k8 H7 H8/\StR X.K H8 (((io++k1)++k5)++k8) t6/\EnvR X.K H8 (((io++k1)++k5)++k8) σ8 ρ6) I7p r7 (by rw[yK];exact⟨dd,ρ5,st5,(io++k1)++k5,ρ6,t6,R7,E7,S7,e6,fun σ8 H8 k8 X8 S8 E8=>⟨k8,X8,S8,E8⟩⟩)) ?_;rintro _ s8 ⟨σ8,H8,I8,k8,X8,S8,E8⟩;have S8':StR X.K H8 ((io++k1)++(k5++k8)) t6:=by rw[<-Aq];exact S8
     have E8':EnvR X.K H8 ((io++k1)++(k5++k8)) σ8 ρ6:=by rw[<-Aq];exact E8
     have X38:Ext (io++k1) (k5++k8) H1 H8:=X57.trans S7 X8;have nk8:Dd ∉ k5++k8:=fun hm=>(List.mem_append.mp hm).elim nk5 (nF X8 hv7);refine thn (ht _ s8 σ8 H8 (fun b H9=>b=b7/\∃ k9,Ext ((io++k1)++(k5++k8)) k9 H8 H9/\StR X.K H9 (((io++k1)++(k5++k8))++k9) t7) I8 (by rw[yK];exact⟨ρ6,t6,(io++k1)++(k5++k8),b7,t7,E8',S8',e7,fun H9 k9 X9 S9=>⟨rfl,k9,X9,S9⟩⟩)) ?_;rintro ok s9 ⟨H9,I9,eb,k9,X9,S9⟩;subst eb;have X39:Ext (io++k1) ((k5++k8)++k9) H1 H9:=X38.trans S8' X9;have S9':StR X.K H9 ((io++k1)++((k5++k8)++k9)) t7:=by rw[<-Aq];exact S9
     have E9:EnvR X.K H9 ((io++k1)++((k5++k8)++k9)) σ8 ρ6:=by
       have:=E8'.ext S8' X9;rw[Aq] at this;exact this
     have hv8:H8 Dd=some (.lst vs):=X8.keep _ _ hv7 (nD nk5);have hv9:H9 Dd=some (.lst vs):=X9.keep _ _ hv8 (nD nk8);have nk9:Dd ∉ (k5++k8)++k9:=fun hm=>(List.mem_append.mp hm).elim nk8 (nF X9 hv8);have R8v:Reps X.K H8 ((io++k1)++(k5++k8)) vs ac:=by
       have:=R7v.ext S7 X8;rw[Aq] at this;exact this
     have R9v:Reps X.K H9 ((io++k1)++((k5++k8)++k9)) vs ac:=by
       have:=R8v.ext S8' X9;rw[Aq] at this;exact this
     have back:∀ {Hx:Hp} {sx:Shared} {σx:L2.St},Inv Y ([]++zgQ fp s7.heap) σx Hx sx->Inv Y [] σx Hx sx/\tn (i+1) sx.heap/\∀ b∈fp,Hx b=none:=fun {Hx sx σx} Ix=>by
       refine⟨Ix.unpinned,T.keep _ _ _ tn7 fun b hb o e=>(Ix.pin (b,o) (AO _ (AO _ (zcj hb e)))).1,fun b hb=>?_⟩;obtain⟨o,e,dn⟩:=T.obj _ _ tn7 b hb;exact (Ix.pin (b,o) (AO _ (AO _ (zcj hb e)))).2.1
     cases ok with
     | false =>
       rw[if_neg (by decide)];have e5:mCI W g c m (W.ds.drop (i+1)) ρ6 t7=some (rs,t2):=e5;obtain⟨Ib,tnb,frb⟩:=back I9;exact⟨W.ds.length - (i+1),by omega,i+1,σ8,H9,ρ6,t7,(k5++k8)++k9,ac,rs,rfl,Ib,tnb,frb,X39,nk9,S9',E9,⟨vs,hv9,R9v⟩,e5,exs⟩
     | true =>
       rw[if_pos rfl];have e5:((m ρ6 t7).bind fun (x,s3)=>(mCI W g c m (W.ds.drop (i+1)) ρ6 s3).map fun (xs,s4)=>(x::xs,s4))=some (rs,t2):=e5;obtain⟨⟨x10,t10⟩,e10,e5⟩:=zad e5;obtain⟨⟨rs',t11⟩,e11,e5⟩:=zag e5;cases e5;refine thn (he _ s9 σ8 H9 (fun v H10=>∃ k10,Ext ((io++k1)++((k5++k8)++k9)) k10 H9 H10/\StR X.K H10 (((io++k1)++((k5++k8)++k9))++k10) t10/\Rep X.K H10 (((io++k1)++((k5++k8)++k9))++k10) v x10) I9
         (by rw[yK];exact⟨ρ6,t7,(io++k1)++((k5++k8)++k9),x10,t10,E9,S9',e10,fun v H10 k10 X10 S10 R10=>⟨k10,X10,S10,R10⟩⟩)) fun u10 s10 ⟨v10,H10,I10,r10,k10,X10,S10,R10⟩=>?_
       have X310:Ext (io++k1) (((k5++k8)++k9)++k10) H1 H10:=X39.trans S9' X10;have nk10:Dd ∉ ((k5++k8)++k9)++k10:=fun hm=>(List.mem_append.mp hm).elim nk9 (nF X10 hv9);have S10':StR X.K H10 ((io++k1)++(((k5++k8)++k9)++k10)) t10:=by rw[<-Aq];exact S10
       have hv10:H10 Dd=some (.lst vs):=X10.keep _ _ hv9 (nD nk9);have E10:EnvR X.K H10 ((io++k1)++(((k5++k8)++k9)++k10)) σ8 ρ6:=by
         have:=E9.ext S9' X10;rw[Aq] at this;exact this
       have R10v:Reps X.K H10 ((io++k1)++(((k5++k8)++k9)++k10)) (vs++[v10]) (ac++[x10]):=by
         have a:=R9v.ext S9' X10;rw[Aq] at a;rw[Aq] at R10;exact a.append (Reps.cons R10 Reps.nil)
       have hlen:vs.length < sizeLine:=by
         rw[R9v.length];have:=of_decide_eq_true hfit;rw[exs] at this;simp at this;omega
       refine thn (zfq _ s10 σ8 H10 (.ref Dd) [v10] (.ref Dd) [u10] (fun _ H11=>H11=upd H10 Dd (.lst (vs++[v10]))) I10 rfl (.cons r10 .nil) ⟨Dd,vs,v10,rfl,rfl,hv10,hlen,rfl⟩) ?_;rintro _ s11 ⟨_,H11,I11,_,e11'⟩;subst e11';have nD10:=nD nk10
       -- the new list is written: nothing of the store
       have XU:∀ b o,H10 b=some o->b≠Dd->upd H10 Dd (.lst (vs++[v10])) b=some o:=fun b o hb hn=>by rw[zaJ hn];exact hb
       have TU:Kp H10 (upd H10 Dd (.lst (vs++[v10]))):=⟨fun a ys hb=>XU a _ hb (znl hb hv10 (by simp)),fun a o u hb=>XU a _ hb (znl hb hv10 (by simp))⟩
       have S11:StR X.K (upd H10 Dd (.lst (vs++[v10]))) ((io++k1)++(((k5++k8)++k9)++k10)) t10:=by
         refine⟨S10'.len,S10'.nd,fun n a ob h1 h2=>?_⟩;have hne:a≠Dd:=fun z=>nD10 (by rw[<-z];exact BR h1);have:=OR.mono (ka:=[]) TU (zaJ hne) (S10'.ob n a ob h1 h2);rw[Ao] at this;exact this
       have mono0:∀ {v:V} {d:D},Rep X.K H10 ((io++k1)++(((k5++k8)++k9)++k10)) v d->Rep X.K (upd H10 Dd (.lst (vs++[v10]))) ((io++k1)++(((k5++k8)++k9)++k10)) v d:=fun {v d} h=>by
         have:=Rep.mono (ka:=[]) TU h;rw[Ao] at this;exact this
       have mono1:∀ {v:List V} {d:List D},Reps X.K H10 ((io++k1)++(((k5++k8)++k9)++k10)) v d->Reps X.K (upd H10 Dd (.lst (vs++[v10]))) ((io++k1)++(((k5++k8)++k9)++k10)) v d:=fun {v d} h=>by
         have:=Reps.mono (ka:=[]) TU h;rw[Ao] at this;exact this
       obtain⟨Ib,tnb,frb⟩:=back I11;refine⟨W.ds.length - (i+1),by omega,i+1,σ8,upd H10 Dd (.lst (vs++[v10])),ρ6,t10,((k5++k8)++k9)++k10,ac++[x10],rs',rfl,Ib,tnb,frb,⟨fun b o hb nb=>XU b o (X310.keep b o hb nb) (fun z=>by rw[z,hD] at hb;cases hb),X310.fresh,fun b o u hb=>XU b _ (X310.frz b o u hb) (fun z=>by rw[z,hD] at hb;cases hb)⟩,nk10,S11,⟨E10.len,fun j dj hj=>?_⟩,⟨_,zbt,mono1 R10v⟩,e11,by rw[exs,Aq];rfl⟩;obtain⟨v,q,r⟩:=E10.at_ j dj hj;exact⟨v,q,mono0 r⟩
 have l4:=loop s4 I4 tn4;exact codeAny_compStart_list l4 (T.self _ 0 _ _ _ tn4 l4)
theorem zbF(hx:X.xe=FF)(hc:X.calm=true)(Z:CompS X scope N' nt fr)(hi:SI X tg iter mi)
   (hg:∀ C s0 H0 fp,SG (zcl X scope N' (zcm X scope C) C s0 H0 fp) tg g) (ht:∀ C s0 H0 fp,SC (zcl X scope N' (zcm X scope C) C s0 H0 fp) ifs c) (he:∀ C s0 H0 fp,SE (zcl X scope N' (zcm X scope C) C s0 H0 fp) elt m)
   (hs:∀ x,foldedSetIterable iter X.env x=pure x:=by intro _;rfl):SE X (.ListComp elt [⟨tg,iter,ifs,0⟩] scope pos) (zbv mi nt fr g c m):=by
 rintro pins s σ H Q I ⟨ρ,st,io,d,st',E,S,e,k⟩;rw[eval_ListComp];refine zhz (use:=none) hx hc Z hi hg ht he hs I E S e fun Dd C H5 s6 R=>?_;obtain⟨m5,hn⟩:=R.ns;refine⟨m5,hn,fun h' hsb=>?_⟩;obtain⟨ka,X5,S5,R5⟩:=R.val;exact⟨.ref Dd,H5,R.inv.turned (t':=s6.toks) (it:=C) (fun b o hb q=>(hsb.2 b hb).trans q) R.free R.ne (.inr R.young) R.cells R.pin,rfl,k _ _ ka X5 S5 R5⟩
theorem zfJ{i:Nat}{x:Str}{pos' spos:Pos}(hx:X.xe=FF)(hc:X.calm=true)(Z:CompS X scope N' nt fr)(hi:SI X tg iter mi)
   (hg:∀ C s0 H0 fp,SG (zcl X scope N' (zcm X scope C) C s0 H0 fp) tg g) (ht:∀ C s0 H0 fp,SC (zcl X scope N' (zcm X scope C) C s0 H0 fp) ifs c) (he:∀ C s0 H0 fp,SE (zcl X scope N' (zcm X scope C) C s0 H0 fp) elt m)
   (hN:X.N.Nodup) (hi':X.N[i]?=some x) (hl:X.env.scope.names.lookup x=some .local)
   (hsw:swapsWith (.ListComp elt [⟨tg,iter,ifs,0⟩] scope pos) (some (.Name x pos')) spos.line X.env=pure true:=by rfl)
   (hs:∀ x,foldedSetIterable iter X.env x=pure x:=by intro _;rfl):SS X (.Assign [.Name x pos'] (.ListComp elt [⟨tg,iter,ifs,0⟩] scope pos) spos) (mAsg (zbv mi nt fr g c m) (gNm i)):=by
 intro pins s σ H N I h;obtain⟨ρ,st,io,f,st',E,S,e,w⟩:=zcN.mp h;obtain⟨⟨d,s1⟩,e1,e⟩:=zad e;obtain⟨⟨ρ',s2⟩,e2,e⟩:=zag e;cases e;cases e2;rw[exec_Assign_Name_used _ _ _ _ hsw];refine Aa (DV (Aa ?_));show wpAny _ X.A (do let _ <-comprehension (.ListComp elt [⟨tg,iter,ifs,0⟩] scope pos) scope X.env _ (newList []) false (eval iter X.env) (some (assign (.Name x pos') X.env))) _ _ s;refine Aa (thn (zhz (use:=some (assign (.Name x pos') X.env)) (Qf:=fun _ s'=>SP X pins N .next s') hx hc Z hi hg ht he hs I E S e1 fun Dd C H5 s6 R=>?_) fun _ s' hq=>Ad (Ad hq));obtain⟨m5,hn⟩:=R.ns;obtain⟨ka,X5,S5,R5⟩:=R.val;show wpAny _ _ (assign (.Name x pos') X.env (.ref Dd)) _ _ _;refine Eo (zff (v:=.ref Dd) R.inv hN hi' (.inl hl) rfl (?_) (.inr hl));rintro s7 I7 ⟨a,sb,ha⟩;have hCa:C≠a:=fun z=>by
   rcases ha with q | q
   . exact R.ne (z.trans q)
   . exact R.cells _ _ q z.symm
 refine⟨m5,hn.sameBut sb hCa,fun h' hsb=>?_⟩;refine⟨_,H5,I7.turned (t':=s7.toks) (it:=C) (fun b o hb q=>(hsb.2 b hb).trans q) R.free R.ne (.inr R.young) R.cells R.pin,?_⟩;exact w _ _ ka X5 S5 ((E.ext S X5).set i R5)
end
section
variable {X:Cx} {e a b c:Expr} {es:List Expr} {pos:Pos} {m ma mb mc:ME} {mm:MA}
variable {K:Ab} {H:Hp} {io ka:List Addr} {st st':Sto}
noncomputable def addD:G2
 | .int i,.int j,st=>some (.int (i+j),st)
 | .str a,.str b,st=>if fits (a.length+b.length)=true then some (.str (a++b),st) else none
 | .tup a,.tup b,st=>if (!a.isEmpty&&fits (a.length+b.length))=true then some (.tup (a++b),st) else none
 | .ref a,.ref b,st=>match st[a]?,st[b]? with
   | some (.lst x),some (.lst y)=>if fits (x.length+y.length)=true then some (.ref st.length,st++[.lst (x++y)]) else none
   | _,_=>none
 | _,_,_=>none
theorem zaY:OpM X (binaryOp .Add) addD:=by
 rintro pins s σ H x y v u Q I rx ry ⟨dx,dy,st,io,d,st',Rx,Ry,S,e,k⟩
 cases dx with
 | int i =>
   cases dy with
   | int j=>cases e;exact znh pins s σ H x y v u Q I rx ry ⟨i,j,Rx,Ry,k.now S rfl⟩
   | _=>cases e
 | str i =>
   cases dy with
   | str j =>
     obtain⟨hf,e⟩:=zar e
     cases e;exact zgX pins s σ H x y v u Q I rx ry ⟨i,j,Rx,Ry,of_decide_eq_true hf,k.now S rfl⟩
   | _=>cases e
 | tup i =>
   cases dy with
   | tup j =>
     obtain⟨hf,e⟩:=zar e;cases e;rw[Ar] at hf;obtain⟨p,xs,ex,hp,r1⟩:=Rx;obtain⟨q,ys,ey,hq,r2⟩:=Ry;refine zlD pins s σ H x y v u Q I rx ry ⟨p,q,xs,ys,ex,ey,SqT.of hp,SqT.of hq,fun z=>?_,by rw[r1.length,r2.length];exact of_decide_eq_true hf.2,fun z=>?_,fun z p hp=>k.tup S (r1.append r2) hp⟩
     . have:=r1.length;rw[z] at this;have:i=[]:=BG this.symm;rw[this] at hf;exact absurd hf.1 (by decide)
     . have:=r2.length;rw[z] at this;have:j=[]:=BG this.symm;subst this;rw[Ao] at k;exact k.now S ⟨p,xs,rfl,hp,r1⟩
   | _=>cases e
 | ref i =>
   cases dy with
   | ref j =>
     unfold addD at e;dsimp only at e
     split at e
     . rename_i l1 l2 e1 e2;obtain⟨hf,e⟩:=zar e;cases e;obtain⟨p,ex,hp⟩:=Rx;obtain⟨q,ey,hq⟩:=Ry;obtain⟨xs,h1,r1⟩:=S.ob i p _ hp e1;obtain⟨ys,h2,r2⟩:=S.ob j q _ hq e2;exact zng pins s σ H x y v u Q I rx ry ⟨p,q,xs,ys,ex,ey,h1,h2,by rw[r1.length,r2.length];exact of_decide_eq_true hf,fun p hp=>k.lst S (r1.append r2) hp⟩
     . cases e
   | _=>cases e
 | _=>cases e
noncomputable def intD(c:Int->Int->Bool)(g:Int->Int->D):G2
 | .int i,.int j,st=>if c i j=true then some (g i j,st) else none
 | _,_,_=>none
theorem zeh{f:Value->Value->Sem Value}{C:Int->Int->Prop}{c:Int->Int->Bool}{g:Int->Int->Int}(h:OpR X f (rI C fun i j=>.int (g i j)))(hc:∀ i j,c i j=true->C i j):OpM X f (intD c fun i j=>.int (g i j)):=by
 rintro pins s σ H x y v u Q I rx ry ⟨dx,dy,st,io,d,st',Rx,Ry,S,e,k⟩
 cases dx with
 | int i =>
   cases dy with
   | int j =>
     obtain⟨hf,e⟩:=zar e
     cases e;exact h pins s σ H x y v u Q I rx ry ⟨i,j,Rx,Ry,hc i j hf,k.now S rfl⟩
   | _=>cases e
 | _=>cases e
noncomputable def tt2:Int->Int->Bool:=fun _ _=>true
noncomputable def subD:G2:=intD tt2 fun i j=>.int (i - j)
theorem zfm:OpM X (binaryOp .Sub) subD:=zeh (C:=fun _ _=>True) (fun pins s σ H x y v u Q I rx ry ⟨i,j,h1,h2,_,q⟩=>zm9 pins s σ H x y v u Q I rx ry ⟨i,j,h1,h2,q⟩) fun _ _ _=>trivial
noncomputable def in64(i:Int):Bool:=decide (-(2 ^ 64) < i)&&decide (i < 2 ^ 64)
noncomputable def mulD:G2:=intD (fun i j=>in64 i || in64 j) fun i j=>.int (i*j)
theorem zly:OpM X (binaryOp .Mult) mulD:=zeh zna fun i j h=>by
 rw[Dr] at h;unfold in64 at h;rw[Ar,Ar] at h
 rcases h with h | h
 . exact .inl ⟨of_decide_eq_true h.1,of_decide_eq_true h.2⟩
 . exact .inr ⟨of_decide_eq_true h.1,of_decide_eq_true h.2⟩
noncomputable def modD:G2:=intD (fun _ j=>decide (0 < j)) fun i j=>.int (i % j)
theorem zcK:OpM X (binaryOp .Mod) modD:=zeh znb fun i j h=>of_decide_eq_true h
noncomputable def cmpD(g:Int->Int->Bool):G2
 | .int i,.int j,st=>some (.bl (g i j),st)
 | _,_,_=>none
theorem zfn{f:Value->Value->Sem Value}{g:Int->Int->Bool}(h:OpR X f (rI0 fun i j=>.bl (g i j))):OpM X f (cmpD g):=by
 rintro pins s σ H x y v u Q I rx ry ⟨dx,dy,st,io,d,st',Rx,Ry,S,e,k⟩
 cases dx with
 | int i =>
   cases dy with
   | int j=>cases e;exact h pins s σ H x y v u Q I rx ry ⟨i,j,Rx,Ry,k.now S rfl⟩
   | _=>cases e
 | _=>cases e
noncomputable def ltD:G2:=cmpD fun i j=>decide (i < j)
noncomputable def leD:G2:=cmpD fun i j=>decide (i<=j)
noncomputable def gtD:G2:=cmpD fun i j=>decide (j < i)
noncomputable def geD:G2:=cmpD fun i j=>decide (j<=i)
theorem zj1:OpM X (compareOp .Lt) ltD:=zfn zot
theorem zgW:OpM X (compareOp .LtE) leD:=zfn zou
theorem zlC:OpM X (compareOp .Gt) gtD:=zfn zov
theorem znf:OpM X (compareOp .GtE) geD:=zfn zow
noncomputable def znU:D->Bool
 | .non=>true
 | _=>false
noncomputable def znR:G2:=fun x y st=>match y with
 | .non=>some (.bl !znU x,st)
 | _=>none
theorem zld{v:V}{d:D}(h:Rep K H io v d):decide (v=.non)=znU d:=by
 cases d with
 | non=>cases (show v=.non from h);rfl
 | bl b=>cases (show v=.bl b from h);rfl
 | int b=>cases (show v=.int b from h);rfl
 | str b=>cases (show v=.str b from h);rfl
 | tup b=>obtain⟨a,xs,rfl,_⟩:=h;rfl
 | ref b=>obtain⟨a,rfl,_⟩:=h;rfl
 | kl b=>obtain⟨a,xs,rfl,_⟩:=h;rfl
theorem zjY:OpM X (compareOp .IsNot) znR:=by
 rintro pins s σ H x y v u Q I rx ry ⟨dx,dy,st,io,d,st',Rx,Ry,S,e,k⟩
 cases dy with
 | non =>
   cases e;refine zlx pins s σ H x y v u Q I rx ry ⟨Ry,?_⟩;rw[zld Rx];exact k.now S rfl
 | _=>cases e
noncomputable def negD:D->Sto->Option (D×Sto)
 | .int i,st=>some (.int (-i),st)
 | _,_=>none
noncomputable def mNeg(m:ME):ME:=fun ρ st=>(m ρ st).bind fun (x,s)=>negD x s
theorem zjI(ha:SE X a ma):SE X (.UnaryOp .USub a pos) (mNeg ma):=PE.imp (zon zmv ha) <| by
 rintro σ H Q ⟨ρ,st,io,d,st',E,S,e,k⟩;obtain⟨⟨x,s1⟩,e1,e⟩:=zad e
 cases x with
 | int i =>
   cases e;exact⟨ρ,st,io,.int i,_,E,S,e1,fun v H1 k1 X1 S1 R1=>⟨i,R1,k _ H1 k1 X1 S1 rfl⟩⟩
 | _=>cases e
noncomputable def idxD:G2
 | .tup ds,.int i,st=>(atI ds i).map fun d=>(d,st)
 | .ref n,.int i,st=>(zbf st n).bind fun ds=>(atI ds i).map fun d=>(d,st)
 | .kl ds,.int i,st=>(atI ds i).map fun d=>(d,st)
 | .str z,.int i,st=>if fits z.length=true then (atI z.cps.toList i).map fun c=>(.str ⟨#[c]⟩,st) else none
 | _,_,_=>none
theorem zhF{xs:List V}{ds:List D}{i:Int}{d:D}(r:Reps K H io xs ds)(h:atI ds i=some d):∃ v,atI xs i=some v/\Rep K H io v d:=by
 unfold atI at h ⊢;rw[r.length];obtain⟨j,hj,h⟩:=zad h;obtain⟨v,hv,rv⟩:=r.get h;exact⟨v,by rw[hj];exact hv,rv⟩
theorem ix_M:IxR X (r2M X.K idxD):=by
 rintro value slice pins s σ H x y v u Q I rx ry ⟨dx,dy,st,io,d,st',Rx,Ry,S,e,k⟩ hs
 cases dy with
 | int i =>
   cases dx with
   | tup ds =>
     obtain⟨d',e1,e⟩:=zag e;cases e;obtain⟨p,xs,ex,hp,r⟩:=Rx;obtain⟨w,hw,rw'⟩:=zhF r e1;exact za2 value slice pins s σ H x y v u Q I rx ry ⟨p,xs,i,w,ex,Ry,SqT.of hp,hw,k.now S rw'⟩ hs
   | ref n =>
     obtain⟨ds,e0,e⟩:=zad e;obtain⟨d',e1,e⟩:=zag e;cases e;obtain⟨p,ex,hp⟩:=Rx;obtain⟨xs,hx,r⟩:=zaX S hp e0;obtain⟨w,hw,rw'⟩:=zhF r e1;exact zje value slice pins s σ H x y v u Q I rx ry ⟨p,xs,i,w,ex,Ry,hx,hw,k.now S rw'⟩ hs
   | kl ds =>
     obtain⟨d',e1,e⟩:=zag e;cases e;obtain⟨p,xs,ex,hx,r⟩:=Rx;obtain⟨w,hw,rw'⟩:=zhF r e1;exact zje value slice pins s σ H x y v u Q I rx ry ⟨p,xs,i,w,ex,Ry,hx.sq,hw,k.now S rw'⟩ hs
   | str z =>
     obtain⟨hf,e⟩:=zar e;obtain⟨d',e1,e⟩:=zag e;cases e;exact zir value slice pins s σ H x y v u Q I rx ry ⟨z,i,d',Rx,Ry,of_decide_eq_true hf,e1,k.now S rfl⟩ hs
   | _=>cases e
 | _=>cases dx <;> cases e
theorem zod(ha:SE X a ma)(hb:SE X b mb)(hs:zhJ b:=by intro _ _;rfl):SE X (.Subscript a b pos) (mBin idxD ma mb):=PE.imp (zoq ix_M ha hb hs) fun _ _ _ h=>zcV h
noncomputable def lenD:GN
 | [.tup ds],st=>some (.int ds.length,st)
 | [.ref n],st=>(zbf st n).map fun ds=>(.int ds.length,st)
 | [.kl ds],st=>some (.int ds.length,st)
 | [.str z],st=>if fits z.length=true then some (.int z.length,st) else none
 | _,_=>none
theorem za4:zdo X (.builtin "len") lenD:=by
 rintro pins s σ H xs us Q I r ⟨ds,st,io,d,st',R,S,e,k⟩
 cases ds with
 | nil=>cases e
 | cons d0 r0 =>
 cases r0 with
 | cons d1 r1=>cases d0 <;> cases e
 | nil =>
 cases d0 with
 | tup ts =>
   cases e;obtain⟨v,rfl,p,ys,rfl,hp,r1⟩:=R.one;refine zb5 pins s σ H _ us Q I r ⟨p,ys,rfl,.inr (SqT.of hp),?_⟩;rw[r1.length];exact k.now S rfl
 | ref n =>
   obtain⟨ts,e0,e⟩:=zag e;cases e;obtain⟨v,rfl,p,rfl,hp⟩:=R.one;obtain⟨ys,hx,r1⟩:=zaX S hp e0;refine zb5 pins s σ H _ us Q I r ⟨p,ys,rfl,.inl hx,?_⟩;rw[r1.length];exact k.now S rfl
 | kl ts =>
   cases e;obtain⟨v,rfl,p,ys,rfl,hx,r1⟩:=R.one;refine zb5 pins s σ H _ us Q I r ⟨p,ys,rfl,.inl hx.sq,?_⟩;rw[r1.length];exact k.now S rfl
 | str z =>
   obtain⟨hf,e⟩:=zar e;cases e;obtain⟨v,rfl,rfl⟩:=R.one;exact ze8 pins s σ H _ us Q I r ⟨z,rfl,of_decide_eq_true hf,k.now S rfl⟩
 | _=>cases e
noncomputable def intC:GN
 | [.int i],st=>some (.int i,st)
 | [.bl b],st=>some (.int (if b then 1 else 0),st)
 | _,_=>none
theorem zfv:zdo X (.type "int") intC:=by
 rintro pins s σ H xs us Q I r ⟨ds,st,io,d,st',R,S,e,k⟩
 cases ds with
 | nil=>cases e
 | cons d0 r0 =>
 cases r0 with
 | cons d1 r1=>cases d0 <;> cases e
 | nil =>
 cases d0 with
 | int i =>
   cases e;obtain⟨v,rfl,rfl⟩:=R.one;exact zfw pins s σ H _ us Q I r (.inl ⟨i,rfl,k.now S rfl⟩)
 | bl b =>
   cases e;obtain⟨v,rfl,rfl⟩:=R.one;exact zfw pins s σ H _ us Q I r (.inr ⟨b,rfl,k.now S rfl⟩)
 | _=>cases e
noncomputable def absC:GN
 | [.int i],st=>some (.int (if i < 0 then -i else i),st)
 | _,_=>none
theorem ziQ:zdo X (.builtin "abs") absC:=by
 rintro pins s σ H xs us Q I r ⟨ds,st,io,d,st',R,S,e,k⟩
 cases ds with
 | nil=>cases e
 | cons d0 r0 =>
 cases r0 with
 | cons d1 r1=>cases d0 <;> cases e
 | nil =>
 cases d0 with
 | int i =>
   cases e;obtain⟨v,rfl,rfl⟩:=R.one;exact zky pins s σ H _ us Q I r ⟨i,rfl,k.now S rfl⟩
 | _=>cases e
noncomputable def zlP:GN
 | [.int i,.int j],st=>some (.int (if j > i then j else i),st)
 | _,_=>none
noncomputable def zlO:GN
 | [.int i,.int j],st=>some (.int (if j < i then j else i),st)
 | _,_=>none
theorem ziO(hc:X.calm=true):zdo X (.builtin "max") zlP:=by
 rintro pins s σ H xs us Q I r ⟨ds,st,io,d,st',R,S,e,k⟩;unfold zlP at e
 split at e
 . rename_i i j;cases e;obtain⟨v,u,rfl,rfl,rfl⟩:=R.two;exact ziP hc pins s σ H _ us Q I r ⟨i,j,rfl,k.now S rfl⟩
 . cases e
theorem ziM(hc:X.calm=true):zdo X (.builtin "min") zlO:=by
 rintro pins s σ H xs us Q I r ⟨ds,st,io,d,st',R,S,e,k⟩;unfold zlO at e
 split at e
 . rename_i i j;cases e;obtain⟨v,u,rfl,rfl,rfl⟩:=R.two;exact ziN hc pins s σ H _ us Q I r ⟨i,j,rfl,k.now S rfl⟩
 . cases e
noncomputable def za8:GN
 | [.tup ds],st=>some (.tup ds,st)
 | [.ref n],st=>(zbf st n).map fun ds=>(.tup ds,st)
 | _,_=>none
theorem za1:zdo X (.type "tuple") za8:=by
 rintro pins s σ H xs us Q I r ⟨ds,st,io,d,st',R,S,e,k⟩
 cases ds with
 | nil=>cases e
 | cons d0 r0 =>
 cases r0 with
 | cons d1 r1=>cases d0 <;> cases e
 | nil =>
 cases d0 with
 | tup ts =>
   cases e;obtain⟨v,rfl,p,ys,rfl,hp,r1⟩:=R.one;exact zcL pins s σ H _ us Q I r ⟨p,ys,rfl,.inr ⟨SqT.of hp,k.now S ⟨p,ys,rfl,hp,r1⟩⟩⟩
 | ref n =>
   obtain⟨ts,e0,e⟩:=zag e;cases e;obtain⟨v,rfl,p,rfl,hp⟩:=R.one;obtain⟨ys,hx,r1⟩:=zaX S hp e0;exact zcL pins s σ H _ us Q I r ⟨p,ys,rfl,.inl ⟨hx,fun l hl=>k.tup S r1 hl⟩⟩
 | _=>cases e
end
noncomputable def toPs(f:D->Option PyData):List D->Option (List PyData)
 | []=>some []
 | d::ds=>(f d).bind fun p=>(toPs f ds).map fun ps=>p::ps
noncomputable def toP:Nat->Sto->D->Option PyData
 | 0,_,_=>none
 | n+1,st,d=>match d with
   | .non=>some .none
   | .bl b=>some (.bool b)
   | .int i=>some (.int i)
   | .str x=>if Bg x=true then some (.str x) else none
   | .tup ds=>(toPs (toP n st) ds).map .tuple
   | .ref k=>(zbf st k).bind fun ds=>(toPs (toP n st) ds).map .list
   | .kl _=>none
theorem zcE{n:Nat}:∀ {ps:List PyData},(∀ p∈ps,p.depth<=n)->Ds ps<=n
 | [],_=>by rw[Ds];exact A7 _
 | p::ps,h=>by
   rw[Ds];exact Nat.max_le.mpr ⟨h p An,zcE fun q hq=>h q (Ak _ hq)⟩
theorem zdf{ps:List PyData}:(∀ p∈ps,p.canLay0=true)->BH ps=true:=by
 induction ps with
 | nil=>intro _;simp only[BH]
 | cons p ps ih =>
   intro h;simp only[BH];rw[h p An,ih fun q hq=>h q (Ak _ hq)];rfl
theorem zeM{f:D->Option PyData}:∀ {ds:List D} {ps:List PyData},toPs f ds=some ps->∀ p∈ps,∃ d,f d=some p
 | [],ps,h,p,hp=>by cases h;exact absurd hp (by simp)
 | d::ds,ps,h,p,hp=>by
   obtain⟨q,e1,h⟩:=zad h;obtain⟨qs,e2,h⟩:=zag h;subst h
   rcases List.mem_cons.mp hp with rfl | hp
   . exact⟨d,e1⟩
   . exact zeM e2 p hp
theorem zd9:∀ {n:Nat} {st:Sto} {d:D} {p:PyData},toP n st d=some p->p.canLay0=true/\p.depth<=n
 | 0,_,_,_,h=>by cases h
 | n+1,st,d,p,h=>by
   cases d with
   | non=>cases h;exact⟨by simp only[Bn],by simp only[B9];exact A7 _⟩
   | bl b=>cases h;exact⟨by simp only[Bn],by simp only[B9];exact A7 _⟩
   | int b=>cases h;exact⟨by simp only[Bn],by simp only[B9];exact A7 _⟩
   | str b =>
     obtain⟨hs,h⟩:=zar h
     cases h;exact⟨by simp only[Bn];exact hs,by simp only[B9];exact A7 _⟩
   | tup ds =>
     obtain⟨ps,e,h⟩:=zag h;subst h;have q:∀ p∈ps,p.canLay0=true/\p.depth<=n:=fun p hp=>let ⟨d,hd⟩:=zeM e p hp;zd9 hd
     exact⟨by simp only[Bn];exact zdf fun p hp=>(q p hp).1,by simp only[B9];exact Cp (zcE fun p hp=>(q p hp).2)⟩
   | kl ds=>cases h
   | ref k =>
     obtain⟨ds,e0,h⟩:=zad h;obtain⟨ps,e,h⟩:=zag h;subst h;have q:∀ p∈ps,p.canLay0=true/\p.depth<=n:=fun p hp=>let ⟨d,hd⟩:=zeM e p hp;zd9 hd
     exact⟨by simp only[Bn];exact zdf fun p hp=>(q p hp).1,by simp only[B9];exact Cp (zcE fun p hp=>(q p hp).2)⟩
section
variable {X:Cx} {a b:Expr} {pos:Pos} {ma mb:ME} {pins:List (Addr×Obj)} {σ:L2.St} {H:Hp} {s:Shared} {io:List Addr} {st:Sto}
theorem zcz{f:D->Option PyData}(hf:∀ {v:V} {u:Value} {d:D} {p:PyData},Rep X.K H io v d->RelV v u->f d=some p->∃ as,Reads s.heap u p as) :
   ∀ {xs:List V} {us:List Value} {ds:List D} {ps:List PyData},Reps X.K H io xs ds->Vals xs us->toPs f ds=some ps->∃ as,ReadsAll s.heap us ps as
 | _,_,[],ps,h,r,e=>by
   cases (show _=[] from h)
   cases r;cases e;exact⟨_,.nil⟩
 | _,_,d::ds,ps,h,r,e=>by
   obtain⟨y,ys,rfl,h1,h2⟩:=h
   cases r with
   | cons r1 r2 =>
     obtain⟨q,e1,e⟩:=zad e;obtain⟨qs,e2,e⟩:=zag e;subst e;obtain⟨as,ra⟩:=hf h1 r1 e1;obtain⟨bs,rb⟩:=zcz hf h2 r2 e2;exact⟨_,.cons ra rb⟩
theorem zbI(I:Inv X pins σ H s)(S:StR X.K H io st):∀ {n:Nat} {v:V} {u:Value} {d:D} {p:PyData},Rep X.K H io v d->RelV v u->toP n st d=some p->∃ as,Reads s.heap u p as
 | 0,_,_,_,_,_,_,h=>by cases h
 | n+1,v,u,d,p,h,r,e=>by
   cases d with
   | non=>cases e;cases (show v=.non from h);cases r;exact⟨_,.none⟩
   | bl b=>cases e;cases (show v=.bl b from h);cases r;exact⟨_,.bool _⟩
   | int b=>cases e;cases (show v=.int b from h);obtain⟨t,rfl⟩:=r;exact⟨_,.int _ _⟩
   | str b =>
     obtain⟨hs,e⟩:=zar e
     cases e;cases (show v=.str b from h);obtain⟨t,rfl⟩:=r;exact⟨_,.str _ _⟩
   | tup ds =>
     obtain⟨ps,e',q⟩:=zag e;subst q;obtain⟨a,xs,rfl,ha,rs⟩:=h;cases r;obtain⟨its,rv,⟨o,ho,hc,k,hd⟩,hz⟩:=I.tuple (SqT.of ha);obtain⟨as,ra⟩:=zcz (f:=toP n st) (fun h r e=>zbI I S h r e) rs rv e';exact⟨_,.tuple ho hc hd (by simpa using ra)⟩
   | kl ds=>cases e
   | ref k =>
     obtain⟨ds,e0,e⟩:=zad e;obtain⟨ps,e',q⟩:=zag e;subst q;obtain⟨a,rfl,ha⟩:=h;cases r;obtain⟨xs,hx,rs⟩:=zaX S ha e0;obtain⟨its,rv,⟨o,k,ho,hc,_,hd⟩,hz⟩:=I.list hx;obtain⟨as,ra⟩:=zcz (f:=toP n st) (fun h r e=>zbI I S h r e) rs rv e';exact⟨_,.list ho hc hd (by simpa using ra)⟩
noncomputable def eqD:G2:=fun x y st=>(toP 100 st x).bind fun p=>(toP 100 st y).map fun q=>(.bl (C5 p q),st)
noncomputable def neD:G2:=fun x y st=>(toP 100 st x).bind fun p=>(toP 100 st y).map fun q=>(.bl !PyData.eqv p q,st)
theorem zj2(hu:X.A.units+100 < cLine):OpM X (compareOp .Eq) eqD:=by
 rintro pins s σ H x y v u Q I rx ry ⟨dx,dy,st,io,d,st',Rx,Ry,S,e,k⟩;obtain⟨p,e1,e⟩:=zad e;obtain⟨q,e2,e⟩:=zag e;cases e;obtain⟨as,ra⟩:=zbI I S Rx rx e1;obtain⟨bs,rb⟩:=zbI I S Ry ry e2;have h1:=zd9 e1;have h2:=zd9 e2;exact PySem.SeqAt.compareEq_reads ra rb h1.1 h2.1 (B8 (CI (AB (EN _ _) h1.2) _) hu) ⟨.bl _,H,I,rfl,k.now S rfl⟩
theorem zfX(hu:X.A.units+100 < cLine):OpM X (compareOp .NotEq) neD:=by
 rintro pins s σ H x y v u Q I rx ry ⟨dx,dy,st,io,d,st',Rx,Ry,S,e,k⟩;obtain⟨p,e1,e⟩:=zad e;obtain⟨q,e2,e⟩:=zag e;cases e;obtain⟨as,ra⟩:=zbI I S Rx rx e1;obtain⟨bs,rb⟩:=zbI I S Ry ry e2;have h1:=zd9 e1;have h2:=zd9 e2;exact PySem.SeqAt.compareNe_reads ra rb h1.1 h2.1 (B8 (CI (AB (EN _ _) h1.2) _) hu) ⟨.bl _,H,I,rfl,k.now S rfl⟩
theorem zby{k:Nat}{A:Around}(hr:Room k A):A.units+100 < cLine:=by have:=hr.un;omega
end
section
variable {X:Cx} {pins:List (Addr×Obj)} {σ:L2.St} {H:Hp} {s:Shared} {h':Heap}
theorem Inv.turnNew{t':Nat}{fp:List Addr}{p:Addr}{o:HO}(I:Inv X pins σ H s)(hf:∀ b∈fp,FpOk X pins H b)(k:∀ b ob,b ∉ fp->s.heap.get? b=some ob->h'.get? b=some ob)(hp:s.heap.objs.size<=p)
   (hfp:∀ b∈fp,∀ ob,s.heap.get? b=some ob->∃ ob',h'.get? b=some ob') (new:zdn X.prog X.w (upd H p o) h' p o):Inv X pins σ (upd H p o) { s with heap:=h',toks:=t' }:=by
 have hpn:=I.hok.fresh hp;have nlt:∀ b ob,s.heap.get? b=some ob->b≠p:=fun b ob e=>Aw (As (Aj e) hp);refine Inv.step (ch:=fp) (g':=s.gens) (d':=s.drawn) I (fun b hb=>⟨(hf b hb).2.2.2.1,(hf b hb).2.1,(hf b hb).2.2.2.2.1,(hf b hb).2.2.2.2.2⟩) (fun b ob _ _ hc e _=>k b ob hc e) (fun b ob _ _ hc e _=>⟨ob.slots,k b ob hc e⟩)
   (fun b ob hc e n=>by rw[zaJ (nlt b ob e)];exact n) (fun b ob hc e=>⟨ob,k b ob hc e⟩) (fun b xs e=>by rw[zaJ (zan e hpn)];exact e) (fun b ob u e=>by rw[zaJ (zan e hpn)];exact e)
   (fun b ps e=>⟨#[],by rw[zaJ (zan e hpn),e];simp⟩) (fun m hm=>?_) (fun b u e=>?_) I.bare
 . obtain⟨ob,es,ep,ho,r⟩:=hm;exact⟨ob,es,ep,k _ ob (fun z=>(hf _ z).2.1 rfl) ho,r⟩
 . by_cases hb:b=p
   . subst hb;rw[zbt] at e;cases e;exact new
   . rw[zaJ hb] at e;refine (I.hok b u e).stay (fun c v hc q=>k c v (fun z=>?_) q) (fun c q=>by rw[zaJ (zan q hpn)];exact q) fun c xs q=>by rw[zaJ (zan q hpn)];exact q
     have hz:=(hf c z).1
     rcases hc with rfl | hc
     . rw[hz] at e;cases e
     . rw[hz] at hc;cases hc
theorem Inv.turnAll{t':Nat}{fp:List Addr}(I:Inv X pins σ H s)(hf:∀ b∈fp,FpOk X pins H b)(k:∀ b ob,b ∉ fp->s.heap.get? b=some ob->h'.get? b=some ob):Inv X pins σ H { s with heap:=h',toks:=t' }:=by
 refine Inv.step (ch:=fp) (g':=s.gens) (d':=s.drawn) I (fun b hb=>⟨(hf b hb).2.2.2.1,(hf b hb).2.1,(hf b hb).2.2.2.2.1,(hf b hb).2.2.2.2.2⟩) (fun b ob _ _ hc e _=>k b ob hc e) (fun b ob _ _ hc e _=>⟨ob.slots,k b ob hc e⟩)
   (fun b ob hc e n=>n) (fun b ob hc e=>⟨ob,k b ob hc e⟩) (fun b xs e=>e) (fun b ob u e=>e)
   (fun b ps e=>⟨#[],by rw[e];simp⟩) (fun m hm=>?_) (fun b u e=>?_) I.bare
 . obtain⟨ob,es,ep,ho,r⟩:=hm;exact⟨ob,es,ep,k _ ob (fun z=>(hf _ z).2.1 rfl) ho,r⟩
 . refine (I.hok b u e).stay (fun c v hc q=>k c v (fun z=>?_) q) (fun c q=>q) fun c xs q=>q;have hz:=(hf c z).1
   rcases hc with rfl | hc
   . rw[hz] at e;cases e
   . rw[hz] at hc;cases hc
end
section
variable {κ:Type} [DecidableEq κ] {K:Ab} {H:Hp} {io:List Addr}
noncomputable def valD(kvs:List (κ×D))(k:κ):Option D:=(kvs.find? fun kv=>decide (kv.1=k)).map (·.2)
noncomputable def putD(kvs:List (κ×D))(k:κ)(d:D):List (κ×D) :=
 if (kvs.any fun kv=>decide (kv.1=k))=true then kvs.map (fun kv=>if kv.1=k then (kv.1,d) else kv) else kvs++[(k,d)]
theorem KR.any{ps:List (κ×V)}{kvs:List (κ×D)}(r:KR κ K H io ps kvs)(k:κ):(ps.any fun kv=>decide (kv.1=k))=(kvs.any fun kv=>decide (kv.1=k)):=by
 induction r with
 | nil=>rfl
 | cons z t ih=>rw[BU,BU,ih,z.1]
theorem KR.length{ps:List (κ×V)}{kvs:List (κ×D)}(r:KR κ K H io ps kvs):ps.length=kvs.length:=Bk r
theorem KR.val{ps:List (κ×V)}{kvs:List (κ×D)}(r:KR κ K H io ps kvs)(k:κ):(valD kvs k=none/\valV ps k=none)\/∃ d v,valD kvs k=some d/\valV ps k=some v/\Rep K H io v d:=by
 induction r with
 | nil=>exact .inl ⟨rfl,rfl⟩
 | @cons p q l1 l2 z t ih =>
   unfold valD valV at *;rw[AZ,AZ,z.1]
   by_cases e:q.1=k
   . rw[decide_eq_true e];exact .inr ⟨q.2,p.2,rfl,rfl,z.2⟩
   . rw[decide_eq_false e];exact ih
theorem KR.append{ps qs:List (κ×V)}{kvs lvs:List (κ×D)}(r:KR κ K H io ps kvs)(r':KR κ K H io qs lvs):KR κ K H io (ps++qs) (kvs++lvs):=by
 induction r with
 | nil=>exact r'
 | cons z t ih=>exact .cons z ih
theorem KR.put{ps:List (κ×V)}{kvs:List (κ×D)}(r:KR κ K H io ps kvs)(k:κ){v:V}{d:D}(rv:Rep K H io v d):KR κ K H io (putK ps k v) (putD kvs k d):=by
 unfold putK putD;rw[KR.any r k]
 by_cases e:(kvs.any fun kv=>decide (kv.1=k))=true
 . rw[if_pos e,if_pos e]
   induction r with
   | nil=>exact .nil
   | @cons p q l1 l2 z t ih =>
     rw[Az,Az];have hrest:KR κ K H io (l1.map fun kv=>if kv.1=k then (kv.1,v) else kv) (l2.map fun kv=>if kv.1=k then (kv.1,d) else kv):=by
       clear ih e
       induction t with
       | nil=>exact .nil
       | @cons p q l1 l2 z t ih =>
         rw[Az,Az];refine .cons ?_ ih;rw[z.1]
         by_cases e:q.1=k
         . rw[if_pos e,if_pos e];exact⟨rfl,rv⟩
         . rw[if_neg e,if_neg e];exact z
     refine .cons ?_ hrest;rw[z.1]
     by_cases e:q.1=k
     . rw[if_pos e,if_pos e];exact⟨rfl,rv⟩
     . rw[if_neg e,if_neg e];exact z
 . rw[if_neg e,if_neg e];exact KR.append r (.cons ⟨rfl,rv⟩ .nil)
end
noncomputable def keyOf:D->Option Key
 | .int i=>some (.inl i)
 | .str x=>some (.inr x)
 | _=>none
noncomputable def keysOf:List D->Option (List Key)
 | []=>some []
 | d::ds=>(keyOf d).bind fun k=>(keysOf ds).map fun ks=>k::ks
section
variable {X:Cx} {K:Ab} {H:Hp} {io:List Addr} {st st':Sto} {a b e:Expr} {es:List Expr} {ma mb m:ME} {mm:MA} {pos:Pos}
theorem zcU{v:V}{d:D}{k:Key}(h:Rep K H io v d)(e:keyOf d=some k):v=kV k:=by
 cases d with
 | int i=>cases e;exact h
 | str i=>cases e;exact h
 | _=>cases e
theorem zc9:∀ {xs:List V} {ds:List D} {ks:List Key},Reps K H io xs ds->keysOf ds=some ks->xs=ks.map kV
 | _,[],ks,h,e=>by cases e;exact h
 | _,d::ds,ks,h,e=>by
   obtain⟨y,ys,rfl,h1,h2⟩:=h;obtain⟨k,e1,e⟩:=zad e;obtain⟨ks',e2,e⟩:=zag e;subst e;rw[zcU h1 e1,zc9 h2 e2];rfl
noncomputable def look(st:Sto)(n:Nat)(k:D):Option (Option D):=match st[n]? with
 | some (.dk kvs)=>(keyOf k).map fun q=>valD kvs q
 | some (.dt kvs)=>match k with
   | .tup ds=>(keysOf ds).map fun q=>valD kvs q
   | _=>none
 | _=>none
theorem zhd{n:Nat}{p:Addr}{k:D}{y:V}{r:Option D}(S:StR K H io st)(hp:io[n]?=some p)(ry:Rep K H io y k)(h:look st n k=some r):∃ o,DGet H p y o/\((r=none/\o=none)\/∃ d v,r=some d/\o=some v/\Rep K H io v d):=by
 unfold look at h
 split at h
 . rename_i kvs e;obtain⟨q,e1,h⟩:=zag h;subst h;obtain⟨ps,hH,r⟩:=S.ob n p _ hp e;have ey:=zcU ry e1;subst ey;refine⟨_,DGet.k hH,?_⟩
   rcases KR.val r q with ⟨h1,h2⟩ | ⟨d,v,h1,h2,h3⟩
   . exact .inl ⟨h1,h2⟩
   . exact .inr ⟨d,v,h1,h2,h3⟩
 . rename_i kvs e
   split at h
   . rename_i ds;obtain⟨q,e1,h⟩:=zag h;subst h;obtain⟨ps,hH,r⟩:=S.ob n p _ hp e;obtain⟨b,xs,rfl,hb,rs⟩:=ry;have ex:=zc9 rs e1;subst ex;refine⟨_,DGet.t hH hb,?_⟩
     rcases KR.val r q with ⟨h1,h2⟩ | ⟨d,v,h1,h2,h3⟩
     . exact .inl ⟨h1,h2⟩
     . exact .inr ⟨d,v,h1,h2,h3⟩
   . cases h
 . cases h
noncomputable def znT(md mk:ME):ME:=fun ρ st=>(md ρ st).bind fun (d,s1)=>(mk ρ s1).bind fun (k,s2)=>match d with
 | .ref n=>(look s2 n k).bind fun r=>r.map fun v=>(v,s2)
 | _=>none
theorem zk9{o i:Expr}{md mk:ME}(hu:X.A.units+1 < cLine)(ho:SE X o md)(hi:SE X i mk)(hs:NoSl i:=by intro _ _;rfl):SE X (.Subscript o i pos) (znT md mk):=PE.imp (zls hu ho hi hs) <| by
 rintro σ H Q ⟨ρ,st,io,d,st',E,S,e,k⟩;obtain⟨⟨x,s1⟩,e1,e⟩:=zad e;obtain⟨⟨y,s2⟩,e2,e⟩:=zad e
 cases x with
 | ref n =>
   obtain⟨r,e3,e⟩:=zad e;obtain⟨w,e4,e⟩:=zag e;cases e;subst e4;refine⟨ρ,st,io,_,s1,E,S,e1,fun v1 H1 k1 X1 S1 R1=>⟨ρ,s1,io++k1,y,_,E.ext S X1,S1,e2,fun v2 H2 k2 X2 S2 R2=>?_⟩⟩;obtain⟨p,rfl,hp⟩:=R1;obtain⟨o,g,⟨z,_⟩ | ⟨d',v,hd,hv,rv⟩⟩:=zhd S2 (zbk hp) R2 e3
   . cases z
   . cases hd;subst hv;exact⟨p,v,rfl,g,((k.on S1 X1).on S2 X2).now S2 rv⟩
 | _=>cases e
noncomputable def mDIn(neg:Bool)(mk md:ME):ME:=fun ρ st=>(mk ρ st).bind fun (k,s1)=>(md ρ s1).bind fun (d,s2)=>match d with
 | .ref n=>(look s2 n k).map fun r=>(.bl (if neg then !r.isSome else r.isSome),s2)
 | _=>none
theorem ziG{neg:Bool}{mk md:ME}{σ:L2.St}{Q:VK}(h:tE K (mDIn neg mk md) σ H Q):tE K mk σ H fun y H1=>tE K md σ H1 fun x H2=>∃ a o,x=.ref a/\DGet H2 a y o/\Q (.bl (if neg then !o.isSome else o.isSome)) H2:=by
 obtain⟨ρ,st,io,d,st',E,S,e,k⟩:=h;obtain⟨⟨y,s1⟩,e1,e⟩:=zad e;obtain⟨⟨x,s2⟩,e2,e⟩:=zad e
 cases x with
 | ref n =>
   obtain⟨r,e3,e⟩:=zag e;cases e;refine⟨ρ,st,io,y,s1,E,S,e1,fun v1 H1 k1 X1 S1 R1=>⟨ρ,s1,io++k1,_,_,E.ext S X1,S1,e2,fun v2 H2 k2 X2 S2 R2=>?_⟩⟩;obtain⟨p,rfl,hp⟩:=R2;obtain⟨o,g,z⟩:=zhd S2 hp (R1.ext S1 X2) e3;have:o.isSome=r.isSome:=by
     rcases z with ⟨a,b⟩ | ⟨d',v,a,b,_⟩
     . rw[a,b];rfl
     . rw[a,b];rfl
   exact⟨p,o,rfl,g,by rw[this];exact ((k.on S1 X1).on S2 X2).now S2 rfl⟩
 | _=>cases e
theorem zmL{o i:Expr}{md mk:ME}(hu:X.A.units+1 < cLine)(hi:SE X i mk)(ho:SE X o md)(hm:behindInMarks .In o=false:=by rfl):SE X (.Compare i [.In] [o] pos) (mDIn false mk md):=PE.imp (zm6 (zm8 hu hi ho) hm) fun σ H Q h=>ziG h
end
section
variable {X:Cx} {K:Ab} {H:Hp} {io:List Addr} {st st':Sto} {a b c e:Expr} {es:List Expr} {ma mb mc m:ME} {mm:MA} {pos:Pos}
noncomputable def dput(st:Sto)(n:Nat)(k d:D):Option Sto:=match st[n]? with
 | some (.dk kvs)=>(keyOf k).bind fun q=>if decide (kvs.length < sizeLine)=true then some (st.set n (.dk (putD kvs q d))) else none
 | some (.dt kvs)=>match k with
   | .tup ds=>(keysOf ds).bind fun q=>if decide (kvs.length < sizeLine)=true then some (st.set n (.dt (putD kvs q d))) else none
   | _=>none
 | _=>none
theorem zkr{n:Nat}{p:Addr}{k d:D}{y v:V}(S:StR K H io st)(hp:io[n]?=some p)(ry:Rep K H io y k)(rv:Rep K H io v d)(h:dput st n k d=some st'):∃ H',DPut H p y v H'/\Ext io [] H H'/\StR K H' (io++[]) st':=by
 unfold dput at h
 split at h
 . rename_i kvs e;obtain⟨q,e1,h⟩:=zad h;obtain⟨hl,h⟩:=zar h;cases h;obtain⟨ps,hH,r⟩:=S.ob n p _ hp e;have ey:=zcU ry e1;subst ey;have:=KR.length r;refine⟨_,DPut.k hH (by rw[this];exact of_decide_eq_true hl),?_⟩;exact zgO S hp e (fun o u z=>by rw[hH] at z;cases z) fun H' T e'=>⟨_,e',KR.put (KR.mono T r) q (Rep.mono T rv)⟩
 . rename_i kvs e
   split at h
   . rename_i ds;obtain⟨q,e1,h⟩:=zad h;obtain⟨hl,h⟩:=zar h;cases h;obtain⟨ps,hH,r⟩:=S.ob n p _ hp e;obtain⟨b,xs,rfl,hb,rs⟩:=ry;have ex:=zc9 rs e1;subst ex;have:=KR.length r;refine⟨_,DPut.t hH hb (by rw[this];exact of_decide_eq_true hl),?_⟩;exact zgO S hp e (fun o u z=>by rw[hH] at z;cases z) fun H' T e'=>⟨_,e',KR.put (KR.mono T r) q (Rep.mono T rv)⟩
   . cases h
 . cases h
noncomputable def znn(md mk mv:ME):MS:=fun ρ st=>(mv ρ st).bind fun (v,s1)=>(md ρ s1).bind fun (d,s2)=>(mk ρ s2).bind fun (k,s3)=>match d with
 | .ref n=>(dput s3 n k v).map fun s4=>(.nx ρ,s4)
 | _=>none
theorem zk1{o i value:Expr}{md mk mv:ME}{pos':Pos}(hu:X.A.units+1 < cLine)(ho:SE X o md)(hi:SE X i mk)(hv:SE X value mv)(hs:swapsWith value (some (.Subscript o i pos')) pos.line X.env=pure false:=by rfl) :
   SS X (.Assign [.Subscript o i pos'] value pos) (znn md mk mv):=PS.imp (zlk hu ho hi hv hs) fun N σ H h=>by
 obtain⟨ρ,st,io,f,st',E,S,e,w⟩:=zcN.mp h;obtain⟨⟨v,s1⟩,e1,e⟩:=zad e;obtain⟨⟨d,s2⟩,e2,e⟩:=zad e;obtain⟨⟨k,s3⟩,e3,e⟩:=zad e
 cases d with
 | ref n =>
   obtain⟨s4,e4,e⟩:=zag e;cases e;refine⟨ρ,st,io,v,s1,E,S,e1,fun v1 H1 k1 X1 S1 R1=>⟨ρ,s1,io++k1,_,s2,E.ext S X1,S1,e2,fun v2 H2 k2 X2 S2 R2=>⟨ρ,s2,(io++k1)++k2,k,s3,(E.ext S X1).ext S1 X2,S2,e3,fun v3 H3 k3 X3 S3 R3=>?_⟩⟩⟩;obtain⟨p,rfl,hp⟩:=R2;obtain⟨H4,g,X4,S4⟩:=zkr S3 (zbk hp) R3 ((R1.ext S1 X2).ext S2 X3) e4;refine⟨p,H4,rfl,g,?_⟩;have w3:∀ σ' H' kb,Ext (((io++k1)++k2)++k3) kb H3 H'->_:=zei (zei (zei w X1 S1) X2 S2) X3 S3;exact w3 σ H4 [] X4 S4 ((((E.ext S X1).ext S1 X2).ext S2 X3).ext S3 X4)
 | _=>cases e
inductive mtM (K:Ab) (g:D->List D->Sto->Option (D×Sto)) (x:V) (xs:List V) (H:Hp) (Q:VK):Prop
 | mk (dx:D) (ds:List D) (st:Sto) (io:List Addr) (d:D) (st':Sto) (h0:Rep K H io x dx) (h1:Reps K H io xs ds) (h2:StR K H io st) (h3:g dx ds st=some (d,st')) (h4:Bh K io H st' d Q)
noncomputable def zcn:D->List D->Sto->Option (D×Sto):=fun x xs st=>match x,xs with
 | .ref n,[d]=>match st[n]? with
   | some (.lst ds)=>if decide (ds.length < sizeLine)=true then some (.non,st.set n (.lst (ds++[d]))) else none
   | _=>none
 | _,_=>none
theorem append_in{n:Nat}{d:D}{ds:List D}{xs:List D}(h:zcn (.ref n) xs st=some (d,st')):∃ ds x,st[n]?=some (.lst ds)/\xs=[x]/\ds.length < sizeLine/\d=.non/\st'=st.set n (.lst (ds++[x])):=by
 unfold zcn at h
 match xs,h with
 | [x],h =>
   dsimp only at h
   split at h
   . rename_i ds e;obtain⟨hl,h⟩:=zar h;cases h;exact⟨ds,x,e,rfl,of_decide_eq_true hl,rfl,rfl⟩
   . cases h
 | [],h=>cases h
 | _::_::_,h=>cases h
theorem zg9:MtR X "list.append" (mtM X.K zcn):=by
 rintro pins s σ H x xs v us Q I rx rs ⟨dx,ds,st,io,d,st',Rx,Rs,S,e,k⟩
 cases dx with
 | ref n =>
   obtain⟨l,y,e1,rfl,hl,rfl,rfl⟩:=append_in (ds:=[]) e;obtain⟨p,rfl,hp⟩:=Rx;obtain⟨w,rfl,Rw⟩:=Rs.one;obtain⟨ys,hH,r⟩:=S.ob n p _ hp e1;refine zfq pins s σ H _ _ v us Q I rx rs ⟨p,ys,w,rfl,rfl,hH,by rw[r.length];exact hl,?_⟩;obtain⟨E',S'⟩:=zgO (o:=.lst (ys++[w])) (ob:=.lst (l++[y])) S hp e1 (fun o u z=>by rw[hH] at z;cases z) fun H' T e'=>⟨_,e',(Reps.mono T r).append (Reps.cons (Rep.mono T Rw) Reps.nil)⟩
   exact k _ _ [] E' S' rfl
 | _=>unfold zcn at e;cases ds <;> cases e
theorem zgp{n:Nat}{v:V}{l:List D}(R:Rep K H io v (.ref n))(S:StR K H io st)(h:zbf st n=some l):tyV K "list" v H:=by
 obtain⟨p,rfl,hp⟩:=R;obtain⟨xs,hx,_⟩:=zaX S hp h;exact .inl ⟨rfl,xs,hx⟩
noncomputable def mApp(m:ME)(mm:MA):ME:=fun ρ st=>(m ρ st).bind fun (x,s1)=>match x with
 | .ref n=>(zbf s1 n).bind fun _=>(mm ρ s1).bind fun (xs,s2)=>zcn x xs s2
 | _=>none
theorem zh4{o:Expr}{apos cpos:Pos}(ho:SE X o m)(ha:SA X (e::es) mm)
   (hbase:attributeBase o "append" X.env (eval o X.env)=eval o X.env:=by rfl)
   (hfew:((backTo cpos (starEach (e::es) X.env)).all (fun x=>!x.1)&&(backToKw cpos (keywordEach [] X.env)).all (fun x=>x.1.isSome)
    &&decide ((e::es).length+([]:List Keyword).length+(if ([]:List Keyword).isEmpty then 0 else 1) < 30))=true:=by rfl)
   (hline:(apos.endLine==cpos.line)=true:=by rfl) (hs:starEach (e::es) X.env=(false,eval e X.env)::starEach es X.env:=by rfl) (hplain:(backTo cpos (starEach es X.env)).any (·.1)=false:=by rfl) :
   SE X (.Call (.Attribute o "append" apos) (e::es) [] cpos) (mApp m mm) :=
 PE.imp (znQ Dk PySem.F.slot_list_append PySem.F.type_list_append zg9 ho ha hbase hfew hline hs hplain) <| by
   rintro σ H Q ⟨ρ,st,io,d,st',E,S,e,k⟩;obtain⟨⟨x,s1⟩,e1,e⟩:=zad e
   cases x with
   | ref n =>
     obtain⟨l,e0,e⟩:=zad e;obtain⟨⟨xs,s2⟩,e2,e⟩:=zad e;refine⟨ρ,st,io,_,s1,E,S,e1,fun v1 H1 k1 X1 S1 R1=>⟨zgp R1 S1 e0,ρ,s1,io++k1,xs,s2,E.ext S X1,S1,e2,fun vs H2 k2 X2 S2 R2=>?_⟩⟩;exact⟨_,xs,s2,(io++k1)++k2,d,st',R1.ext S1 X2,R2,S2,e,(k.on S1 X1).on S2 X2⟩
   | _=>cases e
noncomputable abbrev MO:=Rho->Sto->Option (Option Int×Sto)
inductive tOm (K:Ab) (m:MO) (σ:L2.St) (H:Hp) (Q:Option Int->Hp->Prop):Prop
 | mk (ρ:Rho) (st:Sto) (io:List Addr) (d:Option Int) (st':Sto) (h1:EnvR K H io σ ρ) (h2:StR K H io st) (h3:m ρ st=some (d,st')) (h4:∀ H' ka,Ext io ka H H'->StR K H' (io++ka) st'->Q d H')
def SO(X:Cx)(e:Option Expr)(m:MO):Prop:=PO X e (tOm X.K m)
noncomputable def zbi:MO:=fun _ st=>some (none,st)
noncomputable def zbh(m:ME):MO:=fun ρ st=>(m ρ st).bind fun (d,s)=>match d with
 | .int i=>some (some i,s)
 | _=>none
theorem zbx:SO X none zbi:=fun pins s σ H Q I ⟨ρ,st,io,d,st',E,S,e,k⟩=>zll pins s σ H Q I (by cases e;exact k H [] Ext.refl S.nil)
theorem zbw(h:SE X e m):SO X (some e) (zbh m):=fun pins s σ H Q I ⟨ρ,st,io,d,st',E,S,e,k⟩=>zi9 h pins s σ H Q I (by
 obtain⟨⟨x,s1⟩,e1,e⟩:=zad e
 cases x with
 | int i =>
   cases e;exact⟨ρ,st,io,_,_,E,S,e1,fun v1 H1 k1 X1 S1 R1=>⟨i,R1,k H1 k1 X1 S1⟩⟩
 | _=>cases e)
noncomputable def cutD(xs:List D)(lo hi:Option Int):List D:=(xs.drop (HT.sIx xs.length 0 lo)).take (HT.sIx xs.length xs.length hi - HT.sIx xs.length 0 lo)
theorem zhx{xs:List V}{ds:List D}(r:Reps K H io xs ds)(lo hi:Option Int):Reps K H io (cutV xs lo hi) (cutD ds lo hi):=by
 unfold cutV cutD;rw[r.length];exact (r.drop _).take _
noncomputable def slD:D->Option Int->Option Int->Sto->Option (D×Sto):=fun x lo hi st=>match x with
 | .tup ds=>if (decide (HT.sIx ds.length 0 lo=0)&&decide (HT.sIx ds.length ds.length hi=ds.length))=true then none else some (.tup (cutD ds lo hi),st)
 | .ref n=>(zbf st n).map fun ds=>(.ref st.length,st++[.lst (cutD ds lo hi)])
 | _=>none
noncomputable def mSl(m:ME)(l h:MO):ME:=fun ρ st=>(m ρ st).bind fun (x,s1)=>(l ρ s1).bind fun (lo,s2)=>(h ρ s2).bind fun (hi,s3)=>slD x lo hi s3
noncomputable def rSlM(K:Ab):V->Option Int->Option Int->Hp->VK->Prop:=fun x lo hi H Q=>rSlT K x lo hi H Q\/rSlL K x lo hi H Q
theorem sl_M:SlR X (rSlM X.K):=by
 intro pins s σ H x v vl vu lo hi sl Q I rx hs pl pu h
 rcases h with h | h
 . exact zmD pins s σ H x v vl vu lo hi sl Q I rx hs pl pu h
 . exact zi4 pins s σ H x v vl vu lo hi sl Q I rx hs pl pu h
theorem zjH{lo hi:Option Expr}{ml mh:MO}{p2:Pos}(he:SE X e m)(hl:SO X lo ml)(hu:SO X hi mh):SE X (.Subscript e (.Slice lo hi none p2) pos) (mSl m ml mh):=PE.imp (zdN sl_M he hl hu) <| by
 rintro σ H Q ⟨ρ,st,io,d,st',E,S,e,k⟩;obtain⟨⟨x,s1⟩,e1,e⟩:=zad e;obtain⟨⟨lo',s2⟩,e2,e⟩:=zad e;obtain⟨⟨hi',s3⟩,e3,e⟩:=zad e;refine⟨ρ,st,io,x,s1,E,S,e1,fun v1 H1 k1 X1 S1 R1=>⟨ρ,s1,io++k1,lo',s2,E.ext S X1,S1,e2,fun H2 k2 X2 S2=>⟨ρ,s2,(io++k1)++k2,hi',s3,(E.ext S X1).ext S1 X2,S2,e3,fun H3 k3 X3 S3=>?_⟩⟩⟩;have R3:=(R1.ext S1 X2).ext S2 X3;have k':=((k.on S1 X1).on S2 X2).on S3 X3
 cases x with
 | tup ds =>
   have e:(if (decide (HT.sIx ds.length 0 lo'=0)&&decide (HT.sIx ds.length ds.length hi'=ds.length))=true then none else some (D.tup (cutD ds lo' hi'),s3))=some (d,st'):=e
   by_cases hw:(decide (HT.sIx ds.length 0 lo'=0)&&decide (HT.sIx ds.length ds.length hi'=ds.length))=true
   . rw[if_pos hw] at e;cases e
   . rw[if_neg hw] at e;cases e;obtain⟨p,xs,rfl,hp,r⟩:=R3;refine .inl ⟨p,xs,rfl,SqT.of hp,fun z=>hw ?_,fun q hq=>k'.tup S3 (zhx r _ _) hq⟩;rw[r.length] at z;rw[Ar];exact⟨decide_eq_true z.1,decide_eq_true z.2⟩
 | ref n =>
   obtain⟨ds,e0,e⟩:=zag e;cases e;obtain⟨p,rfl,hp⟩:=R3;obtain⟨xs,hx,r⟩:=zaX S3 hp e0;exact .inr ⟨p,xs,rfl,hx,fun q hq=>k'.lst S3 (zhx r _ _) hq⟩
 | _=>cases e
noncomputable def zgm:G2:=intD (fun _ j=>decide (0 < j)&&decide (j < 2 ^ 128)) fun i j=>.int (i / j)
theorem zdQ:OpM X (binaryOp .FloorDiv) zgm:=zeh (C:=fun i j=>0 < j/\j < 2 ^ 128) (opI fun i j _ _ _ _ _ hc q=>by
 refine floordiv_int (by omega) (by rw[Int.fdiv_eq_ediv_of_nonneg i (by omega)];exact q) (.inl (PyProof.noPylong_of_log2 ?_));have h0:j.natAbs≠0:=by omega
 have h1:j.natAbs < 2 ^ 128:=by omega
 exact BN ((Nat.log2_lt h0).mpr h1) (by decide)) fun i j h=>by
   rw[Ar] at h;exact⟨of_decide_eq_true h.1,of_decide_eq_true h.2⟩
noncomputable def powB:G2:=intD (fun i j=>decide (0<=j)&&decide ((D1 i:Int)*j<=2 ^ 27)) fun i j=>.int (i ^ j.toNat)
theorem zgV:OpM X (binaryOp .Pow) powB:=zeh (C:=fun i j=>0<=j/\(D1 i:Int)*j<=2 ^ 27) (opI fun i j _ _ _ _ _ hc q=>pow_int hc.1 hc.2 q) fun i j h=>by
   rw[Ar] at h;exact⟨of_decide_eq_true h.1,of_decide_eq_true h.2⟩
end
noncomputable def subT(t T:String):Bool:=t==T || (t=="bool"&&T=="int")
noncomputable def sorts:List String:=["NoneType","bool","int","str","tuple","list","dict"]
noncomputable def kinds:List String:=["bool","int","str","tuple","list","dict"]
theorem zlX{K:Ab}{t T:String}(ht:t∈sorts)(hT:T∈kinds):Fd K (.type t) (.type T)=some (subT t T):=by
 have all:∀ t∈sorts,∀ T∈kinds,Fd K (.type t) (.type T)=some (subT t T):=by
   intro t ht T hT;simp only[sorts,kinds,A8,A1,or_false] at ht hT
   rcases ht with rfl | rfl | rfl | rfl | rfl | rfl | rfl <;> rcases hT with rfl | rfl | rfl | rfl | rfl | rfl <;> rfl
 exact all t ht T hT
noncomputable def tyName(st:Sto):D->Option String
 | .non=>some "NoneType"
 | .bl _=>some "bool"
 | .int _=>some "int"
 | .str _=>some "str"
 | .tup _=>some "tuple"
 | .ref n=>match st[n]? with
   | some (.lst _)=>some "list"
   | some (.fz _)=>some "list"
   | some (.dk _)=>some "dict"
   | some (.dt _)=>some "dict"
   | _=>none
 | .kl _=>none
section
variable {X:Cx} {K:Ab} {H:Hp} {io:List Addr} {st st':Sto} {a:Expr} {m:ME} {pos:Pos} {pins:List (Addr×Obj)} {σ:L2.St} {s:Shared}
theorem zhg{xs:List V}{p:Addr}(I:Inv X pins σ H s)(h:SqL X.K H p xs):DY p "list" s.heap:=by
 obtain⟨its,_,⟨o,n,e,c,_,_⟩,_⟩:=I.list h;exact⟨o,e,c⟩
theorem zil{ps:List (Key×V)}{p:Addr}(I:Inv X pins σ H s)(h:H p=some (.dK ps)):DY p "dict" s.heap:=by
 obtain⟨_,_,_,_,o,_,_,e,ex,_⟩:=I.hok p _ h;exact⟨o,e,ex.1⟩
theorem zik{ps:List (List Key×V)}{p:Addr}(I:Inv X pins σ H s)(h:H p=some (.dT ps)):DY p "dict" s.heap:=by
 obtain⟨_,_,_,_,o,_,_,e,ex,_⟩:=I.hok p _ h;exact⟨o,e,ex.1⟩
theorem zl1{d:D}{v:V}{u:Value}{t T:String}{Q:Value->Shared->Prop}{E:Value->Shared->Prop}(I:Inv X pins σ H s)(S:StR X.K H io st)(R:Rep X.K H io v d)(r:RelV v u)(ht:tyName st d=some t)(hT:T∈kinds)
   (q:∀ tk,Q (.bool (subT t T)) { s with toks:=tk }):wpAny (model X.prog X.w) X.A (call (.builtin "isinstance") [u,.type T]) Q E s:=by
 have k:=fun {x:Value} {HH:Heap->Prop} (hs:t∈sorts) (Z:PySem.W.KitX X.K x (.type t) HH) (p:HH s.heap) (hx:x≠.builtin "__main__.__loader__#opaque")=>PySem.W.kia_one (prog:=X.prog) (w:=X.w) (A:=X.A) (E:=E) Z I.kIn p (zlX hs hT) hx q
 cases d with
 | non=>cases ht;cases (show v=.non from R);cases r;exact k (by decide) PySem.W.kitx_none trivial (by intro e;cases e)
 | bl b=>cases ht;cases (show v=.bl b from R);cases r;exact k (by decide) PySem.W.kitx_bool trivial (by intro e;cases e)
 | int b=>cases ht;cases (show v=.int b from R);obtain⟨t,rfl⟩:=r;exact k (by decide) PySem.W.kitx_int trivial (by intro e;cases e)
 | str b=>cases ht;cases (show v=.str b from R);obtain⟨t,rfl⟩:=r;exact k (by decide) PySem.W.kitx_str trivial (by intro e;cases e)
 | tup ds =>
   cases ht;obtain⟨p,xs,rfl,hp,_⟩:=R;cases r;obtain⟨its,_,⟨o,e,c,_⟩,_⟩:=I.tuple (SqT.of hp);exact k (by decide) PySem.W.kitx_tuple ⟨o,e,c⟩ (by intro e;cases e)
 | ref n =>
   obtain⟨p,rfl,hp⟩:=R;cases r;unfold tyName at ht;dsimp only at ht
   split at ht
   . rename_i o e;cases ht;obtain⟨xs,hH,_⟩:=S.ob n p _ hp e;exact k (by decide) Es (zhg I (SqL.of hH)) (by intro e;cases e)
   . rename_i o e;cases ht;obtain⟨ob,xs,hH,_⟩:=S.ob n p _ hp e;exact k (by decide) Es (zhg I (.inl (.inr ⟨ob,hH⟩))) (by intro e;cases e)
   . rename_i o e;cases ht;obtain⟨xs,hH,_⟩:=S.ob n p _ hp e;exact k (by decide) Et (zil I hH) (by intro e;cases e)
   . rename_i o e;cases ht;obtain⟨xs,hH,_⟩:=S.ob n p _ hp e;exact k (by decide) Et (zik I hH) (by intro e;cases e)
   . cases ht
 | kl ds=>cases ht
noncomputable def rIsi(K:Ab)(T:String):List V->Hp->VK->Prop:=fun xs H Q=>∃ x d st io t,xs=[x,.ty T]/\Rep K H io x d/\StR K H io st/\tyName st d=some t/\Q (.bl (subT t T)) H
theorem zkx{T:String}(hT:T∈kinds):zhK X (.builtin "isinstance") (rIsi X.K T):=by
 rintro pins s σ H xs us Q I r ⟨x,d,st,io,t,e,R,S,ht,q⟩;subst e;obtain⟨u,w,rfl,ru,rw'⟩:=r.two;cases rw';exact zl1 I S R ru ht hT fun tk=>⟨.bl _,H,I.tok tk,rfl,q⟩
noncomputable def mIsi(T:String)(m:ME):ME:=fun ρ st=>(m ρ st).bind fun (x,s)=>(tyName s x).map fun t=>(.bl (subT t T),s)
theorem zdI{T:String}{x y:Str}{p p2:Pos}(hT:T∈kinds)(hg:Gl X "isinstance")(hm:X.mg "isinstance"=none)(ha:SE X a m)(hgy:Gl X y)(hmy:X.mg y=none)(hvy:bootBuiltins y=some (.type T))(hny:y≠"__name__":=by decide)(hdy:(y==("__debug__":Str))=false:=by decide)
   (hs:starEach [a,.Name y p2] X.env=(false,eval a X.env)::starEach [.Name y p2] X.env:=by rfl) (hs2:starEach [.Name y p2] X.env=[(false,eval (.Name y p2) X.env)]:=by rfl) (hpl:(backTo pos (starEach [.Name y p2] X.env)).any (·.1)=false:=by rfl) :
   SE X (.Call (.Name "isinstance" p) [a,.Name y p2] [] pos) (mIsi T m) :=
 PE.imp (zgR (zkx hT) hg hm (by decide +kernel) (zgS ha (zgS (zlv (v:=.ty T) hgy hmy hvy rfl hny hdy) zlw hs2) hs) (by decide) (by decide) hs hpl) <| by
   rintro σ H Q ⟨ρ,st,io,d,st',E,S,e,k⟩;obtain⟨⟨x,s1⟩,e1,e⟩:=zad e;obtain⟨t,e2,e⟩:=zag e;cases e;exact⟨ρ,st,io,x,_,E,S,e1,fun v1 H1 k1 X1 S1 R1=>⟨v1,x,_,io++k1,t,rfl,R1,S1,e2,k _ H1 k1 X1 S1 rfl⟩⟩
end
theorem zc3{α:Type}{le:α->α->Prop}:∀ {l1 l2:List α},l1.Perm l2->l1.Pairwise le->l2.Pairwise le->(∀ a∈l1,∀ b∈l1,le a b->le b a->a=b)->l1=l2
 | [],l2,p,_,_,_=>(List.Perm.nil_eq p)
 | a::l1,[],p,_,_,_=>absurd p.symm (by intro h;have:=h.length_eq;simp at this)
 | a::l1,b::l2,p,h1,h2,an=>by
   obtain⟨ha,h1'⟩:=List.pairwise_cons.mp h1;obtain⟨hb,h2'⟩:=List.pairwise_cons.mp h2;have e:a=b:=by
     have m1:a∈b::l2:=p.mem_iff.mp An;have m2:b∈a::l1:=p.mem_iff.mpr An
     rcases List.mem_cons.mp m1 with q | q
     . exact q
     . rcases List.mem_cons.mp m2 with r | r
       . exact r.symm
       . exact an a An b (Ak _ r) (ha b r) (hb a q)
   subst e;rw[zc3 ((List.perm_cons a).mp p) h1' h2' fun x hx y hy=>an x (Ak _ hx) y (Ak _ hy)]
noncomputable def sle(a b:Str):Bool:=!decide (b.cps.toList < a.cps.toList)
noncomputable def zfh(ss:List Str):List Str:=ss.mergeSort sle
theorem zkV{a b:Str}(h:a.cps.toList=b.cps.toList):a=b:=by
 obtain⟨x⟩:=a;obtain⟨y⟩:=b;have:x=y:=by
   have h':x.toList=y.toList:=h;exact Array.toList_inj.mp h'
 rw[this]
theorem zhY(a b:Str):(sle a b || sle b a)=true:=by
 unfold sle;rw[Dr,Bj,Bj,decide_eq_false_iff_not,decide_eq_false_iff_not]
 by_cases h:b.cps.toList < a.cps.toList
 . exact .inr (List.lt_asymm h)
 . exact .inl h
theorem zfi(a b c:Str)(h1:sle a b=true)(h2:sle b c=true):sle a c=true:=by
 unfold sle at *;rw[Bj,decide_eq_false_iff_not] at *;have h1:a.cps.toList<=b.cps.toList:=h1;have h2:b.cps.toList<=c.cps.toList:=h2;exact List.le_trans h1 h2
theorem zjC{a b:Str}(h1:sle a b=true)(h2:sle b a=true):a=b:=by
 unfold sle at *;rw[Bj,decide_eq_false_iff_not] at *;exact zkV (List.le_antisymm h1 h2)
theorem zdx:∀ {ss:List Str} {p:Str},risingS p ss=true->(p::ss).Pairwise fun a b=>sle a b=true
 | [],p,_=>by simp
 | s::ss,p,h=>by
   have h':(!ltCps s.cps.toList p.cps.toList&&risingS s ss)=true:=h;rw[Ar] at h';have ih:=zdx h'.2;have hps:sle p s=true:=by
     have:=h'.1;rw[D8] at this;exact this
   refine List.pairwise_cons.mpr ⟨fun x hx=>?_,ih⟩
   rcases List.mem_cons.mp hx with rfl | hx
   . exact hps
   . exact zfi _ _ _ hps ((List.pairwise_cons.mp ih).1 x hx)
theorem zea{ss ss':List Str}(p:ss'.Perm ss)(h:sortedS ss'=true):ss'=zfh ss:=by
 have hp:ss'.Pairwise fun a b=>sle a b=true:=by
   cases ss' with
   | nil=>exact CZ
   | cons x r=>exact zdx h
 refine zc3 (p.trans (D2 ss sle).symm) hp (Dl (fun a b c=>zfi a b c) zhY ss) fun a _ b _=>zjC
section
variable {X:Cx} {K:Ab} {H:Hp} {io:List Addr} {st st':Sto} {a b c e:Expr} {es:List Expr} {ma mb mc m:ME} {mm:MA} {pos:Pos} {pins:List (Addr×Obj)} {σ:L2.St} {s:Shared}
noncomputable def strsOf:List D->Option (List Str)
 | []=>some []
 | .str x::r=>(strsOf r).map fun xs=>x::xs
 | _=>none
theorem zfH{d:D}{r:List D}{ss:List Str}(h:strsOf (d::r)=some ss):∃ x xs,d=.str x/\strsOf r=some xs/\ss=x::xs:=by
 cases d with
 | str x =>
   obtain⟨xs,e,h⟩:=zag h;exact⟨x,xs,rfl,e,h.symm⟩
 | _=>cases h
theorem zgw(ss:List Str):strsOf (ss.map D.str)=some ss:=by
 induction ss with
 | nil=>rfl
 | cons x r ih=>show (strsOf (r.map D.str)).map _=_;rw[ih];rfl
theorem zeN:∀ {xs:List V} {us:List Value} {ds:List D} {ss:List Str},Reps K H io xs ds->Vals xs us->strsOf ds=some ss->StrsAre us ss
 | _,_,[],ss,h,r,e=>by
   cases (show _=[] from h);cases r;cases e;exact .nil
 | _,_,d::ds,ss,h,r,e=>by
   obtain⟨y,ys,rfl,h1,h2⟩:=h;obtain⟨x,rest,rfl,e2,rfl⟩:=zfH e
   cases r with
   | cons r1 r2 =>
     cases (show y=.str x from h1)
     obtain⟨t,rfl⟩:=r1;exact .cons x t (zeN h2 r2 e2)
theorem zcf:∀ {us:List Value} {ss:List Str},StrsAre us ss->Vals (ss.map V.str) us
 | _,_,.nil=>.nil
 | _,_,.cons y t r=>.cons ⟨t,rfl⟩ (zcf r)
theorem zfe(ss:List Str):Reps K H io (ss.map V.str) (ss.map D.str):=by
 induction ss with
 | nil=>exact rfl
 | cons x r ih=>exact Reps.cons rfl ih
theorem lt64{n:Nat}(h:n < 64):n<=sizeLine:=AB (BI h) (by decide)
noncomputable def zc4:GN
 | [.ref n],st=>(zbf st n).bind fun ds=>(strsOf ds).bind fun ss=>if decide (ss.length < 64)=true then some (.ref st.length,st++[.lst ((zfh ss).map D.str)]) else none
 | _,_=>none
theorem zew:zdo X (.builtin "sorted") zc4:=by
 rintro pins s σ H xs us Q I r ⟨ds,st,io,d,st',R,S,e,k⟩;unfold zc4 at e
 split at e
 . rename_i n;obtain⟨ts,e0,e⟩:=zad e;obtain⟨ss,e1,e⟩:=zad e;obtain⟨hl,e⟩:=zar e;cases e;have hl:=of_decide_eq_true hl;obtain⟨v,rfl,p,rfl,hp⟩:=R.one;obtain⟨u,rfl,ru⟩:=r.one;cases ru;obtain⟨ys,hx,r1⟩:=zaX S hp e0;obtain⟨its,rv,pl,hz⟩:=I.list hx;have hS:=zeN r1 rv e1;have hlen:its.length=ss.length:=by
     have h1:=rv.length;have h2:=(zcf hS).length;rw[Ag] at h2;omega
   refine sorted_strs pl.isList hS (by omega) fun out ss' a1 a2 a3=>?_;have es:=zea a2 a3;obtain⟨ep,hat⟩:=Ei s.heap its out;have hv:=zcf a1;have hfree:H (s.heap.objs.size+1)=none:=I.hok.fresh (BZ _);have hlen':(ss'.map V.str).length<=sizeLine:=by rw[Ag,a2.length_eq];exact lt64 hl
   refine⟨.ref (s.heap.objs.size+1),upd H (s.heap.objs.size+1) (.lst (ss'.map V.str)),I.laid (t':=s.toks) (a:=s.heap.objs.size+1) (fun b o q=>DZ q) (BZ _) ⟨hlen',out.toList,ep,hv,by simpa using hat⟩,rfl,?_⟩;rw[es] at *;exact k.lst S (zfe _) hfree
 . cases e
noncomputable def rSlS:V->Option Int->Option Int->Hp->VK->Prop:=fun x lo hi H Q=>∃ z,x=.str z/\z.length<=sizeLine/\Q (.str (Fg z lo hi)) H
theorem zmE:SlR X rSlS:=by
 rintro pins s σ H x v vl vu lo hi sl Q I rx hs pl pu ⟨z,e,hz,q⟩;subst e;obtain⟨t,rfl⟩:=rx;refine⟨"str",_,F.slot_str_getitem.lookup,EK _ _ _,?_⟩;have fin:∀ t' k,EP X pins σ Q (.str (Fg z lo hi) t') { s with toks:=k }:=fun t' k=>⟨.str _,H,I.tok k,⟨t',rfl⟩,q⟩
 cases pl with
 | none =>
   cases pu with
   | none=>exact BC (l:=none) (u:=none) (st:=none) hs rfl (B2 ⟨AB (Dc z _ _) hz,fin⟩)
   | int j tj=>exact BC (l:=none) (u:=some (j,tj)) (st:=none) hs rfl (B2 ⟨AB (Dc z _ _) hz,fin⟩)
 | int i ti =>
   cases pu with
   | none=>exact BC (l:=some (i,ti)) (u:=none) (st:=none) hs rfl (B2 ⟨AB (Dc z _ _) hz,fin⟩)
   | int j tj=>exact BC (l:=some (i,ti)) (u:=some (j,tj)) (st:=none) hs rfl (B2 ⟨AB (Dc z _ _) hz,fin⟩)
noncomputable def slS:D->Option Int->Option Int->Sto->Option (D×Sto):=fun x lo hi st=>match x with
 | .str z=>if fits z.length=true then some (.str (Fg z lo hi),st) else none
 | _=>none
noncomputable def mSlS(m:ME)(l h:MO):ME:=fun ρ st=>(m ρ st).bind fun (x,s1)=>(l ρ s1).bind fun (lo,s2)=>(h ρ s2).bind fun (hi,s3)=>slS x lo hi s3
theorem zh0{lo hi:Option Expr}{ml mh:MO}{p2:Pos}(he:SE X e m)(hl:SO X lo ml)(hu:SO X hi mh):SE X (.Subscript e (.Slice lo hi none p2) pos) (mSlS m ml mh):=PE.imp (zdN zmE he hl hu) <| by
 rintro σ H Q ⟨ρ,st,io,d,st',E,S,e,k⟩;obtain⟨⟨x,s1⟩,e1,e⟩:=zad e;obtain⟨⟨lo',s2⟩,e2,e⟩:=zad e;obtain⟨⟨hi',s3⟩,e3,e⟩:=zad e;refine⟨ρ,st,io,x,s1,E,S,e1,fun v1 H1 k1 X1 S1 R1=>⟨ρ,s1,io++k1,lo',s2,E.ext S X1,S1,e2,fun H2 k2 X2 S2=>⟨ρ,s2,(io++k1)++k2,hi',s3,(E.ext S X1).ext S1 X2,S2,e3,fun H3 k3 X3 S3=>?_⟩⟩⟩;have k':=((k.on S1 X1).on S2 X2).on S3 X3
 cases x with
 | str z =>
   obtain⟨hf,e⟩:=zar e;cases e;exact⟨z,R1,of_decide_eq_true hf,k'.now S3 rfl⟩
 | _=>cases e
noncomputable def repS(x:Str)(n:Int):Str:=if n < 1 then Str.empty else if (n==1 || x.length==0)=true then x else ⟨(Ba n.toNat x.cps).foldl (·++·) #[]⟩
noncomputable def zkK:G2
 | .str x,.int n,st=>if (decide (-(2 ^ 62)<=n)&&decide (n < 2 ^ 20)&&decide (x.length*n.toNat<=sizeLine)&&decide ((repS x n).length<=sizeLine))=true then some (.str (repS x n),st) else none
 | _,_,_=>none
theorem zj0:OpM X (binaryOp .Mult) zkK:=by
 rintro pins s σ H x y v u Q I rx ry ⟨dx,dy,st,io,d,st',Rx,Ry,S,e,k⟩;unfold zkK at e
 split at e
 . rename_i z n;obtain⟨hc,e⟩:=zar e;cases e;rw[Ar,Ar,Ar] at hc;obtain⟨⟨⟨h1,h2⟩,h3⟩,h4⟩:=hc;have h1:=of_decide_eq_true h1;have h2:=of_decide_eq_true h2;have h3:=of_decide_eq_true h3;have h4:=of_decide_eq_true h4
   cases (show x=.str z from Rx)
   cases (show y=.int n from Ry)
   obtain⟨t,rfl⟩:=rx;obtain⟨t2,rfl⟩:=ry;have fin:∀ t' k',EP X pins σ Q (.str (repS z n) t') { s with toks:=k' }:=fun t' k'=>⟨.str _,H,I.tok k',⟨t',rfl⟩,k.now S rfl⟩
   refine PySem.P.mul_str (by rw[decide_eq_false (by omega),decide_eq_false (by omega)];rfl) (fun hn _=>?_) (fun hn _=>?_) ?_
   . have hs:sizeLine=16777216:=Ex;have hnn:((n.toNat:Nat):Int)=n:=Int.toNat_of_nonneg (by omega);have hm:(z.length:Int)*n<=2 ^ 63 - 1:=by
       rw[<-hnn,<-Int.natCast_mul];omega
     have:=Int.le_ediv_of_mul_le (by omega:0 < n) hm;omega
   . unfold Builtin.Str.tooLong;exact decide_eq_false (by omega)
   . unfold repS at fin h4
     by_cases hn:n < 1
     . rw[if_pos hn] at fin h4 ⊢;exact⟨h4,fin s.toks (s.toks+1)⟩
     . rw[if_neg hn] at fin h4 ⊢;exact B2 ⟨h4,fin⟩
 . cases e
end
section
variable {X:Cx} {K:Ab} {H:Hp} {io:List Addr} {st st':Sto} {a b c e:Expr} {es:List Expr} {ma mb mc m:ME} {mm:MA} {pos:Pos} {pins:List (Addr×Obj)} {σ:L2.St} {s:Shared}
noncomputable def memP(p:PyData):PyData->Option Bool
 | .list xs=>some (xs.any fun y=>C5 y p)
 | .tuple xs=>some (xs.any fun y=>C5 y p)
 | _=>none
noncomputable def inD(neg:Bool):G2:=fun x y st=>(toP 50 st x).bind fun p=>(toP 50 st y).bind fun q=>(memP p q).map fun b=>(.bl (if neg then !b else b),st)
theorem zge{xs:List PyData}(h:(PyData.list xs).canLay0=true):BH xs=true:=by simpa only [Bn] using h
theorem ze4{xs:List PyData}(h:(PyData.tuple xs).canLay0=true):BH xs=true:=by simpa only [Bn] using h
theorem zne(hu:X.A.units+100 < cLine):OpM X (compareOp .In) (inD false):=by
 rintro pins s σ H x y v u Q I rx ry ⟨dx,dy,st,io,d,st',Rx,Ry,S,e,k⟩;obtain⟨p,e1,e⟩:=zad e;obtain⟨q,e2,e⟩:=zad e;obtain⟨r,e3,e⟩:=zag e;cases e;obtain⟨as,ra⟩:=zbI I S Rx rx e1;obtain⟨bs,rb⟩:=zbI I S Ry ry e2;have h1:=zd9 e1;have h2:=zd9 e2;have hb:∀ n,X.A.units+1+min n p.depth < cLine:=fun n=>by have:=EB n p.depth;omega
 cases q with
 | list xs=>cases e3;exact PySem.SeqAt.in_list_reads rb ra (zge h2.1) h1.1 (hb _) ⟨.bl _,H,I,rfl,k.now S rfl⟩
 | tuple xs=>cases e3;exact PySem.SeqAt.in_tuple_reads rb ra (ze4 h2.1) h1.1 (hb _) ⟨.bl _,H,I,rfl,k.now S rfl⟩
 | _=>cases e3
noncomputable def inSD:G2
 | .str i,.str j,st=>some (.bl (!(Bc j i 0 j.length 1).isEmpty),st)
 | _,_,_=>none
theorem zlB:OpM X (compareOp .In) inSD:=by
 rintro pins s σ H x y v u Q I rx ry ⟨dx,dy,st,io,d,st',Rx,Ry,S,e,k⟩;unfold inSD at e
 split at e
 . rename_i i j
   cases e;exact zie pins s σ H x y v u Q I rx ry ⟨i,j,Rx,Ry,k.now S rfl⟩
 . cases e
noncomputable def zkB:List D->Option (List Bool)
 | []=>some []
 | .bl x::r=>(zkB r).map fun xs=>x::xs
 | _=>none
theorem zhE{d:D}{r:List D}{ss:List Bool}(h:zkB (d::r)=some ss):∃ x xs,d=.bl x/\zkB r=some xs/\ss=x::xs:=by
 cases d with
 | bl x =>
   obtain⟨xs,e,h⟩:=zag h;exact⟨x,xs,rfl,e,h.symm⟩
 | _=>cases h
theorem zjm:∀ {xs:List V} {us:List Value} {ds:List D} {ss:List Bool},Reps K H io xs ds->Vals xs us->zkB ds=some ss->us=ss.map Cd
 | _,_,[],ss,h,r,e=>by
   cases (show _=[] from h);cases r;cases e;rfl
 | _,_,d::ds,ss,h,r,e=>by
   obtain⟨y,ys,rfl,h1,h2⟩:=h;obtain⟨x,rest,rfl,e2,rfl⟩:=zhE e
   cases r with
   | cons r1 r2 =>
     cases (show y=.bl x from h1)
     cases r1;rw[zjm h2 r2 e2];rfl
noncomputable def allC:GN
 | [.ref n],st=>(zbf st n).bind fun ds=>(zkB ds).map fun bs=>(.bl (bs.all id),st)
 | _,_=>none
theorem range_all(bs:List Bool):((AJ bs.length).all fun i=>bs.getD i false)=bs.all id:=by
 rw[Bool.eq_iff_iff,Cq,Cq]
 constructor
 . intro h b hb;obtain⟨i,hi,e⟩:=D0 hb;have:=h i (List.mem_range.mpr hi);rw[Av,Ah hi,e] at this;exact this
 . intro h i hi;have hi:=List.mem_range.mp hi;rw[Av,Ah hi];exact h _ (Cr hi)
theorem zbR(hc:X.calm=true):zdo X (.builtin "all") allC:=by
 rintro pins s σ H xs us Q I r ⟨ds,st,io,d,st',R,S,e,k⟩;unfold allC at e
 split at e
 . rename_i n;obtain⟨ts,e0,e⟩:=zad e;obtain⟨bs,e1,e⟩:=zag e;cases e;obtain⟨v,rfl,p,rfl,hp⟩:=R.one;obtain⟨u,rfl,ru⟩:=r.one;cases ru;obtain⟨ys,hx,r1⟩:=zaX S hp e0;obtain⟨its,rv,pl,hz⟩:=I.list hx;have hb:=zjm r1 rv e1;subst hb;refine call_all_walk (CW pl.isList ?_);have hlt:p < s.heap.objs.size:=by
     obtain⟨o,_,e,_⟩:=pl;exact Aj e
   refine⟨_,_,_,_,_,_,fun i=>bs.getD i false,rfl,Walks.list (A:=X.A.in1) (I.ok.hd hc) s.heap.objs.size p (Aw hlt) (bs.map Cd).toArray,⟨⟨_,Ap _ rfl,rfl,rfl⟩,?_⟩,?_,fun h' tk hk=>?_⟩
   . obtain⟨o,nn,e,c,dd,sq⟩:=pl;exact⟨o,Ac _ e,c,nn,sq⟩
   . intro i v s' Q' E' hv hq;have hv:((bs.map Cd).toArray)[i]?=some v:=hv;rw[DF,AL] at hv
     cases ei:bs[i]? with
     | none=>rw[ei] at hv;cases hv
     | some bb =>
       rw[ei] at hv;cases hv;refine Bi ?_;have hg:bs.getD i false=bb:=by rw[Av,ei];rfl
       have hq:Q' (bs.getD i false) s':=hq;rw[hg] at hq;exact hq
   . refine⟨.bl _,H,I.kept (t':=tk) fun b o q=>hk b o ?_ (Ac _ q),rfl,?_⟩
     . simp;exact Aw (Aj q)
     . have:((AJ (bs.map Cd).toArray.size).all fun i=>bs.getD i false)=bs.all id:=by simpa using range_all bs
       rw[this];exact k.now S rfl
 . cases e
end
end L2.MP
namespace Srt
open PySem PySem.W PyProof.Rows
noncomputable def Hd(n:Nat)(r:Nat->Int){α:Type}:KasT α->(α->Prop)->Prop
 | .ret a,Q=>Q a
 | .ask i j k,Q=>(i < n/\j < n)/\Hd n r (k (decide (r i < r j))) Q
section
variable {n:Nat} {r:Nat->Int} {α β:Type}
theorem Hd.bind{f:α->KasT β}{Q:β->Prop}:∀ {t:KasT α},Hd n r t (fun a=>Hd n r (f a) Q)->Hd n r (t.bind f) Q
 | .ret _,h=>h
 | .ask i j k,h=>⟨h.1,Hd.bind (t:=k _) h.2⟩
theorem Hd.mono{P Q:α->Prop}(k:∀ a,P a->Q a):∀ {t:KasT α},Hd n r t P->Hd n r t Q
 | .ret a,h=>k a h
 | .ask i j f,h=>⟨h.1,Hd.mono k (t:=f _) h.2⟩
theorem zhp{c:Prop}[Decidable c]{A B:KasT α}{Q:α->Prop}(hc:c)(h:Hd n r A Q):Hd n r (if decide c=true then A else B) Q:=by
 rw[decide_eq_true hc,if_pos rfl];exact h
theorem zhq{c:Prop}[Decidable c]{A B:KasT α}{Q:α->Prop}(hc:¬ c)(h:Hd n r B Q):Hd n r (if decide c=true then A else B) Q:=by
 rw[decide_eq_false hc,if_neg Bd];exact h
def Bel(n:Nat)(p:Array Nat):Prop:=∀ k,p.getD k 0 < n
noncomputable def R(r:Nat->Int)(p:Array Nat)(k:Nat):Int:=r (p.getD k 0)
def Up(r:Nat->Int)(p:Array Nat)(m:Nat):Prop:=∀ i j,i<=j->j < m->R r p i<=R r p j
def Dn(r:Nat->Int)(p:Array Nat)(m:Nat):Prop:=∀ i j,i<=j->j < m->R r p j<=R r p i
theorem getD_eq{p q:Array Nat}{i j:Nat}(h:p[i]?=q[j]?):p.getD i 0=q.getD j 0:=by
 rw[Br,Br,h]
theorem zfj{p:Array Nat}{i j:Nat}(hj:j<=p.size)(k:Nat):(kas_rev p i j).getD k 0=if i<=k/\k < j then p.getD (i+j - 1 - k) 0 else p.getD k 0:=by
 have e:=getElem?_mirror_all (i:=i) hj k;unfold kas_rev
 by_cases h:i<=k/\k < j
 . rw[if_pos h] at e ⊢;exact getD_eq e
 . rw[if_neg h] at e ⊢;exact getD_eq e
theorem zjk{p:Array Nat}{src d:Nat}(hs:src < p.size)(hd:d<=src)(k:Nat):(bubble p src d).getD k 0=if k=src - d then p.getD src 0 else if src - d < k/\k<=src then p.getD (k - 1) 0 else p.getD k 0:=by
 have e:=getElem?_bubble hs d hd k
 by_cases h1:k=src - d
 . rw[if_pos h1] at e ⊢;exact getD_eq e
 . rw[if_neg h1] at e ⊢
   by_cases h2:src - d < k/\k<=src
   . rw[if_pos h2] at e ⊢;exact getD_eq e
   . rw[if_neg h2] at e ⊢;exact getD_eq e
theorem zef{p:Array Nat}{i j:Nat}(hj:j<=p.size)(h:Bel n p):Bel n (kas_rev p i j):=fun k=>by
 rw[zfj hj];split
 . exact h _
 . exact h _
theorem zl9{p:Array Nat}{src d:Nat}(hs:src < p.size)(hd:d<=src)(h:Bel n p):Bel n (bubble p src d):=fun k=>by
 rw[zjk hs hd]
 by_cases h1:k=src - d
 . rw[if_pos h1];exact h _
 . rw[if_neg h1]
   by_cases h2:src - d < k/\k<=src
   . rw[if_pos h2];exact h _
   . rw[if_neg h2];exact h _
theorem zjN(p:Array Nat)(i j:Nat):(kas_rev p i j).size=p.size:=mirror_size _ _ _ _
theorem zh8(p:Array Nat)(i j:Nat):(kas_rev p i j).Perm p:=mirror_perm _ _ _ _
theorem Up.more{p:Array Nat}{m:Nat}(h:Up r p m)(hl:m=0\/R r p (m - 1)<=R r p m):Up r p (m+1):=fun i j hij hj=>by
 by_cases hm:j < m
 . exact h i j hij hm
 . have e:j=m:=by omega
   subst e
   by_cases hi:i=j
   . rw[hi];exact Cm _
   . rcases hl with hl | hl
     . omega
     . exact CB (h i (j - 1) (by omega) (by omega)) hl
theorem Dn.more{p:Array Nat}{m:Nat}(h:Dn r p m)(hl:m=0\/R r p m<=R r p (m - 1)):Dn r p (m+1):=fun i j hij hj=>by
 by_cases hm:j < m
 . exact h i j hij hm
 . have e:j=m:=by omega
   subst e
   by_cases hi:i=j
   . rw[hi];exact Cm _
   . rcases hl with hl | hl
     . omega
     . exact CB hl (h i (j - 1) (by omega) (by omega))
theorem zkE{p:Array Nat}(hb:Bel n p):∀ (f m:Nat),1<=m->Up r p m->Hd n r (kas_asc p f m) fun m'=>m<=m'/\m'<=m+f/\Up r p m'/\(m' < m+f->R r p m' < R r p (m' - 1))
 | 0,m,h1,h=>⟨Af _,Af _,h,fun z=>absurd z (AM _)⟩
 | f+1,m,h1,h=>by
   refine⟨⟨hb _,hb _⟩,?_⟩
   by_cases c:r (p.getD m 0) < r (p.getD (m - 1) 0)
   . refine zhp c ?_;exact⟨Af _,Bz _ _,h,fun _=>c⟩
   . refine zhq c ?_;refine Hd.mono (fun m' h'=>?_) (zkE hb f (m+1) (by omega) (h.more (.inr (Int.not_lt.mp c))));exact⟨by omega,by omega,h'.2.2.1,fun z=>h'.2.2.2 (by omega)⟩
def Eqs(r:Nat->Int)(p:Array Nat)(i j:Nat):Prop:=∀ k,i<=k->k < j->R r p k=R r p (j - 1)
theorem zgM{p:Array Nat}{i j:Nat}(hj:j<=p.size)(h:Eqs r p i j)(k:Nat):R r (kas_rev p i j) k=R r p k:=by
 unfold R;rw[zfj hj]
 split
 . rename_i hk;have h1:=h (i+j - 1 - k) (by omega) (by omega);have h2:=h k hk.1 hk.2;exact h1.trans h2.symm
 . rfl
theorem Dn.same{p p':Array Nat}{m:Nat}(h:Dn r p m)(e:∀ k,R r p' k=R r p k):Dn r p' m:=fun i j a b=>by rw[e,e];exact h i j a b
theorem zmP{p:Array Nat}{m:Nat}(hm:m<=p.size)(h:Dn r p m):Up r (kas_rev p 0 m) m:=fun i j hij hj=>by
 unfold R;rw[zfj hm,zfj hm,if_pos (by omega),if_pos (by omega)];exact h (0+m - 1 - j) (0+m - 1 - i) (by omega) (by omega)
theorem zfu{N:Nat}:∀ (f:Nat) (p:Array Nat) (m q:Nat),Bel n p->p.size=N->1<=m->m+f<=N->q+1<=m->Dn r p m->Eqs r p (m - (q+1)) m ->
   Hd n r (kas_desc f p m q) fun t=>Bel n t.1/\t.1.Perm p/\m<=t.2.1/\t.2.1<=m+f/\t.2.2+1<=t.2.1/\Dn r t.1 t.2.1/\Eqs r t.1 (t.2.1 - (t.2.2+1)) t.2.1
 | 0,p,m,q,hb,hs,h1,h2,h3,hd,he=>⟨hb,BE _,Af _,Af _,h3,hd,he⟩
 | f+1,p,m,q,hb,hs,h1,h2,h3,hd,he=>by
   refine⟨⟨hb _,hb _⟩,?_⟩
   by_cases c:r (p.getD m 0) < r (p.getD (m - 1) 0)
   . refine zhp c ?_;have one:∀ p':Array Nat,Eqs r p' (m+1 - (0+1)) (m+1):=fun p' k h1 h2=>by
       have e:k=m+1 - 1:=by omega
       subst e;rfl
     by_cases hq:q > 0
     . rw[if_pos hq];have hz:m<=p.size:=by omega
       have e:=zgM hz he;refine Hd.mono (fun t ht=>?_) (zfu f (kas_rev p (m - (q+1)) m) (m+1) 0 (zef hz hb) ((zjN _ _ _).trans hs) (by omega) (by omega) (by omega) ((hd.more (.inr (Ca c))).same e) (one _));exact⟨ht.1,ht.2.1.trans (zh8 _ _ _),by omega,by omega,ht.2.2.2.2⟩
     . rw[if_neg hq];refine Hd.mono (fun t ht=>?_) (zfu f p (m+1) 0 hb hs (by omega) (by omega) (by omega) (hd.more (.inr (Ca c))) (one _));exact⟨ht.1,ht.2.1,by omega,by omega,ht.2.2.2.2⟩
   . refine zhq c ?_;refine⟨⟨hb _,hb _⟩,?_⟩
     by_cases d:r (p.getD (m - 1) 0) < r (p.getD m 0)
     . refine zhp d ?_;exact⟨hb,BE _,Af _,Bz _ _,h3,hd,he⟩
     . refine zhq d ?_;have eq:R r p m=R r p (m - 1):=EO (Int.not_lt.mp d) (Int.not_lt.mp c);refine Hd.mono (fun t ht=>?_) (zfu f p (m+1) (q+1) hb hs (by omega) (by omega) (by omega) (hd.more (.inr (Int.not_lt.mp d))) fun k k1 k2=>?_)
       . exact⟨ht.1,ht.2.1,by omega,by omega,ht.2.2.2.2⟩
       . show R r p k=R r p (m+1 - 1)
         by_cases hk:k=m
         . rw[hk];rfl
         . rw[Nat.add_sub_cancel,eq];exact he k (by omega) (by omega)
def znO(n N:Nat)(r:Nat->Int)(p:Array Nat)(t:Nat×Array Nat):Prop:=Bel n t.2/\t.2.Perm p/\1<=t.1/\t.1<=N/\Up r t.2 t.1
theorem zgv{N m:Nat}{p:Array Nat}(hb:Bel n p)(hs:p.size=N)(h1:1<=m)(h2:m<=N)(hd:Dn r p m):Hd n r (kas_tail3 m N p) (znO n N r p):=by
 unfold kas_tail3;have hz:m<=p.size:=by omega
 refine Hd.bind (Hd.mono (fun m' h'=>?_) (zkE (zef hz hb) (N - m) m h1 (zmP hz hd)));exact⟨zef hz hb,zh8 _ _ _,by omega,by omega,h'.2.2.1⟩
theorem zdD{N m:Nat}{p:Array Nat}(hb:Bel n p)(hs:p.size=N)(h1:1<=m)(h2:m+1<=N)(hd:Dn r p (m+1)):Hd n r (kas_descPart m N p) (znO n N r p):=by
 unfold kas_descPart;refine Hd.bind (Hd.mono (fun t ht=>?_) (zfu (N:=N) (N - (m+1)) p (m+1) 0 hb hs (by omega) (by omega) (by omega) hd fun k k1 k2=>by
   have:k=m+1 - 1:=by omega
   rw[this]))
 obtain⟨t1,t2,t3,t4,t5,t6,t7⟩:=ht;have hsz:t.1.size=N:=t2.size_eq.trans hs
 by_cases hq:t.2.2 > 0
 . rw[if_pos hq];have hz:t.2.1<=t.1.size:=by omega
   refine Hd.mono (fun u hu=>?_) (zgv (zef hz t1) ((zjN _ _ _).trans hsz) (by omega) (by omega) (t6.same (zgM hz t7)));exact⟨hu.1,(hu.2.1.trans (zh8 _ _ _)).trans t2,hu.2.2⟩
 . rw[if_neg hq];refine Hd.mono (fun u hu=>?_) (zgv t1 hsz (by omega) (by omega) t6);exact⟨hu.1,hu.2.1.trans t2,hu.2.2⟩
theorem zkt{N:Nat}{p:Array Nat}(hb:Bel n p)(hs:p.size=N)(hN:1<=N):Hd n r (kas_count N p) (znO n N r p):=by
 unfold kas_count;have up1:Up r p 1:=fun i j a b=>by
   have:i=j:=by omega
   rw[this];exact Cm _
 refine Hd.bind (Hd.mono (fun m hm=>?_) (zkE hb (N - 1) 1 (Af _) up1));obtain⟨m1,m2,m3,m4⟩:=hm
 by_cases e:(m==N)=true
 . rw[if_pos e];exact⟨hb,BE _,m1,by omega,m3⟩
 . rw[if_neg e];have ne:m≠N:=fun z=>e (by simp[z]);have lt:=m4 (by omega)
   by_cases g:m > 1
   . rw[if_pos g];refine⟨⟨hb _,hb _⟩,?_⟩
     by_cases c:r (p.getD 0 0) < r (p.getD (m - 1) 0)
     . refine zhp c ?_;exact⟨hb,BE _,m1,by omega,m3⟩
     . refine zhq c ?_;have hz:m<=p.size:=by omega
       have all:∀ k,k < m->R r p k=R r p (m - 1):=fun k hk=>EO (m3 k (m - 1) (by omega) (by omega)) (CB (Int.not_lt.mp c) (m3 0 k (by omega) hk));have e:=zgM (i:=0) hz fun k _ hk=>all k hk;have dn:Dn r p m:=fun i j a b=>by rw[all i (by omega),all j b];exact Cm _
       refine Hd.mono (fun u hu=>?_) (zdD (zef (i:=0) hz hb) ((zjN _ _ _).trans hs) m1 (by omega) ((dn.more (.inr (Ca lt))).same e));exact⟨hu.1,hu.2.1.trans (zh8 _ _ _),hu.2.2⟩
   . rw[if_neg g];have m1':m=1:=by omega
     subst m1';have dn:Dn r p 1:=fun i j a b=>by
       have:i=j:=by omega
       rw[this];exact Cm _
     exact zdD hb hs (Af _) (by omega) (dn.more (.inr (Ca lt)))
theorem zeU{p:Array Nat}{k:Nat}(hb:Bel n p)(hu:Up r p k):∀ (f a b:Nat),a<=b->b<=k->b<=a+f->(∀ x,x < a->R r p x<=R r p k)->(∀ x,b<=x->x < k->R r p k<=R r p x) ->
   Hd n r (kas_place p k f a b) fun l=>l<=k/\(∀ x,x < l->R r p x<=R r p k)/\∀ x,l<=x->x < k->R r p k<=R r p x
 | 0,a,b,h1,h2,h3,hl,hr=>by
   have:a=b:=by omega
   subst this;exact⟨h2,hl,hr⟩
 | f+1,a,b,h1,h2,h3,hl,hr=>by
   unfold kas_place
   by_cases g:a ≥ b
   . rw[if_pos g];have:a=b:=by omega
     subst this;exact⟨h2,hl,hr⟩
   . rw[if_neg g];refine⟨⟨hb _,hb _⟩,?_⟩
     by_cases c:r (p.getD k 0) < r (p.getD ((a+b) / 2) 0)
     . refine zhp c ?_;refine zeU hb hu f a ((a+b) / 2) (by omega) (by omega) (by omega) hl fun x x1 x2=>?_;exact CB (Ca c) (hu ((a+b) / 2) x x1 x2)
     . refine zhq c ?_;refine zeU hb hu f ((a+b) / 2+1) b (by omega) h2 (by omega) (fun x hx=>?_) hr;exact CB (hu x ((a+b) / 2) (by omega) (by omega)) (Int.not_lt.mp c)
theorem zmc{N:Nat}:∀ (f:Nat) (p:Array Nat) (k:Nat),Bel n p->p.size=N->k+f=N->Up r p k->Hd n r (kas_bin f p k) fun q=>q.Perm p/\Up r q N
 | 0,p,k,hb,hs,hk,hu=>⟨BE _,by rw[<-hk];exact hu⟩
 | f+1,p,k,hb,hs,hk,hu=>by
   unfold kas_bin;refine Hd.bind (Hd.mono (fun l hl=>?_) (zeU hb hu k 0 k (A7 _) (Af _) (by omega) (fun x hx=>absurd hx (ER _)) fun x a b=>absurd (As b a) (AM _)));obtain⟨l1,l2,l3⟩:=hl;have hks:k < p.size:=by omega
   refine Hd.mono (fun q hq=>⟨hq.1.trans (bubble_perm _ _ _),hq.2⟩) (zmc f (bubble p k (k - l)) (k+1) (zl9 hks (by omega) hb) ((bubble_size _ _ _).trans hs) (by omega) fun i j hij hj=>?_);have g:∀ x,R r (bubble p k (k - l)) x=if x=l then R r p k else if l < x/\x<=k then R r p (x - 1) else R r p x:=fun x=>by
     unfold R;rw[zjk hks (by omega)];have e:k - (k - l)=l:=by omega
     rw[e]
     by_cases a1:x=l
     . rw[if_pos a1,if_pos a1]
     . rw[if_neg a1,if_neg a1]
       by_cases a2:l < x/\x<=k
       . rw[if_pos a2,if_pos a2]
       . rw[if_neg a2,if_neg a2]
   rw[g i,g j]
   by_cases h1:i=l
   . rw[if_pos h1]
     by_cases h2:j=l
     . rw[if_pos h2];exact Cm _
     . rw[if_neg h2,if_pos (by omega)];exact l3 (j - 1) (by omega) (by omega)
   . rw[if_neg h1]
     by_cases h2:j=l
     . rw[if_pos h2,if_neg (by omega)];exact l2 i (by omega)
     . rw[if_neg h2]
       by_cases h3:l < i/\i<=k
       . rw[if_pos h3,if_pos (by omega)];exact hu (i - 1) (j - 1) (by omega) (by omega)
       . rw[if_neg h3]
         by_cases h4:l < j/\j<=k
         . rw[if_pos h4];exact hu i (j - 1) (by omega) (by omega)
         . rw[if_neg h4];exact hu i j hij (by omega)
theorem zh9{n:Nat}(hn:1<=n):Bel n (Bs (AJ n)):=fun k=>by
 rw[Br,DF]
 by_cases h:k < n
 . rw[CJ h];exact h
 . rw[List.getElem?_eq_none_iff.mpr (by rw[C1];omega)];exact hn
theorem sort_ok(hn:1<=n):Hd n r (kas_sort n) fun q=>q.Perm (Bs (AJ n))/\Up r q n:=by
 unfold kas_sort;have hs:(Bs (AJ n)).size=n:=by simp
 refine Hd.bind (Hd.mono (fun t ht=>?_) (zkt (zh9 hn) hs hn));obtain⟨t1,t2,t3,t4,t5⟩:=ht
 by_cases h:t.1 < n
 . rw[if_pos h];have e:max t.1 1=t.1:=Nat.max_eq_left t3;rw[e];refine Hd.mono (fun q hq=>⟨hq.1.trans t2,hq.2⟩) (zmc (N:=n) (n - t.1) t.2 t.1 t1 (t2.size_eq.trans hs) (by omega) t5)
 . rw[if_neg h];have e:t.1=n:=by omega
   exact⟨t2,by rw[<-e];exact t5⟩
end
end Srt
namespace L2.MP
open PySem PySem.Spec PyProof.Rows
theorem zlQ:∀ a:List Int,HT.lexLt a a=false
 | []=>rfl
 | x::r=>by rw[HT.lexLt_cons,if_pos rfl];exact zlQ r
theorem zjc:∀ {a b:List Int},HT.lexLt a b=false->HT.lexLt b a=false->a=b
 | [],[],_,_=>rfl
 | [],_::_,h,_=>by rw[HT.lexLt_nil_cons] at h;cases h
 | _::_,[],_,h=>by rw[HT.lexLt_nil_cons] at h;cases h
 | x::a,y::b,h1,h2=>by
   rw[HT.lexLt_cons] at h1 h2
   by_cases e:x=y
   . subst e;rw[if_pos rfl] at h1 h2;rw[zjc h1 h2]
   . rw[if_neg e] at h1;rw[if_neg (BJ e)] at h2;have a1:=of_decide_eq_false h1;have a2:=of_decide_eq_false h2;omega
theorem zhc:∀ {a b c:List Int},HT.lexLt b a=false->HT.lexLt c b=false->HT.lexLt c a=false
 | a,[],c,_,h2=>by
   cases c with
   | nil =>
     cases a with
     | nil=>rfl
     | cons x a=>rename_i h1;rw[HT.lexLt_nil_cons] at h1;cases h1
   | cons z c =>
     cases a with
     | nil=>exact HT.lexLt_cons_nil _ _
     | cons x a=>rename_i h1;rw[HT.lexLt_nil_cons] at h1;cases h1
 | a,y::b,[],_,h2=>by rw[HT.lexLt_nil_cons] at h2;cases h2
 | [],y::b,z::c,_,_=>HT.lexLt_cons_nil _ _
 | x::a,y::b,z::c,h1,h2=>by
   rw[HT.lexLt_cons] at h1 h2 ⊢
   by_cases e1:y=x
   . subst e1;rw[if_pos rfl] at h1
     by_cases e2:z=y
     . subst e2;rw[if_pos rfl] at h2 ⊢;exact zhc h1 h2
     . rw[if_neg e2] at h2 ⊢;exact h2
   . rw[if_neg e1] at h1;have a1:=of_decide_eq_false h1
     by_cases e2:z=y
     . subst e2;rw[if_neg e1];exact h1
     . rw[if_neg e2] at h2;have a2:=of_decide_eq_false h2;rw[if_neg (by omega)];exact decide_eq_false (by omega)
theorem zjb{a b:List Int}(h:HT.lexLt a b=true):HT.lexLt b a=false:=by
 cases e:HT.lexLt b a with
 | false=>rfl
 | true =>
   -- b < a and a < b: then not (a < a) breaks
   exfalso;have:∀ {a b:List Int},HT.lexLt a b=true->HT.lexLt b a=true->False:=by
     intro a
     induction a with
     | nil=>intro b h1 h2;cases b with
       | nil=>rw[HT.lexLt_nil_nil] at h1;cases h1
       | cons y b=>rw[HT.lexLt_cons_nil] at h2;cases h2
     | cons x a ih=>intro b h1 h2;cases b with
       | nil=>rw[HT.lexLt_cons_nil] at h1;cases h1
       | cons y b =>
         rw[HT.lexLt_cons] at h1 h2
         by_cases q:x=y
         . subst q;rw[if_pos rfl] at h1 h2;exact ih h1 h2
         . rw[if_neg q] at h1;rw[if_neg (BJ q)] at h2;have a1:=of_decide_eq_true h1;have a2:=of_decide_eq_true h2;omega
   exact this h e
noncomputable def tle(a b:List Int):Bool:=!HT.lexLt b a
noncomputable def zmj(ts:List (List Int)):List (List Int):=ts.mergeSort tle
theorem zdH(a b c:List Int)(h1:tle a b=true)(h2:tle b c=true):tle a c=true:=by
 unfold tle at *;rw[Bj] at *;exact zhc h1 h2
theorem zhS(a b:List Int):(tle a b || tle b a)=true:=by
 unfold tle
 cases e:HT.lexLt b a with
 | false=>rfl
 | true=>rw[zjb e];rfl
theorem zjt{a b:List Int}(h1:tle a b=true)(h2:tle b a=true):a=b:=by
 unfold tle at *;rw[Bj] at *;exact zjc h2 h1
noncomputable def rank(ts:List (List Int))(i:Nat):Int:=((ts.countP fun t=>HT.lexLt t (ts.getD i [])):Nat)
theorem zi7{ts:List (List Int)}{i j:Nat}(hi:i < ts.length):(decide (rank ts i < rank ts j))=HT.lexLt (ts.getD i []) (ts.getD j []):=by
 unfold rank
 cases e:HT.lexLt (ts.getD i []) (ts.getD j []) with
 | true =>
   refine decide_eq_true ?_;have le:ts.countP (fun t=>HT.lexLt t (ts.getD i [])) < ts.countP (fun t=>HT.lexLt t (ts.getD j [])):=by
     have hm:ts.getD i []∈ts:=by rw[Av,Ah hi];exact Cr hi
     generalize ha:ts.getD i []=a at *;generalize hb:ts.getD j []=b at *;clear ha hb hi;have sub:∀ t,HT.lexLt t a=true->HT.lexLt t b=true:=fun t ht=>by
       cases q:HT.lexLt t b with
       | true=>rfl
       | false =>
         exfalso
         -- b<=t,t < a,a < b
         have h1:HT.lexLt a t=false:=zjb ht;have:HT.lexLt a b=false:=by
           have h2:tle b t=true:=by unfold tle;rw[q];rfl
           have h3:tle t a=true:=by unfold tle;rw[h1];rfl
           have:=zdH b t a h2 h3;unfold tle at this;rw[Bj] at this;exact this
         rw[e] at this;cases this
     induction ts with
     | nil=>exact absurd hm (by simp)
     | cons t r ih =>
       rw[ED,ED]
       rcases List.mem_cons.mp hm with q | q
       . subst q;rw[zlQ,e];have:r.countP (fun t=>HT.lexLt t a)<=r.countP (fun t=>HT.lexLt t b):=DG fun t _ ht=>sub t ht;simp only[Be,if_false,if_true];omega
       . have:=ih q
         by_cases c:HT.lexLt t a=true
         . rw[if_pos c,if_pos (sub t c)];omega
         . rw[if_neg c];split <;> omega
   omega
 | false =>
   refine decide_eq_false ?_;have le:ts.countP (fun t=>HT.lexLt t (ts.getD j []))<=ts.countP (fun t=>HT.lexLt t (ts.getD i [])):=DG fun t _ ht=>by
     cases q:HT.lexLt t (ts.getD i []) with
     | true=>rfl
     | false =>
       exfalso;have h2:tle (ts.getD j []) (ts.getD i [])=true:=by unfold tle;rw[e];rfl
       have h3:tle (ts.getD i []) t=true:=by unfold tle;rw[q];rfl
       have h4:=zdH _ _ _ h2 h3;unfold tle at h4;rw[ht] at h4;cases h4
   omega
theorem znz{n:Nat}{r:Nat->Int}{α:Type}{P:α->Prop}{Q:α->Shared->Prop}{s:Shared}{cmp:Nat->Nat->(Bool->Shared->Prop)->Shared->Prop}(hc:∀ i j,i < n->j < n->∀ C:Bool->Shared->Prop,C (decide (r i < r j)) s->cmp i j C s)(hq:∀ a,P a->Q a s) :
   ∀ {t:PySem.W.KasT α},Srt.Hd n r t P->t.kasWp cmp Q s
 | .ret a,h=>hq a h
 | .ask i j k,h=>hc i j h.1.1 h.1.2 _ (znz hc hq (t:=k _) h.2)
section
variable {prog:Program} {w:World} {A:Around} {E:Value->Shared->Prop} {s:Shared}
theorem zdC{Q:Bool->Shared->Prop}:∀ {xs ys:List Int} {us ws:List Value} (i:Nat),Vals (xs.map V.int) us->Vals (ys.map V.int) ws->Q (HT.lexLt xs ys) s->PySem.W.KatLex prog w A true (decide (us.length < ws.length)) Q (us.zip ws) i s
 | [],[],_,_,i,.nil,.nil,h=>h
 | [],y::ys,_,_,i,.nil,.cons r t,h=>by
   show Q (decide (_ < _)) s;rw[decide_eq_true (by simp)];exact h
 | x::xs,[],_,_,i,.cons r t,.nil,h=>by
   show Q (decide (_ < _)) s;rw[decide_eq_false (by simp)];exact h
 | x::xs,y::ys,_,_,i,.cons r1 t1,.cons r2 t2,h=>by
   obtain⟨a1,rfl⟩:=r1;obtain⟨a2,rfl⟩:=r2;rw[HT.lexLt_cons] at h;refine Ec x a1 y a2 prog w _ _ ?_
   by_cases e:x=y
   . subst e;rw[if_pos rfl] at h;rw[beq_self_eq_true,if_pos rfl];have:=zdC (Q:=Q) (i+1) t1 t2 h;rw[AD,AD];have e2:∀ a b:Nat,decide (a+1 < b+1)=decide (a < b):=fun a b=>by
       by_cases q:a < b
       . rw[decide_eq_true q,decide_eq_true (by omega)]
       . rw[decide_eq_false q,decide_eq_false (by omega)]
     rw[e2];exact this
   . rw[if_neg e] at h;have hb:(x==y)=false:=by simpa using e
     rw[hb,if_neg Bd]
     by_cases hi:i=0
     . subst hi;exact oneLt_int h
     . have:(true&&i==0)=false:=by simpa using hi
       rw[this];exact PySem.W.kat_one _ _ (EI h)
end
section
variable {X:Cx} {pins:List (Addr×Obj)} {σ:L2.St} {H:Hp} {s:Shared}
noncomputable def zgj(H:Hp):List V->List (List Int)->Prop:=Paired fun v t=>∃ a,v=.ref a/\H a=some (.tup (t.map V.int))/\t≠[]
theorem zeL:∀ {xs:List V} {ts:List (List Int)} {i:Nat},zgj H xs ts->i < ts.length->∃ a,xs[i]?=some (.ref a)/\H a=some (.tup ((ts.getD i []).map V.int))/\ts.getD i []≠[]
 | _,[],i,_,hi=>absurd hi (by simp)
 | _,t::ts,0,.cons r q,_=>by
   obtain⟨a,rfl,ha,hn⟩:=r;exact⟨a,rfl,ha,hn⟩
 | _,t::ts,i+1,.cons r q,hi=>by
   have:=zeL (i:=i) q (by simpa using hi);simpa using this
theorem zmg{A:Around}{xs:List V}{us:List Value}{ts:List (List Int)}{s':Shared}(I:Inv X pins σ H s)(hk:∀ b o,H b≠none->s.heap.get? b=some o->s'.heap.get? b=some o)(T:zgj H xs ts)(r:Vals xs us){i j:Nat}(hi:i < ts.length)(hj:j < ts.length)(C:Bool->Shared->Prop)
   (h:C (decide (rank ts i < rank ts j)) s'):ES X.prog X.w A (PyProof.Rows.tuples' true) us i j C s':=by
 rw[zi7 hi] at h;obtain⟨a,ea,ha,_⟩:=zeL T hi;obtain⟨b,eb,hb,_⟩:=zeL T hj;obtain⟨u,eu,ru⟩:=r.get ea;obtain⟨u2,eu2,ru2⟩:=r.get eb;cases ru;cases ru2;obtain⟨ia,va,⟨oa,ga,ca,na,da⟩,_⟩:=I.tuple (SqT.of (K:=X.K) ha);obtain⟨ib,vb,⟨ob,gb,cb,nb,db⟩,_⟩:=I.tuple (SqT.of (K:=X.K) hb);unfold ES;rw[Av,Av,eu,eu2];refine PySem.W.kat_lt (hk _ _ (by rw[ha];simp) ga) da (hk _ _ (by rw[hb];simp) gb) db ?_;have:=zdC (prog:=X.prog) (w:=X.w) (A:=A) (Q:=C) (s:=s') 0 va vb h;simpa using this
end
section
variable {X:Cx} {pins:List (Addr×Obj)} {σ:L2.St} {H:Hp} {s:Shared}
theorem ze0{h':Heap}(I:Inv X pins σ H s)(hk:∀ b o,H b≠none->s.heap.get? b=some o->h'.get? b=some o):∀ {xs:List V} {us:List Value} {ts:List (List Int)},zgj H xs ts->Vals xs us ->
   ∃ fs:List Value,PySem.W.KatTups h' us fs/\fs.length=us.length/\∀ v∈fs,∃ i t,v=D9 i t
 | _,_,[],.nil,.nil=>⟨[],Fx,rfl,fun v hv=>absurd hv (by simp)⟩
 | _,_,t::ts,.cons r q,.cons rv rvs=>by
   obtain⟨a,rfl,ha,hn⟩:=r;cases rv;obtain⟨fs,h1,h2,h3⟩:=ze0 I hk q rvs;obtain⟨its,va,⟨o,g,c,n,d⟩,_⟩:=I.tuple (SqT.of (K:=X.K) ha)
   cases t with
   | nil=>exact absurd rfl hn
   | cons x t =>
     cases va with
     | @cons _ u _ us' ru rus =>
       obtain⟨tk,rfl⟩:=ru;refine⟨.int x tk::fs,Fw (hk _ _ (by rw[ha];simp) g) c d (by simp) h1,by rw[AD,AD,h2],fun v hv=>?_⟩
       rcases List.mem_cons.mp hv with rfl | hv
       . exact⟨x,tk,rfl⟩
       . exact h3 v hv
end
theorem zfo{P:Program}{w:World}{H:Hp}{h:Heap}{a:Addr}{o:HO}(x:zdn P w H h a o):∃ u,h.get? a=some u:=by
 cases o with
 | lst xs=>obtain⟨_,_,_,_,e⟩:=x;exact⟨_,e⟩
 | tup xs=>obtain⟨_,_,_,o,e,_⟩:=x;exact⟨_,e⟩
 | dK kvs=>obtain⟨_,_,_,_,o,_,_,e,_⟩:=x;exact⟨_,e⟩
 | dT kvs=>obtain⟨_,_,_,_,o,_,_,e,_⟩:=x;exact⟨_,e⟩
 | set S n=>obtain⟨o,_,_,_,e,_⟩:=x;exact⟨_,e⟩
 | ins C dx fs=>obtain⟨_,_,_,e,_⟩:=x;exact⟨_,e⟩
 | own y=>exact x
 | xd fs=>obtain⟨_,⟨_,_,_,e,_⟩,_⟩:=x;exact⟨_,e⟩
 | rng lo hi=>obtain⟨_,_,_,e⟩:=x;exact⟨_,e⟩
 | frz ob u=>obtain⟨e,_⟩:=x;exact⟨_,e⟩
 | tbl ps=>exact⟨_,x⟩
 | met f y=>exact⟨_,x⟩
 | ext φ=>obtain⟨_,e,_⟩:=x;exact e
theorem zlH{h:Heap}{a:Addr}{m m':Str->Option Value}(x:h.Ns a m)(y:h.Ns a m'):m=m':=by
 obtain⟨o,es,ep,ho,hd,_,hm⟩:=x;obtain⟨o',es',ep',ho',hd',_,hm'⟩:=y;rw[ho] at ho';cases ho';rw[hd] at hd';cases hd'
 funext n
 rw[<-hm n,hm' n]
section
variable {X:Cx} {pins:List (Addr×Obj)} {σ:L2.St} {H:Hp} {s:Shared}
theorem Inv.laidAt{h':Heap}{m:Str->Option Value}{a:Addr}{o:HO}(I:Inv X pins σ H s)(k:∀ b u,b≠X.env.locals->s.heap.get? b=some u->h'.get? b=some u)(ns:∀ m,s.heap.Ns X.env.locals m->h'.Ns X.env.locals m)(hL:∃ u,h'.get? X.env.locals=some u)
   (ha:s.heap.get? a=none) (hH:H a=none) (haL:a≠X.env.locals) (new:zdn X.prog X.w (upd H a o) h' a o):Inv X pins σ (upd H a o) { s with heap:=h' }:=by
 have na:∀ b u,s.heap.get? b=some u->b≠a:=fun b u e z=>by rw[z,ha] at e;cases e
 refine Inv.step (t':=s.toks) (ch:=[]) (g':=s.gens) (d':=s.drawn) I (fun b hb=>absurd hb (by simp)) (fun b u h1 _ _ e _=>k b u h1 e) (fun b u h1 _ _ e _=>⟨u.slots,k b u h1 e⟩) (fun b u _ e n=>by rw[zaJ (na b u e)];exact n) (fun b u _ e=>?_)
   (fun b xs e=>by rw[zaJ (zan e hH)];exact e) (fun b u v e=>by rw[zaJ (zan e hH)];exact e) (fun b ps e=>⟨#[],by rw[zaJ (zan e hH),e];simp⟩) ns (fun b u e=>?_) I.bare
 . by_cases hb:b=X.env.locals
   . rw[hb];exact hL
   . exact⟨u,k b u hb e⟩
 . by_cases hb:b=a
   . subst hb;rw[zbt] at e;cases e;exact new
   . rw[zaJ hb] at e;refine (I.hok b u e).stay (fun c v hc q=>k c v (fun z=>?_) q) (fun c q=>by rw[zaJ (zan q hH)];exact q) fun c xs q=>by rw[zaJ (zan q hH)];exact q
     subst z
     rcases hc with rfl | hc
     . rw[I.free] at e;cases e
     . rw[I.free] at hc;cases hc
theorem zfK{xs:List V}{ts:List (List Int)}{l:Addr}{Q:VK}(I:Inv X pins σ H s)(hl:SqL X.K H l xs)(T:zgj H xs ts)(h2:2<=ts.length)(h64:ts.length < 64)
   (h:∀ (q:Array Nat) (p:Addr),q.Perm (Bs (AJ ts.length))->Srt.Up (rank ts) q ts.length->H p=none->Q (.ref p) (upd H p (.lst (q.toList.map fun i=>xs.getD i .non)))) :
   wpAny (model X.prog X.w) X.A (call (.builtin "sorted") [.ref l]) (EP X pins σ Q) X.xe s:=by
 obtain⟨its,rv,pl,hz⟩:=I.list hl;have hlen:its.length=ts.length:=by
   have a:=rv.length;have b:=Bk T;omega
 obtain⟨m,F⟩:=I.fr;have trkL:∀ b,H b≠none->b≠X.env.locals:=fun b hb z=>hb (by rw[z];exact I.free);have trkB:∀ b,H b≠none->X.base.get? b=none:=fun b hb=>by
   cases e:X.base.get? b with
   | none=>rfl
   | some o=>exact absurd (I.bs b o e).2 hb
 refine PySem.W.kat_sorted F (zeW (g:=X.base) (h:=s.heap) (L:=X.env.locals)) pl.isList (by omega) (by omega) fun D e1 h' F' N' hlt=>?_;have keep:∀ {h2:Heap} {o:Obj},Fr X.base X.env.locals h2 m->News X.base X.env.locals h2 ((D,o)::zdm X.base s.heap X.env.locals)->∀ b u,b≠X.env.locals->s.heap.get? b=some u->h2.get? b=some u:=fun {h2 o} F2 N2 b u hb e=>by
   cases q:X.base.get? b with
   | some v =>
     have z:=(I.bs b v q).1;rw[e] at z;cases z;exact F2.keep b _ q
   | none=>exact (N2 (b,u) (Ak _ (zcB hb q e))).1
 have hk:∀ b o,H b≠none->s.heap.get? b=some o->h'.get? b=some o:=fun b o hb e=>keep F' N' b o (trkL b hb) e;have hDD:=N' _ An;have hsD:s.heap.get? D=none:=by
   cases e:s.heap.get? D with
   | none=>rfl
   | some u=>exact absurd (hlt _ (zcB hDD.2.1 hDD.2.2 e)) (AM _)
 have hHD:H D=none:=by
   cases e:H D with
   | none=>rfl
   | some o =>
     obtain⟨u,hu⟩:=zfo (I.hok D o e);rw[hsD] at hu;cases hu
 obtain⟨fs,k1,k2,k3⟩:=ze0 (h':=h') I hk T rv;refine EE (s:={ s with heap:=h' }) (T:=.type "int") k1 (by omega) (fun v hv=>?_) rfl ?_
 . obtain⟨i,t,rfl⟩:=k3 v hv;exact DH rfl
 have ok:=Srt.sort_ok (n:=its.length) (r:=rank ts) (by omega);refine znz (n:=its.length) (r:=rank ts) (s:={ s with heap:=h' }) (fun i j hi hj C hC=>zmg (s':={ s with heap:=h' }) I hk T rv (by omega) (by omega) C hC) (fun q hq=>?_) ok;refine DR F' N' (Eu fun p hp=>Aw (hlt p hp)) fun h2 c F2 N2=>?_;have hD2:=(N2 _ An).1;rw[hlen] at hq;have vals:Vals (q.toList.map fun i=>xs.getD i .non) (q.toList.map fun i=>its.getD i Bp):=by
   have hmem:∀ i∈q.toList,i < xs.length:=fun i hi=>by
     have:i∈(Bs (AJ ts.length)).toList:=(Array.perm_iff_toList_perm.mp hq.1).mem_iff.mp hi;have hr:=rv.length;simp at this;omega
   generalize q.toList=ql at hmem
   induction ql with
   | nil=>exact .nil
   | cons i r ih =>
     refine .cons ?_ (ih fun j hj=>hmem j (Ak _ hj));have hi:=hmem i An;obtain⟨u,eu,ru⟩:=rv.get (Ah hi);show RelV (xs.getD i V.non) (its.getD i Bp);rw[Av,Av,Ah hi,eu];exact ru
 have hql:q.toList.length=ts.length:=by
   have:=(Array.perm_iff_toList_perm.mp hq.1).length_eq;simpa using this
 have J:Inv X pins σ (upd H D (.lst (q.toList.map fun i=>xs.getD i .non))) { s with heap:=h2 } :=
   Inv.laidAt (m:=m) I (keep F2 N2) (fun m' hm'=>by rw[zlH hm' F.ns];exact F2.ns) (let ⟨o,_,_,e,_⟩:=F2.ns;⟨o,e⟩) hsD hHD hDD.2.1 ⟨by rw[Ag,hql];exact lt64 h64,_,c,vals,hD2⟩
 exact⟨.ref D,_,J,rfl,h q D hq.1 hq.2 hHD⟩
end
theorem zdV{α:Type}(ts:List α)(d:α):(AJ ts.length).map (fun i=>ts.getD i d)=ts:=by
 apply List.ext_getElem
 . simp
 . intro i h1 h2;simp[Av,Ah h2]
theorem zdz{ts:List (List Int)}{q:Array Nat}(hp:q.Perm (Bs (AJ ts.length)))(hu:Srt.Up (rank ts) q ts.length):q.toList.map (fun i=>ts.getD i [])=zmj ts:=by
 have hl:=Array.perm_iff_toList_perm.mp hp;have hl:q.toList.Perm (AJ ts.length):=by simpa using hl
 have hsz:q.toList.length=ts.length:=by rw[hl.length_eq,C1]
 have p1:(q.toList.map fun i=>ts.getD i []).Perm ts:=by
   have:=hl.map fun i=>ts.getD i [];rw[zdV] at this;exact this
 refine zc3 (le:=fun a b=>tle a b=true) (p1.trans (D2 ts tle).symm) ?_ (Dl (fun a b c=>zdH a b c) zhS ts) fun a _ b _=>zjt;rw[List.pairwise_iff_getElem];intro i j hi hj hij;rw[EF,EF];rw[Ag] at hi hj;have hu:=hu i j (BI hij) (by omega);have gi:∀ (k:Nat) (hk:k < q.toList.length),q.getD k 0=q.toList[k]:=fun k hk=>by
   rw[Br,<-DI,Ah hk];rfl
 unfold Srt.R at hu;rw[gi i hi,gi j hj] at hu;have lt:∀ k∈q.toList,k < ts.length:=fun k hk=>List.mem_range.mp (hl.mem_iff.mp hk);have e:=zi7 (ts:=ts) (i:=q.toList[j]) (j:=q.toList[i]) (lt _ (Cr hj));rw[decide_eq_false (by omega)] at e;unfold tle;rw[<-e];rfl
noncomputable def intsOf:List D->Option (List Int)
 | []=>some []
 | .int i::r=>(intsOf r).map fun is=>i::is
 | _=>none
theorem zf9{d:D}{r:List D}{ss:List Int}(h:intsOf (d::r)=some ss):∃ x xs,d=.int x/\intsOf r=some xs/\ss=x::xs:=by
 cases d with
 | int x =>
   obtain⟨xs,e,h⟩:=zag h;exact⟨x,xs,rfl,e,h.symm⟩
 | _=>cases h
noncomputable def rowOf:D->Option (List Int)
 | .tup ds=>(intsOf ds).bind fun t=>if (!t.isEmpty)=true then some t else none
 | _=>none
noncomputable def rowsOf:List D->Option (List (List Int))
 | []=>some []
 | d::r=>(rowOf d).bind fun t=>(rowsOf r).map fun ts=>t::ts
noncomputable def tupD(t:List Int):D:=.tup (t.map D.int)
section
variable {X:Cx} {K:Ab} {H:Hp} {io:List Addr} {st st':Sto}
theorem ints_rep:∀ {xs:List V} {ds:List D} {t:List Int},Reps K H io xs ds->intsOf ds=some t->xs=t.map V.int/\ds=t.map D.int
 | _,[],t,h,e=>by cases e;exact⟨h,rfl⟩
 | _,d::ds,t,h,e=>by
   obtain⟨y,ys,rfl,h1,h2⟩:=h;obtain⟨x,rest,rfl,e2,rfl⟩:=zf9 e;obtain⟨a,b⟩:=ints_rep h2 e2
   cases (show y=.int x from h1)
   rw[a,b];exact⟨rfl,rfl⟩
theorem zgJ:∀ {xs:List V} {ds:List D} {ts:List (List Int)},Reps K H io xs ds->rowsOf ds=some ts->zgj H xs ts/\ds=ts.map tupD
 | _,[],ts,h,e=>by
   cases e;cases (show _=[] from h);exact⟨.nil,rfl⟩
 | _,d::ds,ts,h,e=>by
   obtain⟨y,ys,rfl,h1,h2⟩:=h;obtain⟨t,e1,e⟩:=zad e;obtain⟨us,e2,e⟩:=zag e;subst e;obtain⟨a,b⟩:=zgJ h2 e2
   cases d with
   | tup zs =>
     obtain⟨t',f1,f2⟩:=zad e1;obtain⟨hn,f2⟩:=zar f2;cases f2;obtain⟨p,vs,rfl,hp,rs⟩:=h1;obtain⟨q1,q2⟩:=ints_rep rs f1;subst q1;refine⟨.cons ⟨p,rfl,hp,fun z=>?_⟩ a,?_⟩
     . rw[z] at hn;exact absurd hn (by decide)
     . rw[b,q2];rfl
   | _=>cases e1
noncomputable def zeP:GN
 | [.ref n],st=>(zbf st n).bind fun ds=>(rowsOf ds).bind fun ts=>if (decide (2<=ts.length)&&decide (ts.length < 64))=true then some (.ref st.length,st++[.lst ((zmj ts).map tupD)]) else none
 | _,_=>none
theorem zdM{xs:List V}{ts:List (List Int)}(r:Reps K H io xs (ts.map tupD)):∀ {q:List Nat},(∀ i∈q,i < ts.length)->Reps K H io (q.map fun i=>xs.getD i .non) ((q.map fun i=>ts.getD i []).map tupD)
 | [],_=>rfl
 | i::q,h=>by
   have hi:=h i An;have hg:(ts.map tupD)[i]?=some (tupD (ts.getD i [])):=by
     rw[AL,Ah hi,Av,Ah hi];rfl
   obtain⟨v,hv,rv⟩:=r.get hg;refine⟨_,_,rfl,?_,zdM r fun j hj=>h j (Ak _ hj)⟩;show Rep K H io (xs.getD i .non) _;rw[Av,hv];exact rv
theorem zeu:zdo X (.builtin "sorted") zeP:=by
 rintro pins s σ H xs us Q I r ⟨ds,st,io,d,st',R,S,e,k⟩;unfold zeP at e
 split at e
 . rename_i n;obtain⟨zs,e0,e⟩:=zad e;obtain⟨ts,e1,e⟩:=zad e;obtain⟨hl,e⟩:=zar e;cases e;rw[Ar] at hl;obtain⟨v,rfl,p,rfl,hp⟩:=R.one;obtain⟨u,rfl,ru⟩:=r.one;cases ru;obtain⟨ys,hx,r1⟩:=zaX S hp e0;obtain⟨T,hd⟩:=zgJ r1 e1;subst hd;refine zfK I hx T (of_decide_eq_true hl.1) (of_decide_eq_true hl.2) fun q p' hq hu hf=>?_;have hm:∀ i∈q.toList,i < ts.length:=fun i hi=>by
     have:=(Array.perm_iff_toList_perm.mp hq).mem_iff.mp hi;simpa using this
   have rr:=zdM r1 hm;rw[zdz hq hu] at rr;exact k.lst S rr hf
 . cases e
end
section
variable {X:Cx} {K:Ab} {H:Hp} {io:List Addr} {st st':Sto} {a b c e:Expr} {es:List Expr} {ma mb mc m:ME} {mm:MA} {pos:Pos} {pins:List (Addr×Obj)} {σ:L2.St} {s:Shared}
noncomputable def orO{α:Type}:Option α->Option α->Option α
 | some x,_=>some x
 | none,y=>y
theorem zbJ{α:Type}{x y:Option α}{z:α}(h:orO x y=some z):x=some z\/y=some z:=by
 cases x with
 | none=>exact .inr h
 | some w=>exact .inl h
noncomputable def orG(g h:G2):G2:=fun x y st=>orO (g x y st) (h x y st)
noncomputable def orN(g h:GN):GN:=fun xs st=>orO (g xs st) (h xs st)
theorem zfW{f:Value->Value->Sem Value}{g h:G2}(p:OpM X f g)(q:OpM X f h):OpM X f (orG g h):=by
 rintro pins s σ H x y v u Q I rx ry ⟨dx,dy,st,io,d,st',Rx,Ry,S,e,k⟩
 rcases zbJ e with e | e
 . exact p pins s σ H x y v u Q I rx ry ⟨dx,dy,st,io,d,st',Rx,Ry,S,e,k⟩
 . exact q pins s σ H x y v u Q I rx ry ⟨dx,dy,st,io,d,st',Rx,Ry,S,e,k⟩
theorem zdg{f:Value}{g h:GN}(p:zdo X f g)(q:zdo X f h):zdo X f (orN g h):=by
 rintro pins s σ H xs us Q I r ⟨ds,st,io,d,st',R,S,e,k⟩
 rcases zbJ e with e | e
 . exact p pins s σ H xs us Q I r ⟨ds,st,io,d,st',R,S,e,k⟩
 . exact q pins s σ H xs us Q I r ⟨ds,st,io,d,st',R,S,e,k⟩
theorem zja{g:G2}{ρ:Rho}{x y:D}{s0 s1 s2:Sto}{r:D×Sto}(h1:ma ρ s0=some (x,s1))(h2:mb ρ s1=some (y,s2))(h3:g x y s2=some r):mBin g ma mb ρ s0=some r:=by
 unfold mBin;rw[h1];show Fv (mb ρ s1) _=_;rw[h2];exact h3
theorem zk8{g h:G2}(p:SE X e (mBin g ma mb))(q:SE X e (mBin h ma mb)):SE X e (mBin (orG g h) ma mb):=by
 rintro pins s σ H Q I ⟨ρ,st,io,d,st',E,S,e,k⟩;obtain⟨⟨x,s1⟩,e1,e⟩:=zad e;obtain⟨⟨y,s2⟩,e2,e⟩:=zad e
 rcases zbJ e with e | e
 . exact p pins s σ H Q I ⟨ρ,st,io,d,st',E,S,zja e1 e2 e,k⟩
 . exact q pins s σ H Q I ⟨ρ,st,io,d,st',E,S,zja e1 e2 e,k⟩
noncomputable def znF:G2:=fun d k st=>match d with
 | .ref n=>(look st n k).bind fun r=>r.map fun v=>(v,st)
 | _=>none
noncomputable def ixA:G2:=orG idxD znF
theorem zaF(hu:X.A.units+1 < cLine)(ha:SE X a ma)(hb:SE X b mb)(hs:zhJ b:=by intro _ _;rfl)(hs':NoSl b:=by intro _ _;rfl):SE X (.Subscript a b pos) (mBin ixA ma mb) :=
 zk8 (zod ha hb hs) (show SE X (.Subscript a b pos) (znT ma mb) from zk9 hu ha hb hs')
noncomputable def dinD(neg:Bool):G2:=fun k d st=>match d with
 | .ref n=>(look st n k).map fun r=>(.bl (if neg then !r.isSome else r.isSome),st)
 | _=>none
noncomputable def inA:G2:=orG (orG (inD false) inSD) (dinD false)
theorem zjJ(hu:X.A.units+100 < cLine)(ha:SE X a ma)(hb:SE X b mb)(hm:behindInMarks .In b=false:=by rfl):SE X (.Compare a [.In] [b] pos) (mBin inA ma mb) :=
 zk8 (zeS (zfW (zne hu) zlB) ha hb hm) (show SE X _ (mDIn false ma mb) from zmL (by omega) ha hb hm)
noncomputable def slA:D->Option Int->Option Int->Sto->Option (D×Sto):=fun x lo hi st=>orO (slD x lo hi st) (slS x lo hi st)
noncomputable def mSlA(m:ME)(l h:MO):ME:=fun ρ st=>(m ρ st).bind fun (x,s1)=>(l ρ s1).bind fun (lo,s2)=>(h ρ s2).bind fun (hi,s3)=>slA x lo hi s3
theorem zh2{lo hi:Option Expr}{ml mh:MO}{p2:Pos}(he:SE X e m)(hl:SO X lo ml)(hu:SO X hi mh):SE X (.Subscript e (.Slice lo hi none p2) pos) (mSlA m ml mh):=by
 rintro pins s σ H Q I ⟨ρ,st,io,d,st',E,S,e0,k⟩;obtain⟨⟨x,s1⟩,e1,e0⟩:=zad e0;obtain⟨⟨lo',s2⟩,e2,e0⟩:=zad e0;obtain⟨⟨hi',s3⟩,e3,e0⟩:=zad e0
 rcases zbJ e0 with e0 | e0
 . exact zjH he hl hu pins s σ H Q I ⟨ρ,st,io,d,st',E,S,by simp only[mSl,e1,e2,e3,Ae];exact e0,k⟩
 . exact zh0 he hl hu pins s σ H Q I ⟨ρ,st,io,d,st',E,S,by simp only[mSlS,e1,e2,e3,Ae];exact e0,k⟩
noncomputable def zi0:D->Sto->Option (Wk×Sto)
 | .ref n,s=>(zbf s n).map fun ds=>(⟨ds,[(n,ds)]⟩,s)
 | .tup ds,s=>some (⟨ds,[]⟩,s)
 | _,_=>none
noncomputable def mW(m:ME):MI:=fun ρ st=>(m ρ st).bind fun (d,s)=>zi0 d s
theorem zk5{tg l:Expr}(hl:SE X l m):SI X tg l (mW m):=by
 rintro pins s σ H R I ⟨ρ,st,io,W,st',E,S,e0,k⟩;obtain⟨⟨d,s1⟩,e1,e0⟩:=zad e0
 cases d with
 | ref n=>exact zk6 hl pins s σ H R I ⟨ρ,st,io,W,st',E,S,by unfold mWL;rw[e1];exact e0,k⟩
 | tup ds=>exact zmG hl pins s σ H R I ⟨ρ,st,io,W,st',E,S,by unfold mWT;rw[e1];exact e0,k⟩
 | _=>cases e0
noncomputable def setD:G3:=fun o i v st=>match o,i with
 | .ref n,.int k=>match st[n]? with
   | some (.lst ds)=>(ixN ds.length k).map fun j=>st.set n (.lst (ds.set j v))
   | _=>none
 | _,_=>none
theorem zob:SetM X setD:=by
 rintro pins s σ H o i v ov iv u Q I ro ri rv ⟨d1,d2,d3,st,io,st',R1,R2,R3,S,e,k⟩
 cases d1 with
 | ref n =>
   cases d2 with
   | int j =>
     unfold setD at e;dsimp only at e
     split at e
     . rename_i ds e0;obtain⟨q,e1,e⟩:=zag e;cases e;obtain⟨p,rfl,hp⟩:=R1;obtain⟨ys,hH,r⟩:=S.ob n p _ hp e0;refine set_list pins s σ H _ _ v ov iv u Q I ro ri rv ⟨p,ys,j,q,rfl,R2,hH,by rw[r.length];exact e1,?_⟩;obtain⟨E',S'⟩:=zgO (o:=.lst (ys.set q v)) (ob:=.lst (ds.set q d3)) S hp e0 (fun o u z=>by rw[hH] at z;cases z) fun H' T e'=>⟨_,e',(Reps.mono T r).set q (Rep.mono T R3)⟩
       exact k _ [] E' S'
     . cases e
   | _=>cases e
 | _=>cases d2 <;> cases e
noncomputable def putA(mo mi mv:ME):MS:=fun ρ st=>orO (mAsg mv (gSb setD mo mi) ρ st) (znn mo mi mv ρ st)
theorem zk0{o i value:Expr}{mo mi mv:ME}{pos':Pos}(hu:X.A.units+1 < cLine)(ho:SE X o mo)(hi:SE X i mi)(hv:SE X value mv)(hs:swapsWith value (some (.Subscript o i pos')) pos.line X.env=pure false:=by rfl)
   (ha:∀ v,assign (.Subscript o i pos') X.env v=(do
     let ov <-holding [v] (eval o X.env)
     let iv <-holding [v,ov] (eval i X.env)
     standAt pos'
     holding [v,ov,iv] (setItem ov iv v)
     release [v,ov,iv] []):=by intro _;rfl)
   (hs2:swapsWithSole [.Subscript o i pos'] value pos.line X.env=pure false:=by rfl) (hw:swappedStores [.Subscript o i pos'] value X.env=pure none:=by rfl)
   (h1:(assignEach [.Subscript o i pos'] X.env).map (·.2)=[assign (.Subscript o i pos') X.env]:=by rfl):SS X (.Assign [.Subscript o i pos'] value pos) (putA mo mi mv):=by
 intro pins s σ H N I h;obtain⟨ρ,st,io,f,st',E,S,e,w⟩:=zcN.mp h
 rcases zbJ e with e | e
 . exact zmB hv (zmI ho hi zob ha) hs2 hw h1 pins s σ H N I (zkG E S e w)
 . exact zk1 hu ho hi hv hs pins s σ H N I (zkG E S e w)
def za0(P:Program)(w:World)(K:Ab)(mg:Str->Option Value)(base:Heap)(k:Nat)(x:Str)(n:Nat)(g:GN):Prop :=
 ∃ f fd ps,FnOk P w K mg base CX0 k f fd ps (spM K n g)/\mg x=some (.ref f)/\By K (.ref f)=true/\Binds K fd ps []
def zak(n:Nat)(mm:MA):Prop:=∀ ρ st xs s,mm ρ st=some (xs,s)->xs.length=n
theorem zak.nil:zak 0 mNil:=fun _ _ _ _ h=>zj9 h
theorem zak.cons{n:Nat}(h:zak n mm):zak (n+1) (zab m mm):=fun _ _ _ _ q=>zij h q
theorem zah{x:Str}{p:Pos}{k n:Nat}{g:GN}(F:za0 X.prog X.w X.K X.mg X.base k x n g)(hr:Room k X.A)(hg:Gl X x)(ha:SA X (e::es) mm)(hl:zak n mm)(hdb:(x==("__debug__":Str))=false:=by decide)
   (he:starEach (e::es) X.env=(false,eval e X.env)::starEach es X.env:=by rfl) (hpl:(backTo pos (starEach es X.env)).any (·.1)=false:=by rfl) (hn:(e::es).length=n:=by rfl) :
   SE X (.Call (.Name x p) (e::es) [] pos) (zaq g mm):=by
 obtain⟨f,fd,ps,F,hm,hk,hb⟩:=F;exact zla F hr hg hm hk hb ha hdb he hpl hn hl
def Laid(K:Ab)(mg:Str->Option Value)(x:Str)(st:Stmt)(ps:List Str):Prop:=∃ f fd,Fun K x x st f fd/\mg x=some (.ref f)/\Binds K fd ps []
theorem zbp{P:Program}{w:World}{mg:Str->Option Value}{base:Heap}{x:Str}{st:Stmt}{N ps:List Str}{k:Nat}{m:MS}(L:Laid K mg x st ps)(S:FnScope N ps (zal st))
   (hbody:∀ (f:Addr) (cdv:Value) (A:Around) (outer:List Env) (s:Shared) (H:Hp) (E:XK),Room k (A.deeper (envOfC x (zal st) s.heap.objs.size f cdv)) ->
     SSs (cxOf CX0 P w K mg base N x (zal st) f cdv A outer s H E).nox (zbX st) m):za0 P w K mg base (k+1) x ps.length (fnM N.length m):=by
 obtain⟨f,fd,F,hm,hb⟩:=L;exact⟨f,fd,ps,fn_m F S (hbody f),hm,F.kp,hb⟩
end
section
variable {prog:Program} {w:World} {A:Around} {E:Value->Shared->Prop} {s:Shared}
theorem zhU{at_:Addr}{v:Value}{k:Nat}{R:PySem.Fin->Shared->Prop}(g0:s.heap.get? at_=some (seqObj "list" #[v] k))(fin:R (.done (.ret .none)) { s with heap:=sortedHeap s.heap at_ [v] #[v] }) :
   wpAny (model prog w) A (Builtin.«list.sort» ⟨[.ref at_],[]⟩) R E s:=by
 have lt0:=Aj g0;obtain⟨ep,g1⟩:∃ ep,(s.heap.update at_ (AU fun _=>(#[]:Array Value))).get? at_=some (seqObj "list" #[] ep):=⟨_,Dt g0 fun _=>#[]⟩
 have g2:(((s.heap.update at_ (AU fun _=>(#[]:Array Value))).push (seqObj "tuple" #[v] 0)).push (seqObj "list" #[] 0)).get? at_=some (seqObj "list" #[] ep):=Ac _ (Ac _ g1);rw[Du];refine Aa (Ej g0 rfl (Aa (BW g0 rfl (Aa (Cn g1 rfl (Aa (CL (Aa (BX (AR ?_))))))))));show wpAny (model prog w) A _ R E { s with heap:=((s.heap.update at_ (AU fun _=>(#[]:Array Value))).push (seqObj "tuple" #[v] 0)).push (seqObj "list" #[] 0) };have two:(#[v]:Array Value).size < 2:=by show 1 < 2;decide
 have same:(arrOf (ET general' ((#[v]:Array Value).zip #[v]) #[] 7 none)).map (·.2)=#[v]:=by
   show (((#[v]:Array Value).zip #[v]).map (·.2))=#[v];simp
 dsimp only;rw[if_pos two,if_pos two];refine Aa (Ad ?_);rw[EU];refine Aa (Ad ?_);dsimp only;rw[same];refine Aa (Cn g2 rfl (Aa (BW g2 rfl ?_)));simp only[bne_self_eq_false,Be,if_false];exact Ad fin
theorem zfL{l:Addr}{v:Value}{R:Value->Shared->Prop}(hl:s.heap.IsList l [v].toArray)(fin:R (.ref (s.heap.objs.size+1)) { s with heap:=sortedAll s.heap [v] #[v] }) :
   wpAny (model prog w) A (call (.builtin "sorted") [.ref l]) R E s:=by
 have sz:((s.heap.push (seqObj "list" #[] 0)).update s.heap.objs.size (AU (·++[v].toArray))).objs.size=s.heap.objs.size+1:=(Cs ..).trans (EV ..);have g0:(((s.heap.push (seqObj "list" #[] 0)).update s.heap.objs.size (AU (·++[v].toArray))).push (seqObj "list" [v].toArray 0)).get? (s.heap.objs.size+1)=some (seqObj "list" [v].toArray 0):=by
   rw[<-sz];exact Ap _ rfl
 refine B3 kind_sorted plain_sorted entry_sorted (Ek _) ?_;unfold Builtin.«sorted»;refine Aa (m:=checkCount "sorted" 1 1 _) (Ad (Aa (collect_list hl (Aa (BX ?_)))));show wpAny _ _ _ _ _ { s with heap:=((s.heap.push (seqObj "list" #[] 0)).update s.heap.objs.size (AU (·++[v].toArray))).push (seqObj "list" [v].toArray 0) };rw[sz];exact Aa (AR (A3 DJ ⟨_,g0,rfl⟩ Dv (zhU g0 ⟨_,rfl,Ad ⟨_,rfl,fin⟩⟩) (DK _)))
end
section
variable {X:Cx} {K:Ab} {H:Hp} {io:List Addr} {st st':Sto}
noncomputable def zeQ:GN
 | [.ref n],st=>(zbf st n).bind fun ds=>if decide (ds.length=1)=true then some (.ref st.length,st++[.lst ds]) else none
 | _,_=>none
theorem zey:zdo X (.builtin "sorted") zeQ:=by
 rintro pins s σ H xs us Q I r ⟨ds,st,io,d,st',R,S,e,k⟩;unfold zeQ at e
 split at e
 . rename_i n;obtain⟨zs,e0,e⟩:=zad e;obtain⟨hl,e⟩:=zar e;cases e;obtain⟨y,rfl⟩:=List.length_eq_one_iff.mp (of_decide_eq_true hl);obtain⟨v,rfl,p,rfl,hp⟩:=R.one;obtain⟨u,rfl,ru⟩:=r.one;cases ru;obtain⟨ys,hx,r1⟩:=zaX S hp e0;obtain⟨its,rv,pl,hz⟩:=I.list hx;obtain⟨y',rfl,ry⟩:=r1.one;obtain⟨i,rfl,ri⟩:=rv.one;refine zfL pl.isList ?_;obtain⟨ep,hat⟩:=Ei s.heap [i] #[i];have hfree:H (s.heap.objs.size+1)=none:=I.hok.fresh (BZ _);refine⟨.ref (s.heap.objs.size+1),upd H (s.heap.objs.size+1) (.lst [y']),I.laid (t':=s.toks) (a:=s.heap.objs.size+1) (fun b o q=>DZ q) (BZ _) ⟨by show 1<=sizeLine;decide,[i],ep,rv,by simpa using hat⟩,rfl,?_⟩;exact k.lst S r1 hfree
 . cases e
noncomputable def zgA:GN:=orN zc4 (orN zeQ zeP)
theorem ze7:zdo X (.builtin "sorted") zgA:=zdg zew (zdg zey zeu)
end
inductive Sr where
 | l (a:Addr) | t (a:Addr)
noncomputable def Sr.ad:Sr->Addr
 | .l a=>a
 | .t a=>a
noncomputable def Sr.ob:Sr->Obj
 | .l a=>{ cls:=.type "list_iterator",data:=.fields #[.ref a,.int 0 0] }
 | .t a=>{ cls:=.type "tuple_iterator",data:=.fields #[.ref a,.int 0 0] }
noncomputable def Sr.is(h:Heap)(xs:Array Value):Sr->Prop
 | .l a=>h.IsList a xs
 | .t a=>IsTup h a xs
noncomputable def Sr.at_(h:Heap)(i:Addr)(k:Nat):Sr->Prop
 | .l a=>h.IsListIter i a k
 | .t a=>IsTupIter h i a k
theorem Sr.is_keep{h h':Heap}{xs:Array Value}{x:Sr}(q:x.is h xs)(k:∀ u,h.get? x.ad=some u->h'.get? x.ad=some u):x.is h' xs:=by
 cases x with
 | l a=>exact DL q k
 | t a=>obtain⟨o,g,c⟩:=q;exact⟨o,k o g,c⟩
theorem Sr.at_keep{h h':Heap}{i:Addr}{n:Nat}{x:Sr}(q:x.at_ h i n)(k:∀ u,h.get? i=some u->h'.get? i=some u):x.at_ h' i n:=by
 cases x with
 | l a=>exact El q k
 | t a=>obtain⟨o,g,c⟩:=q;exact⟨o,k o g,c⟩
theorem Sr.at_get{h:Heap}{i:Addr}{n:Nat}{x:Sr}(q:x.at_ h i n):∃ o vs,h.get? i=some o/\o.data=.fields vs:=by
 cases x with
 | l a=>obtain⟨o,g,c,d⟩:=q;exact⟨o,_,g,d⟩
 | t a=>obtain⟨o,g,c,d⟩:=q;exact⟨o,_,g,d⟩
section
variable {prog:Program} {w:World} {A:Around} {E:Value->Shared->Prop} {s:Shared}
theorem Sr.iter{x:Sr}{xs:Array Value}{R:Value->Shared->Prop}(h:x.is s.heap xs)(k:R (.ref s.heap.objs.size) { s with heap:=s.heap.push x.ob }):wpAny (model prog w) A (pyIter (.ref x.ad)) R E s:=by
 cases x with
 | l a=>exact CW h k
 | t a=>exact iter_tuple h k
theorem zg5{it a:Addr}{i:Nat}{xs:Array Value}{v:Value}{R:Value->Shared->Prop}(hit:IsTupIter s.heap it a i)(ht:IsTup s.heap a xs)(hx:xs[i]?=some v)
   (k:∀ h',IsTupIter h' it a (i+1)->BK it s.heap h'->R v { s with heap:=h' }):wpAny (model prog w) A (AG (.ref it)) R E s:=by
 obtain⟨ro,rg,rc,rd⟩:=id hit;obtain⟨to,tg,_,tn,td⟩:=ht;unfold AG;refine Aa (A2 (name:=BO "__next__") hit.typeIs B0 (A3 B0 hit.typeIs DS ?_ (D3 _)));show wpAny _ _ (field (.ref it) 0 >>= _) _ _ s;refine Aa (AV rg rd (x:=.ref a) rfl ?_);show wpAny _ _ (if (A6 a==Bp)=true then _ else _) _ _ s;rw[if_neg (show ¬ (A6 a==Bp)=true from fun z=>Bd z)];show wpAny _ _ (field (.ref it) 1 >>= _) _ _ s;refine Aa (AV rg rd (x:=.int i 0) rfl ?_);show wpAny _ _ (seqItems? (.ref a) >>= _) _ _ s;refine Aa (Bo tg td ?_);simp only[Bv,hx];refine Aa (wpAny_setField rg rd (by simp) (Ad ⟨v,rfl,Ad (k _ ⟨_,DE _ rg (Obj.isFreed_of_fields (Em rd _)),(Obj.cls_mapFields ..).trans rc,?_⟩ (D4 ..))⟩));rw[Em rd];simp[rawInt]
theorem zdU{it a:Addr}{i:Nat}{xs:Array Value}{R:Value->Shared->Prop}(hh:A.handled=none)(hit:IsTupIter s.heap it a i)(ht:IsTup s.heap a xs)(hx:xs[i]?=none)
   (k:∀ h' e,Ez it s.heap h'->(∃ o,h'.get? e=some o/\o.cls=.type "StopIteration")->E (.ref e) { s with heap:=h' }):wpAny (model prog w) A (AG (.ref it)) R E s:=by
 obtain⟨ro,rg,rc,rd⟩:=id hit;obtain⟨to,tg,_,tn,td⟩:=ht;unfold AG;refine Aa (A2 (name:=BO "__next__") hit.typeIs B0 (A3 B0 hit.typeIs DS ?_ (D3 _)));show wpAny _ _ (field (.ref it) 0 >>= _) _ _ s;refine Aa (AV rg rd (x:=.ref a) rfl ?_);show wpAny _ _ (if (A6 a==Bp)=true then _ else _) _ _ s;rw[if_neg (show ¬ (A6 a==Bp)=true from fun z=>Bd z)];show wpAny _ _ (field (.ref it) 1 >>= _) _ _ s;refine Aa (AV rg rd (x:=.int i 0) rfl ?_);show wpAny _ _ (seqItems? (.ref a) >>= _) _ _ s;refine Aa (Bo tg td ?_);simp only[Bv,hx];refine Aa (CC (Aa (wpAny_setField rg rd (by simp) ?_)));show wpAny _ _ (newExc (.type "StopIteration") [] >>= _) _ _ _;simp only[newExc,newTuple];refine Aa (Aa (AX (Aa (m:=firstArgMember _ _) (wpAny_of_eq (a:=Bp) (by first | rfl | (simp only[firstArgMember];rfl)) (AX ?_ (by size_fits)))) (by size_fits)));simp only[raiseNew];refine Aa (wpAny_handled ?_)
 first | rw[show A.in1.handled=none from hh] | rw[hh]
 refine Aa (Ad (wpAny_throw ?_));exact k _ _ (((D4 ..).extBut.push _).push _) ⟨_,Ap _ rfl,rfl⟩
theorem Sr.next{x:Sr}{it:Addr}{i:Nat}{xs:Array Value}{v:Value}{R:Value->Shared->Prop}(hit:x.at_ s.heap it i)(h:x.is s.heap xs)(hx:xs[i]?=some v)(k:∀ h',x.at_ h' it (i+1)->BK it s.heap h'->R v { s with heap:=h' }) :
   wpAny (model prog w) A (AG (.ref it)) R E s:=by
 cases x with
 | l a=>exact wpAny_nextOf_list_item hit h hx k
 | t a=>exact zg5 hit h hx k
theorem Sr.stop{x:Sr}{it:Addr}{i:Nat}{xs:Array Value}{R:Value->Shared->Prop}(hh:A.handled=none)(hit:x.at_ s.heap it i)(h:x.is s.heap xs)(hx:xs[i]?=none)
   (k:∀ h' e,Ez it s.heap h'->(∃ o,h'.get? e=some o/\o.cls=.type "StopIteration")->E (.ref e) { s with heap:=h' }):wpAny (model prog w) A (AG (.ref it)) R E s:=by
 cases x with
 | l a=>exact wpAny_nextOf_list_end hh hit h hx k
 | t a=>exact zdU hh hit h hx k
end
theorem Sr.at_new{h:Heap}{x:Sr}{i:Addr}(g:h.get? i=some x.ob):x.at_ h i 0:=by
 cases x with
 | l a=>exact⟨_,g,rfl,rfl⟩
 | t a=>exact⟨_,g,rfl,rfl⟩
noncomputable abbrev zp1 (h:Heap) (x:Sr):Heap:=h.push x.ob
noncomputable abbrev zp2 (h:Heap) (x y:Sr):Heap:=(zp1 h x).push y.ob
noncomputable abbrev zp3 (h:Heap) (x y:Sr):Heap:=(zp2 h x y).push { cls:=.type "tuple",data:=.seq #[.ref h.objs.size,.ref (zp1 h x).objs.size] }
noncomputable abbrev zp4 (h:Heap) (x y:Sr):Heap:=(zp3 h x y).push { cls:=.type "tuple",data:=.seq #[.none,.none] }
noncomputable abbrev zp5 (h:Heap) (x y:Sr):Heap:=(zp4 h x y).push { cls:=.type "zip",data:=.fields #[.none,.bool false,.bool false,.ref (zp2 h x y).objs.size,.ref (zp3 h x y).objs.size] }
theorem zhO(x y:Sr)(xs ys:Array Value):Meets (Builtin.«zip.__new__» ⟨[.type "zip",.ref x.ad,.ref y.ad],[]⟩) (fun _ R s=>x.is s.heap xs/\y.is s.heap ys/\R (.ok (.ret (.ref (zp4 s.heap x y).objs.size))) { s with heap:=zp5 s.heap x y }) :=
 .of_wp fun prog w A R s h=>by
   obtain⟨hp,g,d,tk,os⟩:=s;obtain⟨h1,h2,h⟩:=h;have hsub:=sub_zip;have hx:x.is (Shared.heap ⟨hp,g,d,tk,os⟩) xs:=h1;have hy:y.is (Shared.heap ⟨hp.push x.ob,g,d,tk,os⟩) ys:=Sr.is_keep h2 fun u q=>Ac _ q
   wp_walk using Sr.iter hx,Sr.iter hy
   exact⟨_,rfl,h⟩
structure Zp(z TI TO i j:Addr):Prop where
 TIz:TI≠z
 TOz:TO≠z
 iz:i≠z
 jz:j≠z
 TIO:TI≠TO
 TIi:TI≠i
 TIj:TI≠j
 TOi:TO≠i
 TOj:TO≠j
 ij:i≠j
theorem neq{a b:Nat}(h:a≠b):(show Addr from a)≠(show Addr from b):=h
theorem Zp.new(n:Nat):Zp (n+4) (n+2) (n+3) n (n+1):=⟨neq (by omega),neq (by omega),neq (by omega),neq (by omega),neq (by omega),neq (by omega),neq (by omega),neq (by omega),neq (by omega),neq (by omega)⟩
section
variable {prog:Program} {w:World} {A:Around} {E:Value->Shared->Prop} {s:Shared}
theorem ziL{x y:Sr}{xs ys:Array Value}{R:Value->Shared->Prop}(hx:x.is s.heap xs)(hy:y.is s.heap ys)
   (k:∀ h',IsZip h' (s.heap.objs.size+4) (s.heap.objs.size+2) (s.heap.objs.size+3) .none->IsPair h' (s.heap.objs.size+2) (.ref s.heap.objs.size) (.ref (s.heap.objs.size+1))->IsPair h' (s.heap.objs.size+3) .none .none ->
     x.at_ h' s.heap.objs.size 0->y.at_ h' (s.heap.objs.size+1) 0->(∀ c u,s.heap.get? c=some u->h'.get? c=some u)->R (.ref (s.heap.objs.size+4)) { s with heap:=h' }):wpAny (model prog w) A (call (.type "zip") [.ref x.ad,.ref y.ad]) R E s:=by
 refine callType_new F.called_zip (by decide) (F.typeCall_zip_2 _ _) (F.newCall_zip_2 _ _) (fun obj=>F.args_object_init_3 obj _ _) F.entry_zip_new (zhO x y xs ys) ⟨hx,hy,?_⟩;have e1:(zp1 s.heap x).objs.size=s.heap.objs.size+1:=Bm ..;have e2:(zp2 s.heap x y).objs.size=s.heap.objs.size+2:=(Bm ..).trans (by rw[e1]);have e3:(zp3 s.heap x y).objs.size=s.heap.objs.size+3:=(Bm ..).trans (by rw[e2]);have e4:(zp4 s.heap x y).objs.size=s.heap.objs.size+4:=(Bm ..).trans (by rw[e3]);have up:∀ c u,(zp1 s.heap x).get? c=some u->(zp5 s.heap x y).get? c=some u:=fun c u q=>Ac _ (Ac _ (Ac _ (Ac _ q)));have f5:(zp5 s.heap x y).get? (zp4 s.heap x y).objs.size=some { cls:=.type "zip",data:=.fields #[.none,.bool false,.bool false,.ref (zp2 s.heap x y).objs.size,.ref (zp3 s.heap x y).objs.size] }:=Ap _ rfl;have f4:(zp5 s.heap x y).get? (zp3 s.heap x y).objs.size=some { cls:=.type "tuple",data:=.seq #[.none,.none] }:=Ac _ (Ap _ rfl);have f3:(zp5 s.heap x y).get? (zp2 s.heap x y).objs.size=some { cls:=.type "tuple",data:=.seq #[.ref s.heap.objs.size,.ref (zp1 s.heap x).objs.size] }:=Ac _ (Ac _ (Ap _ rfl));have f2:(zp5 s.heap x y).get? (zp1 s.heap x).objs.size=some y.ob:=Ac _ (Ac _ (Ac _ (Ap _ (by cases y <;> rfl))));have f1:(zp5 s.heap x y).get? s.heap.objs.size=some x.ob:=up _ _ (Ap _ (by cases x <;> rfl));rw[e2,e3,e4] at f5;rw[e1,e2] at f3;rw[e3] at f4;rw[e1] at f2;show _/\_;rw[e4];exact⟨⟨_,f5,rfl⟩,k _ f5 f3 f4 (Sr.at_new f1) (Sr.at_new f2) fun c u q=>up c u (Ac _ q)⟩
theorem zjp{z TI TO i j:Addr}{x y:Sr}{n m:Nat}{xs ys:Array Value}{u v a b:Value}{R:Option Value->Shared->Prop}(D:Zp z TI TO i j)(xz:x.ad≠z/\x.ad≠TO/\x.ad≠i/\x.ad≠j)(yz:y.ad≠z/\y.ad≠TO/\y.ad≠i/\y.ad≠j)
   (hz:IsZip s.heap z TI TO .none) (hTI:IsPair s.heap TI (.ref i) (.ref j)) (hTO:IsPair s.heap TO a b) (hi:x.at_ s.heap i n) (hj:y.at_ s.heap j m) (hx:x.is s.heap xs) (hy:y.is s.heap ys) (gx:xs[n]?=some u) (gy:ys[m]?=some v)
   (k:∀ h',IsZip h' z TI TO (rawInt s.heap.objs.size)->IsPair h' TI (.ref i) (.ref j)->IsPair h' TO u v->x.at_ h' i (n+1)->y.at_ h' j (m+1)->IsPair h' s.heap.objs.size u v ->
     (∀ c o,c≠z->c≠TO->c≠i->c≠j->s.heap.get? c=some o->h'.get? c=some o)->R (some (.ref s.heap.objs.size)) { s with heap:=h' }):wpAny (model prog w) A (pyNext (.ref z)) R E s:=by
 have ty:s.TypeIs (.ref z) "zip":=⟨_,hz,rfl⟩
 unfold pyNext;refine Aa (wpAny_attempt (A2 (name:=BO "__next__") ty F.slot_zip_next (A3 F.slot_zip_next ty F.entry_zip_next ?_ (F.args_zip_next_1 _))));show wpAny _ _ (field (.ref z) 2 >>= _) _ _ _;refine Aa (AV hz rfl (x:=.bool false) rfl ?_);show wpAny _ _ (field (.ref z) 3 >>= _) _ _ _;refine Aa (AV hz rfl (x:=.ref TI) rfl (Aa (Bo hTI rfl ?_)));show wpAny _ _ (Bb (.ref z) >>= _) _ _ _;unfold Bb;refine Aa (Aa (AV hz rfl (x:=.none) rfl (Ad ?_)));simp only[if_true];refine Aa (CC (Aa (AV hz rfl (x:=.ref TO) rfl (Aa (Bt hz (by simp) fun g1 z1 s1=>?_)))))
 replace z1:IsZip g1 z TI TO .ellipsis:=z1
 have k1:∀ c o,c≠z->s.heap.get? c=some o->g1.get? c=some o:=fun c o nc q=>s1.extBut c o nc q;simp only[EG,EW,Dq,Cf];refine Aa (Aa (Aa (CT ?_)));show wpAny _ _ (AG (.ref i) >>= _) _ _ _;refine Aa (Sr.next (Sr.at_keep hi fun o q=>k1 _ o D.iz q) (Sr.is_keep hx fun o q=>k1 _ o xz.1 q) gx fun g2 i2 s2=>Ad ?_);have k2:∀ c o,c≠z->c≠i->s.heap.get? c=some o->g2.get? c=some o:=fun c o nc ni q=>s2.extBut c o ni (k1 c o nc q);have o2:IsPair g2 TO a b:=k2 _ _ D.TOz D.TOi hTO;refine Aa (Bo o2 rfl (Aa (CD o2 fun g3 o3 s3=>(Aa (EA (Ad ?_))))))
 replace o3:IsPair g3 TO u b:=o3
 have k3:∀ c o,c≠z->c≠i->c≠TO->s.heap.get? c=some o->g3.get? c=some o:=fun c o nc ni nt q=>s3.extBut c o nt (k2 c o nc ni q);refine Aa (Aa (CT ?_));show wpAny _ _ (AG (.ref j) >>= _) _ _ _;refine Aa (Sr.next (Sr.at_keep hj fun o q=>k3 _ o D.jz D.ij.symm D.TOj.symm q) (Sr.is_keep hy fun o q=>k3 _ o yz.1 yz.2.2.1 yz.2.1 q) gy fun g4 j4 s4=>Ad ?_);have o4:IsPair g4 TO u b:=s4.extBut _ _ D.TOj o3;refine Aa (Bo o4 rfl (Aa (CD o4 fun g5 o5 s5=>(Aa (EA (Ad (Ad ?_)))))))
 replace o5:IsPair g5 TO u v:=o5
 refine Aa (Bo o5 rfl (Aa (CL ?_)));have sz:g5.objs.size=s.heap.objs.size:=by rw[s5.1,s4.1,s3.1,s2.1,s1.1]
 have z5:IsZip g5 z TI TO .ellipsis:=s5.extBut _ _ D.TOz.symm (s4.extBut _ _ D.jz.symm (s3.extBut _ _ D.TOz.symm (s2.extBut _ _ D.iz.symm z1)));have k5:∀ c o,c≠z->c≠TO->c≠i->c≠j->s.heap.get? c=some o->g5.get? c=some o:=fun c o c1 c2 c3 c4 q=>s5.extBut c o c2 (s4.extBut c o c4 (k3 c o c1 c3 c2 q));have i5:x.at_ g5 i (n+1):=Sr.at_keep i2 fun o q=>s5.extBut _ _ D.TOi.symm (s4.extBut _ _ D.ij (s3.extBut _ _ D.TOi.symm q));have j5:y.at_ g5 j (m+1):=Sr.at_keep j4 fun o q=>s5.extBut _ _ D.TOj.symm q;have lz:z < g5.objs.size:=Aj z5;show wpAny _ _ (Cb (.ref z) (.ref g5.objs.size) >>= _) _ _ _;unfold Cb;have z6:IsZip (g5.push { cls:=.type "tuple",data:=.seq #[u,v] }) z TI TO .ellipsis:=Ac _ z5;refine Aa (Aa (Bt z6 (by simp) fun g7 z7 s7=>?_))
 replace z7:IsZip g7 z TI TO (rawInt g5.objs.size):=z7
 refine Bt z7 (by simp) fun g8 z8 s8=>?_
 replace z8:IsZip g8 z TI TO (rawInt g5.objs.size):=z8
 have up:∀ c o,c≠z->g5.get? c=some o->g8.get? c=some o:=fun c o nc q=>s8.extBut c o nc (s7.extBut c o nc (Ac _ q));have t8:IsPair g8 g5.objs.size u v:=s8.extBut _ _ (B6 lz) (s7.extBut _ _ (B6 lz) (Ap _ rfl));rw[sz] at z8 t8;refine Ad ⟨_,rfl,Ad ?_⟩;show R (some (.ref g5.objs.size)) _;rw[sz];exact k g8 z8 (up _ _ D.TIz (k5 _ _ D.TIz D.TIO D.TIi D.TIj hTI)) (up _ _ D.TOz o5) (Sr.at_keep i5 fun o q=>up _ o D.iz q) (Sr.at_keep j5 fun o q=>up _ o D.jz q) t8 fun c o c1 c2 c3 c4 q=>up c o c1 (k5 c o c1 c2 c3 c4 q)
theorem zkN{z TI TO i j:Addr}{x y:Sr}{n m:Nat}{xs ys:Array Value}{a b:Value}{R:Option Value->Shared->Prop}(hh:A.handled=none)(D:Zp z TI TO i j)(xz:x.ad≠z/\x.ad≠TO/\x.ad≠i/\x.ad≠j)(yz:y.ad≠z/\y.ad≠TO/\y.ad≠i/\y.ad≠j)
   (hz:IsZip s.heap z TI TO .none) (hTI:IsPair s.heap TI (.ref i) (.ref j)) (hTO:IsPair s.heap TO a b) (hi:x.at_ s.heap i n) (hj:y.at_ s.heap j m) (hx:x.is s.heap xs) (hy:y.is s.heap ys) (he:xs[n]?=none\/ys[m]?=none)
   (k:∀ h',(∀ c o,c≠z->c≠TO->c≠i->c≠j->s.heap.get? c=some o->h'.get? c=some o)->R none { s with heap:=h' }):wpAny (model prog w) A (pyNext (.ref z)) R E s:=by
 have ty:s.TypeIs (.ref z) "zip":=⟨_,hz,rfl⟩
 have halt:∀ h' e,(∀ c o,c≠z->c≠TO->c≠i->c≠j->s.heap.get? c=some o->h'.get? c=some o)->(∃ o,h'.get? e=some o/\o.cls=.type "StopIteration") ->
     wpAny (model prog w) A (do if <-isInstance (.ref e) (.type "StopIteration") then pure none else throw (A6 e)) R E { s with heap:=h' }:=fun h' e q ⟨o,g,c⟩ =>
   Aa (wpAny_isInstance (T:="StopIteration") (b:=true) ⟨o,g,c⟩ isSubtype_stop (Ad (k h' q)))
 unfold pyNext;refine Aa (wpAny_attempt (A2 (name:=BO "__next__") ty F.slot_zip_next (A3 F.slot_zip_next ty F.entry_zip_next ?_ (F.args_zip_next_1 _))));show wpAny _ _ (field (.ref z) 2 >>= _) _ _ _;refine Aa (AV hz rfl (x:=.bool false) rfl ?_);show wpAny _ _ (field (.ref z) 3 >>= _) _ _ _;refine Aa (AV hz rfl (x:=.ref TI) rfl (Aa (Bo hTI rfl ?_)));show wpAny _ _ (Bb (.ref z) >>= _) _ _ _;unfold Bb;refine Aa (Aa (AV hz rfl (x:=.none) rfl (Ad ?_)));simp only[if_true];refine Aa (CC (Aa (AV hz rfl (x:=.ref TO) rfl (Aa (Bt hz (by simp) fun g1 z1 s1=>?_)))))
 replace z1:IsZip g1 z TI TO .ellipsis:=z1
 have k1:∀ c o,c≠z->s.heap.get? c=some o->g1.get? c=some o:=fun c o nc q=>s1.extBut c o nc q;have sep:∀ {g:Heap} {e:Addr} {o:Obj},IsZip g z TI TO .ellipsis->g.get? e=some o->o.cls=.type "StopIteration"->e≠z:=fun {g e o} q h c r=>by
   subst r;rw[q] at h;cases h;simp at c
 simp only[EG,EW,Dq,Cf];refine Aa (Aa (Aa (CT ?_)));show wpAny _ _ (AG (.ref i) >>= _) _ _ _
 cases gx:xs[n]? with
 | none =>
   refine Aa (Sr.stop hh (Sr.at_keep hi fun o q=>k1 _ o D.iz q) (Sr.is_keep hx fun o q=>k1 _ o xz.1 q) gx ?_);rintro g2 e s2 ⟨oe,he,ce⟩;have z2:IsZip g2 z TI TO .ellipsis:=s2 _ _ D.iz.symm z1;exact Bt z2 (by simp) fun g3 _ s3=>halt g3 e (fun c o c1 _ c3 _ q=>s3.extBut c o c1 (s2 c o c3 (k1 c o c1 q))) ⟨oe,s3.extBut _ _ (sep z2 he ce) he,ce⟩
 | some u =>
   have gy:ys[m]?=none:=he.resolve_left (by rw[gx];simp);refine Aa (Sr.next (Sr.at_keep hi fun o q=>k1 _ o D.iz q) (Sr.is_keep hx fun o q=>k1 _ o xz.1 q) gx fun g2 i2 s2=>Ad ?_);have k2:∀ c o,c≠z->c≠i->s.heap.get? c=some o->g2.get? c=some o:=fun c o nc ni q=>s2.extBut c o ni (k1 c o nc q);have o2:IsPair g2 TO a b:=k2 _ _ D.TOz D.TOi hTO;refine Aa (Bo o2 rfl (Aa (CD o2 fun g3 o3 s3=>(Aa (EA (Ad ?_))))));have k3:∀ c o,c≠z->c≠i->c≠TO->s.heap.get? c=some o->g3.get? c=some o:=fun c o nc ni nt q=>s3.extBut c o nt (k2 c o nc ni q);refine Aa (Aa (CT ?_));show wpAny _ _ (AG (.ref j) >>= _) _ _ _;refine Aa (Sr.stop hh (Sr.at_keep hj fun o q=>k3 _ o D.jz D.ij.symm D.TOj.symm q) (Sr.is_keep hy fun o q=>k3 _ o yz.1 yz.2.2.1 yz.2.1 q) gy ?_);rintro g4 e s4 ⟨oe,he,ce⟩;have z4:IsZip g4 z TI TO .ellipsis:=s4 _ _ D.jz.symm (s3.extBut _ _ D.TOz.symm (s2.extBut _ _ D.iz.symm z1));exact Bt z4 (by simp) fun g5 _ s5=>halt g5 e (fun c o c1 c2 c3 c4 q=>s5.extBut c o c1 (s4 c o c4 (k3 c o c1 c3 c2 q))) ⟨oe,s5.extBut _ _ (sep z4 he ce) he,ce⟩
end
noncomputable def Sr.sq(H:Hp)(xs:List V):Sr->Prop
 | .l a=>H a=some (.lst xs)\/∃ o,H a=some (.frz o (.lst xs))
 | .t a=>H a=some (.tup xs)
theorem Sr.sq_ne{H:Hp}{xs:List V}{x:Sr}{b:Addr}(h:x.sq H xs)(hb:H b=none):x.ad≠b:=by
 cases x with
 | l a=>rcases h with h | ⟨o,h⟩ <;> exact zan h hb
 | t a=>exact zan (show H a=some (.tup xs) from h) hb
theorem Sr.sq_inj{H:Hp}{xs ys:List V}{x:Sr}(h:x.sq H xs)(h':x.sq H ys):xs=ys:=by
 cases x with
 | l a=>rcases h with h | ⟨o,h⟩ <;> rcases h' with h' | ⟨o',h'⟩ <;> rw[h] at h' <;> cases h' <;> rfl
 | t a =>
   have h:H a=some (.tup xs):=h;have h':H a=some (.tup ys):=h';rw[h] at h';cases h';rfl
theorem Sr.sq_is{X:Cx}{pins:List (Addr×Obj)}{σ:L2.St}{H:Hp}{s:Shared}{xs:List V}{x:Sr}(I:Inv X pins σ H s)(h:x.sq H xs):∃ its:List Value,Vals xs its/\x.is s.heap its.toArray:=by
 cases x with
 | l a =>
   obtain⟨its,rv,p,_⟩:=I.list (show SqL X.K H a xs from .inl h);exact⟨its,rv,p.isList⟩
 | t a =>
   obtain⟨its,rv,p,_⟩:=I.tuple (SqT.of (K:=X.K) h);exact⟨its,rv,p⟩
noncomputable def Itz(x y:Sr):It :=
 ⟨fun i H=>∃ xs ys u v,x.sq H xs/\y.sq H ys/\xs[i]?=some u/\ys[i]?=some v,fun i H r H'=>∃ p u v,H p=none/\H'=upd H p (.tup [u,v])/\r=.ref p/\(∀ xs,x.sq H xs->xs[i]?=some u)/\∀ ys,y.sq H ys->ys[i]?=some v,
   fun i H=>∃ xs ys,x.sq H xs/\y.sq H ys/\(xs.length<=i\/ys.length<=i)⟩
theorem zjr{P:Program}{w:World}{K:Ab}{elts:List Expr}{x1}{pos:Pos}(x y:Sr){z TI TO i j:Addr}(D:Zp z TI TO i j) :
   Turn P w K (.Tuple elts x1 pos) (Itz x y) [z,TI,TO,i,j] z (fun n h=>IsZip h z TI TO .none/\IsPair h TI (.ref i) (.ref j)/\(∃ a b,IsPair h TO a b)/\x.at_ h i n/\y.at_ h j n) where
 mem:=by simp
 obj:=fun n h st b hb=>by
   obtain⟨hz,hTI,⟨a,c,hTO⟩,hi,hj⟩:=st;simp only[A8,A1,or_false] at hb
   rcases hb with rfl | rfl | rfl | rfl | rfl
   . exact⟨_,hz,fun v q=>by cases q⟩
   . exact⟨_,hTI,fun v q=>by cases q⟩
   . exact⟨_,hTO,fun v q=>by cases q⟩
   . obtain⟨o,vs,g,d⟩:=Sr.at_get hi;exact⟨o,g,fun v q=>by rw[d] at q;cases q⟩
   . obtain⟨o,vs,g,d⟩:=Sr.at_get hj;exact⟨o,g,fun v q=>by rw[d] at q;cases q⟩
 keep:=fun n h h' st k=>by
   obtain⟨hz,hTI,⟨a,c,hTO⟩,hi,hj⟩:=st;exact⟨k z (by simp) _ hz,k TI (by simp) _ hTI,⟨a,c,k TO (by simp) _ hTO⟩,Sr.at_keep hi fun o q=>k i (by simp) o q,Sr.at_keep hj fun o q=>k j (by simp) o q⟩
 item:=by
   intro X hP hw hK hc n pins s σ H E I hf st hg;subst hP hw hK;obtain⟨xs,ys,u,v,hx,hy,gu,gv⟩:=hg;obtain⟨hz,hTI,⟨a,c,hTO⟩,hi,hj⟩:=st;obtain⟨its,rx,ix⟩:=Sr.sq_is I hx;obtain⟨jts,ry,iy⟩:=Sr.sq_is I hy;obtain⟨u',gu',ru⟩:=rx.get gu;obtain⟨v',gv',rv⟩:=ry.get gv;have fz:=(hf z (by simp)).1;have fTO:=(hf TO (by simp)).1;have fi:=(hf i (by simp)).1;have fj:=(hf j (by simp)).1;refine zjp D ⟨Sr.sq_ne hx fz,Sr.sq_ne hx fTO,Sr.sq_ne hx fi,Sr.sq_ne hx fj⟩ ⟨Sr.sq_ne hy fz,Sr.sq_ne hy fTO,Sr.sq_ne hy fi,Sr.sq_ne hy fj⟩ hz hTI hTO hi hj ix iy (u:=u') (v:=v') (by simpa using gu') (by simpa using gv') fun h1 z1 ti1 to1 i1 j1 t1 k1=>?_;refine⟨_,rfl,wpAny_letOwnedTupleGo_zip (s:={ s with heap:=h1 }) z1 fun h2 z2 b2=>?_⟩;have up:∀ b o,b≠z->h1.get? b=some o->h2.get? b=some o:=fun b o nb q=>(b2.2 b nb).trans q;have k2:∀ b o,b ∉ [z,TI,TO,i,j]->s.heap.get? b=some o->h2.get? b=some o:=fun b o hb q=>by
     simp only[A8,A1,or_false,not_or] at hb;exact up b o hb.1 (k1 b o hb.1 hb.2.2.1 hb.2.2.2.1 hb.2.2.2.2 q)
   have lt:∀ b∈[z,TI,TO,i,j],b < s.heap.objs.size:=fun b hb=>by
     simp only[A8,A1,or_false] at hb
     rcases hb with rfl | rfl | rfl | rfl | rfl
     . exact Aj hz
     . exact Aj hTI
     . exact Aj hTO
     . obtain⟨o,vs,g,d⟩:=Sr.at_get hi;exact Aj g
     . obtain⟨o,vs,g,d⟩:=Sr.at_get hj;exact Aj g
   have t2:h2.get? s.heap.objs.size=some { cls:=.type "tuple",data:=.seq #[u',v'] }:=up _ _ (B6 (lt z (by simp))) t1;have st2:IsZip h2 z TI TO .none/\IsPair h2 TI (.ref i) (.ref j)/\(∃ a b,IsPair h2 TO a b)/\x.at_ h2 i (n+1)/\y.at_ h2 j (n+1) :=
     ⟨z2,up _ _ D.TIz ti1,⟨_,_,up _ _ D.TOz to1⟩,Sr.at_keep i1 fun o q=>up _ o D.iz q,Sr.at_keep j1 fun o q=>up _ o D.jz q⟩
   refine⟨.ref s.heap.objs.size,upd H s.heap.objs.size (.tup [u,v]),?_,rfl,⟨_,u,v,I.hok.fresh (Af _),rfl,rfl,fun zs h=>by rw[Sr.sq_inj h hx];exact gu,fun zs h=>by rw[Sr.sq_inj h hy];exact gv⟩,st2,fun b hb=>?_⟩
   . refine Inv.turnNew (s:=s) (h':=h2) (t':=s.toks) I hf k2 (Af _) (fun b hb ob q=>?_) ⟨by show 2<=sizeLine;decide,[u',v'],.cons ru (.cons rv .nil),⟨_,t2,rfl,rfl,_,rfl⟩⟩;simp only[A8,A1,or_false] at hb
     rcases hb with rfl | rfl | rfl | rfl | rfl
     . exact⟨_,z2⟩
     . exact⟨_,st2.2.1⟩
     . obtain⟨_,_,q⟩:=st2.2.2.1;exact⟨_,q⟩
     . obtain⟨o,vs,g,d⟩:=Sr.at_get st2.2.2.2.1;exact⟨o,g⟩
     . obtain⟨o,vs,g,d⟩:=Sr.at_get st2.2.2.2.2;exact⟨o,g⟩
   . rw[zaJ (Aw (lt b hb))];exact (hf b hb).1
 done:=by
   intro X hP hw hK hc n pins s σ H E I hf st hg;subst hP hw hK;obtain⟨xs,ys,hx,hy,he⟩:=hg;obtain⟨hz,hTI,⟨a,c,hTO⟩,hi,hj⟩:=st;obtain⟨its,rx,ix⟩:=Sr.sq_is I hx;obtain⟨jts,ry,iy⟩:=Sr.sq_is I hy;have fz:=(hf z (by simp)).1;have fTO:=(hf TO (by simp)).1;have fi:=(hf i (by simp)).1;have fj:=(hf j (by simp)).1;have l1:=rx.length;have l2:=ry.length;exact zkN (I.ok.hd hc) D ⟨Sr.sq_ne hx fz,Sr.sq_ne hx fTO,Sr.sq_ne hx fi,Sr.sq_ne hx fj⟩ ⟨Sr.sq_ne hy fz,Sr.sq_ne hy fTO,Sr.sq_ne hy fi,Sr.sq_ne hy fj⟩ hz hTI hTO hi hj ix iy (by
     rcases he with h | h
     . exact .inl (by simp;omega)
     . exact .inr (by simp;omega)) fun h' k=>⟨rfl,Inv.turnAll (t':=s.toks) I hf fun b o hb q=>by
       simp only[A8,A1,or_false,not_or] at hb;exact k b o hb.1 hb.2.2.1 hb.2.2.2.1 hb.2.2.2.2 q⟩
 self:=fun _ _ _ _ _ st h=>wpAny_pyIter_zip st.1 h
section
variable {X:Cx} {K:Ab} {H:Hp} {io:List Addr} {ma mb:ME} {st st':Sto}
noncomputable def seqD(s:Sto):D->Option (List D×List (Nat×List D))
 | .ref n=>(zbf s n).map fun ds=>(ds,[(n,ds)])
 | .tup ds=>some (ds,[])
 | _=>none
noncomputable def pairD(a b:List D):List D:=(a.zip b).map fun p=>.tup [p.1,p.2]
noncomputable def zipW(x y:D)(s:Sto):Option (Wk×Sto):=(seqD s x).bind fun (a,f)=>(seqD s y).map fun (b,g)=>(⟨pairD a b,f++g⟩,s)
noncomputable def mZip(ma mb:ME):MI:=fun ρ st=>(ma ρ st).bind fun (x,s1)=>(mb ρ s1).bind fun (y,s2)=>zipW x y s2
theorem zi5{d:D}{v:V}{ds:List D}{g:List (Nat×List D)}(S:StR K H io st)(R:Rep K H io v d)(h:seqD st d=some (ds,g)):∃ x:Sr,v=.ref x.ad/\(∃ xs,x.sq H xs) /\
   ∀ H1 ka s1,Ext io ka H H1->StR K H1 (io++ka) s1->(∀ p,p∈g->s1[p.1]?=some (.lst p.2)\/s1[p.1]?=some (.fz p.2))->∃ xs,x.sq H1 xs/\Reps K H1 (io++ka) xs ds:=by
 cases d with
 | ref n =>
   obtain⟨l,e,q⟩:=zag h;cases q;obtain⟨p,rfl,hp⟩:=R;refine⟨.l p,rfl,?_,fun H1 ka s1 X1 S1 hs=>?_⟩
   . unfold zbf at e
     split at e
     . rename_i o he;cases e;obtain⟨xs,q,_⟩:=S.ob n p _ hp he;exact⟨xs,.inl q⟩
     . rename_i o he;cases e;obtain⟨ob,xs,q,_⟩:=S.ob n p _ hp he;exact⟨xs,.inr ⟨ob,q⟩⟩
     . cases e
   . rcases hs (n,ds) An with q | q
     . obtain⟨xs,q',r⟩:=S1.ob n p _ (zbk hp) q;exact⟨xs,.inl q',r⟩
     . obtain⟨ob,xs,q',r⟩:=S1.ob n p _ (zbk hp) q;exact⟨xs,.inr ⟨ob,q'⟩,r⟩
 | tup ts =>
   cases h;obtain⟨p,xs,rfl,hp,r⟩:=R;exact⟨.t p,rfl,⟨xs,hp⟩,fun H1 ka s1 X1 S1 _=>⟨xs,X1.sqT S p xs hp,r.ext S X1⟩⟩
 | _=>cases h
theorem zid{a b:List D}{i:Nat}{d:D}(h:(pairD a b)[i]?=some d):∃ x y,a[i]?=some x/\b[i]?=some y/\d=.tup [x,y]:=by
 unfold pairD at h;rw[AL] at h;obtain⟨⟨x,y⟩,e,q⟩:=zag h;rw[C6] at e;exact⟨x,y,e.1,e.2,q.symm⟩
theorem boot_zip:bootBuiltins "zip"=some (.type "zip"):=by decide +kernel
theorem zmF{elts:List Expr}{x1}{tp:Pos}{a b:Expr}{p pos:Pos}(hg:Gl X "zip")(hm:X.mg "zip"=none)(ha:SE X a ma)(hb:SE X b mb)(hs:starEach [a,b] X.env=[(false,eval a X.env),(false,eval b X.env)]:=by rfl)
   (hs2:starEach [b] X.env=[(false,eval b X.env)]:=by rfl) (hpl:(backTo pos (starEach [b] X.env)).any (·.1)=false:=by rfl):SI X (.Tuple elts x1 tp) (.Call (.Name "zip" p) [a,b] [] pos) (mZip ma mb):=by
 rintro pins s σ H R I ⟨ρ,st,io,W,st',E,S,e,k⟩;obtain⟨⟨x,s1⟩,e1,e⟩:=zad e;obtain⟨⟨y,s2⟩,e2,e⟩:=zad e;obtain⟨⟨as,f⟩,e3,e⟩:=zad e;obtain⟨⟨bs,g⟩,e4,e⟩:=zag e;cases e;have hs1:starEach [a,b] X.env=(false,eval a X.env)::starEach [b] X.env:=by rw[hs,hs2]
 refine Call_ (zhf I hg hm boot_zip (BQ (thn (zaa ha (zaa hb zaf hs2) hs1 pos pins s σ H (fun vs H'=>∃ ka,Ext io ka H H'/\StR X.K H' (io++ka) st'/\Reps X.K H' (io++ka) vs [x,y]) I ⟨ρ,st,io,[x,y],st',E,S,zeX e1 (zeX e2 rfl),fun vs H1 k1 X1 S1 R1=>⟨k1,X1,S1,R1⟩⟩) ?_) hs1 hpl));rintro us t1 ⟨vs,H1,I1,r1,k1,X1,S1,R1⟩;obtain⟨v,u,rfl,Rx,Ry⟩:=R1.two;obtain⟨v',u',rfl,rv,ru⟩:=r1.two;obtain⟨xx,rfl,⟨xs,hx⟩,kx⟩:=zi5 S1 Rx e3;obtain⟨yy,rfl,⟨ys,hy⟩,ky⟩:=zi5 S1 Ry e4;cases rv;cases ru;obtain⟨its,vx,ix⟩:=Sr.sq_is I1 hx;obtain⟨jts,vy,iy⟩:=Sr.sq_is I1 hy;refine ziL ix iy fun h' hz hTI hTO hi hj kk=>wpAny_pyIter_zip hz ?_;refine⟨_,_,_,_,H1,rfl,I1.kept (t':=t1.toks) kk,zjr xx yy (Zp.new t1.heap.objs.size),⟨hz,hTI,⟨_,_,hTO⟩,hi,hj⟩,fun b hb=>?_,?_⟩
 . have hle:t1.heap.objs.size<=b:=by
     simp only[A8,A1,or_false] at hb
     rcases hb with rfl | rfl | rfl | rfl | rfl
     . exact Bz _ 4
     . exact Bz _ 2
     . exact Bz _ 3
     . exact Af _
     . exact Bz _ 1
   exact I1.fpOk hle (I1.hok.fresh hle)
 . refine k _ H1 k1 X1 S1 ?_;have st1:∀ {s3:Sto},stays ⟨pairD as bs,f++g⟩ s3->(∀ p,p∈f->s3[p.1]?=some (.lst p.2)\/s3[p.1]?=some (.fz p.2))/\∀ p,p∈g->s3[p.1]?=some (.lst p.2)\/s3[p.1]?=some (.fz p.2):=fun {s3} h=>⟨fun p hp=>h p (Bx _ hp),fun p hp=>h p (AO _ hp)⟩
   have len:∀ {a b:List D},(pairD a b).length=min a.length b.length:=fun {a b}=>by unfold pairD;rw[Ag,EX]
   refine⟨fun i d H2 k2 s3 hd X2 S2 hs=>?_,fun H2 k2 s3 X2 S2 hs=>?_,fun H2 k2 s3 i hi X2 S2 hs=>?_⟩
   . obtain⟨xs2,qx,rx⟩:=kx H2 k2 s3 X2 S2 (st1 hs).1;obtain⟨ys2,qy,ry⟩:=ky H2 k2 s3 X2 S2 (st1 hs).2;obtain⟨dx,dy,g1,g2,rfl⟩:=zid hd;obtain⟨u1,gu,ru⟩:=rx.get g1;obtain⟨v1,gv,rv⟩:=ry.get g2;refine⟨⟨xs2,ys2,u1,v1,qx,qy,gu,gv⟩,fun r H' yl=>?_⟩;obtain⟨q,u2,v2,hq,rfl,rfl,yu,yv⟩:=yl;have e5:=yu xs2 qx;have e6:=yv ys2 qy;rw[gu] at e5;rw[gv] at e6;cases e5;cases e6;obtain⟨E',S'⟩:=zg6 (o:=.tup [u1,v1]) S2 hq;rw[Ao] at S';refine⟨E',S',⟨q,_,rfl,zbt,?_⟩⟩;have r2:=ru.ext S2 E';have r3:=rv.ext S2 E';rw[Ao] at r2 r3;exact Reps.cons r2 (Reps.cons r3 Reps.nil)
   . obtain⟨xs2,qx,rx⟩:=kx H2 k2 s3 X2 S2 (st1 hs).1;obtain⟨ys2,qy,ry⟩:=ky H2 k2 s3 X2 S2 (st1 hs).2;refine⟨xs2,ys2,qx,qy,?_⟩;show xs2.length<=(pairD as bs).length\/ys2.length<=(pairD as bs).length;rw[len,rx.length,ry.length];omega
   . obtain⟨xs2,qx,rx⟩:=kx H2 k2 s3 X2 S2 (st1 hs).1;obtain⟨ys2,qy,ry⟩:=ky H2 k2 s3 X2 S2 (st1 hs).2;refine⟨xs2,ys2,qx,qy,?_⟩;have hi:(pairD as bs).length<=i:=hi;rw[len] at hi;rw[rx.length,ry.length];omega
end
noncomputable def Caps(X:Cx)(fs:List Str):List Nat->List Str->Prop
 | [],[]=>True
 | j::js,x::xs=>(X.N[j]?=some x/\x∈fs)/\Caps X fs js xs
 | _,_=>False
noncomputable def Outs(X:Cx):List Str->Prop
 | []=>True
 | x::xs=>(X.env.kindOf x=some .cell\/X.env.kindOf x=some .free)/\Outs X xs
theorem Outs.get{X:Cx}:∀ {fs:List Str} {x:Str},Outs X fs->x∈fs->X.env.kindOf x=some .cell\/X.env.kindOf x=some .free
 | [],_,_,m=>nomatch m
 | y::ys,x,h,m=>by
   rcases List.mem_cons.mp m with rfl | m
   . exact h.1
   . exact Outs.get h.2 m
theorem Caps.get{X:Cx}{fs:List Str}:∀ {fr:List Nat} {xs:List Str} {i j:Nat} {x:Str},Caps X fs fr xs->fr[i]?=some j->xs[i]?=some x->X.N[j]?=some x/\x∈fs
 | [],[],i,j,x,_,h,_=>by simp at h
 | [],_::_,i,j,x,h,_,_=>h.elim
 | _::_,[],i,j,x,h,_,_=>h.elim
 | k::ks,y::ys,0,j,x,h,h1,h2=>by
   simp at h1 h2;subst h1 h2;exact h.1
 | k::ks,y::ys,i+1,j,x,h,h1,h2=>Caps.get (i:=i) h.2 (by simpa using h1) (by simpa using h2)
theorem za6{X:Cx}{scope:Scope}{N':List Str}{nt:Nat}{fr:List Nat}(fs:List Str)(kind:scope.kind=.function)(nd:(scope.names.map (·.1)).Nodup)(hf:scope.names.all (fun p=>!(p.2==AA) || fs.contains p.1)=true)
   (hb:fs.all (fun x=>scope.names.contains (x,AA))=true) (len:N'.length=nt+fr.length) (cap:Caps X fs fr (N'.drop nt)) (out:Outs X fs):CompS X scope N' nt fr:=by
 refine⟨kind,nd,len,fun i j x h1 h2=>?_,fun x hx=>?_⟩
 . have h2':(N'.drop nt)[i]?=some x:=by rw[CP];exact h2
   obtain⟨a,b⟩:=cap.get h1 h2';refine⟨a,?_⟩;have:=List.all_eq_true.mp hb x b;simpa using this
 . have:=List.all_eq_true.mp hf _ hx;have hm:x∈fs:=by simpa using this
   exact out.get hm
theorem zdh:bootBuiltins "len"=some (.builtin "len"):=by decide +kernel
theorem znK:bootBuiltins "abs"=some (.builtin "abs"):=by decide +kernel
theorem znJ:bootBuiltins "max"=some (.builtin "max"):=by decide +kernel
theorem znI:bootBuiltins "min"=some (.builtin "min"):=by decide +kernel
theorem ziR:bootBuiltins "sorted"=some (.builtin "sorted"):=by decide +kernel
theorem zgh:bootBuiltins "all"=some (.builtin "all"):=by decide +kernel
theorem zkA:bootBuiltins "int"=some (.type "int"):=by decide +kernel
theorem zmb:bootBuiltins "bool"=some (.type "bool"):=by decide +kernel
theorem zkz:bootBuiltins "str"=some (.type "str"):=by decide +kernel
theorem zba:bootBuiltins "tuple"=some (.type "tuple"):=by decide +kernel
theorem zma:bootBuiltins "dict"=some (.type "dict"):=by decide +kernel
noncomputable def mulA:G2:=orG mulD zkK
theorem zcJ{X:Cx}:OpM X (binaryOp .Mult) mulA:=zfW zly zj0
theorem zjg{K:Ab}{H:Hp}{io:List Addr}:∀ (ns:List Int),Reps K H io (ns.map V.int) (ns.map D.int)
 | []=>rfl
 | n::ns=>⟨_,_,rfl,rfl,zjg ns⟩
theorem zjy{K:Ab}{H:Hp}{a:Addr}{ns:List Int}{g:GN}{st:Sto}{E:XK}(hO:Only H)(hS:SqL K H a (ns.map V.int))(e:g [.kl (ns.map D.int)] []=some (.bl true,st)):spM K 1 g [.ref a] H (fun v _=>v=.bl true) E:=by
 have hF:SqF K H a (ns.map V.int):=by
   rcases hS with (h | h) | h
   . rcases hO a with z | ⟨o,xs,z⟩
     . rw[z] at h;cases h
     . rw[z] at h;cases h
   . exact .inl h
   . exact .inr h
 refine⟨_,[],[],_,_,rfl,Reps.cons (show Rep K H [] (.ref a) (.kl (ns.map D.int)) from ⟨a,_,rfl,hF,zjg ns⟩) Reps.nil,⟨rfl,List.nodup_nil,fun n b o h=>by simp at h⟩,e,fun v H' ka E' S' R'=>R'⟩
end L2.MP
namespace L2.MP
structure Y3(a b c:Prop):Prop where
 h1:a
 h2:b
 h3:c
structure Y4(a b c d:Prop):Prop where
 h1:a
 h2:b
 h3:c
 h4:d
structure Y5(a b c d e:Prop):Prop where
 h1:a
 h2:b
 h3:c
 h4:d
 h5:e
structure Y8(a b c d e f g h:Prop):Prop where
 h1:a
 h2:b
 h3:c
 h4:d
 h5:e
 h6:f
 h7:g
 h8:h
open PySem
structure Gr(st st':Sto):Prop where
 len:st.length<=st'.length
 old:∀ k,k < st.length->st'[k]?=st[k]?
structure Fr(n:Nat)(st st':Sto):Prop where
 len:st.length<=st'.length
 old:∀ k,k < st.length->k≠n->st'[k]?=st[k]?
theorem Gr.refl(st:Sto):Gr st st:=⟨Af _,fun _ _=>rfl⟩
theorem Fr.refl(n:Nat)(st:Sto):Fr n st st:=⟨Af _,fun _ _ _=>rfl⟩
theorem Gr.fr{st st':Sto}(h:Gr st st')(n:Nat):Fr n st st':=⟨h.len,fun k hk _=>h.old k hk⟩
theorem Gr.trans{a b c:Sto}(h:Gr a b)(h':Gr b c):Gr a c:=⟨AB h.len h'.len,fun k hk=>(h'.old k (As hk h.len)).trans (h.old k hk)⟩
theorem Fr.trans{n:Nat}{a b c:Sto}(h:Fr n a b)(h':Fr n b c):Fr n a c:=⟨AB h.len h'.len,fun k hk nk=>(h'.old k (As hk h.len) nk).trans (h.old k hk nk)⟩
theorem Gr.app(st:Sto)(l:List O):Gr st (st++l):=⟨by simp,fun k hk=>Al hk⟩
theorem Fr.app(n:Nat)(st:Sto)(l:List O):Fr n st (st++l):=(Gr.app st l).fr n
theorem Fr.set(n:Nat)(st:Sto)(o:O):Fr n st (st.set n o):=⟨by simp,fun k _ hk=>by rw[AK (fun h=>hk h.symm)]⟩
theorem getElem?_lt{α:Type}{l:List α}{n:Nat}{x:α}(h:l[n]?=some x):n < l.length:=(List.getElem?_eq_some_iff.mp h).1
theorem zbb(st:Sto)(o:O):(st++[o])[st.length]?=some o:=getElem?_len st o
theorem zdA{W:Wk}{g:MG}{m:MS}:∀ {ds:List D} {Inv:Nat->Rho->Sto->Prop} {ρ:Rho} {st:Sto},Inv 0 ρ st->(∀ k ρ s,k<=ds.length->Inv k ρ s->walked W s=true) ->
   (∀ k d ρ s,ds[k]?=some d->Inv k ρ s->∃ ρ1 s1 ρ2 s2,g d ρ s=some (ρ1,s1)/\m ρ1 s1=some (.nx ρ2,s2)/\Inv (k+1) ρ2 s2)->∃ ρ' s',zf7 W g m ds ρ st=some (.nx ρ',s')/\Inv ds.length ρ' s'
 | [],Inv,ρ,st,h0,wk,step=>⟨ρ,st,by unfold zf7;rw[if_pos (wk 0 ρ st (Af _) h0)],h0⟩
 | d::ds,Inv,ρ,st,h0,wk,step=>by
   obtain⟨ρ1,s1,ρ2,s2,e1,e2,h1⟩:=step 0 d ρ st rfl h0;obtain⟨ρ',s',e,h⟩:=zdA (W:=W) (g:=g) (m:=m) (ds:=ds) (Inv:=fun k=>Inv (k+1)) h1 (fun k ρ s hk h=>wk (k+1) ρ s (Cp hk) h) (fun k d ρ s hd h=>step (k+1) d ρ s (by simpa using hd) h);refine⟨ρ',s',?_,h⟩;unfold zf7;rw[if_pos (wk 0 ρ st (A7 _) h0),e1];simp only[Ae,e2];exact e
theorem zmu{W:Wk}{g:MG}{c:MT}{m:ME}:∀ {ds:List D} {Inv:Nat->List D->Rho->Sto->Prop} {acc:List D} {ρ:Rho} {st:Sto},Inv 0 acc ρ st->(∀ k a ρ s,k<=ds.length->Inv k a ρ s->walked W s=true) ->
   (∀ k d a ρ s,ds[k]?=some d->Inv k a ρ s->∃ ρ1 s1 b s2,g d ρ s=some (ρ1,s1)/\c ρ1 s1=some (b,s2)/\((b=true/\∃ x s3,m ρ1 s2=some (x,s3)/\Inv (k+1) (a++[x]) ρ1 s3)\/(b=false/\Inv (k+1) a ρ1 s2))) ->
   ∃ xs ρ' s',mCI W g c m ds ρ st=some (xs,s')/\Inv ds.length (acc++xs) ρ' s'
 | [],Inv,acc,ρ,st,h0,wk,step=>⟨[],ρ,st,by unfold mCI;rw[if_pos (wk 0 acc ρ st (Af _) h0)],by rw[Ao];exact h0⟩
 | d::ds,Inv,acc,ρ,st,h0,wk,step=>by
   obtain⟨ρ1,s1,b,s2,e1,e2,h1⟩:=step 0 d acc ρ st rfl h0;have wk':∀ k a ρ s,k<=ds.length->Inv (k+1) a ρ s->walked W s=true:=fun k a ρ s hk h=>wk (k+1) a ρ s (Cp hk) h;have st':∀ k d a ρ s,ds[k]?=some d->Inv (k+1) a ρ s->∃ ρ1 s1 b s2,g d ρ s=some (ρ1,s1)/\c ρ1 s1=some (b,s2)/\((b=true/\∃ x s3,m ρ1 s2=some (x,s3)/\Inv (k+1+1) (a++[x]) ρ1 s3)\/(b=false/\Inv (k+1+1) a ρ1 s2)):=fun k d a ρ s hd h=>step (k+1) d a ρ s (by simpa using hd) h
   rcases h1 with ⟨rfl,x,s3,e3,h1⟩ | ⟨rfl,h1⟩
   . obtain⟨xs,ρ',s',e,h⟩:=zmu (W:=W) (g:=g) (c:=c) (m:=m) (ds:=ds) (Inv:=fun k=>Inv (k+1)) h1 wk' st';refine⟨x::xs,ρ',s',?_,by simpa using h⟩;unfold mCI;rw[if_pos (wk 0 acc ρ st (A7 _) h0),e1];simp only[Ae,e2,if_true,e3,e,Au]
   . obtain⟨xs,ρ',s',e,h⟩:=zmu (W:=W) (g:=g) (c:=c) (m:=m) (ds:=ds) (Inv:=fun k=>Inv (k+1)) h1 wk' st';refine⟨xs,ρ',s',?_,h⟩;unfold mCI;rw[if_pos (wk 0 acc ρ st (A7 _) h0),e1];simp only[Ae,e2,Be,if_false,e]
theorem zgc{W:Wk}{g:MG}{c:MT}{m:ME}{α:Type}{f h:α->D}{R:Rho->Prop}:∀ {as:List α} {ρ:Rho} {st:Sto},R ρ->walked W st=true->(∀ a∈as,∀ ρ,R ρ->∃ ρ1,g (f a) ρ st=some (ρ1,st)/\c ρ1 st=some (true,st)/\m ρ1 st=some (h a,st)/\R ρ1) ->
   mCI W g c m (as.map f) ρ st=some (as.map h,st)
 | [],ρ,st,r,wk,_=>by unfold mCI;rw[BM];simp only[wk,if_true,BM]
 | a::as,ρ,st,r,wk,hs=>by
   obtain⟨ρ1,e1,e2,e3,r1⟩:=hs a An ρ r;have e:=zgc (W:=W) (g:=g) (c:=c) (m:=m) (f:=f) (h:=h) (R:=R) (as:=as) r1 wk fun b hb=>hs b (Ak _ hb);rw[Az];unfold mCI;rw[if_pos wk,e1];simp only[Ae,e2,if_true,e3,e,Au,Az]
theorem zcd{ds xs:List D}{n:Nat}{s:Sto}(h:s[n]?=some (.lst xs)):walked ⟨ds,[(n,xs)]⟩ s=true:=by
 unfold walked;simp only[Fj,Fs,Fk];exact zhn h
theorem zaz{n:Nat}(h:n<=10000):fits n=true:=by
 unfold fits;exact decide_eq_true (AB h (by decide))
end L2.MP
namespace L2.MP
@[simp] theorem zca{α:Type}(x:α)(y:Option α):orO (some x) y=some x:=rfl
@[simp] theorem zeg{α:Type}(y:Option α):orO none y=y:=rfl
end L2.MP
namespace L2.MP.Hn
open PySem L2.MP
noncomputable def zdG:MS:=mSeq (mAsg (mCon (.int 0)) (gNm 2)) (mSeq (mIf (mTst (mBin ltD (mVar 1) (zaq lenD (zab (mVar 0) (mNil))))) (mAsg (mBin ixA (mVar 0) (mVar 1)) (gNm 2)) (zck)) (mSeq (mAsg (mBin addD (mBin mulA (mCon (.int 2)) (mBin modD (zaq absC (zab (mVar 2) (mNil))) (mBin powB (mBin powB (mCon (.int 10)) (mCon (.int 60))) (mCon (.int 15))))) (zaq intC (zab (mBin ltD (mVar 2) (mCon (.int 0))) (mNil)))) (gNm 3)) (mSeq (mAsg (mBin modD (mVar 3) (mCon (.int 18446744073709551557))) (gNm 4)) (mSeq (mAsg (mBin modD (mBin addD (mBin addD (mBin mulA (mVar 4) (mCon (.int 6364136223846793005))) (mBin mulA (mCon (.int 97)) (mVar 1))) (mCon (.int 3))) (mCon (.int 18446744073709551616))) (gNm 5)) (mRet (mLst (zab (mBin mulA (mVar 3) (zaq intC (zab (mBin geD (mVar 3) (mBin mulA (mCon (.int 2)) (mBin powB (mCon (.int 10)) (mCon (.int 18))))) (mNil)))) (zab (mVar 5) (mNil)))))))))
noncomputable def zbS:GN:=fnM 6 zdG
noncomputable def zb8:MS:=mSeq (mIf (mTst (mBin gtD (mBin ixA (mVar 0) (mCon (.int 0))) (mCon (.int 0)))) (mSeq (mAsg (mBin modD (mBin ixA (mVar 0) (mCon (.int 0))) (mVar 1)) (gNm 2)) (mSeq (putA (mVar 0) (mCon (.int 0)) (mBin zgm (mBin ixA (mVar 0) (mCon (.int 0))) (mVar 1))) (mRet (mVar 2)))) (zck)) (mSeq (putA (mVar 0) (mCon (.int 1)) (mBin modD (mBin addD (mBin mulA (mBin ixA (mVar 0) (mCon (.int 1))) (mCon (.int 6364136223846793005))) (mCon (.int 1442695040888963407))) (mCon (.int 18446744073709551616)))) (mRet (mBin zgm (mBin mulA (mBin zgm (mBin ixA (mVar 0) (mCon (.int 1))) (mCon (.int 4294967296))) (mVar 1)) (mCon (.int 4294967296)))))
noncomputable def zau:GN:=fnM 3 zb8
noncomputable def zeD:MS:=mRet (mBin ixA (mVar 1) (zaq zau (zab (mVar 0) (zab (zaq lenD (zab (mVar 1) (mNil))) (mNil)))))
noncomputable def zaw:GN:=fnM 2 zeD
noncomputable def za7:ME:=zaq zaw (zab (mVar 1) (zab (mVar 2) (mNil)))
end L2.MP.Hn
namespace L2.MP
open PySem
section
variable {ρ ρ1:Rho} {st s1:Sto} {m n ma mb:ME} {mm:MA} {ms mq:MS} {mt mu:MT} {g:G2} {gn:GN} {d:D} {i j:Nat} {ds:List D} {mg:MG} {mgs:MGs} {ml mh:MO}
@[simp] theorem zcQ:mVar i ρ st=match ρ[i]? with
 | some (some d)=>some (d,st)
 | _=>none:=rfl
@[simp] theorem zd4:mCon d ρ st=some (d,st):=rfl
@[simp] theorem zd5:mBin g ma mb ρ st=(ma ρ st).bind fun p=>(mb ρ p.2).bind fun q=>g p.1 q.1 q.2:=rfl
@[simp] theorem zcR:mTst m ρ st=(m ρ st).bind fun p=>match p.1 with
 | .bl b=>some (b,p.2)
 | _=>none:=rfl
@[simp] theorem zbL:zdW mt ρ st=(mt ρ st).map fun p=>(!p.1,p.2):=rfl
@[simp] theorem zct:zmn mt mu ρ st=(mt ρ st).bind fun p=>if p.1=true then mu ρ p.2 else some (false,p.2):=rfl
@[simp] theorem zdj:mOrT mt mu ρ st=(mt ρ st).bind fun p=>if p.1=true then some (true,p.2) else mu ρ p.2:=rfl
@[simp] theorem zbY:zdp m n ρ st=(mTst m ρ st).bind fun p=>if p.1=true then n ρ p.2 else some (.bl false,p.2):=rfl
theorem zdi:mOrV m n ρ st=(mTst m ρ st).bind fun p=>if p.1=true then some (.bl true,p.2) else n ρ p.2:=rfl
@[simp] theorem zcr:zmm m ρ st=(mTst m ρ st).map fun p=>(.bl !p.1,p.2):=rfl
@[simp] theorem zbA:zaq gn mm ρ st=(mm ρ st).bind fun p=>gn p.1 p.2:=rfl
@[simp] theorem zbz:zab m mm ρ st=(m ρ st).bind fun p=>(mm ρ p.2).bind fun q=>some (p.1::q.1,q.2):=rfl
@[simp] theorem zcG:mNil ρ st=some ([],st):=rfl
@[simp] theorem zdY:mTup mm ρ st=(mm ρ st).bind fun p=>if fits p.1.length=true then some (.tup p.1,p.2) else none:=rfl
@[simp] theorem zdk:mLst mm ρ st=(mm ρ st).bind fun p=>if fits p.1.length=true then some (.ref p.2.length,p.2++[.lst p.1]) else none:=rfl
@[simp] theorem zcp:mRet m ρ st=(m ρ st).map fun p=>(.rt p.1,p.2):=rfl
@[simp] theorem zd3:mExp m ρ st=(m ρ st).map fun p=>(.nx ρ,p.2):=rfl
@[simp] theorem zdw:mAsg m mg ρ st=(m ρ st).bind fun p=>(mg p.1 ρ p.2).map fun q=>(.nx q.1,q.2):=rfl
@[simp] theorem ziX:gNm i d ρ st=some (ρ.set i (some d),st):=rfl
@[simp] theorem zcq:zck ρ st=some (.nx ρ,st):=rfl
@[simp] theorem zd1:mNeg m ρ st=(m ρ st).bind fun p=>negD p.1 p.2:=rfl
@[simp] theorem zhH:mIf mt ms mq ρ st=(mt ρ st).bind fun p=>if p.1=true then ms ρ p.2 else mq ρ p.2:=rfl
@[simp] theorem zd0:putA ma mb m ρ st=orO (mAsg m (gSb setD ma mb) ρ st) (znn ma mb m ρ st):=rfl
@[simp] theorem ziU{g3:G3}:gSb g3 ma mb d ρ st=(ma ρ st).bind fun p=>(mb ρ p.2).bind fun q=>(g3 p.1 q.1 d q.2).map fun s=>(ρ,s):=rfl
@[simp] theorem ziT:gTp i mgs d ρ st=match d with
 | .tup ds=>if ds.length=i then mgs ds ρ st else none
 | _=>none:=rfl
@[simp] theorem zd2:gN0 [] ρ st=some (ρ,st):=rfl
@[simp] theorem ziY:gC mg mgs (d::ds) ρ st=(mg d ρ st).bind fun p=>mgs ds p.1 p.2:=rfl
theorem ap_w:mW m ρ st=(m ρ st).bind fun p=>zi0 p.1 p.2:=rfl
@[simp] theorem zhN:mR1 m ρ st=(m ρ st).bind fun p=>match p.1 with
 | .int j=>if small j=true then some (⟨run 0 j.toNat,[]⟩,p.2) else none
 | _=>none:=rfl
@[simp] theorem zco:za9 ρ st=some (true,st):=rfl
theorem za5{mi:MI}{k:Nat}{fr:List Nat}:zbv mi k fr mg mt m ρ st=(mi ρ st).bind fun p=>(mCI p.1 mg mt m p.1.ds (rho0 ρ k fr) p.2).bind fun q=>if fits q.1.length=true then some (.ref q.2.length,q.2++[.lst q.1]) else none:=rfl
@[simp] theorem zcs{mi:MI}:mFor mi mg ms ρ st=(mi ρ st).bind fun p=>zf7 p.1 mg ms p.1.ds ρ p.2:=rfl
theorem zdZ:mSlA m ml mh ρ st=(m ρ st).bind fun p=>(ml ρ p.2).bind fun q=>(mh ρ q.2).bind fun r=>slA p.1 q.1 r.1 r.2:=rfl
@[simp] theorem ziW:zbi ρ st=some (none,st):=rfl
@[simp] theorem ziV:zbh m ρ st=(m ρ st).bind fun p=>match p.1 with
 | .int i=>some (some i,p.2)
 | _=>none:=rfl
@[simp] theorem zcS{T:String}:mIsi T m ρ st=(m ρ st).bind fun p=>(tyName p.2 p.1).map fun t=>(.bl (subT t T),p.2):=rfl
@[simp] theorem zd6:mApp m mm ρ st=(m ρ st).bind fun p=>match p.1 with
 | .ref n=>(zbf p.2 n).bind fun _=>(mm ρ p.2).bind fun q=>zcn p.1 q.1 q.2
 | _=>none:=rfl
@[simp] theorem zdv:mZip ma mb ρ st=(ma ρ st).bind fun p=>(mb ρ p.2).bind fun q=>zipW p.1 q.1 q.2:=rfl
theorem zaE{r:Option (Fl×Sto)}(h:ms ρ st=some (.nx ρ1,s1))(k:mq ρ1 s1=r):mSeq ms mq ρ st=r:=by
 unfold mSeq;rw[h];exact k
theorem zfO{s:Sto}(h:ms ρ st=some (.rt d,s)):mSeq ms mq ρ st=some (.rt d,s):=by
 unfold mSeq;rw[h];rfl
theorem zcc{N:Nat}{s:Sto}(h:ms (rho N ds) st=some (.rt d,s)):fnM N ms ds st=some (d,s):=by
 unfold fnM;rw[h];rfl
theorem zbC{k:Nat}(h:k<=10000:=by decide):fits k=true:=zaz h
@[simp] theorem ziD:fits 0=true:=zbC
@[simp] theorem ziC:fits 1=true:=zbC
@[simp] theorem zhv:fits 2=true:=zbC
@[simp] theorem ziB:fits 3=true:=zbC
@[simp] theorem ziA:fits 4=true:=zbC
@[simp] theorem ziz:fits 5=true:=zbC
@[simp] theorem ziy:fits 6=true:=zbC
@[simp] theorem zix:fits 7=true:=zbC
@[simp] theorem ziw:fits 8=true:=zbC
theorem zhX{k:Int}(h0:0<=k)(h1:k<=1000000):small k=true:=by
 unfold small;simp;omega
theorem znt{n:Nat}{ds:List D}{k:Int}{x:D}(h:st[n]?=some (.lst ds))(h0:0<=k)(hx:ds[k.toNat]?=some x):ixA (.ref n) (.int k) st=some (x,st):=by
 have hl:=getElem?_lt hx;have h1:k < ds.length:=by omega
 simp[ixA,orG,idxD,zbf,h,atI,ixN,h0,h1,zca];exact (List.getElem?_eq_some_iff.mp hx).2
theorem za2{ds:List D}{k:Int}{x:D}(h0:0<=k)(hx:ds[k.toNat]?=some x):ixA (.tup ds) (.int k) st=some (x,st):=by
 have hl:=getElem?_lt hx;have h1:k < ds.length:=by omega
 simp[ixA,orG,idxD,atI,ixN,h0,h1,zca];exact (List.getElem?_eq_some_iff.mp hx).2
theorem zoE{ds:List D}{k:Int}{x:D}(h0:0<=k)(hx:ds[k.toNat]?=some x):ixA (.kl ds) (.int k) st=some (x,st):=by
 have hl:=getElem?_lt hx;have h1:k < ds.length:=by omega
 simp[ixA,orG,idxD,atI,ixN,h0,h1,zca];exact (List.getElem?_eq_some_iff.mp hx).2
theorem zir{z:Str}{k:Int}{c:Nat}(hz:z.length<=10000)(h0:0<=k)(hx:z.cps[k.toNat]?=some c):ixA (.str z) (.int k) st=some (.str ⟨#[c]⟩,st):=by
 have hl:k.toNat < z.cps.size:=(Array.getElem?_eq_some_iff.mp hx).1;have h1:k < z.cps.size:=by omega
 have hf:fits z.length=true:=zaz hz;simp[ixA,orG,idxD,atI,ixN,h0,h1,zca,hf];exact (Array.getElem?_eq_some_iff.mp hx).2
theorem zlW{n:Nat}(h:st[n]?=some (.lst ds)):lenD [.ref n] st=some (.int ds.length,st):=by simp[lenD,zbf,h]
theorem zdB:lenD [.tup ds] st=some (.int ds.length,st):=rfl
theorem zkb:lenD [.kl ds] st=some (.int ds.length,st):=rfl
theorem zbq{n:Nat}(h:st[n]?=some (.lst ds)):za8 [.ref n] st=some (.tup ds,st):=by simp[za8,zbf,h]
@[simp] theorem add_int(a b:Int):addD (.int a) (.int b) st=some (.int (a+b),st):=rfl
@[simp] theorem sub_int(a b:Int):subD (.int a) (.int b) st=some (.int (a - b),st):=rfl
theorem mul_int{a b:Int}(h:-1000000<=a/\a<=1000000):mulA (.int a) (.int b) st=some (.int (a*b),st):=by
 have:in64 a=true:=by unfold in64;simp;omega
 simp[mulA,orG,mulD,intD,this,zca]
theorem zeB{a b:List D}(ha:a≠[])(h:a.length+b.length<=10000):addD (.tup a) (.tup b) st=some (.tup (a++b),st):=by
 have:fits (a.length+b.length)=true:=zaz h
 cases a with
 | nil=>exact absurd rfl ha
 | cons x a=>simp[addD,this] at *
theorem zjn{a b:Nat}{x y:List D}(ha:st[a]?=some (.lst x))(hb:st[b]?=some (.lst y))(h:x.length+y.length<=10000):addD (.ref a) (.ref b) st=some (.ref st.length,st++[.lst (x++y)]):=by
 have:fits (x.length+y.length)=true:=zaz h;simp[addD,ha,hb,this]
theorem add_str{a b:Str}(h:a.length+b.length<=10000):addD (.str a) (.str b) st=some (.str (a++b),st):=by
 have:fits (a.length+b.length)=true:=zaz h;simp[addD,this]
theorem append_at{n:Nat}{x:D}(h:st[n]?=some (.lst ds))(hl:ds.length<=10000):zcn (.ref n) [x] st=some (.non,st.set n (.lst (ds++[x]))):=by
 have:ds.length < sizeLine:=B8 hl (by decide);simp[zcn,h,this]
end
end L2.MP
set_option linter.unusedSimpArgs false
namespace L2.MP.Hn
open PySem L2.MP
def zbH(n:Nat)(st:Sto):Prop:=∃ a b:Int,st[n]?=some (.lst [.int a,.int b])/\0<=a/\0<=b/\b < 18446744073709551616
theorem zbH.lt{n:Nat}{st:Sto}(h:zbH n st):n < st.length:=by
 obtain⟨a,b,e,_⟩:=h;exact getElem?_lt e
theorem zbH.gr{n:Nat}{st st':Sto}(h:zbH n st)(g:Gr st st'):zbH n st':=by
 obtain⟨a,b,e,r⟩:=h;exact⟨a,b,by rw[g.old n (getElem?_lt e)];exact e,r⟩
theorem znE{x m:Int}(h0:0<=x)(h1:x < 4294967296)(hm:0 < m):0<=x*m / 4294967296/\x*m / 4294967296 < m:=by
 have h2:x*m < 4294967296*m:=Int.mul_lt_mul_of_pos_right h1 hm;have h3:0<=x*m:=Int.mul_nonneg h0 (Ca hm);omega
theorem zfp{n:Nat}{st:Sto}{many:Int}(h:zbH n st)(h1:0 < many)(h2:many < 18446744073709551616):∃ (r:Int) (st':Sto),zau [.ref n,.int many] st=some (.int r,st')/\0<=r/\r < many/\zbH n st'/\Fr n st st'/\st'.length=st.length:=by
 obtain⟨a,b,e,ha,hb,hb2⟩:=h;have hn:=getElem?_lt e;have hm2:many < 340282366920938463463374607431768211456:=by omega
 by_cases hp:0 < a
 . refine⟨a % many,st.set n (.lst [.int (a / many),.int b]),?_,B4 _ (by omega),Cc _ h1,⟨a / many,b,by simp[hn],Int.ediv_nonneg ha (by omega),hb,hb2⟩,Fr.set _ _ _,by simp⟩;simp[zau,zb8,fnM,mSeq,mIf,mTst,mBin,mVar,mCon,zaq,zab,mNil,mRet,mAsg,gNm,zck,ixA,orG,zca,zeg,idxD,znF,zbf,atI,ixN,ltD,leD,gtD,geD,cmpD,addD,subD,modD,zgm,mulA,mulD,zkK,powB,intD,tt2,intC,absC,lenD,putA,gSb,setD,rho,zdk,zhv,e,hp,h1,hm2]
 . have hz:a=0:=by omega
   subst hz;have q0:0<=(b*6364136223846793005+1442695040888963407) % 18446744073709551616:=B4 _ (by decide);have q1:(b*6364136223846793005+1442695040888963407) % 18446744073709551616 < 18446744073709551616:=Cc _ (by decide);generalize hq:(b*6364136223846793005+1442695040888963407) % 18446744073709551616=q at q0 q1;have q2:0<=q / 4294967296:=by omega
   have q3:q / 4294967296 < 4294967296:=by omega
   obtain⟨r0,r1⟩:=znE q2 q3 h1;refine⟨q / 4294967296*many / 4294967296,st.set n (.lst [.int 0,.int q]),?_,r0,r1,⟨0,q,by simp[hn],by omega,q0,q1⟩,Fr.set _ _ _,by simp⟩;have i1:in64 b=true:=by unfold in64;simp;omega
   have i2:in64 (q / 4294967296)=true:=by unfold in64;simp;omega
   have hs:∀ o,(List.set st n o)[n]?=some o:=fun o=>by simp[hn]
   simp[zau,zb8,fnM,mSeq,mIf,mTst,mBin,mVar,mCon,zaq,zab,mNil,mRet,mAsg,gNm,zck,ixA,orG,zca,zeg,idxD,znF,zbf,atI,ixN,ltD,leD,gtD,geD,cmpD,addD,subD,modD,zgm,mulA,mulD,zkK,powB,intD,tt2,intC,absC,lenD,putA,gSb,setD,rho,zdk,zhv,e,hs,i1,i2,hq]
theorem of_ok{n l:Nat}{st:Sto}{ds:List D}(h:zbH n st)(hl:st[l]?=some (.lst ds))(hne:0 < ds.length)(hlen:ds.length < 1000000)(hln:l≠n) :
   ∃ d st',zaw [.ref n,.ref l] st=some (d,st')/\d∈ds/\zbH n st'/\Fr n st st':=by
 obtain⟨r,s1,e1,r0,r1,p1,f1,_⟩:=zfp (many:=ds.length) h (by omega) (by omega);have hx:r.toNat < ds.length:=by omega
 have hl1:s1[l]?=some (.lst ds):=(f1.old l (getElem?_lt hl) hln).trans hl;refine⟨ds[r.toNat],s1,zcc ?_,Cr hx,p1,f1⟩;unfold zeD;simp[rho,zcQ,zd4,zd5,zcR,zbL,zct,zdj,zbY,zdi,zcr,zbA,zbz,zcG,zdY,zdk,zcp,zd3,zdw,ziX,zcq,zd1,zhH,zd0,ziU,ziT,zd2,ziY,ap_w,zhN,zco,za5,zcs,zdZ,ziW,ziV,zcS,zd6,zdv,zca,zeg,ziD,ziC,zhv,ziB,ziA,ziz,ziy,zix,ziw,Ae,Au,add_int,sub_int,ltD,leD,gtD,geD,cmpD,intC,rho0,zlW hl,e1];exact znt hl1 r0 (Ah hx)
theorem zni{n:Nat}{st:Sto}(ds:List D)(h:zbH n st)(hne:0 < ds.length)(hlen:ds.length < 1000000):∃ d st',zaw [.ref n,.ref st.length] (st++[.lst ds])=some (d,st')/\d∈ds/\zbH n st'/\Fr n st st':=by
 obtain⟨d,s,e,hd,p,f⟩:=of_ok (l:=st.length) (h.gr (Gr.app st [.lst ds])) (zbb st _) hne hlen (B6 h.lt);exact⟨d,s,e,hd,p,(Fr.app n st _).trans f⟩
theorem pows:∃ P M Q:Int,0 < M/\(∀ st:Sto,powB (.int 10) (.int 60) st=some (.int P,st))/\(∀ st:Sto,powB (.int P) (.int 15) st=some (.int M,st))/\∀ st:Sto,powB (.int 10) (.int 18) st=some (.int Q,st) :=
 ⟨10 ^ 60,(10 ^ 60) ^ 15,10 ^ 18,by decide,fun st=>rfl,fun st=>rfl,fun st=>rfl⟩
theorem zmV{ns:List Int}{k:Int}{st:Sto}(h0:0<=k)(h1:k < 1000):∃ st',zbS [.kl (ns.map D.int),.int k] st=some (.ref st.length,st')/\zbH st.length st'/\Gr st st':=by
 obtain⟨P,M,Q,hM,p1,p2,p3⟩:=pows;have cell:∃ c:Int,mIf (mTst (mBin ltD (mVar 1) (zaq lenD (zab (mVar 0) (mNil))))) (mAsg (mBin ixA (mVar 0) (mVar 1)) (gNm 2)) (zck) [some (.kl (ns.map D.int)),some (.int k),some (.int 0),none,none,none] st =
     some (.nx [some (.kl (ns.map D.int)),some (.int k),some (.int c),none,none,none],st):=by
   by_cases hk:k < ns.length
   . have hx:k.toNat < ns.length:=by omega
     refine⟨ns[k.toNat],?_⟩;have e:ixA (.kl (ns.map D.int)) (.int k) st=some (.int ns[k.toNat],st):=zoE h0 (by rw[AL,Ah hx];rfl);simp[rho,zcQ,zd4,zd5,zcR,zbL,zct,zdj,zbY,zdi,zcr,zbA,zbz,zcG,zdY,zdk,zcp,zd3,zdw,ziX,zcq,zd1,zhH,zd0,ziU,ziT,zd2,ziY,ap_w,zhN,zco,za5,zcs,zdZ,ziW,ziV,zcS,zd6,zdv,zca,zeg,ziD,ziC,zhv,ziB,ziA,ziz,ziy,zix,ziw,Ae,Au,add_int,sub_int,ltD,leD,gtD,geD,cmpD,intC,rho0,zkb,hk,e]
   . refine⟨0,?_⟩;simp[rho,zcQ,zd4,zd5,zcR,zbL,zct,zdj,zbY,zdi,zcr,zbA,zbz,zcG,zdY,zdk,zcp,zd3,zdw,ziX,zcq,zd1,zhH,zd0,ziU,ziT,zd2,ziY,ap_w,zhN,zco,za5,zcs,zdZ,ziW,ziV,zcS,zd6,zdv,zca,zeg,ziD,ziC,zhv,ziB,ziA,ziz,ziy,zix,ziw,Ae,Au,add_int,sub_int,ltD,leD,gtD,geD,cmpD,intC,rho0,zkb,hk]
 obtain⟨c,ec⟩:=cell;have hR:∃ R:Int,0<=R/\modD (.int (if c < 0 then -c else c)) (.int M) st=some (.int R,st):=⟨(if c < 0 then -c else c) % M,B4 _ (by omega),by simp[modD,intD,hM]⟩
 obtain⟨R,hR0,eR⟩:=hR;have hN:∃ N:Int,0<=N/\2*R+(if c < 0 then 1 else 0)=N:=⟨_,by split <;> omega,rfl⟩
 obtain⟨N,hN0,eN⟩:=hN;have hb0:0<=N % 18446744073709551557:=B4 _ (by decide);have hb1:N % 18446744073709551557 < 18446744073709551557:=Cc _ (by decide);generalize hB:N % 18446744073709551557=B at hb0 hb1;have hx0:0<=(B*6364136223846793005+97*k+3) % 18446744073709551616:=B4 _ (by decide);have hx1:(B*6364136223846793005+97*k+3) % 18446744073709551616 < 18446744073709551616:=Cc _ (by decide);generalize hX:(B*6364136223846793005+97*k+3) % 18446744073709551616=X at hx0 hx1;have iB:in64 B=true:=by unfold in64;simp;omega
 have i97:in64 97=true:=by decide
 have i2:in64 2=true:=by decide
 have hY:∃ Y:Int,0<=Y/\mulA (.int N) (.int (if 2*Q<=N then 1 else 0)) st=some (.int Y,st):=by
   by_cases hq:2*Q<=N
   . refine⟨N*1,by omega,?_⟩;have:in64 1=true:=by decide
     simp[hq,mulA,orG,mulD,intD,this,zca]
   . refine⟨N*0,by omega,?_⟩;have:in64 0=true:=by decide
     simp[hq,mulA,orG,mulD,intD,this,zca]
 obtain⟨Y,hY0,eY⟩:=hY;refine⟨st++[.lst [.int Y,.int X]],zcc ?_,⟨Y,X,zbb _ _,hY0,hx0,hx1⟩,Gr.app _ _⟩;unfold zdG;refine zaE (ρ1:=[some (.kl (ns.map D.int)),some (.int k),some (.int 0),none,none,none]) (s1:=st) (by simp[rho,zcQ,zd4,zd5,zcR,zbL,zct,zdj,zbY,zdi,zcr,zbA,zbz,zcG,zdY,zdk,zcp,zd3,zdw,ziX,zcq,zd1,zhH,zd0,ziU,ziT,zd2,ziY,ap_w,zhN,zco,za5,zcs,zdZ,ziW,ziV,zcS,zd6,zdv,zca,zeg,ziD,ziC,zhv,ziB,ziA,ziz,ziy,zix,ziw,Ae,Au,add_int,sub_int,ltD,leD,gtD,geD,cmpD,intC,rho0]) ?_;refine zaE ec ?_;refine zaE (ρ1:=[some (.kl (ns.map D.int)),some (.int k),some (.int c),some (.int N),none,none]) (s1:=st) (by
   simp[rho,zcQ,zd4,zd5,zcR,zbL,zct,zdj,zbY,zdi,zcr,zbA,zbz,zcG,zdY,zdk,zcp,zd3,zdw,ziX,zcq,zd1,zhH,zd0,ziU,ziT,zd2,ziY,ap_w,zhN,zco,za5,zcs,zdZ,ziW,ziV,zcS,zd6,zdv,zca,zeg,ziD,ziC,zhv,ziB,ziA,ziz,ziy,zix,ziw,Ae,Au,add_int,sub_int,ltD,leD,gtD,geD,cmpD,intC,rho0,p1,p2,absC,eR,mulA,orG,mulD,intD,i2,eN]) ?_
 refine zaE (ρ1:=[some (.kl (ns.map D.int)),some (.int k),some (.int c),some (.int N),some (.int B),none]) (s1:=st) (by simp[rho,zcQ,zd4,zd5,zcR,zbL,zct,zdj,zbY,zdi,zcr,zbA,zbz,zcG,zdY,zdk,zcp,zd3,zdw,ziX,zcq,zd1,zhH,zd0,ziU,ziT,zd2,ziY,ap_w,zhN,zco,za5,zcs,zdZ,ziW,ziV,zcS,zd6,zdv,zca,zeg,ziD,ziC,zhv,ziB,ziA,ziz,ziy,zix,ziw,Ae,Au,add_int,sub_int,ltD,leD,gtD,geD,cmpD,intC,rho0,modD,intD,hB]) ?_;refine zaE (ρ1:=[some (.kl (ns.map D.int)),some (.int k),some (.int c),some (.int N),some (.int B),some (.int X)]) (s1:=st) (by simp[rho,zcQ,zd4,zd5,zcR,zbL,zct,zdj,zbY,zdi,zcr,zbA,zbz,zcG,zdY,zdk,zcp,zd3,zdw,ziX,zcq,zd1,zhH,zd0,ziU,ziT,zd2,ziY,ap_w,zhN,zco,za5,zcs,zdZ,ziW,ziV,zcS,zd6,zdv,zca,zeg,ziD,ziC,zhv,ziB,ziA,ziz,ziy,zix,ziw,Ae,Au,add_int,sub_int,ltD,leD,gtD,geD,cmpD,intC,rho0,modD,mulA,orG,mulD,intD,iB,i97,hX]) ?_;have eY':mulA (.int N) (.int (if decide (2*Q<=N)=true then 1 else 0)) st=some (.int Y,st):=by simpa using eY
 have e2Q:mulA (.int 2) (.int Q) st=some (.int (2*Q),st):=mul_int (by omega);simp[rho,zcQ,zd4,zd5,zcR,zbL,zct,zdj,zbY,zdi,zcr,zbA,zbz,zcG,zdY,zdk,zcp,zd3,zdw,ziX,zcq,zd1,zhH,zd0,ziU,ziT,zd2,ziY,ap_w,zhN,zco,za5,zcs,zdZ,ziW,ziV,zcS,zd6,zdv,zca,zeg,ziD,ziC,zhv,ziB,ziA,ziz,ziy,zix,ziw,Ae,Au,add_int,sub_int,ltD,leD,gtD,geD,cmpD,intC,rho0,p3,e2Q,eY]
end L2.MP.Hn
namespace L2.MP
open PySem PySem.Builtin PySem.Builtin.Str
end L2.MP
namespace L2.MP
open PySem
theorem zgt{n:Nat}{st:Sto}{x:Str}(h:Bg x=true):toP (n+1) st (.str x)=some (.str x):=by
 rw[toP];simp[h]
theorem eq_int(a b:Int)(st:Sto):eqD (.int a) (.int b) st=some (.bl (a==b),st):=by
 unfold eqD;rw[toP,toP];simp[C5]
end L2.MP
namespace L2.MP.Hn
open PySem L2.MP
noncomputable abbrev zlT:Str:="abcdefghijklmnopqrstuvwxyz"
theorem zhe:∀ k:Nat,k < 26->zlT.cps[k]?=some (97+k):=by decide +kernel
end L2.MP.Hn
namespace L2.MP
open PySem
noncomputable def zaD(p:Str×Int):D:=.tup [.str p.1,.int p.2]
noncomputable def zcb(k:List Str):D:=.tup (k.map D.str)
end L2.MP
namespace L2.MP.Hn
open PySem L2.MP
theorem zjF{n l:Nat}{st:Sto}{sd:List Str}{v:Option D}(h:zbH n st)(hl:st[l]?=some (.lst (sd.map D.str)))(hln:l≠n)(h0:0 < sd.length)(h1:sd.length < 1000):∃ (xs:List Str) (st':Sto),
   mCI ⟨run 0 4,[]⟩ (gNm 0) za9 za7 (run 0 4) [v,some (.ref n),some (.ref l)] st=some (xs.map D.str,st')/\xs.length=4/\(∀ x∈xs,x∈sd)/\zbH n st'/\Fr n st st':=by
 have key:=zmu (W:=⟨run 0 4,[]⟩) (g:=gNm 0) (c:=za9) (m:=za7) (ds:=run 0 4) (acc:=[]) (st:=st) (ρ:=[v,some (.ref n),some (.ref l)])
   (Inv:=fun k a ρ s=>(∃ x,ρ=[x,some (.ref n),some (.ref l)])/\(∃ xs:List Str,a=xs.map D.str/\xs.length=k/\∀ x∈xs,x∈sd)/\zbH n s/\Fr n st s)
   ⟨⟨v,rfl⟩,⟨[],rfl,rfl,by simp⟩,h,Fr.refl _ _⟩ (fun _ _ _ _ _ _=>rfl) (fun k d a ρ s hd hI=>by
     obtain⟨⟨x,rfl⟩,⟨xs,rfl,hlen,hx⟩,hp,hf⟩:=hI;obtain⟨d1,s1,e1,hd1,p1,f1⟩:=of_ok hp ((hf.old l (getElem?_lt hl) hln).trans hl) (by simpa using h0) (by rw[Ag];omega) hln;obtain⟨y,hy,rfl⟩:=List.mem_map.mp hd1;refine⟨[some d,some (.ref n),some (.ref l)],s,true,s,rfl,rfl,.inl ⟨rfl,.str y,s1,?_,⟨_,rfl⟩,⟨xs++[y],by simp,by simp[hlen],?_⟩,p1,hf.trans f1⟩⟩
     . unfold za7;simp[rho,zcQ,zd4,zd5,zcR,zbL,zct,zdj,zbY,zdi,zcr,zbA,zbz,zcG,zdY,zdk,zcp,zd3,zdw,ziX,zcq,zd1,zhH,zd0,ziU,ziT,zd2,ziY,ap_w,zhN,zco,za5,zcs,zdZ,ziW,ziV,zcS,zd6,zdv,zca,zeg,ziD,ziC,zhv,ziB,ziA,ziz,ziy,zix,ziw,Ae,Au,add_int,sub_int,ltD,leD,gtD,geD,cmpD,intC,rho0,e1]
     . intro z hz
       rcases List.mem_append.mp hz with hz | hz
       . exact hx z hz
       . rw[List.mem_singleton.mp hz];exact hy)
 obtain⟨ys,ρ',s',e,_,⟨xs,hx,hm,hv⟩,hp,hf⟩:=key;rw[EY] at hx;subst hx;exact⟨xs,s',e,by rw[hm,zcI],hv,hp,hf⟩
end L2.MP.Hn
namespace L2.MP
open PySem
noncomputable abbrev Tl:=Int×Int×Int
end L2.MP
namespace L2.MP.Hn
open PySem L2.MP
end L2.MP.Hn
namespace L2.MP
open PySem PySem.Spec PyProof.Rows
section
variable {X:Cx} {K:Ab} {H:Hp} {io:List Addr} {st st':Sto} {a b c e:Expr} {es:List Expr} {ma mb mc m:ME} {mm:MA} {pos:Pos}
noncomputable def zdc:D->List D->Sto->Option (D×Sto):=fun x xs st=>match x,xs with
 | .ref n,[.ref k]=>match st[n]?,st[k]? with
   | some (.lst ds),some (.lst zs)=>if fits (ds.length+zs.length)=true then some (.non,st.set n (.lst (ds++zs))) else none
   | _,_=>none
 | _,_=>none
theorem extend_in{x:D}{xs:List D}{d:D}(h:zdc x xs st=some (d,st')):∃ n k ds zs,x=.ref n/\xs=[.ref k]/\st[n]?=some (.lst ds)/\st[k]?=some (.lst zs)/\ds.length+zs.length<=sizeLine/\d=.non/\st'=st.set n (.lst (ds++zs)):=by
 unfold zdc at h
 split at h
 . rename_i n k
   split at h
   . rename_i ds zs e1 e2;obtain⟨hf,h⟩:=zar h;cases h;exact⟨n,k,ds,zs,rfl,rfl,e1,e2,of_decide_eq_true hf,rfl,rfl⟩
   . cases h
 . cases h
theorem zg8:MtR X "list.extend" (mtM X.K zdc):=by
 rintro pins s σ H x xs v us Q I rx rs ⟨dx,ds,st,io,d,st',Rx,Rs,S,e,k⟩;obtain⟨n,j,l,zs,rfl,rfl,e1,e2,hl,rfl,rfl⟩:=extend_in e;obtain⟨p,rfl,hp⟩:=Rx;obtain⟨w,rfl,Rw⟩:=Rs.one;obtain⟨q,rfl,hq⟩:=Rw;obtain⟨ys,hH,r⟩:=S.ob n p _ hp e1;obtain⟨ws,hB,r2⟩:=S.ob j q _ hq e2;refine zii pins s σ H _ _ v us Q I rx rs ⟨p,q,ys,ws,rfl,rfl,hH,hB,by rw[r.length,r2.length];exact hl,?_⟩;obtain⟨E',S'⟩:=zgO (o:=.lst (ys++ws)) (ob:=.lst (l++zs)) S hp e1 (fun o u z=>by rw[hH] at z;cases z) fun H' T e'=>⟨_,e',(Reps.mono T r).append (Reps.mono T r2)⟩
 exact k _ _ [] E' S' rfl
noncomputable def mExt(m:ME)(mm:MA):ME:=fun ρ st=>(m ρ st).bind fun (x,s1)=>match x with
 | .ref n=>(zbf s1 n).bind fun _=>(mm ρ s1).bind fun (xs,s2)=>zdc x xs s2
 | _=>none
theorem zh3{o:Expr}{apos cpos:Pos}(ho:SE X o m)(ha:SA X (e::es) mm)
   (hbase:attributeBase o "extend" X.env (eval o X.env)=eval o X.env:=by rfl)
   (hfew:((backTo cpos (starEach (e::es) X.env)).all (fun x=>!x.1)&&(backToKw cpos (keywordEach [] X.env)).all (fun x=>x.1.isSome)
    &&decide ((e::es).length+([]:List Keyword).length+(if ([]:List Keyword).isEmpty then 0 else 1) < 30))=true:=by rfl)
   (hline:(apos.endLine==cpos.line)=true:=by rfl) (hs:starEach (e::es) X.env=(false,eval e X.env)::starEach es X.env:=by rfl) (hplain:(backTo cpos (starEach es X.env)).any (·.1)=false:=by rfl) :
   SE X (.Call (.Attribute o "extend" apos) (e::es) [] cpos) (mExt m mm) :=
 PE.imp (znQ Dk PySem.F.slot_list_extend PySem.F.type_list_extend zg8 ho ha hbase hfew hline hs hplain) <| by
   rintro σ H Q ⟨ρ,st,io,d,st',E,S,e,k⟩;obtain⟨⟨x,s1⟩,e1,e⟩:=zad e
   cases x with
   | ref n =>
     obtain⟨l,e0,e⟩:=zad e;obtain⟨⟨xs,s2⟩,e2,e⟩:=zad e;refine⟨ρ,st,io,_,s1,E,S,e1,fun v1 H1 k1 X1 S1 R1=>⟨zgp R1 S1 e0,ρ,s1,io++k1,xs,s2,E.ext S X1,S1,e2,fun vs H2 k2 X2 S2 R2=>?_⟩⟩;exact⟨_,xs,s2,(io++k1)++k2,d,st',R1.ext S1 X2,R2,S2,e,(k.on S1 X1).on S2 X2⟩
   | _=>cases e
end
end L2.MP
namespace L2.MP
open PySem
end L2.MP
namespace L2.MP.Hn
open PySem L2.MP
theorem ziE{st:Sto}{n k:Nat}{ds zs:List D}(h:st[n]?=some (.lst ds))(h':st[k]?=some (.lst zs))(hl:ds.length+zs.length<=10000):zdc (.ref n) [.ref k] st=some (.non,st.set n (.lst (ds++zs))):=by
 have:fits (ds.length+zs.length)=true:=zaz hl;simp[zdc,h,h',this]
end L2.MP.Hn
namespace L2.MP
open PySem PySem.Spec PyProof.Rows
section
end
section
variable {prog:Program} {w:World} {A:Around} {E:Value->Shared->Prop} {s:Shared}
theorem Sr.is_get{h:Heap}{xs:Array Value}{x:Sr}(q:x.is h xs):∃ o,h.get? x.ad=some o:=by
 cases x with
 | l a=>obtain⟨o,g,_⟩:=q;exact⟨o,g⟩
 | t a=>obtain⟨o,g,_⟩:=q;exact⟨o,g⟩
end
section
variable {X:Cx} {K:Ab} {H:Hp} {io:List Addr} {m:ME} {st st':Sto}
end
section
variable {X:Cx} {K:Ab} {H:Hp} {io:List Addr} {m ma mb mc:ME} {st st':Sto} {a b c:Expr} {pos:Pos}
noncomputable def zc8(g g':G2)(ma mb mc:ME):ME:=fun ρ st=>(ma ρ st).bind fun (x,s1)=>(mb ρ s1).bind fun (y,s2)=>(g x y s2).bind fun (z,s3)=>match z with
 | .bl q=>if q=true then (mc ρ s3).bind fun (w,s4)=>g' y w s4 else some (.bl false,s3)
 | _=>none
theorem zgd{g g':G2}{σ:L2.St}{H:Hp}{Q:VK}(h:tE K (zc8 g g' ma mb mc) σ H Q):zkS (r2M K g) (r2M K g') (tE K ma) (tE K mb) (tE K mc) σ H Q:=by
 obtain⟨ρ,st,io,d,st',E,S,e,k⟩:=h;obtain⟨⟨x,s1⟩,e1,e⟩:=zad e;obtain⟨⟨y,s2⟩,e2,e⟩:=zad e;obtain⟨⟨z,s3⟩,e3,e⟩:=zad e;refine⟨ρ,st,io,x,s1,E,S,e1,fun v1 H1 k1 X1 S1 R1=>?_⟩;refine⟨ρ,s1,io++k1,y,s2,E.ext S X1,S1,e2,fun v2 H2 k2 X2 S2 R2=>?_⟩;refine⟨x,y,s2,(io++k1)++k2,z,s3,R1.ext S1 X2,R2,S2,e3,fun v3 H3 k3 X3 S3 R3=>?_⟩;have k':=((k.on S1 X1).on S2 X2).on S3 X3;dsimp only at e
 split at e
 . rename_i q;refine⟨q,R3,?_⟩
   cases q with
   | true =>
     rw[if_pos rfl] at e ⊢;obtain⟨⟨w,s4⟩,e4,e5⟩:=zad e;refine⟨ρ,s3,((io++k1)++k2)++k3,w,s4,((E.ext S X1).ext S1 X2).ext S2 X3,S3,e4,fun v4 H4 k4 X4 S4 R4=>?_⟩;exact⟨y,w,s4,(((io++k1)++k2)++k3)++k4,d,st',(R2.ext S2 X3).ext S3 X4,R4,S4,e5,k'.on S4 X4⟩
   | false =>
     rw[if_neg Bd] at e ⊢;cases e;exact Bh.now k' S3 rfl
 . cases e
theorem zgD{op op':CmpOp}{g g':G2}(ho:OpM X (compareOp op) g)(ho':OpM X (compareOp op') g')(ha:SE X a ma)(hb:SE X b mb)(hc:SE X c mc)(hm:lastMarks [op,op'] [b,c]=false:=by with_unfolding_all rfl) :
   SE X (.Compare a [op,op'] [b,c] pos) (zc8 g g' ma mb mc):=PE.imp (zjX ho ho' ha hb hc hm) fun _ _ _ h=>zgd h
end
section
variable {X:Cx} {K:Ab} {H:Hp} {io:List Addr} {m mk:ME} {st st':Sto} {e se:Expr} {te:TE} {ts:TO} {p2 pos:Pos}
theorem zfb{x:V}{u:Value}:∀ {xs:List V} {us:List Value},Vals xs us->RelV x u->Vals (xs++[x]) (us++[u])
 | [],_,.nil,r=>.cons r .nil
 | y::xs,_,.cons z t,r=>.cons z (zfb t r)
theorem zgn:∀ {xs:List V} {us:List Value},Vals xs us->Vals xs.reverse us.reverse
 | [],_,.nil=>.nil
 | x::xs,_,.cons r t=>by
   rw[Ci,Ci];exact zfb (zgn t) r
theorem zfk:∀ {xs:List V} {ds:List D} {x:V} {d:D},Reps K H io xs ds->Rep K H io x d->Reps K H io (xs++[x]) (ds++[d])
 | _,[],x,d,h,r=>by
   cases (show _=[] from h)
   exact⟨x,[],rfl,r,rfl⟩
 | _,e::ds,x,d,h,r=>by
   obtain⟨y,ys,rfl,h1,h2⟩:=h;exact⟨y,ys++[x],rfl,h1,zfk h2 r⟩
theorem zgN:∀ {ds:List D} {xs:List V},Reps K H io xs ds->Reps K H io xs.reverse ds.reverse
 | [],xs,h=>by
   cases (show xs=[] from h)
   exact rfl
 | d::ds,xs,h=>by
   obtain⟨y,ys,rfl,h1,h2⟩:=h;rw[Ci,Ci];exact zfk (zgN h2) h1
end
theorem zeY:typeLookup (.type "list") "keys"=pure none:=by rw[typeLookup_type,DM];kernel_rfl
theorem zbQ:entryFor table "dict.update.loop"=some Builtin.«dict.update.loop»:=entryFor_of_fast (by kernel_rfl)
theorem zaS:plainId "dict.update.loop"=true:=by decide +kernel
section
variable {prog:Program} {w:World} {A:Around} {E:Value->Shared->Prop} {s:Shared} {a:Addr}
theorem zfs{Q:Option Value->Shared->Prop}{xs:Array Value}{k:Nat}{sl:Array (Option Value)}(hx:s.heap.get? a=some { cls:=.type "list",dict:=none,data:=.seq xs k,slots:=sl })(hA:A.handled=none)
   (h:∀ h' tk,(∀ b u,s.heap.get? b=some u->h'.get? b=some u)->Q none { s with heap:=h',toks:=tk }):wpAny (model prog w) A (getAttr? (.ref a) "keys") Q E s:=by
 obtain⟨hp,g,d,tk,os⟩:=s;have hT:∀ tk',(⟨hp,g,d,tk',os⟩:Shared).TypeIs (.ref a) "list":=fun _=>⟨_,hx,rfl⟩
 have f1:=En;have f3:=F.slot_list_getattribute.lookup;have f4:=F.slot_list_getattribute.bind (.ref a);have f5:=am_list_getattr_none;unfold getAttr? getAttrBy? getAttrBy
 repeat (any_goals (first | assumption | exact hT _ | ((with_reducible show wpAny _ _ (call (Fm "list.__getattribute__") _ _) _ _ _);refine DQ F.slot_list_getattribute (hT _) am_entry_list_getattribute (F.args_list_getattribute_2 _ _) (meets_getattribute_miss_list a xs k sl _ _ zeY (by decide +kernel)) ⟨hx,hA,fun h' tk' e hx'=>?_⟩) | wp_step))
 obtain⟨t',u',he⟩:=hx'.there;show wpAny _ _ (getattributeRaised _ _ _ _ _ _ _) _ _ _;unfold getattributeRaised
 repeat (any_goals (first | assumption | wp_step))
 exact h _ _ hx'.keeps
def zeC(prog:Program)(w:World)(h:Heap)(v:Value)(kv:Key×Value):Prop:=∃ p kx,v=.ref p/\IsTup h p #[kx,kv.2]/\(zaL prog w).is kv.1 kx=true
theorem zeC.keep{h h':Heap}{v:Value}{kv:Key×Value}(q:zeC prog w h v kv)(k:∀ b o,v=.ref b->h.get? b=some o->h'.get? b=some o):zeC prog w h' v kv:=by
 obtain⟨p,kx,rfl,⟨o,g,c⟩,i⟩:=q;exact⟨p,kx,rfl,⟨o,k p o rfl g,c⟩,i⟩
theorem zc6{p:Addr}{xs:Array Value}{Q:List Value->Shared->Prop}(ht:IsTup s.heap p xs)(h:Q xs.toList s):wpAny (model prog w) A (DC (.ref p)) Q E s:=by
 obtain⟨hp,g,d,tk,os⟩:=s;obtain⟨o,g0,c,n,dd⟩:=ht;have hT:(⟨hp,g,d,tk,os⟩:Shared).TypeIs (.ref p) "tuple":=⟨_,g0,c⟩
 unfold DC seqItems?
 repeat (any_goals (first | assumption | wp_step))
 rw[dd];exact Ad (Ad h)
end
section
variable {prog:Program} {w:World} {A:Around} {E:Value->Shared->Prop} {s:Shared} {a:Addr}
theorem zgx{K:Type}[DecidableEq K](kvs:List (K×Value))(k:K)(v:Value):(stored kvs k v).length<=kvs.length+1:=by
 unfold stored
 split <;> simp
theorem zc7{K:Type}[DecidableEq K]:∀ (more kvs:List (K×Value)),(merged kvs more).length<=kvs.length+more.length
 | [],kvs=>by show kvs.length<=kvs.length+0;omega
 | p::r,kvs=>by
   have h1:=zc7 r (stored kvs p.1 p.2);have h2:=zgx kvs p.1 p.2;show (merged (stored kvs p.1 p.2) r).length<=_;rw[AD];omega
theorem zoP{R:Result->Shared->Prop}{D I l:Addr}{its:List Value}{kvs:List (Key×Value)}{h0:Heap}(hh:A.in1.handled=none)(hl:its.length=kvs.length)(hz:kvs.length<=sizeLine)(hDI:D≠I)(hlD:l≠D)(hlI:l≠I) :
   ∀ (k i:Nat) (s:Shared),kvs.length - i=k->i<=kvs.length->s.heap.IsListIter I l i->s.heap.IsList l its.toArray->s.heap.DictOf (zaL prog w) D (merged [] (kvs.take i)) ->
   (∀ (j:Nat) (v:Value) (kv:Key×Value),its[j]?=some v->kvs[j]?=some kv->zeC prog w s.heap v kv/\v≠.ref D/\v≠.ref I)->(∀ b o,b≠D->b≠I->h0.get? b=some o->s.heap.get? b=some o) ->
   (∀ h' tk,h'.DictOf (zaL prog w) D (merged [] kvs)->(∀ b o,b≠D->b≠I->h0.get? b=some o->h'.get? b=some o)->R (.ok (.ret .none)) { s with heap:=h',toks:=tk }) ->
   codeAny (model prog w) A (.builtin "dict.update.loop" ⟨[.ref D,.ref I,rawInt i,.none],[]⟩) R s:=by
 intro k
 induction k with
 | zero =>
   intro i s hk hi hit hlist hd hp h0k hR;have hin:i=kvs.length:=by omega
   subst hin;refine CF zbQ ?_;rw[BS zaS _];show wpAny _ A.in1 (pyNext (.ref I) >>= _) _ _ s;refine Aa (Cu hh hit hlist (by simp[hl]) fun h' hx=>?_);show wpAny _ A.in1 (De D [] >>= fun _=>ret .none) _ _ _;refine Aa (Ad (Ad ?_));rw[EH] at hd;refine hR h' s.toks ?_ fun b o h1 h2 e=>hx b o h2 (h0k b o h1 h2 e);obtain⟨o,es,ep,ho,r⟩:=hd;exact⟨o,es,ep,hx D o hDI ho,r⟩
 | succ k ih =>
   intro i s hk hi hit hlist hd hp h0k hR;have hlt:i < kvs.length:=by omega
   have hlt':i < its.length:=by omega
   refine CF zbQ ?_;rw[BS zaS _];show wpAny _ A.in1 (pyNext (.ref I) >>= _) _ _ s;have hv:its[i]?=some its[i]:=Ah hlt';have hkv:kvs[i]?=some kvs[i]:=Ah hlt;refine Aa (Cj (x:=its[i]) hit hlist (by simp[hlt']) fun h' hit' hx=>?_);obtain⟨pa,nD,nI⟩:=hp i _ _ hv hkv;have pa':zeC prog w h' its[i] kvs[i]:=pa.keep fun b o e g=>hx.extBut b o (fun z=>nI (by rw[e,z])) g;obtain⟨p,kx,ep,tp,ik⟩:=pa';have hd':h'.DictOf (zaL prog w) D (merged [] (kvs.take i)):=by
     obtain⟨o,es,ep,ho,r⟩:=hd;exact⟨o,es,ep,hx.extBut D o hDI ho,r⟩
   have hlen:(merged [] (kvs.take i)).length<=sizeLine:=by
     have:=zc7 (kvs.take i) [];rw[Bl,Bf] at this;omega
   rw[ep];refine Aa (AR (Aa (wpAny_tryCatch (zc6 (s:={ s with heap:=h' }) tp ?_))));refine AR (D5 (s:={ s with heap:=h' }) ik hd' (fun h2 hd2 hs2=>?_) hlen);have hI2:∀ b o,b≠D->h'.get? b=some o->h2.get? b=some o:=fun b o hb e=>hs2.extBut b o hb e;have e1:stored (merged [] (kvs.take i)) kvs[i].1 kvs[i].2=merged [] (kvs.take (i+1)):=(merged_take_succ [] kvs i _ hkv).symm;refine Ad ⟨Co zaS _,?_⟩;refine ih (i+1) { s with heap:=h2,toks:=s.toks+1 } (by omega) (by omega) ?_ ?_ (by rw[<-e1];exact hd2) (fun j v kv h1 h2'=>?_) (fun b o b1 b2 e=>hI2 b o b1 (hx.extBut b o b2 (h0k b o b1 b2 e))) fun h3 tk3 d3 k3=>hR h3 tk3 d3 k3
   . exact El hit' fun u e=>hI2 I u (BJ hDI) e
   . exact DL (DL hlist fun u e=>hx.extBut l u hlI e) fun u e=>hI2 l u hlD e
   . obtain⟨q,q1,q2⟩:=hp j v kv h1 h2';exact⟨(q.keep fun b o e g=>hx.extBut b o (fun z=>q2 (by rw[e,z])) g).keep fun b o e g=>hI2 b o (fun z=>q1 (by rw[e,z])) g,q1,q2⟩
theorem zez{l:Addr}{its:List Value}{kvs:List (Key×Value)}{Q:Value->Shared->Prop}(hh:A.handled=none)(hpl:PlainL s.heap l its.toArray)(hl:its.length=kvs.length)(hz:kvs.length<=sizeLine)
   (hp:∀ (j:Nat) (v:Value) (kv:Key×Value),its[j]?=some v->kvs[j]?=some kv->zeC prog w s.heap v kv)
   (h:∀ h' tk,h'.DictOf (zaL prog w) s.heap.objs.size (merged [] kvs)->(∀ b o,s.heap.get? b=some o->h'.get? b=some o)->Q (.ref s.heap.objs.size) { s with heap:=h',toks:=tk }) :
   wpAny (model prog w) A (call (.type "dict") [.ref l]) Q E s:=by
 refine callType_codes (Q₁:=fun obj s₁=>obj=.ref s.heap.objs.size/\s₁={ s with heap:=s.heap.push { cls:=.type "dict",data:=.dict #[] } }) F.kt_called_dict (F.kt_typeCall_dict_1 _) F.entry_dict_init (kt_code_dict_new _ ⟨rfl,rfl⟩) ?_;rintro obj s₁ ⟨rfl,rfl⟩;have hnew:(s.heap.push { cls:=.type "dict",data:=.dict #[] }).DictOf (zaL prog w) s.heap.objs.size []:=EZ s.heap;have k1:∀ b o,s.heap.get? b=some o->(s.heap.push { cls:=.type "dict",data:=.dict #[] }).get? b=some o:=fun b o e=>Ac _ e;have hpl1:=hpl.keeps k1;obtain⟨⟨cl,di,da,sl⟩,n,g1,c1,c2,c3⟩:=id hpl1;simp only at c1 c2 c3;subst c1 c2 c3;have hlt:∀ b o,s.heap.get? b=some o->b < s.heap.objs.size:=fun b o e=>Aj e;have hll:l < s.heap.objs.size:=by obtain⟨o,_,g,_⟩:=hpl;exact hlt l o g
 refine⟨hnew.typeIs,F.args_dict_init_2 _ _,?_⟩;unfold Builtin.«dict.__init__»;refine Aa ?_;unfold Df;refine Aa (DN hnew.typeIs ?_);show wpAny _ _ (pure (s.heap.objs.size,[A6 l])) _ _ _;refine Ad ?_;show wpAny _ _ (BD "dict.__init__" s.heap.objs.size (.ref l) [] .none) _ _ _;unfold BD;refine Aa (BP (show Shared.TypeIs { s with heap:=s.heap.push { cls:=.type "dict",data:=.dict #[] } } (.ref l) "list" from ⟨_,g1,rfl⟩) ?_);rw[if_pos (by decide)];refine Aa (zfs g1 hh fun h2 tk2 k2=>?_);have hpl2:=hpl1.keeps k2;have hd2:h2.DictOf (zaL prog w) s.heap.objs.size []:=by
   obtain⟨o,es,ep,ho,r⟩:=hnew;exact⟨o,es,ep,k2 _ o ho,r⟩
 have hsz:s.heap.objs.size < h2.objs.size:=by
   obtain⟨o,es,ep,ho,r⟩:=hd2;exact Aj ho
 simp only[CQ,if_true];refine Aa (CC ?_);refine Aa (Sr.iter (x:=.l l) (s:={ s with heap:=h2,toks:=tk2 }) (xs:=its.toArray) hpl2.isList ?_);have k3:∀ b o,h2.get? b=some o->(h2.push (Sr.ob (.l l))).get? b=some o:=fun b o e=>Ac _ e;refine Ad ⟨Co zaS _,?_⟩;have n1:s.heap.objs.size≠h2.objs.size:=Aw hsz;have n2:l≠s.heap.objs.size:=Aw hll;have n3:l≠h2.objs.size:=Aw (BN hll hsz);show codeAny (model prog w) A.in1 (.builtin "dict.update.loop" ⟨[.ref s.heap.objs.size,.ref h2.objs.size,rawInt (0:Nat),.none],[]⟩) _ { s with heap:=h2.push (Sr.ob (.l l)),toks:=tk2 };refine zoP (A:=A.in1) (h0:=s.heap) (l:=l) (its:=its) (kvs:=kvs) (D:=s.heap.objs.size) (I:=h2.objs.size) hh hl hz n1 n2 n3 kvs.length 0 { s with heap:=h2.push (Sr.ob (.l l)),toks:=tk2 } rfl (A7 _) ?_ (hpl2.keeps k3).isList ?_ (fun j v kv e1 e2=>?_) (fun b o _ _ e=>k3 b o (k2 b o (k1 b o e))) (fun h' tk d' k'=>?_)
 . exact Sr.at_new (x:=.l l) (Ap _ rfl)
 . obtain⟨o,es,ep,ho,r⟩:=hd2;exact⟨o,es,ep,k3 _ o ho,r⟩
 . have q:=hp j v kv e1 e2;have nn:∀ b,v=.ref b->b < s.heap.objs.size:=fun b e=>by
     obtain⟨p,kx,rfl,⟨o,g,_⟩,_⟩:=q;cases e;exact hlt _ o g
   refine⟨q.keep fun b o _ g=>k3 b o (k2 b o (k1 b o g)),fun e=>?_,fun e=>?_⟩
   . exact absurd (nn _ e) (AM _)
   . exact absurd (nn _ e) (Nat.not_lt_of_lt hsz)
 . exact⟨rfl,h h' tk d' fun b o e=>k' b o (Aw (hlt b o e)) (Aw (BN (hlt b o e) hsz)) e⟩
end
noncomputable def prOf:D->Option (Key×D)
 | .tup [k,v]=>(keyOf k).map fun q=>(q,v)
 | _=>none
noncomputable def zkI:List D->Option (List (Key×D))
 | []=>some []
 | d::r=>(prOf d).bind fun t=>(zkI r).map fun ts=>t::ts
noncomputable def zeo(kvs more:List (Key×D)):List (Key×D):=more.foldl (fun acc kv=>putD acc kv.1 kv.2) kvs
section
variable {X:Cx} {K:Ab} {H:Hp} {io:List Addr} {st st':Sto} {pins:List (Addr×Obj)} {σ:L2.St} {s:Shared}
theorem zha:∀ {more:List (Key×V)} {mds:List (Key×D)} {kvs:List (Key×V)} {kds:List (Key×D)},KR Key K H io more mds->KR Key K H io kvs kds->KR Key K H io (zdt kvs more) (zeo kds mds):=by
 intro more mds kvs kds r;unfold KR at r
 induction r generalizing kvs kds with
 | nil=>intro q;exact q
 | @cons p q ps qs h t ih =>
   intro r0;have e:KR Key K H io (putK kvs p.1 p.2) (putD kds q.1 q.2):=by
     rw[<-h.1];exact KR.put r0 p.1 h.2
   exact ih e
theorem zjS(I:Inv X pins σ H s):∀ {ys:List V} {ds:List D} {kds:List (Key×D)} {its:List Value},Reps X.K H io ys ds->zkI ds=some kds->Vals ys its ->
   ∃ (kvV:List (Key×V)) (kvs:List (Key×Value)),KR Key X.K H io kvV kds/\KV kvV kvs/\its.length=kvs.length/\kvs.length=kds.length/\∀ (j:Nat) (v:Value) (kv:Key×Value),its[j]?=some v->kvs[j]?=some kv->zeC X.prog X.w s.heap v kv
 | _,[],kds,_,h,e,r=>by
   cases e
   cases (show _=[] from h)
   cases r;exact⟨[],[],.nil,.nil,rfl,rfl,fun j v kv h=>by simp at h⟩
 | _,d::ds,kds,_,h,e,r=>by
   obtain⟨y,ys,rfl,h1,h2⟩:=h;obtain⟨t,e1,e⟩:=zad e;obtain⟨ts,e2,e⟩:=zag e;subst e
   cases r with
   | @cons _ u _ us ru rus =>
     obtain⟨kvV,kvs,a1,a2,a3,a4,a5⟩:=zjS I h2 e2 rus;unfold prOf at e1
     split at e1
     . rename_i k v;obtain⟨q,eq1,e1⟩:=zag e1;subst e1;obtain⟨p,vs,rfl,hp,rs⟩:=h1;obtain⟨v1,w1,rfl,q1,rs⟩:=rs;obtain⟨v2,w2,rfl,q2,rs⟩:=rs
       cases (show w2=[] from rs)
       have ek:=zcU q1 eq1;subst ek;cases ru;obtain⟨ia,va,ht,_⟩:=I.tuple (SqT.of (K:=X.K) hp)
       cases va with
       | cons r1 t1 =>
         cases t1 with
         | cons r2 t2 =>
           cases t2;rename_i u1 u2;refine⟨(q,v2)::kvV,(q,u2)::kvs,.cons ⟨rfl,q2⟩ a1,.cons ⟨rfl,r2⟩ a2,by rw[AD,AD,a3],by rw[AD,AD,a4],fun j v kv e1 e2=>?_⟩
           cases j with
           | zero =>
             cases e1;cases e2;exact⟨p,u1,rfl,ht,zlZ r1⟩
           | succ j=>exact a5 j v kv e1 e2
     . cases e1
noncomputable def zms:GN
 | [.ref n],st=>(zbf st n).bind fun ds=>(zkI ds).bind fun kds=>if fits kds.length=true then some (.ref st.length,st++[.dk (zeo [] kds)]) else none
 | _,_=>none
theorem zhD(hc:X.calm=true):zdo X (.type "dict") zms:=by
 rintro pins s σ H xs us Q I r ⟨ds,st,io,d,st',R,S,e,k⟩;unfold zms at e
 split at e
 . rename_i n;obtain⟨zs,e0,e⟩:=zad e;obtain⟨kds,e1,e⟩:=zad e;obtain⟨hf,e⟩:=zar e;cases e;obtain⟨v,rfl,p,rfl,hp⟩:=R.one;obtain⟨u,rfl,ru⟩:=r.one;cases ru;obtain⟨ys,hx,r1⟩:=zaX S hp e0;obtain⟨its,rv,pl,hz⟩:=I.list hx;obtain⟨kvV,kvs,a1,a2,a3,a4,a5⟩:=zjS I r1 e1 rv;have hzk:kvs.length<=sizeLine:=by
     rw[a4];exact of_decide_eq_true hf
   refine zez (I.ok.hd hc) pl a3 hzk a5 fun h' tk d' kk=>?_;have hlV:kvV.length=kvs.length:=Bk a2;have hm:(zdt [] kvV).length<=sizeLine:=by
     have:=zbK kvV [];rw[Bf] at this;omega
   have hd:(s.heap.objs.size==sysModules)=false:=beq_eq_false_iff_ne.mpr (BJ (Aw I.big));refine⟨.ref s.heap.objs.size,_,I.laid (a:=s.heap.objs.size) (o:=.dK (zdt [] kvV)) (t':=tk) kk (Af _) (zks hm hd (a2.merge .nil) d'),rfl,?_⟩;obtain⟨E',S'⟩:=zj8 (o:=.dK (zdt [] kvV)) (ob:=.dk (zeo [] kds)) S (I.hok.fresh (Af _)) fun H' T e=>⟨_,e,zha (KR.mono T a1) .nil⟩
   exact k _ _ [s.heap.objs.size] E' S' ⟨s.heap.objs.size,rfl,by rw[<-S.len];exact getElem?_len io _⟩
 . cases e
end
noncomputable def Itw(n:Nat)(f:Nat->Option V):It:=⟨fun i _=>i < n,fun i H v H'=>H'=H/\f i=some v,fun i _=>n<=i⟩
noncomputable def zhi:List String:=["enumerate","zip","dict_itemiterator","dict_reverseitemiterator","odict_iterator","itertools.zip_longest","itertools.pairwise"]
theorem zgq{P:Program}{w:World}{K:Ab}{tg:Expr}(it:Addr)(n:Nat)(f:Nat->Option V){R:Nat->Value->Prop}{T:Nat->Heap->Prop}(W:∀ A:Around,A.handled=none->Walks P w A it [it] [it] n R T)
   (hr:∀ i v,R i v->∃ x,f i=some x/\RelV x v) (hob:∀ i h,T i h->∃ o nm vs,h.get? it=some o/\o.cls=.type nm/\o.data=.fields vs/\zhi.contains nm=false)
   (hself:∀ (A:Around) (i:Nat) (s:Shared) (Q:Value->Shared->Prop) (E:Value->Shared->Prop),T i s.heap->Q (.ref it) s->wpAny (model P w) A (pyIter (.ref it)) Q E s) :
   Turn P w K tg (Itw n f) [it] it (fun i h=>i<=n/\T i h) where
 mem:=by simp
 obj:=fun i h st b hb=>by
   have e:b=it:=by simpa using hb
   subst e;obtain⟨o,nm,vs,e,c,d,_⟩:=hob i h st.2;exact⟨o,e,fun v z=>by rw[d] at z;cases z⟩
 keep:=fun i h h' st k=>⟨st.1,(W {} rfl).frame i h h' st.2 k⟩
 item:=by
   intro X hP hw hK hc i pins s σ H E I hf st hg;subst hP hw hK;obtain⟨f0,f1,f2,f3,f4,f5⟩:=hf it (by simp);refine (W X.A (I.ok.hd hc)).item i s _ _ hg st.2 fun v h' tk hv st' kk=>?_;obtain⟨x,hx,rx⟩:=hr i v hv;have I1:Inv X pins σ H { s with heap:=h',toks:=tk }:=I.turned (fun b o hb e=>kk b o (by simpa using hb) e) f0 f1 f3 f4 f5;obtain⟨o,nm,vs,e,c,d,hn⟩:=hob (i+1) h' st';exact⟨_,rfl,zmo (s:={ s with heap:=h',toks:=tk }) e c d hn ⟨x,H,I1,rx,⟨rfl,hx⟩,⟨hg,st'⟩,fun b hb=>(hf b hb).1⟩⟩
 done:=by
   intro X hP hw hK hc i pins s σ H E I hf st hg;subst hP hw hK;obtain⟨f0,f1,f2,f3,f4,f5⟩:=hf it (by simp);have e:i=n:=Nat.le_antisymm st.1 hg;subst e;exact (W X.A (I.ok.hd hc)).done s _ _ st.2 fun h' tk kk=>⟨rfl,I.turned (fun b o hb e=>kk b o (by simpa using hb) e) f0 f1 f3 f4 f5⟩
 self:=fun A i s Q E st h=>hself A i s Q E st.2 h
theorem znu{K:Ab}{H:Hp}{io:List Addr}{ds:List D}{n:Nat}{f:Nat->Option V}(hn:n=ds.length)(hf:∀ i d,ds[i]?=some d->∃ v,f i=some v/\∀ H io,Rep K H io v d):ItOk K H io ⟨ds,[]⟩ (Itw n f) where
 go:=fun i d H1 k1 s hd X1 S1 hs=>by
   have hi:i < ds.length:=(List.getElem?_eq_some_iff.mp hd).1;refine⟨by show i < n;omega,fun x H' y=>?_⟩;obtain⟨rfl,y⟩:=y;obtain⟨v,hv,rv⟩:=hf i d hd;rw[hv] at y;cases y;exact⟨Ext.refl,S1,rv _ _⟩
 stop:=fun H1 k1 s X1 S1 hs=>by show n<=ds.length;omega
 stop':=fun H1 k1 s i hi X1 S1 hs=>by
   show n<=i;have hi:ds.length<=i:=hi;omega
section
variable {X:Cx} {K:Ab} {H:Hp} {io:List Addr} {st st':Sto} {a b c e:Expr} {es:List Expr} {ma mb mc m:ME} {mm:MA} {mt:MT} {ms:MS} {pos:Pos} {tg:Expr} {body:List Stmt}
noncomputable def signs(z:Str):List D:=z.cps.toList.map fun c=>D.str ⟨#[c]⟩
noncomputable def zkH(z:Str)(i:Nat):Option V:=z.cps[i]?.map fun c=>V.str ⟨#[c]⟩
theorem zhP{P:Program}{w:World}{A:Around}(hh:A.handled=none)(I:Addr)(x:Str)(t:Tok):Walks P w A I [I] [I] x.cps.size (SignAt x) (fun i h=>h.IsStrIter I (strIterType x) x t i):=by
 unfold strIterType
 cases x.cps.all (· < 128)
 . exact Walks.strWide hh I x t
 . exact Walks.strAscii hh I x t
theorem zjs{P:Program}{w:World}{K:Ab}{tg:Expr}(it:Addr)(x:Str)(t:Tok):Turn P w K tg (Itw x.cps.size (zkH x)) [it] it (fun i h=>i<=x.cps.size/\h.IsStrIter it (strIterType x) x t i) :=
 zgq it x.cps.size (zkH x) (fun A hA=>zhP hA it x t) (fun i v ⟨c,u,hc,hv⟩=>⟨.str ⟨#[c]⟩,by unfold zkH;rw[hc];rfl,u,hv⟩)
   (fun i h ⟨o,e,c,d⟩=>⟨o,_,_,e,c,d,by unfold strIterType;split <;> decide⟩) fun A i s Q E st h=>by
     unfold strIterType at st
     split at st
     . exact wpAny_pyIter_striter_ascii st h
     . exact wpAny_pyIter_striter_wide st h
noncomputable def iStr(tl:TE):TI:=fun σ H R=>tl σ H fun x H1=>∃ z,x=.str z/\R (Itw z.cps.size (zkH z)) H1
theorem zmX{l:Expr}{tl:TE}(hl:PE X l tl):PI X tg l (iStr tl):=by
 intro pins s σ H R I h;refine thn (hl pins s σ H _ I h) ?_;rintro v s1 ⟨x,H1,I1,r1,q1⟩;obtain⟨z,e,q⟩:=q1;subst e;obtain⟨t,rfl⟩:=r1;refine wpAny_pyIter_strU ?_;refine⟨s1.heap.objs.size,[s1.heap.objs.size],_,_,H1,rfl,I1.kept (t':=s1.toks) fun b o e=>Ac _ e,zjs _ z t,⟨A7 _,_,Ap _ rfl,rfl,rfl⟩,fun b hb=>?_,q⟩;have e:b=s1.heap.objs.size:=by simpa using hb
 subst e;exact I1.fpOk (Af _) (I1.hok.fresh (Af _))
theorem signs_get{z:Str}{i:Nat}{d:D}(h:(signs z)[i]?=some d):∃ v,zkH z i=some v/\∀ H io,Rep K H io v d:=by
 unfold signs at h;rw[AL] at h;obtain⟨c,hc,e⟩:=zag h;subst e;refine⟨.str ⟨#[c]⟩,?_,fun H io=>rfl⟩;unfold zkH;rw[DI] at hc;rw[hc];rfl
theorem zhZ(z:Str):z.cps.size=(signs z).length:=by unfold signs;rw[Ag,A4]
noncomputable def mWS(m:ME):MI:=fun ρ st=>(m ρ st).bind fun (d,s)=>match d with
 | .str z=>some (⟨signs z,[]⟩,s)
 | _=>none
theorem zmH{l:Expr}(hl:SE X l m):SI X tg l (mWS m):=PI.imp (zmX hl) <| by
 rintro σ H R ⟨ρ,st,io,W,st',E,S,e,k⟩;obtain⟨⟨d,s1⟩,e1,e⟩:=zad e;dsimp only at e
 split at e
 . rename_i z;cases e;refine⟨ρ,st,io,_,_,E,S,e1,fun v H1 k1 X1 S1 R1=>?_⟩;exact⟨z,R1,k _ H1 k1 X1 S1 (znu (zhZ z) fun i d h=>signs_get h)⟩
 . cases e
noncomputable def mWA(m:ME):MI:=fun ρ st=>(m ρ st).bind fun (d,s)=>orO (zi0 d s) (match d with | .str z=>some (⟨signs z,[]⟩,s) | _=>none)
theorem zbg{l:Expr}(hl:SE X l m):SI X tg l (mWA m):=by
 rintro pins s σ H R I ⟨ρ,st,io,W,st',E,S,e0,k⟩;obtain⟨⟨d,s1⟩,e1,e0⟩:=zad e0
 rcases zbJ e0 with e0 | e0
 . exact zk5 hl pins s σ H R I ⟨ρ,st,io,W,st',E,S,by unfold mW;rw[e1];exact e0,k⟩
 . exact zmH hl pins s σ H R I ⟨ρ,st,io,W,st',E,S,by unfold mWS;rw[e1];exact e0,k⟩
end
section
variable {X:Cx} {K:Ab} {H:Hp} {io:List Addr} {st st':Sto} {a b c e:Expr} {es:List Expr} {ma mb mc m:ME} {mm:MA} {mt:MT} {ms:MS} {pos:Pos} {tg:Expr} {body:List Stmt}
noncomputable def slK:D->Option Int->Option Int->Sto->Option (D×Sto):=fun x lo hi st=>match x with
 | .kl ds=>some (.ref st.length,st++[.lst (cutD ds lo hi)])
 | _=>none
noncomputable def slB:D->Option Int->Option Int->Sto->Option (D×Sto):=fun x lo hi st=>orO (slA x lo hi st) (slK x lo hi st)
noncomputable def mSlB(m:ME)(l h:MO):ME:=fun ρ st=>(m ρ st).bind fun (x,s1)=>(l ρ s1).bind fun (lo,s2)=>(h ρ s2).bind fun (hi,s3)=>slB x lo hi s3
theorem zaR{lo hi:Option Expr}{ml mh:MO}{p2:Pos}(he:SE X e m)(hl:SO X lo ml)(hu:SO X hi mh):SE X (.Subscript e (.Slice lo hi none p2) pos) (mSlB m ml mh):=by
 rintro pins s σ H Q I ⟨ρ,st,io,d,st',E,S,e0,k⟩;obtain⟨⟨x,s1⟩,e1,e0⟩:=zad e0;obtain⟨⟨lo',s2⟩,e2,e0⟩:=zad e0;obtain⟨⟨hi',s3⟩,e3,e0⟩:=zad e0
 rcases zbJ e0 with e0 | e0
 . exact zh2 he hl hu pins s σ H Q I ⟨ρ,st,io,d,st',E,S,by simp only[mSlA,e1,e2,e3,Ae];exact e0,k⟩
 . refine zdN zi4 he hl hu pins s σ H Q I ?_;refine⟨ρ,st,io,x,s1,E,S,e1,fun v1 H1 k1 X1 S1 R1=>⟨ρ,s1,io++k1,lo',s2,E.ext S X1,S1,e2,fun H2 k2 X2 S2=>⟨ρ,s2,(io++k1)++k2,hi',s3,(E.ext S X1).ext S1 X2,S2,e3,fun H3 k3 X3 S3=>?_⟩⟩⟩;have R3:=(R1.ext S1 X2).ext S2 X3;have k':=((k.on S1 X1).on S2 X2).on S3 X3
   cases x with
   | kl ds =>
     cases e0;obtain⟨p,xs,rfl,hx,r⟩:=R3;exact⟨p,xs,rfl,hx.sq,fun q hq=>k'.lst S3 (zhx r _ _) hq⟩
   | _=>cases e0
end
end L2.MP
namespace PySem.F
end PySem.F
namespace PySem
open Builtin
end PySem
namespace L2.MP
open PySem PySem.Spec PyProof.Rows
section
variable {ρ ρ1:Rho} {st s1:Sto} {m n o ma mb:ME} {mm:MA} {ms mq:MS} {mt mu:MT} {d:D} {ml mh:MO}
@[simp] theorem zo5:mWA m ρ st=(m ρ st).bind fun p=>orO (zi0 p.1 p.2) (match p.1 with | .str z=>some (⟨signs z,[]⟩,p.2) | _=>none):=rfl
@[simp] theorem zoY:mSlB m ml mh ρ st=(m ρ st).bind fun p=>(ml ρ p.2).bind fun q=>(mh ρ q.2).bind fun r=>slB p.1 q.1 r.1 r.2:=rfl
end
section
variable {prog:Program} {w:World} {A:Around} {E:Value->Shared->Prop} {s:Shared}
theorem zgi{sl:Addr}{t:Tok}{n:Nat}{Q:Int×Int×Nat->Shared->Prop}(hs:s.heap.IsSliceOf sl .none .none (.int (-1) t))(h:Q ((n:Int) - 1,-1,n) s):wpAny (model prog w) A (Bu (.ref sl) (pure (n:Int))) Q E s:=by
 obtain⟨os,hos,hcs,hds⟩:=id hs;unfold Bu C3;refine Aa (Aa (AV hos hds (x:=.none) rfl (Aa (AV hos hds (x:=.none) rfl (Aa (AV hos hds (x:=.int (-1) t) rfl (Ad ?_)))))));refine Aa (HT.slicePart_ (.int (-1) t) ?_);show wpAny _ _ (if ((-1:Int)==0)=true then _ else _) _ _ s;rw[if_neg (by decide)];refine Aa (HT.slicePart_ .none (Aa (HT.slicePart_ .none (Aa (Ad ?_)))));have e1:A5 none none (-1) (n:Int)=((n:Int) - 1,-1):=by
   unfold A5;simp
 have e2:AS ((n:Int) - 1) (-1) (-1)=n:=by
   unfold AS;have h1:¬ ((-1:Int) > 0):=by decide
   simp only[h1,if_false]
   by_cases hn:(-1:Int) < (n:Int) - 1
   . simp[hn]
   . simp[hn];omega
 show wpAny _ _ (match A5 none none (-1) (n:Int) with | (lo,hi)=>pure (lo,(-1:Int),AS lo hi (-1))) _ _ s;rw[e1];show wpAny _ _ (pure ((n:Int) - 1,(-1:Int),AS ((n:Int) - 1) (-1) (-1))) _ _ s;rw[e2];exact Ad h
theorem zhu{α β:Type}{f g:α->Option β}:∀ {l:List α},(∀ x∈l,f x=g x)->l.filterMap f=l.filterMap g
 | [],_=>rfl
 | a::l,h=>by
   rw[BA,BA,h a An,zhu fun x hx=>h x (Ak _ hx)]
theorem zjU(xs:Array Value):((AJ xs.size).filterMap fun (m:Nat)=>xs[(((xs.size:Int) - 1)+(m:Int)*-1).toNat]?).toArray=xs.toList.reverse.toArray:=by
 congr 1
 have e:∀ m∈AJ xs.size,xs[(((xs.size:Int) - 1)+(m:Int)*-1).toNat]?=xs[xs.size - 1 - m]?:=fun m hm=>by
   have:=List.mem_range.mp hm;have:(((xs.size:Int) - 1)+(m:Int)*-1).toNat=xs.size - 1 - m:=by omega
   rw[this]
 rw[zhu e];have h2:(AJ xs.size).filterMap (fun m=>xs[xs.size - 1 - m]?)=((AJ xs.size).map fun k=>xs.size - 1 - k).filterMap (xs[·]?):=by
   rw[Ee];rfl
 rw[h2,PySem.W.krv_range,List.filterMap_reverse,PySem.W.krv_all]
theorem zcP{t sl:Addr}{items:Array Value}{tk:Tok}{Q:Value->Shared->Prop}(ht:IsTup s.heap t items)(hs:s.heap.IsSliceOf sl .none .none (.int (-1) tk))
   (h:Q (.ref s.heap.objs.size) { s with heap:=s.heap.push { cls:=.type "tuple",data:=.seq items.toList.reverse.toArray } }) (hsz:items.size<=sizeLine):wpAny (model prog w) A (getItem (.ref t) (.ref sl)) Q E s:=by
 have htake:sizeOk (.seq items.toList.reverse.toArray):=by
   show items.toList.reverse.toArray.size<=sizeLine;rw[Am,D6,A4];exact hsz
 obtain⟨os,hos,hcs,hds⟩:=id hs;have hTs:s.TypeIs (.ref sl) "slice":=⟨os,hos,hcs⟩
 unfold getItem
 try with_reducible refine AR ?_
 first | refine Aa (Ad ?_) | skip
 refine Aa (CY ht.typeIs (by decide) ?_);refine Aa (A2 (name:=BO "__getitem__") ht.typeIs AY (A3 AY ht.typeIs CH ?_ (CO _ _)));show wpAny _ _ (BV (.ref t) >>= _) _ _ s;refine Aa (DW ht ?_);refine Aa (BP hTs ?_);rw[if_pos (by decide)];refine Aa (zgi hs ?_);have hno:¬ ((((items.size:Int) - 1)==0&&(-1:Int)==1&&items.size==items.size)=true):=by
   intro q;rw[Ar,Ar] at q;exact absurd q.1.2 (by decide)
 show wpAny _ _ (if (((items.size:Int) - 1)==0&&(-1:Int)==1&&items.size==items.size)=true then _ else _) _ _ s;rw[if_neg hno,zjU]
 first
   | exact Aa (m:=AW _) (AX (Ad ⟨_,rfl,Ad h⟩) htake)
   | exact Aa (m:=AW _) (AX (Aa (Ad (Ad ⟨_,rfl,Ad h⟩))) htake)
   | exact Aa (Aa (m:=AW _) (AX (Ad (Ad ⟨_,rfl,Ad h⟩)) htake))
   | exact Aa (Aa (m:=AW _) (AX (Ad ⟨_,rfl,Ad h⟩) htake))
end
section
variable {X:Cx} {K:Ab} {H:Hp} {io:List Addr} {st st':Sto} {a b c e:Expr} {es:List Expr} {ma mb mc m mk:ME} {mm:MA} {pos:Pos} {pins:List (Addr×Obj)} {σ:L2.St} {s:Shared}
noncomputable def zn1(K:Ab)(te:TE)(ts:TO):TE:=fun σ H Q=>te σ H fun x H1=>ts σ H1 fun k H2=>k=some (-1)/\∃ a xs,x=.ref a/\H2 a=some (.tup xs)/\∀ p,H2 p=none->Q (.ref p) (upd H2 p (.tup xs.reverse))
theorem zlp{te:TE}{ts:TO}{p2:Pos}{se:Expr}(he:PE X e te)(hs:PO X (some se) ts):PE X (.Subscript e (.Slice none none (some se) p2) pos) (zn1 X.K te ts):=by
 intro pins s σ H Q I h;refine DP (thn (he pins s σ H _ I h) ?_);rintro v s1 ⟨x,H1,I1,r1,q1⟩;refine wpAny_Slice ?_;rw[DX];refine Ad (Ad ?_);refine thn (hs pins s1 σ H1 _ I1 q1) ?_;rintro vs s3 ⟨k,H3,I3,pk,hk,a,xs,hx,hq,q3⟩;subst hk;subst hx;cases r1;have I4:Inv X pins σ H3 { s3 with heap:=s3.heap.push { cls:=.type "slice",data:=.fields #[.none,.none,vs] } }:=I3.kept (t':=s3.toks) fun b ob q=>Ac _ q;obtain⟨its,r,ht,hz⟩:=I4.tuple (SqT.of (K:=X.K) hq);have hlen:=r.length;show wpAny (model X.prog X.w) X.A (subscriptTail e (.Slice none none (some se) p2) (.ref a) (.ref s3.heap.objs.size)) (EP X pins σ Q) X.xe { s3 with heap:=s3.heap.push { cls:=.type "slice",data:=.fields #[.none,.none,vs] } }
 cases pk with
 | int i ti =>
 refine tail_any (ops:=[.ref a,.ref s3.heap.objs.size]) ht.typeIs PyProof.Rows.slot_tuple_getitem.lookup ?_ (by with_unfolding_all rfl);refine zcP ht (Ef ..) ?_ (by rw[Am];omega);refine⟨.ref (s3.heap.push { cls:=.type "slice",data:=.fields #[.none,.none,.int (-1) ti] }).objs.size,_,I4.laid (t':=s3.toks) (o:=.tup xs.reverse) (fun b ob q=>Ac _ q) (Af _) ?_,rfl,q3 _ (I4.hok.fresh (Af _))⟩;exact⟨by rw[D6];exact hz,_,zgn r,zb6.new _ _⟩
noncomputable def zkL(m mk:ME):ME:=fun ρ st=>(m ρ st).bind fun (x,s1)=>(mk ρ s1).bind fun (k,s2)=>match x,k with
 | .tup ds,.int i=>if (decide (i=-1))=true then some (.tup ds.reverse,s2) else none
 | _,_=>none
theorem zk7{p2:Pos}{se:Expr}(he:SE X e m)(hk:SE X se mk):SE X (.Subscript e (.Slice none none (some se) p2) pos) (zkL m mk) :=
 PE.imp (zlp he (zi9 hk)) <| by
   rintro σ H Q ⟨ρ,st,io,d,st',E,S,e,k⟩;obtain⟨⟨x,s1⟩,e1,e⟩:=zad e;obtain⟨⟨y,s2⟩,e2,e⟩:=zad e;refine⟨ρ,st,io,x,s1,E,S,e1,fun v1 H1 k1 X1 S1 R1=>?_⟩;refine⟨ρ,s1,io++k1,y,s2,E.ext S X1,S1,e2,fun v2 H2 k2 X2 S2 R2=>?_⟩
   cases x with
   | tup ds =>
     cases y with
     | int i =>
       obtain⟨hi,e⟩:=zar e;cases e;have hi1:=of_decide_eq_true hi;subst hi1;obtain⟨p,xs,rfl,hp,r⟩:=R1.ext S1 X2;exact⟨_,R2,rfl,p,xs,rfl,hp,fun l hl=>((k.on S1 X1).on S2 X2).tup S2 (zgN r) hl⟩
     | _=>cases e
   | _=>cases e
end
theorem zep:typeLookup (.type "tuple") "keys"=pure none:=by rw[typeLookup_type,DM];kernel_rfl
structure Fill(prog:Program)(w:World)(A:Around)(D I:Addr)(n:Nat)(key val:Nat->Value)(T:Nat->Heap->Prop):Prop where
 keep:∀ i h h',T i h->(∀ b o,b≠I->h.get? b=some o->h'.get? b=some o)->T i h'
 step:∀ i (s:Shared) (Q:Unit->Shared->Prop) (E:Value->Shared->Prop),i < n->T i s.heap->(∀ h' tk,T (i+1) h'->BK D s.heap h'->Q () { s with heap:=h',toks:=tk })->wpAny (model prog w) A (dictSet D (key i) (val i)) Q E s
section
variable {prog:Program} {w:World} {A:Around} {E:Value->Shared->Prop} {s:Shared} {a:Addr}
theorem zhh{Q:Option Value->Shared->Prop}{xs:Array Value}{k:Nat}{sl:Array (Option Value)}(hx:s.heap.get? a=some { cls:=.type "tuple",dict:=none,data:=.seq xs k,slots:=sl })(hA:A.handled=none)
   (h:∀ h' tk,(∀ b u,s.heap.get? b=some u->h'.get? b=some u)->Q none { s with heap:=h',toks:=tk }):wpAny (model prog w) A (getAttr? (.ref a) "keys") Q E s:=by
 obtain⟨hp,g,d,tk,os⟩:=s;have hT:∀ tk',(⟨hp,g,d,tk',os⟩:Shared).TypeIs (.ref a) "tuple":=fun _=>⟨_,hx,rfl⟩
 have f1:=En;have f3:=F.slot_tuple_getattribute.lookup;have f4:=F.slot_tuple_getattribute.bind (.ref a);have f5:=am_tuple_getattr_none;unfold getAttr? getAttrBy? getAttrBy
 repeat (any_goals (first | assumption | exact hT _ | ((with_reducible show wpAny _ _ (call (Fm "tuple.__getattribute__") _ _) _ _ _);refine DQ F.slot_tuple_getattribute (hT _) am_entry_tuple_getattribute (F.args_tuple_getattribute_2 _ _) (meets_getattribute_miss_tuple a xs k sl _ _ zep (by decide +kernel)) ⟨hx,hA,fun h' tk' e hx'=>?_⟩) | wp_step))
 obtain⟨t',u',he⟩:=hx'.there;show wpAny _ _ (getattributeRaised _ _ _ _ _ _ _) _ _ _;unfold getattributeRaised
 repeat (any_goals (first | assumption | wp_step))
 exact h _ _ hx'.keeps
theorem Sr.nextN{x:Sr}{it:Addr}{i:Nat}{xs:Array Value}{v:Value}{R:Option Value->Shared->Prop}(hit:x.at_ s.heap it i)(h:x.is s.heap xs)(hx:xs[i]?=some v)(k:∀ h',x.at_ h' it (i+1)->BK it s.heap h'->R (some v) { s with heap:=h' }) :
   wpAny (model prog w) A (pyNext (.ref it)) R E s:=by
 cases x with
 | l a=>exact Cj hit h hx k
 | t a=>exact Di (show s.heap.IsTupleIter it a i from hit) (show s.heap.IsTuple a xs from h) hx k
theorem Sr.stopN{x:Sr}{it:Addr}{i:Nat}{xs:Array Value}{R:Option Value->Shared->Prop}(hh:A.handled=none)(hit:x.at_ s.heap it i)(h:x.is s.heap xs)(hx:xs[i]?=none)(k:∀ h',Ez it s.heap h'->R none { s with heap:=h' }) :
   wpAny (model prog w) A (pyNext (.ref it)) R E s:=by
 cases x with
 | l a=>exact Cu hh hit h hx k
 | t a=>exact Dw hh (show s.heap.IsTupleIter it a i from hit) (show s.heap.IsTuple a xs from h) hx k
theorem zoJ{R:Result->Shared->Prop}{D I:Addr}{x:Sr}{its:List Value}{n:Nat}{key val:Nat->Value}{T:Nat->Heap->Prop}{h0:Heap}(F:Fill prog w A.in1 D I n key val T)(hh:A.in1.handled=none)(hl:its.length=n)(hDI:D≠I)(hxD:x.ad≠D)(hxI:x.ad≠I) :
   ∀ (k i:Nat) (s:Shared),n - i=k->i<=n->x.at_ s.heap I i->x.is s.heap its.toArray->T i s.heap ->
   (∀ (j:Nat) (v:Value),its[j]?=some v->∃ p,v=.ref p/\IsTup s.heap p #[key j,val j]/\p≠D/\p≠I)->(∀ b o,b≠D->b≠I->h0.get? b=some o->s.heap.get? b=some o) ->
   (∀ h' tk,T n h'->(∀ b o,b≠D->b≠I->h0.get? b=some o->h'.get? b=some o)->R (.ok (.ret .none)) { s with heap:=h',toks:=tk }) ->
   codeAny (model prog w) A (.builtin "dict.update.loop" ⟨[.ref D,.ref I,rawInt i,.none],[]⟩) R s:=by
 intro k
 induction k with
 | zero =>
   intro i s hk hi hit hlist hd hp h0k hR;have hin:i=n:=by omega
   subst hin;refine CF zbQ ?_;rw[BS zaS _];show wpAny _ A.in1 (pyNext (.ref I) >>= _) _ _ s;refine Aa (Sr.stopN hh hit hlist (by simp[hl]) fun h' hx=>?_);show wpAny _ A.in1 (De D [] >>= fun _=>ret .none) _ _ _;exact Aa (Ad (Ad (hR h' s.toks (F.keep _ _ _ hd fun b o hb e=>hx b o hb e) fun b o h1 h2 e=>hx b o h2 (h0k b o h1 h2 e))))
 | succ k ih =>
   intro i s hk hi hit hlist hd hp h0k hR;have hlt:i < n:=by omega
   have hlt':i < its.length:=by omega
   refine CF zbQ ?_;rw[BS zaS _];show wpAny _ A.in1 (pyNext (.ref I) >>= _) _ _ s;have hv:its[i]?=some its[i]:=Ah hlt';refine Aa (Sr.nextN (v:=its[i]) hit hlist (by simp[hlt']) fun h' hit' hx=>?_);obtain⟨p,ep,tp,nD,nI⟩:=hp i _ hv;have tp':IsTup h' p #[key i,val i]:=by
     obtain⟨o,g,c⟩:=tp;exact⟨o,hx.extBut p o nI g,c⟩
   have hd':T i h':=F.keep _ _ _ hd fun b o hb e=>hx.extBut b o hb e;rw[ep];refine Aa (AR (Aa (wpAny_tryCatch (zc6 (s:={ s with heap:=h' }) tp' ?_))));refine AR (F.step i { s with heap:=h' } _ _ hlt hd' fun h2 tk2 hd2 hs2=>?_);have hI2:∀ b o,b≠D->h'.get? b=some o->h2.get? b=some o:=fun b o hb e=>hs2.extBut b o hb e;refine Ad ⟨Co zaS _,?_⟩;refine ih (i+1) { s with heap:=h2,toks:=tk2 } (by omega) (by omega) ?_ ?_ hd2 (fun j v h1=>?_) (fun b o b1 b2 e=>hI2 b o b1 (hx.extBut b o b2 (h0k b o b1 b2 e))) fun h3 tk3 d3 k3=>hR h3 tk3 d3 k3
   . exact Sr.at_keep hit' fun u e=>hI2 I u (BJ hDI) e
   . exact Sr.is_keep (Sr.is_keep hlist fun u e=>hx.extBut _ u hxI e) fun u e=>hI2 _ u hxD e
   . obtain⟨q,e,⟨o,g,c⟩,q1,q2⟩:=hp j v h1;exact⟨q,e,⟨o,hI2 q o q1 (hx.extBut q o q2 g),c⟩,q1,q2⟩
noncomputable def Sr.pl(h:Heap)(xs:Array Value):Sr->Prop
 | .l a=>PlainL h a xs
 | .t a=>zb6 h a xs
theorem Sr.pl_is{h:Heap}{xs:Array Value}{x:Sr}(q:x.pl h xs):x.is h xs:=by
 cases x with
 | l a=>exact PlainL.isList q
 | t a=>exact zb6.t q
theorem Sr.pl_keep{h h':Heap}{xs:Array Value}{x:Sr}(q:x.pl h xs)(k:∀ b u,h.get? b=some u->h'.get? b=some u):x.pl h' xs:=by
 cases x with
 | l a=>exact PlainL.keeps q k
 | t a=>exact zb6.keeps q k
theorem zeA{x:Sr}{its:List Value}{n:Nat}{key val:Nat->Value}{T:Nat->Heap->Prop}{Q:Value->Shared->Prop}(hh:A.handled=none)(hpl:x.pl s.heap its.toArray)(hl:its.length=n)
   (hF:∀ I:Addr,s.heap.objs.size < I->Fill prog w A.in1.in1 s.heap.objs.size I n key val T) (h0:T 0 (s.heap.push { cls:=.type "dict",data:=.dict #[] }))
   (hp:∀ (j:Nat) (v:Value),its[j]?=some v->∃ p,v=.ref p/\IsTup s.heap p #[key j,val j])
   (h:∀ h' tk,T n h'->(∀ b o,s.heap.get? b=some o->h'.get? b=some o)->Q (.ref s.heap.objs.size) { s with heap:=h',toks:=tk }) :
   wpAny (model prog w) A (call (.type "dict") [.ref x.ad]) Q E s:=by
 refine callType_codes (Q₁:=fun obj s₁=>obj=.ref s.heap.objs.size/\s₁={ s with heap:=s.heap.push { cls:=.type "dict",data:=.dict #[] } }) F.kt_called_dict (F.kt_typeCall_dict_1 _) F.entry_dict_init (kt_code_dict_new _ ⟨rfl,rfl⟩) ?_;rintro obj s₁ ⟨rfl,rfl⟩;have hnt:Shared.TypeIs { s with heap:=s.heap.push { cls:=.type "dict",data:=.dict #[] } } (.ref s.heap.objs.size) "dict":=⟨_,Ap _ rfl,rfl⟩
 have k1:∀ b o,s.heap.get? b=some o->(s.heap.push { cls:=.type "dict",data:=.dict #[] }).get? b=some o:=fun b o e=>Ac _ e;have hpl1:=Sr.pl_keep hpl k1;have hlt:∀ b o,s.heap.get? b=some o->b < s.heap.objs.size:=fun b o e=>Aj e;have hll:x.ad < s.heap.objs.size:=by obtain⟨o,g⟩:=Sr.is_get (Sr.pl_is hpl);exact hlt _ o g
 refine⟨hnt,F.args_dict_init_2 _ _,?_⟩;unfold Builtin.«dict.__init__»;refine Aa ?_;unfold Df;refine Aa (DN hnt ?_);show wpAny _ _ (pure (s.heap.objs.size,[A6 x.ad])) _ _ _;refine Ad ?_;show wpAny _ _ (BD "dict.__init__" s.heap.objs.size (.ref x.ad) [] .none) _ _ _;unfold BD;have rest:∀ (h2:Heap) (tk2:Nat),(∀ b u,(s.heap.push { cls:=.type "dict",data:=.dict #[] }).get? b=some u->h2.get? b=some u) ->
     codeAny (model prog w) A.in1 (.builtin "dict.update.loop" ⟨[.ref s.heap.objs.size,.ref h2.objs.size,rawInt (0:Nat),.none],[]⟩) (wants (fun r s₂=>r=.none/\Q (.ref s.heap.objs.size) s₂) E) { s with heap:=h2.push x.ob,toks:=tk2 }:=by
   intro h2 tk2 k2;have hpl2:=Sr.pl_keep hpl1 k2;have hsz:s.heap.objs.size < h2.objs.size:=by
     obtain⟨o,ho,_⟩:=hnt;exact Aj (k2 _ o ho)
   have k3:∀ b o,h2.get? b=some o->(h2.push x.ob).get? b=some o:=fun b o e=>Ac _ e;have n1:s.heap.objs.size≠h2.objs.size:=Aw hsz;have n2:x.ad≠s.heap.objs.size:=Aw hll;have n3:x.ad≠h2.objs.size:=Aw (BN hll hsz);have FF:=hF h2.objs.size hsz;refine zoJ (A:=A.in1) (h0:=s.heap) (x:=x) (its:=its) FF hh hl n1 n2 n3 n 0 { s with heap:=h2.push x.ob,toks:=tk2 } rfl (A7 _) ?_ (Sr.pl_is (Sr.pl_keep hpl2 k3)) ?_ (fun j v e1=>?_) (fun b o _ _ e=>k3 b o (k2 b o (k1 b o e))) (fun h' tk d' k'=>?_)
   . exact Sr.at_new (Ap _ (by cases x <;> rfl))
   . exact FF.keep _ _ _ h0 fun b o _ e=>k3 b o (k2 b o e)
   . obtain⟨p,e,⟨o,g,c⟩⟩:=hp j v e1;exact⟨p,e,⟨o,k3 p o (k2 p o (k1 p o g)),c⟩,Aw (hlt p o g),Aw (BN (hlt p o g) hsz)⟩
   . exact⟨rfl,h h' tk d' fun b o e=>k' b o (Aw (hlt b o e)) (Aw (BN (hlt b o e) hsz)) e⟩
 cases x with
 | l a =>
   obtain⟨⟨cl,di,da,sl⟩,nn,g1,c1,c2,c3⟩:=id hpl1;simp only at c1 c2 c3;subst c1 c2 c3;refine Aa (BP (show Shared.TypeIs { s with heap:=s.heap.push { cls:=.type "dict",data:=.dict #[] } } (.ref a) "list" from ⟨_,g1,rfl⟩) ?_);rw[if_pos (by decide)];refine Aa (zfs g1 hh fun h2 tk2 k2=>?_);simp only[CQ,if_true];refine Aa (CC ?_);refine Aa (Sr.iter (x:=.l a) (s:={ s with heap:=h2,toks:=tk2 }) (xs:=its.toArray) (Sr.pl_is (x:=.l a) (Sr.pl_keep (x:=.l a) hpl1 k2)) ?_);exact Ad ⟨Co zaS _,rest h2 tk2 k2⟩
 | t a =>
   obtain⟨⟨cl,di,da,sl⟩,g1,c1,c2,nn,c3⟩:=id hpl1;simp only at c1 c2 c3;subst c1 c2 c3;refine Aa (BP (show Shared.TypeIs { s with heap:=s.heap.push { cls:=.type "dict",data:=.dict #[] } } (.ref a) "tuple" from ⟨_,g1,rfl⟩) ?_);rw[if_pos (by decide)];refine Aa (zhh g1 hh fun h2 tk2 k2=>?_);simp only[CQ,if_true];refine Aa (CC ?_);refine Aa (Sr.iter (x:=.t a) (s:={ s with heap:=h2,toks:=tk2 }) (xs:=its.toArray) (Sr.pl_is (x:=.t a) (Sr.pl_keep (x:=.t a) hpl1 k2)) ?_);exact Ad ⟨Co zaS _,rest h2 tk2 k2⟩
end
section
variable {prog:Program} {w:World} {A:Around} {E:Value->Shared->Prop} {s:Shared} {a:Addr}
def FK(prog:Program)(w:World)(D:Addr)(kvs:List (Key×Value))(i:Nat)(h:Heap):Prop:=h.DictOf (zaL prog w) D (merged [] (kvs.take i))
noncomputable def xAt(xs:List Value)(i:Nat):Value:=match xs[i]? with | some x=>x | none=>.none
noncomputable def wAt(xs:List (Key×Value))(i:Nat):Value:=match xs[i]? with | some x=>x.2 | none=>.none
theorem zoM{D I:Addr}{kvs:List (Key×Value)}{kxs:List Value}(hDI:D≠I)(hz:kvs.length<=sizeLine)(hk:∀ (j:Nat) (kv:Key×Value),kvs[j]?=some kv->(zaL prog w).is kv.1 (xAt kxs j)=true):Fill prog w A D I kvs.length (xAt kxs) (wAt kvs) (FK prog w D kvs) where
 keep:=fun i h h' ⟨o,es,ep,ho,r⟩ k=>⟨o,es,ep,k D o hDI ho,r⟩
 step:=fun i s Q E hi hd h=>by
   have e:kvs[i]?=some kvs[i]:=Ah hi;have ev:wAt kvs i=kvs[i].2:=by unfold wAt;rw[e]
   rw[ev];have hl:(merged [] (kvs.take i)).length<=sizeLine:=by
     have:=zc7 (kvs.take i) [];rw[Bl,Bf] at this;omega
   refine D5 (hk i _ e) hd (fun h' hd' hs=>h h' _ ?_ hs) hl;have e1:stored (merged [] (kvs.take i)) kvs[i].1 kvs[i].2=merged [] (kvs.take (i+1)):=(merged_take_succ [] kvs i _ e).symm;unfold FK;rw[<-e1];exact hd'
theorem zfl{h:Heap}:∀ {its:List Value} {kvs:List (Key×Value)},its.length=kvs.length->(∀ (j:Nat) (v:Value) (kv:Key×Value),its[j]?=some v->kvs[j]?=some kv->zeC prog w h v kv) ->
   ∃ kxs:List Value,∀ (j:Nat) (v:Value) (kv:Key×Value),its[j]?=some v->kvs[j]?=some kv->∃ p,v=.ref p/\IsTup h p #[xAt kxs j,kv.2]/\(zaL prog w).is kv.1 (xAt kxs j)=true
 | [],kvs,_,_=>⟨[],fun j v kv e=>by simp at e⟩
 | v::its,[],e,_=>by cases e
 | v::its,kv::kvs,e,hp=>by
   obtain⟨kxs,hk⟩:=zfl (its:=its) (kvs:=kvs) (by simpa using e) fun j u q e1 e2=>hp (j+1) u q e1 e2;obtain⟨p,kx,e1,e2,e3⟩:=hp 0 v kv rfl rfl;refine⟨kx::kxs,fun j u q f1 f2=>?_⟩
   cases j with
   | zero =>
     cases f1;cases f2;exact⟨p,e1,e2,e3⟩
   | succ j=>exact hk j u q f1 f2
end
section
variable {X:Cx} {K:Ab} {H:Hp} {io:List Addr} {st st':Sto} {pins:List (Addr×Obj)} {σ:L2.St} {s:Shared}
noncomputable def zmr:GN
 | [.tup ds],st=>(zkI ds).bind fun kds=>if fits kds.length=true then some (.ref st.length,st++[.dk (zeo [] kds)]) else none
 | _,_=>none
theorem zgf(hc:X.calm=true):zdo X (.type "dict") zmr:=by
 rintro pins s σ H xs us Q I r ⟨ds,st,io,d,st',R,S,e,k⟩;unfold zmr at e
 split at e
 . rename_i zs;obtain⟨kds,e1,e⟩:=zad e;obtain⟨hf,e⟩:=zar e;cases e;obtain⟨v,rfl,p,ys,rfl,hp,r1⟩:=R.one;obtain⟨u,rfl,ru⟩:=r.one;cases ru;obtain⟨hz,its,rv,pl⟩:=(show zdn X.prog X.w H s.heap p (.tup ys) from I.hok p _ hp)
   obtain⟨kvV,kvs,a1,a2,a3,a4,a5⟩:=zjS I r1 e1 rv;have hzk:kvs.length<=sizeLine:=by
     rw[a4];exact of_decide_eq_true hf
   obtain⟨kxs,hk⟩:=zfl a3 a5;have hkk:∀ (j:Nat) (kv:Key×Value),kvs[j]?=some kv->(zaL X.prog X.w).is kv.1 (xAt kxs j)=true:=fun j kv e=>by
     have hj:j < its.length:=by rw[a3];exact (List.getElem?_eq_some_iff.mp e).1
     obtain⟨_,_,_,q⟩:=hk j _ kv (Ah hj) e;exact q
   refine zeA (x:=.t p) (T:=FK X.prog X.w s.heap.objs.size kvs) (key:=xAt kxs) (val:=wAt kvs) (I.ok.hd hc) pl a3 (fun i hi=>zoM (Aw hi) hzk hkk) (EZ s.heap) (fun j v e=>?_) fun h' tk d' kk=>?_
   . have hj:j < kvs.length:=by
       rw[<-a3];exact (List.getElem?_eq_some_iff.mp e).1
     have ex:kvs[j]?=some kvs[j]:=Ah hj;obtain⟨p',ep,tp,_⟩:=hk j v _ e ex;refine⟨p',ep,?_⟩;unfold wAt;rw[ex];exact tp
   . have d':h'.DictOf (zaL X.prog X.w) s.heap.objs.size (merged [] kvs):=by
       have:FK X.prog X.w s.heap.objs.size kvs kvs.length h':=d';unfold FK at this
       rwa [EH] at this
     have hlV:kvV.length=kvs.length:=Bk a2;have hm:(zdt [] kvV).length<=sizeLine:=by
       have:=zbK kvV [];rw[Bf] at this;omega
     have hd:(s.heap.objs.size==sysModules)=false:=beq_eq_false_iff_ne.mpr (BJ (Aw I.big));refine⟨.ref s.heap.objs.size,_,I.laid (a:=s.heap.objs.size) (o:=.dK (zdt [] kvV)) (t':=tk) kk (Af _) (zks hm hd (a2.merge .nil) d'),rfl,?_⟩;obtain⟨E',S'⟩:=zj8 (o:=.dK (zdt [] kvV)) (ob:=.dk (zeo [] kds)) S (I.hok.fresh (Af _)) fun H' T e=>⟨_,e,zha (KR.mono T a1) .nil⟩
     exact k _ _ [s.heap.objs.size] E' S' ⟨s.heap.objs.size,rfl,by rw[<-S.len];exact getElem?_len io _⟩
 . cases e
noncomputable def zmt:GN:=orN zms zmr
theorem zgg(hc:X.calm=true):zdo X (.type "dict") zmt:=zdg (zhD hc) (zgf hc)
end
end L2.MP
namespace L2.MP
section
open PySem PySem.Spec PyProof.Rows PySem.Builtin PySem.Builtin.Str
variable {prog:Program} {w:World} {A:Around} {E:Value->Shared->Prop} {s:Shared} {z y:Str} {t u:Tok} {Q:Value->Shared->Prop}
end
section
open PySem PySem.Spec PyProof.Rows
variable {X:Cx} {K:Ab} {H:Hp} {io:List Addr} {st st':Sto} {a b c e:Expr} {es:List Expr} {ma mb mc m:ME} {mm:MA} {pos:Pos}
end
end L2.MP
namespace L2.MP
open PySem
end L2.MP
namespace L2.MP
open PySem PySem.Spec PyProof.Rows
@[irreducible] def JSs (X:Cx) (s:List Stmt) (m:MS):Prop:=SSs X s m
@[irreducible] def JS (X:Cx) (s:Stmt) (m:MS):Prop:=SS X s m
@[irreducible] def JA (X:Cx) (es:List Expr) (m:MA):Prop:=SA X es m
section
variable {X:Cx} {e a b c:Expr} {es:List Expr} {st1 st2:Stmt} {rest body orelse:List Stmt} {pos:Pos} {m ma mb mc:ME} {mt mu:MT} {mm:MA} {ms mq mr:MS} {mg:MG} {mi:MI}
theorem JSs.out(h:JSs X body ms):SSs X body ms:=by unfold JSs at h;exact h
theorem JSs.mk(h:SSs X body ms):JSs X body ms:=by unfold JSs;exact h
theorem JS.out(h:JS X st1 ms):SS X st1 ms:=by unfold JS at h;exact h
theorem JS.mk(h:SS X st1 ms):JS X st1 ms:=by unfold JS;exact h
theorem JA.out(h:JA X es mm):SA X es mm:=by unfold JA at h;exact h
theorem JA.mk(h:SA X es mm):JA X es mm:=by unfold JA;exact h
theorem zbj:JSs X [] zck:=.mk zkZ
theorem zat(h:JS X st1 ms):JSs X [st1] ms:=.mk (zkY h.out)
theorem zaj(h:JS X st1 ms)(h2:JSs X rest mq):JSs X (st1::rest) (mSeq ms mq):=.mk (zjx h.out h2.out)
theorem ze1(hc:SB X c mt)(h1:JSs X body ms)(h2:JSs X orelse mq):JS X (.If c body orelse pos) (mIf mt ms mq):=.mk (zoa hc h1.out h2.out)
theorem zhj{tg iter:Expr}(hp:PassesOwn (model X.prog X.w) X.A X.env X.xe)(hc:X.calm=true)(hi:SI X tg iter mi)(hg:SG X tg mg)(hb:JSs X body ms)(hs:∀ x,foldedSetIterable iter X.env x=pure x:=by intro _;rfl):JS X (.For tg iter body [] pos) (mFor mi mg ms):=.mk (zmA hp hc hi hg hb.out hs)
theorem zf8:JA X [] mNil:=.mk zaf
theorem zaC(ha:SE X e m)(hr:JA X es mm)(hs:∀ q,starEach (e::q) X.env=(false,eval e X.env)::starEach q X.env:=by intro _;rfl):JA X (e::es) (zab m mm):=.mk (zaa ha hr.out (hs _))
end
section
variable {X:Cx} {K:Ab} {H:Hp} {io:List Addr} {st st':Sto} {body:List Stmt} {ms:MS} {pos:Pos}
noncomputable def zmk:G2:=orG znR fun x y st=>match x,y with
 | .bl a,.bl b=>some (.bl (a != b),st)
 | _,_=>none
theorem zjZ:OpM X (compareOp .IsNot) zmk:=zfW zjY (by
 rintro pins s σ H x y v u Q I rx ry ⟨dx,dy,st,io,d,st',Rx,Ry,S,e,k⟩
 (try dsimp only at e)
 split at e
 . cases e
   cases (show x=_ from Rx)
   cases (show y=_ from Ry)
   cases rx;cases ry;exact PyProof.Rows.isnot_bool ⟨.bl _,H,I,rfl,k.now S rfl⟩
 . cases e)
end
section
variable {prog:Program} {w:World} {A:Around} {E:Value->Shared->Prop} {s:Shared}
theorem zfg{l:Addr}{vs:List Value}{R:Value->Shared->Prop}(ht:IsTup s.heap l vs.toArray)(hz:vs.length<=sizeLine)
   (go:∀ D h',(∀ b o,s.heap.get? b=some o->h'.get? b=some o)->s.heap.get? D=none->h'.get? D=some (seqObj "list" vs.toArray 0)->wpAny (model prog w) A.in1.in1 (Builtin.«list.sort» ⟨[.ref D],[]⟩) (fun f s'=>f=.done (.ret .none)/\R (.ref D) s') (fun _ _=>False) { s with heap:=h' }) :
   wpAny (model prog w) A (call (.builtin "sorted") [.ref l]) R E s:=by
 obtain⟨o,g,c,n,d⟩:=ht;refine B3 kind_sorted plain_sorted entry_sorted (Ek _) ?_;unfold Builtin.«sorted»;refine Aa (m:=checkCount "sorted" 1 1 _) (Ad (Aa (PySem.wpAny_collect_seq l (.inr rfl) g c d (fun h1 k1=>Aa (BX ?_ (by simpa using hz))) (by simpa using hz))));have g0:(h1.push (seqObj "list" vs.toArray 0)).get? h1.objs.size=some (seqObj "list" vs.toArray 0):=Ap _ rfl;have fr:s.heap.get? h1.objs.size=none:=by
   cases e:s.heap.get? h1.objs.size with
   | none=>rfl
   | some u=>exact absurd (Aj (k1 _ _ e)) (AM _)
 refine Aa (AR (A3 DJ ⟨_,g0,rfl⟩ Dv (A9 (go _ _ (fun b u e=>Ac _ (k1 b u e)) fr g0) (fun f s' ⟨e,r⟩=>?_) fun _ _ x=>x.elim) (DK _)));subst e;exact⟨_,rfl,Ad ⟨_,rfl,r⟩⟩
theorem zjB{at_:Addr}{vs:List Value}{k:Nat}{R:PySem.Fin->Shared->Prop}(hv:vs.length < 2)(g0:s.heap.get? at_=some (seqObj "list" vs.toArray k))(fin:R (.done (.ret .none)) { s with heap:=sortedHeap s.heap at_ vs vs.toArray }) :
   wpAny (model prog w) A (Builtin.«list.sort» ⟨[.ref at_],[]⟩) R E s:=by
 have lt0:=Aj g0;have hz:vs.length<=sizeLine:=AB (BI hv) (by decide);obtain⟨ep,g1⟩:∃ ep,(s.heap.update at_ (AU fun _=>(#[]:Array Value))).get? at_=some (seqObj "list" #[] ep):=⟨_,Dt g0 fun _=>#[]⟩
 have g2:(((s.heap.update at_ (AU fun _=>(#[]:Array Value))).push (seqObj "tuple" vs.toArray 0)).push (seqObj "list" #[] 0)).get? at_=some (seqObj "list" #[] ep):=Ac _ (Ac _ g1);rw[Du];refine Aa (Ej g0 rfl (Aa (BW g0 rfl (Aa (Cn g1 rfl (Aa (CL (Aa (BX (AR ?_))) (by simpa using hz))))) (by simpa using hz))));show wpAny (model prog w) A _ R E { s with heap:=((s.heap.update at_ (AU fun _=>(#[]:Array Value))).push (seqObj "tuple" vs.toArray 0)).push (seqObj "list" #[] 0) };have two:vs.toArray.size < 2:=by simpa using hv
 have same:(arrOf (ET general' (vs.toArray.zip vs.toArray) #[] 7 none)).map (·.2)=vs.toArray:=by
   show ((vs.toArray.zip vs.toArray).map (·.2))=vs.toArray;simp;clear two g2 g1 g0 hz fin hv
   induction vs with
   | nil=>rfl
   | cons a r ih=>simpa using ih
 dsimp only;rw[if_pos two,if_pos two];refine Aa (Ad ?_);rw[EU];refine Aa (Ad ?_);dsimp only;rw[same];refine Aa (Cn g2 rfl (Aa (BW g2 rfl ?_ (hsz2:=by simp;omega))));simp only[bne_self_eq_false,Be,if_false];exact Ad fin
end
section
variable {X:Cx} {pins:List (Addr×Obj)} {σ:L2.St} {H:Hp} {s:Shared}
theorem Inv.notL(I:Inv X pins σ H s){D:Addr}(h:s.heap.get? D=none):D≠X.env.locals/\X.base.get? D=none/\H D=none:=by
 refine⟨fun z=>?_,?_,?_⟩
 . obtain⟨m,⟨o,_,_,e,_⟩,_⟩:=I.loc;rw[<-z,h] at e;cases e
 . cases e:X.base.get? D with
   | none=>rfl
   | some u=>rw[(I.bs D u e).1] at h;cases h
 . cases e:H D with
   | none=>rfl
   | some o =>
     obtain⟨u,hu⟩:=zfo (I.hok D o e);rw[h] at hu;cases hu
theorem zjA{xs:List V}{its:List Value}{D:Addr}{h':Heap}{Q:VK}(I:Inv X pins σ H s)(rv:Vals xs its)(h2:xs.length < 2)(k:∀ b o,s.heap.get? b=some o->h'.get? b=some o)(hD:s.heap.get? D=none)(gD:h'.get? D=some (seqObj "list" its.toArray 0))(h:∀ p,H p=none->Q (.ref p) (upd H p (.lst xs))) :
   wpAny (model X.prog X.w) X.A.in1.in1 (Builtin.«list.sort» ⟨[.ref D],[]⟩) (fun f s'=>f=.done (.ret .none)/\EP X pins σ Q (.ref D) s') (fun _ _=>False) { s with heap:=h' }:=by
 have hlen:=rv.length;have hz:xs.length<=sizeLine:=AB (BI h2) (by decide);refine zjB (by omega) gD ⟨rfl,?_⟩;obtain⟨n1,n2,n3⟩:=Inv.notL I hD;obtain⟨ep,e⟩:=sortedHeap_at (out:=its.toArray) gD;have kk:∀ b u,s.heap.get? b=some u->(sortedHeap h' D its its.toArray).get? b=some u:=fun b u q=>by
   have hb:b≠D:=fun z=>by rw[z,hD] at q;cases q
   rw[sortedHeap_old hb (Aj (k b u q))];exact k b u q
 have J:Inv X pins σ (upd H D (.lst xs)) { s with heap:=sortedHeap h' D its its.toArray }:=by
   obtain⟨m,F⟩:=I.fr;refine Inv.laidAt (m:=m) I (fun b u _=>kk b u) (fun m' ⟨o,a1,a2,q,a3⟩=>⟨o,a1,a2,kk _ _ q,a3⟩) (let ⟨m',⟨o,_,_,q,_⟩,_⟩:=I.loc;⟨o,kk _ _ q⟩) hD n3 n1 ⟨hz,its,ep,rv,e⟩
 exact⟨.ref D,_,J,rfl,h D n3⟩
theorem zjz{xs:List V}{its:List Value}{ts:List (List Int)}{D:Addr}{h0:Heap}{Q:VK}(I:Inv X pins σ H s)(rv:Vals xs its)(T:zgj H xs ts)(h2:2<=ts.length)(h64:ts.length < 64)(k0:∀ b o,s.heap.get? b=some o->h0.get? b=some o)(hsD:s.heap.get? D=none)(gD:h0.get? D=some (seqObj "list" its.toArray 0))
   (h:∀ (q:Array Nat) (p:Addr),q.Perm (Bs (AJ ts.length))->Srt.Up (rank ts) q ts.length->H p=none->Q (.ref p) (upd H p (.lst (q.toList.map fun i=>xs.getD i .non)))) :
   wpAny (model X.prog X.w) X.A.in1.in1 (Builtin.«list.sort» ⟨[.ref D],[]⟩) (fun f s'=>f=.done (.ret .none)/\EP X pins σ Q (.ref D) s') (fun _ _=>False) { s with heap:=h0 }:=by
 have hlen:its.length=ts.length:=by
   have a:=rv.length;have b:=Bk T;omega
 obtain⟨m,F⟩:=I.fr;have trkL:∀ b,H b≠none->b≠X.env.locals:=fun b hb z=>hb (by rw[z];exact I.free);obtain⟨n1,n2,hHD⟩:=Inv.notL I hsD;have nD:∀ p∈zdm X.base s.heap X.env.locals,p.1≠D:=fun p hp z=>by
   have q:=(zeW (g:=X.base) (h:=s.heap) (L:=X.env.locals) p hp).1;rw[z,hsD] at q;cases q
 refine PySem.W.kat_list_sort (s:={ s with heap:=h0 }) (news:=zdm X.base s.heap X.env.locals) (F.kept k0) ((zeW (g:=X.base) (h:=s.heap) (L:=X.env.locals)).grown k0) gD n1 n2 nD (by omega) (by omega) fun e1 h' F' N'=>?_;have keep:∀ {h2:Heap} {o:Obj},PyProof.Rows.Fr X.base X.env.locals h2 m->News X.base X.env.locals h2 ((D,o)::zdm X.base s.heap X.env.locals)->∀ b u,b≠X.env.locals->s.heap.get? b=some u->h2.get? b=some u:=fun {h2 o} F2 N2 b u hb e=>by
   cases q:X.base.get? b with
   | some v =>
     have z:=(I.bs b v q).1;rw[e] at z;cases z;exact F2.keep b _ q
   | none=>exact (N2 (b,u) (Ak _ (zcB hb q e))).1
 have hk:∀ b o,H b≠none->s.heap.get? b=some o->h'.get? b=some o:=fun b o hb e=>keep F' N' b o (trkL b hb) e;obtain⟨fs,k1,k2,k3⟩:=ze0 (h':=h') I hk T rv;refine EE (s:={ s with heap:=h' }) (T:=.type "int") k1 (by omega) (fun v hv=>?_) rfl ?_
 . obtain⟨i,t,rfl⟩:=k3 v hv;exact DH rfl
 have ok:=Srt.sort_ok (n:=its.length) (r:=rank ts) (by omega);refine znz (n:=its.length) (r:=rank ts) (s:={ s with heap:=h' }) (fun i j hi hj C hC=>zmg (s':={ s with heap:=h' }) I hk T rv (by omega) (by omega) C hC) (fun q hq=>?_) ok;refine DR F' N' (Eu nD) fun h2 c F2 N2=>⟨rfl,?_⟩
 have hD2:=(N2 _ An).1;rw[hlen] at hq;have vals:Vals (q.toList.map fun i=>xs.getD i .non) (q.toList.map fun i=>its.getD i Bp):=by
   have hmem:∀ i∈q.toList,i < xs.length:=fun i hi=>by
     have:i∈(Bs (AJ ts.length)).toList:=(Array.perm_iff_toList_perm.mp hq.1).mem_iff.mp hi;have hr:=rv.length;simp at this;omega
   generalize q.toList=ql at hmem
   induction ql with
   | nil=>exact .nil
   | cons i r ih =>
     refine .cons ?_ (ih fun j hj=>hmem j (Ak _ hj));have hi:=hmem i An;obtain⟨u,eu,ru⟩:=rv.get (Ah hi);show RelV (xs.getD i V.non) (its.getD i Bp);rw[Av,Av,Ah hi,eu];exact ru
 have hql:q.toList.length=ts.length:=by
   have:=(Array.perm_iff_toList_perm.mp hq.1).length_eq;simpa using this
 have J:Inv X pins σ (upd H D (.lst (q.toList.map fun i=>xs.getD i .non))) { s with heap:=h2 } :=
   Inv.laidAt (m:=m) I (keep F2 N2) (fun m' hm'=>by rw[zlH hm' F.ns];exact F2.ns) (let ⟨o,_,_,e,_⟩:=F2.ns;⟨o,e⟩) hsD hHD n1 ⟨by rw[Ag,hql];exact lt64 h64,_,c,vals,hD2⟩
 exact⟨.ref D,_,J,rfl,h q D hq.1 hq.2 hHD⟩
end
section
variable {X:Cx} {K:Ab} {H:Hp} {io:List Addr} {st st':Sto}
theorem zfN{Q:VK}{xs:List V}{ts:List (List Int)}{p:Addr}{q:Array Nat}(S:StR K H io st)(r1:Reps K H io xs (ts.map tupD))(hq:q.Perm (Bs (AJ ts.length)))(hu:Srt.Up (rank ts) q ts.length)(hf:H p=none)(k:Bh K io H (st++[.lst ((zmj ts).map tupD)]) (.ref st.length) Q):Q (.ref p) (upd H p (.lst (q.toList.map fun i=>xs.getD i .non))):=by
 have hm:∀ i∈q.toList,i < ts.length:=fun i hi=>by
   have:=(Array.perm_iff_toList_perm.mp hq).mem_iff.mp hi;simpa using this
 have rr:=zdM r1 hm;rw[zdz hq hu] at rr;exact k.lst S rr hf
noncomputable def zeO:GN
 | [.tup ds],st=>if decide (ds.length < 2)=true then some (.ref st.length,st++[.lst ds]) else (rowsOf ds).bind fun ts=>if (decide (2<=ts.length)&&decide (ts.length < 64))=true then some (.ref st.length,st++[.lst ((zmj ts).map tupD)]) else none
 | _,_=>none
theorem zet:zdo X (.builtin "sorted") zeO:=by
 rintro pins s σ H xs us Q I r ⟨ds,st,io,d,st',R,S,e,k⟩;unfold zeO at e
 split at e
 . rename_i zs;obtain⟨v,rfl,p,ys,rfl,hp,r1⟩:=R.one;obtain⟨u,rfl,ru⟩:=r.one;cases ru;have hx:SqT X.K H p ys:=.inl (.inl hp)
   split at e
   . rename_i hl;cases e;have e2:=r1.length;obtain⟨its,rv,pl,hz⟩:=I.tuple hx;exact zfg pl (by have:=rv.length;omega) fun D h' k0 hD gD=>zjA I rv (by rw[e2];exact of_decide_eq_true hl) k0 hD gD fun q hf=>k.lst S r1 hf
   . obtain⟨ts,e1,e⟩:=zad e;obtain⟨hl,e⟩:=zar e;cases e;rw[Ar] at hl;obtain⟨T,hd⟩:=zgJ r1 e1;subst hd;obtain⟨its,rv,pl,hz⟩:=I.tuple hx;refine zfg pl (by have:=rv.length;omega) fun D h' k0 hD gD=>zjz I rv T (of_decide_eq_true hl.1) (of_decide_eq_true hl.2) k0 hD gD fun q p' hq hu hf=>zfN S r1 hq hu hf k
 . cases e
noncomputable def zgz:GN:=orN zgA zeO
theorem ze6:zdo X (.builtin "sorted") zgz:=zdg ze7 zet
noncomputable def znM:G2
 | .tup a,.tup b,st=>if (a.isEmpty&&fits b.length)=true then some (.tup b,st) else none
 | _,_,_=>none
theorem zj3:OpM X (binaryOp .Add) znM:=by
 rintro pins s σ H x y v u Q I rx ry ⟨dx,dy,st,io,d,st',Rx,Ry,S,e,k⟩;unfold znM at e
 split at e
 . rename_i i j;obtain⟨hf,e⟩:=zar e;cases e;rw[Ar] at hf;obtain⟨p,xs,rfl,hp,r1⟩:=Rx;obtain⟨q,ys,rfl,hq,r2⟩:=id Ry;cases rx;cases ry;obtain⟨m,F⟩:=I.fr;obtain⟨its,w1,p1,_⟩:=I.tuple (SqT.of hp);obtain⟨its2,w2,p2,_⟩:=I.tuple (SqT.of hq);have e0:its=[]:=by
     have a:=r1.length;have b:=w1.length;have c:i=[]:=by simpa using hf.1
     rw[c] at a;exact BG (by have a':xs.length=0:=a;omega)
   have hz:its2.length<=sizeLine:=by
     have a:=r2.length;have b:=w2.length;have c:=of_decide_eq_true hf.2;omega
   exact PyProof.Rows.add_tuples F (news:=[]) (fun p hp=>nomatch hp) p1 p2 (fun _=>⟨.ref q,H,I,rfl,k.now S Ry⟩) (fun z _=>absurd e0 z) (fun z _=>absurd e0 z) (by rw[e0];simpa using hz)
 . cases e
noncomputable def addE:G2:=orG addD znM
theorem zlE:OpM X (binaryOp .Add) addE:=zfW zaY zj3
end
end L2.MP
namespace L2.MP
open PySem PySem.Spec PyProof.Rows PySem.SeqAt PySem.MeetsSeq PySem.MeetsSeq2 PySem.MeetsSeq3
section
variable {prog:Program} {w:World} {A:Around} {E:Value->Shared->Prop} {s:Shared}
theorem zer{t sl:Addr}{items:Array Value}{vl vu:Value}{lo hi:Option Int}{Q:Value->Shared->Prop}(ht:IsTup s.heap t items)(hs:s.heap.IsSliceOf sl vl vu .none)(pl:IsPart vl lo)(pu:IsPart vu hi)
   (h0:HT.sIx items.size 0 lo=0) (h1:HT.sIx items.size items.size hi=items.size) (h:Q (.ref t) s):wpAny (model prog w) A (getItem (.ref t) (.ref sl)) Q E s:=by
 obtain⟨os,hos,hcs,hds⟩:=id hs;have hTs:s.TypeIs (.ref sl) "slice":=⟨os,hos,hcs⟩
 unfold getItem
 try with_reducible refine AR ?_
 first | refine Aa (Ad ?_) | skip
 refine Aa (CY ht.typeIs (by decide) (Aa (A2 (name:=BO "__getitem__") ht.typeIs AY (A3 AY ht.typeIs CH ?_ (CO _ _)))));show wpAny _ _ (BV (.ref t) >>= _) _ _ s;refine Aa (DW ht (Aa (BP hTs ?_)));rw[if_pos (by decide)];refine Aa (HT.sliceApplied_gen hs pl pu ?_);rw[h0,h1];have yes:((((0:Nat):Int)==0&&(1:Int)==1&&(items.size - 0)==items.size)=true):=by simp
 show wpAny _ _ (if (((0:Nat):Int)==0&&(1:Int)==1&&(items.size - 0)==items.size)=true then _ else _) _ _ s;rw[if_pos yes];refine Aa (m:=Builtin.Tuple.tupleIsExact _) (Aa (BP ht.typeIs (Ad ?_)));rw[if_pos (by decide)];exact Aa (m:=(pure (Fin.done (Flow.ret (A6 t))):Sem Fin)) (Ad (Ad ⟨_,rfl,Ad h⟩))
end
section
variable {X:Cx} {K:Ab} {H:Hp} {io:List Addr} {st st':Sto} {e:Expr} {m:ME} {pos:Pos}
noncomputable def rSlW(K:Ab):V->Option Int->Option Int->Hp->VK->Prop:=fun x lo hi H Q=>∃ a xs,x=.ref a/\SqT K H a xs/\HT.sIx xs.length 0 lo=0/\HT.sIx xs.length xs.length hi=xs.length/\Q (.ref a) H
theorem zjD:SlR X (rSlW X.K):=by
 intro pins s σ H x v vl vu lo hi sl Q I rx hs pl pu h;obtain⟨a,xs,rfl,hx,h0,h1,q⟩:=h;cases rx;obtain⟨its,r,ht,hz⟩:=I.tuple hx;have hlen:its.toArray.size=xs.length:=by rw[Am];exact r.length.symm
 exact⟨"tuple",_,PyProof.Rows.slot_tuple_getitem.lookup,ht.typeIs,zer ht hs pl pu (by rw[hlen];exact h0) (by rw[hlen];exact h1) ⟨.ref a,H,I,rfl,q⟩⟩
noncomputable def slW:D->Option Int->Option Int->Sto->Option (D×Sto):=fun x lo hi st=>match x with
 | .tup ds=>if (decide (HT.sIx ds.length 0 lo=0)&&decide (HT.sIx ds.length ds.length hi=ds.length))=true then some (.tup ds,st) else none
 | _=>none
noncomputable def slC:D->Option Int->Option Int->Sto->Option (D×Sto):=fun x lo hi st=>orO (slB x lo hi st) (slW x lo hi st)
noncomputable def mSlC(m:ME)(l h:MO):ME:=fun ρ st=>(m ρ st).bind fun (x,s1)=>(l ρ s1).bind fun (lo,s2)=>(h ρ s2).bind fun (hi,s3)=>slC x lo hi s3
theorem zh1{lo hi:Option Expr}{ml mh:MO}{p2:Pos}(he:SE X e m)(hl:SO X lo ml)(hu:SO X hi mh):SE X (.Subscript e (.Slice lo hi none p2) pos) (mSlC m ml mh):=by
 rintro pins s σ H Q I ⟨ρ,st,io,d,st',E,S,e0,k⟩;obtain⟨⟨x,s1⟩,e1,e0⟩:=zad e0;obtain⟨⟨lo',s2⟩,e2,e0⟩:=zad e0;obtain⟨⟨hi',s3⟩,e3,e0⟩:=zad e0
 rcases zbJ e0 with e0 | e0
 . exact zaR he hl hu pins s σ H Q I ⟨ρ,st,io,d,st',E,S,by simp only[mSlB,e1,e2,e3,Ae];exact e0,k⟩
 . refine zdN zjD he hl hu pins s σ H Q I ?_;refine⟨ρ,st,io,x,s1,E,S,e1,fun v1 H1 k1 X1 S1 R1=>⟨ρ,s1,io++k1,lo',s2,E.ext S X1,S1,e2,fun H2 k2 X2 S2=>⟨ρ,s2,(io++k1)++k2,hi',s3,(E.ext S X1).ext S1 X2,S2,e3,fun H3 k3 X3 S3=>?_⟩⟩⟩;have R3:=(R1.ext S1 X2).ext S2 X3;have k':=((k.on S1 X1).on S2 X2).on S3 X3;unfold slW at e0
   split at e0
   . rename_i ds;obtain⟨hw,e0⟩:=zar e0;cases e0;rw[Ar] at hw;obtain⟨p,xs,rfl,hp,r⟩:=id R3;exact⟨p,xs,rfl,SqT.of hp,by rw[r.length];exact of_decide_eq_true hw.1,by rw[r.length];exact of_decide_eq_true hw.2,k'.now S3 R3⟩
   . cases e0
end
end L2.MP
namespace L2.MP
open PySem L2 PySem.Spec PyProof.Rows
section
variable {K:Ab} {x:Str} {st:Stmt} {f:Addr}
structure FdIn(K:Ab)(x:Str)(st:Stmt)(f:Addr):Prop where
 ex:∃ (oc:Value) (od:Option Addr) (kV dc pm:Value) (an:Option Addr) (cd ct:Value) (sl:Array (Option Value)),K.lookup f=some ⟨oc,od,.func (Bq x x (zdd st) (zbX st) (zal st) .none kV dc pm an cd ct),sl⟩/\Ce K cd x=true
 ns:AQ K mainGlobals x=some (some (.ref f))
 kp:By K (.ref f)=true
theorem zdb{oc kV dc pm cd ct:Value}{od an:Option Addr}{sl:Array (Option Value)}(a:AQ K mainGlobals x=some (some (.ref f)))(l:K.lookup f=some ⟨oc,od,.func (Bq x x (zdd st) (zbX st) (zal st) .none kV dc pm an cd ct),sl⟩)(c:Ce K cd x=true)(k:By K (.ref f)=true):FdIn K x st f :=
 ⟨⟨oc,od,kV,dc,pm,an,cd,ct,sl,l,c⟩,a,k⟩
theorem zaW{h:Heap}{mg:Str->Option Value}{ps:List Str}(F:FdIn K x st f)(X:K.In h)(G:h.Ns mainGlobals mg)(b:∀ (kV doc pm:Value) (an:Option Addr) (cdv ct:Value) (us:List Value),us.length=ps.length->bindArgs (Bq x x (zdd st) (zbX st) (zal st) .none kV doc pm an cdv ct) ⟨us,[]⟩=pure (ps.zip us)):Laid K mg x st ps:=by
 obtain⟨⟨oc,od,kV,dc,pm,an,cd,ct,sl,l,c⟩,a,k⟩:=F;exact⟨_,_,zkj l c k,CU X G a,(zkj l c k).binds b⟩
end
theorem len1{α:Type}{P:List α->Prop}(h:∀ a,P [a])(l:List α)(e:l.length=1):P l:=by
 rcases l with _ | ⟨a,_ | ⟨b,l⟩⟩
 . cases e
 . exact h a
 . cases e
theorem len2{α:Type}{P:List α->Prop}(h:∀ a b,P [a,b])(l:List α)(e:l.length=2):P l:=by
 rcases l with _ | ⟨a,l⟩
 . cases e
 . exact len1 (P:=fun l=>P (a::l)) (h a) l (Dg e)
theorem len3{α:Type}{P:List α->Prop}(h:∀ a b c,P [a,b,c])(l:List α)(e:l.length=3):P l:=by
 rcases l with _ | ⟨a,l⟩
 . cases e
 . exact len2 (P:=fun l=>P (a::l)) (h a) l (Dg e)
theorem len4{α:Type}{P:List α->Prop}(h:∀ a b c d,P [a,b,c,d])(l:List α)(e:l.length=4):P l:=by
 rcases l with _ | ⟨a,l⟩
 . cases e
 . exact len3 (P:=fun l=>P (a::l)) (h a) l (Dg e)
theorem len5{α:Type}{P:List α->Prop}(h:∀ a b c d f,P [a,b,c,d,f])(l:List α)(e:l.length=5):P l:=by
 rcases l with _ | ⟨a,l⟩
 . cases e
 . exact len4 (P:=fun l=>P (a::l)) (h a) l (Dg e)
end L2.MP
namespace L2.MP
open PySem PySem.Spec PyProof.Rows
end L2.MP
namespace L2.MP
open PySem L2 PySem.Spec PyProof.Rows
end L2.MP
namespace L2.MP
open PySem PySem.Spec PyProof.Rows
section
variable {prog:Program} {w:World} {A:Around} {E:Value->Shared->Prop} {s:Shared} {b0:Array Keyed} {κ:KeyKind}
theorem zhy{q:SortSt}{n:Nat}{R:Option Nat->SortSt->Prop}(hO:κ.OneLt)(hK:KeysOf κ b0)(hB:SBase b0 q)(hn:n=b0.size)(h1:1<=n)(hs:SortedToK κ (arrOf q) n)(k:R (some n) q):wpS (model prog w) A E s (countRun' 0 n) R q:=by
 rw[countRun0_eq];refine Ct (wpS_ascLoopK hO hK (Eh hn) (Af 1) h1 hB (fun i j hij hj=>hs i j hij (by omega)) fun m m1 m2 _ hor=>?_);have e:m=n:=by
   rcases hor with z | z
   . exact z
   . by_cases hm:m=n
     . exact hm
     . have y:=hs (m - 1) m (by omega) (by omega);exact absurd (z.symm.trans y) (by decide)
 subst e;dsimp only;rw[if_pos (by simp)];exact DT k
theorem zh7{q:SortSt}{R:Unit->SortSt->Prop}(hO:κ.OneLt)(hK:KeysOf κ b0)(hB:SBase b0 q)(hs:SortedToK κ (arrOf q) b0.size)(h2:2<=b0.size)(hm:minRun' b0.size b0.size 0<=b0.size)(k:∀ z,arrOf z=arrOf q->failedOf z=none->R () z):wpS (model prog w) A E s sortRuns' R q:=by
 rw[sortRuns'_eq];refine Ct (wpS_get ?_);dsimp only;simp only[hB.size];have sz:=hB.size;refine Ct (wpS_mono (wpS_forRange
   (I:=fun x c z=>(x=0/\c=(none,0)/\z=q)\/(1<=x/\c=(none,b0.size)/\arrOf z=arrOf q/\failedOf z=none/\pendingOf z=#[(0,b0.size,0)]))
   (Q:=fun c z=>c=(none,b0.size)/\arrOf z=arrOf q/\failedOf z=none/\pendingOf z=#[(0,b0.size,0)]) ?one ?end_ (.inl ⟨rfl,rfl,rfl⟩)) ?last)
 case end_ =>
   rintro c z (⟨hx,_,_⟩ | ⟨_,y⟩)
   . omega
   . exact y
 case one =>
   rintro x c z _ hx (⟨rfl,rfl,rfl⟩ | ⟨_,rfl,y⟩)
   . dsimp only;rw[if_neg (by omega)];simp only[Nat.sub_zero,Nat.zero_add];refine Ct (zhy hO hK hB rfl (by omega) hs ?_);dsimp only;rw[if_neg (by omega)];refine Ct (wpS_get ?_);have nb:(pendingOf z).back?=none:=by rw[hB.pend];rfl
     rw[nb];dsimp only;refine Ct (wpS_modify (DT (.inr ⟨by omega,rfl,rfl,hB.failed,?_⟩)));show (pendingOf z).push _=_;rw[hB.pend];rfl
   . dsimp only;rw[if_pos (Af _)];exact DT ⟨rfl,y⟩
 case last =>
   rintro c z ⟨rfl,y1,y2,y3⟩;dsimp only;refine Ct (wpS_mono (wpS_forRange (I:=fun _ c u=>u=z/\c=(none,())) (Q:=fun c u=>u=z/\c=(none,())) ?_ (fun _ _ y=>y) ⟨rfl,rfl⟩) ?_)
   . rintro x c u _ _ ⟨rfl,rfl⟩;refine Ct (wpS_get ?_);rw[if_pos (by rw[y3];exact Af 1)];exact DT ⟨rfl,rfl⟩
   . rintro c u ⟨rfl,rfl⟩;exact DT (k u y1 y2)
theorem zhV{a:Addr}{vs:List Value}{n:Nat}{R:Fin->Shared->Prop}(hO:κ.OneLt)(ho:s.heap.get? a=some (seqObj "list" vs.toArray n))(hK:KeysOf κ (pairsOf vs))(hk:keyKind' vs.toArray=pure oneType')(hs:SortedToK κ (pairsOf vs) vs.length)(h2:2<=vs.length)(hz:vs.length<=sizeLine)(hm:minRun' vs.length vs.length 0<=vs.length)
   (k:R (.done (.ret .none)) { s with heap:=sortedHeap s.heap a vs ((pairsOf vs).map (·.2)) }):wpAny (model prog w) A (Builtin.«list.sort» ⟨[.ref a],[]⟩) R E s:=by
 rw[Du];have la:=Aj ho;refine Aa (Ej ho rfl ?_);refine Aa (BW ho rfl ?_);obtain⟨g,hg⟩:∃ g,(s.heap.update a (AU fun _=>#[])).get? a=some (seqObj "list" #[] g):=⟨_,Dt ho (fun _=>#[])⟩
 refine Aa (Cn hg rfl ?_);refine Aa (CL (Aa (BX (AR ?_))));have hg2:(((s.heap.update a (AU fun _=>#[])).push (seqObj "tuple" vs.toArray 0)).push (seqObj "list" #[] 0)).get? a=some (seqObj "list" #[] g):=by
   rw[Ew _ _ _ (by rw[EV,Cs];exact Aw (C2 la)),Ew _ _ _ (by rw[Cs];exact Aw la)];exact hg
 show wpAny (model prog w) A _ R E { s with heap:=((s.heap.update a (AU fun _=>#[])).push (seqObj "tuple" vs.toArray 0)).push (seqObj "list" #[] 0) };dsimp only;have ez:vs.toArray.size=vs.length:=by simp
 have ep:(pairsOf vs).size=vs.length:=pairsOf_size vs;rw[if_neg (by omega),if_neg (by omega),hk];refine Aa (Ad ?_);refine Aa (A9 (zh7 (κ:=κ) hO (b0:=pairsOf vs) (q:=ET oneType' (vs.toArray.zip vs.toArray) #[] 7 none) (R:=fun _ z=>arrOf z=pairsOf vs/\failedOf z=none) hK ⟨BE _,rfl,rfl,rfl⟩ (by rw[ep];exact hs) (by omega) (by rw[ep];exact hm) fun z y1 y2=>⟨y1,y2⟩) ?_ fun _ _ y=>y);rintro ⟨⟨⟩,z⟩ s2 ⟨rfl,y1,y2⟩;dsimp only;refine Aa (Cn hg2 rfl ?_);rw[y1,y2];refine Aa (BW hg2 rfl ?_ (hsz2:=by rw[Array.size_map];omega));simp only[bne_self_eq_false,Be,if_false];exact Ad k
theorem zfM{l:Addr}{vs:List Value}{R:Value->Shared->Prop}(hO:κ.OneLt)(hl:s.heap.IsList l vs.toArray)(hK:KeysOf κ (pairsOf vs))(hk:keyKind' vs.toArray=pure oneType')(hs:SortedToK κ (pairsOf vs) vs.length)(h2:2<=vs.length)(hz:vs.length<=sizeLine)(hm:minRun' vs.length vs.length 0<=vs.length)
   (k:R (.ref (s.heap.objs.size+1)) { s with heap:=sortedAll s.heap vs ((pairsOf vs).map (·.2)) }):wpAny (model prog w) A (call (.builtin "sorted") [.ref l]) R E s:=by
 refine B3 kind_sorted plain_sorted entry_sorted (Ek _) ?_;unfold Builtin.«sorted»;refine Aa (m:=checkCount "sorted" 1 1 _) (Ad (Aa (collect_list hl (Aa (BX ?_)))));have ez:((s.heap.push (seqObj "list" #[] 0)).update s.heap.objs.size (AU (·++vs.toArray))).objs.size=s.heap.objs.size+1:=by rw[Cs,EV]
 have at_:(((s.heap.push (seqObj "list" #[] 0)).update s.heap.objs.size (AU (·++vs.toArray))).push (seqObj "list" vs.toArray 0)).get? (s.heap.objs.size+1)=some (seqObj "list" vs.toArray 0):=by
   rw[<-ez];exact Ap _ rfl
 show wpAny _ _ _ _ _ { s with heap:=((s.heap.push (seqObj "list" #[] 0)).update s.heap.objs.size (AU (·++vs.toArray))).push (seqObj "list" vs.toArray 0) };rw[ez];exact Aa (AR (A3 DJ ⟨_,at_,rfl⟩ Dv (zhV hO at_ hK hk hs h2 hz hm ⟨_,rfl,Ad ⟨_,rfl,k⟩⟩) (DK _)))
end
noncomputable def zlc(ss:List Str):Bool:=decide (ss.Pairwise fun a b=>ltCps b.cps.toList a.cps.toList=false)
theorem zi1:∀ {vs:List Value} {ss:List Str},StrsAre vs ss->∀ (i:Nat),i < ss.length->∃ t,vs[i]?=some (.str (ss.getD i ⟨#[]⟩) t)
 | _,_,.nil,i,h=>absurd h (ER _)
 | _,_,.cons x t r,0,h=>⟨t,rfl⟩
 | _,_,.cons x t r,i+1,h=>by
   obtain⟨u,e⟩:=zi1 r i (Nat.lt_of_succ_lt_succ h);exact⟨u,by simpa using e⟩
theorem zlb{vs:List Value}{ss:List Str}(hS:StrsAre vs ss)(hl:vs.length=ss.length)(h:zlc ss=true):SortedToK strKind (pairsOf vs) vs.length:=by
 have hp:=of_decide_eq_true h;have key:∀ i,i < vs.length->KK strKind (pairsOf vs) i=(ss.getD i ⟨#[]⟩).cps.toList:=fun i hi=>by
   obtain⟨t,e⟩:=zi1 hS i (by omega);have hz:i < (pairsOf vs).size:=by rw[pairsOf_size];exact hi
   have e2:vs[i]=.str (ss.getD i ⟨#[]⟩) t:=by rw[Ah hi] at e;exact Ai e
   refine KK_str hz (t:=t) (q:=vs[i]) ?_;have:(pairsOf vs)[i]=(vs[i],vs[i]):=by
     have h3:(pairsOf vs).toList[i]'(by simpa using hz)=(vs[i],vs[i]):=by simp[pairsOf_toList]
     simpa using h3
   rw[this,e2]
 intro i j hij hj;rw[key i (by omega),key j hj]
 by_cases e:i=j
 . subst e;exact KeyOrd.kle_refl _
 . have:=List.pairwise_iff_getElem.mp hp i j (by omega) (by omega) (by omega);have g1:ss.getD i ⟨#[]⟩=ss[i]:=by simp[Av,show i < ss.length by omega]
   have g2:ss.getD j ⟨#[]⟩=ss[j]:=by simp[Av,show j < ss.length by omega]
   rw[g1,g2];show decide (ss[j].cps.toList < ss[i].cps.toList)=false;rw[D8] at this;exact this
theorem zim{vs:List Value}{ss:List Str}(hS:StrsAre vs ss)(h2:2<=vs.length):keyKind' vs.toArray=pure oneType':=by
 cases vs with
 | nil=>exact absurd h2 (by decide)
 | cons a r =>
   cases r with
   | nil=>exact absurd (show 2<=1 from h2) (by decide)
   | cons b r=>exact keyKind_strs hS
theorem zhW(vs:List Value):((pairsOf vs).map (·.2)).toList=vs:=by
 rw[Array.toList_map,pairsOf_toList];exact List.map_snd_zip (Af _)
section
variable {X:Cx}
noncomputable def zb1:GN
 | [.ref n],st=>(zbf st n).bind fun ds=>(strsOf ds).bind fun ss=>if ((decide (2<=ss.length)&&(decide (ss.length < 64) || decide (ss.length=240)))&&zlc ss)=true then some (.ref st.length,st++[.lst (ss.map D.str)]) else none
 | _,_=>none
theorem zex:zdo X (.builtin "sorted") zb1:=by
 rintro pins s σ H xs us Q I r ⟨ds,st,io,d,st',R,S,e,k⟩;unfold zb1 at e
 split at e
 . rename_i n;obtain⟨ts,e0,e⟩:=zad e;obtain⟨ss,e1,e⟩:=zad e;obtain⟨hl,e⟩:=zar e;cases e;rw[Ar] at hl;have hd:=hl.1;rw[Ar,Dr] at hd;have h2:=of_decide_eq_true hd.1;have hmr:minRun' ss.length ss.length 0<=ss.length/\ss.length<=240:=by
     rcases hd.2 with z | z
     . have z:=of_decide_eq_true z;obtain⟨f,hf⟩:∃ f,ss.length=f+1:=⟨ss.length - 1,by omega⟩
       refine⟨?_,by omega⟩;rw[hf,minRun'_succ,if_pos (by omega)];exact Af _
     . have z:=of_decide_eq_true z;rw[z]
       decide
   obtain⟨v,rfl,p,rfl,hp⟩:=R.one;obtain⟨u,rfl,ru⟩:=r.one;cases ru;obtain⟨ys,hx,r1⟩:=zaX S hp e0;obtain⟨its,rv,pl,hz⟩:=I.list hx;have hS:=zeN r1 rv e1;have hlen:its.length=ss.length:=by
     have h1:=rv.length;have h2:=(zcf hS).length;rw[Ag] at h2;omega
   have big:(240:Nat)<=sizeLine:=by decide
   refine zfM strKind_oneLt pl.isList hS.keysOf (zim hS (by omega)) (zlb hS hlen hl.2) (by omega) (by omega) (by rw[hlen];exact hmr.1) ?_;obtain⟨ep,hat⟩:=Ei s.heap its ((pairsOf its).map (·.2));have hv:=zcf hS;have hfree:H (s.heap.objs.size+1)=none:=I.hok.fresh (BZ _);have hlen':(ss.map V.str).length<=sizeLine:=by rw[Ag];omega
   have hat':(sortedAll s.heap its ((pairsOf its).map (·.2))).get? (s.heap.objs.size+1)=some (seqObj "list" its.toArray ep):=by
     have e4:((pairsOf its).map (·.2))=its.toArray:=Array.toList_inj.mp (by rw[zhW]);rw[e4] at hat ⊢;exact hat
   refine⟨.ref (s.heap.objs.size+1),upd H (s.heap.objs.size+1) (.lst (ss.map V.str)),I.laid (t':=s.toks) (a:=s.heap.objs.size+1) (fun b o q=>DZ q) (BZ _) ⟨hlen',its,ep,hv,hat'⟩,rfl,?_⟩;exact k.lst S (zfe _) hfree
 . cases e
noncomputable def zcg:GN:=orN zb1 zgz
theorem ze5:zdo X (.builtin "sorted") zcg:=zdg zex ze6
end
section
variable {X:Cx} {K:Ab} {H:Hp} {io:List Addr}
noncomputable def ltSD:G2:=fun x y st=>match x,y with
 | .str a,.str b=>some (.bl (decide (a.cps.toList < b.cps.toList)),st)
 | _,_=>none
theorem zlA:OpM X (compareOp .Lt) ltSD:=by
 rintro pins s σ H x y v u Q I rx ry ⟨dx,dy,st,io,d,st',Rx,Ry,S,e,k⟩;unfold ltSD at e
 split at e
 . cases e
   cases (show x=_ from Rx)
   cases (show y=_ from Ry)
   obtain⟨t,rfl⟩:=rx;obtain⟨t,rfl⟩:=ry;exact lt_str ⟨.bl _,H,I,rfl,k.now S rfl⟩
 . cases e
noncomputable def ltTD:G2:=fun x y st=>match x,y with
 | .tup a,.tup b=>(intsOf a).bind fun ns=>(intsOf b).map fun ms=>(.bl (HT.lexLt ns ms),st)
 | _,_=>none
theorem zlz(hu:X.A.units+100 < cLine):OpM X (compareOp .Lt) ltTD:=by
 rintro pins s σ H x y v u Q I rx ry ⟨dx,dy,st,io,d,st',Rx,Ry,S,e,k⟩;unfold ltTD at e
 split at e
 . obtain⟨ns,e1,e⟩:=zad e;obtain⟨ms,e2,e⟩:=zag e;cases e;obtain⟨p,xs,ex,hp,r1⟩:=Rx;obtain⟨q,ys,ey,hq,r2⟩:=Ry
   cases (ints_rep r1 e1).1
   cases (ints_rep r2 e2).1
   exact znc (by omega) pins s σ H x y v u Q I rx ry ⟨p,q,ns,ms,ex,ey,SqT.of hp,SqT.of hq,k.now S rfl⟩
 . cases e
noncomputable def ltB:G2:=orG ltD (orG ltSD ltTD)
theorem znd(hu:X.A.units+100 < cLine):OpM X (compareOp .Lt) ltB:=zfW zj1 (zfW zlA (zlz hu))
end
end L2.MP
namespace L2.MP.Hb
open PySem L2.MP
end L2.MP.Hb
namespace L2.MP
open PySem
end L2.MP
namespace L2.MP.Hb
open PySem L2.MP
end L2.MP.Hb
namespace L2.MP.Hd
open PySem L2.MP
end L2.MP.Hd
namespace L2.MP
open PySem
@[simp] theorem zoN(n:Nat)(ds:List D):rho n ds=ds.map some++Ba (n - ds.length) none:=rfl
@[simp] theorem znW(ρ:Rho)(n:Nat)(l:List Nat):rho0 ρ n l=Ba n none++l.map fun (j:Nat)=>(ρ[j]?).join:=rfl
@[simp] theorem zoZ{a b:Int}{st:Sto}:ltD (.int a) (.int b) st=some (.bl (decide (a < b)),st):=rfl
@[simp] theorem zo0{a b:Int}{st:Sto}:leD (.int a) (.int b) st=some (.bl (decide (a<=b)),st):=rfl
@[simp] theorem zo3{a b:Int}{st:Sto}:gtD (.int a) (.int b) st=some (.bl (decide (b < a)),st):=rfl
@[simp] theorem zo4{a b:Int}{st:Sto}:geD (.int a) (.int b) st=some (.bl (decide (b<=a)),st):=rfl
@[simp] theorem zo2{a:Int}{st:Sto}:intC [.int a] st=some (.int a,st):=rfl
@[simp] theorem zo1{b:Bool}{st:Sto}:intC [.bl b] st=some (.int (if b then 1 else 0),st):=rfl
end L2.MP
namespace L2.MP.Hd
open PySem L2.MP
theorem zgl{a b:Int}{st:Sto}(h:0 < b):modD (.int a) (.int b) st=some (.int (a % b),st):=by simp[modD,intD,h]
theorem zhM{a b:Int}{st:Sto}(h:0 < b)(h2:b < 340282366920938463463374607431768211456):zgm (.int a) (.int b) st=some (.int (a / b),st):=by simp[zgm,intD,h,h2]
theorem znN{x:Str}(h:∀ c∈x.cps.toList,48<=c/\c<=122):Bg x=true:=by
 unfold Bg;rw[Array.all_eq_true'];intro c hc;have:=h c (by simpa using hc);simp;omega
theorem zcA{m:ME}{ρ:Rho}{st s1:Sto}{k:Nat}{M:Int}(hM:M=(k:Int))(e:m ρ st=some (.int M,s1))(hk:k<=1000):mR1 m ρ st=some (⟨run 0 k,[]⟩,s1):=by
 have sm:small M=true:=zhX (by omega) (by omega);rw[zhN,e,Ae];simp only[sm,if_true];rw[hM,Bv]
theorem run_map(k:Nat):run 0 k=(AJ k).map fun (i:Nat)=>D.int (i:Int):=by
 unfold run;apply D7;intro i _;rw[Int.zero_add]
theorem zcO{j k:Nat}{d:D}(h:(run 0 j)[k]?=some d):k < j/\d=.int (k:Int):=by
 have hk:=getElem?_lt h;rw[zcI] at hk;rw[run_map,AL,CJ hk] at h;exact⟨hk,by cases h;rfl⟩
noncomputable def kvS(p:Str×Int):Key×D:=(.inr p.1,.int p.2)
noncomputable def stD(stk:List (Str×Int)):List (Key×D):=zeo [] (stk.map kvS)
theorem zkP{κ:Type}[DecidableEq κ]:∀ (kvs:List (κ×D)) (k q:κ) (d:D),valD (putD kvs k d) q=if q=k then some d else valD kvs q:=by
 intro kvs k q d;unfold putD
 by_cases h:(kvs.any fun kv=>decide (kv.1=k))=true
 . rw[if_pos h]
   induction kvs with
   | nil=>simp at h
   | cons p r ih =>
     unfold valD at *;rw[Az,AZ,AZ]
     by_cases hp:p.1=k
     . simp only[hp,if_true]
       by_cases hq:q=k
       . simp[hq]
       . have:¬ k=q:=fun e=>hq e.symm;simp only[this,decide_false,hq,if_false];clear h ih
         induction r with
         | nil=>rfl
         | cons u r ih2 =>
           rw[Az,AZ,AZ]
           by_cases hu:u.1=k
           . simp only[hu,if_true,this,decide_false];exact ih2
           . simp only[hu,if_false]
             by_cases huq:u.1=q
             . simp[huq]
             . simp only[huq,decide_false];exact ih2
     . simp only[hp,if_false]
       by_cases hpq:p.1=q
       . have:¬ q=k:=fun e=>hp (hpq.trans e);simp[hpq,this]
       . simp only[hpq,decide_false];refine ih ?_;rw[BU] at h;simpa[hp] using h
 . rw[if_neg h];unfold valD;rw[List.find?_append]
   by_cases hq:q=k
   . subst hq;have:kvs.find? (fun kv=>decide (kv.1=q))=none:=by
       rw[List.find?_eq_none];intro x hx hx2;exact h (List.any_eq_true.mpr ⟨x,hx,hx2⟩)
     simp[this]
   . have:¬ k=q:=fun e=>hq e.symm;simp[hq,this]
def okV(d:Option D):Prop:=∃ v:Int,d=some (.int v)/\1<=v/\v<=4
theorem zfr{q:Str}:∀ {more:List (Str×Int)} {acc:List (Key×D)},(∀ p∈more,1<=p.2/\p.2<=4)->(okV (valD acc (.inr q))\/q∈more.map (·.1))->okV (valD (zeo acc (more.map kvS)) (.inr q))
 | [],acc,_,h=>by
   rcases h with h | h
   . exact h
   . cases h
 | p::r,acc,hv,h=>by
   show okV (valD (zeo (putD acc (.inr p.1) (.int p.2)) (r.map kvS)) (.inr q));refine zfr (fun u hu=>hv u (Ak _ hu)) ?_;rw[zkP]
   by_cases e:q=p.1
   . subst e;rw[if_pos rfl];have:=hv p An;exact .inl ⟨p.2,rfl,this.1,this.2⟩
   . have e':¬ (CK q:Key)=.inr p.1:=fun z=>e (by injection z);rw[if_neg e']
     rcases h with h | h
     . exact .inl h
     . rcases List.mem_cons.mp h with h | h
       . exact absurd h e
       . exact .inr h
noncomputable def sv(stk:List (Str×Int))(a:Str):Int:=match valD (stD stk) (.inr a) with | some (.int v)=>v | _=>0
theorem zgk{stk:List (Str×Int)}{a:Str}(h:∀ p∈stk,1<=p.2/\p.2<=4)(ha:a∈stk.map (·.1)):valD (stD stk) (.inr a)=some (.int (sv stk a))/\1<=sv stk a/\sv stk a<=4:=by
 obtain⟨v,e,h1,h2⟩:=zfr (acc:=[]) h (.inr ha);have e:valD (stD stk) (.inr a)=some (.int v):=e;have:sv stk a=v:=by unfold sv;rw[e]
 rw[this];exact⟨e,h1,h2⟩
theorem zi8:∀ stk:List (Str×Int),zkI (stk.map zaD)=some (stk.map kvS)
 | []=>rfl
 | p::r=>by
   have ih:=zi8 r;rw[Az,zkI,ih];rfl
theorem zbs{stk:List (Str×Int)}{st:Sto}(hl:stk.length<=1000):zmt [.tup (stk.map zaD)] st=some (.ref st.length,st++[.dk (stD stk)]):=by
 have fk:fits (stk.map kvS).length=true:=zaz (by rw[Ag];omega);have e1:zms [.tup (stk.map zaD)] st=none:=rfl;unfold zmt orN;rw[e1,zeg];unfold zmr;simp only[zi8,Ae,fk,if_true];rfl
end L2.MP.Hd
namespace L2.MP
open PySem
theorem znH{W:Wk}{g:MG}{c:MT}{m:ME}{α:Type}{f h:α->D}{R:Rho->Prop}:∀ {as:List α} {ρ:Rho} {st:Sto},R ρ->(∀ s,Gr st s->walked W s=true)->(∀ a∈as,∀ ρ s,R ρ->Gr st s->∃ ρ1 s1,g (f a) ρ s=some (ρ1,s)/\c ρ1 s=some (true,s)/\m ρ1 s=some (h a,s1)/\Gr s s1/\R ρ1) ->
   ∃ s',mCI W g c m (as.map f) ρ st=some (as.map h,s')/\Gr st s'
 | [],ρ,st,r,wk,_=>⟨st,by unfold mCI;rw[BM];simp only[wk st (Gr.refl st),if_true,BM],Gr.refl st⟩
 | a::as,ρ,st,r,wk,hs=>by
   obtain⟨ρ1,s1,e1,e2,e3,g1,r1⟩:=hs a An ρ st r (Gr.refl st);obtain⟨s',e,g'⟩:=znH (W:=W) (g:=g) (c:=c) (m:=m) (f:=f) (h:=h) (R:=R) (as:=as) (st:=s1) r1 (fun s q=>wk s (g1.trans q)) fun b hb ρ s q z=>hs b (Ak _ hb) ρ s q (g1.trans z);refine⟨s',?_,g1.trans g'⟩;rw[Az];unfold mCI;rw[if_pos (wk st (Gr.refl st)),e1];simp only[Ae,e2,if_true,e3,e,Au,Az]
end L2.MP
namespace L2.MP.stickytiles_k09_houses_and_beds_at_their
open PySem L2.MP L2.MP.Hn
noncomputable def zeE:MS:=mRet (zdp (mIsi "int" (mVar 0)) (zdp (zmm (mIsi "bool" (mVar 0))) (zc8 leD leD (mVar 1) (mVar 0) (mVar 2))))
noncomputable def zaB:GN:=fnM 3 zeE
noncomputable def zeF:MS:=mRet (zdp (mIsi "tuple" (mVar 0)) (mBin eqD (zaq lenD (zab (mVar 0) (mNil))) (mVar 1)))
noncomputable def zam:GN:=fnM 2 zeF
noncomputable def zc1:ME:=mBin ltB (mVar 0) (mVar 1)
noncomputable def zjo:MS:=mRet (zaq allC (zab (zbv (mZip (mVar 0) (mSlB (mVar 0) (zbh (mCon (.int 1))) (zbi))) 2 [] (gTp 2 (gC (gNm 0) (gC (gNm 1) (gN0)))) (za9) (zc1)) (mNil)))
noncomputable def zdF:GN:=fnM 1 zjo
noncomputable def zcH:ME:=mBin inA (mVar 0) (mCon (.str "abcdefghijklmnopqrstuvwxyz"))
noncomputable def zc2:MS:=mRet (zdp (mIsi "str" (mVar 0)) (zdp (zc8 leD leD (mCon (.int 1)) (zaq lenD (zab (mVar 0) (mNil))) (mCon (.int 8))) (zaq allC (zab (zbv (mWA (mVar 0)) 1 [] (gNm 0) (za9) (zcH)) (mNil)))))
noncomputable def zcY:GN:=fnM 1 zc2
noncomputable def zeG:MS:=mRet (zdp (zaq zam (zab (mVar 0) (zab (mCon (.int 2)) (mNil)))) (zdp (zaq zcY (zab (mBin ixA (mVar 0) (mCon (.int 0))) (mNil))) (zaq zaB (zab (mBin ixA (mVar 0) (mCon (.int 1))) (zab (mCon (.int 1)) (zab (mCon (.int 4)) (mNil)))))))
noncomputable def zcu:GN:=fnM 1 zeG
noncomputable def zbE:ME:=zaq zcu (zab (mVar 0) (mNil))
noncomputable def zbe:ME:=mBin ixA (mVar 0) (mCon (.int 0))
noncomputable def zb9:MS:=mSeq (mIf (mOrT (zdW (mTst (mIsi "tuple" (mVar 0)))) (zdW (mTst (zaq allC (zab (zbv (mWA (mVar 0)) 1 [] (gNm 0) (za9) (zbE)) (mNil)))))) (mRet (mCon (.bl false))) (zck)) (mRet (zaq zdF (zab (zbv (mWA (mVar 0)) 1 [] (gNm 0) (za9) (zbe)) (mNil))))
noncomputable def zbm:GN:=fnM 1 zb9
noncomputable def ziZ:MS:=mRet (zdp (mIsi "str" (mVar 0)) (zdp (mBin leD (zaq lenD (zab (mVar 0) (mNil))) (mCon (.int 1))) (mBin inA (mVar 0) (mCon (.str "abcdefghijklmnopqrstuvwxyz0123456789")))))
noncomputable def zc0:GN:=fnM 1 ziZ
noncomputable def zfD:MS:=mRet (zdp (mIsi "str" (mVar 0)) (mOrV (mBin eqD (mVar 0) (mCon (.str ""))) (mBin inA (mVar 0) (mVar 1))))
noncomputable def zcX:GN:=fnM 2 zfD
noncomputable def zbT:ME:=zaq zcX (zab (mVar 0) (zab (mVar 1) (mNil)))
noncomputable def zfE:MS:=mRet (zdp (zaq zam (zab (mVar 0) (zab (mCon (.int 5)) (mNil)))) (zdp (zaq zc0 (zab (mBin ixA (mVar 0) (mCon (.int 0))) (mNil))) (zaq allC (zab (zbv (mWA (mSlB (mVar 0) (zbh (mCon (.int 1))) (zbi))) 1 [1] (gNm 0) (za9) (zbT)) (mNil)))))
noncomputable def zcZ:GN:=fnM 2 zfE
noncomputable def zb7:ME:=zaq zcZ (zab (mVar 0) (zab (mVar 1) (mNil)))
noncomputable def zbN:MS:=mSeq (mIf (mOrT (zdW (mTst (zaq zam (zab (mVar 0) (zab (mCon (.int 3)) (mNil)))))) (mOrT (zdW (mTst (zaq zaB (zab (mBin ixA (mVar 0) (mCon (.int 0))) (zab (mCon (.int 1)) (zab (mCon (.int 4)) (mNil))))))) (zdW (mTst (zaq zbm (zab (mBin ixA (mVar 0) (mCon (.int 1))) (mNil))))))) (mRet (mCon (.bl false))) (zck)) (mSeq (mAsg (mBin ixA (mVar 0) (mCon (.int 2))) (gNm 1)) (mSeq (mIf (mOrT (zdW (mTst (mIsi "tuple" (mVar 1)))) (mTst (mBin eqD (zaq lenD (zab (mVar 1) (mNil))) (mCon (.int 0))))) (mRet (mCon (.bl false))) (zck)) (mSeq (mAsg (zaq zmt (zab (mBin ixA (mVar 0) (mCon (.int 1))) (mNil))) (gNm 2)) (mRet (zaq allC (zab (zbv (mWA (mVar 1)) 1 [2] (gNm 0) (za9) (zb7)) (mNil)))))))
noncomputable def zai:GN:=fnM 3 zbN
noncomputable def zeI:MS:=mRet (zdp (zaq zam (zab (mVar 0) (zab (mCon (.int 2)) (mNil)))) (zdp (zaq zaB (zab (mBin ixA (mVar 0) (mCon (.int 0))) (zab (mCon (.int 1)) (zab (mCon (.int 12)) (mNil))))) (zaq zaB (zab (mBin ixA (mVar 0) (mCon (.int 1))) (zab (mCon (.int 1)) (zab (mCon (.int 12)) (mNil)))))))
noncomputable def zcw:GN:=fnM 1 zeI
noncomputable def zeH:MS:=mSeq (mAsg (mBin ixA (mVar 0) (mCon (.int 1))) (gNm 2)) (mRet (zdp (zaq zam (zab (mVar 1) (zab (mCon (.int 2)) (mNil)))) (zdp (zaq zaB (zab (mBin ixA (mVar 1) (mCon (.int 0))) (zab (mCon (.int 0)) (zab (mBin subD (mBin ixA (mVar 2) (mCon (.int 0))) (mCon (.int 1))) (mNil))))) (zaq zaB (zab (mBin ixA (mVar 1) (mCon (.int 1))) (zab (mCon (.int 0)) (zab (mBin subD (mBin ixA (mVar 2) (mCon (.int 1))) (mCon (.int 1))) (mNil))))))))
noncomputable def zcv:GN:=fnM 3 zeH
noncomputable def zfC:MS:=mSeq (mAsg (mBin ixA (mBin ixA (mVar 0) (mCon (.int 0))) (mCon (.int 2))) (gNm 2)) (mRet (zdp (zaq zam (zab (mVar 1) (zab (mCon (.int 3)) (mNil)))) (zdp (zaq zcv (zab (mVar 0) (zab (mSlB (mVar 1) (zbi) (zbh (mCon (.int 2)))) (mNil)))) (zaq zaB (zab (mBin ixA (mVar 1) (mCon (.int 2))) (zab (mCon (.int 0)) (zab (mBin subD (zaq lenD (zab (mVar 2) (mNil))) (mCon (.int 1))) (mNil))))))))
noncomputable def zcW:GN:=fnM 3 zfC
noncomputable def zaZ:ME:=zaq zcW (zab (mVar 1) (zab (mVar 0) (mNil)))
noncomputable def zbu:ME:=mSlB (mVar 0) (zbi) (zbh (mCon (.int 2)))
noncomputable def zbM:MS:=mSeq (mIf (mOrT (zdW (mTst (mIsi "tuple" (mVar 1)))) (zdW (mTst (zaq allC (zab (zbv (mWA (mVar 1)) 1 [0] (gNm 0) (za9) (zaZ)) (mNil)))))) (mRet (mCon (.bl false))) (zck)) (mRet (zaq zdF (zab (zbv (mWA (mVar 1)) 1 [] (gNm 0) (za9) (zbu)) (mNil))))
noncomputable def zas:GN:=fnM 2 zbM
noncomputable def zfa:MS:=mSeq (mIf (mOrT (zdW (mTst (zaq zam (zab (mVar 0) (zab (mCon (.int 3)) (mNil)))))) (mOrT (zdW (mTst (zaq zai (zab (mBin ixA (mVar 0) (mCon (.int 0))) (mNil))))) (zdW (mTst (zaq zcw (zab (mBin ixA (mVar 0) (mCon (.int 1))) (mNil))))))) (mRet (mCon (.bl false))) (zck)) (mRet (zaq zas (zab (mVar 0) (zab (mBin ixA (mVar 0) (mCon (.int 2))) (mNil)))))
noncomputable def zbD:GN:=fnM 1 zfa
noncomputable def ze9:MS:=mSeq (mAsg (mCon (.str "abcdefghijklmnopqrstuvwxyz")) (gNm 2)) (mRet (mBin addD (mBin addD (mBin ixA (mVar 2) (mBin modD (mBin zgm (mVar 0) (mCon (.int 26))) (mCon (.int 26)))) (mBin ixA (mVar 2) (mBin modD (mVar 0) (mCon (.int 26))))) (mBin mulA (mCon (.str "z")) (mBin subD (mVar 1) (mCon (.int 2))))))
noncomputable def zbl:GN:=fnM 3 ze9
noncomputable def zaP:ME:=zaq zbl (zab (mBin addD (mVar 1) (mVar 0)) (zab (mVar 2) (mNil)))
noncomputable def zaO:ME:=zaq zaw (zab (mVar 1) (zab (mVar 2) (mNil)))
noncomputable def zaH:MS:=mSeq (mAsg (mBin ixA (mCon (.str "abcdefghijklmnopqrstuvwxyz0123456789")) (mBin modD (mBin addD (mVar 5) (mVar 9)) (mCon (.int 36)))) (gNm 10)) (mExp (mApp (mVar 8) (zab (mBin addD (mTup (zab (mVar 10) (mNil))) (zaq za8 (zab (zbv (mR1 (mCon (.int 4))) 1 [0,7] (gNm 0) (za9) (zaO)) (mNil)))) (mNil))))
noncomputable def zaI:ME:=mTup (zab (mVar 0) (zab (mVar 1) (mNil)))
noncomputable def zcM:MS:=mSeq (mAsg (zaq zau (zab (mVar 0) (zab (mCon (.int 400)) (mNil)))) (gNm 5)) (mSeq (mAsg (zbv (mR1 (mVar 1)) 1 [5,3] (gNm 0) (za9) (zaP)) (gNm 6)) (mSeq (mAsg (mBin addD (mVar 6) (mLst (zab (mCon (.str "")) (mNil)))) (gNm 7)) (mSeq (mAsg (mLst (mNil)) (gNm 8)) (mSeq (mFor (mR1 (mVar 2)) (gNm 9) (zaH)) (mRet (mTup (zab (mBin addD (mCon (.int 1)) (zaq zau (zab (mVar 0) (zab (mCon (.int 4)) (mNil))))) (zab (zaq za8 (zab (zbv (mWA (zaq zcg (zab (mVar 6) (mNil)))) 1 [4] (gNm 0) (za9) (zaI)) (mNil))) (zab (zaq za8 (zab (mVar 8) (mNil))) (mNil))))))))))
noncomputable def zav:GN:=fnM 11 zcM
noncomputable def zay:MS:=mSeq (mAsg (zaq zav (zab (mVar 0) (zab (zaq zaw (zab (mVar 0) (zab (mLst (zab (mCon (.int 1)) (zab (mCon (.int 7)) (zab (mCon (.int 240)) (mNil))))) (mNil)))) (zab (zaq zaw (zab (mVar 0) (zab (mLst (zab (mCon (.int 1)) (zab (mCon (.int 9)) (zab (mCon (.int 120)) (mNil))))) (mNil)))) (zab (mVar 1) (zab (mVar 2) (mNil))))))) (gNm 4)) (mSeq (mIf (mTst (mBin neD (zaq zai (zab (mVar 4) (mNil))) (mVar 3))) (mRet (mCon (.bl false))) (zck)) (mSeq (mIf (mOrT (mTst (zaq zai (zab (mBin addD (mTup (zab (mCon (.int 0)) (mNil))) (mSlB (mVar 4) (zbh (mCon (.int 1))) (zbi))) (mNil)))) (mOrT (mTst (zaq zai (zab (mBin addD (mTup (zab (mCon (.int 5)) (mNil))) (mSlB (mVar 4) (zbh (mCon (.int 1))) (zbi))) (mNil)))) (mTst (zaq zai (zab (mBin addD (mSlB (mVar 4) (zbi) (zbh (mCon (.int 2)))) (mTup (zab (mTup (mNil)) (mNil)))) (mNil)))))) (mRet (mCon (.bl false))) (zck)) (mSeq (mIf (mOrT (mTst (mBin neD (zaq zai (zab (mBin addD (mTup (zab (mCon (.int 4)) (mNil))) (mSlB (mVar 4) (zbh (mCon (.int 1))) (zbi))) (mNil))) (mVar 3))) (mTst (mBin neD (zaq zai (zab (mBin addD (mTup (zab (mCon (.int 1)) (mNil))) (mSlB (mVar 4) (zbh (mCon (.int 1))) (zbi))) (mNil))) (mVar 3)))) (mRet (mCon (.bl false))) (zck)) (mIf (mOrT (mTst (mBin zmk (zaq zai (zab (mTup (zab (mCon (.int 1)) (zab (mTup (mNil)) (zab (mTup (zab (mTup (zab (mCon (.str "")) (zab (mCon (.str "")) (zab (mCon (.str "")) (zab (mCon (.str "")) (zab (mCon (.str "")) (mNil))))))) (mNil))) (mNil))))) (mNil))) (mCon (.bl true)))) (zmn (mTst (mBin gtD (zaq lenD (zab (mBin ixA (mVar 4) (mCon (.int 1))) (mNil))) (mCon (.int 1)))) (mTst (zaq zai (zab (mTup (zab (mCon (.int 1)) (zab (zkL (mBin ixA (mVar 4) (mCon (.int 1))) (mNeg (mCon (.int 1)))) (zab (mBin ixA (mVar 4) (mCon (.int 2))) (mNil))))) (mNil)))))) (mRet (mCon (.bl false))) (zck)))))
noncomputable def zbn:MS:=mSeq (mFor (mWA (mTup (zab (mTup (zab (mCon (.int 8)) (zab (mCon (.int 4)) (zab (mCon (.bl true)) (mNil))))) (zab (mTup (zab (mCon (.int 9)) (zab (mCon (.int 4)) (zab (mCon (.bl false)) (mNil))))) (zab (mTup (zab (mCon (.int 2)) (zab (mCon (.int 5)) (zab (mCon (.bl false)) (mNil))))) (zab (mTup (zab (mCon (.int 2)) (zab (mCon (.int 0)) (zab (mCon (.bl false)) (mNil))))) (zab (mTup (zab (mCon (.int 2)) (zab (mCon (.int 1)) (zab (mCon (.bl true)) (mNil))))) (mNil)))))))) (gTp 3 (gC (gNm 1) (gC (gNm 2) (gC (gNm 3) (gN0))))) (zay)) (mRet (mCon (.bl true)))
noncomputable def zaN:GN:=fnM 5 zbn
noncomputable def zap:ME:=mTup (zab (mVar 1) (zab (mVar 0) (zab (zaq zau (zab (mVar 2) (zab (zaq lenD (zab (mBin ixA (mVar 3) (mCon (.int 2))) (mNil))) (mNil)))) (mNil))))
noncomputable def zax:MS:=mExp (mExt (mVar 4) (zab (zbv (mR1 (mBin ixA (mVar 2) (mCon (.int 1)))) 1 [5,0,1] (gNm 0) (za9) (zap)) (mNil)))
noncomputable def zao:ME:=zaq zas (zab (mVar 1) (zab (mBin addE (zaq za8 (zab (mSlC (mVar 2) (zbi) (zbh (mNeg (mCon (.int 1))))) (mNil))) (mTup (zab (mVar 0) (mNil)))) (mNil)))
noncomputable def zaM:MS:=mSeq (mAsg (mLst (mNil)) (gNm 4)) (mSeq (mFor (mR1 (mBin ixA (mVar 2) (mCon (.int 0)))) (gNm 5) (zax)) (mSeq (mIf (mOrT (mTst (mBin neD (zaq zbD (zab (mTup (zab (mVar 1) (zab (mVar 2) (zab (zaq za8 (zab (mVar 4) (mNil))) (mNil))))) (mNil))) (mVar 3))) (mTst (mBin neD (zaq zbD (zab (mTup (zab (mVar 1) (zab (mVar 2) (zab (mTup (mNil)) (mNil))))) (mNil))) (mVar 3)))) (mRet (mCon (.bl false))) (zck)) (mIf (mTst (mVar 3)) (mSeq (mAsg (mTup (zab (mVar 1) (zab (mVar 2) (zab (zaq za8 (zab (mSlB (mVar 4) (zbi) (zbh (mCon (.int 1)))) (mNil))) (mNil))))) (gNm 6)) (mSeq (mAsg (mBin ixA (mVar 4) (mNeg (mCon (.int 1)))) (gNm 7)) (mSeq (mAsg (mLst (zab (mBin addD (mSlB (mVar 7) (zbi) (zbh (mCon (.int 2)))) (mTup (zab (zaq lenD (zab (mBin ixA (mVar 1) (mCon (.int 2))) (mNil))) (mNil)))) (zab (mTup (zab (mBin addD (mBin ixA (mVar 7) (mCon (.int 0))) (mCon (.int 1))) (zab (mBin ixA (mVar 7) (mCon (.int 1))) (zab (mCon (.int 0)) (mNil))))) (zab (mTup (zab (mBin ixA (mVar 7) (mCon (.int 0))) (zab (mBin addD (mBin ixA (mVar 7) (mCon (.int 1))) (mCon (.int 1))) (zab (mCon (.int 0)) (mNil))))) (mNil))))) (gNm 8)) (mSeq (mAsg (mLst (zab (zaq zas (zab (mVar 6) (zab (zaq za8 (zab (mVar 4) (mNil))) (mNil)))) (zab (zaq zas (zab (mVar 6) (zab (zaq za8 (zab (mSlB (mVar 4) (zbh (mCon (.int 1))) (zbi)) (mNil))) (mNil)))) (mNil)))) (gNm 9)) (mSeq (mAsg (mBin addD (mVar 9) (zbv (mWA (mVar 8)) 1 [6,4] (gNm 0) (za9) (zao))) (gNm 9)) (mIf (mTst (mBin neD (mVar 9) (mLst (zab (mCon (.bl true)) (zab (mCon (.bl true)) (zab (mCon (.bl false)) (zab (mCon (.bl false)) (zab (mCon (.bl false)) (mNil))))))))) (mRet (mCon (.bl false))) (zck))))))) (zck))))
noncomputable def zbB:MS:=mSeq (mAsg (zaq zav (zab (mVar 0) (zab (mCon (.int 3)) (zab (zaq zaw (zab (mVar 0) (zab (mLst (zab (mCon (.int 1)) (zab (mCon (.int 9)) (zab (mCon (.int 120)) (mNil))))) (mNil)))) (zab (mCon (.int 2)) (zab (mCon (.int 1)) (mNil))))))) (gNm 1)) (mSeq (mFor (mWA (mTup (zab (mTup (zab (mTup (zab (mCon (.int 12)) (zab (mCon (.int 12)) (mNil)))) (zab (mCon (.bl true)) (mNil)))) (zab (mTup (zab (mTup (zab (mCon (.int 13)) (zab (mCon (.int 12)) (mNil)))) (zab (mCon (.bl false)) (mNil)))) (zab (mTup (zab (mTup (zab (mCon (.int 12)) (zab (mCon (.int 13)) (mNil)))) (zab (mCon (.bl false)) (mNil)))) (zab (mTup (zab (mTup (zab (mCon (.int 1)) (zab (mCon (.int 1)) (mNil)))) (zab (mCon (.bl true)) (mNil)))) (zab (mTup (zab (mTup (zab (mCon (.int 0)) (zab (mCon (.int 1)) (mNil)))) (zab (mCon (.bl false)) (mNil)))) (mNil)))))))) (gTp 2 (gC (gNm 2) (gC (gNm 3) (gN0)))) (zaM)) (mRet (mCon (.bl true))))
noncomputable def zaU:GN:=fnM 10 zbB
noncomputable def zfB:MS:=mSeq (mAsg (zaq zbS (zab (mVar 0) (zab (mVar 1) (mNil)))) (gNm 2)) (mIf (mOrT (zdW (mTst (zaq zaN (zab (mVar 2) (mNil))))) (zdW (mTst (zaq zaU (zab (mVar 2) (mNil)))))) (mRet (mCon (.bl false))) (zck))
noncomputable def znY:MS:=mSeq (mFor (mR1 (zaq zlP (zab (mCon (.int 1)) (zab (zaq zlO (zab (zaq lenD (zab (mVar 0) (mNil))) (zab (mCon (.int 4)) (mNil)))) (mNil))))) (gNm 1) (zfB)) (mRet (mCon (.bl true)))
noncomputable def zkF:GN:=fnM 3 znY
end L2.MP.stickytiles_k09_houses_and_beds_at_their
namespace L2.MP.stickytiles_k09_houses_and_beds_at_their
open PySem L2 L2.MP L2.MP.Hn PySem.Spec PyProof.Rows
noncomputable def top(i:Nat):Stmt:=PySem.Challenge.pw_stickytiles_k09_houses_and_beds_at_their.main.body.getD i (.Pass ⟨0,0,0,0⟩)
section
variable {P:Program} {w:World} {K:Ab} {mg:Str->Option Value} {base:Heap}
theorem nd_0:(["one","other"]:List Str).Nodup:=by decide +kernel
theorem nd_1:(["sign"]:List Str).Nodup:=by decide +kernel
theorem nd_2:(["part"]:List Str).Nodup:=by decide +kernel
theorem nd_3:(["stick"]:List Str).Nodup:=by decide +kernel
theorem nd_4:(["part","names"]:List Str).Nodup:=by decide +kernel
theorem nd_5:(["thing","kinds","names"]:List Str).Nodup:=by decide +kernel
theorem nd_6:(["bed","thing","floor"]:List Str).Nodup:=by decide +kernel
theorem nd_7:(["bed","thing","kinds"]:List Str).Nodup:=by decide +kernel
theorem nd_8:(["part","bed"]:List Str).Nodup:=by decide +kernel
theorem nd_9:(["tile"]:List Str).Nodup:=by decide +kernel
theorem zlK:(["_law_script","_law_k","_law_cell","_law_number","_law_part","_law_mixed"]:List Str).Nodup:=by decide +kernel
theorem zoD:(["_law_pot_here","_law_many","_law_digit"]:List Str).Nodup:=by decide +kernel
theorem zoC:(["_law_number","_law_many","_law_letters"]:List Str).Nodup:=by decide +kernel
theorem zkJ:(["_law_pot_here","_law_sticks_many","_law_kinds_many","_law_letters","_law_strength","_law_first","_law_names","_law_sides","_law_kinds","_law_k","_law_sign"]:List Str).Nodup:=by decide +kernel
theorem zoB:(["_law_k","_law_first","_law_letters"]:List Str).Nodup:=by decide +kernel
theorem zoA:(["_law_side","_law_pot_here","_law_sides"]:List Str).Nodup:=by decide +kernel
theorem zoz:(["_law_name_here","_law_strength"]:List Str).Nodup:=by decide +kernel
theorem zml:(["_law_pot_here","_law_letters","_law_strength","_law_due","_law_house"]:List Str).Nodup:=by decide +kernel
theorem zhL:(["_law_pot_here","_law_house","_law_floor","_law_due","_law_tiles","_law_x","_law_bed","_law_last","_law_more","_law_told"]:List Str).Nodup:=by decide +kernel
theorem zoy:(["_law_y","_law_x","_law_pot_here","_law_house"]:List Str).Nodup:=by decide +kernel
theorem zox:(["_law_one","_law_bed","_law_tiles"]:List Str).Nodup:=by decide +kernel
theorem znS:(["_law_script","_law_k","_law_pot_here"]:List Str).Nodup:=by decide +kernel
theorem zfQ:FnScope ["thing","least","most"] ["thing","least","most"] (zal (top 3)):=⟨rfl,rfl,rfl,by decide +kernel,rfl,by decide +kernel,by decide +kernel⟩
theorem zfZ(L:Laid K mg "is_whole" (top 3) ["thing","least","most"])(b_isinstance:mg "isinstance"=none)(b_int:mg "int"=none)(b_bool:mg "bool"=none):za0 P w K mg base 1 "is_whole" 3 zaB :=
 zbp (k:=0) L zfQ fun f cdv A outer s H E hr=>JSs.out (zat (JS.mk (zaQ (zbG (zdI (T:="int") (x:="isinstance") (by decide) rfl b_isinstance (zac 0) rfl b_int zkA) (zbG (zmK (zdI (T:="bool") (x:="isinstance") (by decide) rfl b_isinstance (zac 0) rfl b_bool zmb)) (zbW (zgD zgW zgW (zac 1) (zac 0) (zac 2))))))))
theorem zfR:FnScope ["thing","size"] ["thing","size"] (zal (top 4)):=⟨rfl,rfl,rfl,by decide +kernel,rfl,by decide +kernel,by decide +kernel⟩
theorem zf0(L:Laid K mg "is_tuple" (top 4) ["thing","size"])(b_isinstance:mg "isinstance"=none)(b_tuple:mg "tuple"=none)(b_len:mg "len"=none):za0 P w K mg base 1 "is_tuple" 2 zam :=
 zbp (k:=0) L zfR fun f cdv A outer s H E hr=>JSs.out (zat (JS.mk (zaQ (zbG (zdI (T:="tuple") (x:="isinstance") (by decide) rfl b_isinstance (zac 0) rfl b_tuple zba) (zbW (zeS (zj2 (zby hr)) (zaG za4 rfl b_len zdh (zaa (zac 0) (zaf))) (zac 1) rfl))))))
theorem zjK:FnScope ["parts"] ["parts"] (zal (top 5)):=⟨rfl,rfl,rfl,by decide +kernel,rfl,by decide +kernel,by decide +kernel⟩
theorem zj4(L:Laid K mg "rises" (top 5) ["parts"])(b_zip:mg "zip"=none)(b_all:mg "all"=none):za0 P w K mg base 1 "rises" 1 zdF :=
 zbp (k:=0) L zjK fun f cdv A outer s H E hr=>JSs.out (zat (JS.mk (zaQ (zaG (zbR rfl) rfl b_all zgh (zaa (zbF rfl rfl (za6 (N':=["one","other"]) (nt:=2) (fr:=[]) [] rfl (by decide +kernel) (by decide +kernel) (by decide +kernel) rfl trivial trivial) (zmF rfl b_zip (zac 0) (zaR (zac 0) (zbw (zae)) (zbx))) (fun C s0 H0 fp=>zjG rfl (zb2 (zaV (i:=0) nd_0 rfl (by first | exact Ay rfl | exact Ax rfl)) (zb2 (zaV (i:=1) nd_0 rfl (by first | exact Ay rfl | exact Ax rfl)) (zgC)))) (fun C s0 H0 fp=>zcx) (fun C s0 H0 fp=>zeS (znd (zby hr)) (zac 0) (zac 1) rfl)) (zaf))))))
theorem zgG:FnScope ["thing"] ["thing"] (zal (top 6)):=⟨rfl,rfl,rfl,by decide +kernel,rfl,by decide +kernel,by decide +kernel⟩
theorem zg1{t_LETTERS:Tok}(L:Laid K mg "is_name" (top 6) ["thing"])(b_isinstance:mg "isinstance"=none)(b_str:mg "str"=none)(b_len:mg "len"=none)(b_all:mg "all"=none)(g_LETTERS:mg "LETTERS"=some (.str "abcdefghijklmnopqrstuvwxyz" t_LETTERS)):za0 P w K mg base 1 "is_name" 1 zcY :=
 zbp (k:=0) L zgG fun f cdv A outer s H E hr=>JSs.out (zat (JS.mk (zaQ (zbG (zdI (T:="str") (x:="isinstance") (by decide) rfl b_isinstance (zac 0) rfl b_str zkz) (zbG (zgD zgW zgW (zae) (zaG za4 rfl b_len zdh (zaa (zac 0) (zaf))) (zae)) (zbW (zaG (zbR rfl) rfl b_all zgh (zaa (zbF rfl rfl (za6 (N':=["sign"]) (nt:=1) (fr:=[]) [] rfl (by decide +kernel) (by decide +kernel) (by decide +kernel) rfl trivial trivial) (zbg (zac 0)) (fun C s0 H0 fp=>zaV (i:=0) nd_1 rfl (by first | exact Ay rfl | exact Ax rfl)) (fun C s0 H0 fp=>zcx) (fun C s0 H0 fp=>zjJ (zby hr) (zac 0) (zi6 rfl g_LETTERS))) (zaf)))))))))
theorem zfS:FnScope ["thing"] ["thing"] (zal (top 7)):=⟨rfl,rfl,rfl,by decide +kernel,rfl,by decide +kernel,by decide +kernel⟩
theorem zf1(L:Laid K mg "is_stick" (top 7) ["thing"])(h_is_tuple:za0 P w K mg base 1 "is_tuple" 2 zam)(h_is_name:za0 P w K mg base 1 "is_name" 1 zcY)(h_is_whole:za0 P w K mg base 1 "is_whole" 3 zaB):za0 P w K mg base 2 "is_stick" 1 zcu :=
 zbp (k:=1) L zfS fun f cdv A outer s H E hr=>JSs.out (zat (JS.mk (zaQ (zbG (zah h_is_tuple (hr.mono (by decide)) rfl (zaa (zac 0) (zaa (zae) (zaf))) (zak.cons (zak.cons zak.nil))) (zbG (zah h_is_name (hr.mono (by decide)) rfl (zaa (zaF (zbo hr) (zac 0) (zae)) (zaf)) (zak.cons zak.nil)) (zbW (zah h_is_whole (hr.mono (by decide)) rfl (zaa (zaF (zbo hr) (zac 0) (zae)) (zaa (zae) (zaa (zae) (zaf)))) (zak.cons (zak.cons (zak.cons zak.nil))))))))))
theorem zee:FnScope ["thing"] ["thing"] (zal (top 8)):=⟨rfl,rfl,rfl,by decide +kernel,rfl,by decide +kernel,by decide +kernel⟩
theorem zel(L:Laid K mg "are_sticks" (top 8) ["thing"])(b_isinstance:mg "isinstance"=none)(b_tuple:mg "tuple"=none)(b_all:mg "all"=none)(h_is_stick:za0 P w K mg base 2 "is_stick" 1 zcu)(h_rises:za0 P w K mg base 1 "rises" 1 zdF):za0 P w K mg base 3 "are_sticks" 1 zbm :=
 zbp (k:=2) L zee fun f cdv A outer s H E hr=>JSs.out (zaj (ze1 (SW.sb (zfF (zcy (zd7 (zdI (T:="tuple") (x:="isinstance") (by decide) rfl b_isinstance (zac 0) rfl b_tuple zba))) (zdq (zcy (zd7 (zaG (zbR rfl) rfl b_all zgh (zaa (zbF rfl rfl (za6 (N':=["part"]) (nt:=1) (fr:=[]) [] rfl (by decide +kernel) (by decide +kernel) (by decide +kernel) rfl trivial trivial) (zbg (zac 0)) (fun C s0 H0 fp=>zaV (i:=0) nd_2 rfl (by first | exact Ay rfl | exact Ax rfl)) (fun C s0 H0 fp=>zcx) (fun C s0 H0 fp=>zah h_is_stick (hr.mono (by decide)) rfl (zaa (zac 0) (zaf)) (zak.cons zak.nil))) (zaf)))))))) (zat (JS.mk (zaQ (zb3)))) (zbj)) (zat (JS.mk (zaQ (zah h_rises (hr.mono (by decide)) rfl (zaa (zbF rfl rfl (za6 (N':=["stick"]) (nt:=1) (fr:=[]) [] rfl (by decide +kernel) (by decide +kernel) (by decide +kernel) rfl trivial trivial) (zbg (zac 0)) (fun C s0 H0 fp=>zaV (i:=0) nd_3 rfl (by first | exact Ay rfl | exact Ax rfl)) (fun C s0 H0 fp=>zcx) (fun C s0 H0 fp=>zaF (zbo hr) (zac 0) (zae))) (zaf)) (zak.cons zak.nil))))))
theorem zgI:FnScope ["thing"] ["thing"] (zal (top 9)):=⟨rfl,rfl,rfl,by decide +kernel,rfl,by decide +kernel,by decide +kernel⟩
theorem zg3{t_FACE_SIGNS:Tok}(L:Laid K mg "is_face" (top 9) ["thing"])(b_isinstance:mg "isinstance"=none)(b_str:mg "str"=none)(b_len:mg "len"=none)(g_FACE_SIGNS:mg "FACE_SIGNS"=some (.str "abcdefghijklmnopqrstuvwxyz0123456789" t_FACE_SIGNS)):za0 P w K mg base 1 "is_face" 1 zc0 :=
 zbp (k:=0) L zgI fun f cdv A outer s H E hr=>JSs.out (zat (JS.mk (zaQ (zbG (zdI (T:="str") (x:="isinstance") (by decide) rfl b_isinstance (zac 0) rfl b_str zkz) (zbG (zeS zgW (zaG za4 rfl b_len zdh (zaa (zac 0) (zaf))) (zae) rfl) (zbW (zjJ (zby hr) (zac 0) (zi6 rfl g_FACE_SIGNS))))))))
theorem zgF:FnScope ["thing","names"] ["thing","names"] (zal (top 10)):=⟨rfl,rfl,rfl,by decide +kernel,rfl,by decide +kernel,by decide +kernel⟩
theorem zg0(L:Laid K mg "is_side" (top 10) ["thing","names"])(b_isinstance:mg "isinstance"=none)(b_str:mg "str"=none):za0 P w K mg base 1 "is_side" 2 zcX :=
 zbp (k:=0) L zgF fun f cdv A outer s H E hr=>JSs.out (zat (JS.mk (zaQ (zbG (zdI (T:="str") (x:="isinstance") (by decide) rfl b_isinstance (zac 0) rfl b_str zkz) (zbW (zoc (zeS (zj2 (zby hr)) (zac 0) (zdr) rfl) (zmJ (zjJ (zby hr) (zac 0) (zac 1)))))))))
theorem zgH:FnScope ["thing","names"] ["thing","names"] (zal (top 11)):=⟨rfl,rfl,rfl,by decide +kernel,rfl,by decide +kernel,by decide +kernel⟩
theorem zg2(L:Laid K mg "is_kind" (top 11) ["thing","names"])(b_all:mg "all"=none)(h_is_tuple:za0 P w K mg base 1 "is_tuple" 2 zam)(h_is_face:za0 P w K mg base 1 "is_face" 1 zc0)(h_is_side:za0 P w K mg base 1 "is_side" 2 zcX):za0 P w K mg base 2 "is_kind" 2 zcZ :=
 zbp (k:=1) L zgH fun f cdv A outer s H E hr=>JSs.out (zat (JS.mk (zaQ (zbG (zah h_is_tuple (hr.mono (by decide)) rfl (zaa (zac 0) (zaa (zae) (zaf))) (zak.cons (zak.cons zak.nil))) (zbG (zah h_is_face (hr.mono (by decide)) rfl (zaa (zaF (zbo hr) (zac 0) (zae)) (zaf)) (zak.cons zak.nil)) (zbW (zaG (zbR rfl) rfl b_all zgh (zaa (zbF rfl rfl (za6 (N':=["part","names"]) (nt:=1) (fr:=[1]) ["names"] rfl (by decide +kernel) (by decide +kernel) (by decide +kernel) rfl ⟨⟨rfl,by decide⟩,trivial⟩ ⟨by first | exact Ay rfl | exact Ax rfl,trivial⟩) (zbg (zaR (zac 0) (zbw (zae)) (zbx))) (fun C s0 H0 fp=>zaV (i:=0) nd_4 rfl (by first | exact Ay rfl | exact Ax rfl)) (fun C s0 H0 fp=>zcx) (fun C s0 H0 fp=>zah h_is_side (hr.mono (by decide)) rfl (zaa (zac 0) (zaa (zac 1) (zaf))) (zak.cons (zak.cons zak.nil)))) (zaf)))))))))
theorem zfU:FnScope ["thing","kinds","names"] ["thing"] (zal (top 12)):=⟨rfl,rfl,rfl,by decide +kernel,rfl,by decide +kernel,by decide +kernel⟩
theorem zf3(L:Laid K mg "is_house" (top 12) ["thing"])(b_isinstance:mg "isinstance"=none)(b_tuple:mg "tuple"=none)(b_len:mg "len"=none)(b_dict:mg "dict"=none)(b_all:mg "all"=none)(h_is_tuple:za0 P w K mg base 1 "is_tuple" 2 zam)(h_is_whole:za0 P w K mg base 1 "is_whole" 3 zaB)(h_are_sticks:za0 P w K mg base 3 "are_sticks" 1 zbm)(h_is_kind:za0 P w K mg base 2 "is_kind" 2 zcZ):za0 P w K mg base 4 "is_house" 1 zai :=
 zbp (k:=3) L zfU fun f cdv A outer s H E hr=>JSs.out (zaj (ze1 (SW.sb (zfF (zcy (zd7 (zah h_is_tuple (hr.mono (by decide)) rfl (zaa (zac 0) (zaa (zae) (zaf))) (zak.cons (zak.cons zak.nil))))) (zfF (zcy (zd7 (zah h_is_whole (hr.mono (by decide)) rfl (zaa (zaF (zbo hr) (zac 0) (zae)) (zaa (zae) (zaa (zae) (zaf)))) (zak.cons (zak.cons (zak.cons zak.nil)))))) (zdq (zcy (zd7 (zah h_are_sticks (hr.mono (by decide)) rfl (zaa (zaF (zbo hr) (zac 0) (zae)) (zaf)) (zak.cons zak.nil)))))))) (zat (JS.mk (zaQ (zb3)))) (zbj)) (zaj (JS.mk (zbc (i:=1) nd_5 rfl (by first | exact Ay rfl | exact Ax rfl) (zaF (zbo hr) (zac 0) (zae)))) (zaj (ze1 (SW.sb (zfF (zcy (zd7 (zdI (T:="tuple") (x:="isinstance") (by decide) rfl b_isinstance (zac 1) rfl b_tuple zba))) (zdq (zc5 (zj2 (zby hr)) (zaG za4 rfl b_len zdh (zaa (zac 1) (zaf))) (zae) rfl)))) (zat (JS.mk (zaQ (zb3)))) (zbj)) (zaj (JS.mk (zbc (i:=2) nd_5 rfl (by first | exact Ay rfl | exact Ax rfl) (za3 (zgg rfl) rfl b_dict zma (zaa (zaF (zbo hr) (zac 0) (zae)) (zaf))))) (zat (JS.mk (zaQ (zaG (zbR rfl) rfl b_all zgh (zaa (zbF rfl rfl (za6 (N':=["part","names"]) (nt:=1) (fr:=[2]) ["names"] rfl (by decide +kernel) (by decide +kernel) (by decide +kernel) rfl ⟨⟨rfl,by decide⟩,trivial⟩ ⟨by first | exact Ay rfl | exact Ax rfl,trivial⟩) (zbg (zac 1)) (fun C s0 H0 fp=>zaV (i:=0) nd_4 rfl (by first | exact Ay rfl | exact Ax rfl)) (fun C s0 H0 fp=>zcx) (fun C s0 H0 fp=>zah h_is_kind (hr.mono (by decide)) rfl (zaa (zac 0) (zaa (zac 1) (zaf))) (zak.cons (zak.cons zak.nil)))) (zaf))))))))))
theorem zfV:FnScope ["thing"] ["thing"] (zal (top 13)):=⟨rfl,rfl,rfl,by decide +kernel,rfl,by decide +kernel,by decide +kernel⟩
theorem zf4(L:Laid K mg "is_floor" (top 13) ["thing"])(h_is_tuple:za0 P w K mg base 1 "is_tuple" 2 zam)(h_is_whole:za0 P w K mg base 1 "is_whole" 3 zaB):za0 P w K mg base 2 "is_floor" 1 zcw :=
 zbp (k:=1) L zfV fun f cdv A outer s H E hr=>JSs.out (zat (JS.mk (zaQ (zbG (zah h_is_tuple (hr.mono (by decide)) rfl (zaa (zac 0) (zaa (zae) (zaf))) (zak.cons (zak.cons zak.nil))) (zbG (zah h_is_whole (hr.mono (by decide)) rfl (zaa (zaF (zbo hr) (zac 0) (zae)) (zaa (zae) (zaa (zae) (zaf)))) (zak.cons (zak.cons (zak.cons zak.nil)))) (zbW (zah h_is_whole (hr.mono (by decide)) rfl (zaa (zaF (zbo hr) (zac 0) (zae)) (zaa (zae) (zaa (zae) (zaf)))) (zak.cons (zak.cons (zak.cons zak.nil))))))))))
theorem zfT:FnScope ["bed","thing","floor"] ["bed","thing"] (zal (top 14)):=⟨rfl,rfl,rfl,by decide +kernel,rfl,by decide +kernel,by decide +kernel⟩
theorem zf2(L:Laid K mg "is_place" (top 14) ["bed","thing"])(h_is_tuple:za0 P w K mg base 1 "is_tuple" 2 zam)(h_is_whole:za0 P w K mg base 1 "is_whole" 3 zaB):za0 P w K mg base 2 "is_place" 2 zcv :=
 zbp (k:=1) L zfT fun f cdv A outer s H E hr=>JSs.out (zaj (JS.mk (zbc (i:=2) nd_6 rfl (by first | exact Ay rfl | exact Ax rfl) (zaF (zbo hr) (zac 0) (zae)))) (zat (JS.mk (zaQ (zbG (zah h_is_tuple (hr.mono (by decide)) rfl (zaa (zac 1) (zaa (zae) (zaf))) (zak.cons (zak.cons zak.nil))) (zbG (zah h_is_whole (hr.mono (by decide)) rfl (zaa (zaF (zbo hr) (zac 1) (zae)) (zaa (zae) (zaa (zaA zfm (zaF (zbo hr) (zac 2) (zae)) (zae)) (zaf)))) (zak.cons (zak.cons (zak.cons zak.nil)))) (zbW (zah h_is_whole (hr.mono (by decide)) rfl (zaa (zaF (zbo hr) (zac 1) (zae)) (zaa (zae) (zaa (zaA zfm (zaF (zbo hr) (zac 2) (zae)) (zae)) (zaf)))) (zak.cons (zak.cons (zak.cons zak.nil)))))))))))
theorem zgE:FnScope ["bed","thing","kinds"] ["bed","thing"] (zal (top 15)):=⟨rfl,rfl,rfl,by decide +kernel,rfl,by decide +kernel,by decide +kernel⟩
theorem zgZ(L:Laid K mg "is_tile" (top 15) ["bed","thing"])(b_len:mg "len"=none)(h_is_tuple:za0 P w K mg base 1 "is_tuple" 2 zam)(h_is_place:za0 P w K mg base 2 "is_place" 2 zcv)(h_is_whole:za0 P w K mg base 1 "is_whole" 3 zaB):za0 P w K mg base 3 "is_tile" 2 zcW :=
 zbp (k:=2) L zgE fun f cdv A outer s H E hr=>JSs.out (zaj (JS.mk (zbc (i:=2) nd_7 rfl (by first | exact Ay rfl | exact Ax rfl) (zaF (zbo hr) (zaF (zbo hr) (zac 0) (zae)) (zae)))) (zat (JS.mk (zaQ (zbG (zah h_is_tuple (hr.mono (by decide)) rfl (zaa (zac 1) (zaa (zae) (zaf))) (zak.cons (zak.cons zak.nil))) (zbG (zah h_is_place (hr.mono (by decide)) rfl (zaa (zac 0) (zaa (zaR (zac 1) (zbx) (zbw (zae))) (zaf))) (zak.cons (zak.cons zak.nil))) (zbW (zah h_is_whole (hr.mono (by decide)) rfl (zaa (zaF (zbo hr) (zac 1) (zae)) (zaa (zae) (zaa (zaA zfm (zaG za4 rfl b_len zdh (zaa (zac 2) (zaf))) (zae)) (zaf)))) (zak.cons (zak.cons (zak.cons zak.nil)))))))))))
theorem zdK:FnScope ["bed","thing"] ["bed","thing"] (zal (top 16)):=⟨rfl,rfl,rfl,by decide +kernel,rfl,by decide +kernel,by decide +kernel⟩
theorem zdS(L:Laid K mg "is_standing" (top 16) ["bed","thing"])(b_isinstance:mg "isinstance"=none)(b_tuple:mg "tuple"=none)(b_all:mg "all"=none)(h_is_tile:za0 P w K mg base 3 "is_tile" 2 zcW)(h_rises:za0 P w K mg base 1 "rises" 1 zdF):za0 P w K mg base 4 "is_standing" 2 zas :=
 zbp (k:=3) L zdK fun f cdv A outer s H E hr=>JSs.out (zaj (ze1 (SW.sb (zfF (zcy (zd7 (zdI (T:="tuple") (x:="isinstance") (by decide) rfl b_isinstance (zac 1) rfl b_tuple zba))) (zdq (zcy (zd7 (zaG (zbR rfl) rfl b_all zgh (zaa (zbF rfl rfl (za6 (N':=["part","bed"]) (nt:=1) (fr:=[0]) ["bed"] rfl (by decide +kernel) (by decide +kernel) (by decide +kernel) rfl ⟨⟨rfl,by decide⟩,trivial⟩ ⟨by first | exact Ay rfl | exact Ax rfl,trivial⟩) (zbg (zac 1)) (fun C s0 H0 fp=>zaV (i:=0) nd_8 rfl (by first | exact Ay rfl | exact Ax rfl)) (fun C s0 H0 fp=>zcx) (fun C s0 H0 fp=>zah h_is_tile (hr.mono (by decide)) rfl (zaa (zac 1) (zaa (zac 0) (zaf))) (zak.cons (zak.cons zak.nil)))) (zaf)))))))) (zat (JS.mk (zaQ (zb3)))) (zbj)) (zat (JS.mk (zaQ (zah h_rises (hr.mono (by decide)) rfl (zaa (zbF rfl rfl (za6 (N':=["tile"]) (nt:=1) (fr:=[]) [] rfl (by decide +kernel) (by decide +kernel) (by decide +kernel) rfl trivial trivial) (zbg (zac 1)) (fun C s0 H0 fp=>zaV (i:=0) nd_9 rfl (by first | exact Ay rfl | exact Ax rfl)) (fun C s0 H0 fp=>zcx) (fun C s0 H0 fp=>zaR (zac 0) (zbx) (zbw (zae)))) (zaf)) (zak.cons zak.nil))))))
theorem zh6:FnScope ["thing"] ["thing"] (zal (top 17)):=⟨rfl,rfl,rfl,by decide +kernel,rfl,by decide +kernel,by decide +kernel⟩
theorem zif(L:Laid K mg "is_bed" (top 17) ["thing"])(h_is_tuple:za0 P w K mg base 1 "is_tuple" 2 zam)(h_is_house:za0 P w K mg base 4 "is_house" 1 zai)(h_is_floor:za0 P w K mg base 2 "is_floor" 1 zcw)(h_is_standing:za0 P w K mg base 4 "is_standing" 2 zas):za0 P w K mg base 5 "is_bed" 1 zbD :=
 zbp (k:=4) L zh6 fun f cdv A outer s H E hr=>JSs.out (zaj (ze1 (SW.sb (zfF (zcy (zd7 (zah h_is_tuple (hr.mono (by decide)) rfl (zaa (zac 0) (zaa (zae) (zaf))) (zak.cons (zak.cons zak.nil))))) (zfF (zcy (zd7 (zah h_is_house (hr.mono (by decide)) rfl (zaa (zaF (zbo hr) (zac 0) (zae)) (zaf)) (zak.cons zak.nil)))) (zdq (zcy (zd7 (zah h_is_floor (hr.mono (by decide)) rfl (zaa (zaF (zbo hr) (zac 0) (zae)) (zaf)) (zak.cons zak.nil)))))))) (zat (JS.mk (zaQ (zb3)))) (zbj)) (zat (JS.mk (zaQ (zah h_is_standing (hr.mono (by decide)) rfl (zaa (zac 0) (zaa (zaF (zbo hr) (zac 0) (zae)) (zaf))) (zak.cons (zak.cons zak.nil)))))))
theorem zeT:FnScope ["_law_script","_law_k","_law_cell","_law_number","_law_part","_law_mixed"] ["_law_script","_law_k"] (zal (top 19)):=⟨rfl,rfl,rfl,by decide +kernel,rfl,by decide +kernel,by decide +kernel⟩
theorem zeV(L:Laid K mg "_law_pot" (top 19) ["_law_script","_law_k"])(b_len:mg "len"=none)(b_abs:mg "abs"=none)(b_int:mg "int"=none):za0 P w K mg base 1 "_law_pot" 2 zbS :=
 zbp (k:=0) L zeT fun f cdv A outer s H E hr=>JSs.out (zaj (JS.mk (zbc (i:=2) zlK rfl (by first | exact Ay rfl | exact Ax rfl) (zae))) (zaj (ze1 (zc5 zj1 (zac 1) (zaG za4 rfl b_len zdh (zaa (zac 0) (zaf))) rfl) (zat (JS.mk (zbc (i:=2) zlK rfl (by first | exact Ay rfl | exact Ax rfl) (zaF (zbo hr) (zac 0) (zac 1))))) (zbj)) (zaj (JS.mk (zbc (i:=3) zlK rfl (by first | exact Ay rfl | exact Ax rfl) (zaA zaY (zaA zcJ (zae) (zaA zcK (zaG ziQ rfl b_abs znK (zaa (zac 2) (zaf))) (zaA zgV (zaA zgV (zae) (zae)) (zae)))) (za3 zfv rfl b_int zkA (zaa (zeS zj1 (zac 2) (zae) rfl) (zaf)))))) (zaj (JS.mk (zbc (i:=4) zlK rfl (by first | exact Ay rfl | exact Ax rfl) (zaA zcK (zac 3) (zae)))) (zaj (JS.mk (zbc (i:=5) zlK rfl (by first | exact Ay rfl | exact Ax rfl) (zaA zcK (zaA zaY (zaA zaY (zaA zcJ (zac 4) (zae)) (zaA zcJ (zae) (zac 1))) (zae)) (zae)))) (zat (JS.mk (zaQ (zds (zaa (zaA zcJ (zac 3) (za3 zfv rfl b_int zkA (zaa (zeS znf (zac 3) (zaA zcJ (zae) (zaA zgV (zae) (zae))) rfl) (zaf)))) (zaa (zac 5) (zaf))))))))))))
theorem zec:FnScope ["_law_pot_here","_law_many","_law_digit"] ["_law_pot_here","_law_many"] (zal (top 20)):=⟨rfl,rfl,rfl,by decide +kernel,rfl,by decide +kernel,by decide +kernel⟩
theorem zej(L:Laid K mg "_law_next" (top 20) ["_law_pot_here","_law_many"]):za0 P w K mg base 1 "_law_next" 2 zau :=
 zbp (k:=0) L zec fun f cdv A outer s H E hr=>JSs.out (zaj (ze1 (zc5 zlC (zaF (zbo hr) (zac 0) (zae)) (zae) rfl) (zaj (JS.mk (zbc (i:=2) zoD rfl (by first | exact Ay rfl | exact Ax rfl) (zaA zcK (zaF (zbo hr) (zac 0) (zae)) (zac 1)))) (zaj (JS.mk (zk0 (zbo hr) (zac 0) (zae) (zaA zdQ (zaF (zbo hr) (zac 0) (zae)) (zac 1)))) (zat (JS.mk (zaQ (zac 2)))))) (zbj)) (zaj (JS.mk (zk0 (zbo hr) (zac 0) (zae) (zaA zcK (zaA zaY (zaA zcJ (zaF (zbo hr) (zac 0) (zae)) (zae)) (zae)) (zae)))) (zat (JS.mk (zaQ (zaA zdQ (zaA zcJ (zaA zdQ (zaF (zbo hr) (zac 0) (zae)) (zae)) (zac 1)) (zae)))))))
theorem zfP:FnScope ["_law_pot_here","_law_some"] ["_law_pot_here","_law_some"] (zal (top 21)):=⟨rfl,rfl,rfl,by decide +kernel,rfl,by decide +kernel,by decide +kernel⟩
theorem zfY(L:Laid K mg "_law_of" (top 21) ["_law_pot_here","_law_some"])(b_len:mg "len"=none)(h_q_law_next:za0 P w K mg base 1 "_law_next" 2 zau):za0 P w K mg base 2 "_law_of" 2 zaw :=
 zbp (k:=1) L zfP fun f cdv A outer s H E hr=>JSs.out (zat (JS.mk (zaQ (zaF (zbo hr) (zac 1) (zah h_q_law_next (hr.mono (by decide)) rfl (zaa (zac 0) (zaa (zaG za4 rfl b_len zdh (zaa (zac 1) (zaf))) (zaf))) (zak.cons (zak.cons zak.nil)))))))
theorem zed:FnScope ["_law_number","_law_many","_law_letters"] ["_law_number","_law_many"] (zal (top 22)):=⟨rfl,rfl,rfl,by decide +kernel,rfl,by decide +kernel,by decide +kernel⟩
theorem zek(L:Laid K mg "_law_name" (top 22) ["_law_number","_law_many"]):za0 P w K mg base 1 "_law_name" 2 zbl :=
 zbp (k:=0) L zed fun f cdv A outer s H E hr=>JSs.out (zaj (JS.mk (zbc (i:=2) zoC rfl (by first | exact Ay rfl | exact Ax rfl) (zdr))) (zat (JS.mk (zaQ (zaA zaY (zaA zaY (zaF (zbo hr) (zac 2) (zaA zcK (zaA zdQ (zac 0) (zae)) (zae))) (zaF (zbo hr) (zac 2) (zaA zcK (zac 0) (zae)))) (zaA zcJ (zdr) (zaA zfm (zac 1) (zae))))))))
theorem zdJ:FnScope ["_law_pot_here","_law_sticks_many","_law_kinds_many","_law_letters","_law_strength","_law_first","_law_names","_law_sides","_law_kinds","_law_k","_law_sign"] ["_law_pot_here","_law_sticks_many","_law_kinds_many","_law_letters","_law_strength"] (zal (top 23)):=⟨rfl,rfl,rfl,by decide +kernel,rfl,by decide +kernel,by decide +kernel⟩
theorem zdR(L:Laid K mg "_law_great" (top 23) ["_law_pot_here","_law_sticks_many","_law_kinds_many","_law_letters","_law_strength"])(b_range:mg "range"=none)(b_tuple:mg "tuple"=none)(b_sorted:mg "sorted"=none)(h_q_law_next:za0 P w K mg base 1 "_law_next" 2 zau)(h_q_law_name:za0 P w K mg base 1 "_law_name" 2 zbl)(h_q_law_of:za0 P w K mg base 2 "_law_of" 2 zaw):za0 P w K mg base 3 "_law_great" 5 zav :=
 zbp (k:=2) L zdJ fun f cdv A outer s H E hr=>JSs.out (zaj (JS.mk (zbc (i:=5) zkJ rfl (by first | exact Ay rfl | exact Ax rfl) (zah h_q_law_next (hr.mono (by decide)) rfl (zaa (zac 0) (zaa (zae) (zaf))) (zak.cons (zak.cons zak.nil))))) (zaj (JS.mk (zfJ (i:=6) rfl rfl (za6 (N':=["_law_k","_law_first","_law_letters"]) (nt:=1) (fr:=[5,3]) ["_law_first","_law_letters"] rfl (by decide +kernel) (by decide +kernel) (by decide +kernel) rfl ⟨⟨rfl,by decide⟩,⟨⟨rfl,by decide⟩,trivial⟩⟩ ⟨by first | exact Ay rfl | exact Ax rfl,⟨by first | exact Ay rfl | exact Ax rfl,trivial⟩⟩) (zbP rfl b_range (zac 1)) (fun C s0 H0 fp=>zaV (i:=0) zoB rfl (by first | exact Ay rfl | exact Ax rfl)) (fun C s0 H0 fp=>zcx) (fun C s0 H0 fp=>zah h_q_law_name (hr.mono (by decide)) rfl (zaa (zaA zaY (zac 1) (zac 0)) (zaa (zac 2) (zaf))) (zak.cons (zak.cons zak.nil))) zkJ rfl rfl)) (zaj (JS.mk (zbc (i:=7) zkJ rfl (by first | exact Ay rfl | exact Ax rfl) (zaA zaY (zac 6) (zds (zaa (zdr) (zaf)))))) (zaj (JS.mk (zbc (i:=8) zkJ rfl (by first | exact Ay rfl | exact Ax rfl) (zds (zaf)))) (zaj (zhj B5 rfl (zbP rfl b_range (zac 2)) (zaV (i:=9) zkJ rfl (by first | exact Ay rfl | exact Ax rfl)) (zaj (JS.mk (zbc (i:=10) zkJ rfl (by first | exact Ay rfl | exact Ax rfl) (zaF (zbo hr) (zdr) (zaA zcK (zaA zaY (zac 5) (zac 9)) (zae))))) (zat (JS.mk (zi3 (zh4 (zac 8) (zaa (zaA zaY (zaK (zaa (zac 10) (zaf))) (za3 za1 rfl b_tuple zba (zaa (zbF rfl rfl (za6 (N':=["_law_side","_law_pot_here","_law_sides"]) (nt:=1) (fr:=[0,7]) ["_law_pot_here","_law_sides"] rfl (by decide +kernel) (by decide +kernel) (by decide +kernel) rfl ⟨⟨rfl,by decide⟩,⟨⟨rfl,by decide⟩,trivial⟩⟩ ⟨by first | exact Ay rfl | exact Ax rfl,⟨by first | exact Ay rfl | exact Ax rfl,trivial⟩⟩) (zbP rfl b_range (zae)) (fun C s0 H0 fp=>zaV (i:=0) zoA rfl (by first | exact Ay rfl | exact Ax rfl)) (fun C s0 H0 fp=>zcx) (fun C s0 H0 fp=>zah h_q_law_of (hr.mono (by decide)) rfl (zaa (zac 1) (zaa (zac 2) (zaf))) (zak.cons (zak.cons zak.nil)))) (zaf)))) (zaf)))))))) (zat (JS.mk (zaQ (zaK (zaa (zaA zaY (zae) (zah h_q_law_next (hr.mono (by decide)) rfl (zaa (zac 0) (zaa (zae) (zaf))) (zak.cons (zak.cons zak.nil)))) (zaa (za3 za1 rfl b_tuple zba (zaa (zbF rfl rfl (za6 (N':=["_law_name_here","_law_strength"]) (nt:=1) (fr:=[4]) ["_law_strength"] rfl (by decide +kernel) (by decide +kernel) (by decide +kernel) rfl ⟨⟨rfl,by decide⟩,trivial⟩ ⟨by first | exact Ay rfl | exact Ax rfl,trivial⟩) (zbg (zaG ze5 rfl b_sorted ziR (zaa (zac 6) (zaf)))) (fun C s0 H0 fp=>zaV (i:=0) zoz rfl (by first | exact Ay rfl | exact Ax rfl)) (fun C s0 H0 fp=>zcx) (fun C s0 H0 fp=>zaK (zaa (zac 0) (zaa (zac 1) (zaf))))) (zaf))) (zaa (za3 za1 rfl b_tuple zba (zaa (zac 8) (zaf))) (zaf)))))))))))))
theorem zbU:FnScope ["_law_pot_here","_law_letters","_law_strength","_law_due","_law_house"] ["_law_pot_here"] (zal (top 24)):=⟨rfl,rfl,rfl,by decide +kernel,rfl,by decide +kernel,by decide +kernel⟩
theorem zbV(L:Laid K mg "_law_houses_right" (top 24) ["_law_pot_here"])(b_len:mg "len"=none)(h_q_law_of:za0 P w K mg base 2 "_law_of" 2 zaw)(h_q_law_great:za0 P w K mg base 3 "_law_great" 5 zav)(h_is_house:za0 P w K mg base 4 "is_house" 1 zai):za0 P w K mg base 5 "_law_houses_right" 1 zaN :=
 zbp (k := 4) L zbU fun f cdv A outer s H E hr=>by
   refine JSs.out ?_;refine zaj ?_ ?_
   . refine zhj B5 rfl ?_ ?_ ?_
     . refine zbg ?_;refine zaK ?_;refine JA.out ?_;refine zaC ?_ ?_
       . refine zaK ?_;refine zaa (zae) ?_;exact zaa (zae) (zaa (zb3) (zaf))
       . refine zaC ?_ ?_
         . refine zaK ?_;refine zaa (zae) ?_;exact zaa (zae) (zaa (zb3) (zaf))
         . refine zaC ?_ ?_
           . refine zaK ?_;refine zaa (zae) ?_;exact zaa (zae) (zaa (zb3) (zaf))
           . refine zaC ?_ ?_
             . refine zaK ?_;refine zaa (zae) ?_;exact zaa (zae) (zaa (zb3) (zaf))
             . refine zaC ?_ (zf8);refine zaK ?_;refine zaa (zae) ?_;exact zaa (zae) (zaa (zb3) (zaf))
     . refine zjG rfl ?_;refine zb2 ?_ ?_
       . exact zaV (i:=1) zml rfl (by first | exact Ay rfl | exact Ax rfl)
       . refine zb2 ?_ ?_
         . exact zaV (i:=2) zml rfl (by first | exact Ay rfl | exact Ax rfl)
         . refine zb2 ?_ (zgC);exact zaV (i:=3) zml rfl (by first | exact Ay rfl | exact Ax rfl)
     . refine zaj ?_ ?_
       . refine JS.mk ?_;refine zbc (i:=4) zml rfl (by first | exact Ay rfl | exact Ax rfl) ?_;refine zah h_q_law_great (hr.mono (by decide)) rfl ?_ (zak.cons (zak.cons (zak.cons (zak.cons (zak.cons zak.nil)))));refine JA.out ?_;refine zaC (zac 0) ?_;refine zaC ?_ ?_
         . refine zah h_q_law_of (hr.mono (by decide)) rfl ?_ (zak.cons (zak.cons zak.nil));refine zaa (zac 0) ?_;refine zaa ?_ (zaf);refine zds ?_;refine zaa (zae) ?_;exact zaa (zae) (zaa (zae) (zaf))
         . refine zaC ?_ ?_
           . refine zah h_q_law_of (hr.mono (by decide)) rfl ?_ (zak.cons (zak.cons zak.nil));refine zaa (zac 0) ?_;refine zaa ?_ (zaf);refine zds ?_;refine zaa (zae) ?_;exact zaa (zae) (zaa (zae) (zaf))
           . exact zaC (zac 1) (zaC (zac 2) (zf8))
       . refine zaj ?_ ?_
         . refine ze1 ?_ ?_ (zbj)
           . refine zc5 (zfX (zby hr)) ?_ (zac 3) rfl;refine zah h_is_house (hr.mono (by decide)) rfl ?_ (zak.cons zak.nil);exact zaa (zac 4) (zaf)
           . exact zat (JS.mk (zaQ (zb3)))
         . refine zaj ?_ ?_
           . refine ze1 ?_ ?_ (zbj)
             . refine SW.sb ?_;refine zfF ?_ ?_
               . refine zd7 ?_;refine zah h_is_house (hr.mono (by decide)) rfl ?_ (zak.cons zak.nil);refine zaa ?_ (zaf);refine zaA zaY ?_ ?_
                 . exact zaK (zaa (zae) (zaf))
                 . exact zaR (zac 4) (zbw (zae)) (zbx)
               . refine zfF ?_ ?_
                 . refine zd7 ?_;refine zah h_is_house (hr.mono (by decide)) rfl ?_ (zak.cons zak.nil);refine zaa ?_ (zaf);refine zaA zaY ?_ ?_
                   . exact zaK (zaa (zae) (zaf))
                   . exact zaR (zac 4) (zbw (zae)) (zbx)
                 . refine zdq ?_;refine zd7 ?_;refine zah h_is_house (hr.mono (by decide)) rfl ?_ (zak.cons zak.nil);refine zaa ?_ (zaf);refine zaA zaY ?_ ?_
                   . exact zaR (zac 4) (zbx) (zbw (zae))
                   . exact zaK (zaa (zaK (zaf)) (zaf))
             . exact zat (JS.mk (zaQ (zb3)))
           . refine zaj ?_ ?_
             . refine ze1 ?_ ?_ (zbj)
               . refine SW.sb ?_;refine zfF ?_ ?_
                 . refine zc5 (zfX (zby hr)) ?_ (zac 3) rfl;refine zah h_is_house (hr.mono (by decide)) rfl ?_ (zak.cons zak.nil);refine zaa ?_ (zaf);refine zaA zaY ?_ ?_
                   . exact zaK (zaa (zae) (zaf))
                   . exact zaR (zac 4) (zbw (zae)) (zbx)
                 . refine zdq ?_;refine zc5 (zfX (zby hr)) ?_ (zac 3) rfl;refine zah h_is_house (hr.mono (by decide)) rfl ?_ (zak.cons zak.nil);refine zaa ?_ (zaf);refine zaA zaY ?_ ?_
                   . exact zaK (zaa (zae) (zaf))
                   . exact zaR (zac 4) (zbw (zae)) (zbx)
               . exact zat (JS.mk (zaQ (zb3)))
             . refine zat ?_;refine ze1 ?_ ?_ (zbj)
               . refine SW.sb ?_;refine zfF ?_ ?_
                 . refine zc5 zjZ ?_ (zb3) rfl;refine zah h_is_house (hr.mono (by decide)) rfl ?_ (zak.cons zak.nil);refine zaa ?_ (zaf);refine zaK ?_;refine zaa (zae) ?_;refine zaa (zaK (zaf)) ?_;refine zaa ?_ (zaf);refine zaK ?_;refine zaa ?_ (zaf);refine zaK ?_;refine JA.out ?_;refine zaC (zdr) ?_;refine zaC (zdr) ?_;refine zaC (zdr) ?_;exact zaC (zdr) (zaC (zdr) (zf8))
                 . refine zdq ?_;refine SW.sb ?_;refine zmz ?_ ?_
                   . refine zc5 zlC ?_ (zae) rfl;refine zaG za4 rfl b_len zdh ?_;exact zaa (zaF (zbo hr) (zac 4) (zae)) (zaf)
                   . refine zkT ?_;refine zd7 ?_;refine zah h_is_house (hr.mono (by decide)) rfl ?_ (zak.cons zak.nil);refine zaa ?_ (zaf);refine zaK ?_;refine zaa (zae) ?_;refine zaa ?_ ?_
                     . refine zk7 ?_ (zjI (zae));exact zaF (zbo hr) (zac 4) (zae)
                     . exact zaa (zaF (zbo hr) (zac 4) (zae)) (zaf)
               . exact zat (JS.mk (zaQ (zb3)))
   . exact zat (JS.mk (zaQ (zb3)))
theorem zch:FnScope ["_law_pot_here","_law_house","_law_floor","_law_due","_law_tiles","_law_x","_law_bed","_law_last","_law_more","_law_told"] ["_law_pot_here"] (zal (top 25)):=⟨rfl,rfl,rfl,by decide +kernel,rfl,by decide +kernel,by decide +kernel⟩
theorem zci(L:Laid K mg "_law_beds_right" (top 25) ["_law_pot_here"])(b_range:mg "range"=none)(b_len:mg "len"=none)(b_tuple:mg "tuple"=none)(h_q_law_of:za0 P w K mg base 2 "_law_of" 2 zaw)(h_q_law_great:za0 P w K mg base 3 "_law_great" 5 zav)(h_q_law_next:za0 P w K mg base 1 "_law_next" 2 zau)(h_is_bed:za0 P w K mg base 5 "is_bed" 1 zbD)(h_is_standing:za0 P w K mg base 4 "is_standing" 2 zas):za0 P w K mg base 6 "_law_beds_right" 1 zaU :=
 zbp (k := 5) L zch fun f cdv A outer s H E hr=>by
   refine JSs.out ?_;refine zaj ?_ ?_
   . refine JS.mk ?_;refine zbc (i:=1) zhL rfl (by first | exact Ay rfl | exact Ax rfl) ?_;refine zah h_q_law_great (hr.mono (by decide)) rfl ?_ (zak.cons (zak.cons (zak.cons (zak.cons (zak.cons zak.nil)))));refine JA.out ?_;refine zaC (zac 0) ?_;refine zaC (zae) ?_;refine zaC ?_ ?_
     . refine zah h_q_law_of (hr.mono (by decide)) rfl ?_ (zak.cons (zak.cons zak.nil));refine zaa (zac 0) ?_;refine zaa ?_ (zaf);refine zds ?_;refine zaa (zae) ?_;exact zaa (zae) (zaa (zae) (zaf))
     . exact zaC (zae) (zaC (zae) (zf8))
   . refine zaj ?_ ?_
     . refine zhj B5 rfl ?_ ?_ ?_
       . refine zbg ?_;refine zaK ?_;refine JA.out ?_;refine zaC ?_ ?_
         . refine zaK ?_;refine zaa ?_ (zaa (zb3) (zaf));exact zaK (zaa (zae) (zaa (zae) (zaf)))
         . refine zaC ?_ ?_
           . refine zaK ?_;refine zaa ?_ (zaa (zb3) (zaf));exact zaK (zaa (zae) (zaa (zae) (zaf)))
           . refine zaC ?_ ?_
             . refine zaK ?_;refine zaa ?_ (zaa (zb3) (zaf));exact zaK (zaa (zae) (zaa (zae) (zaf)))
             . refine zaC ?_ ?_
               . refine zaK ?_;refine zaa ?_ (zaa (zb3) (zaf));exact zaK (zaa (zae) (zaa (zae) (zaf)))
               . refine zaC ?_ (zf8);refine zaK ?_;refine zaa ?_ (zaa (zb3) (zaf));exact zaK (zaa (zae) (zaa (zae) (zaf)))
       . refine zjG rfl ?_;refine zb2 ?_ ?_
         . exact zaV (i:=2) zhL rfl (by first | exact Ay rfl | exact Ax rfl)
         . refine zb2 ?_ (zgC);exact zaV (i:=3) zhL rfl (by first | exact Ay rfl | exact Ax rfl)
       . refine zaj ?_ ?_
         . refine JS.mk ?_;exact zbc (i:=4) zhL rfl (by first | exact Ay rfl | exact Ax rfl) (zds (zaf))
         . refine zaj ?_ ?_
           . refine zhj B5 rfl ?_ ?_ ?_
             . refine zbP rfl b_range ?_;exact zaF (zbo hr) (zac 2) (zae)
             . exact zaV (i:=5) zhL rfl (by first | exact Ay rfl | exact Ax rfl)
             . refine zat ?_;refine JS.mk ?_;refine zi3 ?_;refine zh3 (zac 4) ?_;refine zaa ?_ (zaf);refine zbF rfl rfl (za6 (N':=["_law_y","_law_x","_law_pot_here","_law_house"]) (nt:=1) (fr:=[5,0,1]) ["_law_x","_law_pot_here","_law_house"] rfl (by decide +kernel) (by decide +kernel) (by decide +kernel) rfl ⟨⟨rfl,by decide⟩,⟨⟨rfl,by decide⟩,⟨⟨rfl,by decide⟩,trivial⟩⟩⟩ ⟨by first | exact Ay rfl | exact Ax rfl,⟨by first | exact Ay rfl | exact Ax rfl,⟨by first | exact Ay rfl | exact Ax rfl,trivial⟩⟩⟩) ?_ (fun C s0 H0 fp=>zaV (i:=0) zoy rfl (by first | exact Ay rfl | exact Ax rfl)) (fun C s0 H0 fp=>zcx) (fun C s0 H0 fp=>zaK (zaa (zac 1) (zaa (zac 0) (zaa (zah h_q_law_next (hr.mono (by decide)) rfl (zaa (zac 2) (zaa (zaG za4 rfl b_len zdh (zaa (zaF (zbo hr) (zac 3) (zae)) (zaf))) (zaf))) (zak.cons (zak.cons zak.nil))) (zaf)))));refine zbP rfl b_range ?_;exact zaF (zbo hr) (zac 2) (zae)
           . refine zaj ?_ ?_
             . refine ze1 ?_ ?_ (zbj)
               . refine SW.sb ?_;refine zfF ?_ ?_
                 . refine zc5 (zfX (zby hr)) ?_ (zac 3) rfl;refine zah h_is_bed (hr.mono (by decide)) rfl ?_ (zak.cons zak.nil);refine zaa ?_ (zaf);refine zaK ?_;refine zaa (zac 1) ?_;refine zaa (zac 2) ?_;refine zaa ?_ (zaf);refine za3 za1 rfl b_tuple zba ?_;exact zaa (zac 4) (zaf)
                 . refine zdq ?_;refine zc5 (zfX (zby hr)) ?_ (zac 3) rfl;refine zah h_is_bed (hr.mono (by decide)) rfl ?_ (zak.cons zak.nil);refine zaa ?_ (zaf);refine zaK ?_;refine zaa (zac 1) ?_;exact zaa (zac 2) (zaa (zaK (zaf)) (zaf))
               . exact zat (JS.mk (zaQ (zb3)))
             . refine zat ?_;refine ze1 (zd7 (zac 3)) ?_ (zbj);refine zaj ?_ ?_
               . refine JS.mk ?_;refine zbc (i:=6) zhL rfl (by first | exact Ay rfl | exact Ax rfl) ?_;refine zaK ?_;refine zaa (zac 1) ?_;refine zaa (zac 2) ?_;refine zaa ?_ (zaf);refine za3 za1 rfl b_tuple zba ?_;refine zaa ?_ (zaf);exact zaR (zac 4) (zbx) (zbw (zae))
               . refine zaj ?_ ?_
                 . refine JS.mk ?_;refine zbc (i:=7) zhL rfl (by first | exact Ay rfl | exact Ax rfl) ?_;exact zaF (zbo hr) (zac 4) (zjI (zae))
                 . refine zaj ?_ ?_
                   . refine JS.mk ?_;refine zbc (i:=8) zhL rfl (by first | exact Ay rfl | exact Ax rfl) ?_;refine zds ?_;refine zaa ?_ ?_
                     . refine zaA zaY ?_ ?_
                       . exact zaR (zac 7) (zbx) (zbw (zae))
                       . refine zaK ?_;refine zaa ?_ (zaf);refine zaG za4 rfl b_len zdh ?_;exact zaa (zaF (zbo hr) (zac 1) (zae)) (zaf)
                     . refine zaa ?_ ?_
                       . refine zaK ?_;refine zaa ?_ ?_
                         . refine zaA zaY ?_ (zae);exact zaF (zbo hr) (zac 7) (zae)
                         . refine zaa ?_ (zaa (zae) (zaf));exact zaF (zbo hr) (zac 7) (zae)
                       . refine zaa ?_ (zaf);refine zaK ?_;refine zaa ?_ ?_
                         . exact zaF (zbo hr) (zac 7) (zae)
                         . refine zaa ?_ (zaa (zae) (zaf));refine zaA zaY ?_ (zae);exact zaF (zbo hr) (zac 7) (zae)
                   . refine zaj ?_ ?_
                     . refine JS.mk ?_;refine zbc (i:=9) zhL rfl (by first | exact Ay rfl | exact Ax rfl) ?_;refine zds ?_;refine zaa ?_ ?_
                       . refine zah h_is_standing (hr.mono (by decide)) rfl ?_ (zak.cons (zak.cons zak.nil));refine zaa (zac 6) ?_;refine zaa ?_ (zaf);refine za3 za1 rfl b_tuple zba ?_;exact zaa (zac 4) (zaf)
                       . refine zaa ?_ (zaf);refine zah h_is_standing (hr.mono (by decide)) rfl ?_ (zak.cons (zak.cons zak.nil));refine zaa (zac 6) ?_;refine zaa ?_ (zaf);refine za3 za1 rfl b_tuple zba ?_;refine zaa ?_ (zaf);exact zaR (zac 4) (zbw (zae)) (zbx)
                     . refine zaj ?_ ?_
                       . refine JS.mk ?_;refine zbc (i:=9) zhL rfl (by first | exact Ay rfl | exact Ax rfl) ?_;refine zaA zaY (zac 9) ?_;exact zbF rfl rfl (za6 (N':=["_law_one","_law_bed","_law_tiles"]) (nt:=1) (fr:=[6,4]) ["_law_bed","_law_tiles"] rfl (by decide +kernel) (by decide +kernel) (by decide +kernel) rfl ⟨⟨rfl,by decide⟩,⟨⟨rfl,by decide⟩,trivial⟩⟩ ⟨by first | exact Ay rfl | exact Ax rfl,⟨by first | exact Ay rfl | exact Ax rfl,trivial⟩⟩) (zbg (zac 8)) (fun C s0 H0 fp=>zaV (i:=0) zox rfl (by first | exact Ay rfl | exact Ax rfl)) (fun C s0 H0 fp=>zcx) (fun C s0 H0 fp=>zah h_is_standing (hr.mono (by decide)) rfl (zaa (zac 1) (zaa (zaA zlE (za3 za1 rfl b_tuple zba (zaa (zh1 (zac 2) (zbx) (zbw (zjI (zae)))) (zaf))) (zaK (zaa (zac 0) (zaf)))) (zaf))) (zak.cons (zak.cons zak.nil)))
                       . refine zat ?_;refine ze1 ?_ ?_ (zbj)
                         . refine zc5 (zfX (zby hr)) (zac 9) ?_ rfl;refine zds ?_;refine JA.out ?_;refine zaC (zb3) ?_;refine zaC (zb3) ?_;refine zaC (zb3) ?_;exact zaC (zb3) (zaC (zb3) (zf8))
                         . exact zat (JS.mk (zaQ (zb3)))
     . exact zat (JS.mk (zaQ (zb3)))
theorem zmM:FnScope ["_law_script","_law_k","_law_pot_here"] ["_law_script"] (zal (top 26)):=⟨rfl,rfl,rfl,by decide +kernel,rfl,by decide +kernel,by decide +kernel⟩
theorem znB{f:Addr}{fd:FuncData}(F:Fun K "law" "law" (top 26) f fd)(b_len:mg "len"=none)(b_min:mg "min"=none)(b_max:mg "max"=none)(b_range:mg "range"=none)(h_q_law_pot:za0 P w K mg base 1 "_law_pot" 2 zbS)(h_q_law_houses_right:za0 P w K mg base 5 "_law_houses_right" 1 zaN)(h_q_law_beds_right:za0 P w K mg base 6 "_law_beds_right" 1 zaU):FnOk P w K mg base CX0 7 f fd ["_law_script"] (spM K 1 zkF) :=
 fn_m (k:=6) F zmM fun cdv A outer s H E hr=>JSs.out (zaj (zhj B5 rfl (zbP rfl b_range (zaG (ziO rfl) rfl b_max znJ (zaa (zae) (zaa (zaG (ziM rfl) rfl b_min znI (zaa (zaG za4 rfl b_len zdh (zaa (zac 0) (zaf))) (zaa (zae) (zaf)))) (zaf))))) (zaV (i:=1) znS rfl (by first | exact Ay rfl | exact Ax rfl)) (zaj (JS.mk (zbc (i:=2) znS rfl (by first | exact Ay rfl | exact Ax rfl) (zah h_q_law_pot (hr.mono (by decide)) rfl (zaa (zac 0) (zaa (zac 1) (zaf))) (zak.cons (zak.cons zak.nil))))) (zat (ze1 (SW.sb (zfF (zcy (zd7 (zah h_q_law_houses_right (hr.mono (by decide)) rfl (zaa (zac 2) (zaf)) (zak.cons zak.nil)))) (zdq (zcy (zd7 (zah h_q_law_beds_right (hr.mono (by decide)) rfl (zaa (zac 2) (zaf)) (zak.cons zak.nil))))))) (zat (JS.mk (zaQ (zb3)))) (zbj))))) (zat (JS.mk (zaQ (zb3)))))
end
theorem znL{P:Program}{w:World}{K:Ab}{mg:Str->Option Value}{base:Heap}{f:Addr}{fd:FuncData}(b_isinstance:mg "isinstance"=none)(b_int:mg "int"=none)(b_bool:mg "bool"=none)(b_tuple:mg "tuple"=none)(b_len:mg "len"=none)(b_zip:mg "zip"=none)(b_all:mg "all"=none)(b_str:mg "str"=none)(b_dict:mg "dict"=none)(b_abs:mg "abs"=none)(b_range:mg "range"=none)(b_sorted:mg "sorted"=none)(b_min:mg "min"=none)(b_max:mg "max"=none){t_LETTERS:Tok}(g_LETTERS:mg "LETTERS"=some (.str "abcdefghijklmnopqrstuvwxyz" t_LETTERS)){t_FACE_SIGNS:Tok}(g_FACE_SIGNS:mg "FACE_SIGNS"=some (.str "abcdefghijklmnopqrstuvwxyz0123456789" t_FACE_SIGNS))(L_is_whole:Laid K mg "is_whole" (top 3) ["thing","least","most"])(L_is_tuple:Laid K mg "is_tuple" (top 4) ["thing","size"])(L_rises:Laid K mg "rises" (top 5) ["parts"])(L_is_name:Laid K mg "is_name" (top 6) ["thing"])(L_is_stick:Laid K mg "is_stick" (top 7) ["thing"])(L_are_sticks:Laid K mg "are_sticks" (top 8) ["thing"])(L_is_face:Laid K mg "is_face" (top 9) ["thing"])(L_is_side:Laid K mg "is_side" (top 10) ["thing","names"])(L_is_kind:Laid K mg "is_kind" (top 11) ["thing","names"])(L_is_house:Laid K mg "is_house" (top 12) ["thing"])(L_is_floor:Laid K mg "is_floor" (top 13) ["thing"])(L_is_place:Laid K mg "is_place" (top 14) ["bed","thing"])(L_is_tile:Laid K mg "is_tile" (top 15) ["bed","thing"])(L_is_standing:Laid K mg "is_standing" (top 16) ["bed","thing"])(L_is_bed:Laid K mg "is_bed" (top 17) ["thing"])(L_q_law_pot:Laid K mg "_law_pot" (top 19) ["_law_script","_law_k"])(L_q_law_next:Laid K mg "_law_next" (top 20) ["_law_pot_here","_law_many"])(L_q_law_of:Laid K mg "_law_of" (top 21) ["_law_pot_here","_law_some"])(L_q_law_name:Laid K mg "_law_name" (top 22) ["_law_number","_law_many"])(L_q_law_great:Laid K mg "_law_great" (top 23) ["_law_pot_here","_law_sticks_many","_law_kinds_many","_law_letters","_law_strength"])(L_q_law_houses_right:Laid K mg "_law_houses_right" (top 24) ["_law_pot_here"])(L_q_law_beds_right:Laid K mg "_law_beds_right" (top 25) ["_law_pot_here"])(F:Fun K "law" "law" (top 26) f fd):FnOk P w K mg base CX0 7 f fd ["_law_script"] (spM K 1 zkF):=by
 have h_is_whole:=zfZ (P:=P) (w:=w) (base:=base) L_is_whole  b_isinstance b_int b_bool;have h_is_tuple:=zf0 (P:=P) (w:=w) (base:=base) L_is_tuple  b_isinstance b_tuple b_len;have h_rises:=zj4 (P:=P) (w:=w) (base:=base) L_rises  b_zip b_all;have h_is_name:=zg1 (P:=P) (w:=w) (base:=base) L_is_name  b_isinstance b_str b_len b_all g_LETTERS;have h_is_stick:=zf1 (P:=P) (w:=w) (base:=base) L_is_stick    h_is_tuple h_is_name h_is_whole;have h_are_sticks:=zel (P:=P) (w:=w) (base:=base) L_are_sticks  b_isinstance b_tuple b_all  h_is_stick h_rises;have h_is_face:=zg3 (P:=P) (w:=w) (base:=base) L_is_face  b_isinstance b_str b_len g_FACE_SIGNS;have h_is_side:=zg0 (P:=P) (w:=w) (base:=base) L_is_side  b_isinstance b_str;have h_is_kind:=zg2 (P:=P) (w:=w) (base:=base) L_is_kind  b_all  h_is_tuple h_is_face h_is_side;have h_is_house:=zf3 (P:=P) (w:=w) (base:=base) L_is_house  b_isinstance b_tuple b_len b_dict b_all  h_is_tuple h_is_whole h_are_sticks h_is_kind;have h_is_floor:=zf4 (P:=P) (w:=w) (base:=base) L_is_floor    h_is_tuple h_is_whole;have h_is_place:=zf2 (P:=P) (w:=w) (base:=base) L_is_place    h_is_tuple h_is_whole;have h_is_tile:=zgZ (P:=P) (w:=w) (base:=base) L_is_tile  b_len  h_is_tuple h_is_place h_is_whole;have h_is_standing:=zdS (P:=P) (w:=w) (base:=base) L_is_standing  b_isinstance b_tuple b_all  h_is_tile h_rises;have h_is_bed:=zif (P:=P) (w:=w) (base:=base) L_is_bed    h_is_tuple h_is_house h_is_floor h_is_standing;have h_q_law_pot:=zeV (P:=P) (w:=w) (base:=base) L_q_law_pot  b_len b_abs b_int;have h_q_law_next:=zej (P:=P) (w:=w) (base:=base) L_q_law_next;have h_q_law_of:=zfY (P:=P) (w:=w) (base:=base) L_q_law_of  b_len  h_q_law_next;have h_q_law_name:=zek (P:=P) (w:=w) (base:=base) L_q_law_name;have h_q_law_great:=zdR (P:=P) (w:=w) (base:=base) L_q_law_great  b_range b_tuple b_sorted  h_q_law_next h_q_law_name h_q_law_of;have h_q_law_houses_right:=zbV (P:=P) (w:=w) (base:=base) L_q_law_houses_right  b_len  h_q_law_of h_q_law_great h_is_house;have h_q_law_beds_right:=zci (P:=P) (w:=w) (base:=base) L_q_law_beds_right  b_range b_len b_tuple  h_q_law_of h_q_law_great h_q_law_next h_is_bed h_is_standing;exact znB F b_len b_min b_max b_range h_q_law_pot h_q_law_houses_right h_q_law_beds_right
theorem all_mk{l:Dp}{w:World}{K:Ab}{h:Heap}{mg:Str->Option Value}{fa:Addr}(X:K.In h)(G:h.Ns mainGlobals mg)(hfa:mg "law"=some (.ref fa)){f0 f1 f2 f3 f4 f5 f6 f7 f8 f9 f10 f11 f12 f13 f14 f15 f16 f17 f18 f19 f20 f21 f22:Addr}
   (a0:FdIn K "is_whole" (top 3) f0)
   (a1:FdIn K "is_tuple" (top 4) f1)
   (a2:FdIn K "rises" (top 5) f2)
   (a3:FdIn K "is_name" (top 6) f3)
   (a4:FdIn K "is_stick" (top 7) f4)
   (a5:FdIn K "are_sticks" (top 8) f5)
   (a6:FdIn K "is_face" (top 9) f6)
   (a7:FdIn K "is_side" (top 10) f7)
   (a8:FdIn K "is_kind" (top 11) f8)
   (a9:FdIn K "is_house" (top 12) f9)
   (a10:FdIn K "is_floor" (top 13) f10)
   (a11:FdIn K "is_place" (top 14) f11)
   (a12:FdIn K "is_tile" (top 15) f12)
   (a13:FdIn K "is_standing" (top 16) f13)
   (a14:FdIn K "is_bed" (top 17) f14)
   (a15:FdIn K "_law_pot" (top 19) f15)
   (a16:FdIn K "_law_next" (top 20) f16)
   (a17:FdIn K "_law_of" (top 21) f17)
   (a18:FdIn K "_law_name" (top 22) f18)
   (a19:FdIn K "_law_great" (top 23) f19)
   (a20:FdIn K "_law_houses_right" (top 24) f20)
   (a21:FdIn K "_law_beds_right" (top 25) f21)
   (a22:FdIn K "law" (top 26) f22)
   (z0:AQ K mainGlobals "isinstance"=some none)
   (z1:AQ K mainGlobals "int"=some none)
   (z2:AQ K mainGlobals "bool"=some none)
   (z3:AQ K mainGlobals "tuple"=some none)
   (z4:AQ K mainGlobals "len"=some none)
   (z5:AQ K mainGlobals "zip"=some none)
   (z6:AQ K mainGlobals "all"=some none)
   (z7:AQ K mainGlobals "str"=some none)
   (z8:AQ K mainGlobals "dict"=some none)
   (z9:AQ K mainGlobals "abs"=some none)
   (z10:AQ K mainGlobals "range"=some none)
   (z11:AQ K mainGlobals "sorted"=some none)
   (z12:AQ K mainGlobals "min"=some none)
   (z13:AQ K mainGlobals "max"=some none)
   {tg0:Tok} (y0:AQ K mainGlobals "LETTERS"=some (some (.str "abcdefghijklmnopqrstuvwxyz" tg0)))
   {tg1:Tok} (y1:AQ K mainGlobals "FACE_SIGNS"=some (some (.str "abcdefghijklmnopqrstuvwxyz0123456789" tg1))) :
   ∃ fd:FuncData,(∀ (s:Shared) (v:Value),BindsTo s fd ⟨[v],[]⟩ [("_law_script",v)])/\∀ base:Heap,K.In base->base.Ns mainGlobals mg->FnOk l.prog w K mg base CX0 7 fa fd ["_law_script"] (spM K 1 zkF):=by
 obtain⟨⟨oc,od,kV,dc,pm,an,cd,ct,sl,l,c⟩,n,k⟩:=a22;have e:=hfa.symm.trans (CU X G n);cases e;exact⟨_,fun s v=>.of_eq rfl,fun base _ _=>znL (AF X G z0) (AF X G z1) (AF X G z2) (AF X G z3) (AF X G z4) (AF X G z5) (AF X G z6) (AF X G z7) (AF X G z8) (AF X G z9) (AF X G z10) (AF X G z11) (AF X G z12) (AF X G z13) (CU X G y0) (CU X G y1)
   (zaW (ps:=["thing","least","most"]) a0 X G fun _ _ _ _ _ _=>len3 fun _ _ _=>rfl)
   (zaW (ps:=["thing","size"]) a1 X G fun _ _ _ _ _ _=>len2 fun _ _=>rfl)
   (zaW (ps:=["parts"]) a2 X G fun _ _ _ _ _ _=>len1 fun _=>rfl)
   (zaW (ps:=["thing"]) a3 X G fun _ _ _ _ _ _=>len1 fun _=>rfl)
   (zaW (ps:=["thing"]) a4 X G fun _ _ _ _ _ _=>len1 fun _=>rfl)
   (zaW (ps:=["thing"]) a5 X G fun _ _ _ _ _ _=>len1 fun _=>rfl)
   (zaW (ps:=["thing"]) a6 X G fun _ _ _ _ _ _=>len1 fun _=>rfl)
   (zaW (ps:=["thing","names"]) a7 X G fun _ _ _ _ _ _=>len2 fun _ _=>rfl)
   (zaW (ps:=["thing","names"]) a8 X G fun _ _ _ _ _ _=>len2 fun _ _=>rfl)
   (zaW (ps:=["thing"]) a9 X G fun _ _ _ _ _ _=>len1 fun _=>rfl)
   (zaW (ps:=["thing"]) a10 X G fun _ _ _ _ _ _=>len1 fun _=>rfl)
   (zaW (ps:=["bed","thing"]) a11 X G fun _ _ _ _ _ _=>len2 fun _ _=>rfl)
   (zaW (ps:=["bed","thing"]) a12 X G fun _ _ _ _ _ _=>len2 fun _ _=>rfl)
   (zaW (ps:=["bed","thing"]) a13 X G fun _ _ _ _ _ _=>len2 fun _ _=>rfl)
   (zaW (ps:=["thing"]) a14 X G fun _ _ _ _ _ _=>len1 fun _=>rfl)
   (zaW (ps:=["_law_script","_law_k"]) a15 X G fun _ _ _ _ _ _=>len2 fun _ _=>rfl)
   (zaW (ps:=["_law_pot_here","_law_many"]) a16 X G fun _ _ _ _ _ _=>len2 fun _ _=>rfl)
   (zaW (ps:=["_law_pot_here","_law_some"]) a17 X G fun _ _ _ _ _ _=>len2 fun _ _=>rfl)
   (zaW (ps:=["_law_number","_law_many"]) a18 X G fun _ _ _ _ _ _=>len2 fun _ _=>rfl)
   (zaW (ps:=["_law_pot_here","_law_sticks_many","_law_kinds_many","_law_letters","_law_strength"]) a19 X G fun _ _ _ _ _ _=>len5 fun _ _ _ _ _=>rfl)
   (zaW (ps:=["_law_pot_here"]) a20 X G fun _ _ _ _ _ _=>len1 fun _=>rfl)
   (zaW (ps:=["_law_pot_here"]) a21 X G fun _ _ _ _ _ _=>len1 fun _=>rfl)
   (zkj (st:=top 26) l c k)⟩
end L2.MP.stickytiles_k09_houses_and_beds_at_their
namespace L2.MP.stickytiles_k09_houses_and_beds_at_their
open PySem L2.MP
open L2.MP.Hn
open L2.MP.Hd (stD zbs)
noncomputable def wh(x lo hi:Int):Bool:=decide (lo<=x)&&decide (x<=hi)
theorem zhk{x:Int}{st:Sto}:tyName st (.int x)=some "int":=rfl
theorem zju:subT "int" "int"=true:=by decide
theorem zjv:subT "int" "bool"=false:=by decide
theorem zfG:subT "str" "str"=true:=by decide
theorem sub_tt:subT "tuple" "tuple"=true:=by decide
theorem zbZ{x lo hi:Int}{st:Sto}:zaB [.int x,.int lo,.int hi] st=some (.bl (wh x lo hi),st):=by
 refine zcc ?_;unfold zeE wh
 by_cases h1:lo<=x
 . by_cases h2:x<=hi
   . simp[zc8,zhk,zju,zjv,h1,h2]
   . simp[zc8,zhk,zju,zjv,h1,h2]
 . simp[zc8,zhk,zju,zjv,h1]
theorem zb0{ds:List D}{N:Int}{st:Sto}:zam [.tup ds,.int N] st=some (.bl ((ds.length:Int)==N),st):=by
 refine zcc ?_;have t1:tyName st (.tup ds)=some "tuple":=rfl;unfold zeF;simp[t1,sub_tt,zdB,eq_int]
noncomputable def LET:Str:="abcdefghijklmnopqrstuvwxyz"
noncomputable def FAC:Str:="abcdefghijklmnopqrstuvwxyz0123456789"
theorem zkf{a b:Str}{st:Sto}:inA (.str a) (.str b) st=some (.bl (!(Bc b a 0 b.length 1).isEmpty),st):=by
 have e:inD false (.str a) (.str b) st=none:=by
   unfold inD
   cases h1:toP 50 st (.str a) with
   | none=>rfl
   | some p =>
     cases h2:toP 50 st (.str b) with
     | none=>rfl
     | some q =>
       have:q=.str b:=by
         rw[toP] at h2
         split at h2
         . cases h2;rfl
         . cases h2
       subst this;rfl
 unfold inA orG;rw[e,zeg];rfl
theorem zlV:∀ k:Nat,k < 26->(Bc LET ⟨#[97+k]⟩ 0 LET.length 1).isEmpty=false:=by decide +kernel
theorem zny{c:Nat}{st:Sto}(h:97<=c/\c<=122):inA (.str ⟨#[c]⟩) (.str LET) st=some (.bl true,st):=by
 obtain⟨k,rfl⟩:=Nat.le.dest h.1;rw[zkf,zlV k (by omega)];rfl
noncomputable def fac(k:Nat):Nat:=FAC.cps.getD k 0
theorem zl7:∀ k:Nat,k < 36->(Bc FAC ⟨#[fac k]⟩ 0 FAC.length 1).isEmpty=false:=by decide +kernel
theorem zko:(Bc FAC ("":Str) 0 FAC.length 1).isEmpty=false:=by decide +kernel
theorem zjl{α:Type}(f:α->Bool):∀ as:List α,zkB (as.map fun a=>D.bl (f a))=some (as.map f)
 | []=>rfl
 | a::as=>by
   show (zkB (as.map fun a=>D.bl (f a))).map _=_;rw[zjl f as];rfl
theorem zmh{α:Type}{f:α->Bool}{as:List α}{n:Nat}{st:Sto}(h:st[n]?=some (.lst (as.map fun a=>D.bl (f a)))):allC [.ref n] st=some (.bl (as.all f),st):=by
 unfold allC;simp only[zbf,h,Ae,zjl,Au,List.all_map];rfl
theorem zdl{α:Type}{mi:MI}{f:α->D}{b:α->Bool}{as:List α}{fr:List Nat}{m:ME}{ρ0 ρ:Rho}{st:Sto}{gd:List (Nat×List D)}(hw:mi ρ st=some (⟨as.map f,gd⟩,st))(hg:∀ s,Gr st s->walked ⟨as.map f,gd⟩ s=true)(hρ:rho0 ρ 1 fr=none::ρ0)(hl:as.length<=10000)
   (h:∀ a∈as,∀ s,Gr st s->∃ s1,m (some (f a)::ρ0) s=some (.bl (b a),s1)/\Gr s s1) :
   ∃ st',zaq allC (zab (zbv mi 1 fr (gNm 0) za9 m) mNil) ρ st=some (.bl (as.all b),st')/\Gr st st':=by
 obtain⟨s1,e,g⟩:=znH (W:=⟨as.map f,gd⟩) (g:=gNm 0) (c:=za9) (m:=m) (f:=f) (h:=fun a=>D.bl (b a)) (R:=fun r=>∃ x,r=x::ρ0) (as:=as) (ρ:=none::ρ0) (st:=st) ⟨none,rfl⟩ hg (fun a ha r s hr gs=>by
   obtain⟨x,rfl⟩:=hr;obtain⟨s1,e,g⟩:=h a ha s gs;exact⟨some (f a)::ρ0,s1,rfl,rfl,e,g,_,rfl⟩)
 have fl:fits (as.map fun a=>D.bl (b a)).length=true:=zaz (by rw[Ag];exact hl);have ec:zbv mi 1 fr (gNm 0) za9 m ρ st=some (.ref s1.length,s1++[.lst (as.map fun a=>D.bl (b a))]):=by
   rw[za5,hw];simp only[Ae];rw[hρ,e];simp only[Ae,fl,if_true]
 refine⟨_,?_,g.trans (Gr.app s1 [.lst (as.map fun a=>D.bl (b a))])⟩;simp only[zbA,zbz,zcG,ec,Ae];exact zmh (zbb s1 _)
noncomputable def zdy{α:Type}(lt:α->α->Bool)(as:List α):Bool:=(as.zip (as.drop 1)).all fun p=>lt p.1 p.2
theorem zhw(ds:List D):cutD ds (some 1) none=ds.drop 1:=by
 unfold cutD;have h1:HT.sIx ds.length 0 (some 1)=min 1 ds.length:=by
   unfold HT.sIx;simp
 have h2:HT.sIx ds.length ds.length none=ds.length:=rfl;rw[h1,h2]
 cases ds with
 | nil=>rfl
 | cons a r =>
   have:min 1 (a::r).length=1:=by simp
   rw[this];simp
theorem zgK{α:Type}{f:α->D}{lt:α->α->Bool}{as:List α}{l:Nat}{st:Sto}(hl:st[l]?=some (.lst (as.map f)))(hn:as.length<=10000)(hlt:∀ a∈as,∀ b∈as,∀ s:Sto,ltB (f a) (f b) s=some (.bl (lt a b),s)) :
   ∃ st',zdF [.ref l] st=some (.bl (zdy lt as),st')/\Gr st st':=by
 have hll:=getElem?_lt hl;have es:slB (.ref l) (some 1) none st=some (.ref st.length,st++[.lst ((as.drop 1).map f)]):=by
   have:slD (.ref l) (some 1) none st=some (.ref st.length,st++[.lst ((as.drop 1).map f)]):=by
     show (zbf st l).map _=_;simp only[zbf,hl,Au,zhw];rw[Fn]
   unfold slB slA;rw[this,zca,zca]
 have a1:(st++[O.lst ((as.drop 1).map f)])[l]?=some (.lst (as.map f)):=by rw[Al hll];exact hl
 have a2:=zbb st (.lst ((as.drop 1).map f));have g1:=Gr.app st [.lst ((as.drop 1).map f)];generalize hs1:st++[O.lst ((as.drop 1).map f)]=s1 at *;have ep:pairD (as.map f) ((as.drop 1).map f)=(as.zip (as.drop 1)).map fun p=>D.tup [f p.1,f p.2]:=by
   unfold pairD;rw[List.zip_map,CG];rfl
 have ez:zipW (.ref l) (.ref st.length) s1=some (⟨(as.zip (as.drop 1)).map fun p=>D.tup [f p.1,f p.2],[(l,as.map f),(st.length,(as.drop 1).map f)]⟩,s1):=by
   unfold zipW;simp only[seqD,zbf,a1,a2,Au,Ae,ep];rfl
 have hw:walked ⟨(as.zip (as.drop 1)).map fun p=>D.tup [f p.1,f p.2],[(l,as.map f),(st.length,(as.drop 1).map f)]⟩ s1=true:=by
   have w1:=zcd (ds:=[]) a1;have w2:=zcd (ds:=[]) a2;unfold walked at w1 w2 ⊢;simp only[Fj,Fs,Fk] at w1 w2 ⊢;rw[w1,w2];rfl
 have ec:=zgc (W:=⟨(as.zip (as.drop 1)).map fun p=>D.tup [f p.1,f p.2],[(l,as.map f),(st.length,(as.drop 1).map f)]⟩) (g:=gTp 2 (gC (gNm 0) (gC (gNm 1) (gN0)))) (c:=za9) (m:=zc1) (f:=fun p:α×α=>D.tup [f p.1,f p.2]) (h:=fun p:α×α=>D.bl (lt p.1 p.2)) (R:=fun r=>∃ x y,r=[x,y]) (as:=as.zip (as.drop 1)) (ρ:=[none,none]) (st:=s1) ⟨_,_,rfl⟩ hw (fun p hp r hr=>by
   obtain⟨x,y,rfl⟩:=hr;obtain⟨q1,q2⟩:=Cw (a:=p.1) (b:=p.2) hp;refine⟨[some (f p.1),some (f p.2)],rfl,rfl,?_,_,_,rfl⟩;have:=hlt _ q1 _ (DU q2) s1;unfold zc1;simp[this])
 have fl:fits ((as.zip (as.drop 1)).map fun p=>D.bl (lt p.1 p.2)).length=true:=zaz (by rw[Ag,EX];omega);refine⟨_,zcc ?_,g1.trans (Gr.app s1 [.lst ((as.zip (as.drop 1)).map fun p=>D.bl (lt p.1 p.2))])⟩;have ecm:zbv (mZip (mVar 0) (mSlB (mVar 0) (zbh (mCon (.int 1))) (zbi))) 2 [] (gTp 2 (gC (gNm 0) (gC (gNm 1) (gN0)))) (za9) (zc1) [some (.ref l)] st=some (.ref s1.length,s1++[.lst ((as.zip (as.drop 1)).map fun p=>D.bl (lt p.1 p.2))]):=by
   have ezz:mZip (mVar 0) (mSlB (mVar 0) (zbh (mCon (.int 1))) (zbi)) [some (.ref l)] st=some (⟨(as.zip (as.drop 1)).map fun p=>D.tup [f p.1,f p.2],[(l,as.map f),(st.length,(as.drop 1).map f)]⟩,s1):=by
     rw[zdv];have e2:mSlB (mVar 0) (zbh (mCon (.int 1))) (zbi) [some (.ref l)] st=some (.ref st.length,s1):=by
       unfold mSlB;simp[es]
     have v0:mVar 0 [some (.ref l)] st=some (.ref l,st):=rfl;rw[v0,Ae,e2,Ae,ez]
   rw[za5,ezz];simp only[Ae];rw[show rho0 [some (.ref l)] 2 []=[none,none] from rfl,ec];simp only[Ae,fl,if_true]
 have ea:=zmh (zbb s1 (.lst ((as.zip (as.drop 1)).map fun p=>D.bl (lt p.1 p.2))));unfold zjo zdy;show mRet _ [some (.ref l)] st=_;rw[zcp];simp only[zbA,zbz,zcG,ecm,Ae,ea,Au]
noncomputable def nb(z:Str):Bool:=decide (1<=z.length)&&decide (z.length<=8)
def LetS(z:Str):Prop:=(∀ c∈z.cps.toList,97<=c/\c<=122)/\z.length<=100
theorem len_str{z:Str}{st:Sto}(h:z.length<=10000):lenD [.str z] st=some (.int (z.length:Int),st):=by
 have:fits z.length=true:=zaz h;simp[lenD,this]
theorem zlN{z:Str}{st:Sto}(h:LetS z):∃ st',zcY [.str z] st=some (.bl (nb z),st')/\Gr st st':=by
 have t1:tyName st (.str z)=some "str":=rfl;have el:=len_str (z:=z) (st:=st) (by have:=h.2;omega)
 by_cases h1:1<=z.length
 . by_cases h2:z.length<=8
   . have hw:mWA (mVar 0) [some (.str z)] st=some (⟨z.cps.toList.map fun c=>D.str ⟨#[c]⟩,[]⟩,st):=rfl;obtain⟨s1,e,g⟩:=zdl (b:=fun _=>true) (fr:=[]) (m:=zcH) (ρ0:=[]) hw (fun _ _=>rfl) rfl (by have:=h.2;show z.cps.toList.length<=_;rw[A4];exact AB this (by decide)) (fun c hc s _=>⟨s,by
       have:=zny (st:=s) (h.1 c hc);unfold zcH;show mBin inA (mVar 0) (mCon (.str LET)) [some (.str ⟨#[c]⟩)] s=_;simp[this],Gr.refl s⟩)
     have e1:nb z=true:=by unfold nb;simp[h1,h2]
     rw[e1];refine⟨s1,zcc ?_,g⟩;unfold zc2;have i1:(1:Int)<=(z.length:Int):=by omega
     have i2:(z.length:Int)<=8:=by omega
     show mRet _ [some (.str z)] st=_;have ec:zc8 leD leD (mCon (.int 1)) (zaq lenD (zab (mVar 0) (mNil))) (mCon (.int 8)) [some (.str z)] st=some (.bl true,st):=by simp[zc8,el,i1,i2]
     have e':(z.cps.toList.all fun _=>true)=true:=by simp
     rw[e'] at e;simp only[zcp,zbY,zcR,zcS,zcQ,Cg,Ae,t1,Au,zfG,if_true,ec,e]
   . have e1:nb z=false:=by unfold nb;simp[h2]
     rw[e1];refine⟨st,zcc ?_,Gr.refl st⟩;unfold zc2;have i1:(1:Int)<=(z.length:Int):=by omega
     have i2:¬ (z.length:Int)<=8:=by omega
     simp[zc8,t1,zfG,el,i1,i2]
 . have e1:nb z=false:=by unfold nb;simp[h1]
   rw[e1];refine⟨st,zcc ?_,Gr.refl st⟩;unfold zc2;have i1:¬ (1:Int)<=(z.length:Int):=by omega
   simp[zc8,t1,zfG,el,i1]
noncomputable def stB(p:Str×Int):Bool:=nb p.1&&wh p.2 1 4
theorem zjw{p:Str×Int}{st:Sto}(h:LetS p.1):∃ st',zcu [zaD p] st=some (.bl (stB p),st')/\Gr st st':=by
 obtain⟨s1,e,g⟩:=zlN (st:=st) h;have x0:∀ s:Sto,ixA (zaD p) (.int 0) s=some (.str p.1,s):=fun s=>za2 (by decide) rfl;have x1:∀ s:Sto,ixA (zaD p) (.int 1) s=some (.int p.2,s):=fun s=>za2 (by decide) rfl;have et:zam [zaD p,.int 2] st=some (.bl true,st):=zb0;have ew:=zbZ (x:=p.2) (lo:=1) (hi:=4) (st:=s1);unfold stB;generalize zaD p=P at *;refine⟨s1,zcc ?_,g⟩;unfold zeG
 cases hb:nb p.1 with
 | true =>
   rw[hb] at e;simp[et,x0,e,x1,ew]
 | false =>
   rw[hb] at e;simp[et,x0,e]
noncomputable def ltS(a b:Str):Bool:=decide (a.cps.toList < b.cps.toList)
theorem zno{a b:Str}{s:Sto}:ltB (.str a) (.str b) s=some (.bl (ltS a b),s):=rfl
theorem zhT{S:List (Str×Int)}{st:Sto}(h:∀ p∈S,LetS p.1)(hl:S.length<=1000):∃ st',zbm [.tup (S.map zaD)] st=some (.bl (S.all stB&&zdy ltS (S.map (·.1))),st')/\Gr st st':=by
 have hw:mWA (mVar 0) [some (.tup (S.map zaD))] st=some (⟨S.map zaD,[]⟩,st):=rfl;obtain⟨s1,e1,g1⟩:=zdl (b:=stB) (fr:=[]) (m:=zbE) (ρ0:=[]) hw (fun _ _=>rfl) rfl (by omega) (fun p hp s _=>by
   obtain⟨s1,e,g⟩:=zjw (st:=s) (h p hp);refine⟨s1,?_,g⟩;unfold zbE;generalize zaD p=P at *;simp[e])
 have t1:∀ s:Sto,tyName s (.tup (S.map zaD))=some "tuple":=fun _=>rfl
 cases hb:S.all stB with
 | false =>
   rw[hb] at e1;refine⟨s1,zcc ?_,g1⟩;unfold zb9;refine zfO ?_;show mIf _ _ _ [some (.tup (S.map zaD))] st=_;generalize S.map zaD=SS at *;simp only[zhH,zdj,zbL,zcR,zcS,zcQ,Cg,Ae,t1,Au,sub_tt,Fo,Be,if_false,e1,Bool.not_false,if_true];simp
 | true =>
   rw[hb] at e1;have hw1:mWA (mVar 0) [some (.tup (S.map zaD))] s1=some (⟨S.map zaD,[]⟩,s1):=rfl;have ec:=zgc (W:=⟨S.map zaD,[]⟩) (g:=gNm 0) (c:=za9) (m:=zbe) (f:=zaD) (h:=fun p:Str×Int=>D.str p.1) (R:=fun r=>∃ x,r=[x]) (as:=S) (ρ:=[none]) (st:=s1) ⟨_,rfl⟩ rfl (fun p hp r hr=>by
     obtain⟨x,rfl⟩:=hr;have x0:ixA (zaD p) (.int 0) s1=some (.str p.1,s1):=za2 (by decide) rfl;refine⟨[some (zaD p)],rfl,rfl,?_,_,rfl⟩;unfold zbe;generalize zaD p=P at *;simp[x0])
   have fl:fits (S.map fun p:Str×Int=>D.str p.1).length=true:=zaz (by rw[Ag];omega);have ecm:zbv (mWA (mVar 0)) 1 [] (gNm 0) (za9) (zbe) [some (.tup (S.map zaD))] s1=some (.ref s1.length,s1++[.lst ((S.map (·.1)).map D.str)]):=by
     rw[za5,hw1];simp only[Ae];rw[show rho0 [some (.tup (S.map zaD))] 1 []=[none] from rfl,ec];simp only[Ae,fl,if_true,CG];rfl
   obtain⟨s2,e2,g2⟩:=zgK (f:=D.str) (lt:=ltS) (as:=S.map (·.1)) (zbb s1 (.lst ((S.map (·.1)).map D.str))) (by rw[Ag];omega) (fun a _ b _ s=>zno);refine⟨s2,zcc ?_,(g1.trans (Gr.app _ _)).trans g2⟩;unfold zb9;generalize S.map zaD=SS at *;refine zaE (ρ1:=[some (.tup SS)]) (s1:=s1) ?_ ?_
   . show mIf _ _ _ [some (.tup SS)] st=_;simp only[zhH,zdj,zbL,zcR,zcS,zcQ,Cg,Ae,t1,Au,sub_tt,Fo,Be,if_false,e1];simp
   . simp only[zcp,zbA,zbz,zcG,ecm,Ae,e2,Au,BY]
end L2.MP.stickytiles_k09_houses_and_beds_at_their
namespace L2.MP.stickytiles_k09_houses_and_beds_at_their
open PySem L2.MP
open L2.MP.Hn
open L2.MP.Hd (stD zbs zgk sv)
def FaOk(f:Str):Prop:=f=""\/∃ k,k < 36/\f=⟨#[fac k]⟩
theorem zkn{f:Str}(h:FaOk f):f.length<=1:=by
 rcases h with rfl | ⟨k,_,rfl⟩
 . decide
 . exact Af _
theorem zl6{f:Str}{st:Sto}(h:FaOk f):zc0 [.str f] st=some (.bl true,st):=by
 have hl:=zkn h;have el:=len_str (z:=f) (st:=st) (by omega);have t1:tyName st (.str f)=some "str":=rfl;have i1:(f.length:Int)<=1:=by omega
 have ei:inA (.str f) (.str FAC) st=some (.bl true,st):=by
   rcases h with rfl | ⟨k,hk,rfl⟩
   . rw[zkf,zko];rfl
   . rw[zkf,zl7 k hk];rfl
 refine zcc ?_;show mRet (zdp (mIsi "str" (mVar 0)) (zdp (mBin leD (zaq lenD (zab (mVar 0) (mNil))) (mCon (.int 1))) (mBin inA (mVar 0) (mCon (.str FAC))))) [some (.str f)] st=_;generalize FAC=Z at *;simp[t1,zfG,el,i1,ei]
def SdOk(ns:List Str)(x:Str):Prop:=x=""\/x∈ns
theorem zk4{S:List (Str×Int)}{x:Str}{d:Nat}{st:Sto}(hd:st[d]?=some (.dk (stD S)))(hs:∀ p∈S,1<=p.2/\p.2<=4)(hx:SdOk (S.map (·.1)) x)(ho:Bg x=true):zcX [.str x,.ref d] st=some (.bl true,st):=by
 have t1:tyName st (.str x)=some "str":=rfl;have e0:∃ b,eqD (.str x) (.str "") st=some (.bl b,st)/\(x=""->b=true):=by
   refine⟨C5 (.str x) (.str ""),?_,fun z=>by subst z;decide +kernel⟩;unfold eqD;rw[zgt (n:=99) ho,zgt (n:=99) (by decide +kernel)];rfl
 obtain⟨b,eb,hb⟩:=e0;refine zcc ?_;unfold zfD
 cases b with
 | true=>simp[t1,zfG,zdi,eb]
 | false =>
   have hm:x∈S.map (·.1):=by
     rcases hx with z | z
     . exact absurd (hb z) (by decide)
     . exact z
   have ei:inA (.str x) (.ref d) st=some (.bl true,st):=by
     have a1:inD false (.str x) (.ref d) st=none:=by
       unfold inD;rw[zgt (n:=49) ho];have:toP 50 st (.ref d)=none:=by rw[toP];simp[zbf,hd]
       rw[this];rfl
     have a2:inSD (.str x) (.ref d) st=none:=rfl;have a3:=(zgk hs hm).1;unfold inA orG;rw[a1,zeg,a2,zeg];simp[dinD,look,hd,keyOf,a3]
   simp[t1,zfG,zdi,eb,ei]
def KiOk(ns:List Str)(k:List Str):Prop:=∃ f a b c d,k=[f,a,b,c,d]/\FaOk f/\∀ x∈[a,b,c,d],SdOk ns x/\Bg x=true
theorem zlY{S:List (Str×Int)}{k:List Str}{n:Nat}{st:Sto}(hd:st[n]?=some (.dk (stD S)))(hs:∀ p∈S,1<=p.2/\p.2<=4)(hk:KiOk (S.map (·.1)) k):∃ st',zcZ [zcb k,.ref n] st=some (.bl true,st')/\Gr st st':=by
 obtain⟨f,a,b,c,d,rfl,hf,hx⟩:=hk;have et:zam [zcb [f,a,b,c,d],.int 5] st=some (.bl true,st):=zb0;have x0:ixA (zcb [f,a,b,c,d]) (.int 0) st=some (.str f,st):=za2 (by decide) rfl;have ef:=zl6 (st:=st) hf;have es:slB (zcb [f,a,b,c,d]) (some 1) none st=some (.tup ([a,b,c,d].map D.str),st):=rfl;have hw:mWA (mSlB (mVar 0) (zbh (mCon (.int 1))) (zbi)) [some (zcb [f,a,b,c,d]),some (.ref n)] st=some (⟨[a,b,c,d].map D.str,[]⟩,st):=rfl;obtain⟨s1,e1,g1⟩:=zdl (b:=fun _=>true) (fr:=[1]) (m:=zbT) (ρ0:=[some (.ref n)]) hw (fun _ _=>rfl) rfl (by simp) (fun x hxx s gs=>by
   have hd':=(gs.old _ (getElem?_lt hd)).trans hd;have:=zk4 hd' hs (hx x hxx).1 (hx x hxx).2;refine⟨s,?_,Gr.refl s⟩;unfold zbT;simp[this])
 refine⟨s1,zcc ?_,g1⟩;have e':([a,b,c,d].all fun _=>true)=true:=rfl;rw[e'] at e1;unfold zfE;show mRet _ [some (zcb [f,a,b,c,d]),some (.ref n)] st=_;generalize zcb [f,a,b,c,d]=P at *;generalize zaq allC (zab (zbv (mWA (mSlB (mVar 0) (zbh (mCon (.int 1))) (zbi))) 1 [1] (gNm 0) (za9) (zbT)) (mNil))=AC at *;simp[et,x0,ef,e1]
noncomputable def hD(e:Int)(S:List (Str×Int))(K:List (List Str)):D:=.tup [.int e,.tup (S.map zaD),.tup (K.map zcb)]
noncomputable def hB(e:Int)(S:List (Str×Int))(K:List (List Str)):Bool:=wh e 1 4&&((S.all stB&&zdy ltS (S.map (·.1)))&&!K.isEmpty)
theorem zda{e:Int}{S:List (Str×Int)}{K:List (List Str)}{st:Sto}(h:∀ p∈S,LetS p.1)(hl:S.length<=1000)(hK:∀ k∈K,KiOk (S.map (·.1)) k)(hKl:K.length<=1000):∃ st',zai [hD e S K] st=some (.bl (hB e S K),st')/\Gr st st':=by
 have et:∀ s:Sto,zam [hD e S K,.int 3] s=some (.bl true,s):=fun _=>zb0;have x0:∀ s:Sto,ixA (hD e S K) (.int 0) s=some (.int e,s):=fun s=>za2 (by decide) rfl;have x1:∀ s:Sto,ixA (hD e S K) (.int 1) s=some (.tup (S.map zaD),s):=fun s=>za2 (by decide) rfl;have x2:∀ s:Sto,ixA (hD e S K) (.int 2) s=some (.tup (K.map zcb),s):=fun s=>za2 (by decide) rfl;have ew:=zbZ (x:=e) (lo:=1) (hi:=4) (st:=st);obtain⟨s1,e1,g1⟩:=zhT (st:=st) h hl;unfold hB
 cases hw:wh e 1 4 with
 | false =>
   rw[hw] at ew;refine⟨st,zcc ?_,Gr.refl st⟩;unfold zbN;generalize hD e S K=P at *;refine zfO ?_;show mIf _ _ _ [some P,none,none] st=_;simp[et,x0,ew]
 | true =>
   rw[hw] at ew
   cases hb:(S.all stB&&zdy ltS (S.map (·.1))) with
   | false =>
     rw[hb] at e1;refine⟨s1,zcc ?_,g1⟩;unfold zbN;generalize hD e S K=P at *;generalize S.map zaD=SS at *;refine zfO ?_;show mIf _ _ _ [some P,none,none] st=_;simp[et,x0,ew,x1,e1]
   | true =>
     rw[hb] at e1;have first:mIf (mOrT (zdW (mTst (zaq zam (zab (mVar 0) (zab (mCon (.int 3)) (mNil)))))) (mOrT (zdW (mTst (zaq zaB (zab (mBin ixA (mVar 0) (mCon (.int 0))) (zab (mCon (.int 1)) (zab (mCon (.int 4)) (mNil))))))) (zdW (mTst (zaq zbm (zab (mBin ixA (mVar 0) (mCon (.int 1))) (mNil))))))) (mRet (mCon (.bl false))) (zck) [some (hD e S K),none,none] st=some (.nx [some (hD e S K),none,none],s1):=by
       generalize hD e S K=P at *;generalize S.map zaD=SS at *;simp[et,x0,ew,x1,e1]
     have t1:tyName s1 (.tup (K.map zcb))=some "tuple":=rfl;have el:lenD [.tup (K.map zcb)] s1=some (.int (K.length:Int),s1):=by rw[zdB,Ag]
     cases K with
     | nil =>
       refine⟨s1,zcc ?_,g1⟩;unfold zbN;refine zaE first ?_
       refine zaE (ρ1:=[some (hD e S []),some (.tup []),none]) (s1:=s1) ?_ (zfO ?_)
       . have x2:∀ s:Sto,ixA (hD e S []) (.int 2) s=some (.tup [],s):=x2;generalize hD e S []=P at *;simp[x2]
       . have t1:tyName s1 (.tup [])=some "tuple":=rfl;have el:lenD [.tup []] s1=some (.int 0,s1):=rfl;generalize hD e S []=P at *;simp[t1,sub_tt,el,eq_int]
     | cons k0 K0 =>
       have hst:∀ p∈S,1<=p.2/\p.2<=4:=fun p hp=>by
         rw[Ar] at hb;have:=List.all_eq_true.mp hb.1 p hp;unfold stB wh at this;simp at this;omega
       have ed:=zbs (stk:=S) (st:=s1) hl;have a2:=zbb s1 (.dk (stD S));have g2:=Gr.app s1 [.dk (stD S)];generalize hs2:s1++[O.dk (stD S)]=s2 at *;have hw:mWA (mVar 1) [some (hD e S (k0::K0)),some (.tup ((k0::K0).map zcb)),some (.ref s1.length)] s2=some (⟨(k0::K0).map zcb,[]⟩,s2):=rfl;obtain⟨s3,e3,g3⟩:=zdl (b:=fun _=>true) (fr:=[2]) (m:=zb7) (ρ0:=[some (.ref s1.length)]) hw (fun _ _=>rfl) rfl (by omega) (fun k hk s gs=>by
         obtain⟨s',e',g'⟩:=zlY ((gs.old _ (getElem?_lt a2)).trans a2) hst (hK k hk);refine⟨s',?_,g'⟩;unfold zb7;generalize zcb k=P at *;simp[e'])
       have e':((k0::K0).all fun _=>true)=true:=by simp
       rw[e'] at e3;refine⟨s3,zcc ?_,(g1.trans g2).trans g3⟩;unfold zbN;refine zaE first ?_
       refine zaE (ρ1:=[some (hD e S (k0::K0)),some (.tup ((k0::K0).map zcb)),none]) (s1:=s1) ?_ ?_
       . generalize hD e S (k0::K0)=P at *;generalize (k0::K0).map zcb=KK at *;simp[x2]
       refine zaE (ρ1:=[some (hD e S (k0::K0)),some (.tup ((k0::K0).map zcb)),none]) (s1:=s1) ?_ ?_
       . have n0:¬ (((k0::K0).length:Nat):Int)=0:=by simp;omega
         generalize ((k0::K0).length:Int)=N at *;generalize hD e S (k0::K0)=P at *;generalize (k0::K0).map zcb=KK at *;simp[t1,sub_tt,el,eq_int,n0]
       refine zaE (ρ1:=[some (hD e S (k0::K0)),some (.tup ((k0::K0).map zcb)),some (.ref s1.length)]) (s1:=s2) ?_ ?_
       . generalize hD e S (k0::K0)=P at *;generalize (k0::K0).map zcb=KK at *;generalize S.map zaD=SS at *;simp[x1,ed]
       . rw[zcp,e3];simp
noncomputable def nmS(i L:Nat):Str:=⟨#[97+i / 26 % 26,97+i % 26]++(Ba (L - 2) 122).toArray⟩
theorem zen(i L:Nat):(nmS i L).cps.toList=(97+i / 26 % 26)::(97+i % 26)::Ba (L - 2) 122:=by simp[nmS]
theorem zlJ{i L:Nat}(h:2<=L):(nmS i L).length=L:=by
 show (nmS i L).cps.size=L;rw[<-A4,zen];simp;omega
theorem zlI{i L:Nat}(h:2<=L)(h2:L<=100):LetS (nmS i L):=by
 refine⟨fun c hc=>?_,by rw[zlJ h];exact h2⟩;rw[zen] at hc
 rcases List.mem_cons.mp hc with rfl | hc
 . omega
 . rcases List.mem_cons.mp hc with rfl | hc
   . omega
   . rw[List.eq_of_mem_replicate hc];omega
theorem znk{i j L:Nat}(h:i < j)(hj:j < 676):ltS (nmS i L) (nmS j L)=true:=by
 unfold ltS;rw[zen,zen];refine decide_eq_true ?_
 by_cases e:i / 26 % 26=j / 26 % 26
 . rw[e];refine List.cons_lt_cons_iff.mpr (.inr ⟨rfl,List.cons_lt_cons_iff.mpr (.inl ?_)⟩);omega
 . refine List.cons_lt_cons_iff.mpr (.inl ?_);omega
theorem zlR{a b:Str}(h:ltS a b=true):ltS b a=false:=by
 unfold ltS at *;have:=of_decide_eq_true h;exact decide_eq_false fun z=>List.lt_irrefl _ (List.lt_trans this z)
noncomputable def nms(f n L:Nat):List Str:=(AJ n).map fun k=>nmS (f+k) L
theorem zbr(f n L:Nat):(nms f n L).length=n:=by simp[nms]
theorem zem{f n L k:Nat}(h:k < n):(nms f n L)[k]?=some (nmS (f+k) L):=by simp[nms,h]
theorem zjq{α:Type}{as:List α}{p:α×α}(h:p∈as.zip (as.drop 1)):∃ k,as[k]?=some p.1/\as[k+1]?=some p.2:=by
 obtain⟨k,hk⟩:=List.mem_iff_getElem?.mp h;refine⟨k,?_⟩;rw[C6] at hk;rw[CP,Nat.add_comm] at hk;exact hk
theorem zgL{α:Type}{lt:α->α->Bool}{as:List α}(h:∀ k a b,as[k]?=some a->as[k+1]?=some b->lt a b=true):zdy lt as=true:=by
 unfold zdy;rw[Cq];intro p hp;obtain⟨k,h1,h2⟩:=zjq hp;exact h k _ _ h1 h2
theorem zjM{α:Type}{lt:α->α->Bool}{a b:α}{as:List α}(h:lt a b=false):zdy lt (a::b::as)=false:=by
 unfold zdy;simp[h]
theorem zj7{f n L:Nat}(h:f+n<=676):zdy ltS (nms f n L)=true:=zgL fun k a b h1 h2=>by
 have k1:=getElem?_lt h2;rw[zbr] at k1;rw[zem (by omega)] at h1;rw[zem k1] at h2
 cases h1;cases h2
 exact znk (by omega) (by omega)
theorem zih{f n L:Nat}(h:f+n<=676):zlc (nms f n L)=true:=by
 unfold zlc;refine decide_eq_true (List.pairwise_iff_getElem.mpr fun i j hi hj hij=>?_);rw[zbr] at hi hj;have g1:=zem (f:=f) (L:=L) hi;have g2:=zem (f:=f) (L:=L) hj;rw[Ah (by rw[zbr];exact hi)] at g1;rw[Ah (by rw[zbr];exact hj)] at g2;rw[Ai g1,Ai g2,D8];exact zlR (znk (by omega) (by omega))
noncomputable def stk(f n L:Nat)(s:Int):List (Str×Int):=(nms f n L).map fun z=>(z,s)
theorem zcT(f n L:Nat)(s:Int):(stk f n L s).map (·.1)=nms f n L:=by
 unfold stk;rw[CG];exact (D7 fun _ _=>rfl).trans (List.map_id _)
theorem zi2{f n L:Nat}{s:Int}(h:2<=L)(h2:L<=100):∀ p∈stk f n L s,LetS p.1:=fun p hp=>by
 obtain⟨z,hz,rfl⟩:=List.mem_map.mp hp;obtain⟨k,_,rfl⟩:=List.mem_map.mp hz;exact zlI h h2
theorem zkX{f n L:Nat}{s:Int}(h:2<=L)(hn:1<=n):(stk f n L s).all stB=(decide (L<=8)&&wh s 1 4):=by
 have each:∀ p∈stk f n L s,stB p=(decide (L<=8)&&wh s 1 4):=fun p hp=>by
   obtain⟨z,hz,rfl⟩:=List.mem_map.mp hp;obtain⟨k,_,rfl⟩:=List.mem_map.mp hz;unfold stB nb;rw[zlJ h];have:decide (1<=L)=true:=decide_eq_true (by omega);rw[this,BY]
 cases hb:(decide (L<=8)&&wh s 1 4) with
 | true =>
   rw[Cq];intro p hp;rw[each p hp,hb]
 | false =>
   rw[List.all_eq_false];have:(stk f n L s)[0]?=some (nmS (f+0) L,s):=by
     unfold stk;rw[AL,zem (by omega)];rfl
   have hm:=BR this;exact⟨_,hm,by rw[each _ hm,hb];decide⟩
theorem zkW{f n L:Nat}{s:Int}(h:f+n<=676)(hn:2<=n):zdy ltS ((stk f n L s).reverse.map (·.1))=false:=by
 rw[Dh,zcT];have e:(nms f n L).reverse=nmS (f+(n - 1)) L::nmS (f+(n - 2)) L::(nms f (n - 2) L).reverse:=by
   obtain⟨m,rfl⟩:∃ m,n=m+2:=⟨n - 2,by omega⟩
   unfold nms;rw[E3,E3];simp
 rw[e];exact zjM (zlR (znk (by omega) (by omega)))
end L2.MP.stickytiles_k09_houses_and_beds_at_their
namespace L2.MP.stickytiles_k09_houses_and_beds_at_their
open PySem L2.MP
open L2.MP.Hn
open L2.MP.Hd (stD zbs zgk sv zgl zhM)
theorem zlU{k:Nat}{st:Sto}(h:k < 26):ixA (.str LET) (.int (k:Int)) st=some (.str ⟨#[97+k]⟩,st):=zir (by decide) (by omega) (by rw[Bv];exact Hn.zhe k h)
theorem zs:∀ L:Nat,L=2\/L=8\/L=9->(repS ("z":Str) ((L:Int) - 2)).cps.toList=Ba (L - 2) 122/\(repS ("z":Str) ((L:Int) - 2)).length<=7:=by
 rintro L (rfl | rfl | rfl) <;> decide +kernel
theorem znZ{L:Nat}{st:Sto}(h:L=2\/L=8\/L=9):mulA (.str "z") (.int ((L:Int) - 2)) st=some (.str (repS "z" ((L:Int) - 2)),st):=by
 have c:(decide (-(2 ^ 62)<=(L:Int) - 2)&&decide ((L:Int) - 2 < 2 ^ 20)&&decide (("z":Str).length*((L:Int) - 2).toNat<=sizeLine)&&decide ((repS ("z":Str) ((L:Int) - 2)).length<=sizeLine))=true:=by
   rcases h with rfl | rfl | rfl <;> decide +kernel
 have e:mulD (.str "z") (.int ((L:Int) - 2)) st=none:=rfl;unfold mulA orG;rw[e,zeg];unfold zkK;simp only[c,if_true]
theorem zlL{i q r:Int}{L:Int}{a b z:Str}{st:Sto}(e1:zgm (.int i) (.int 26) st=some (.int q,st))(e2:modD (.int q) (.int 26) st=some (.int r,st))(x1:ixA (.str LET) (.int r) st=some (.str a,st)){m:Int}(e3:modD (.int i) (.int 26) st=some (.int m,st))(x2:ixA (.str LET) (.int m) st=some (.str b,st))(e4:mulA (.str "z") (.int (L - 2)) st=some (.str z,st)){y y2:Str}(a1:addD (.str a) (.str b) st=some (.str y,st))(a2:addD (.str y) (.str z) st=some (.str y2,st)):zbl [.int i,.int L] st=some (.str y2,st):=by
 refine zcc ?_;show mSeq (mAsg (mCon (.str LET)) (gNm 2)) (mRet (mBin addD (mBin addD (mBin ixA (mVar 2) (mBin modD (mBin zgm (mVar 0) (mCon (.int 26))) (mCon (.int 26)))) (mBin ixA (mVar 2) (mBin modD (mVar 0) (mCon (.int 26))))) (mBin mulA (mCon (.str "z")) (mBin subD (mVar 1) (mCon (.int 2)))))) [some (.int i),some (.int L),none] st=_;generalize LET=Z at *;refine zaE (ρ1:=[some (.int i),some (.int L),some (.str Z)]) (s1:=st) (by simp) ?_;simp[e1,e2,x1,e3,x2,e4,a1,a2]
theorem ze3(a b:Str):(a++b).cps.toList=a.cps.toList++b.cps.toList:=by
 show (a.cps++b.cps).toList=_;simp
theorem zlM{i L:Nat}{st:Sto}(h:L=2\/L=8\/L=9):zbl [.int (i:Int),.int (L:Int)] st=some (.str (nmS i L),st):=by
 obtain⟨z1,z2⟩:=zs L h;have e1:zgm (.int (i:Int)) (.int 26) st=some (.int ((i / 26:Nat):Int),st):=by rw[zhM (by decide) (by decide)];rfl
 have e2:modD (.int ((i / 26:Nat):Int)) (.int 26) st=some (.int ((i / 26 % 26:Nat):Int),st):=by rw[zgl (by decide)];rfl
 have e3:modD (.int (i:Int)) (.int 26) st=some (.int ((i % 26:Nat):Int),st):=by rw[zgl (by decide)];rfl
 have hy:((⟨#[97+i / 26 % 26]⟩:Str)++(⟨#[97+i % 26]⟩:Str))++repS "z" ((L:Int) - 2)=nmS i L:=by
   have:(((⟨#[97+i / 26 % 26]⟩:Str)++(⟨#[97+i % 26]⟩:Str))++repS "z" ((L:Int) - 2)).cps.toList=(nmS i L).cps.toList:=by
     rw[ze3,ze3,z1,zen];rfl
   have h2:=Array.toList_inj.mp this;generalize ((⟨#[97+i / 26 % 26]⟩:Str)++(⟨#[97+i % 26]⟩:Str))++repS "z" ((L:Int) - 2)=A at *;generalize nmS i L=B at *
   cases A;cases B
   exact congrArg Str.mk h2
 have a1:addD (.str ⟨#[97+i / 26 % 26]⟩) (.str ⟨#[97+i % 26]⟩) st=some (.str ((⟨#[97+i / 26 % 26]⟩:Str)++(⟨#[97+i % 26]⟩:Str)),st):=add_str (show 1+1<=10000 by decide);have l2:((⟨#[97+i / 26 % 26]⟩:Str)++(⟨#[97+i % 26]⟩:Str)).length=2:=by
   show ((⟨#[97+i / 26 % 26]⟩:Str)++(⟨#[97+i % 26]⟩:Str)).cps.size=2;rw[<-A4,ze3];rfl
 have a2:=add_str (st:=st) (a:=(⟨#[97+i / 26 % 26]⟩:Str)++(⟨#[97+i % 26]⟩:Str)) (b:=repS "z" ((L:Int) - 2)) (by rw[l2];omega);rw[hy] at a2;exact zlL e1 e2 (zlU (E4 _ (by decide))) e3 (zlU (E4 _ (by decide))) (znZ h) a1 a2
theorem zg7{f n L:Nat}{st:Sto}(h:L=2\/L=8\/L=9):mCI ⟨run 0 n,[]⟩ (gNm 0) za9 zaP (run 0 n) [none,some (.int (f:Int)),some (.int (L:Int))] st=some ((nms f n L).map D.str,st):=by
 have:=zgc (W:=⟨run 0 n,[]⟩) (g:=gNm 0) (c:=za9) (m:=zaP) (f:=fun (k:Nat)=>D.int (0+(k:Int))) (h:=fun (k:Nat)=>D.str (nmS (f+k) L)) (R:=fun r=>∃ x,r=[x,some (.int (f:Int)),some (.int (L:Int))]) (as:=AJ n) (ρ:=[none,some (.int (f:Int)),some (.int (L:Int))]) (st:=st) ⟨_,rfl⟩ rfl (fun k hk r hr=>by
   obtain⟨x,rfl⟩:=hr;have e:=zlM (i:=f+k) (st:=st) h;have ea:(((f+k:Nat):Int))=(f:Int)+(0+(k:Int)):=by omega
   rw[ea] at e;refine⟨[some (.int (0+(k:Int))),some (.int (f:Int)),some (.int (L:Int))],rfl,rfl,?_,_,rfl⟩;generalize (0+(k:Int))=kk at *;generalize (f:Int)=ff at *;generalize (L:Int)=LL at *;unfold zaP;simp[e])
 unfold run nms;rw[CG];exact this
theorem znC{k:Nat}{st:Sto}(h:k < 36):ixA (.str FAC) (.int (k:Int)) st=some (.str ⟨#[fac k]⟩,st):=zir (by decide) (by omega) (by
 have:∀ k:Nat,k < 36->FAC.cps[k]?=some (fac k):=by decide +kernel
 rw[Bv];exact this k h)
theorem zkh{p l7 l8:Nat}{a1 a2 a3 a4 a6 a10:Option D}{f i:Int}{sg:Str}{k:Int}{SS L:List D}{st s1 s2 s3:Sto}(e1:modD (.int (f+i)) (.int 36) st=some (.int k,st))(x1:ixA (.str FAC) (.int k) st=some (.str sg,st))(hl:st[l8]?=some (.lst L))(ec:zbv (mR1 (mCon (.int 4))) 1 [0,7] (gNm 0) (za9) (zaO) [some (.ref p),a1,a2,a3,a4,some (.int f),a6,some (.ref l7),some (.ref l8),some (.int i),some (.str sg)] st=some (.ref s1.length,s2))(et:za8 [.ref s1.length] s2=some (.tup SS,s2))(ea:addD (.tup [.str sg]) (.tup SS) s2=some (.tup (.str sg::SS),s2))(ap:zcn (.ref l8) [.tup (.str sg::SS)] s2=some (.non,s3)) :
   zaH [some (.ref p),a1,a2,a3,a4,some (.int f),a6,some (.ref l7),some (.ref l8),some (.int i),a10] st=some (.nx [some (.ref p),a1,a2,a3,a4,some (.int f),a6,some (.ref l7),some (.ref l8),some (.int i),some (.str sg)],s3):=by
 show mSeq (mAsg (mBin ixA (mCon (.str FAC)) (mBin modD (mBin addD (mVar 5) (mVar 9)) (mCon (.int 36)))) (gNm 10)) (mExp (mApp (mVar 8) (zab (mBin addD (mTup (zab (mVar 10) (mNil))) (zaq za8 (zab (zbv (mR1 (mCon (.int 4))) 1 [0,7] (gNm 0) (za9) (zaO)) (mNil)))) (mNil)))) [some (.ref p),a1,a2,a3,a4,some (.int f),a6,some (.ref l7),some (.ref l8),some (.int i),a10] st=_;generalize FAC=Z at *;refine zaE (ρ1:=[some (.ref p),a1,a2,a3,a4,some (.int f),a6,some (.ref l7),some (.ref l8),some (.int i),some (.str sg)]) (s1:=st) (by simp[e1,x1]) ?_;generalize zbv (mR1 (mCon (.int 4))) 1 [0,7] (gNm 0) (za9) (zaO)=MC at *;simp[zbf,hl,ec,et,ea,ap]
structure GI(p l6 l7 l8:Nat)(ns sd:List Str)(K:List (List Str))(st0 s:Sto):Prop where
 a6:s[l6]?=some (.lst (ns.map D.str))
 a7:s[l7]?=some (.lst (sd.map D.str))
 a8:s[l8]?=some (.lst (K.map zcb))
 pot:zbH p s
 fr:Fr p st0 s
theorem zhr{p l6 l7 l8:Nat}{ns:List Str}{K:List (List Str)}{f i:Nat}{a1 a2 a3 a4 a6 a10:Option D}{st0 st:Sto}(q:GI p l6 l7 l8 ns (ns++[("":Str)]) K st0 st)(h0:st0.length<=l6/\l6 < l7/\l7 < l8)(hp:p < st0.length)(hns:∀ x∈ns,Bg x=true)(hnl:ns.length<=500)(hK:∀ k∈K,KiOk ns k)(hKl:K.length<=500) :
   ∃ (sg:Option D) (k:List Str) (s':Sto),Y3 (zaH [some (.ref p),a1,a2,a3,a4,some (.int (f:Int)),a6,some (.ref l7),some (.ref l8),some (.int (i:Int)),a10] st=some (.nx [some (.ref p),a1,a2,a3,a4,some (.int (f:Int)),a6,some (.ref l7),some (.ref l8),some (.int (i:Int)),sg],s')) (GI p l6 l7 l8 ns (ns++[("":Str)]) (K++[k]) st0 s') (KiOk ns k):=by
 have e1:modD (.int ((f:Int)+(i:Int))) (.int 36) st=some (.int (((f+i) % 36:Nat):Int),st):=by rw[zgl (by decide)];rfl
 have hk:(f+i) % 36 < 36:=E4 _ (by decide);have x1:=znC (st:=st) hk;obtain⟨xs,s1,e2,hxl,hxs,p2,f2⟩:=zjF (v:=none) q.pot q.a7 (by omega) (by simp) (by simp;omega);have fx:fits (xs.map D.str).length=true:=zaz (by rw[Ag];omega);have sg4:small 4=true:=by decide
 have ec:zbv (mR1 (mCon (.int 4))) 1 [0,7] (gNm 0) (za9) (zaO) [some (.ref p),a1,a2,a3,a4,some (.int (f:Int)),a6,some (.ref l7),some (.ref l8),some (.int (i:Int)),some (.str ⟨#[fac ((f+i) % 36)]⟩)] st=some (.ref s1.length,s1++[.lst (xs.map D.str)]):=by
   have hr:mR1 (mCon (.int 4)) [some (.ref p),a1,a2,a3,a4,some (.int (f:Int)),a6,some (.ref l7),some (.ref l8),some (.int (i:Int)),some (.str ⟨#[fac ((f+i) % 36)]⟩)] st=some (⟨run 0 4,[]⟩,st):=by simp[sg4]
   rw[za5,hr];simp only[Ae];rw[show rho0 [some (.ref p),a1,a2,a3,a4,some (.int (f:Int)),a6,some (.ref l7),some (.ref l8),some (.int (i:Int)),some (.str ⟨#[fac ((f+i) % 36)]⟩)] 1 [0,7]=[none,some (.ref p),some (.ref l7)] from rfl,show zaO=Hn.za7 from rfl,e2];simp only[Ae,fx,if_true]
 have et:=zbq (zbb s1 (.lst (xs.map D.str)));have ea:addD (.tup [.str ⟨#[fac ((f+i) % 36)]⟩]) (.tup (xs.map D.str)) (s1++[.lst (xs.map D.str)])=some (.tup (.str ⟨#[fac ((f+i) % 36)]⟩::xs.map D.str),s1++[.lst (xs.map D.str)]):=zeB (by simp) (by simp;omega);have f3:=f2.trans (Fr.app p s1 [.lst (xs.map D.str)]);have a8':(s1++[O.lst (xs.map D.str)])[l8]?=some (.lst (K.map zcb)):=(f3.old _ (getElem?_lt q.a8) (by omega)).trans q.a8;have ap:=append_at (x:=.tup (.str ⟨#[fac ((f+i) % 36)]⟩::xs.map D.str)) a8' (by rw[Ag];omega);have p3:=p2.gr (Gr.app s1 [.lst (xs.map D.str)]);have a6':=(f3.old _ (getElem?_lt q.a6) (by omega)).trans q.a6;have a7':=(f3.old _ (getElem?_lt q.a7) (by omega)).trans q.a7;have fr3:=q.fr.trans f3;have rd:=zkh (a1:=a1) (a2:=a2) (a3:=a3) (a4:=a4) (a6:=a6) (a10:=a10) e1 x1 q.a8 ec et ea ap;refine⟨_,⟨#[fac ((f+i) % 36)]⟩::xs,_,rd,⟨?_,?_,?_,?_,?_⟩,?_⟩
 . rw[AK (by omega)];exact a6'
 . rw[AK (by omega)];exact a7'
 . rw[BF (getElem?_lt a8'),Fb];rfl
 . obtain⟨u,v,hu,h1,h2,h3⟩:=p3;exact⟨u,v,by rw[AK (by omega)];exact hu,h1,h2,h3⟩
 . exact⟨by have:=fr3.len;simpa using this,fun j hj nj=>by rw[AK (by omega)];exact fr3.old j hj nj⟩
 . have side:∀ x∈xs,SdOk ns x/\Bg x=true:=fun x hx=>by
     rcases List.mem_append.mp (hxs x hx) with z | z
     . exact⟨.inr z,hns x z⟩
     . rw[List.mem_singleton.mp z];exact⟨.inl rfl,by decide +kernel⟩
   match xs,hxl,side with
   | [a,b,c,d],_,side=>exact⟨_,a,b,c,d,rfl,.inr ⟨_,hk,rfl⟩,side⟩
end L2.MP.stickytiles_k09_houses_and_beds_at_their
namespace L2.MP.stickytiles_k09_houses_and_beds_at_their
open PySem L2.MP
open L2.MP.Hn
open L2.MP.Hd (stD zbs zgk sv zgl zhM zcA zcO)
def NOk(n:Nat):Prop:=n=1\/n=3\/n=7\/n=240
def LOk(L:Nat):Prop:=L=2\/L=8\/L=9
theorem sort_ok{f n L l:Nat}{st:Sto}(hn:NOk n)(h:f+n<=676)(hl:st[l]?=some (.lst ((nms f n L).map D.str))):zcg [.ref l] st=some (.ref st.length,st++[.lst ((nms f n L).map D.str)]):=by
 have es:=zgw (nms f n L);have el:zbf st l=some ((nms f n L).map D.str):=by simp[zbf,hl]
 by_cases h1:n=1
 . subst h1;have e0:zb1 [.ref l] st=none:=by
     unfold zb1;simp only[el,es,Ae,zbr];rfl
   have e1:zc4 [.ref l] st=some (.ref st.length,st++[.lst ((nms f 1 L).map D.str)]):=by
     unfold zc4;simp only[el,es,Ae,zbr];have:zfh (nms f 1 L)=nms f 1 L:=by
       have:nms f 1 L=[nmS (f+0) L]:=rfl;rw[this];simp[zfh]
     rw[this];rfl
   unfold zcg orN;rw[e0,zeg];unfold zgz zgA orN;simp[e1]
 . have c:((decide (2<=n)&&(decide (n < 64) || decide (n=240)))&&zlc (nms f n L))=true:=by
     rw[zih h]
     rcases hn with rfl | rfl | rfl | rfl
     . exact absurd rfl h1
     . rfl
     . rfl
     . rfl
   have e1:zb1 [.ref l] st=some (.ref st.length,st++[.lst ((nms f n L).map D.str)]):=by
     unfold zb1;simp only[el,es,Ae,zbr,c,if_true]
   unfold zcg orN;rw[e1,zca]
theorem znj{f n L:Nat}(h:LOk L):∀ x∈nms f n L,Bg x=true:=fun x hx=>by
 obtain⟨k,_,rfl⟩:=List.mem_map.mp hx;have:=zlI (i:=f+k) (L:=L) (by unfold LOk at h;omega) (by unfold LOk at h;omega);exact L2.MP.Hd.znN fun c hc=>by have:=this.1 c hc;omega
theorem zht{p l6 l7 l8:Nat}{ns:List Str}{f kn:Nat}{a1 a2 a3 a4 a6 a9 a10:Option D}{st0 st:Sto}(q:GI p l6 l7 l8 ns (ns++[("":Str)]) [] st0 st)(h0:st0.length<=l6/\l6 < l7/\l7 < l8)(hp:p < st0.length)(hns:∀ x∈ns,Bg x=true)(hnl:ns.length<=500)(hkn:kn<=200) :
   ∃ (b9 b10:Option D) (K:List (List Str)) (s':Sto),Y4 (zf7 ⟨run 0 kn,[]⟩ (gNm 9) zaH (run 0 kn) [some (.ref p),a1,a2,a3,a4,some (.int (f:Int)),a6,some (.ref l7),some (.ref l8),a9,a10] st=some (.nx [some (.ref p),a1,a2,a3,a4,some (.int (f:Int)),a6,some (.ref l7),some (.ref l8),b9,b10],s')) (GI p l6 l7 l8 ns (ns++[("":Str)]) K st0 s') (∀ k∈K,KiOk ns k) (K.length=kn):=by
 have key:=zdA (W:=⟨run 0 kn,[]⟩) (g:=gNm 9) (m:=zaH) (ds:=run 0 kn) (ρ:=[some (.ref p),a1,a2,a3,a4,some (.int (f:Int)),a6,some (.ref l7),some (.ref l8),a9,a10]) (st:=st)
   (Inv:=fun i ρ s=>(∃ b9 b10,ρ=[some (.ref p),a1,a2,a3,a4,some (.int (f:Int)),a6,some (.ref l7),some (.ref l8),b9,b10])/\∃ K,Y3 (GI p l6 l7 l8 ns (ns++[("":Str)]) K st0 s) (∀ k∈K,KiOk ns k) (K.length=i))
   ⟨⟨_,_,rfl⟩,[],q,fun k hk=>(nomatch hk),rfl⟩ (fun _ _ _ _ _=>rfl) (fun i dd ρ s hdd hI=>by
     obtain⟨⟨b9,b10,rfl⟩,K,q',hK,hKl⟩:=hI;obtain⟨hi,rfl⟩:=zcO hdd;obtain⟨sg,k,s',e,q2,hk⟩:=zhr (f:=f) (i:=i) (a1:=a1) (a2:=a2) (a3:=a3) (a4:=a4) (a6:=a6) (a10:=b10) q' h0 hp hns hnl hK (by omega);refine⟨_,s,_,s',rfl,e,⟨_,_,rfl⟩,K++[k],q2,fun x hx=>?_,by rw[AN,hKl];rfl⟩
     rcases List.mem_append.mp hx with z | z
     . exact hK x z
     . rw[List.mem_singleton.mp z];exact hk)
 obtain⟨ρ',s',el,⟨b9,b10,rfl⟩,K,q',hK,hKl⟩:=key;rw[zcI] at hKl;exact⟨b9,b10,K,s',el,q',hK,hKl⟩
theorem zfI{ss:List Str}{l:Nat}{s:Int}{st:Sto}(hl:st[l]?=some (.lst (ss.map D.str))):mCI ⟨ss.map D.str,[(l,ss.map D.str)]⟩ (gNm 0) za9 zaI (ss.map D.str) [none,some (.int s)] st=some (ss.map fun z=>zaD (z,s),st) :=
 zgc (g:=gNm 0) (c:=za9) (m:=zaI) (f:=D.str) (h:=fun z=>zaD (z,s)) (R:=fun r=>∃ x,r=[x,some (.int s)]) ⟨_,rfl⟩ (zcd hl) (fun z hz r hr=>by
   obtain⟨x,rfl⟩:=hr;exact⟨[some (.str z),some (.int s)],rfl,rfl,by unfold zaI;simp[zaD],_,rfl⟩)
theorem zki{p l6 l7 l8:Nat}{n kn L s f r:Int}{b9 b10:Option D}{SS KK:List D}{st s1 s2 s3 s4 s5 s6 s7 s8 s9:Sto}(e1:zau [.ref p,.int 400] st=some (.int f,s1))(ec:zbv (mR1 (mVar 1)) 1 [5,3] (gNm 0) (za9) (zaP) [some (.ref p),some (.int n),some (.int kn),some (.int L),some (.int s),some (.int f),none,none,none,none,none] s1=some (.ref l6,s2))(h3:s2++[.lst [.str ""]]=s3)(ea:addD (.ref l6) (.ref s2.length) s3=some (.ref l7,s4))(h5:s4++[.lst []]=s5)(h8:s4.length=l8)
   (el:mFor (mR1 (mVar 2)) (gNm 9) (zaH) [some (.ref p),some (.int n),some (.int kn),some (.int L),some (.int s),some (.int f),some (.ref l6),some (.ref l7),some (.ref l8),none,none] s5=some (.nx [some (.ref p),some (.int n),some (.int kn),some (.int L),some (.int s),some (.int f),some (.ref l6),some (.ref l7),some (.ref l8),b9,b10],s6)) (e4:zau [.ref p,.int 4] s6=some (.int r,s7)) (ecs:zbv (mWA (zaq zcg (zab (mVar 6) (mNil)))) 1 [4] (gNm 0) (za9) (zaI) [some (.ref p),some (.int n),some (.int kn),some (.int L),some (.int s),some (.int f),some (.ref l6),some (.ref l7),some (.ref l8),b9,b10] s7=some (.ref s8.length,s9)) (et:za8 [.ref s8.length] s9=some (.tup SS,s9)) (ek:za8 [.ref l8] s9=some (.tup KK,s9)) :
   zav [.ref p,.int n,.int kn,.int L,.int s] st=some (.tup [.int (1+r),.tup SS,.tup KK],s9):=by
 refine zcc ?_;unfold zcM;refine zaE (ρ1:=[some (.ref p),some (.int n),some (.int kn),some (.int L),some (.int s),some (.int f),none,none,none,none,none]) (s1:=s1) (by simp[e1]) ?_;refine zaE (ρ1:=[some (.ref p),some (.int n),some (.int kn),some (.int L),some (.int s),some (.int f),some (.ref l6),none,none,none,none]) (s1:=s2) (by rw[zdw,ec];rfl) ?_;refine zaE (ρ1:=[some (.ref p),some (.int n),some (.int kn),some (.int L),some (.int s),some (.int f),some (.ref l6),some (.ref l7),none,none,none]) (s1:=s4) (by simp[h3,ea]) ?_;refine zaE (ρ1:=[some (.ref p),some (.int n),some (.int kn),some (.int L),some (.int s),some (.int f),some (.ref l6),some (.ref l7),some (.ref l8),none,none]) (s1:=s5) (by simp[h5,h8]) ?_;refine zaE el ?_;generalize zbv (mWA (zaq zcg (zab (mVar 6) (mNil)))) 1 [4] (gNm 0) (za9) (zaI)=MC at *;simp[e4,ecs,et,ek]
theorem zhs{p n kn L:Nat}{s:Int}{st:Sto}(hp:zbH p st)(hn:NOk n)(hL:LOk L)(hkn:kn<=120) :
   ∃ (e:Int) (f:Nat) (K:List (List Str)) (st':Sto),Y8 (zav [.ref p,.int (n:Int),.int (kn:Int),.int (L:Int),.int s] st=some (hD e (stk f n L s) K,st')) (1<=e) (e<=4) (f+n<=676) (∀ k∈K,KiOk (nms f n L) k) (K.length=kn) (zbH p st') (Fr p st st'):=by
 have hn':1<=n/\n<=240:=by unfold NOk at hn;omega
 obtain⟨r0,s1,e1,f0,f1,p1,fr1,_⟩:=zfp (many:=400) hp (by decide) (by decide);obtain⟨f,rfl⟩:∃ f:Nat,r0=(f:Int):=⟨r0.toNat,by omega⟩
 have hf:f+n<=676:=by omega
 have fx:fits ((nms f n L).map D.str).length=true:=zaz (by rw[Ag,zbr];omega);have ec:zbv (mR1 (mVar 1)) 1 [5,3] (gNm 0) (za9) (zaP) [some (.ref p),some (.int (n:Int)),some (.int (kn:Int)),some (.int (L:Int)),some (.int s),some (.int (f:Int)),none,none,none,none,none] s1=some (.ref s1.length,s1++[.lst ((nms f n L).map D.str)]):=by
   have hr:mR1 (mVar 1) [some (.ref p),some (.int (n:Int)),some (.int (kn:Int)),some (.int (L:Int)),some (.int s),some (.int (f:Int)),none,none,none,none,none] s1=some (⟨run 0 n,[]⟩,s1):=zcA (M:=(n:Int)) rfl rfl (by omega);rw[za5,hr];simp only[Ae];rw[show rho0 [some (.ref p),some (.int (n:Int)),some (.int (kn:Int)),some (.int (L:Int)),some (.int s),some (.int (f:Int)),none,none,none,none,none] 1 [5,3]=[none,some (.int (f:Int)),some (.int (L:Int))] from rfl,zg7 hL];simp only[Ae,fx,if_true]
 have a2:=zbb s1 (.lst ((nms f n L).map D.str));have p2:=p1.gr (Gr.app s1 [.lst ((nms f n L).map D.str)]);have fr2:=fr1.trans (Fr.app p s1 [.lst ((nms f n L).map D.str)]);have hps:=hp.lt;have hl1:=fr1.len;have len2:(s1++[O.lst ((nms f n L).map D.str)]).length=s1.length+1:=by simp
 generalize hs2:s1++[O.lst ((nms f n L).map D.str)]=s2 at *;have a3:(s2++[O.lst [.str ""]])[s1.length]?=some (.lst ((nms f n L).map D.str)):=by rw[Al (by omega)];exact a2
 have b3:=zbb s2 (.lst [.str ""]);have ea:=zjn a3 b3 (by rw[Ag,zbr];simp;omega);have em:(nms f n L).map D.str++[.str ""]=(nms f n L++[("":Str)]).map D.str:=by simp
 rw[em] at ea;have len3:(s2++[O.lst [.str ""]]).length=s2.length+1:=by simp
 have p3:=p2.gr (Gr.app s2 [.lst [.str ""]]);have fr3:=fr2.trans (Fr.app p s2 [.lst [.str ""]]);generalize hs3:s2++[O.lst [.str ""]]=s3 at *;have a4:(s3++[O.lst ((nms f n L++[("":Str)]).map D.str)])[s1.length]?=some (.lst ((nms f n L).map D.str)):=by rw[Al (by omega)];exact a3
 have b4:=zbb s3 (.lst ((nms f n L++[("":Str)]).map D.str));have len4:(s3++[O.lst ((nms f n L++[("":Str)]).map D.str)]).length=s3.length+1:=by simp
 have p4:=p3.gr (Gr.app s3 [.lst ((nms f n L++[("":Str)]).map D.str)]);have fr4:=fr3.trans (Fr.app p s3 [.lst ((nms f n L++[("":Str)]).map D.str)]);generalize hs4:s3++[O.lst ((nms f n L++[("":Str)]).map D.str)]=s4 at *;have q:GI p s1.length s3.length s4.length (nms f n L) (nms f n L++[("":Str)]) [] st (s4++[.lst []]) :=
   ⟨by rw[Al (by omega)];exact a4,by rw[Al (by omega)];exact b4,zbb s4 _,p4.gr (Gr.app _ _),fr4.trans (Fr.app p s4 _)⟩
 obtain⟨b9,b10,K,s6,el,q6,hK,hKl⟩:=zht (f:=f) (kn:=kn) (a1:=some (.int (n:Int))) (a2:=some (.int (kn:Int))) (a3:=some (.int (L:Int))) (a4:=some (.int s)) (a6:=some (.ref s1.length)) (a9:=none) (a10:=none) q ⟨hl1,by omega,by omega⟩ hps (znj hL) (by rw[zbr];omega) (by omega);have ef:mFor (mR1 (mVar 2)) (gNm 9) (zaH) [some (.ref p),some (.int (n:Int)),some (.int (kn:Int)),some (.int (L:Int)),some (.int s),some (.int (f:Int)),some (.ref s1.length),some (.ref s3.length),some (.ref s4.length),none,none] (s4++[.lst []])=some (.nx [some (.ref p),some (.int (n:Int)),some (.int (kn:Int)),some (.int (L:Int)),some (.int s),some (.int (f:Int)),some (.ref s1.length),some (.ref s3.length),some (.ref s4.length),b9,b10],s6):=by
   have hr:mR1 (mVar 2) [some (.ref p),some (.int (n:Int)),some (.int (kn:Int)),some (.int (L:Int)),some (.int s),some (.int (f:Int)),some (.ref s1.length),some (.ref s3.length),some (.ref s4.length),none,none] (s4++[.lst []])=some (⟨run 0 kn,[]⟩,s4++[.lst []]):=zcA (M:=(kn:Int)) rfl rfl (by omega);rw[zcs,hr];exact el
 obtain⟨r,s7,e7,r70,r71,p7,fr7,_⟩:=zfp (many:=4) q6.pot (by decide) (by decide);have a7:=(fr7.old _ (getElem?_lt q6.a6) (by omega)).trans q6.a6;have k7:=(fr7.old _ (getElem?_lt q6.a8) (by omega)).trans q6.a8;have es:=sort_ok hn hf a7;have a8:=zbb s7 (.lst ((nms f n L).map D.str));have g8:=Gr.app s7 [.lst ((nms f n L).map D.str)];have len8:(s7++[O.lst ((nms f n L).map D.str)]).length=s7.length+1:=by simp
 generalize hs8:s7++[O.lst ((nms f n L).map D.str)]=s8 at *;have fy:fits ((nms f n L).map fun z=>zaD (z,s)).length=true:=zaz (by rw[Ag,zbr];omega);have ecs:zbv (mWA (zaq zcg (zab (mVar 6) (mNil)))) 1 [4] (gNm 0) (za9) (zaI) [some (.ref p),some (.int (n:Int)),some (.int (kn:Int)),some (.int (L:Int)),some (.int s),some (.int (f:Int)),some (.ref s1.length),some (.ref s3.length),some (.ref s4.length),b9,b10] s7=some (.ref s8.length,s8++[.lst ((nms f n L).map fun z=>zaD (z,s))]):=by
   have hw:mWA (zaq zcg (zab (mVar 6) (mNil))) [some (.ref p),some (.int (n:Int)),some (.int (kn:Int)),some (.int (L:Int)),some (.int s),some (.int (f:Int)),some (.ref s1.length),some (.ref s3.length),some (.ref s4.length),b9,b10] s7=some (⟨(nms f n L).map D.str,[(s7.length,(nms f n L).map D.str)]⟩,s8):=by
     generalize (nms f n L).map D.str=NN at *;unfold mWA;simp[es,zi0,zbf,a8]
   rw[za5,hw];simp only[Ae];rw[show rho0 [some (.ref p),some (.int (n:Int)),some (.int (kn:Int)),some (.int (L:Int)),some (.int s),some (.int (f:Int)),some (.ref s1.length),some (.ref s3.length),some (.ref s4.length),b9,b10] 1 [4]=[none,some (.int s)] from rfl,zfI a8];simp only[Ae,fy,if_true]
 have e9:(nms f n L).map (fun z=>zaD (z,s))=(stk f n L s).map zaD:=by unfold stk;rw[CG];rfl
 rw[e9] at ecs;have et:=zbq (zbb s8 (.lst ((stk f n L s).map zaD)));have g9:=g8.trans (Gr.app s8 [.lst ((stk f n L s).map zaD)]);have ek:=zbq ((g9.old _ (getElem?_lt k7)).trans k7);exact⟨1+r,f,K,_,zki e1 ec hs3 (hs4 ▸ ea) rfl rfl ef e7 ecs et ek,by omega,by omega,hf,hK,hKl,p7.gr g9,(q6.fr.trans fr7).trans (g9.fr p)⟩
theorem znm{a b:Bool}{st:Sto}:neD (.bl a) (.bl b) st=some (.bl (a != b),st):=by cases a <;> cases b <;> rfl
theorem KiOk.mono{ns ms:List Str}{k:List Str}(h:KiOk ns k)(hs:∀ x∈ns,x∈ms):KiOk ms k:=by
 obtain⟨f,a,b,c,d,rfl,hf,hx⟩:=h;exact⟨f,a,b,c,d,rfl,hf,fun x hxx=>⟨(hx x hxx).1.imp id (hs x),(hx x hxx).2⟩⟩
theorem zl2{e:Int}{f n L:Nat}{s:Int}{K:List (List Str)}(hn:1<=n)(hL:2<=L)(hf:f+n<=676)(hK:K≠[]):hB e (stk f n L s) K=(wh e 1 4&&(decide (L<=8)&&wh s 1 4)):=by
 unfold hB;rw[zkX hL hn,zcT,zj7 hf]
 cases K with
 | nil=>exact absurd rfl hK
 | cons k K=>simp
theorem znA{e:Int}{S:List (Str×Int)}:hB e S []=false:=by unfold hB;simp
theorem zkO{e:Int}(h:e < 1\/4 < e):wh e 1 4=false:=by
 unfold wh
 rcases h with h | h
 . simp;omega
 . simp;omega
theorem zmi{e:Int}(h:1<=e)(h2:e<=4):wh e 1 4=true:=by unfold wh;simp[h,h2]
section
variable {p:Nat} {H SS KK:D} {e:Int} {b:Bool} {a1 a2:Option D} {s s1 s2 s3:Sto}
theorem zok(h1:zai [H] s=some (.bl b,s1)):mIf (mTst (mBin neD (zaq zai (zab (mVar 4) (mNil))) (mVar 3))) (mRet (mCon (.bl false))) (zck) [some (.ref p),a1,a2,some (.bl b),some H] s=some (.nx [some (.ref p),a1,a2,some (.bl b),some H],s1):=by
 have n1:neD (.bl b) (.bl b) s1=some (.bl false,s1):=by rw[znm];cases b <;> rfl
 simp[h1,n1]
theorem cat1{x:Int}{s:Sto}:addD (.tup [.int x]) (.tup [SS,KK]) s=some (.tup [.int x,SS,KK],s):=zeB (by simp) (by simp)
theorem cat2{s:Sto}:addD (.tup [.int e,SS]) (.tup [.tup []]) s=some (.tup [.int e,SS,.tup []],s):=zeB (by simp) (by simp)
theorem zoj(c1:∀ q:Sto,slB H (some 1) none q=some (.tup [SS,KK],q))(c2:∀ q:Sto,slB H none (some 2) q=some (.tup [.int e,SS],q))(h1:zai [.tup [.int 0,SS,KK]] s=some (.bl false,s1))(h2:zai [.tup [.int 5,SS,KK]] s1=some (.bl false,s2))(h3:zai [.tup [.int e,SS,.tup []]] s2=some (.bl false,s3)) :
   mIf (mOrT (mTst (zaq zai (zab (mBin addD (mTup (zab (mCon (.int 0)) (mNil))) (mSlB (mVar 4) (zbh (mCon (.int 1))) (zbi))) (mNil)))) (mOrT (mTst (zaq zai (zab (mBin addD (mTup (zab (mCon (.int 5)) (mNil))) (mSlB (mVar 4) (zbh (mCon (.int 1))) (zbi))) (mNil)))) (mTst (zaq zai (zab (mBin addD (mSlB (mVar 4) (zbi) (zbh (mCon (.int 2)))) (mTup (zab (mTup (mNil)) (mNil)))) (mNil)))))) (mRet (mCon (.bl false))) (zck) [some (.ref p),a1,a2,some (.bl b),some H] s=some (.nx [some (.ref p),a1,a2,some (.bl b),some H],s3):=by
 have d1:∀ q:Sto,mSlB (mVar 4) (zbh (mCon (.int 1))) (zbi) [some (.ref p),a1,a2,some (.bl b),some H] q=some (.tup [SS,KK],q):=fun q=>by unfold mSlB;simp[c1]
 have d2:∀ q:Sto,mSlB (mVar 4) (zbi) (zbh (mCon (.int 2))) [some (.ref p),a1,a2,some (.bl b),some H] q=some (.tup [.int e,SS],q):=fun q=>by unfold mSlB;simp[c2]
 generalize mSlB (mVar 4) (zbh (mCon (.int 1))) (zbi)=M1 at *;generalize mSlB (mVar 4) (zbi) (zbh (mCon (.int 2)))=M2 at *;simp[d1,cat1,h1,h2,d2,cat2,h3]
theorem zoi(c1:∀ q:Sto,slB H (some 1) none q=some (.tup [SS,KK],q))(h1:zai [.tup [.int 4,SS,KK]] s=some (.bl b,s1))(h2:zai [.tup [.int 1,SS,KK]] s1=some (.bl b,s2)) :
   mIf (mOrT (mTst (mBin neD (zaq zai (zab (mBin addD (mTup (zab (mCon (.int 4)) (mNil))) (mSlB (mVar 4) (zbh (mCon (.int 1))) (zbi))) (mNil))) (mVar 3))) (mTst (mBin neD (zaq zai (zab (mBin addD (mTup (zab (mCon (.int 1)) (mNil))) (mSlB (mVar 4) (zbh (mCon (.int 1))) (zbi))) (mNil))) (mVar 3)))) (mRet (mCon (.bl false))) (zck) [some (.ref p),a1,a2,some (.bl b),some H] s=some (.nx [some (.ref p),a1,a2,some (.bl b),some H],s2):=by
 have d1:∀ q:Sto,mSlB (mVar 4) (zbh (mCon (.int 1))) (zbi) [some (.ref p),a1,a2,some (.bl b),some H] q=some (.tup [SS,KK],q):=fun q=>by unfold mSlB;simp[c1]
 have n1:∀ q:Sto,neD (.bl b) (.bl b) q=some (.bl false,q):=fun q=>by rw[znm];cases b <;> rfl
 generalize mSlB (mVar 4) (zbh (mCon (.int 1))) (zbi)=M1 at *;simp[d1,cat1,h1,h2,n1]
noncomputable def h0D:D:=hD 1 [] [["","","","",""]]
theorem zoH{ρ:Rho}{s:Sto}:mTup (zab (mCon (.int 1)) (zab (mTup (mNil)) (zab (mTup (zab (mTup (zab (mCon (.str "")) (zab (mCon (.str "")) (zab (mCon (.str "")) (zab (mCon (.str "")) (zab (mCon (.str "")) (mNil))))))) (mNil))) (mNil)))) ρ s=some (h0D,s):=by
 simp[h0D,hD,zcb]
theorem zoh{N:Int}{S R:List D}(x1:∀ q:Sto,ixA H (.int 1) q=some (.tup S,q))(x2:∀ q:Sto,ixA H (.int 2) q=some (KK,q))(hN:(S.length:Int)=N)(hR:S.reverse=R)(h1:zai [h0D] s=some (.bl true,s1))(h2:1 < N->zai [.tup [.int 1,.tup R,KK]] s1=some (.bl false,s2))(h3:¬ 1 < N->s2=s1) :
   mIf (mOrT (mTst (mBin zmk (zaq zai (zab (mTup (zab (mCon (.int 1)) (zab (mTup (mNil)) (zab (mTup (zab (mTup (zab (mCon (.str "")) (zab (mCon (.str "")) (zab (mCon (.str "")) (zab (mCon (.str "")) (zab (mCon (.str "")) (mNil))))))) (mNil))) (mNil))))) (mNil))) (mCon (.bl true)))) (zmn (mTst (mBin gtD (zaq lenD (zab (mBin ixA (mVar 4) (mCon (.int 1))) (mNil))) (mCon (.int 1)))) (mTst (zaq zai (zab (mTup (zab (mCon (.int 1)) (zab (zkL (mBin ixA (mVar 4) (mCon (.int 1))) (mNeg (mCon (.int 1)))) (zab (mBin ixA (mVar 4) (mCon (.int 2))) (mNil))))) (mNil)))))) (mRet (mCon (.bl false))) (zck) [some (.ref p),a1,a2,some (.bl b),some H] s=some (.nx [some (.ref p),a1,a2,some (.bl b),some H],s2):=by
 have d0:∀ (ρ:Rho) (q:Sto),mTup (zab (mCon (.int 1)) (zab (mTup (mNil)) (zab (mTup (zab (mTup (zab (mCon (.str "")) (zab (mCon (.str "")) (zab (mCon (.str "")) (zab (mCon (.str "")) (zab (mCon (.str "")) (mNil))))))) (mNil))) (mNil)))) ρ q=some (h0D,q):=fun _ _=>zoH;have nn:∀ q:Sto,zmk (.bl true) (.bl true) q=some (.bl false,q):=fun _=>rfl;have d1:∀ q:Sto,zkL (mBin ixA (mVar 4) (mCon (.int 1))) (mNeg (mCon (.int 1))) [some (.ref p),a1,a2,some (.bl b),some H] q=some (.tup R,q):=fun q=>by
   have:negD (.int 1) q=some (.int (-1),q):=rfl;unfold zkL;simp[x1,this,hR]
 have el:∀ q:Sto,lenD [.tup S] q=some (.int N,q):=fun q=>by rw[zdB,hN]
 generalize mTup (zab (mCon (.int 1)) (zab (mTup (mNil)) (zab (mTup (zab (mTup (zab (mCon (.str "")) (zab (mCon (.str "")) (zab (mCon (.str "")) (zab (mCon (.str "")) (zab (mCon (.str "")) (mNil))))))) (mNil))) (mNil))))=M0 at *;generalize zkL (mBin ixA (mVar 4) (mCon (.int 1))) (mNeg (mCon (.int 1)))=M1 at *;generalize h0D=HH at *
 by_cases hc:1 < N
 . simp[d0,h1,nn,x1,el,hc,d1,x2,h2 hc]
 . rw[h3 hc];simp[d0,h1,nn,x1,el,hc]
theorem zol{n kn L S:Int}{a3 a4:Option D}(e0:zaw [.ref p,.ref s.length] (s++[.lst [.int 1,.int 7,.int 240]])=some (.int n,s1))(e1:zaw [.ref p,.ref s1.length] (s1++[.lst [.int 1,.int 9,.int 120]])=some (.int kn,s2))(e2:zav [.ref p,.int n,.int kn,.int L,.int S] s2=some (H,s3)) :
   mAsg (zaq zav (zab (mVar 0) (zab (zaq zaw (zab (mVar 0) (zab (mLst (zab (mCon (.int 1)) (zab (mCon (.int 7)) (zab (mCon (.int 240)) (mNil))))) (mNil)))) (zab (zaq zaw (zab (mVar 0) (zab (mLst (zab (mCon (.int 1)) (zab (mCon (.int 9)) (zab (mCon (.int 120)) (mNil))))) (mNil)))) (zab (mVar 1) (zab (mVar 2) (mNil))))))) (gNm 4) [some (.ref p),some (.int L),some (.int S),a3,a4] s=some (.nx [some (.ref p),some (.int L),some (.int S),a3,some H],s3):=by
 simp[e0,e1,e2]
end
theorem zj5{p:Nat}{st:Sto}{xs:List Int}(hp:zbH p st)(h0:0 < xs.length)(h1:xs.length < 1000):∃ (x:Int) (st':Sto),Y4 (zaw [.ref p,.ref st.length] (st++[.lst (xs.map D.int)])=some (.int x,st')) (x∈xs) (zbH p st') (Fr p st st'):=by
 obtain⟨d,s',e,hd,p',f'⟩:=zni (xs.map D.int) hp (by simpa using h0) (by simp;omega);obtain⟨x,hx,rfl⟩:=List.mem_map.mp hd;exact⟨x,s',e,hx,p',f'⟩
theorem zoI{st:Sto}:∃ st',zai [h0D] st=some (.bl true,st')/\Gr st st':=by
 obtain⟨s1,e,g⟩:=zda (e:=1) (S:=[]) (K:=[["","","","",""]]) (st:=st) (fun p hp=>nomatch hp) (by simp) (fun k hk=>by
   rw[List.mem_singleton.mp hk];exact⟨_,_,_,_,_,rfl,.inl rfl,fun x hx=>by
     have:x="":=by simpa using hx
     subst this;exact⟨.inl rfl,by decide +kernel⟩⟩) (by simp)
 exact⟨s1,e,g⟩
theorem zhm{p L:Nat}{S:Int}{b:Bool}{a4:Option D}{st:Sto}(hp:zbH p st)(hL:LOk L)(hb:(decide (L<=8)&&wh S 1 4)=b) :
   ∃ (b4:Option D) (st':Sto),Y3 (zay [some (.ref p),some (.int (L:Int)),some (.int S),some (.bl b),a4] st=some (.nx [some (.ref p),some (.int (L:Int)),some (.int S),some (.bl b),b4],st')) (zbH p st') (Fr p st st'):=by
 have hL2:2<=L/\L<=9:=by unfold LOk at hL;omega
 obtain⟨n0,s1,e1,hn,p1,f1⟩:=zj5 (xs:=[1,7,240]) hp (by decide) (by decide);obtain⟨k0,s2,e2,hk,p2,f2⟩:=zj5 (xs:=[1,9,120]) p1 (by decide) (by decide);obtain⟨n,rfl,hN⟩:∃ n:Nat,n0=(n:Int)/\NOk n:=by
   simp only[A8,A1,or_false] at hn
   rcases hn with rfl | rfl | rfl
   . exact⟨1,rfl,.inl rfl⟩
   . exact⟨7,rfl,.inr (.inr (.inl rfl))⟩
   . exact⟨240,rfl,.inr (.inr (.inr rfl))⟩
 obtain⟨kn,rfl,hk1,hk2⟩:∃ kn:Nat,k0=(kn:Int)/\1<=kn/\kn<=120:=by
   simp only[A8,A1,or_false] at hk
   rcases hk with rfl | rfl | rfl
   . exact⟨1,rfl,by decide,by decide⟩
   . exact⟨9,rfl,by decide,by decide⟩
   . exact⟨120,rfl,by decide,by decide⟩
 obtain⟨e,f,K,s3,e3,he1,he2,hf,hK,hKl,p3,f3⟩:=zhs (s:=S) p2 hN hL hk2;have hn':1<=n/\n<=240:=by unfold NOk at hN;omega
 have hKn:K≠[]:=fun z=>by rw[z] at hKl;simp at hKl;omega
 have hlet:=zi2 (f:=f) (n:=n) (s:=S) hL2.1 (by omega:L<=100);have hlen:(stk f n L S).length<=1000:=by unfold stk;rw[Ag,zbr];omega
 have hK':∀ k∈K,KiOk ((stk f n L S).map (·.1)) k:=by rw[zcT];exact hK
 have hv:∀ x:Int,hB x (stk f n L S) K=(wh x 1 4&&b):=fun x=>by rw[zl2 hn'.1 hL2.1 hf hKn,hb]
 have ev:∀ (x:Int) (q:Sto),∃ q',zai [hD x (stk f n L S) K] q=some (.bl (wh x 1 4&&b),q')/\Gr q q':=fun x q=>by
   obtain⟨q',e',g'⟩:=zda (e:=x) (st:=q) hlet hlen hK' (by omega);rw[hv x] at e';exact⟨q',e',g'⟩
 obtain⟨s4,e4,g4⟩:=ev e s3;rw[zmi he1 he2,BY] at e4;obtain⟨s5,e5,g5⟩:=ev 0 s4;rw[zkO (.inl (by decide)),DD] at e5;obtain⟨s6,e6,g6⟩:=ev 5 s5;rw[zkO (.inr (by decide)),DD] at e6;obtain⟨s7,e7,g7⟩:=zda (e:=e) (S:=stk f n L S) (K:=[]) (st:=s6) hlet hlen (fun k hk=>nomatch hk) (by simp);rw[znA] at e7;obtain⟨s8,e8,g8⟩:=ev 4 s7;rw[zmi (by decide) (by decide),BY] at e8;obtain⟨s9,e9,g9⟩:=ev 1 s8;rw[zmi (by decide) (by decide),BY] at e9;obtain⟨s10,e10,g10⟩:=zoI (st:=s9);obtain⟨s11,e11,g11,h11⟩:∃ q,(1 < (n:Int)->zai [.tup [.int 1,.tup ((stk f n L S).reverse.map zaD),.tup (K.map zcb)]] s10=some (.bl false,q))/\Gr s10 q/\(¬ 1 < (n:Int)->q=s10):=by
   by_cases hc:1 < (n:Int)
   . obtain⟨q,e',g'⟩:=zda (e:=1) (S:=(stk f n L S).reverse) (K:=K) (st:=s10) (fun x hx=>hlet x (by simpa using hx)) (by simpa using hlen) (fun k hk=>(hK' k hk).mono fun x hx=>by rw[Dh];simpa using hx) (by omega);have:hB 1 (stk f n L S).reverse K=false:=by
       unfold hB;rw[zkW hf (by omega)];simp
     rw[this] at e';exact⟨q,fun _=>e',g',fun z=>absurd hc z⟩
   . exact⟨s10,fun z=>absurd z hc,Gr.refl _,fun _=>rfl⟩
 have gg:=((((g4.trans g5).trans (g6.trans g7)).trans (g8.trans g9)).trans (g10.trans g11))
 have c1:∀ q:Sto,slB (hD e (stk f n L S) K) (some 1) none q=some (.tup [.tup ((stk f n L S).map zaD),.tup (K.map zcb)],q):=fun _=>rfl;have c2:∀ q:Sto,slB (hD e (stk f n L S) K) none (some 2) q=some (.tup [.int e,.tup ((stk f n L S).map zaD)],q):=fun _=>rfl;have x1:∀ q:Sto,ixA (hD e (stk f n L S) K) (.int 1) q=some (.tup ((stk f n L S).map zaD),q):=fun q=>za2 (by decide) rfl;have x2:∀ q:Sto,ixA (hD e (stk f n L S) K) (.int 2) q=some (.tup (K.map zcb),q):=fun q=>za2 (by decide) rfl;have hlenN:(((stk f n L S).map zaD).length:Int)=(n:Int):=by unfold stk;rw[Ag,Ag,zbr]
 refine⟨some (hD e (stk f n L S) K),s11,?_,p3.gr gg,(((f1.trans f2).trans f3).trans (gg.fr p))⟩;unfold zay;refine zaE (zol (a3:=some (.bl b)) (a4:=a4) e1 e2 e3) ?_;refine zaE (zok e4) (zaE (zoj c1 c2 e5 e6 e7) (zaE (zoi c1 e8 e9) ?_));exact zoh x1 x2 hlenN (Dh).symm e10 e11 h11
theorem zit{p:Nat}{st:Sto}(hp:zbH p st):∃ st',Y3 (zaN [.ref p] st=some (.bl true,st')) (zbH p st') (Fr p st st'):=by
 have key:=zdA (W:=⟨[.tup [.int 8,.int 4,.bl true],.tup [.int 9,.int 4,.bl false],.tup [.int 2,.int 5,.bl false],.tup [.int 2,.int 0,.bl false],.tup [.int 2,.int 1,.bl true]],[]⟩) (g:=gTp 3 (gC (gNm 1) (gC (gNm 2) (gC (gNm 3) (gN0))))) (m:=zay) (ds:=[.tup [.int 8,.int 4,.bl true],.tup [.int 9,.int 4,.bl false],.tup [.int 2,.int 5,.bl false],.tup [.int 2,.int 0,.bl false],.tup [.int 2,.int 1,.bl true]]) (ρ:=[some (.ref p),none,none,none,none]) (st:=st)
   (Inv:=fun i ρ s=>Y3 (∃ a b c d,ρ=[some (.ref p),a,b,c,d]) (zbH p s) (Fr p st s))
   ⟨⟨_,_,_,_,rfl⟩,hp,Fr.refl _ _⟩ (fun _ _ _ _ _=>rfl) (fun i dd ρ s hdd hI=>by
     obtain⟨⟨a,b,c,d,rfl⟩,q,fr⟩:=hI;have go:∀ (L:Nat) (S:Int) (t:Bool),LOk L->(decide (L<=8)&&wh S 1 4)=t->dd=.tup [.int (L:Int),.int S,.bl t]->∃ ρ1 s1 ρ2 s2,gTp 3 (gC (gNm 1) (gC (gNm 2) (gC (gNm 3) (gN0)))) dd [some (.ref p),a,b,c,d] s=some (ρ1,s1)/\zay ρ1 s1=some (.nx ρ2,s2)/\Y3 (∃ a b c d,ρ2=[some (.ref p),a,b,c,d]) (zbH p s2) (Fr p st s2):=fun L S t hL ht e=>by
       obtain⟨b4,s2,e2,p2,f2⟩:=zhm (S:=S) (a4:=d) q hL ht;subst e;exact⟨[some (.ref p),some (.int (L:Int)),some (.int S),some (.bl t),d],s,_,s2,rfl,e2,⟨_,_,_,_,rfl⟩,p2,fr.trans f2⟩
     match i,hdd with
     | 0,hdd=>exact go 8 4 true (.inr (.inl rfl)) (by decide) (Ai hdd).symm
     | 1,hdd=>exact go 9 4 false (.inr (.inr rfl)) (by decide) (Ai hdd).symm
     | 2,hdd=>exact go 2 5 false (.inl rfl) (by decide) (Ai hdd).symm
     | 3,hdd=>exact go 2 0 false (.inl rfl) (by decide) (Ai hdd).symm
     | 4,hdd=>exact go 2 1 true (.inl rfl) (by decide) (Ai hdd).symm)
 obtain⟨ρ',s',el,⟨a,b,c,d,rfl⟩,q,fr⟩:=key;refine⟨s',zcc ?_,q,fr⟩;unfold zbn;refine zaE (ρ1:=[some (.ref p),a,b,c,d]) (s1:=s') ?_ (by simp);have hw:mWA (mTup (zab (mTup (zab (mCon (.int 8)) (zab (mCon (.int 4)) (zab (mCon (.bl true)) (mNil))))) (zab (mTup (zab (mCon (.int 9)) (zab (mCon (.int 4)) (zab (mCon (.bl false)) (mNil))))) (zab (mTup (zab (mCon (.int 2)) (zab (mCon (.int 5)) (zab (mCon (.bl false)) (mNil))))) (zab (mTup (zab (mCon (.int 2)) (zab (mCon (.int 0)) (zab (mCon (.bl false)) (mNil))))) (zab (mTup (zab (mCon (.int 2)) (zab (mCon (.int 1)) (zab (mCon (.bl true)) (mNil))))) (mNil))))))) [some (.ref p),none,none,none,none] st=some (⟨[.tup [.int 8,.int 4,.bl true],.tup [.int 9,.int 4,.bl false],.tup [.int 2,.int 5,.bl false],.tup [.int 2,.int 0,.bl false],.tup [.int 2,.int 1,.bl true]],[]⟩,st):=by
   unfold mWA;simp[zi0]
 show mFor _ _ _ [some (.ref p),none,none,none,none] st=_;rw[zcs,hw];exact el
theorem zkk{a b:Int}{st:Sto}:zcw [.tup [.int a,.int b]] st=some (.bl (wh a 1 12&&wh b 1 12),st):=by
 have et:zam [.tup [.int a,.int b],.int 2] st=some (.bl true,st):=zb0;have x0:ixA (.tup [.int a,.int b]) (.int 0) st=some (.int a,st):=za2 (by decide) rfl;have x1:ixA (.tup [.int a,.int b]) (.int 1) st=some (.int b,st):=za2 (by decide) rfl;have w0:=zbZ (x:=a) (lo:=1) (hi:=12) (st:=st);have w1:=zbZ (x:=b) (lo:=1) (hi:=12) (st:=st);refine zcc ?_;unfold zeI
 cases h:wh a 1 12 with
 | true=>rw[h] at w0;simp[et,x0,w0,x1,w1]
 | false=>rw[h] at w0;simp[et,x0,w0]
section
variable {B:D} {w h:Int} {KN:Nat} {st:Sto}
structure BdAt(B:D)(w h:Int)(KN:Nat):Prop where
 fl:∀ s:Sto,ixA B (.int 1) s=some (.tup [.int w,.int h],s)
 kd:∃ (H:D) (ks:List D),(∀ s:Sto,ixA B (.int 0) s=some (H,s))/\(∀ s:Sto,ixA H (.int 2) s=some (.tup ks,s))/\ks.length=KN
noncomputable def plB(w h x y:Int):Bool:=wh x 0 (w - 1)&&wh y 0 (h - 1)
theorem zjT{x y:Int}(c:BdAt B w h KN):zcv [B,.tup [.int x,.int y]] st=some (.bl (plB w h x y),st):=by
 have et:zam [.tup [.int x,.int y],.int 2] st=some (.bl true,st):=zb0;have x0:ixA (.tup [.int x,.int y]) (.int 0) st=some (.int x,st):=za2 (by decide) rfl;have x1:ixA (.tup [.int x,.int y]) (.int 1) st=some (.int y,st):=za2 (by decide) rfl;have j0:ixA (.tup [.int w,.int h]) (.int 0) st=some (.int w,st):=za2 (by decide) rfl;have j1:ixA (.tup [.int w,.int h]) (.int 1) st=some (.int h,st):=za2 (by decide) rfl;have w0:=zbZ (x:=x) (lo:=0) (hi:=w - 1) (st:=st);have w1:=zbZ (x:=y) (lo:=0) (hi:=h - 1) (st:=st);have fl:=c.fl;refine zcc ?_;unfold zeH plB;refine zaE (ρ1:=[some B,some (.tup [.int x,.int y]),some (.tup [.int w,.int h])]) (s1:=st) (by simp[fl]) ?_
 cases hh:wh x 0 (w - 1) with
 | true=>rw[hh] at w0;simp[et,x0,j0,w0,x1,j1,w1]
 | false=>rw[hh] at w0;simp[et,x0,j0,w0]
noncomputable def tlB(w h:Int)(KN:Nat)(t:Tl):Bool:=plB w h t.1 t.2.1&&wh t.2.2 0 ((KN:Int) - 1)
noncomputable def tD(t:Tl):D:=.tup [.int t.1,.int t.2.1,.int t.2.2]
theorem zkQ{t:Tl}(c:BdAt B w h KN):zcW [B,tD t] st=some (.bl (tlB w h KN t),st):=by
 obtain⟨x,y,k⟩:=t;obtain⟨H,ks,i0,i2,hl⟩:=c.kd;have et:zam [.tup [.int x,.int y,.int k],.int 3] st=some (.bl true,st):=zb0;have es:slB (.tup [.int x,.int y,.int k]) none (some 2) st=some (.tup [.int x,.int y],st):=rfl;have x2:ixA (.tup [.int x,.int y,.int k]) (.int 2) st=some (.int k,st):=za2 (by decide) rfl;have ep:=zjT (x:=x) (y:=y) (st:=st) c;have el:lenD [.tup ks] st=some (.int (KN:Int),st):=by rw[zdB,hl]
 have w1:=zbZ (x:=k) (lo:=0) (hi:=(KN:Int) - 1) (st:=st);have d1:∀ ρ:Option D,mSlB (mVar 1) (zbi) (zbh (mCon (.int 2))) [some B,some (.tup [.int x,.int y,.int k]),ρ] st=some (.tup [.int x,.int y],st):=fun ρ=>by unfold mSlB;simp[es]
 refine zcc ?_;unfold zfC tlB;show mSeq _ _ [some B,some (.tup [.int x,.int y,.int k]),none] st=_;refine zaE (ρ1:=[some B,some (.tup [.int x,.int y,.int k]),some (.tup ks)]) (s1:=st) (by simp[i0,i2]) ?_;generalize mSlB (mVar 1) (zbi) (zbh (mCon (.int 2)))=M1 at *
 cases hh:plB w h x y with
 | true=>rw[hh] at ep;simp[et,d1,ep,x2,el,w1,hh]
 | false=>rw[hh] at ep;simp[et,d1,ep,hh]
noncomputable def ltP(t u:Tl):Bool:=HT.lexLt [t.1,t.2.1] [u.1,u.2.1]
theorem zbO{T:List Tl}(c:BdAt B w h KN)(hl:T.length<=1000):∃ st',zas [B,.tup (T.map tD)] st=some (.bl (T.all (tlB w h KN)&&zdy ltP T),st')/\Gr st st':=by
 have hw:mWA (mVar 1) [some B,some (.tup (T.map tD))] st=some (⟨T.map tD,[]⟩,st):=rfl;obtain⟨s1,e1,g1⟩:=zdl (b:=tlB w h KN) (fr:=[0]) (m:=zaZ) (ρ0:=[some B]) hw (fun _ _=>rfl) rfl (by omega) (fun t ht s _=>by
   have:=zkQ (t:=t) (st:=s) c;refine⟨s,?_,Gr.refl s⟩;unfold zaZ;generalize tD t=P at *;simp[this])
 have t1:∀ s:Sto,tyName s (.tup (T.map tD))=some "tuple":=fun _=>rfl
 cases hb:T.all (tlB w h KN) with
 | false =>
   rw[hb] at e1;refine⟨s1,zcc ?_,g1⟩;unfold zbM;refine zfO ?_;show mIf _ _ _ [some B,some (.tup (T.map tD))] st=_;generalize T.map tD=SS at *;generalize zaq allC (zab (zbv (mWA (mVar 1)) 1 [0] (gNm 0) (za9) (zaZ)) (mNil))=AC at *;simp[t1,sub_tt,e1]
 | true =>
   rw[hb] at e1;have hw1:mWA (mVar 1) [some B,some (.tup (T.map tD))] s1=some (⟨T.map tD,[]⟩,s1):=rfl;have ec:=zgc (W:=⟨T.map tD,[]⟩) (g:=gNm 0) (c:=za9) (m:=zbu) (f:=tD) (h:=fun t:Tl=>D.tup [.int t.1,.int t.2.1]) (R:=fun r=>∃ x,r=[x]) (as:=T) (ρ:=[none]) (st:=s1) ⟨_,rfl⟩ rfl (fun t ht r hr=>by
     obtain⟨x,rfl⟩:=hr;exact⟨[some (tD t)],rfl,rfl,rfl,_,rfl⟩)
   have fl:fits (T.map fun t:Tl=>D.tup [.int t.1,.int t.2.1]).length=true:=zaz (by rw[Ag];omega);have ecm:zbv (mWA (mVar 1)) 1 [] (gNm 0) (za9) (zbu) [some B,some (.tup (T.map tD))] s1=some (.ref s1.length,s1++[.lst (T.map fun t:Tl=>D.tup [.int t.1,.int t.2.1])]):=by
     rw[za5,hw1];simp only[Ae];rw[show rho0 [some B,some (.tup (T.map tD))] 1 []=[none] from rfl,ec];simp only[Ae,fl,if_true]
   obtain⟨s2,e2,g2⟩:=zgK (f:=fun t:Tl=>D.tup [.int t.1,.int t.2.1]) (lt:=ltP) (as:=T) (zbb s1 (.lst (T.map fun t:Tl=>D.tup [.int t.1,.int t.2.1]))) (by omega) (fun a _ b _ s=>rfl);refine⟨s2,zcc ?_,(g1.trans (Gr.app _ _)).trans g2⟩;unfold zbM;generalize T.map tD=SS at *;refine zaE (ρ1:=[some B,some (.tup SS)]) (s1:=s1) ?_ ?_
   . show mIf _ _ _ [some B,some (.tup SS)] st=_;generalize zaq allC (zab (zbv (mWA (mVar 1)) 1 [0] (gNm 0) (za9) (zaZ)) (mNil))=AC at *;simp[t1,sub_tt,e1]
   . simp only[zcp,zbA,zbz,zcG,ecm,Ae,e2,Au,BY]
end
noncomputable def bD(H:D)(w h:Int)(T:List Tl):D:=.tup [H,.tup [.int w,.int h],.tup (T.map tD)]
theorem znX{e:Int}{S:List (Str×Int)}{K:List (List Str)}{w h:Int}{T:List Tl}:BdAt (bD (hD e S K) w h T) w h K.length :=
 ⟨fun s=>za2 (by decide) rfl,hD e S K,K.map zcb,fun s=>za2 (by decide) rfl,fun s=>za2 (by decide) rfl,Ag _⟩
theorem zmf{e:Int}{S:List (Str×Int)}{K:List (List Str)}{w h:Int}{T:List Tl}{st:Sto}(hl:∀ p∈S,LetS p.1)(hS:S.length<=1000)(hK:∀ k∈K,KiOk (S.map (·.1)) k)(hKl:K.length<=1000)(hT:T.length<=1000)(hb:hB e S K=true) :
   ∃ st',zbD [bD (hD e S K) w h T] st=some (.bl ((wh w 1 12&&wh h 1 12)&&(T.all (tlB w h K.length)&&zdy ltP T)),st')/\Gr st st':=by
 obtain⟨s1,e1,g1⟩:=zda (e:=e) (st:=st) hl hS hK hKl;rw[hb] at e1;obtain⟨s2,e2,g2⟩:=zbO (B:=bD (hD e S K) w h T) (T:=T) (st:=s1) znX hT;have et:zam [bD (hD e S K) w h T,.int 3] st=some (.bl true,st):=zb0;have x0:∀ s:Sto,ixA (bD (hD e S K) w h T) (.int 0) s=some (hD e S K,s):=fun s=>za2 (by decide) rfl;have x1:∀ s:Sto,ixA (bD (hD e S K) w h T) (.int 1) s=some (.tup [.int w,.int h],s):=fun s=>za2 (by decide) rfl;have x2:∀ s:Sto,ixA (bD (hD e S K) w h T) (.int 2) s=some (.tup (T.map tD),s):=fun s=>za2 (by decide) rfl;have ef:=zkk (a:=w) (b:=h) (st:=s1);generalize bD (hD e S K) w h T=P at *;generalize hD e S K=Q at *;generalize T.map tD=TT at *
 cases hf:(wh w 1 12&&wh h 1 12) with
 | false =>
   rw[hf] at ef;refine⟨s1,zcc ?_,g1⟩;unfold zfa;refine zfO ?_;show mIf _ _ _ [some P] st=_;simp[et,x0,e1,x1,ef]
 | true =>
   rw[hf] at ef;refine⟨s2,zcc ?_,g1.trans g2⟩;unfold zfa;refine zaE (ρ1:=[some P]) (s1:=s1) ?_ ?_
   . show mIf _ _ _ [some P] st=_;simp[et,x0,e1,x1,ef]
   . simp[x2,e2]
def ColT(x:Nat)(KN:Nat)(c:List Tl):Prop:=∀ (j:Nat) (t:Tl),c[j]?=some t->t.1=(x:Int)/\t.2.1=(j:Int)/\0<=t.2.2/\t.2.2 < (KN:Int)
theorem zkw{p:Nat}{x y k N:Int}{H:D}{ks:List D}{s s1:Sto}(i2:ixA H (.int 2) s=some (.tup ks,s))(hN:(ks.length:Int)=N)(e:zau [.ref p,.int N] s=some (.int k,s1)):zap [some (.int y),some (.int x),some (.ref p),some H] s=some (.tup [.int x,.int y,.int k],s1):=by
 have el:lenD [.tup ks] s=some (.int N,s):=by rw[zdB,hN]
 unfold zap;simp[i2,el,e]
theorem znG{p x h KN:Nat}{H:D}{ks:List D}{st:Sto}(hp:zbH p st)(i2:∀ s:Sto,ixA H (.int 2) s=some (.tup ks,s))(hk:ks.length=KN)(hK:1<=KN)(hK2:KN<=1000) :
   ∃ (c:List Tl) (st':Sto),Y5 (mCI ⟨run 0 h,[]⟩ (gNm 0) za9 zap (run 0 h) [none,some (.int (x:Int)),some (.ref p),some H] st=some (c.map tD,st')) (c.length=h) (ColT x KN c) (zbH p st') (Fr p st st'):=by
 have key:=zmu (W:=⟨run 0 h,[]⟩) (g:=gNm 0) (c:=za9) (m:=zap) (ds:=run 0 h) (acc:=[]) (st:=st) (ρ:=[none,some (.int (x:Int)),some (.ref p),some H])
   (Inv:=fun k a ρ s=>Y4 (∃ v,ρ=[v,some (.int (x:Int)),some (.ref p),some H]) (∃ c:List Tl,a=c.map tD/\c.length=k/\ColT x KN c) (zbH p s) (Fr p st s))
   ⟨⟨none,rfl⟩,⟨[],rfl,rfl,fun j t hj=>by simp at hj⟩,hp,Fr.refl _ _⟩ (fun _ _ _ _ _ _=>rfl) (fun k d a ρ s hd hI=>by
     obtain⟨⟨v,rfl⟩,⟨c,rfl,hc,hcol⟩,q,fr⟩:=hI;obtain⟨hi,rfl⟩:=zcO hd;obtain⟨r,s1,e1,r0,r1,p1,f1,_⟩:=zfp (many:=(KN:Int)) q (by omega) (by omega);refine⟨[some (.int (k:Int)),some (.int (x:Int)),some (.ref p),some H],s,true,s,rfl,rfl,.inl ⟨rfl,.tup [.int (x:Int),.int (k:Int),.int r],s1,zkw (i2 s) (by rw[hk]) e1,⟨_,rfl⟩,⟨c++[((x:Int),(k:Int),r)],by simp[tD],by simp[hc],fun j t hj=>?_⟩,p1,fr.trans f1⟩⟩
     by_cases hjk:j < c.length
     . rw[Al hjk] at hj;exact hcol j t hj
     . have hj':=getElem?_lt hj;simp at hj';have:j=c.length:=by omega
       subst this;simp at hj;subst hj;exact⟨rfl,by show (k:Int)=_;rw[hc],r0,r1⟩)
 obtain⟨a,ρ',s',e,⟨v,rfl⟩,⟨c,hac,hc,hcol⟩,q,fr⟩:=key;rw[zcI] at hc;rw[EY] at hac;rw[hac] at e;exact⟨c,s',e,hc,hcol,q,fr⟩
def FlT(h KN:Nat)(T:List Tl):Prop:=∀ (j:Nat) (t:Tl),T[j]?=some t->t.1=((j / h:Nat):Int)/\t.2.1=((j % h:Nat):Int)/\0<=t.2.2/\t.2.2 < (KN:Int)
theorem zl3{h KN i:Nat}{T c:List Tl}(h1:1<=h)(hT:T.length=i*h)(fT:FlT h KN T)(hc:c.length=h)(fc:ColT i KN c):FlT h KN (T++c):=fun j t hj=>by
 by_cases hjk:j < T.length
 . rw[Al hjk] at hj;exact fT j t hj
 . have hj':=getElem?_lt hj;rw[AN] at hj';rw[AE (by omega)] at hj;obtain⟨a,b,c1,c2⟩:=fc _ t hj;have e:j=(j - T.length)+i*h:=by omega
   have hlt:j - T.length < h:=by omega
   have d1:j / h=i:=by rw[e,Nat.add_mul_div_right _ _ (by omega),Nat.div_eq_of_lt hlt,Nat.zero_add]
   have d2:j % h=j - T.length:=by
     conv=>lhs;rw[e]
     rw[Nat.add_mul_mod_self_right,Nat.mod_eq_of_lt hlt]
   exact⟨by rw[a,d1],by rw[b,d2],c1,c2⟩
theorem znD{p l4:Nat}{a3 a6 a7 a8 a9:Option D}{H:D}{w h:Int}{x:Int}{L:List D}{s s1 s2 s3:Sto}(hl:s[l4]?=some (.lst L))(ec:zbv (mR1 (mBin ixA (mVar 2) (mCon (.int 1)))) 1 [5,0,1] (gNm 0) (za9) (zap) [some (.ref p),some H,some (.tup [.int w,.int h]),a3,some (.ref l4),some (.int x),a6,a7,a8,a9] s=some (.ref s1.length,s2))(ee:zdc (.ref l4) [.ref s1.length] s2=some (.non,s3)) :
   zax [some (.ref p),some H,some (.tup [.int w,.int h]),a3,some (.ref l4),some (.int x),a6,a7,a8,a9] s=some (.nx [some (.ref p),some H,some (.tup [.int w,.int h]),a3,some (.ref l4),some (.int x),a6,a7,a8,a9],s3):=by
 unfold zax;generalize zbv (mR1 (mBin ixA (mVar 2) (mCon (.int 1)))) 1 [5,0,1] (gNm 0) (za9) (zap)=MC at *;unfold mExt;simp[zbf,hl,ec,ee]
structure TI(p l4 h KN i:Nat)(T:List Tl)(st0 s:Sto):Prop where
 at_:s[l4]?=some (.lst (T.map tD))
 len:T.length=i*h
 flt:FlT h KN T
 pot:zbH p s
 fr:Fr p st0 s
theorem zgu{p l4 h KN w:Nat}{H:D}{ks:List D}{a3 a5 a6 a7 a8 a9:Option D}{st0 s:Sto}(h1:1<=h)(h2:h<=13)(hw:w<=13)(i2:∀ s:Sto,ixA H (.int 2) s=some (.tup ks,s))(hk:ks.length=KN)(hK:1<=KN)(hK2:KN<=1000)(hp0:p < st0.length)(hl4:st0.length<=l4)(q:TI p l4 h KN 0 [] st0 s) :
   ∃ (b5:Option D) (T:List Tl) (s':Sto),(zf7 ⟨run 0 w,[]⟩ (gNm 5) zax (run 0 w) [some (.ref p),some H,some (.tup [.int (w:Int),.int (h:Int)]),a3,some (.ref l4),a5,a6,a7,a8,a9] s=some (.nx [some (.ref p),some H,some (.tup [.int (w:Int),.int (h:Int)]),a3,some (.ref l4),b5,a6,a7,a8,a9],s'))/\(TI p l4 h KN w T st0 s'):=by
 have key:=zdA (W:=⟨run 0 w,[]⟩) (g:=gNm 5) (m:=zax) (ds:=run 0 w) (ρ:=[some (.ref p),some H,some (.tup [.int (w:Int),.int (h:Int)]),a3,some (.ref l4),a5,a6,a7,a8,a9]) (st:=s)
   (Inv:=fun i ρ s=>(∃ b5,ρ=[some (.ref p),some H,some (.tup [.int (w:Int),.int (h:Int)]),a3,some (.ref l4),b5,a6,a7,a8,a9])/\∃ T,TI p l4 h KN i T st0 s)
   ⟨⟨_,rfl⟩,[],q⟩ (fun _ _ _ _ _=>rfl) (fun i dd ρ s hdd hI=>by
     obtain⟨⟨b5,rfl⟩,T,q⟩:=hI;obtain⟨hi,rfl⟩:=zcO hdd;obtain⟨c,s1,ec,hc,fc,p1,f1⟩:=znG (x:=i) (h:=h) q.pot i2 hk hK hK2;have fx:fits (c.map tD).length=true:=zaz (by rw[Ag];omega);have ecm:zbv (mR1 (mBin ixA (mVar 2) (mCon (.int 1)))) 1 [5,0,1] (gNm 0) (za9) (zap) [some (.ref p),some H,some (.tup [.int (w:Int),.int (h:Int)]),a3,some (.ref l4),some (.int (i:Int)),a6,a7,a8,a9] s=some (.ref s1.length,s1++[.lst (c.map tD)]):=by
       have j1:ixA (.tup [.int (w:Int),.int (h:Int)]) (.int 1) s=some (.int (h:Int),s):=za2 (by decide) rfl;have hr:mR1 (mBin ixA (mVar 2) (mCon (.int 1))) [some (.ref p),some H,some (.tup [.int (w:Int),.int (h:Int)]),a3,some (.ref l4),some (.int (i:Int)),a6,a7,a8,a9] s=some (⟨run 0 h,[]⟩,s):=zcA (M:=(h:Int)) rfl (by generalize (h:Int)=hh at *;generalize (w:Int)=ww at *;generalize (i:Int)=ii at *;simp[j1]) (by omega);rw[za5,hr];simp only[Ae];rw[show rho0 [some (.ref p),some H,some (.tup [.int (w:Int),.int (h:Int)]),a3,some (.ref l4),some (.int (i:Int)),a6,a7,a8,a9] 1 [5,0,1]=[none,some (.int (i:Int)),some (.ref p),some H] from rfl,ec];simp only[Ae,fx,if_true]
     have f2:=f1.trans (Fr.app p s1 [.lst (c.map tD)]);have at2:=(f2.old _ (getElem?_lt q.at_) (by omega)).trans q.at_;have hTl:T.length<=169:=by rw[q.len];exact Fe (show i<=13 by omega) h2
     have ee:=ziE at2 (zbb s1 (.lst (c.map tD))) (by rw[Ag,Ag];omega);have fr2:=q.fr.trans f2;have p2:=p1.gr (Gr.app s1 [.lst (c.map tD)]);refine⟨_,s,_,_,rfl,znD q.at_ ecm ee,⟨_,rfl⟩,T++c,?_,?_,zl3 h1 q.len q.flt hc fc,?_,?_⟩
     . rw[BF (getElem?_lt at2),Fb]
     . rw[AN,q.len,hc,Nat.add_mul,Nat.one_mul]
     . obtain⟨u,v,hu,h3,h4,h5⟩:=p2;exact⟨u,v,by rw[AK (by omega)];exact hu,h3,h4,h5⟩
     . exact⟨by have:=fr2.len;simpa using this,fun j hj nj=>by rw[AK (by omega)];exact fr2.old j hj nj⟩)
 obtain⟨ρ',s',el,⟨b5,rfl⟩,T,q'⟩:=key;rw[zcI] at q';exact⟨b5,T,s',el,q'⟩
theorem zlS{t u:Tl}(h:t.1 < u.1\/(t.1=u.1/\t.2.1 < u.2.1)):ltP t u=true:=by
 unfold ltP;rw[HT.lexLt_cons,HT.lexLt_cons,HT.lexLt_nil_nil]
 by_cases h1:t.1=u.1
 . rw[if_pos h1];have h2:t.2.1 < u.2.1:=by omega
   rw[if_neg (by omega)];exact decide_eq_true h2
 . rw[if_neg h1];exact decide_eq_true (by omega)
def WH(w h:Nat):Prop:=(w=12/\h=12)\/(w=1/\h=1)
section
variable {w h KN:Nat} {T:List Tl}
theorem zkm(hwh:WH w h)(hl:T.length=w*h)(f:FlT h KN T):∀ t∈T,tlB (w:Int) (h:Int) KN t=true:=fun t ht=>by
 obtain⟨j,hj⟩:=List.mem_iff_getElem?.mp ht;have hlt:=getElem?_lt hj;obtain⟨a,b,c,d⟩:=f j t hj;unfold tlB plB wh;rw[a,b]
 rcases hwh with ⟨rfl,rfl⟩ | ⟨rfl,rfl⟩
 . simp;omega
 . simp;omega
theorem zjh(hwh:WH w h)(f:FlT h KN T):zdy ltP T=true:=zgL fun k a b h1 h2=>by
 obtain⟨a1,a2,_,_⟩:=f k a h1;obtain⟨b1,b2,_,_⟩:=f (k+1) b h2;refine zlS ?_;rw[a1,a2,b1,b2]
 rcases hwh with ⟨_,rfl⟩ | ⟨_,rfl⟩
 . omega
 . omega
theorem zkl(hwh:WH w h)(f:FlT h KN T):zdy ltP (T.drop 1)=true:=zgL fun k a b h1 h2=>by
 rw[CP] at h1 h2;obtain⟨a1,a2,_,_⟩:=f _ a h1;obtain⟨b1,b2,_,_⟩:=f _ b h2;refine zlS ?_;rw[a1,a2,b1,b2]
 rcases hwh with ⟨_,rfl⟩ | ⟨_,rfl⟩
 . omega
 . omega
theorem zl4(hwh:WH w h)(hl:T.length=w*h)(f:FlT h KN T):∃ k:Int,T[T.length - 1]?=some ((w:Int) - 1,(h:Int) - 1,k):=by
 have h0:T.length - 1 < T.length:=by
   rw[hl]
   rcases hwh with ⟨rfl,rfl⟩ | ⟨rfl,rfl⟩ <;> decide
 have hg:=Ah h0;obtain⟨a,b,_,_⟩:=f _ _ hg;generalize T[T.length - 1]=t at *;obtain⟨x,y,k⟩:=t;refine⟨k,hg.trans ?_⟩;have a:x=_:=a;have b:y=_:=b;rw[a,b,hl]
 rcases hwh with ⟨rfl,rfl⟩ | ⟨rfl,rfl⟩ <;> rfl
end
theorem zk3{l:Nat}{ds:List D}{s:Sto}(hl:s[l]?=some (.lst ds)):slB (.ref l) none (some 1) s=some (.ref s.length,s++[.lst (ds.take 1)]):=by
 have:slD (.ref l) none (some 1) s=some (.ref s.length,s++[.lst (ds.take 1)]):=by
   show (zbf s l).map _=_;have e:cutD ds none (some 1)=ds.take 1:=by
     unfold cutD;have h1:HT.sIx ds.length ds.length (some 1)=min 1 ds.length:=HT.sIx_nat _ _ 1;rw[h1,HT.sIx_none];simp
   simp only[zbf,hl,Au,e]
 unfold slB slA;rw[this,zca,zca]
theorem zk2{l:Nat}{ds:List D}{s:Sto}(hl:s[l]?=some (.lst ds)):slB (.ref l) (some 1) none s=some (.ref s.length,s++[.lst (ds.drop 1)]):=by
 have:slD (.ref l) (some 1) none s=some (.ref s.length,s++[.lst (ds.drop 1)]):=by
   show (zbf s l).map _=_;simp only[zbf,hl,Au,zhw]
 unfold slB slA;rw[this,zca,zca]
theorem zjE{l:Nat}{ds:List D}{s:Sto}(hl:s[l]?=some (.lst ds)):slC (.ref l) none (some (-1)) s=some (.ref s.length,s++[.lst (ds.take (ds.length - 1))]):=by
 have:slD (.ref l) none (some (-1)) s=some (.ref s.length,s++[.lst (ds.take (ds.length - 1))]):=by
   show (zbf s l).map _=_;have e:cutD ds none (some (-1))=ds.take (ds.length - 1):=by
     unfold cutD;have h1:HT.sIx ds.length ds.length (some (-1))=ds.length - 1:=by
       unfold HT.sIx;dsimp only;rw[if_pos (by decide)];omega
     rw[h1,HT.sIx_none];simp
   simp only[zbf,hl,Au,e]
 unfold slC slB slA;rw[this,zca,zca,zca]
theorem zl0{l:Nat}{ds:List D}{x:D}{s:Sto}(hl:s[l]?=some (.lst ds))(hx:ds[ds.length - 1]?=some x):ixA (.ref l) (.int (-1)) s=some (x,s):=by
 have hlt:=getElem?_lt hx;have:idxD (.ref l) (.int (-1)) s=some (x,s):=by
   show (zbf s l).bind _=_;have e:atI ds (-1)=some x:=by
     unfold atI;have:ixN ds.length (-1)=some (ds.length - 1):=by
       unfold ixN;simp;omega
     rw[this];exact hx
   simp only[zbf,hl,Ae,e,Au]
 unfold ixA orG;rw[this,zca]
theorem zl8{A:List D}{x:D}{s:Sto}(h:A.length<=1000):addE (.tup A) (.tup [x]) s=some (.tup (A++[x]),s):=by
 cases A with
 | nil=>rfl
 | cons a r =>
   unfold addE orG;rw[zeB (by simp) (by simp at h ⊢;omega),zca]
section
variable {p l4 l8 l9:Nat} {H F:D} {a5 a6 a7 a8 a9:Option D} {b:Bool} {s s1 s2 s3 s4:Sto}
theorem zoX{TT:List D}(et:za8 [.ref l4] s=some (.tup TT,s))(h1:zbD [.tup [H,F,.tup TT]] s=some (.bl b,s1))(h2:zbD [.tup [H,F,.tup []]] s1=some (.bl b,s2)) :
   mIf (mOrT (mTst (mBin neD (zaq zbD (zab (mTup (zab (mVar 1) (zab (mVar 2) (zab (zaq za8 (zab (mVar 4) (mNil))) (mNil))))) (mNil))) (mVar 3))) (mTst (mBin neD (zaq zbD (zab (mTup (zab (mVar 1) (zab (mVar 2) (zab (mTup (mNil)) (mNil))))) (mNil))) (mVar 3)))) (mRet (mCon (.bl false))) (zck) [some (.ref p),some H,some F,some (.bl b),some (.ref l4),a5,a6,a7,a8,a9] s=some (.nx [some (.ref p),some H,some F,some (.bl b),some (.ref l4),a5,a6,a7,a8,a9],s2):=by
 have n1:∀ q:Sto,neD (.bl b) (.bl b) q=some (.bl false,q):=fun q=>by rw[znm];cases b <;> rfl
 simp[et,h1,h2,n1]
theorem zoW{TT:List D}{n:Nat}(es:slB (.ref l4) none (some 1) s=some (.ref n,s1))(et:za8 [.ref n] s1=some (.tup TT,s1)) :
   mAsg (mTup (zab (mVar 1) (zab (mVar 2) (zab (zaq za8 (zab (mSlB (mVar 4) (zbi) (zbh (mCon (.int 1)))) (mNil))) (mNil))))) (gNm 6) [some (.ref p),some H,some F,some (.bl b),some (.ref l4),a5,a6,a7,a8,a9] s=some (.nx [some (.ref p),some H,some F,some (.bl b),some (.ref l4),a5,some (.tup [H,F,.tup TT]),a7,a8,a9],s1):=by
 have d:mSlB (mVar 4) (zbi) (zbh (mCon (.int 1))) [some (.ref p),some H,some F,some (.bl b),some (.ref l4),a5,a6,a7,a8,a9] s=some (.ref n,s1):=by unfold mSlB;simp[es]
 generalize mSlB (mVar 4) (zbi) (zbh (mCon (.int 1)))=M at *;simp[d,et]
theorem zoV{x:D}(ex:ixA (.ref l4) (.int (-1)) s=some (x,s)):mAsg (mBin ixA (mVar 4) (mNeg (mCon (.int 1)))) (gNm 7) [some (.ref p),some H,some F,some (.bl b),some (.ref l4),a5,a6,a7,a8,a9] s=some (.nx [some (.ref p),some H,some F,some (.bl b),some (.ref l4),a5,a6,some x,a8,a9],s):=by
 have:negD (.int 1) s=some (.int (-1),s):=rfl;simp[this,ex]
theorem zoU{x y k N:Int}{ks:List D}(i2:ixA H (.int 2) s=some (.tup ks,s))(hN:(ks.length:Int)=N) :
   mAsg (mLst (zab (mBin addD (mSlB (mVar 7) (zbi) (zbh (mCon (.int 2)))) (mTup (zab (zaq lenD (zab (mBin ixA (mVar 1) (mCon (.int 2))) (mNil))) (mNil)))) (zab (mTup (zab (mBin addD (mBin ixA (mVar 7) (mCon (.int 0))) (mCon (.int 1))) (zab (mBin ixA (mVar 7) (mCon (.int 1))) (zab (mCon (.int 0)) (mNil))))) (zab (mTup (zab (mBin ixA (mVar 7) (mCon (.int 0))) (zab (mBin addD (mBin ixA (mVar 7) (mCon (.int 1))) (mCon (.int 1))) (zab (mCon (.int 0)) (mNil))))) (mNil))))) (gNm 8) [some (.ref p),some H,some F,some (.bl b),some (.ref l4),a5,a6,some (.tup [.int x,.int y,.int k]),a8,a9] s=some (.nx [some (.ref p),some H,some F,some (.bl b),some (.ref l4),a5,a6,some (.tup [.int x,.int y,.int k]),some (.ref s.length),a9],s++[.lst [.tup [.int x,.int y,.int N],.tup [.int (x+1),.int y,.int 0],.tup [.int x,.int (y+1),.int 0]]]):=by
 have es:slB (.tup [.int x,.int y,.int k]) none (some 2) s=some (.tup [.int x,.int y],s):=rfl;have d:mSlB (mVar 7) (zbi) (zbh (mCon (.int 2))) [some (.ref p),some H,some F,some (.bl b),some (.ref l4),a5,a6,some (.tup [.int x,.int y,.int k]),a8,a9] s=some (.tup [.int x,.int y],s):=by unfold mSlB;simp[es]
 have el:lenD [.tup ks] s=some (.int N,s):=by rw[zdB,hN]
 have x0:ixA (.tup [.int x,.int y,.int k]) (.int 0) s=some (.int x,s):=za2 (by decide) rfl;have x1:ixA (.tup [.int x,.int y,.int k]) (.int 1) s=some (.int y,s):=za2 (by decide) rfl;have c:addD (.tup [.int x,.int y]) (.tup [.int N]) s=some (.tup [.int x,.int y,.int N],s):=zeB (by simp) (by simp);generalize mSlB (mVar 7) (zbi) (zbh (mCon (.int 2)))=M at *;simp[d,i2,el,c,x0,x1]
theorem zoT{B:D}{TT T2:List D}{n:Nat}(et:za8 [.ref l4] s=some (.tup TT,s))(h1:zas [B,.tup TT] s=some (.bl true,s1))(es:slB (.ref l4) (some 1) none s1=some (.ref n,s2))(et2:za8 [.ref n] s2=some (.tup T2,s2))(h2:zas [B,.tup T2] s2=some (.bl true,s3)) :
   mAsg (mLst (zab (zaq zas (zab (mVar 6) (zab (zaq za8 (zab (mVar 4) (mNil))) (mNil)))) (zab (zaq zas (zab (mVar 6) (zab (zaq za8 (zab (mSlB (mVar 4) (zbh (mCon (.int 1))) (zbi)) (mNil))) (mNil)))) (mNil)))) (gNm 9) [some (.ref p),some H,some F,some (.bl b),some (.ref l4),a5,some B,a7,a8,a9] s=some (.nx [some (.ref p),some H,some F,some (.bl b),some (.ref l4),a5,some B,a7,a8,some (.ref s3.length)],s3++[.lst [.bl true,.bl true]]):=by
 have d:mSlB (mVar 4) (zbh (mCon (.int 1))) (zbi) [some (.ref p),some H,some F,some (.bl b),some (.ref l4),a5,some B,a7,a8,a9] s1=some (.ref n,s2):=by unfold mSlB;simp[es]
 generalize mSlB (mVar 4) (zbh (mCon (.int 1))) (zbi)=M at *;simp[et,h1,d,et2,h2]
theorem zoR(hl:s[l9]?=some (.lst [.bl true,.bl true,.bl false,.bl false,.bl false])) :
   mIf (mTst (mBin neD (mVar 9) (mLst (zab (mCon (.bl true)) (zab (mCon (.bl true)) (zab (mCon (.bl false)) (zab (mCon (.bl false)) (zab (mCon (.bl false)) (mNil))))))))) (mRet (mCon (.bl false))) (zck) [some (.ref p),some H,some F,some (.bl b),some (.ref l4),a5,a6,a7,a8,some (.ref l9)] s=some (.nx [some (.ref p),some H,some F,some (.bl b),some (.ref l4),a5,a6,a7,a8,some (.ref l9)],s++[.lst [.bl true,.bl true,.bl false,.bl false,.bl false]]):=by
 have a1:(s++[O.lst [.bl true,.bl true,.bl false,.bl false,.bl false]])[l9]?=some (.lst [.bl true,.bl true,.bl false,.bl false,.bl false]):=by rw[Al (getElem?_lt hl)];exact hl
 have a2:=zbb s (.lst [.bl true,.bl true,.bl false,.bl false,.bl false]);generalize hs:s++[O.lst [.bl true,.bl true,.bl false,.bl false,.bl false]]=s2 at *;have e:∀ n:Nat,s2[n]?=some (.lst [.bl true,.bl true,.bl false,.bl false,.bl false])->toP 100 s2 (.ref n)=some (.list [.bool true,.bool true,.bool false,.bool false,.bool false]):=fun n hn=>by
   rw[toP];simp only[zbf,hn,Ae];rfl
 have en:neD (.ref l9) (.ref s.length) s2=some (.bl false,s2):=by
   unfold neD;rw[e _ a1,e _ a2];rfl
 simp[hs,en]
end
theorem zkD{B:D}{w h:Int}{KN:Nat}{T M:List Tl}{l4 l8:Nat}{st:Sto}(c:BdAt B w h KN)(a4:st[l4]?=some (.lst (T.map tD)))(a8:st[l8]?=some (.lst (M.map tD)))(hT:T.length<=500)(hM:∀ m∈M,tlB w h KN m=false) :
   ∃ st',mCI ⟨M.map tD,[(l8,M.map tD)]⟩ (gNm 0) za9 zao (M.map tD) [none,some B,some (.ref l4)] st=some (M.map fun _=>D.bl false,st')/\Gr st st' :=
 znH (f:=tD) (h:=fun _=>D.bl false) (R:=fun r=>∃ x,r=[x,some B,some (.ref l4)]) ⟨none,rfl⟩ (fun s g=>zcd ((g.old _ (getElem?_lt a8)).trans a8)) (fun m hm r s hr gs=>by
   obtain⟨x,rfl⟩:=hr;have a4':=(gs.old _ (getElem?_lt a4)).trans a4;have es:=zjE a4';rw[Ag,<-Fp] at es;have et:=zbq (zbb s (.lst ((T.take (T.length - 1)).map tD)));have ec:=zl8 (A:=(T.take (T.length - 1)).map tD) (x:=tD m) (s:=s++[.lst ((T.take (T.length - 1)).map tD)]) (by rw[Ag,Bl];omega);obtain⟨s2,e2,g2⟩:=zbO (B:=B) (T:=T.take (T.length - 1)++[m]) (st:=s++[.lst ((T.take (T.length - 1)).map tD)]) c (by rw[AN,Bl];simp;omega);have hf:((T.take (T.length - 1)++[m]).all (tlB w h KN)&&zdy ltP (T.take (T.length - 1)++[m]))=false:=by
     rw[List.all_append];simp[hM m hm]
   rw[hf] at e2;have em:(T.take (T.length - 1)++[m]).map tD=(T.take (T.length - 1)).map tD++[tD m]:=by simp
   rw[em] at e2;refine⟨[some (tD m),some B,some (.ref l4)],s2,rfl,rfl,?_,(Gr.app _ _).trans g2,_,rfl⟩;generalize (T.take (T.length - 1)).map tD=TT at *;generalize tD m=MM at *;have d:mSlC (mVar 2) (zbi) (zbh (mNeg (mCon (.int 1)))) [some MM,some B,some (.ref l4)] s=some (.ref s.length,s++[.lst TT]):=by
     have:negD (.int 1) s=some (.int (-1),s):=rfl;unfold mSlC;simp[this,es]
   unfold zao;generalize mSlC (mVar 2) (zbi) (zbh (mNeg (mCon (.int 1))))=MC at *;simp[d,et,ec,e2])
theorem zoS{p l4 l8 l9:Nat}{H F B:D}{a5 a7:Option D}{b:Bool}{s s1 s2 s3:Sto}{n:Nat}(ec:zbv (mWA (mVar 8)) 1 [6,4] (gNm 0) (za9) (zao) [some (.ref p),some H,some F,some (.bl b),some (.ref l4),a5,some B,a7,some (.ref l8),some (.ref l9)] s=some (.ref n,s1))(ea:addD (.ref l9) (.ref n) s1=some (.ref s1.length,s2)) :
   mAsg (mBin addD (mVar 9) (zbv (mWA (mVar 8)) 1 [6,4] (gNm 0) (za9) (zao))) (gNm 9) [some (.ref p),some H,some F,some (.bl b),some (.ref l4),a5,some B,a7,some (.ref l8),some (.ref l9)] s=some (.nx [some (.ref p),some H,some F,some (.bl b),some (.ref l4),a5,some B,a7,some (.ref l8),some (.ref s1.length)],s2):=by
 generalize zbv (mWA (mVar 8)) 1 [6,4] (gNm 0) (za9) (zao)=MC at *;simp[ec,ea]
theorem zka{p l4 w h:Nat}{e:Int}{S:List (Str×Int)}{K:List (List Str)}{T:List Tl}{a5 a6 a7 a8 a9:Option D}{st:Sto}(hwh:WH w h)(a4:st[l4]?=some (.lst (T.map tD)))(hl:T.length=w*h)(f:FlT h K.length T) :
   ∃ (b6 b7 b8 b9:Option D) (st':Sto),(mSeq (mAsg (mTup (zab (mVar 1) (zab (mVar 2) (zab (zaq za8 (zab (mSlB (mVar 4) (zbi) (zbh (mCon (.int 1)))) (mNil))) (mNil))))) (gNm 6)) (mSeq (mAsg (mBin ixA (mVar 4) (mNeg (mCon (.int 1)))) (gNm 7)) (mSeq (mAsg (mLst (zab (mBin addD (mSlB (mVar 7) (zbi) (zbh (mCon (.int 2)))) (mTup (zab (zaq lenD (zab (mBin ixA (mVar 1) (mCon (.int 2))) (mNil))) (mNil)))) (zab (mTup (zab (mBin addD (mBin ixA (mVar 7) (mCon (.int 0))) (mCon (.int 1))) (zab (mBin ixA (mVar 7) (mCon (.int 1))) (zab (mCon (.int 0)) (mNil))))) (zab (mTup (zab (mBin ixA (mVar 7) (mCon (.int 0))) (zab (mBin addD (mBin ixA (mVar 7) (mCon (.int 1))) (mCon (.int 1))) (zab (mCon (.int 0)) (mNil))))) (mNil))))) (gNm 8)) (mSeq (mAsg (mLst (zab (zaq zas (zab (mVar 6) (zab (zaq za8 (zab (mVar 4) (mNil))) (mNil)))) (zab (zaq zas (zab (mVar 6) (zab (zaq za8 (zab (mSlB (mVar 4) (zbh (mCon (.int 1))) (zbi)) (mNil))) (mNil)))) (mNil)))) (gNm 9)) (mSeq (mAsg (mBin addD (mVar 9) (zbv (mWA (mVar 8)) 1 [6,4] (gNm 0) (za9) (zao))) (gNm 9)) (mIf (mTst (mBin neD (mVar 9) (mLst (zab (mCon (.bl true)) (zab (mCon (.bl true)) (zab (mCon (.bl false)) (zab (mCon (.bl false)) (zab (mCon (.bl false)) (mNil))))))))) (mRet (mCon (.bl false))) (zck))))))) [some (.ref p),some (hD e S K),some (.tup [.int (w:Int),.int (h:Int)]),some (.bl true),some (.ref l4),a5,a6,a7,a8,a9] st=some (.nx [some (.ref p),some (hD e S K),some (.tup [.int (w:Int),.int (h:Int)]),some (.bl true),some (.ref l4),a5,b6,b7,b8,b9],st')/\Gr st st':=by
 have hT:T.length<=500:=by rw[hl];rcases hwh with ⟨rfl,rfl⟩ | ⟨rfl,rfl⟩ <;> decide
 have i2:∀ s:Sto,ixA (hD e S K) (.int 2) s=some (.tup (K.map zcb),s):=fun s=>za2 (by decide) rfl;have c:BdAt (bD (hD e S K) (w:Int) (h:Int) (T.take 1)) (w:Int) (h:Int) K.length:=znX;have hB:D.tup [hD e S K,.tup [.int (w:Int),.int (h:Int)],.tup ((T.map tD).take 1)]=bD (hD e S K) (w:Int) (h:Int) (T.take 1):=by unfold bD;rw[Fp]
 -- the bed of one tile
 have es1:=zk3 a4;have et1:=zbq (zbb st (.lst ((T.map tD).take 1)));have g1:=Gr.app st [.lst ((T.map tD).take 1)];have r1:=zoW (p:=p) (H:=hD e S K) (F:=.tup [.int (w:Int),.int (h:Int)]) (b:=true) (a5:=a5) (a6:=a6) (a7:=a7) (a8:=a8) (a9:=a9) es1 et1;rw[hB] at r1;have b4:=(g1.old _ (getElem?_lt a4)).trans a4;generalize hs1:st++[O.lst ((T.map tD).take 1)]=s1 at *
 -- the last tile
 obtain⟨k,hk⟩:=zl4 hwh hl f;have ex:=zl0 (x:=tD ((w:Int) - 1,(h:Int) - 1,k)) b4 (by rw[Ag,AL,hk];rfl);have r2:=zoV (p:=p) (H:=hD e S K) (F:=.tup [.int (w:Int),.int (h:Int)]) (b:=true) (a5:=a5) (a6:=some (bD (hD e S K) (w:Int) (h:Int) (T.take 1))) (a7:=a7) (a8:=a8) (a9:=a9) ex;have r3:=zoU (p:=p) (l4:=l4) (H:=hD e S K) (F:=.tup [.int (w:Int),.int (h:Int)]) (b:=true) (a5:=a5) (a6:=some (bD (hD e S K) (w:Int) (h:Int) (T.take 1))) (a8:=a8) (a9:=a9) (x:=(w:Int) - 1) (y:=(h:Int) - 1) (k:=k) (N:=(K.length:Int)) (i2 s1) (by rw[Ag]);obtain⟨M,hM,hMb⟩:∃ M:List Tl,[D.tup [.int ((w:Int) - 1),.int ((h:Int) - 1),.int (K.length:Int)],D.tup [.int ((w:Int) - 1+1),.int ((h:Int) - 1),.int 0],D.tup [.int ((w:Int) - 1),.int ((h:Int) - 1+1),.int 0]]=M.map tD/\(∀ m∈M,tlB (w:Int) (h:Int) K.length m=false)/\M.length=3:=by
   refine⟨[((w:Int) - 1,(h:Int) - 1,(K.length:Int)),((w:Int) - 1+1,(h:Int) - 1,0),((w:Int) - 1,(h:Int) - 1+1,0)],rfl,fun m hm=>?_,rfl⟩;simp only[A8,A1,or_false] at hm;unfold tlB plB wh
   rcases hm with rfl | rfl | rfl
   . simp
     intros
     omega
   . simp
     intros
     omega
   . simp
     intros
     omega
 rw[hM] at r3;have a8':=zbb s1 (.lst (M.map tD));have g2:=Gr.app s1 [.lst (M.map tD)];have c4:=(g2.old _ (getElem?_lt b4)).trans b4;generalize hs2:s1++[O.lst (M.map tD)]=s2 at *
 -- the standings
 obtain⟨s3,e3,g3⟩:=zbO (B:=bD (hD e S K) (w:Int) (h:Int) (T.take 1)) (T:=T) (st:=s2) c (by omega);have v3:(T.all (tlB (w:Int) (h:Int) K.length)&&zdy ltP T)=true:=by rw[List.all_eq_true.mpr (zkm hwh hl f),zjh hwh f];rfl
 rw[v3] at e3;have c4':=(g3.old _ (getElem?_lt c4)).trans c4;have es4:=zk2 c4';rw[<-Fn] at es4;have et4:=zbq (zbb s3 (.lst ((T.drop 1).map tD)));have g4:=Gr.app s3 [.lst ((T.drop 1).map tD)];generalize hs4:s3++[O.lst ((T.drop 1).map tD)]=s4 at *;obtain⟨s5,e5,g5⟩:=zbO (B:=bD (hD e S K) (w:Int) (h:Int) (T.take 1)) (T:=T.drop 1) (st:=s4) c (by rw[C9];omega);have v5:((T.drop 1).all (tlB (w:Int) (h:Int) K.length)&&zdy ltP (T.drop 1))=true:=by rw[List.all_eq_true.mpr (fun t ht=>zkm hwh hl f t (DU ht)),zkl hwh f];rfl
 rw[v5] at e5;have r4:=zoT (p:=p) (H:=hD e S K) (F:=.tup [.int (w:Int),.int (h:Int)]) (b:=true) (a5:=a5) (a7:=some (tD ((w:Int) - 1,(h:Int) - 1,k))) (a8:=some (.ref s1.length)) (a9:=a9) (zbq c4) e3 es4 et4 e5;have g25:=(g3.trans g4).trans g5;have a9':=zbb s5 (.lst [.bl true,.bl true]);have g6:=Gr.app s5 [.lst [.bl true,.bl true]];have d4:=((g25.trans g6).old _ (getElem?_lt c4)).trans c4;have d8:=((g25.trans g6).old _ (getElem?_lt a8')).trans a8';generalize hs6:s5++[O.lst [.bl true,.bl true]]=s6 at *;obtain⟨s7,e7,g7⟩:=zkD c d4 d8 hT hMb.1;have fm:M.map (fun _=>D.bl false)=[.bl false,.bl false,.bl false]:=by
   match M,hMb.2 with
   | [_,_,_],_=>rfl
 rw[fm] at e7;have ecm:zbv (mWA (mVar 8)) 1 [6,4] (gNm 0) (za9) (zao) [some (.ref p),some (hD e S K),some (.tup [.int (w:Int),.int (h:Int)]),some (.bl true),some (.ref l4),a5,some (bD (hD e S K) (w:Int) (h:Int) (T.take 1)),some (tD ((w:Int) - 1,(h:Int) - 1,k)),some (.ref s1.length),some (.ref s5.length)] s6=some (.ref s7.length,s7++[.lst [.bl false,.bl false,.bl false]]):=by
   have hw:mWA (mVar 8) [some (.ref p),some (hD e S K),some (.tup [.int (w:Int),.int (h:Int)]),some (.bl true),some (.ref l4),a5,some (bD (hD e S K) (w:Int) (h:Int) (T.take 1)),some (tD ((w:Int) - 1,(h:Int) - 1,k)),some (.ref s1.length),some (.ref s5.length)] s6=some (⟨M.map tD,[(s1.length,M.map tD)]⟩,s6):=by
     generalize M.map tD=MM at *;unfold mWA;simp[zi0,zbf,d8]
   rw[za5,hw];simp only[Ae];rw[show rho0 [some (.ref p),some (hD e S K),some (.tup [.int (w:Int),.int (h:Int)]),some (.bl true),some (.ref l4),a5,some (bD (hD e S K) (w:Int) (h:Int) (T.take 1)),some (tD ((w:Int) - 1,(h:Int) - 1,k)),some (.ref s1.length),some (.ref s5.length)] 1 [6,4]=[none,some (bD (hD e S K) (w:Int) (h:Int) (T.take 1)),some (.ref l4)] from rfl,e7];simp
 have a9'':=(g7.old _ (getElem?_lt a9')).trans a9';have x9:(s7++[O.lst [.bl false,.bl false,.bl false]])[s5.length]?=some (.lst [.bl true,.bl true]):=by rw[Al (getElem?_lt a9'')];exact a9''
 have ea:=zjn x9 (zbb s7 (.lst [.bl false,.bl false,.bl false])) (by simp);have r5:=zoS (p:=p) (H:=hD e S K) (F:=.tup [.int (w:Int),.int (h:Int)]) (b:=true) (a5:=a5) (a7:=some (tD ((w:Int) - 1,(h:Int) - 1,k))) (s:=s6) (s3:=[]) ecm ea;have g8:=Gr.app s7 [.lst [.bl false,.bl false,.bl false]];generalize hs8:s7++[O.lst [.bl false,.bl false,.bl false]]=s8 at *;have r6:=zoR (p:=p) (l4:=l4) (H:=hD e S K) (F:=.tup [.int (w:Int),.int (h:Int)]) (b:=true) (a5:=a5) (a6:=some (bD (hD e S K) (w:Int) (h:Int) (T.take 1))) (a7:=some (tD ((w:Int) - 1,(h:Int) - 1,k))) (a8:=some (.ref s1.length)) (zbb s8 (.lst ([.bl true,.bl true]++[.bl false,.bl false,.bl false])));refine⟨_,_,_,_,_,zaE r1 (zaE r2 (zaE r3 (zaE r4 (zaE r5 r6)))),?_⟩;exact (((((g1.trans g2).trans (g25.trans g6)).trans g7).trans g8).trans (Gr.app _ _)).trans (Gr.app _ _)
theorem zkC{p f w h:Nat}{e:Int}{K:List (List Str)}{b:Bool}{a4 a5 a6 a7 a8 a9:Option D}{st:Sto}(hp:zbH p st)(he1:1<=e)(he2:e<=4)(hf:f+3<=676)(hK:∀ k∈K,KiOk (nms f 3 2) k)(hK1:1<=K.length)(hK2:K.length<=120)(h1:1<=h)(h2:h<=13)(hw:w<=13)(hb:(wh (w:Int) 1 12&&wh (h:Int) 1 12)=b)(hwh:b=true->WH w h) :
   ∃ (b4 b5 b6 b7 b8 b9:Option D) (st':Sto),Y3 (zaM [some (.ref p),some (hD e (stk f 3 2 1) K),some (.tup [.int (w:Int),.int (h:Int)]),some (.bl b),a4,a5,a6,a7,a8,a9] st=some (.nx [some (.ref p),some (hD e (stk f 3 2 1) K),some (.tup [.int (w:Int),.int (h:Int)]),some (.bl b),b4,b5,b6,b7,b8,b9],st')) (zbH p st') (Fr p st st'):=by
 have hKn:K≠[]:=fun z=>by rw[z] at hK1;simp at hK1
 have hlet:=zi2 (f:=f) (n:=3) (L:=2) (s:=1) (by decide) (by decide);have hlen:(stk f 3 2 1).length<=1000:=by unfold stk;rw[Ag,zbr];omega
 have hK':∀ k∈K,KiOk ((stk f 3 2 1).map (·.1)) k:=by rw[zcT];exact hK
 have hBt:hB e (stk f 3 2 1) K=true:=by rw[zl2 (by decide) (by decide) hf hKn,zmi he1 he2];rfl
 have i2:∀ s:Sto,ixA (hD e (stk f 3 2 1) K) (.int 2) s=some (.tup (K.map zcb),s):=fun s=>za2 (by decide) rfl;have q0:TI p st.length h K.length 0 [] st (st++[.lst []]):=⟨zbb st _,by simp,fun j t hj=>by simp at hj,hp.gr (Gr.app _ _),Fr.app p st _⟩
 obtain⟨b5,T,s2,el,q⟩:=zgu (H:=hD e (stk f 3 2 1) K) (ks:=K.map zcb) (a3:=some (.bl b)) (a5:=a5) (a6:=a6) (a7:=a7) (a8:=a8) (a9:=a9) h1 h2 hw i2 (Ag _) hK1 (by omega) hp.lt (Af _) q0;have hTl:T.length<=169:=by rw[q.len];exact Fe hw h2
 have ef:mFor (mR1 (mBin ixA (mVar 2) (mCon (.int 0)))) (gNm 5) (zax) [some (.ref p),some (hD e (stk f 3 2 1) K),some (.tup [.int (w:Int),.int (h:Int)]),some (.bl b),some (.ref st.length),a5,a6,a7,a8,a9] (st++[.lst []])=some (.nx [some (.ref p),some (hD e (stk f 3 2 1) K),some (.tup [.int (w:Int),.int (h:Int)]),some (.bl b),some (.ref st.length),b5,a6,a7,a8,a9],s2):=by
   have hr:mR1 (mBin ixA (mVar 2) (mCon (.int 0))) [some (.ref p),some (hD e (stk f 3 2 1) K),some (.tup [.int (w:Int),.int (h:Int)]),some (.bl b),some (.ref st.length),a5,a6,a7,a8,a9] (st++[.lst []])=some (⟨run 0 w,[]⟩,st++[.lst []]):=by
     have j0:∀ s:Sto,ixA (.tup [.int (w:Int),.int (h:Int)]) (.int 0) s=some (.int (w:Int),s):=fun s=>za2 (by decide) rfl;refine zcA (M:=(w:Int)) rfl ?_ (by omega);generalize hD e (stk f 3 2 1) K=P at *;generalize (w:Int)=ww at *;generalize (h:Int)=hh at *;simp[j0]
   rw[zcs,hr];exact el
 obtain⟨s3,e3,g3⟩:=zmf (e:=e) (w:=(w:Int)) (h:=(h:Int)) (T:=T) (st:=s2) hlet hlen hK' (by omega) (by omega) hBt;have v3:((wh (w:Int) 1 12&&wh (h:Int) 1 12)&&(T.all (tlB (w:Int) (h:Int) K.length)&&zdy ltP T))=b:=by
   rw[hb]
   cases b with
   | false=>rfl
   | true=>rw[List.all_eq_true.mpr (zkm (hwh rfl) q.len q.flt),zjh (hwh rfl) q.flt];rfl
 rw[v3] at e3;obtain⟨s4,e4,g4⟩:=zmf (e:=e) (w:=(w:Int)) (h:=(h:Int)) (T:=[]) (st:=s3) hlet hlen hK' (by omega) (by simp) hBt;have v4:((wh (w:Int) 1 12&&wh (h:Int) 1 12)&&(([]:List Tl).all (tlB (w:Int) (h:Int) K.length)&&zdy ltP ([]:List Tl)))=b:=by rw[hb];cases b <;> rfl
 rw[v4] at e4;have r3:=zoX (p:=p) (H:=hD e (stk f 3 2 1) K) (F:=.tup [.int (w:Int),.int (h:Int)]) (a5:=b5) (a6:=a6) (a7:=a7) (a8:=a8) (a9:=a9) (zbq q.at_) e3 e4;have g34:=g3.trans g4;have r0:mAsg (mLst (mNil)) (gNm 4) [some (.ref p),some (hD e (stk f 3 2 1) K),some (.tup [.int (w:Int),.int (h:Int)]),some (.bl b),a4,a5,a6,a7,a8,a9] st=some (.nx [some (.ref p),some (hD e (stk f 3 2 1) K),some (.tup [.int (w:Int),.int (h:Int)]),some (.bl b),some (.ref st.length),a5,a6,a7,a8,a9],st++[.lst []]):=by
   generalize hD e (stk f 3 2 1) K=P at *;simp
 cases b with
 | false=>exact⟨_,_,_,_,_,_,s4,zaE r0 (zaE ef (zaE r3 rfl)),q.pot.gr g34,q.fr.trans (g34.fr p)⟩
 | true =>
   obtain⟨c6,c7,c8,c9,s5,e5,g5⟩:=zka (p:=p) (e:=e) (S:=stk f 3 2 1) (K:=K) (a5:=b5) (a6:=a6) (a7:=a7) (a8:=a8) (a9:=a9) (hwh rfl) ((g34.old _ (getElem?_lt q.at_)).trans q.at_) q.len q.flt;exact⟨_,_,_,_,_,_,s5,zaE r0 (zaE ef (zaE r3 e5)),q.pot.gr (g34.trans g5),q.fr.trans ((g34.trans g5).fr p)⟩
theorem zmd{p:Nat}{kn:Int}{H:D}{s s1 s2:Sto}(e1:zaw [.ref p,.ref s.length] (s++[.lst [.int 1,.int 9,.int 120]])=some (.int kn,s1))(e2:zav [.ref p,.int 3,.int kn,.int 2,.int 1] s1=some (H,s2)) :
   mAsg (zaq zav (zab (mVar 0) (zab (mCon (.int 3)) (zab (zaq zaw (zab (mVar 0) (zab (mLst (zab (mCon (.int 1)) (zab (mCon (.int 9)) (zab (mCon (.int 120)) (mNil))))) (mNil)))) (zab (mCon (.int 2)) (zab (mCon (.int 1)) (mNil))))))) (gNm 1) [some (.ref p),none,none,none,none,none,none,none,none,none] s=some (.nx [some (.ref p),some H,none,none,none,none,none,none,none,none],s2):=by
 simp[e1,e2]
noncomputable def fls:List D:=[.tup [.tup [.int 12,.int 12],.bl true],.tup [.tup [.int 13,.int 12],.bl false],.tup [.tup [.int 12,.int 13],.bl false],.tup [.tup [.int 1,.int 1],.bl true],.tup [.tup [.int 0,.int 1],.bl false]]
theorem zme{p:Nat}{st:Sto}(hp:zbH p st):∃ st',Y3 (zaU [.ref p] st=some (.bl true,st')) (zbH p st') (Fr p st st'):=by
 obtain⟨k0,s1,e1,hk,p1,f1⟩:=zj5 (xs:=[1,9,120]) hp (by decide) (by decide);obtain⟨kn,rfl,hk1,hk2⟩:∃ kn:Nat,k0=(kn:Int)/\1<=kn/\kn<=120:=by
   simp only[A8,A1,or_false] at hk
   rcases hk with rfl | rfl | rfl
   . exact⟨1,rfl,by decide,by decide⟩
   . exact⟨9,rfl,by decide,by decide⟩
   . exact⟨120,rfl,by decide,by decide⟩
 obtain⟨e,f,K,s2,e2,he1,he2,hf,hK,hKl,p2,f2⟩:=zhs (n:=3) (L:=2) (s:=1) p1 (.inr (.inl rfl)) (.inl rfl) hk2;have e2:zav [.ref p,.int 3,.int (kn:Int),.int 2,.int 1] s1=some (hD e (stk f 3 2 1) K,s2):=e2;have key:=zdA (W:=⟨fls,[]⟩) (g:=gTp 2 (gC (gNm 2) (gC (gNm 3) (gN0)))) (m:=zaM) (ds:=fls) (ρ:=[some (.ref p),some (hD e (stk f 3 2 1) K),none,none,none,none,none,none,none,none]) (st:=s2)
   (Inv:=fun i ρ s=>Y3 (∃ b2 b3 b4 b5 b6 b7 b8 b9,ρ=[some (.ref p),some (hD e (stk f 3 2 1) K),b2,b3,b4,b5,b6,b7,b8,b9]) (zbH p s) (Fr p st s))
   ⟨⟨_,_,_,_,_,_,_,_,rfl⟩,p2,f1.trans f2⟩ (fun _ _ _ _ _=>rfl) (fun i dd ρ s hdd hI=>by
     obtain⟨⟨b2,b3,b4,b5,b6,b7,b8,b9,rfl⟩,q,fr⟩:=hI;have go:∀ (w h:Nat) (t:Bool),1<=h->h<=13->w<=13->(wh (w:Int) 1 12&&wh (h:Int) 1 12)=t->(t=true->WH w h)->dd=.tup [.tup [.int (w:Int),.int (h:Int)],.bl t]->∃ ρ1 s1 ρ2 s2,gTp 2 (gC (gNm 2) (gC (gNm 3) (gN0))) dd [some (.ref p),some (hD e (stk f 3 2 1) K),b2,b3,b4,b5,b6,b7,b8,b9] s=some (ρ1,s1)/\zaM ρ1 s1=some (.nx ρ2,s2)/\Y3 (∃ b2 b3 b4 b5 b6 b7 b8 b9,ρ2=[some (.ref p),some (hD e (stk f 3 2 1) K),b2,b3,b4,b5,b6,b7,b8,b9]) (zbH p s2) (Fr p st s2):=fun w h t h1 h2 hw ht hwh ed=>by
       obtain⟨c4,c5,c6,c7,c8,c9,s',e',p',f'⟩:=zkC (a4:=b4) (a5:=b5) (a6:=b6) (a7:=b7) (a8:=b8) (a9:=b9) q he1 he2 hf hK (by omega) (by omega) h1 h2 hw ht hwh;subst ed;exact⟨[some (.ref p),some (hD e (stk f 3 2 1) K),some (.tup [.int (w:Int),.int (h:Int)]),some (.bl t),b4,b5,b6,b7,b8,b9],s,_,s',rfl,e',⟨_,_,_,_,_,_,_,_,rfl⟩,p',fr.trans f'⟩
     match i,hdd with
     | 0,hdd=>exact go 12 12 true (by decide) (by decide) (by decide) (by decide) (fun _=>.inl ⟨rfl,rfl⟩) (Ai hdd).symm
     | 1,hdd=>exact go 13 12 false (by decide) (by decide) (by decide) (by decide) (fun z=>by cases z) (Ai hdd).symm
     | 2,hdd=>exact go 12 13 false (by decide) (by decide) (by decide) (by decide) (fun z=>by cases z) (Ai hdd).symm
     | 3,hdd=>exact go 1 1 true (by decide) (by decide) (by decide) (by decide) (fun _=>.inr ⟨rfl,rfl⟩) (Ai hdd).symm
     | 4,hdd=>exact go 0 1 false (by decide) (by decide) (by decide) (by decide) (fun z=>by cases z) (Ai hdd).symm)
 obtain⟨ρ',s',el,⟨b2,b3,b4,b5,b6,b7,b8,b9,rfl⟩,q,fr⟩:=key;refine⟨s',zcc ?_,q,fr⟩;unfold zbB;refine zaE (zmd e1 e2) ?_;refine zaE (ρ1:=[some (.ref p),some (hD e (stk f 3 2 1) K),b2,b3,b4,b5,b6,b7,b8,b9]) (s1:=s') ?_ (by simp);have hw:∀ ρ:Rho,mWA (mTup (zab (mTup (zab (mTup (zab (mCon (.int 12)) (zab (mCon (.int 12)) (mNil)))) (zab (mCon (.bl true)) (mNil)))) (zab (mTup (zab (mTup (zab (mCon (.int 13)) (zab (mCon (.int 12)) (mNil)))) (zab (mCon (.bl false)) (mNil)))) (zab (mTup (zab (mTup (zab (mCon (.int 12)) (zab (mCon (.int 13)) (mNil)))) (zab (mCon (.bl false)) (mNil)))) (zab (mTup (zab (mTup (zab (mCon (.int 1)) (zab (mCon (.int 1)) (mNil)))) (zab (mCon (.bl true)) (mNil)))) (zab (mTup (zab (mTup (zab (mCon (.int 0)) (zab (mCon (.int 1)) (mNil)))) (zab (mCon (.bl false)) (mNil)))) (mNil))))))) ρ s2=some (⟨fls,[]⟩,s2):=fun ρ=>by
   unfold mWA fls;simp[zi0]
 rw[zcs,hw];exact el
theorem zjL{ns:List Int}{k:Int}{a2:Option D}{s:Sto}(h0:0<=k)(h1:k < 1000):∃ (b2:Option D) (s':Sto),zfB [some (.kl (ns.map D.int)),some (.int k),a2] s=some (.nx [some (.kl (ns.map D.int)),some (.int k),b2],s'):=by
 obtain⟨s1,e1,p1,g1⟩:=zmV (ns:=ns) (k:=k) (st:=s) h0 h1;obtain⟨s2,e2,p2,f2⟩:=zit p1;obtain⟨s3,e3,p3,f3⟩:=zme p2;refine⟨some (.ref s.length),s3,?_⟩;generalize ns.map D.int=NS at *;unfold zfB;refine zaE (ρ1:=[some (.kl NS),some (.int k),some (.ref s.length)]) (s1:=s1) (by simp[e1]) ?_;simp[e2,e3]
theorem zkc(ns:List Int)(hl:ns.length<=63):∃ st,zkF [.kl (ns.map D.int)] []=some (.bl true,st):=by
 obtain⟨M,hM,hM4⟩:∃ M:Nat,(if (1:Int) < (if (4:Int) < (ns.length:Int) then 4 else (ns.length:Int)) then (if (4:Int) < (ns.length:Int) then 4 else (ns.length:Int)) else 1)=(M:Int)/\M<=4:=by
   by_cases h:(4:Int) < (ns.length:Int)
   . exact⟨4,by simp[h],by omega⟩
   . by_cases h2:(1:Int) < (ns.length:Int)
     . exact⟨ns.length,by simp[h,h2],by omega⟩
     . exact⟨1,by simp[h,h2],by omega⟩
 have key:=zdA (W:=⟨run 0 M,[]⟩) (g:=gNm 1) (m:=zfB) (ds:=run 0 M) (ρ:=[some (.kl (ns.map D.int)),none,none]) (st:=[])
   (Inv:=fun i ρ s=>∃ a b,ρ=[some (.kl (ns.map D.int)),a,b]) ⟨_,_,rfl⟩ (fun _ _ _ _ _=>rfl) (fun i dd ρ s hd hI=>by
     obtain⟨a1,a2,rfl⟩:=hI;obtain⟨hi,rfl⟩:=zcO hd;obtain⟨b2,s',e⟩:=zjL (ns:=ns) (k:=(i:Int)) (a2:=a2) (s:=s) (by omega) (by omega);exact⟨[some (.kl (ns.map D.int)),some (.int (i:Int)),a2],s,_,s',rfl,e,_,_,rfl⟩)
 obtain⟨ρ',s2,el,a1,a2,rfl⟩:=key;refine⟨s2,zcc ?_⟩;unfold znY;have elen:lenD [.kl (ns.map D.int)] []=some (.int (ns.length:Int),[]):=by rw[zkb,Ag]
 have er:mR1 (zaq zlP (zab (mCon (.int 1)) (zab (zaq zlO (zab (zaq lenD (zab (mVar 0) (mNil))) (zab (mCon (.int 4)) (mNil)))) (mNil)))) [some (.kl (ns.map D.int)),none,none] []=some (⟨run 0 M,[]⟩,[]):=by
   refine zcA (s1:=[]) (k:=M) hM ?_ (by omega);generalize ns.map D.int=NS at *;generalize (ns.length:Int)=K at *;simp[elen,zlO,zlP]
 refine zaE (ρ1:=[some (.kl (ns.map D.int)),a1,a2]) (s1:=s2) (by
   show mFor _ _ _ [some (.kl (ns.map D.int)),none,none] []=_;rw[zcs,er];exact el) ?_
 simp
end L2.MP.stickytiles_k09_houses_and_beds_at_their
namespace L2.MP.stickytiles_k09_houses_and_beds_at_their
open PySem L2 L2.MP PySem.Spec PyProof.Rows
theorem zmC{K:Ab}{H:Hp}{a:Addr}{ns:List Int}(hl:ns.length<=63)(hO:Only H)(hS:SqL K H a (ns.map V.int)):spM K 1 zkF [.ref a] H (fun v _=>v=.bl true) fun _ _ _=>False:=by
 obtain⟨st,e⟩:=zkc ns hl;exact zjy hO hS e
theorem walk{l:Dp}{q:Program}{loose:List Str}{XP:(Str->Option Value)->Heap->Prop}{YP:World->Heap->Prop}{d:DefRec}{K:Params->Ab}(hn:l.most=some 63)(hdf:d.params.defaults=[])
   (hY:∀ (w:World) (h:Heap),YP w h->(K w.params).In h)
   (F:∀ (w:World) (mg:Str->Option Value) (fa:Addr) (h:Heap),(K w.params).In h->h.Ns mainGlobals mg->mg d.name=some (.ref fa) ->
     ∃ fd:FuncData,(∀ (s:Shared) (u:Value),BindsTo s fd ⟨[u],[]⟩ [("_law_script",u)])/\∀ base:Heap,(K w.params).In base->base.Ns mainGlobals mg->FnOk l.prog w (K w.params) mg base CX0 7 fa fd ["_law_script"] (spM (K w.params) 1 zkF)) :
   Fi q loose XP YP l.row.toRowW d [] (fun f vs=>EL f vs) :=
 L2.walk_of (n:=63) (k:=7) (x:="_law_script") (CX:=fun _=>CX0) (sp:=fun w=>spM (K w.params) 1 zkF) hn (by decide) hdf ⟨rfl,by decide,by decide,rfl⟩ hY F (fun _ _ a ns hl hO hS=>zmC hl hO hS) fun _ _ _ _ _ z=>z
end L2.MP.stickytiles_k09_houses_and_beds_at_their
open PySem PySem.W PyProof.Rows
set_option maxRecDepth 100000 in
set_option maxHeartbeats 0 in
theorem PySem.Challenge.cw_stickytiles_k09_houses_and_beds_at_their_holds : PySem.Challenge.rw_stickytiles_k09_houses_and_beds_at_their.Holds := by
 w_on;o_law;k_head;(case hw=>w_witness2)
 k_fill
 refine L2.MP.stickytiles_k09_houses_and_beds_at_their.walk (l:=PySem.Challenge.rw_stickytiles_k09_houses_and_beds_at_their) rfl rfl (fun w h Y=>PySem.W.kIn_of Y) ?F
 case F =>
   intro w mg fa h KX G hmg;refine' L2.MP.stickytiles_k09_houses_and_beds_at_their.all_mk KX G hmg (L2.MP.zdb ?a0 ?l0 ?c0 ?k0) (L2.MP.zdb ?a1 ?l1 ?c1 ?k1) (L2.MP.zdb ?a2 ?l2 ?c2 ?k2) (L2.MP.zdb ?a3 ?l3 ?c3 ?k3) (L2.MP.zdb ?a4 ?l4 ?c4 ?k4) (L2.MP.zdb ?a5 ?l5 ?c5 ?k5) (L2.MP.zdb ?a6 ?l6 ?c6 ?k6) (L2.MP.zdb ?a7 ?l7 ?c7 ?k7) (L2.MP.zdb ?a8 ?l8 ?c8 ?k8) (L2.MP.zdb ?a9 ?l9 ?c9 ?k9) (L2.MP.zdb ?a10 ?l10 ?c10 ?k10) (L2.MP.zdb ?a11 ?l11 ?c11 ?k11) (L2.MP.zdb ?a12 ?l12 ?c12 ?k12) (L2.MP.zdb ?a13 ?l13 ?c13 ?k13) (L2.MP.zdb ?a14 ?l14 ?c14 ?k14) (L2.MP.zdb ?a15 ?l15 ?c15 ?k15) (L2.MP.zdb ?a16 ?l16 ?c16 ?k16) (L2.MP.zdb ?a17 ?l17 ?c17 ?k17) (L2.MP.zdb ?a18 ?l18 ?c18 ?k18) (L2.MP.zdb ?a19 ?l19 ?c19 ?k19) (L2.MP.zdb ?a20 ?l20 ?c20 ?k20) (L2.MP.zdb ?a21 ?l21 ?c21 ?k21) (L2.MP.zdb ?a22 ?l22 ?c22 ?k22) ?z0 ?z1 ?z2 ?z3 ?z4 ?z5 ?z6 ?z7 ?z8 ?z9 ?z10 ?z11 ?z12 ?z13 ?y0 ?y1
   (case a0=>k_is);(case l0=>k_is);(case c0=>k_is);(case k0=>k_is)
   (case a1=>k_is);(case l1=>k_is);(case c1=>k_is);(case k1=>k_is)
   (case a2=>k_is);(case l2=>k_is);(case c2=>k_is);(case k2=>k_is)
   (case a3=>k_is);(case l3=>k_is);(case c3=>k_is);(case k3=>k_is)
   (case a4=>k_is);(case l4=>k_is);(case c4=>k_is);(case k4=>k_is)
   (case a5=>k_is);(case l5=>k_is);(case c5=>k_is);(case k5=>k_is)
   (case a6=>k_is);(case l6=>k_is);(case c6=>k_is);(case k6=>k_is)
   (case a7=>k_is);(case l7=>k_is);(case c7=>k_is);(case k7=>k_is)
   (case a8=>k_is);(case l8=>k_is);(case c8=>k_is);(case k8=>k_is)
   (case a9=>k_is);(case l9=>k_is);(case c9=>k_is);(case k9=>k_is)
   (case a10=>k_is);(case l10=>k_is);(case c10=>k_is);(case k10=>k_is)
   (case a11=>k_is);(case l11=>k_is);(case c11=>k_is);(case k11=>k_is)
   (case a12=>k_is);(case l12=>k_is);(case c12=>k_is);(case k12=>k_is)
   (case a13=>k_is);(case l13=>k_is);(case c13=>k_is);(case k13=>k_is)
   (case a14=>k_is);(case l14=>k_is);(case c14=>k_is);(case k14=>k_is)
   (case a15=>k_is);(case l15=>k_is);(case c15=>k_is);(case k15=>k_is)
   (case a16=>k_is);(case l16=>k_is);(case c16=>k_is);(case k16=>k_is)
   (case a17=>k_is);(case l17=>k_is);(case c17=>k_is);(case k17=>k_is)
   (case a18=>k_is);(case l18=>k_is);(case c18=>k_is);(case k18=>k_is)
   (case a19=>k_is);(case l19=>k_is);(case c19=>k_is);(case k19=>k_is)
   (case a20=>k_is);(case l20=>k_is);(case c20=>k_is);(case k20=>k_is)
   (case a21=>k_is);(case l21=>k_is);(case c21=>k_is);(case k21=>k_is)
   (case a22=>k_is);(case l22=>k_is);(case c22=>k_is);(case k22=>k_is)
   (case z0=>k_is);(case z1=>k_is);(case z2=>k_is);(case z3=>k_is);(case z4=>k_is);(case z5=>k_is);(case z6=>k_is);(case z7=>k_is);(case z8=>k_is);(case z9=>k_is);(case z10=>k_is);(case z11=>k_is);(case z12=>k_is);(case z13=>k_is);(case y0=>k_is);(case y1=>k_is)
