import PyProof.Rows.All
import Wide.All
import OpenK.AllK
import Wide.FinOn
import Lean
import PyProof.EqAt
import PyProof.EqKinds
import PyProof.TupleCall
import KE.KRevSl
import PyProof.AttrMissHeap
import KE.KDictOf
import PyProof.StrWalks
import PyProof.ListStr
import PyProof.EnumMake
import PyProof.Rows.Range3
import PyProof.Rows.StrIndexOr
import KE.KRevIter
import PyProof.SumWalk
import PyProof.ReprRoads
import PyProof.DictWalks
import PyProof.FitsBits
import PyProof.CallStr
import PyProof.Rows.FStr
import PyProof.Rows.StrNews
import KE.KIntText
import PyProof.Rows.MinMaxN
import PyProof.StrCalls
import KE.KDictList
import PyProof.RulesTry
import PyProof.Rows.RuleIs
import KE.KDictSum
import PyProof.DictTruth
import PyProof.MinMaxWalk
import PyProof.Rows.SetFrom
import PyProof.ListMulRoad
import PyProof.FactsAll.tuple_2
import PyProof.TupleOfStr
import PyProof.WalkInts
import PyProof.WalksMore
import PyProof.RowDictHeap
import KE.KItemsList
import PyProof.Draws
import PyProof.StrLawsIn
import PyProof.Rows.StrLawsPart
import PyProof.StrLawsChain
import PyProof.Rows.StrIntSpec
import PyProof.StrLawsTight
import PyProof.Rows.ReprOcc
import PySem.Challenge.RW_stickytiles_k49_walked_beds_formed
set_option maxHeartbeats 8000000
set_option maxRecDepth 100000
open PySem renaming wpAny_bind→Aa,wpAny_pure→Ad,mem_of_lookup→AM,wpAny_newObj_type→AQ,wpAny_call_entry→A5,wpAny_holding→Bg,wpAny_mono→Bj,wpAny_callSpecial?_slot→Bm,wpAny_setState_of→Bn,wpAny_ite_split→Bt,wpAny_setField→Bz,wpAny_askSetting→BA,wpAny_passesOwn→BI,wpAny_truthy_bool→BL,wpAny_getItem_str_slice→BX,wpAny_field→Cj,post_val_or_str→Cp,codeAny_builtin→Cs,wpAny_Call_Name_kw→Ct,wpAny_pyIter_list→CA,wpAny_pyIter_enum→CC,wpAny_execs_nil→CK,codeAny_mono→CM,wpAny_typeOf→CO,pushCells_keeps→CP,wpAny_setEntries_of→C4,wpAny_seqItems→C5,sizeLine_eq→C6,tupleKind_room_in1→C9,wpAny_standAt→Dh,wpAny_letOwnedTupleGo_enum→Dk,wpAny_rule→Dr,wpAny_pyNext_enum_itemD→DG,wpAny_pyNext_enum_endD→DW,builtinLookup_eq_fast→D2,isSubtype_type→D3,plainId_quiet→Ea,seqIndex_neg→Ej,wpAny_assign_Name→Ep,wpAny_sequenceKey→Et,wpAny_storeSet_of→Ez,fits_of_scanBound→EA,wpAny_pyIter_slot→EC,seqIndex_of→EE,wpAny_Name→EN,typeIs_str→ER,call→ES
open Option renaming bind_some→Ab,map_some→Ak,getD_some→Dz,isSome_some→Eh,isSome_map→Es,getD_none→EH,bind→Fw
open PySem.W renaming Frag→Ac,mg_none_of→AS,nsIn→AX,keepIn→Bx,fnOf→BE,codeIn→Cy,mg_of→Dl,methodObj→Do,OpenLaw→DK,cellsFrom_some→DP,KitAt→D8,kitx_list→Ew,kitx_dict→Ex,kas_ask→EW,kitOne→E4,WalkO→Fj
open Nat renaming le_refl→Ae,lt_of_lt_of_le→Aw,ne_of_lt→AB,le_trans→AI,lt_irrefl→AR,zero_le→A4,le_of_succ_le→BN,le_of_lt→BP,lt_of_le_of_lt→B1,lt_succ_of_lt→B6,succ_le_succ→Ce,le_succ→Ck,sub_self→Cu,ne_of_gt→CL,add_le_add_left→C2,lt_succ_self→DA,not_lt_zero→DN,min_le_right→EG,le_add_right→EJ,succ_ne_self→EM,min_le_left→ET,le_antisymm→EX,mul_le_mul→Fg
open List renaming length_map→Af,mem_cons_of_mem→Ah,append_assoc→Ai,getElem?_eq_getElem→Aj,getElem?_append_left→Al,mem_cons_self→Am,append_nil→Ao,map_cons→Aq,size_toArray→Ar,range→Au,getD_eq_getElem?_getD→Ax,getElem?_map→Ay,length_append→AD,getElem?_set_ne→AE,getElem?_cons_zero→AF,mem_append_right→AG,getElem?_append_right→AK,mem_append_left→AO,mem_of_getElem?→AV,getElem?_cons_succ→A3,lookup_cons→A6,not_mem_nil→Ba,mem_cons→Bb,length_replicate→Bd,getElem_mem→Be,replicate→Bk,length_cons→Bo,find?_cons→Bs,eq_nil_of_length_eq_zero→Bv,pairwise_mergeSort→Bw,getElem?_set_self→BB,any_cons→BK,length_range→BM,map_nil→BQ,toArray→BS,getElem?_replicate→BW,length_set→B0,map_append→B4,pairwise_map→B8,length_singleton→Ca,map_map→Cb,getElem?_eq_none→Cc,length_take→Cd,mergeSort_perm→Cm,getElem?_toArray→CH,nodup_cons→CQ,nil_append→CY,filterMap_cons→C1,getElem?_range→C3,mem_singleton→Da,length_eraseIdx_of_lt→Dm,getElem?_set→Dq,drop_eq_getElem_cons→Ds,getLast?_eq_getElem?→Du,length_drop→Dy,eraseIdx_cons_succ→DH,of_mem_zip→DI,length_nil→DJ,mem_zipIdx→DO,drop_eq_nil_of_le→DT,getElem_cons_succ→DX,take_of_length_le→DY,forIn_nil→DZ,countP_mono_left→D0,getElem?_zipIdx→D5,getElem_of_mem→Ec,replicate_succ→Ef,flatMap_append→Eg,zip_cons_cons→Em,nodup_append→Eu,ext_getElem?→EB,getElem_inj→EF,all_eq_true→EI,countP_cons→EK,getElem_map→EL,drop_zero→EZ,nodup_nil→Fb
open PySem.Heap renaming get?_push_of_some→Ag,lt_size→An,get?_push_size→Av,get?_update_self→A8,size_push→Bq,SameBut→BC,get?_update_other→B5,ExtBut→DV,get?_none_of_le→D4
open Or renaming inr→Ap,inl→As
open Option.some renaming inj→Az
open Bool renaming and_eq_true→AA,false_eq_true→Bf,false_ne_true→Bp,not_eq_true'→Bu,or_eq_true→CU,not_true→D9,eq_iff_iff→EU,or_false→Fi,and_self→Fm
open PySem.NameKind renaming free→AC,cell→AN
open Array renaming length_toList→AH,getElem?_toList→AL,getD_eq_getD_getElem?→BF,toList_push→Ey,toList→Fn
open PySem.PyData renaming strOk→AJ,eqv→AU,canLay0→By,canLayAll0→B7,eqvAll→Ci,depth→Cv,str→Cz,depthAll→DL,int→Fz
open PySem.Obj renaming data_mapFields→AW,isFreed_of_fields→BJ,mapSeq→BZ,cls_mapFields→CB,putSet→EY,mapFields→Fk
open PySem.PassesOwn renaming never→AY
open PySem.Heap.SameBut renaming update→AZ
open PySem.Value renaming ref→A0,none→Bi,type→BY,bool→CJ,isStrOf_shape→C0,str→C7,isStrOf→Df,int→Fh,isInt→Fu
open Int renaming toNat_natCast→A7,emod_lt_of_pos→BH,emod_nonneg→B3,natCast_mul→Cq,le_refl→CF,le_trans→CV,le_of_lt→CW,natCast_add→CZ,zero_add→Eo,le_antisymm→EV
open Ne renaming symm→A9
open PySem.Builtin.SmallTypes renaming nextOf→Bc
open PySem.SetTable renaming grown→Bl
open PyProof.Rows renaming slot_tuple_getitem→Br,callWith_type1→BD,slot_tupleiter_next→Cn,assignInOrder_cons→C8,subscriptTail_builtinR→DR,entry_tupleiter_next→D6,entry_tuple_getitem→Eb,args_tupleiter_next→Ee,args_tuple_getitem→Ei,assignInOrder_nil→Er,Subscript_→EO
open PyProof.Rows.F renaming plain_set_update_loop→BG,entry_set_update_loop→Cw
open PySem.Builtin.Slice renaming slicePlaces→BO,sliceAdjust→Co,sliceApplied→Di
open PySem.Builtin.Tuple renaming tupleExact→BR,tupleItemsOf→Dj
open PySem.AutoSeq1 renaming wpAny_loadPart'→BU
open PySem.Builtin.Str renaming occurrences→BV
open PySem.Str renaming ofString→B9,empty→DM
open PySem.Around renaming under_plainId→Cf
open PySem.Paired renaming length→Cg,snoc→Fv
open Array.Perm renaming refl→Cr
open Prod.mk renaming inj→CD
open List.cons renaming inj→CG
open List.Perm renaming append_left→CI,cons→D1,refl→Fc,swap→Fd
open True renaming intro→CN
open ForInStep renaming yield→CS
open PySem.Builtin.List renaming listLengthHint→Dc,listExtendWith→De,listSameRef→DC
open PySem.Calls renaming Name_function_global→Dg,call_function_entry→Dt,callWith_builtin→DS
open List.Pairwise renaming nil→Dp
open Sum renaming inl→Dv,inr→Dw
open PySem.F renaming args_tuple_add_2→Dx,entry_tuple_add→DD,plainAttrs_list→DE,slot_dict_items→DF,slot_tuple_add→DQ,plainAttrs_str→DU
open PySem.Txt renaming slice_le→DB,find→D7,slice→Ek
open PySem.Builtin.Int renaming intBits→Ed
open Nat.succ renaming inj→El
open PySem.pickOrder renaming go→En
open PySem.StrLaws renaming found_one→ED
open PySem.Value.type renaming inj→Fe
open PySem.Builtin.Frozenset renaming updateFrom→Ff,addrOf→Fq,sizeOf→Fs,slot0→Ft
open PySem.Fin renaming done→Fo
open PySem.Flow renaming ret→Fp
open PySem.W.KatTups renaming cons→Fx,nil→FA
open PySem.W.KasFin renaming intro→Fy
open PySem.Heap.IsSliceOf renaming new→FB
open PySem.Heap.IsListIter renaming «at»→FC
set_option Elab.async false
set_option linter.all false
namespace L2
open PySem PySem.Spec PyProof.Rows
noncomputable abbrev Key:=Sum Int Str
noncomputable def zkR:Key->Value->Bool
 | .inl k,v=>Fu k v
 | .inr x,v=>Df x v
noncomputable def keyH(w:World):Key->Int
 | .inl k=>hashInt k
 | .inr x=>hashStr w x
theorem zaY:∀ {k:Key} {v:Value},zkR k v=true->(∃ i t,k=Dv i/\v=Fh i t)\/(∃ x t,k=Dw x/\v=C7 x t)
 | .inl i,v,h=>by
   obtain⟨t,e⟩:=Value.isInt_shape (k:=i) (v:=v) h;exact .inl ⟨i,t,rfl,e⟩
 | .inr x,v,h=>by
   obtain⟨t,e⟩:=C0 (x:=x) (v:=v) h;exact .inr ⟨x,t,rfl,e⟩
theorem zi7(i:Int)(t:Tok):zkR (.inl i) (.int i t)=true:=by simp[zkR,Fu]
theorem zi6(x:Str)(t:Tok):zkR (.inr x) (.str x t)=true:=by simp[zkR,Df]
theorem zot(a b:Int):decide ((Dv a:Key)=Dv b)=(a==b):=by
 by_cases e:a=b
 . subst e;simp
 . have h:¬ (Dv a:Key)=Dv b:=fun q=>e (Sum.inl.inj q);rw[decide_eq_false h];exact (beq_eq_false_iff_ne.mpr e).symm
theorem zoq(a b:Str):decide ((Dw a:Key)=Dw b)=decide (a=b):=by
 by_cases e:a=b
 . subst e;simp
 . have h:¬ (Dw a:Key)=Dw b:=fun q=>e (Sum.inr.inj q);rw[decide_eq_false h,decide_eq_false e]
theorem zos(a:Int)(b:Str):decide ((Dv a:Key)=Dw b)=false:=decide_eq_false (fun q=>nomatch q)
theorem zor(a:Str)(b:Int):decide ((Dw a:Key)=Dv b)=false:=decide_eq_false (fun q=>nomatch q)
noncomputable def zby(prog:Program)(w:World):PySem.KeyKind prog w Key where
 is:=zkR
 hash:=keyH w
 inj:=fun v a b ha hb=>by
   rcases zaY ha with ⟨i,t,rfl,rfl⟩ | ⟨x,t,rfl,rfl⟩
   . rcases zaY hb with ⟨j,u,rfl,e⟩ | ⟨y,u,rfl,e⟩
     . injection e with e1 _;rw[e1]
     . exact nomatch e
   . rcases zaY hb with ⟨j,u,rfl,e⟩ | ⟨y,u,rfl,e⟩
     . exact nomatch e
     . injection e with e1 _;rw[e1]
 byValue:=fun k v h=>by
   rcases zaY h with ⟨i,t,rfl,rfl⟩ | ⟨x,t,rfl,rfl⟩ <;> rfl
 pyHash:=fun hv h=>by
   rcases zaY hv with ⟨i,t,rfl,rfl⟩ | ⟨x,t,rfl,rfl⟩
   . exact wpAny_pyHash_int h
   . exact wpAny_pyHash_str h
 eqBool:=fun hu hv h=>by
   rcases zaY hu with ⟨i,t,rfl,rfl⟩ | ⟨x,t,rfl,rfl⟩
   . rcases zaY hv with ⟨j,u,rfl,rfl⟩ | ⟨y,u,rfl,rfl⟩
     . rw[zot] at h;exact wpAny_eqBool_int h
     . rw[zos] at h;exact SeqAt.EqAt.int_str i t y u _ _ _ _ h
   . rcases zaY hv with ⟨j,u,rfl,rfl⟩ | ⟨y,u,rfl,rfl⟩
     . rw[zor] at h;exact SeqAt.EqAt.str_int x t j u _ _ _ _ h
     . rw[zoq] at h;exact wpAny_eqBool_str h
 «strs»:=fun k x t v h=>by
   rcases zaY h with ⟨i,u,rfl,e⟩ | ⟨y,u,rfl,e⟩
   . exact nomatch e
   . injection e with e1 _
     subst e1
     cases v <;> rfl
theorem zhS(prog:Program)(w:World)(k:Key)(v:Value):(zby prog w).is k v=zkR k v:=rfl
theorem zgV(prog:Program)(w:World)(i:Int)(t:Tok):(zby prog w).is (.inl i) (.int i t)=true:=zi7 i t
theorem zgU(prog:Program)(w:World)(x:Str)(t:Tok):(zby prog w).is (.inr x) (.str x t)=true:=zi6 x t
inductive V where
 | non | bl (b:Bool) | int (i:Int) | str (x:Str) | byt (b:Array UInt8) | flt (b:UInt64) | ref (a:Addr) | ty (n:String)
 deriving DecidableEq
noncomputable def RelV:V->Value->Prop
 | .non,u=>u=Bi
 | .bl b,u=>u=CJ b
 | .int i,u=>∃ t,u=Fh i t
 | .str x,u=>∃ t,u=C7 x t
 | .byt b,u=>∃ t,u=Value.bytes b t
 | .flt b,u=>∃ t,u=Value.float b t
 | .ref a,u=>u=A0 a
 | .ty n,u=>u=BY n
noncomputable abbrev Vals:List V->List Value->Prop:=Paired RelV
theorem Vals.length{xs:List V}{us:List Value}(r:Vals xs us):xs.length=us.length:=Cg r
theorem Vals.get:∀ {xs:List V} {us:List Value} {i:Nat} {x:V},Vals xs us->xs[i]?=some x->∃ u,us[i]?=some u/\RelV x u
 | _,_,_,_,.nil,e=>by simp at e
 | _,_,0,_,.cons r _,e=>by simp at e;subst e;exact⟨_,rfl,r⟩
 | _,_,i+1,x,.cons _ t,e=>by
   obtain⟨u,h1,h2⟩:=Vals.get (i:=i) (x:=x) t (by simpa using e);exact⟨u,by simpa using h1,h2⟩
theorem Vals.set{x:V}{u:Value}(r:RelV x u):∀ {xs:List V} {us:List Value} (i:Nat),Vals xs us->Vals (xs.set i x) (us.set i u)
 | _,_,_,.nil=>.nil
 | _,_,0,.cons _ t=>.cons r t
 | _,_,i+1,.cons q t=>.cons q (Vals.set r i t)
theorem Vals.append:∀ {xs ys:List V} {us ws:List Value},Vals xs us->Vals ys ws->Vals (xs++ys) (us++ws)
 | _,_,_,_,.nil,s=>s
 | _,_,_,_,.cons r t,s=>.cons r (Vals.append t s)
theorem Vals.take:∀ {xs:List V} {us:List Value} (n:Nat),Vals xs us->Vals (xs.take n) (us.take n)
 | _,_,0,_=>.nil
 | _,_,_+1,.nil=>.nil
 | _,_,n+1,.cons r t=>.cons r (Vals.take n t)
theorem Vals.drop:∀ {xs:List V} {us:List Value} (n:Nat),Vals xs us->Vals (xs.drop n) (us.drop n)
 | _,_,0,r=>r
 | _,_,_+1,.nil=>.nil
 | _,_,n+1,.cons _ t=>Vals.drop n t
noncomputable def RelO:Option V->Option Value->Prop
 | some v,some u=>RelV v u
 | none,none=>True
 | _,_=>False
noncomputable def KV{κ:Type}:List (κ×V)->List (κ×Value)->Prop:=Paired fun (p:κ×V) (q:κ×Value)=>p.1=q.1/\RelV p.2 q.2
noncomputable def kV:Key->V
 | .inl i=>.int i
 | .inr x=>.str x
inductive HO where
  | lst (xs:List V)
  | tup (xs:List V)
  | dK (kvs:List (Key×V)) | dT (kvs:List (List Key×V))
  | set (S:Int->Bool) (n:Nat)
  | ins (C dx:Addr) (fs:List (Str×V))
  | own (x:Addr)
  | xd (fs:List (Str×V))
  | met (f x:Addr)
  | rng (lo hi:Int)
  | frz (o:Obj) (u:HO)
  | tbl (ps:Array Value)
  | ext (φ:Heap->Prop)
noncomputable abbrev Hp:=Addr->Option HO
noncomputable def upd(H:Hp)(a:Addr)(o:HO):Hp:=fun b=>if b=a then some o else H b
theorem zbw{H:Hp}{a:Addr}{o:HO}:upd H a o a=some o:=by unfold upd;rw[if_pos rfl]
theorem zaO{H:Hp}{a b:Addr}{o:HO}(h:b≠a):upd H a o b=H b:=by unfold upd;rw[if_neg h]
theorem zoi{H:Hp}{a b:Addr}{o u:HO}(h:H a=some o)(h':H b=some u)(d:o≠u):a≠b:=by
 intro e;subst e;rw[h] at h';exact d (Az h')
theorem zan{H:Hp}{a b:Addr}{o:HO}(h:H a=some o)(h':H b=none):a≠b:=by
 intro e;subst e;rw[h] at h';cases h'
def zfN(h:Heap)(a:Addr)(items:Array Value):Prop:=∃ o,h.get? a=some o/\o.cls=.type "tuple"/\o.dict=none/\∃ n,o.data=.seq items n
theorem zfN.t{h:Heap}{a:Addr}{items:Array Value}(x:zfN h a items):IsTup h a items:=let ⟨o,ho,hc,_,r⟩:=x;⟨o,ho,hc,r⟩
theorem zfN.new(h:Heap)(items:Array Value):zfN (h.push { cls:=.type "tuple",data:=.seq items }) h.objs.size items:=⟨_,Av _ rfl,rfl,rfl,0,rfl⟩
section
variable (P:Program) (w:World)
noncomputable def zdv(H:Hp)(h:Heap)(a:Addr):HO->Prop
 | .lst xs=>xs.length<=sizeLine/\∃ (its:List Value) (n:Nat),Vals xs its/\h.get? a=some { cls:=.type "list",data:=.seq its.toArray n }
 | .tup xs=>xs.length<=sizeLine/\∃ its:List Value,Vals xs its/\zfN h a its.toArray
 | .dK kvs=>kvs.length<=sizeLine/\(a==sysModules)=false/\∃ vs,KV kvs vs/\h.DictOf (zby P w) a vs
 | .dT kvs=>kvs.length<=sizeLine/\(a==sysModules)=false/\∃ xs:List (List Key×Addr×Value),
     Paired (fun (p:List Key×V) (q:List Key×Addr×Value)=>p.1=q.1/\H q.2.1=some (.tup (p.1.map kV))/\RelV p.2 q.2.2) kvs xs /\
     ∃ o es ep,h.get? a=some o/\o.ExactDict/\o.data=.dict es ep/\es.toList=xs.map (entryOfKey (tupleKind (zby P w)))/\(xs.map (·.1)).Nodup
 | .set S n=>h.SetOf (intKind P w) a S n
 | .ins C dx fs=>H dx=some (.own a)/\fs.length<=1000/\dx≠a/\h.get? a=some (PySem.W.instObj C dx) /\
     ∃ mA,h.Ns1 dx mA/\(∀ f,RelO (fs.lookup f) (mA f))/\PySem.Within mA (fs.map (·.1))
 | .own _=>∃ o,h.get? a=some o
 | .xd fs=>∃ mA,h.Ns1 a mA/\∀ f,RelO (fs.lookup f) (mA f)
 | .rng lo hi=>∃ t u v,h.get? a=some { cls:=.type "range",data:=.fields #[.int lo t,.int hi u,.int 1 v] }
 | .frz o u=>h.get? a=some o/\zdv H h a u
 | .tbl ps=>h.get? a=some { cls:=.none,data:=.fields ps }
 | .met f x=>h.get? a=some (Do (.ref f) (.ref x))
 | .ext φ=>φ h/\(∃ o,h.get? a=some o)/\∀ h1 h2:Heap,φ h1->(∀ o,h1.get? a=some o->h2.get? a=some o)->φ h2
def HOk(H:Hp)(h:Heap):Prop:=∀ a o,H a=some o->zdv P w H h a o
end
section
variable {P:Program} {w:World} {H H':Hp} {h h':Heap} {a:Addr} {o:HO}
theorem zdv.lt(x:zdv P w H h a o):a < h.objs.size:=by
 cases o with
 | lst xs=>obtain⟨_,_,_,_,e⟩:=x;exact An e
 | tup xs=>obtain⟨_,_,_,p⟩:=x;exact p.t.lt
 | dK kvs=>obtain⟨_,_,_,_,o,_,_,e,_⟩:=x;exact An e
 | dT kvs=>obtain⟨_,_,_,_,o,_,_,e,_⟩:=x;exact An e
 | set S n=>obtain⟨o,_,_,_,e,_⟩:=x;exact An e
 | ins C dx fs=>obtain⟨_,_,_,e,_⟩:=x;exact An e
 | own y=>obtain⟨_,e⟩:=x;exact An e
 | xd fs=>obtain⟨_,⟨_,_,_,e,_⟩,_⟩:=x;exact An e
 | rng lo hi=>obtain⟨_,_,_,e⟩:=x;exact An e
 | frz ob u=>obtain⟨e,_⟩:=x;exact An e
 | tbl ps=>exact An (show h.get? a=some _ from x)
 | met f y=>exact An (show h.get? a=some _ from x)
 | ext φ=>obtain⟨_,⟨_,e⟩,_⟩:=x;exact An e
theorem Paired.mapP{α β:Type}{F G:α->β->Prop}:∀ {l₁:List α} {l₂:List β},Paired F l₁ l₂->(∀ a b,F a b->G a b)->Paired G l₁ l₂
 | _,_,.nil,_=>.nil
 | _,_,.cons r t,f=>.cons (f _ _ r) (Paired.mapP t f)
theorem zdv.stay(x:zdv P w H h a o)(k:∀ b u,(b=a\/H b=some (.own a))->h.get? b=some u->h'.get? b=some u)
   (ho:∀ b,H b=some (.own a)->H' b=some (.own a)) (ht:∀ b xs,H b=some (.tup xs)->H' b=some (.tup xs)):zdv P w H' h' a o:=by
 induction o with
 | lst xs=>obtain⟨z,its,n,r,e⟩:=x;exact⟨z,its,n,r,k _ _ (.inl rfl) e⟩
 | tup xs=>obtain⟨z,its,r,ob,e,c⟩:=x;exact⟨z,its,r,ob,k _ _ (.inl rfl) e,c⟩
 | dK kvs=>obtain⟨z,y,vs,r,ob,es,ep,e,c⟩:=x;exact⟨z,y,vs,r,ob,es,ep,k _ _ (.inl rfl) e,c⟩
 | dT kvs =>
   obtain⟨z,y,xs,r,ob,es,ep,e,c⟩:=x;exact⟨z,y,xs,Paired.mapP r fun p q z=>⟨z.1,ht _ _ z.2.1,z.2.2⟩,ob,es,ep,k _ _ (.inl rfl) e,c⟩
 | set S n=>obtain⟨ob,es,ep,t,e,c⟩:=x;exact⟨ob,es,ep,t,k _ _ (.inl rfl) e,c⟩
 | ins C dx fs =>
   obtain⟨d,z,ne,e,mA,⟨od,es,ep,e2,c⟩,r⟩:=x;exact⟨ho _ d,z,ne,k _ _ (.inl rfl) e,mA,⟨od,es,ep,k _ _ (.inr d) e2,c⟩,r⟩
 | own y=>obtain⟨ob,e⟩:=x;exact⟨ob,k _ _ (.inl rfl) e⟩
 | xd fs=>obtain⟨mA,⟨od,es,ep,e,c⟩,r⟩:=x;exact⟨mA,⟨od,es,ep,k _ _ (.inl rfl) e,c⟩,r⟩
 | rng lo hi=>obtain⟨t,u,v,e⟩:=x;exact⟨t,u,v,k _ _ (.inl rfl) e⟩
 | frz ob u ih=>obtain⟨e,q⟩:=x;exact⟨k _ _ (.inl rfl) e,ih q⟩
 | tbl ps =>
   have e:h.get? a=some { cls:=.none,data:=.fields ps }:=x;show h'.get? a=some { cls:=.none,data:=.fields ps };exact k a _ (.inl rfl) e
 | met f y =>
   have e:h.get? a=some (Do (.ref f) (.ref y)):=x;show h'.get? a=some (Do (.ref f) (.ref y));exact k a _ (.inl rfl) e
 | ext φ=>obtain⟨p,⟨o,e⟩,st⟩:=x;exact⟨st _ _ p fun o q=>k _ _ (.inl rfl) q,⟨o,k _ _ (.inl rfl) e⟩,st⟩
theorem HOk.lt(x:HOk P w H h)(e:H a=some o):a < h.objs.size:=(x a o e).lt
theorem HOk.fresh(x:HOk P w H h)(e:h.objs.size<=a):H a=none:=by
 cases q:H a with
 | none=>rfl
 | some u=>exact absurd (Aw (x.lt q) e) (AR _)
theorem HOk.kept(x:HOk P w H h)(k:∀ b u,h.get? b=some u->h'.get? b=some u):HOk P w H h':=fun a o e =>
 (x a o e).stay (fun b u _ q=>k b u q) (fun _ q=>q) fun _ _ q=>q
theorem HOk.laid(x:HOk P w H h)(k:∀ b u,h.get? b=some u->h'.get? b=some u)(hp:h.objs.size<=a)(new:zdv P w (upd H a o) h' a o):HOk P w (upd H a o) h':=fun b u e=>by
 have hn:=x.fresh hp
 by_cases hb:b=a
 . subst hb;rw[zbw] at e;cases e;exact new
 . rw[zaO hb] at e;exact (x b u e).stay (fun c v _ q=>k c v q) (fun c q=>by rw[zaO (zan q hn)];exact q) fun c xs q=>by rw[zaO (zan q hn)];exact q
end
def Rd(H:Hp)(a:Addr)(u:HO):Prop:=H a=some u\/∃ o,H a=some (.frz o u)
theorem Rd.ok{P:Program}{w:World}{H:Hp}{h:Heap}{a:Addr}{u:HO}(r:Rd H a u)(x:HOk P w H h):zdv P w H h a u:=by
 rcases r with r | ⟨o,r⟩
 . exact x a u r
 . obtain⟨_,q⟩:=x a _ r;exact q
noncomputable def Mut:Option HO->Prop
 | some (.lst _)=>True
 | some (.dK _)=>True
 | some (.dT _)=>True
 | some (.set _ _)=>True
 | some (.ins _ _ _)=>True
 | some (.ext _)=>True
 | _=>False
section
variable {P:Program} {w:World} {H:Hp} {h h':Heap} {x e:Addr} {o':HO}
theorem HOk.write(ok:HOk P w H h)(mu:Mut (H x))(he:e=x\/H e=some (.own x))(k:∀ b u,b≠e->h.get? b=some u->h'.get? b=some u)(heo:∃ u,h'.get? e=some u)
   (new:zdv P w (upd H x o') h' x o'):HOk P w (upd H x o') h':=fun b u q=>by
 have nown:∀ c y,H c=some (.own y)->c≠x:=fun c y r z=>by subst z;rw[r] at mu;exact mu
 have ntup:∀ c xs,H c=some (.tup xs)->c≠x:=fun c xs r z=>by subst z;rw[r] at mu;exact mu
 by_cases hb:b=x
 . subst hb;rw[zbw] at q;cases q;exact new
 . rw[zaO hb] at q
   by_cases hbe:b=e
   . have q':H b=some (.own x):=by
       rcases he with z | z
       . exact absurd (hbe.trans z) hb
       . rw[hbe];exact z
     rw[q] at q';cases q';obtain⟨v,hv⟩:=heo;exact⟨v,by rw[hbe];exact hv⟩
   . refine (ok b u q).stay (fun c v hc r=>k c v ?_ r) (fun c r=>by rw[zaO (nown c b r)];exact r) fun c xs r=>by rw[zaO (ntup c xs r)];exact r
     rcases hc with rfl | hc
     . exact hbe
     . rintro rfl
       rcases he with z | z
       . exact nown c b hc z
       . rw[hc] at z;cases z;exact hb rfl
end
structure Un(fs ex:List Addr)(H H':Hp)(h h':Heap):Prop where
 keep:∀ b o,h.get? b=some o->H b=none->b ∉ fs->b ∉ ex->h'.get? b=some o
 slot:∀ b o,h.get? b=some o->H b=none->b∈fs->b ∉ ex->∃ sl,h'.get? b=some { o with slots:=sl }
 free:∀ b o,h.get? b=some o->H b=none->b ∉ ex->H' b=none
 there:∀ b o,h.get? b=some o->b ∉ ex->∃ o',h'.get? b=some o'
 tups:∀ b xs,H b=some (.tup xs)->H' b=some (.tup xs)
 frzs:∀ b o u,H b=some (.frz o u)->H' b=some (.frz o u)
 tbls:∀ b ps,H b=some (.tbl ps)->∃ more,H' b=some (.tbl (ps++more))
section
variable {fs fs' ex ex':List Addr} {H H1 H2:Hp} {h h1 h2 h':Heap} {a x e:Addr} {o:HO}
theorem Un.any(u:Un fs ex H H1 h h1){b:Addr}{ob:Obj}(q:h.get? b=some ob)(n:H b=none)(hx:b ∉ ex):∃ sl,h1.get? b=some { ob with slots:=sl }:=by
 by_cases hb:b∈fs
 . exact u.slot b ob q n hb hx
 . exact⟨ob.slots,u.keep b ob q n hb hx⟩
theorem Un.kept(k:∀ b u,h.get? b=some u->h'.get? b=some u):Un fs ex H H h h' :=
 ⟨fun b ob q _ _ _=>k b ob q,fun b ob q _ _ _=>⟨ob.slots,k b ob q⟩,fun _ _ _ n _=>n,fun b ob q _=>⟨ob,k b ob q⟩,fun _ _ q=>q,fun _ _ _ q=>q,fun _ ps q=>⟨#[],by rw[q];simp⟩⟩
theorem Un.refl:Un fs ex H H h h:=Un.kept fun _ _ q=>q
theorem Un.laid(k:∀ b u,h.get? b=some u->h'.get? b=some u)(hp:h.objs.size<=a)(hn:H a=none):Un fs ex H (upd H a o) h h' where
 keep:=fun b u q _ _ _=>k b u q
 slot:=fun b u q _ _ _=>⟨u.slots,k b u q⟩
 free:=fun b u q n _=>by rw[zaO (AB (Aw (An q) hp))];exact n
 there:=fun b u q _=>⟨u,k b u q⟩
 tups:=fun b xs q=>by rw[zaO (zan q hn)];exact q
 frzs:=fun b u xs q=>by rw[zaO (zan q hn)];exact q
 tbls:=fun b ps q=>⟨#[],by rw[zaO (zan q hn),q];simp⟩
theorem Un.write(mu:Mut (H x))(he:e=x\/H e=some (.own x))(k:∀ b u,b≠e->h.get? b=some u->h'.get? b=some u)(heo:∃ u,h'.get? e=some u):Un fs ex H (upd H x o) h h':=by
 have hx:∀ b,H b=none->b≠x:=fun b n z=>by subst z;rw[n] at mu;exact mu
 have hb:∀ b,H b=none->b≠e:=fun b n z=>by
   subst z
   rcases he with r | r
   . exact hx b n r
   . rw[n] at r;cases r
 have hm:∀ b u,H b=some u->¬ Mut (some u)->b≠x:=fun b u q nm z=>by subst z;rw[q] at mu;exact nm mu
 refine⟨fun b u q n _ _=>k b u (hb b n) q,fun b u q n _ _=>⟨u.slots,k b u (hb b n) q⟩,fun b u q n _=>by rw[zaO (hx b n)];exact n,fun b u q _=>?_,
   fun b xs q=>by rw[zaO (hm b _ q fun z=>z)];exact q,fun b u xs q=>by rw[zaO (hm b _ q fun z=>z)];exact q,fun b ps q=>⟨#[],by rw[zaO (hm b _ q fun z=>z),q];simp⟩⟩
 by_cases hbe:b=e
 . subst hbe;exact heo
 . exact⟨u,k b u hbe q⟩
end
noncomputable def trk(h:Heap)(H:Hp):List Addr:=(Au h.objs.size).filter fun a=>(H a).isSome
noncomputable def hidT(h:Heap)(H:Hp):Heap:=PySem.W.hideAll h (trk h H)
theorem zjc(h:Heap)(H:Hp):(hidT h H).objs.size=h.objs.size:=PySem.W.hideAll_size _ _
theorem zkZ{h:Heap}{H:Hp}{b:Addr}{o:Obj}(e:h.get? b=some o)(n:H b=none):(hidT h H).get? b=some o :=
 PySem.W.hideAll_get _ e fun hm=>by
   have q:(H b).isSome=true:=(List.mem_filter.mp hm).2;rw[n] at q;simp at q
theorem zmr{h:Heap}{H:Hp}{b:Addr}{o:Obj}(e:(hidT h H).get? b=some o):h.get? b=some o/\H b=none:=by
 have e':h.get? b=some o:=PySem.W.of_hideAll (trk h H) e;refine⟨e',?_⟩
 cases q:H b with
 | none=>rfl
 | some x =>
   have hm:b∈trk h H:=List.mem_filter.mpr ⟨List.mem_range.mpr (An e'),by simp[q]⟩;have z:(hidT h H).get? b=none:=PySem.W.hideAll_none (trk h H) hm;rw[z] at e;cases e
noncomputable def zes(g h:Heap)(L:Addr):List (Addr×Obj):=(Au h.objs.size).filterMap fun a=>if a=L\/(g.get? a).isSome=true then none else (h.get? a).map fun o=>(a,o)
theorem zgW{g h:Heap}{L a:Addr}{o:Obj}(h1:a≠L)(h2:g.get? a=none)(h3:h.get? a=some o):(a,o)∈zes g h L :=
 List.mem_filterMap.mpr ⟨a,List.mem_range.mpr (An h3),by simp[h1,h2,h3]⟩
theorem zeX{g h:Heap}{L:Addr}{p:Addr×Obj}(hp:p∈zes g h L):p.1≠L/\g.get? p.1=none/\h.get? p.1=some p.2:=by
 obtain⟨b,_,e⟩:=List.mem_filterMap.mp hp
 split at e
 . cases e
 . rename_i hn
   cases q:h.get? b with
   | none=>rw[q] at e;simp at e
   | some u =>
     rw[q] at e;simp only[Ak,Option.some.injEq] at e;subst e;refine⟨fun z=>hn (.inl z),?_,q⟩;show g.get? b=none
     cases r:g.get? b with
     | none=>rfl
     | some v=>exact (hn (.inr (by simp[r]))).elim
theorem zhP{g h:Heap}{L:Addr}:News g L h (zes g h L):=fun p hp=>let ⟨a,b,c⟩:=zeX hp;⟨c,a,b⟩
structure Mod(K:Ac)(mg:Str->Option Value)(base:Heap):Prop where
 kin:K.In base
 glob:base.Ns mainGlobals mg
 blt:∃ mb,base.Ns builtinsNs mb/\∀ x:Str,x≠"__name__"->mb x=bootBuiltins x
 nolimit:base.NoLimit
structure Cx where
 prog:Program
 w:World
 K:Ac
 mg:Str->Option Value
 base:Heap
 A:Around
 N:List Str
 s₀:Shared
 H₀:Hp
 env:Env
 outer:List Env
 stack:List Env
 ex:List Addr
 fn:Str->Bool
 calm:Bool
 pn:List (Addr×Obj)
 xe:Value->Shared->Prop
noncomputable def frs(l:List Env):List Addr:=l.filterMap (·.frame)
noncomputable abbrev Cx.fs (X:Cx):List Addr:=frs X.outer
def Vis(sc:Scope)(x:Str):Prop:=sc.names.lookup x=some .local\/sc.names.lookup x=some .cell\/sc.names.lookup x=some .free
def Loc(sc:Scope)(x:Str):Prop:=sc.names.lookup x=some .local\/sc.names.lookup x=some .cell
def Look(env:Env)(h:Heap)(m:Str->Option Value)(x:Str)(u:Value):Prop :=
 (env.kindOf x=some .local/\m x=some u)\/((env.kindOf x=some .cell\/env.kindOf x=some .free)/\∃ c,env.cells.lookup x=some c/\h.IsCell c (some u))
structure Cx.Ok(X:Cx):Prop where
 mod:Mod X.K X.mg X.base
 kind:X.env.scope.kind=.function
 glob:X.env.globals=mainGlobals
 blt:X.env.builtins=builtinsNs
 above:X.s₀.heap.objs.size<=X.env.locals
 inj:∀ x y c,X.env.cells.lookup x=some c->X.env.cells.lookup y=some c->x=y
 has:∀ x,(X.env.kindOf x=some .cell\/X.env.kindOf x=some .free)->∃ c,X.env.cells.lookup x=some c
 cab:∀ x c,X.fn x=true->X.env.cells.lookup x=some c->X.s₀.heap.objs.size<=c
 hd:X.calm=true->X.A.handled=none
 frames:X.A.frames=some X.stack
 stk:X.stack=X.outer\/(X.stack=X.env::X.outer/\X.env.frame=some X.env.locals)
 exf:∀ b∈X.ex,b≠X.env.locals/\∀ x c,X.env.cells.lookup x=some c->c≠b
 bs:∀ b o,X.base.get? b=some o->X.s₀.heap.get? b=some o/\X.H₀ b=none
 bsz:X.base.objs.size<=X.s₀.heap.objs.size
 noex:∀ b o,X.base.get? b=some o->b ∉ X.ex
 exfs:∀ b∈X.ex,b ∉ X.fs
 funs:X.s₀.heap.FunFrames X.base X.outer
 frf:∀ b∈X.fs,X.H₀ b=none
structure Inv(X:Cx)(pins:List (Addr×Obj))(σ:List (Option V))(H:Hp)(s:Shared):Prop where
 ok:X.Ok
 os:s.os=X.s₀.os
 bare:AllBare s.gens
 base:Un X.fs X.ex X.H₀ H X.s₀.heap s.heap
 loc:∃ m,s.heap.Ns X.env.locals m/\∀ (i:Nat) (x:Str) (v:V),X.N[i]?=some x->σ[i]?=some (some v)->Vis X.env.scope x->∃ u,RelV v u/\Look X.env s.heap m x u
 cell:∀ x c,X.env.cells.lookup x=some c->∃ v,s.heap.IsCell c v
 free:H X.env.locals=none
 freeC:∀ x c,X.env.cells.lookup x=some c->H c=none
 pin:∀ p∈X.pn++pins,s.heap.get? p.1=some p.2/\H p.1=none/\p.1≠X.env.locals/\p.1 ∉ X.fs/\∀ v,p.2.data≠.cell v
 hok:HOk X.prog X.w H s.heap
 len:σ.length=X.N.length
section
variable {X:Cx} {pins:List (Addr×Obj)} {σ:List (Option V)} {H H':Hp} {s:Shared} {h':Heap}
theorem Cx.Ok.nofr(ok:X.Ok){b:Addr}{o:Obj}(e:X.base.get? b=some o):b ∉ X.fs:=fun hb=>by
 have:=(ok.funs.mem hb).1;rw[e] at this;cases this
theorem Inv.bs(I:Inv X pins σ H s):∀ b o,X.base.get? b=some o->s.heap.get? b=some o/\H b=none:=fun b o e =>
 ⟨I.base.keep b o (I.ok.bs b o e).1 (I.ok.bs b o e).2 (I.ok.nofr e) (I.ok.noex b o e),I.base.free b o (I.ok.bs b o e).1 (I.ok.bs b o e).2 (I.ok.noex b o e)⟩
theorem Inv.bk(I:Inv X pins σ H s):∀ b o,X.base.get? b=some o->s.heap.get? b=some o:=fun b o e=>(I.bs b o e).1
theorem Inv.mod(I:Inv X pins σ H s):Mod X.K X.mg X.base:=I.ok.mod
theorem Inv.kIn(I:Inv X pins σ H s):X.K.In s.heap:=I.ok.mod.kin.keeps I.bk
theorem Inv.fr(I:Inv X pins σ H s):∃ m,Fr X.base X.env.locals s.heap m :=
 let ⟨m,hn,_⟩:=I.loc
 ⟨m,hn,I.bk,AI I.ok.bsz I.ok.above⟩
theorem Inv.lt(I:Inv X pins σ H s):X.env.locals < s.heap.objs.size:=let ⟨_,hn,_⟩:=I.loc;hn.lt
theorem Inv.sz(I:Inv X pins σ H s):X.s₀.heap.objs.size<=s.heap.objs.size:=AI I.ok.above (BP I.lt)
theorem Inv.nofs(I:Inv X pins σ H s){a:Addr}(h:s.heap.objs.size<=a):a ∉ X.fs:=fun hb=>by
 obtain⟨_,o,ho,_⟩:=I.ok.funs.mem hb;exact absurd (Aw (An ho) (AI I.sz h)) (AR _)
theorem Inv.cne(I:Inv X pins σ H s):∀ x c,X.env.cells.lookup x=some c->c≠X.env.locals:=fun x c e z=>by
 obtain⟨v,o,ho,hd⟩:=I.cell x c e;obtain⟨m,⟨o',es,ep,ho',hd',_⟩,_⟩:=I.loc;rw[z,ho'] at ho;cases ho;rw[hd'] at hd;cases hd
theorem Inv.funs(I:Inv X pins σ H s):s.heap.FunFrames X.base X.outer:=by
 have all:∀ (l:List Env),(∀ b∈frs l,b∈X.fs)->X.s₀.heap.FunFrames X.base l->s.heap.FunFrames X.base l:=by
   intro l
   induction l with
   | nil=>intro _ _;trivial
   | cons env r ih =>
     intro hs hl;obtain⟨hk,⟨L,o,hf,hn,ho,hd⟩,hr⟩:=hl;have hL:L∈X.fs:=hs L (by unfold frs;rw[C1,hf];exact Am);obtain⟨sl,e⟩:=I.base.slot L o ho (I.ok.frf L hL) hL fun z=>I.ok.exfs L z hL;exact⟨hk,⟨L,_,hf,hn,e,hd⟩,ih (fun b hb=>hs b (by unfold frs;rw[C1,hf];exact Ah _ hb)) hr⟩
 exact all X.outer (fun _ hb=>hb) I.ok.funs
theorem Inv.stack(I:Inv X pins σ H s):s.heap.FunFrames X.base X.stack:=by
 rcases I.ok.stk with e | ⟨e,hf⟩
 . rw[e];exact I.funs
 . rw[e];obtain⟨m,hn,_⟩:=I.loc;refine .cons (by rw[I.ok.kind];decide) hf hn ?_ I.funs;exact D4 (AI I.ok.bsz I.ok.above)
theorem Inv.stkSub(I:Inv X pins σ H s):∀ b∈frs X.stack,b∈X.env.locals::X.fs:=fun b hb=>by
 rcases I.ok.stk with e | ⟨e,hf⟩
 . rw[e] at hb;exact Ah _ hb
 . rw[e] at hb;unfold frs at hb;rw[C1,hf] at hb;exact hb
theorem Inv.stkFree(I:Inv X pins σ H s):∀ b∈frs X.stack,H b=none:=fun b hb=>by
 rcases List.mem_cons.mp (I.stkSub b hb) with e | hb
 . rw[e];exact I.free
 . obtain⟨_,o,ho,_⟩:=I.ok.funs.mem hb;exact I.base.free b o ho (I.ok.frf b hb) fun z=>I.ok.exfs b z hb
theorem Inv.step{g':Array GenState}{t':Nat}{d':Drawn}{ch:List Addr}(I:Inv X pins σ H s)
   (hch:∀ b∈ch,(b∈X.ex\/X.s₀.heap.objs.size<=b)/\b≠X.env.locals/\(∀ x c,X.env.cells.lookup x=some c->c≠b)/\∀ p∈X.pn++pins,p.1≠b)
   (keep:∀ b o,b≠X.env.locals->b ∉ X.fs->b ∉ ch->s.heap.get? b=some o->H b=none->h'.get? b=some o)
   (slot:∀ b o,b≠X.env.locals->b∈X.fs->b ∉ ch->s.heap.get? b=some o->H b=none->∃ sl,h'.get? b=some { o with slots:=sl }) (free:∀ b o,b ∉ ch->s.heap.get? b=some o->H b=none->H' b=none)
   (there:∀ b o,b ∉ ch->s.heap.get? b=some o->∃ o',h'.get? b=some o')
   (tups:∀ b xs,H b=some (.tup xs)->H' b=some (.tup xs)) (frzs:∀ b o u,H b=some (.frz o u)->H' b=some (.frz o u)) (tbls:∀ b ps,H b=some (.tbl ps)->∃ more,H' b=some (.tbl (ps++more)))
   (ns:∀ m,s.heap.Ns X.env.locals m->h'.Ns X.env.locals m) (hok:HOk X.prog X.w H' h') (hg:AllBare g') :
   Inv X pins σ H' { s with heap:=h',gens:=g',drawn:=d',toks:=t' }:=by
 have neL:∀ b o,X.s₀.heap.get? b=some o->b≠X.env.locals:=fun b o e=>AB (Aw (An e) I.ok.above);have neC:∀ b o,X.s₀.heap.get? b=some o->b ∉ X.ex->b ∉ ch:=fun b o e hx hb=>by
   rcases (hch b hb).1 with z | z
   . exact hx z
   . exact absurd (Aw (An e) z) (AR _)
 have cellK:∀ x c,X.env.cells.lookup x=some c->∀ v,s.heap.IsCell c v->h'.IsCell c v:=by
   rintro x c e v ⟨o,ho,hd⟩;have nch:c ∉ ch:=fun z=>(hch c z).2.2.1 x c e rfl
   by_cases hc:c∈X.fs
   . obtain⟨sl,q⟩:=slot c o (I.cne x c e) hc nch ho (I.freeC x c e);exact⟨_,q,hd⟩
   . exact⟨o,keep c o (I.cne x c e) hc nch ho (I.freeC x c e),hd⟩
 refine⟨I.ok,I.os,hg,⟨fun b o e n hb hx=>?_,fun b o e n hb hx=>?_,fun b o e n hx=>?_,fun b o e hx=>?_,fun b xs e=>tups b xs (I.base.tups b xs e),fun b o xs e=>frzs b o xs (I.base.frzs b o xs e),fun b ps e=>?_⟩,?_,fun x c e=>?_,?_,fun x c e=>?_,fun p hp=>?_,hok,I.len⟩
 . exact keep b o (neL b o e) hb (neC b o e hx) (I.base.keep b o e n hb hx) (I.base.free b o e n hx)
 . obtain⟨sl,e1⟩:=I.base.slot b o e n hb hx;obtain⟨sl',e2⟩:=slot b _ (neL b o e) hb (neC b o e hx) e1 (I.base.free b o e n hx);exact⟨sl',e2⟩
 . obtain⟨o',e1⟩:=I.base.there b o e hx;exact free b o' (neC b o e hx) e1 (I.base.free b o e n hx)
 . obtain⟨o',e1⟩:=I.base.there b o e hx;exact there b o' (neC b o e hx) e1
 . obtain⟨m1,e1⟩:=I.base.tbls b ps e;obtain⟨m2,e2⟩:=tbls b _ e1;exact⟨m1++m2,by rw[e2,Array.append_assoc]⟩
 . obtain⟨m,hn,hl⟩:=I.loc;refine⟨m,ns m hn,fun i x v e1 e2 e3=>?_⟩;obtain⟨u,r,l⟩:=hl i x v e1 e2 e3;refine⟨u,r,?_⟩
   rcases l with l | ⟨k,c,e,z⟩
   . exact .inl l
   . exact .inr ⟨k,c,e,cellK x c e _ z⟩
 . obtain⟨v,z⟩:=I.cell x c e;exact⟨v,cellK x c e v z⟩
 . obtain⟨m,⟨o,_,_,ho,_⟩,_⟩:=I.loc;exact free _ o (fun z=>(hch _ z).2.1 rfl) ho I.free
 . obtain⟨v,o,ho,hd⟩:=I.cell x c e;exact free c o (fun z=>(hch c z).2.2.1 x c e rfl) ho (I.freeC x c e)
 . obtain⟨e,n,ne,nf,d⟩:=I.pin p hp;have nch:p.1 ∉ ch:=fun z=>(hch p.1 z).2.2.2 p hp rfl;exact⟨keep p.1 p.2 ne nf nch e n,free p.1 p.2 nch e n,ne,nf,d⟩
theorem Inv.un{t':Nat}(I:Inv X pins σ H s)(u:Un X.fs [] H H' s.heap h')(hok:HOk X.prog X.w H' h'):Inv X pins σ H' { s with heap:=h',toks:=t' }:=by
 obtain⟨m,⟨o,es,ep,ho,r⟩,_⟩:=id I.loc;obtain⟨sl,hL⟩:=u.any ho I.free (by simp);exact I.step (g':=s.gens) (d':=s.drawn) (ch:=[]) (fun _ z=>nomatch z) (fun b o _ hb _ e n=>u.keep b o e n hb (by simp)) (fun b o _ hb _ e n=>u.slot b o e n hb (by simp)) (fun b o _ e n=>u.free b o e n (by simp)) (fun b o _ e=>u.there b o e (by simp)) u.tups u.frzs u.tbls (fun m' hm=>by
   obtain⟨o',es',ep',ho',r'⟩:=hm;rw[ho] at ho';cases ho';exact⟨_,es',ep',hL,r'⟩) hok I.bare
theorem Inv.call{g':Array GenState}{t':Nat}{d':Drawn}{ch:List Addr}(I:Inv X pins σ H s)(u:Un (frs X.stack) ch H H' s.heap h')(hok:HOk X.prog X.w H' h')(hg:AllBare g')
   (hch:∀ b∈ch,(b∈X.ex\/X.s₀.heap.objs.size<=b)/\b≠X.env.locals/\(∀ x c,X.env.cells.lookup x=some c->c≠b)/\∀ p∈X.pn++pins,p.1≠b) :
   Inv X pins σ H' { s with heap:=h',gens:=g',drawn:=d',toks:=t' }:=by
 obtain⟨m,⟨o,es,ep,ho,r⟩,_⟩:=id I.loc;obtain⟨sl,hL⟩:=u.any ho I.free fun z=>(hch _ z).2.1 rfl;exact I.step (ch:=ch) hch (fun b o hL hb hc e n=>u.keep b o e n (fun z=>(List.mem_cons.mp (I.stkSub b z)).elim hL hb) hc) (fun b o _ _ hc e n=>u.any e n hc) (fun b o hc e n=>u.free b o e n hc) (fun b o hc e=>u.there b o e hc) u.tups u.frzs u.tbls (fun m' hm=>by
   obtain⟨o',es',ep',ho',r'⟩:=hm;rw[ho] at ho';cases ho';exact⟨_,es',ep',hL,r'⟩) hok hg
theorem Inv.turned{t':Nat}{it:Addr}(I:Inv X pins σ H s)(k:∀ b o,b≠it->s.heap.get? b=some o->h'.get? b=some o)(hn:H it=none)(hL:it≠X.env.locals)
   (h1:it∈X.ex\/X.s₀.heap.objs.size<=it) (h2:∀ x c,X.env.cells.lookup x=some c->c≠it) (h3:∀ p∈X.pn++pins,p.1≠it):Inv X pins σ H { s with heap:=h',toks:=t' }:=by
 have nit:∀ b u,H b=some u->b≠it:=fun b u e z=>by rw[z,hn] at e;cases e
 refine I.step (g':=s.gens) (d':=s.drawn) (ch:=[it]) (fun b hb=>?_) (fun b o _ _ hc e _=>k b o (fun z=>hc (by simp[z])) e) (fun b o _ _ hc e _=>⟨o.slots,k b o (fun z=>hc (by simp[z])) e⟩) (fun _ _ _ _ n=>n)
   (fun b o hc e=>⟨o,k b o (fun z=>hc (by simp[z])) e⟩) (fun _ _ e=>e) (fun _ _ _ e=>e) (fun b ps e=>⟨#[],by rw[e];simp⟩) (fun m hm=>?_) (fun b u e=>?_) I.bare
 . have e:b=it:=by simpa using hb
   subst e;exact⟨h1,hL,h2,h3⟩
 . obtain⟨o,es,ep,ho,r⟩:=hm;exact⟨o,es,ep,k _ o (A9 hL) ho,r⟩
 . refine (I.hok b u e).stay (fun c v hc q=>k c v ?_ q) (fun _ q=>q) fun _ _ q=>q
   rcases hc with z | z
   . rw[z];exact nit b u e
   . exact nit c _ z
theorem Inv.tok(I:Inv X pins σ H s)(t:Nat):Inv X pins σ H { s with toks:=t }:=I.un (h':=s.heap) (t':=t) Un.refl I.hok
theorem Inv.kept{t':Nat}(I:Inv X pins σ H s)(k:∀ b u,s.heap.get? b=some u->h'.get? b=some u):Inv X pins σ H { s with heap:=h',toks:=t' }:=I.un (Un.kept k) (I.hok.kept k)
theorem Inv.laid{a:Addr}{o:HO}{t':Nat}(I:Inv X pins σ H s)(k:∀ b u,s.heap.get? b=some u->h'.get? b=some u)(hp:s.heap.objs.size<=a)(new:zdv X.prog X.w (upd H a o) h' a o) :
   Inv X pins σ (upd H a o) { s with heap:=h',toks:=t' }:=I.un (Un.laid k hp (I.hok.fresh hp)) (I.hok.laid k hp new)
theorem Inv.write{x e:Addr}{o:HO}{t':Nat}(I:Inv X pins σ H s)(mu:Mut (H x))(he:e=x\/H e=some (.own x))(k:∀ b u,b≠e->s.heap.get? b=some u->h'.get? b=some u)(heo:∃ u,h'.get? e=some u)
   (new:zdv X.prog X.w (upd H x o) h' x o):Inv X pins σ (upd H x o) { s with heap:=h',toks:=t' }:=I.un (Un.write mu he k heo) (I.hok.write mu he k heo new)
theorem Inv.pins_of{pins':List (Addr×Obj)}(I:Inv X pins σ H s)(h:∀ p∈pins',s.heap.get? p.1=some p.2/\H p.1=none/\p.1≠X.env.locals/\p.1 ∉ X.fs/\∀ v,p.2.data≠.cell v):Inv X pins' σ H s :=
 ⟨I.ok,I.os,I.bare,I.base,I.loc,I.cell,I.free,I.freeC,fun p hp=>(List.mem_append.mp hp).elim (fun z=>I.pin p (AO _ z)) (h p),I.hok,I.len⟩
theorem zhN{N:List Str}(hN:N.Nodup){i j:Nat}{x:Str}(a:N[i]?=some x)(b:N[j]?=some x):i=j:=by
 obtain⟨h1,e1⟩:=List.getElem?_eq_some_iff.mp a;obtain⟨h2,e2⟩:=List.getElem?_eq_some_iff.mp b;exact (EF hN).mp (e1.trans e2.symm)
theorem zgi{M:Model}{A:Around}{E:Value->Shared->Prop}{i:Nat}{x:Str}{v:V}{u:Value}{Q:Unit->Shared->Prop}(I:Inv X pins σ H s)(hN:X.N.Nodup)(hi:X.N[i]?=some x)(hx:Loc X.env.scope x)(r:RelV v u)
   (h:∀ s',Inv X pins (σ.set i (some v)) H s'->(∃ a,BC a s.heap s'.heap/\(a=X.env.locals\/X.env.cells.lookup x=some a))->Q () s') (hf:X.fn x=true\/X.env.scope.names.lookup x=some .local:=by first | exact .inl rfl | exact .inr rfl | assumption):wpAny M A (storeName X.env x u) Q E s:=by
 obtain⟨m,hn,hl⟩:=id I.loc;have hcls:(X.env.scope.kind==.class || (X.env.scope.kind==.module&&X.env.locals != X.env.globals))=false:=by rw[I.ok.kind];rfl
 have hiσ:i < σ.length:=by rw[I.len];exact (List.getElem?_eq_some_iff.mp hi).1
 have cne:=I.cne;have tracked:∀ {a:Addr} {h':Heap},(∃ o,s.heap.get? a=some o/\H a=none)->BC a s.heap h'->HOk X.prog X.w H h':=fun {a h'} ha hs b ob e=>by
   obtain⟨_,_,hfree⟩:=ha;refine (I.hok b ob e).stay (fun c w' hc q=>(hs.2 c ?_).trans q) (fun _ q=>q) fun _ _ q=>q;rintro rfl
   rcases hc with rfl | hc
   . rw[hfree] at e;cases e
   . rw[hfree] at hc;cases hc
 rcases hx with hk | hk
 . refine wpAny_storeName_local hk hn (fun h' hn' hs=>?_) hcls;obtain⟨oL,_,_,hoL,_⟩:=id hn;refine h _ ⟨I.ok,I.os,I.bare,⟨fun b o e n hb hx=>?_,fun b o e n hb hx=>?_,I.base.free,fun b o e hx=>?_,I.base.tups,I.base.frzs,I.base.tbls⟩,⟨_,hn',fun j y v' e1 e2 e3=>?_⟩,fun y c e=>?_,I.free,I.freeC,fun p hp=>?_,tracked ⟨oL,hoL,I.free⟩ hs,by simpa using I.len⟩ ⟨_,hs,.inl rfl⟩
   . exact (hs.2 b (AB (Aw (An e) I.ok.above))).trans (I.base.keep b o e n hb hx)
   . obtain⟨sl,e1⟩:=I.base.slot b o e n hb hx;exact⟨sl,(hs.2 b (AB (Aw (An e) I.ok.above))).trans e1⟩
   . obtain⟨o',e1⟩:=I.base.there b o e hx;exact⟨o',(hs.2 b (AB (Aw (An e) I.ok.above))).trans e1⟩
   . by_cases hj:j=i
     . subst hj;rw[hi] at e1;cases e1;rw[BB hiσ] at e2;cases e2;exact⟨u,r,.inl ⟨hk,by simp⟩⟩
     . rw[AE (A9 hj)] at e2;obtain⟨u',r',q⟩:=hl j y v' e1 e2 e3;refine⟨u',r',?_⟩
       rcases q with ⟨k,e⟩ | ⟨k,c,e,z⟩
       . refine .inl ⟨k,?_⟩;have:y≠x:=fun e=>hj (zhN hN e1 (e ▸ hi));simp[this,e]
       . exact .inr ⟨k,c,e,z.sameBut hs (cne y c e)⟩
   . obtain⟨w',z⟩:=I.cell y c e;exact⟨w',z.sameBut hs (cne y c e)⟩
   . obtain⟨e,n,ne,nf,d⟩:=I.pin p hp;exact⟨(hs.2 p.1 ne).trans e,n,ne,nf,d⟩
 . have hfn:X.fn x=true:=by
     rcases hf with z | z
     . exact z
     . rw[z] at hk;cases hk
   obtain⟨c,hc⟩:=I.ok.has x (.inl hk);obtain⟨w',z⟩:=I.cell x c hc;refine wpAny_storeName_cell I.ok.kind hk hc z (fun h' hc' hs=>?_);obtain⟨oc,hoc,hocd⟩:=id z;refine h { s with heap:=h' } ⟨I.ok,I.os,I.bare,⟨fun b o e n hb hx=>?_,fun b o e n hb hx=>?_,I.base.free,fun b o e hx=>?_,I.base.tups,I.base.frzs,I.base.tbls⟩,⟨m,hn.sameBut hs (A9 (cne x c hc)),fun j y v' e1 e2 e3=>?_⟩,fun y c' e=>?_,I.free,I.freeC,fun p hp=>?_,tracked ⟨oc,hoc,I.freeC x c hc⟩ hs,by simpa using I.len⟩ ⟨c,hs,.inr hc⟩
   . exact (hs.2 b (AB (Aw (An e) (I.ok.cab x c hfn hc)))).trans (I.base.keep b o e n hb hx)
   . obtain⟨sl,e1⟩:=I.base.slot b o e n hb hx;exact⟨sl,(hs.2 b (AB (Aw (An e) (I.ok.cab x c hfn hc)))).trans e1⟩
   . obtain⟨o',e1⟩:=I.base.there b o e hx;exact⟨o',(hs.2 b (AB (Aw (An e) (I.ok.cab x c hfn hc)))).trans e1⟩
   . by_cases hj:j=i
     . subst hj;rw[hi] at e1;cases e1;rw[BB hiσ] at e2;cases e2;exact⟨u,r,.inr ⟨.inl hk,c,hc,hc'⟩⟩
     . rw[AE (A9 hj)] at e2;obtain⟨u',r',q⟩:=hl j y v' e1 e2 e3;refine⟨u',r',?_⟩
       rcases q with q | ⟨k,c',e,z'⟩
       . exact .inl q
       . refine .inr ⟨k,c',e,z'.sameBut hs ?_⟩;rintro rfl;exact hj (zhN hN e1 (I.ok.inj _ _ _ e hc ▸ hi))
   . by_cases hcc:c'=c
     . subst hcc;exact⟨_,hc'⟩
     . obtain⟨w2,z2⟩:=I.cell y c' e;exact⟨w2,z2.sameBut hs hcc⟩
   . obtain⟨e,n,ne,nf,d⟩:=I.pin p hp;refine⟨(hs.2 p.1 ?_).trans e,n,ne,nf,d⟩;intro q;rw[q,hoc] at e;have q':oc=p.2:=Az e;exact d w' (by rw[<-q'];exact hocd)
theorem zew{M:Model}{A:Around}{E:Value->Shared->Prop}{i:Nat}{x:Str}{v:V}{u:Value}{Q:Unit->Shared->Prop}(I:Inv X pins σ H s)(hN:X.N.Nodup)(hi:X.N[i]?=some x)(hx:Loc X.env.scope x)(r:RelV v u)
   (h:∀ s',Inv X pins (σ.set i (some v)) H s'->Q () s') (hf:X.fn x=true\/X.env.scope.names.lookup x=some .local:=by first | exact .inl rfl | exact .inr rfl | assumption):wpAny M A (storeName X.env x u) Q E s :=
 zgi I hN hi hx r (fun s' I' _=>h s' I') hf
theorem Inv.call'{s':Shared}{ch:List Addr}(I:Inv X pins σ H s)(ho:s'.os=s.os)(u:Un (frs X.stack) ch H H' s.heap s'.heap)(hok:HOk X.prog X.w H' s'.heap)(hg:AllBare s'.gens)
   (hch:∀ b∈ch,(b∈X.ex\/X.s₀.heap.objs.size<=b)/\b≠X.env.locals/\(∀ x c,X.env.cells.lookup x=some c->c≠b)/\∀ p∈X.pn++pins,p.1≠b):Inv X pins σ H' s':=by
 obtain⟨h',g',d',t',o'⟩:=s';have e:o'=s.os:=ho;subst e;exact I.call (g':=g') (t':=t') (d':=d') u hok hg hch
end
noncomputable abbrev XK:=Value->Option Addr->Hp->Prop
noncomputable abbrev St:=List (Option V)
noncomputable abbrev VK:=V->Hp->Prop
noncomputable abbrev TE:=St->Hp->VK->Prop
noncomputable abbrev TT:=St->Hp->(Bool->Hp->Prop)->Prop
noncomputable abbrev TA:=St->Hp->(List V->Hp->Prop)->Prop
structure Ends where
 nx:St->Hp->Prop
 rt:VK
 bk:St->Hp->Prop:=fun _ _=>False
 ct:St->Hp->Prop:=fun _ _=>False
noncomputable abbrev TS:=Ends->St->Hp->Prop
def EP(X:Cx)(pins:List (Addr×Obj))(σ:St)(Q:VK)(u:Value)(s':Shared):Prop:=∃ v H',Inv X pins σ H' s'/\RelV v u/\Q v H'
def TP(X:Cx)(pins:List (Addr×Obj))(σ:St)(Q:Bool->Hp->Prop)(b:Bool)(s':Shared):Prop:=∃ H',Inv X pins σ H' s'/\Q b H'
def AP(X:Cx)(pins:List (Addr×Obj))(σ:St)(Q:List V->Hp->Prop)(us:List Value)(s':Shared):Prop:=∃ vs H',Inv X pins σ H' s'/\Vals vs us/\Q vs H'
def SP(X:Cx)(pins:List (Addr×Obj))(D:Ends)(f:Flow)(s':Shared):Prop :=
 match f with
 | .next=>∃ σ' H',Inv X pins σ' H' s'/\D.nx σ' H'
 | .brk=>∃ σ' H',Inv X pins σ' H' s'/\D.bk σ' H'
 | .cont=>∃ σ' H',Inv X pins σ' H' s'/\D.ct σ' H'
 | .ret u=>∃ v σ' H',Inv X pins σ' H' s'/\RelV v u/\D.rt v H'
def PE(X:Cx)(e:Expr)(t:TE):Prop :=
 ∀ (pins:List (Addr×Obj)) (s:Shared) (σ:St) (H:Hp) (Q:VK),Inv X pins σ H s->t σ H Q->wpAny (model X.prog X.w) X.A (eval e X.env) (EP X pins σ Q) X.xe s
def PT(X:Cx)(e:Expr)(t:TT):Prop :=
 ∀ (pins:List (Addr×Obj)) (s:Shared) (σ:St) (H:Hp) (Q:Bool->Hp->Prop),Inv X pins σ H s->t σ H Q->wpAny (model X.prog X.w) X.A (isTrue e X.env (eval e X.env)) (TP X pins σ Q) X.xe s
def PW(X:Cx)(e:Expr)(t:TT):Prop :=
 ∀ (whole:Sem Value) (pins:List (Addr×Obj)) (s:Shared) (σ:St) (H:Hp) (Q:Bool->Hp->Prop),Inv X pins σ H s->t σ H Q->wpAny (model X.prog X.w) X.A (isTrue e X.env whole) (TP X pins σ Q) X.xe s
theorem PW.pt{X:Cx}{e:Expr}{t:TT}(h:PW X e t):PT X e t:=h _
def PA(X:Cx)(es:List Expr)(t:TA):Prop :=
 ∀ (pos:Pos) (pins:List (Addr×Obj)) (s:Shared) (σ:St) (H:Hp) (Q:List V->Hp->Prop),Inv X pins σ H s->t σ H Q->wpAny (model X.prog X.w) X.A (spliced (backTo pos (starEach es X.env))) (AP X pins σ Q) X.xe s
def PS(X:Cx)(st:Stmt)(t:TS):Prop :=
 ∀ (pins:List (Addr×Obj)) (s:Shared) (σ:St) (H:Hp) (D:Ends),Inv X pins σ H s->t D σ H->wpAny (model X.prog X.w) X.A (exec st X.env) (SP X pins D) X.xe s
def PSs(X:Cx)(st:List Stmt)(t:TS):Prop :=
 ∀ (pins:List (Addr×Obj)) (s:Shared) (σ:St) (H:Hp) (D:Ends),Inv X pins σ H s->t D σ H->wpAny (model X.prog X.w) X.A (execs st X.env) (SP X pins D) X.xe s
theorem thn{α:Type}{t:Sem α}{Q Q':α->Shared->Prop}{M:Model}{A:Around}{E:Value->Shared->Prop}{s:Shared}(h:wpAny M A t Q E s)(hQ:∀ a s,Q a s->Q' a s):wpAny M A t Q' E s:=Bj h hQ fun _ _ x=>x
section
variable {X:Cx}
noncomputable def tVar(i:Nat):TE:=fun σ H Q=>∃ v,σ[i]?=some (some v)/\Q v H
noncomputable def tC(v:V):TE:=fun _ H Q=>Q v H
theorem zme{i:Nat}{x:Str}{pos:Pos}(hN:X.N[i]?=some x)(hv:Vis X.env.scope x)(hd:(x==("__debug__":Str))=false:=by decide)(hcd:(x==("__classdict__":Str))=false:=by decide):PE X (.Name x pos) (tVar i):=by
 intro pins s σ H Q I h;obtain⟨v,e,h⟩:=h;obtain⟨m,hn,hl⟩:=I.loc;obtain⟨u,r,l⟩:=hl i x v hN e hv;have fin:EP X pins σ Q u s:=⟨v,H,I,r,h⟩
 rcases l with ⟨hk,hm⟩ | ⟨hk,c,hc,hcell⟩
 . exact EN (wpAny_loadName_local I.ok.kind hk hn hm fin) hd
 . rcases hk with hk | hk
   . exact EN (wpAny_loadName_cell I.ok.kind hk hc hcell fin) hd
   . exact EN (wpAny_loadName_free I.ok.kind hk hc hcell fin hcd) hd
theorem zn4{i j pos}:PE X (.Constant (.int i) j pos) (tC (.int i)):=fun _ _ _ H _ I h=>wpAny_Constant_int ⟨.int i,H,I.tok _,⟨_,rfl⟩,h⟩
theorem zpu{b j pos}:PE X (.Constant (.bool b) j pos) (tC (.bl b)):=fun _ _ _ H _ I h=>Constant_bool ⟨.bl b,H,I,rfl,h⟩
theorem zn0{x j pos}:PE X (.Constant (.str x) j pos) (tC (.str x)):=fun _ _ _ H _ I h=>Calls.Constant_str ⟨.str x,H,I.tok _,⟨_,rfl⟩,h⟩
def Gl(X:Cx)(x:Str):Prop:=X.env.kindOf x=some .globalImplicit
theorem zhZ{E:Value->Shared->Prop}{pins:List (Addr×Obj)}{s:Shared}{σ:St}{H:Hp}{x:Str}{u:Value}{pos:Pos}{Q:Value->Shared->Prop}(I:Inv X pins σ H s)(hg:Gl X x)(hm:X.mg x=some u)(h:Q u s)
   (hd:(x==("__debug__":Str))=false:=by decide):wpAny (model X.prog X.w) X.A (eval (.Name x pos) X.env) Q E s :=
 Dg I.ok.kind hg (Calls.loadGlobal_global (by rw[I.ok.glob];exact I.mod.glob.keeps I.bk) hm h) hd
theorem zgX{E:Value->Shared->Prop}{pins:List (Addr×Obj)}{s:Shared}{σ:St}{H:Hp}{x:Str}{u:Value}{pos:Pos}{Q:Value->Shared->Prop}(I:Inv X pins σ H s)(hg:Gl X x)(hm:X.mg x=none)(hv:bootBuiltins x=some u)(h:Q u s)
   (hn:x≠"__name__":=by decide) (hd:(x==("__debug__":Str))=false:=by decide):wpAny (model X.prog X.w) X.A (eval (.Name x pos) X.env) Q E s:=by
 obtain⟨mb,h1,h2⟩:=I.mod.blt;exact Dg I.ok.kind hg (Calls.loadGlobal_builtin (by rw[I.ok.glob];exact I.mod.glob.keeps I.bk) hm (by rw[I.ok.blt];exact h1.keeps I.bk) ((h2 x hn).trans hv) h) hd
theorem zmf{x:Str}{v:V}{u:Value}{pos:Pos}(hg:Gl X x)(hm:X.mg x=some u)(r:RelV v u)(hd:(x==("__debug__":Str))=false:=by decide):PE X (.Name x pos) (tC v) :=
 fun _ _ _ H _ I h=>zhZ I hg hm ⟨v,H,I,r,h⟩ hd
theorem zmk{x:Str}{v:V}{u:Value}{pos:Pos}(hg:Gl X x)(hm:X.mg x=none)(hv:bootBuiltins x=some u)(r:RelV v u)(hn:x≠"__name__":=by decide)(hd:(x==("__debug__":Str))=false:=by decide):PE X (.Name x pos) (tC v) :=
 fun _ _ _ H _ I h=>zgX I hg hm hv ⟨v,H,I,r,h⟩ hn hd
variable {a b:Expr} {ta tb:TE} {pos:Pos}
def PC(X:Cx)(op:CmpOp)(a b:Expr)(t:TE):Prop :=
 ∀ (pins:List (Addr×Obj)) (s:Shared) (σ:St) (H:Hp) (Q:VK),Inv X pins σ H s->t σ H Q ->
   wpAny (model X.prog X.w) X.A (eval a X.env) (fun v s₁=>wpAny (model X.prog X.w) X.A (eval b X.env) (fun u s₂=>wpAny (model X.prog X.w) X.A (compareOp op v u) (EP X pins σ Q) X.xe s₂) X.xe s₁) X.xe s
theorem zn5{op:CmpOp}{t:TE}(h:PC X op a b t)(h1:behindInMarks op b=false:=by first | exact nobehind _ (by decide) (by decide) | rfl):PE X (.Compare a [op] [b] pos) t:=fun pins s σ H Q I hw=>wpAny_Compare1 (h pins s σ H Q I hw) h1
variable {tA tB':TT} {rest:List Expr}
noncomputable def tAnd(t u:TT):TT:=fun σ H Q=>t σ H fun c H1=>if c=true then u σ H1 Q else Q false H1
noncomputable def tOr(t u:TT):TT:=fun σ H Q=>t σ H fun c H1=>if c=true then Q true H1 else u σ H1 Q
noncomputable def tNot(t:TT):TT:=fun σ H Q=>t σ H fun c H1=>Q (!c) H1
theorem pw_and1(ha:PT X a tA):PW X (.BoolOp .And [a] pos) tA:=by
 intro wh pins s σ H Q I h;refine isTrue_and (thn (ha pins s σ H Q I h) fun c s1 e=>?_)
 cases c with
 | true=>exact isTrue_and_nil e
 | false=>exact e
theorem pw_or1(ha:PT X a tA):PW X (.BoolOp .Or [a] pos) tA:=by
 intro wh pins s σ H Q I h;refine isTrue_or (thn (ha pins s σ H Q I h) fun c s1 e=>?_)
 cases c with
 | false=>exact isTrue_or_nil e
 | true=>exact e
theorem pw_and(ha:PT X a tA)(hb:PW X (.BoolOp .And (b::rest) pos) tB'):PW X (.BoolOp .And (a::b::rest) pos) (tAnd tA tB'):=by
 intro wh pins s σ H Q I h;refine isTrue_and (thn (ha pins s σ H _ I h) ?_);rintro c s1 ⟨H1,I1,q1⟩
 cases c with
 | true=>exact hb wh pins s1 σ H1 Q I1 q1
 | false=>exact⟨H1,I1,q1⟩
theorem pw_or(ha:PT X a tA)(hb:PW X (.BoolOp .Or (b::rest) pos) tB'):PW X (.BoolOp .Or (a::b::rest) pos) (tOr tA tB'):=by
 intro wh pins s σ H Q I h;refine isTrue_or (thn (ha pins s σ H _ I h) ?_);rintro c s1 ⟨H1,I1,q1⟩
 cases c with
 | true=>exact⟨H1,I1,q1⟩
 | false=>exact hb wh pins s1 σ H1 Q I1 q1
theorem znP(ha:PT X a tA):PT X (.UnaryOp .Not a pos) (tNot tA):=by
 intro pins s σ H Q I h;exact isTrue_not (ha pins s σ H (fun c H1=>Q (!c) H1) I h)
noncomputable def zpi(ta tb:TE):TE:=fun σ H Q=>ta σ H fun x H1=>∃ c,x=.bl c/\if c=true then tb σ H1 Q else Q (.bl false) H1
noncomputable def zpc(ta:TE):TE:=fun σ H Q=>ta σ H fun x H1=>∃ c,x=.bl c/\Q (.bl (!c)) H1
theorem zn1{op}{t:TE}(h:PE X a t):PE X (.BoolOp op [a] pos) t:=fun pins s σ H Q I hw=>BoolOp_one (h pins s σ H Q I hw)
theorem zn6(ha:PE X a ta)(hb:PE X (.BoolOp .And (b::rest) pos) tb):PE X (.BoolOp .And (a::b::rest) pos) (zpi ta tb):=by
 intro pins s σ H Q I h;refine BoolOp_and (thn (ha pins s σ H _ I h) ?_);rintro v s1 ⟨x,H1,I1,r1,q1⟩;obtain⟨c,rfl,q1⟩:=q1;cases r1;refine BL ?_
 cases c with
 | true=>exact hb pins s1 σ H1 Q I1 q1
 | false=>exact⟨.bl false,H1,I1,rfl,q1⟩
theorem zn2(ha:PE X a ta):PE X (.UnaryOp .Not a pos) (zpc ta):=by
 intro pins s σ H Q I h;refine UnaryOp_ (thn (ha pins s σ H _ I h) ?_);rintro v s1 ⟨x,H1,I1,r1,q1⟩;obtain⟨c,rfl,q1⟩:=q1;cases r1;exact not_of (BL ⟨.bl (!c),H1,I1,rfl,q1⟩)
noncomputable def tIf(t:TT)(ta tb:TE):TE:=fun σ H Q=>t σ H fun c H1=>if c=true then ta σ H1 Q else tb σ H1 Q
theorem zkx{c:Expr}(hc:PT X c tA)(ha:PE X a ta)(hb:PE X b tb):PE X (.IfExp c a b pos) (tIf tA ta tb):=by
 intro pins s σ H Q I h;refine wpAny_IfExp (thn (hc pins s σ H _ I h) ?_);rintro d s1 ⟨H1,I1,q1⟩
 cases d with
 | true=>exact ha pins s1 σ H1 Q I1 q1
 | false=>exact hb pins s1 σ H1 Q I1 q1
end
def SqL(K:Ac)(H:Hp)(a:Addr)(xs:List V):Prop :=
 Rd H a (.lst xs) \/
   ∃ (o:Obj) (its:Array Value) (n:Nat),K.lookup a=some o/\o.cls=.type "list"/\o.dict=none/\o.data=.seq its n/\its.size<=sizeLine/\Vals xs its.toList
def SqT(K:Ac)(H:Hp)(a:Addr)(xs:List V):Prop :=
 Rd H a (.tup xs) \/
   ∃ (o:Obj) (its:Array Value) (n:Nat),K.lookup a=some o/\o.cls=.type "tuple"/\o.data=.seq its n/\its.size<=sizeLine/\Vals xs its.toList
noncomputable def absV:Value->Option V
 | .none=>some .non
 | .bool b=>some (.bl b)
 | .int i _=>some (.int i)
 | .str x _=>some (.str x)
 | .bytes b _=>some (.byt b)
 | .float b _=>some (.flt b)
 | .ref a=>some (.ref a)
 | .type n=>some (.ty n)
 | _=>none
theorem RelV.abs{x:V}{u:Value}(r:RelV x u):absV u=some x:=by
 cases x with
 | non=>cases r;rfl
 | bl _=>cases r;rfl
 | int _=>obtain⟨t,rfl⟩:=r;rfl
 | str _=>obtain⟨t,rfl⟩:=r;rfl
 | byt _=>obtain⟨t,rfl⟩:=r;rfl
 | flt _=>obtain⟨t,rfl⟩:=r;rfl
 | ref _=>cases r;rfl
 | ty _=>cases r;rfl
theorem RelV.inj{x y:V}{u:Value}(r:RelV x u)(q:RelV y u):x=y:=Az (r.abs.symm.trans q.abs)
theorem Vals.inj:∀ {xs ys:List V} {us:List Value},Vals xs us->Vals ys us->xs=ys
 | _,_,_,.nil,.nil=>rfl
 | _,_,_,.cons r t,.cons r' t'=>by rw[r.inj r',Vals.inj t t']
section
variable {X:Cx} {pins:List (Addr×Obj)} {σ:St} {H:Hp} {s:Shared} {a:Addr} {xs ys:List V}
theorem SqL.of{K:Ac}(h:H a=some (.lst xs)):SqL K H a xs:=.inl (.inl h)
theorem SqT.of{K:Ac}(h:H a=some (.tup xs)):SqT K H a xs:=.inl (.inl h)
theorem Inv.list(I:Inv X pins σ H s)(h:SqL X.K H a xs):∃ its:List Value,Vals xs its/\PlainL s.heap a its.toArray/\xs.length<=sizeLine:=by
 rcases h with h | ⟨o,its,n,hk,hc,hd,hs,hz,r⟩
 . obtain⟨z,its,n,r,e⟩:=h.ok I.hok;exact⟨its,r,⟨_,n,e,rfl,rfl,rfl⟩,z⟩
 . refine⟨its.toList,r,⟨o,n,I.kIn a o hk,hc,hd,by simpa using hs⟩,?_⟩;have e:=r.length;simp only[AH] at e;omega
theorem Inv.tuple(I:Inv X pins σ H s)(h:SqT X.K H a xs):∃ its:List Value,Vals xs its/\IsTup s.heap a its.toArray/\xs.length<=sizeLine:=by
 rcases h with h | ⟨o,its,n,hk,hc,hs,hz,r⟩
 . obtain⟨z,its,r,p⟩:=h.ok I.hok;exact⟨its,r,p.t,z⟩
 . refine⟨its.toList,r,⟨o,I.kIn a o hk,hc,n,by simpa using hs⟩,?_⟩;have e:=r.length;simp only[AH] at e;omega
theorem Inv.list_inj(I:Inv X pins σ H s)(h:SqL X.K H a xs)(h':SqL X.K H a ys):xs=ys:=by
 obtain⟨its,r,⟨o,n,e,_,_,d⟩,_⟩:=I.list h;obtain⟨its',r',⟨o',n',e',_,_,d'⟩,_⟩:=I.list h';rw[e] at e';cases e';rw[d] at d';injection d' with d1 _
 have:its=its':=by simpa using congrArg Fn d1
 subst this;exact r.inj r'
theorem Inv.tuple_inj(I:Inv X pins σ H s)(h:SqT X.K H a xs)(h':SqT X.K H a ys):xs=ys:=by
 obtain⟨its,r,⟨o,e,_,n,d⟩,_⟩:=I.tuple h;obtain⟨its',r',⟨o',e',_,n',d'⟩,_⟩:=I.tuple h';rw[e] at e';cases e';rw[d] at d';injection d' with d1 _
 have:its=its':=by simpa using congrArg Fn d1
 subst this;exact r.inj r'
end
noncomputable abbrev Cx.wish (X:Cx) (E:Value->Shared->Prop):Cx:={ X with xe:=E }
noncomputable abbrev Cx.nox (X:Cx):Cx:=X.wish fun _ _=>False
theorem Cx.Ok.wish{X:Cx}(ok:X.Ok)(E:Value->Shared->Prop):(X.wish E).Ok :=
 ⟨ok.mod,ok.kind,ok.glob,ok.blt,ok.above,ok.inj,ok.has,ok.cab,ok.hd,ok.frames,ok.stk,ok.exf,ok.bs,ok.bsz,ok.noex,ok.exfs,ok.funs,ok.frf⟩
theorem Cx.Ok.unwish{X:Cx}{E:Value->Shared->Prop}(ok:(X.wish E).Ok):X.Ok :=
 ⟨ok.mod,ok.kind,ok.glob,ok.blt,ok.above,ok.inj,ok.has,ok.cab,ok.hd,ok.frames,ok.stk,ok.exf,ok.bs,ok.bsz,ok.noex,ok.exfs,ok.funs,ok.frf⟩
section
variable {X:Cx} {pins:List (Addr×Obj)} {σ:St} {H:Hp} {s:Shared} {E:Value->Shared->Prop}
theorem Inv.wish(I:Inv X pins σ H s)(E:Value->Shared->Prop):Inv (X.wish E) pins σ H s:=⟨I.ok.wish E,I.os,I.bare,I.base,I.loc,I.cell,I.free,I.freeC,I.pin,I.hok,I.len⟩
theorem Inv.unwish(I:Inv (X.wish E) pins σ H s):Inv X pins σ H s:=⟨I.ok.unwish,I.os,I.bare,I.base,I.loc,I.cell,I.free,I.freeC,I.pin,I.hok,I.len⟩
theorem SP.unwish{D:Ends}{f:Flow}{s':Shared}(h:SP (X.wish E) pins D f s'):SP X pins D f s':=by
 cases f with
 | next=>obtain⟨σ',H',I,q⟩:=h;exact⟨σ',H',I.unwish,q⟩
 | brk=>obtain⟨σ',H',I,q⟩:=h;exact⟨σ',H',I.unwish,q⟩
 | cont=>obtain⟨σ',H',I,q⟩:=h;exact⟨σ',H',I.unwish,q⟩
 | ret u=>obtain⟨v,σ',H',I,r,q⟩:=h;exact⟨v,σ',H',I.unwish,r,q⟩
theorem PSs.nox{st:List Stmt}{t:TS}(h:PSs X.nox st t):PSs X st t:=fun pins s σ H D I hw =>
 Bj (h pins s σ H D (I.wish _) hw) (fun _ _ q=>q.unwish) fun _ _ z=>False.elim z
end
section
variable {X:Cx} {st:Stmt} {rest:List Stmt} {t u:TS} {e:Expr} {te:TE} {pos:Pos}
noncomputable def zpd:TS:=fun D σ H=>D.nx σ H
noncomputable def tSeq(t u:TS):TS:=fun D σ H=>t { D with nx:=u D } σ H
theorem zl4:PSs X [] zpd:=fun _ _ σ H _ I h=>CK ⟨σ,H,I,h⟩
theorem zko(h1:PS X st t)(h2:PSs X rest u):PSs X (st::rest) (tSeq t u):=by
 intro pins s σ H D I h;refine wpAny_execs_cons (thn (h1 pins s σ H { D with nx:=u D } I h) fun f s1 q=>?_)
 cases f with
 | next =>
   obtain⟨σ',H',I',q⟩:=q;exact h2 pins s1 σ' H' D I' q
 | ret v=>exact q
 | brk=>exact q
 | cont=>exact q
theorem zl3(h1:PS X st t):PSs X [st] t:=by
 intro pins s σ H D I h;refine wpAny_execs_cons (thn (h1 pins s σ H D I h) fun f s1 q=>?_)
 cases f with
 | next=>exact CK q
 | ret v=>exact q
 | brk=>exact q
 | cont=>exact q
theorem Inv.quiet{pins:List (Addr×Obj)}{σ:St}{H:Hp}{s:Shared}(I:Inv X pins σ H s):interactive X.env=false:=by simp[interactive,I.ok.kind]
noncomputable def zpe(te:TE):TS:=fun D σ H=>te σ H fun _ H1=>D.nx σ H1
theorem zl5(he:PE X e te)(hs:swapsWith e none pos.line X.env=pure false:=by rfl):PS X (.Expr e pos) (zpe te):=by
 intro pins s σ H D I h;exact wpAny_Expr_any (thn (he pins s σ H _ I h) fun v s1 ⟨x,H1,I1,r1,q1⟩=>⟨σ,H1,I1,q1⟩) I.quiet hs
noncomputable def tRet(te:TE):TS:=fun D σ H=>te σ H D.rt
theorem znR(he:PE X e te):PS X (.Return (some e) pos) (tRet te):=by
 intro pins s σ H D I h;exact wpAny_Return_some (thn (he pins s σ H _ I h) fun v s1 ⟨x,H1,I1,r1,q1⟩=>⟨x,σ,H1,I1,r1,q1⟩)
noncomputable def tIfS(c:TT)(t u:TS):TS:=fun D σ H=>c σ H fun b H1=>if b=true then t D σ H1 else u D σ H1
theorem zpp{c:Expr}{a b:List Stmt}{tc:TT}(hc:PT X c tc)(ha:PSs X a t)(hb:PSs X b u):PS X (.If c a b pos) (tIfS tc t u):=by
 intro pins s σ H D I h;refine wpAny_If (thn (hc pins s σ H _ I h) ?_);rintro d s1 ⟨H1,I1,q1⟩
 cases d with
 | true=>exact ha pins s1 σ H1 D I1 q1
 | false=>exact hb pins s1 σ H1 D I1 q1
end
noncomputable abbrev TG:=V->St->Hp->(St->Hp->Prop)->Prop
noncomputable abbrev TGs:=List V->St->Hp->(St->Hp->Prop)->Prop
def PG(X:Cx)(target:Expr)(t:TG):Prop :=
 ∀ (pins:List (Addr×Obj)) (s:Shared) (σ:St) (H:Hp) (v:V) (u:Value) (Q:St->Hp->Prop),Inv X pins σ H s->RelV v u->t v σ H Q ->
   wpAny (model X.prog X.w) X.A (assign target X.env u) (fun _ s'=>∃ σ' H',Inv X pins σ' H' s'/\Q σ' H') X.xe s
def PGs(X:Cx)(ts:List Expr)(t:TGs):Prop :=
 ∀ (pins:List (Addr×Obj)) (s:Shared) (σ:St) (H:Hp) (vs:List V) (us:List Value) (Q:St->Hp->Prop),Inv X pins σ H s->Vals vs us->t vs σ H Q ->
   wpAny (model X.prog X.w) X.A (assignInOrder ((assignEach ts X.env).map (·.2)) us) (fun _ s'=>∃ σ' H',Inv X pins σ' H' s'/\Q σ' H') X.xe s
noncomputable abbrev TSet:=V->V->V->Hp->(Hp->Prop)->Prop
def PSet(X:Cx)(t:TSet):Prop :=
 ∀ (pins:List (Addr×Obj)) (s:Shared) (σ:St) (H:Hp) (o i v:V) (ov iv u:Value) (Q:Hp->Prop),Inv X pins σ H s->RelV o ov->RelV i iv->RelV v u->t o i v H Q ->
   wpAny (model X.prog X.w) X.A (setItem ov iv u) (fun _ s'=>∃ H',Inv X pins σ H' s'/\Q H') X.xe s
section
variable {X:Cx} {pos:Pos}
noncomputable def zo5(i:Nat):TG:=fun v σ H Q=>Q (σ.set i (some v)) H
theorem zmd{i:Nat}{x:Str}(hN:X.N.Nodup)(hi:X.N[i]?=some x)(hx:Loc X.env.scope x)(hf:X.fn x=true\/X.env.scope.names.lookup x=some .local:=by first | exact .inl rfl | exact .inr rfl | assumption):PG X (.Name x pos) (zo5 i):=by
 intro pins s σ H v u Q I r h;exact Ep (zew I hN hi hx r (fun s' I'=>⟨_,H,I',h⟩) hf)
noncomputable def gNil:TGs:=fun vs σ H Q=>vs=[]/\Q σ H
noncomputable def zpM(t:TG)(u:TGs):TGs:=fun vs σ H Q=>∃ v r,vs=v::r/\t v σ H fun σ' H'=>u r σ' H' Q
theorem zmc:PGs X [] gNil:=by
 intro pins s σ H vs us Q I r h;obtain⟨e,h⟩:=h;subst e;cases r;exact Er ⟨σ,H,I,h⟩
theorem zkv{e:Expr}{es:List Expr}{t:TG}{u:TGs}(h1:PG X e t)(h2:PGs X es u)
   (hs:(assignEach (e::es) X.env).map (·.2)=assign e X.env::(assignEach es X.env).map (·.2):=by rfl):PGs X (e::es) (zpM t u):=by
 intro pins s σ H vs us Q I r h;obtain⟨v,vr,e1,h⟩:=h;subst e1
 cases r with
 | cons r rr =>
   rw[hs];refine C8 (thn (h1 pins s σ H _ _ _ I r h) ?_);rintro _ s1 ⟨σ1,H1,I1,q1⟩;exact h2 pins s1 σ1 H1 _ _ Q I1 rr q1
noncomputable def gTup(K:Ac)(n:Nat)(t:TGs):TG:=fun v σ H Q=>∃ a xs,v=.ref a/\SqT K H a xs/\xs.length=n/\t xs σ H Q
theorem znX{es:List Expr}{k:Nat}{t:TGs}{n:Nat}(hc:X.calm=true)(h:PGs X es t)
   (hn:(assignEach es X.env).length=n:=by rfl) (hst:(assignEach es X.env).findIdx? (·.1)=none:=by rfl):PG X (.Tuple es k pos) (gTup X.K n t):=by
 intro pins s σ H v u Q I r hw;obtain⟨a,xs,e1,hq,hl,hw⟩:=hw;subst e1;cases r;obtain⟨its,rv,ht,hz⟩:=I.tuple hq;refine assign_Tuple_tuple (I.ok.hd hc) ht (by simp[hn,<-hl,rv.length]) hst fun h' hx=>?_;have I1:Inv X pins σ H { s with heap:=h' }:=I.kept (t':=s.toks) fun b o e=>hx b o (AB (An e)) e;exact h pins _ σ H xs _ Q I1 (by simpa using rv) hw
noncomputable def gSub(to ti:TE)(t:TSet):TG:=fun v σ H Q=>to σ H fun o H1=>ti σ H1 fun i H2=>t o i v H2 fun H3=>Q σ H3
theorem znY{o i:Expr}{to ti:TE}{t:TSet}(ho:PE X o to)(hi:PE X i ti)(hs:PSet X t)
   (ha:∀ v,assign (.Subscript o i pos) X.env v=(do
     let ov <-holding [v] (eval o X.env)
     let iv <-holding [v,ov] (eval i X.env)
     standAt pos
     holding [v,ov,iv] (setItem ov iv v)
     release [v,ov,iv] []):=by intro _;rfl):PG X (.Subscript o i pos) (gSub to ti t):=by
 intro pins s σ H v u Q I r h;rw[ha];refine Aa (Bg (thn (ho pins s σ H _ I h) ?_));rintro ov s1 ⟨x,H1,I1,r1,q1⟩;refine Aa (Bg (thn (hi pins s1 σ H1 _ I1 q1) ?_));rintro iv s2 ⟨y,H2,I2,r2,q2⟩;refine Aa (Dh (Aa (Bg (thn (hs pins s2 σ H2 x y v ov iv u _ I2 r1 r2 r q2) ?_))));rintro _ s3 ⟨H3,I3,q3⟩;exact wpAny_release ⟨σ,H3,I3,q3⟩
noncomputable def tAsg(te:TE)(g:TG):TS:=fun D σ H=>te σ H fun x H1=>g x σ H1 D.nx
theorem znU{tg e:Expr}{te:TE}{g:TG}(he:PE X e te)(hg:PG X tg g)(hs:swapsWithSole [tg] e pos.line X.env=pure false:=by rfl)(hw:swappedStores [tg] e X.env=pure none:=by rfl)
   (h1:(assignEach [tg] X.env).map (·.2)=[assign tg X.env]:=by rfl):PS X (.Assign [tg] e pos) (tAsg te g):=by
 intro pins s σ H D I h;refine wpAny_Assign_stores (thn (he pins s σ H _ I h) ?_) hs hw;rintro v s1 ⟨x,H1,I1,r1,q1⟩;rw[h1];exact thn (hg pins s1 σ H1 x v _ I1 r1 q1) fun _ s2 q=>q
theorem znQ{i:Nat}{x:Str}{e:Expr}{te:TE}{pos':Pos}(hN:X.N.Nodup)(hi:X.N[i]?=some x)(hx:Loc X.env.scope x)(he:PE X e te)(hs:swapsWith e (some (.Name x pos')) pos.line X.env=pure false:=by rfl)(hf:X.fn x=true\/X.env.scope.names.lookup x=some .local:=by first | exact .inl rfl | exact .inr rfl | assumption) :
   PS X (.Assign [.Name x pos'] e pos) (tAsg te (zo5 i)):=by
 intro pins s σ H D I h;refine wpAny_Assign_Name (thn (he pins s σ H _ I h) ?_) hs;rintro v s1 ⟨y,H1,I1,r1,q1⟩;exact zew I1 hN hi hx r1 (fun s2 I2=>⟨_,H1,I2,q1⟩) hf
noncomputable def tPar(i j:Nat)(ta:TA):TS:=fun D σ H=>ta σ H fun vs H1=>∃ v w,vs=[v,w]/\D.nx ((σ.set i (some v)).set j (some w)) H1
theorem znS{i j:Nat}{x y:Str}{a b:Expr}{ta:TA}{px py pt:Pos}{kt k2 pt2}(hc:X.calm=true)(hN:X.N.Nodup)(hi:X.N[i]?=some x)(hj:X.N[j]?=some y)(hij:i≠j)
   (hx:X.env.scope.names.lookup x=some .local) (hy:X.env.scope.names.lookup y=some .local) (ha:PA X [a,b] ta)
   (hw:swappedStores [.Tuple [.Name x px,.Name y py] kt pt] (.Tuple [a,b] k2 pt2) X.env=pure (some [x,y]))
   (hs:swapsWithSole [.Tuple [.Name x px,.Name y py] kt pt] (.Tuple [a,b] k2 pt2) pos.line X.env=pure false:=by rfl) :
   PS X (.Assign [.Tuple [.Name x px,.Name y py] kt pt] (.Tuple [a,b] k2 pt2) pos) (tPar i j ta):=by
 intro pins s σ H D I h;rw[exec_Assign_arm];refine Aa (Dh ?_);rw[hs];refine Aa (Ad ?_);rw[if_neg (by decide)];refine Aa (Tuple_ (thn (ha _ pins s σ H _ I h) ?_));rintro us s1 ⟨vs,H1,I1,r1,q1⟩;obtain⟨v,w,e1,q1⟩:=q1;subst e1;obtain⟨u1,u2,rfl,rv,rw'⟩:∃ u1 u2,us=[u1,u2]/\RelV v u1/\RelV w u2:=by
   cases r1 with
   | cons p q =>
     cases q with
     | cons p' q' =>
       cases q';exact⟨_,_,rfl,p,p'⟩
 refine AQ ?_ (by show 2<=sizeLine;decide);have I2:Inv X pins σ H1 { s1 with heap:=s1.heap.push { cls:=.type "tuple",data:=.seq [u1,u2].toArray } }:=I1.kept (t':=s1.toks) fun b o e=>Ag _ e;rw[hw];refine Aa (Ad ?_);show wpAny (model X.prog X.w) X.A (do rule "assign.swapped-stores";let items <-unpackItems (.ref s1.heap.objs.size) 2 none;assignInOrder [fun v=>bindName X.env y v,fun v=>bindName X.env x v] items.reverse;pure Flow.next) _ _ _;refine Aa (Dr (Aa (unpackItems_tuple (items:=#[u1,u2]) (I.ok.hd hc) (IsTup.new s1.heap _) fun h' hx'=>?_)));have I3:=I2.kept (h':=h') (t':=s1.toks) fun b o e=>hx' b o (AB (An e)) e;show wpAny _ _ (assignInOrder [fun v=>bindName X.env y v,fun v=>bindName X.env x v] [u2,u1] >>= fun _=>pure Flow.next) _ _ _;refine Aa (C8 (wpAny_bindName (zew I3 hN hj (.inl hy) rw' (fun s2 I4=>?_) (.inr hy))));refine C8 (wpAny_bindName (zew I4 hN hi (.inl hx) rv (fun s3 I5=>Er (Ad ?_)) (.inr hx)));rw[List.set_comm _ _ (A9 hij)] at I5;exact⟨_,H1,I5,q1⟩
end
section
variable {X:Cx} {pos:Pos}
noncomputable def znp(c:TT)(tb:TS):TS:=fun D σ H=>∃ W:Nat->St->Hp->Prop,(∃ m,W m σ H)/\∀ m σ H,W m σ H ->
 c σ H fun b H1=>if b=true then ∃ N:St->Hp->Prop,(∀ σ' H',N σ' H'->∃ m',m' < m/\W m' σ' H')/\tb { D with nx:=N,ct:=N,bk:=D.nx } σ H1 else D.nx σ H1
theorem zkp{c:Expr}{body:List Stmt}{tc:TT}{tb:TS}(hp:PassesOwn (model X.prog X.w) X.A X.env X.xe)(hc:PT X c tc)(hb:PSs X body tb):PS X (.While c body [] pos) (znp tc tb):=by
 intro pins s σ H D I h;obtain⟨W,⟨m0,w0⟩,turn⟩:=h;refine wpAny_While (codeAny_whileLoop (fun n s'=>∃ σ' H',Inv X pins σ' H' s'/\W n σ' H') ?_ m0 ⟨σ,H,I,w0⟩);rintro n s1 ⟨σ1,H1,I1,w1⟩;refine BI hp (thn (hc pins s1 σ1 H1 _ I1 (turn n σ1 H1 w1)) ?_);rintro b s2 ⟨H2,I2,q2⟩
 cases b with
 | true =>
   obtain⟨N,hN,q2⟩:=q2;rw[if_pos rfl];refine BI hp (thn (hb pins s2 σ1 H2 _ I2 q2) fun f s3 q3=>?_)
   cases f with
   | next =>
     obtain⟨σ3,H3,I3,n3⟩:=q3;obtain⟨m',hm,w3⟩:=hN σ3 H3 n3;exact⟨m',hm,σ3,H3,I3,w3⟩
   | cont =>
     obtain⟨σ3,H3,I3,n3⟩:=q3;obtain⟨m',hm,w3⟩:=hN σ3 H3 n3;exact⟨m',hm,σ3,H3,I3,w3⟩
   | brk=>exact q3
   | ret v=>exact q3
 | false =>
   rw[if_neg Bp];exact CK ⟨σ1,H2,I2,q2⟩
end
structure It where
 go:Nat->Hp->Prop
 yld:Nat->Hp->V->Hp->Prop
 stop:Nat->Hp->Prop
def FpOk(X:Cx)(pins:List (Addr×Obj))(H:Hp)(b:Addr):Prop :=
 H b=none/\b≠X.env.locals/\b ∉ X.fs/\(b∈X.ex\/X.s₀.heap.objs.size<=b)/\(∀ x c,X.env.cells.lookup x=some c->c≠b)/\∀ p∈X.pn++pins,p.1≠b
theorem Inv.fpOk{X:Cx}{pins:List (Addr×Obj)}{σ:St}{H H':Hp}{s:Shared}{b:Addr}(I:Inv X pins σ H s)(hb:s.heap.objs.size<=b)(hn:H' b=none):FpOk X pins H' b:=by
 refine⟨hn,CL (Aw I.lt hb),I.nofs hb,.inr (AI I.sz hb),fun x c e z=>?_,fun p hp z=>?_⟩
 . obtain⟨v,q⟩:=I.cell x c e;exact absurd (Aw q.lt (by rw[z];exact hb)) (AR _)
 . exact absurd (Aw (An (I.pin p hp).1) (by rw[z];exact hb)) (AR _)
structure Turn(P:Program)(w:World)(K:Ac)(tg:Expr)(J:It)(fp:List Addr)(it:Addr)(tn:Nat->Heap->Prop):Prop where
 mem:it∈fp
 obj:∀ i h,tn i h->∀ b∈fp,∃ o,h.get? b=some o/\∀ v,o.data≠.cell v
 keep:∀ i h h',tn i h->(∀ b∈fp,∀ o,h.get? b=some o->h'.get? b=some o)->tn i h'
 item:∀ (X:Cx),X.prog=P->X.w=w->X.K=K->X.calm=true->∀ (i:Nat) (pins:List (Addr×Obj)) (s:Shared) (σ:St) (H:Hp) (E:Value->Shared->Prop),Inv X pins σ H s->(∀ b∈fp,FpOk X pins H b)->tn i s.heap->J.go i H ->
   wpAny (model P w) X.A (pyNext (.ref it)) (fun r s1=>∃ u,r=some u /\
     wpAny (model P w) X.A (letOwnedTupleGo tg (.ref it) u) (fun _ s2=>∃ x H',Inv X pins σ H' s2/\RelV x u/\J.yld i H x H'/\tn (i+1) s2.heap/\∀ b∈fp,H' b=none) E s1) E s
 done:∀ (X:Cx),X.prog=P->X.w=w->X.K=K->X.calm=true->∀ (i:Nat) (pins:List (Addr×Obj)) (s:Shared) (σ:St) (H:Hp) (E:Value->Shared->Prop),Inv X pins σ H s->(∀ b∈fp,FpOk X pins H b)->tn i s.heap->J.stop i H ->
   wpAny (model P w) X.A (pyNext (.ref it)) (fun r s1=>r=none/\Inv X pins σ H s1) E s
 self:∀ (A:Around) (i:Nat) (s:Shared) (Q:Value->Shared->Prop) (E:Value->Shared->Prop),tn i s.heap->Q (.ref it) s->wpAny (model P w) A (pyIter (.ref it)) Q E s
noncomputable abbrev TI:=St->Hp->(It->Hp->Prop)->Prop
def PIE(X:Cx)(pins:List (Addr×Obj))(σ:St)(tg:Expr)(R:It->Hp->Prop)(itv:Value)(s2:Shared):Prop :=
 ∃ (it:Addr) (fp:List Addr) (tn:Nat->Heap->Prop) (J:It) (H':Hp),itv=.ref it/\Inv X pins σ H' s2/\Turn X.prog X.w X.K tg J fp it tn/\tn 0 s2.heap/\(∀ b∈fp,FpOk X pins H' b)/\R J H'
def PI(X:Cx)(tg iter:Expr)(wi:TI):Prop :=
 ∀ (pins:List (Addr×Obj)) (s:Shared) (σ:St) (H:Hp) (R:It->Hp->Prop),Inv X pins σ H s->wi σ H R ->
   wpAny (model X.prog X.w) X.A (eval iter X.env) (fun v s1=>wpAny (model X.prog X.w) X.A (pyIter v) (PIE X pins σ tg R) X.xe s1) X.xe s
theorem znj{M:Model}{A:Around}{E:Value->Shared->Prop}{s:Shared}{tg:Expr}{it:Addr}{u:Value}{o:Obj}{n:String}{vs:Array Value}{Q:Unit->Shared->Prop}(ho:s.heap.get? it=some o)(hc:o.cls=.type n)(hd:o.data=.fields vs)
   (hn:["enumerate","zip","dict_itemiterator","dict_reverseitemiterator","odict_iterator","itertools.zip_longest","itertools.pairwise"].contains n=false) (hQ:Q () s):wpAny M A (letOwnedTupleGo tg (.ref it) u) Q E s:=by
 unfold letOwnedTupleGo
 cases tg <;> first
   | exact Ad hQ
   | (cases u <;> first
       | exact Ad hQ
       | (refine Aa (wpAny_load ho ?_)
          rw[hc,hd];show wpAny M A (if (["enumerate","zip","dict_itemiterator","dict_reverseitemiterator","odict_iterator","itertools.zip_longest","itertools.pairwise"].contains n&&vs[0]?==some (rawInt _))=true then _ else _) Q E s;rw[if_neg (by intro h;rw[hn,Bool.false_and] at h;cases h)];exact Ad hQ))
noncomputable def Itl(K:Ac)(a:Addr):It :=
 ⟨fun i H=>∃ xs x,SqL K H a xs/\xs[i]?=some x,fun i H x H'=>H'=H/\∀ xs,SqL K H a xs->xs[i]?=some x,fun i H=>∃ xs,SqL K H a xs/\xs.length<=i⟩
noncomputable def Itt(K:Ac)(a:Addr):It :=
 ⟨fun i H=>∃ xs x,SqT K H a xs/\xs[i]?=some x,fun i H x H'=>H'=H/\∀ xs,SqT K H a xs->xs[i]?=some x,fun i H=>∃ xs,SqT K H a xs/\xs.length<=i⟩
noncomputable def Itr(lo:Int)(n:Nat):It:=⟨fun i _=>i < n,fun i H x H'=>H'=H/\x=.int (lo+i),fun i _=>n<=i⟩
theorem ziD{P:Program}{w:World}{K:Ac}{tg:Expr}(a it:Addr):Turn P w K tg (Itl K a) [it] it (fun i h=>h.IsListIter it a i) where
 mem:=by simp
 obj:=fun i h st b hb=>by
   have e:b=it:=by simpa using hb
   subst e;obtain⟨o,e,c,d⟩:=st;exact⟨o,e,fun v z=>by rw[d] at z;cases z⟩
 keep:=fun i h h' st k=>st.at fun o e=>k it (by simp) o e
 item:=by
   intro X hP hw hK hc i pins s σ H E I hf st hg;subst hP hw hK;obtain⟨xs,x,hq,hx⟩:=hg;obtain⟨its,rv,p,hz⟩:=I.list hq;obtain⟨u,hu,ru⟩:=rv.get hx;obtain⟨f0,f1,f2,f3,f4,f5⟩:=hf it (by simp);refine wpAny_pyNext_list_item st p.isList (x:=u) (by simpa using hu) fun h' st' sb=>?_;have I1:Inv X pins σ H { s with heap:=h' }:=I.turned (t':=s.toks) (fun b o hb e=>(sb.2 b hb).trans e) f0 f1 f3 f4 f5;obtain⟨o,e,c,d⟩:=id st';exact⟨u,rfl,znj (s:={ s with heap:=h' }) e c d (by decide) ⟨x,H,I1,ru,⟨rfl,fun ys hy=>by rw[I.list_inj hy hq];exact hx⟩,st',fun b hb=>(hf b hb).1⟩⟩
 done:=by
   intro X hP hw hK hc i pins s σ H E I hf st hg;subst hP hw hK;obtain⟨xs,hq,hx⟩:=hg;obtain⟨its,rv,p,hz⟩:=I.list hq;obtain⟨f0,f1,f2,f3,f4,f5⟩:=hf it (by simp);have hl:=rv.length;exact wpAny_pyNext_list_end (I.ok.hd hc) st p.isList (by simp;omega) fun h' eb=>⟨rfl,I.turned (t':=s.toks) (fun b o hb e=>eb b o hb e) f0 f1 f3 f4 f5⟩
 self:=fun _ _ _ _ _ st h=>wpAny_pyIter_listiter st h
theorem zhe{P:Program}{w:World}{K:Ac}{tg:Expr}(a it:Addr):Turn P w K tg (Itt K a) [it] it (fun i h=>h.IsTupleIter it a i) where
 mem:=by simp
 obj:=fun i h st b hb=>by
   have e:b=it:=by simpa using hb
   subst e;obtain⟨o,e,c,d⟩:=st;exact⟨o,e,fun v z=>by rw[d] at z;cases z⟩
 keep:=fun i h h' st k=>st.at fun o e=>k it (by simp) o e
 item:=by
   intro X hP hw hK hc i pins s σ H E I hf st hg;subst hP hw hK;obtain⟨xs,x,hq,hx⟩:=hg;obtain⟨its,rv,p,hz⟩:=I.tuple hq;obtain⟨u,hu,ru⟩:=rv.get hx;obtain⟨f0,f1,f2,f3,f4,f5⟩:=hf it (by simp);refine wpAny_pyNext_tuple_item st (show s.heap.IsTuple a its.toArray from p) (x:=u) (by simpa using hu) fun h' st' sb=>?_;have I1:Inv X pins σ H { s with heap:=h' }:=I.turned (t':=s.toks) (fun b o hb e=>(sb.2 b hb).trans e) f0 f1 f3 f4 f5;obtain⟨o,e,c,d⟩:=id st';exact⟨u,rfl,znj (s:={ s with heap:=h' }) e c d (by decide) ⟨x,H,I1,ru,⟨rfl,fun ys hy=>by rw[I.tuple_inj hy hq];exact hx⟩,st',fun b hb=>(hf b hb).1⟩⟩
 done:=by
   intro X hP hw hK hc i pins s σ H E I hf st hg;subst hP hw hK;obtain⟨xs,hq,hx⟩:=hg;obtain⟨its,rv,p,hz⟩:=I.tuple hq;obtain⟨f0,f1,f2,f3,f4,f5⟩:=hf it (by simp);have hl:=rv.length;exact wpAny_pyNext_tuple_end (I.ok.hd hc) st (show s.heap.IsTuple a its.toArray from p) (by simp;omega) fun h' eb=>⟨rfl,I.turned (t':=s.toks) (fun b o hb e=>eb b o hb e) f0 f1 f3 f4 f5⟩
 self:=fun _ _ _ _ _ st h=>wpAny_pyIter_tupleiter st h
theorem zhf{P:Program}{w:World}{K:Ac}{tg:Expr}(it:Addr)(lo:Int)(n:Nat):Turn P w K tg (Itr lo n) [it] it (fun i h=>IsRangeIter h it (lo+(i:Nat)*1) ((n:Int) - (i:Nat)) 1) where
 mem:=by simp
 obj:=fun i h st b hb=>by
   have e:b=it:=by simpa using hb
   subst e;exact⟨_,st,fun v z=>by
     have z':Data.fields _=Data.cell v:=z;cases z'⟩
 keep:=fun i h h' st k=>k it (by simp) _ st
 item:=by
   intro X hP hw hK hc i pins s σ H E I hf st hg;subst hP hw hK;obtain⟨f0,f1,f2,f3,f4,f5⟩:=hf it (by simp);have W:=Walks.range (prog:=X.prog) (w:=X.w) (I.ok.hd hc) it lo 1 n;refine W.item i s _ _ hg st fun v h' tk hv st' kk=>?_;obtain⟨t,rfl⟩:=hv;have I1:Inv X pins σ H { s with heap:=h',toks:=tk }:=I.turned (fun b o hb e=>kk b o (by simpa using hb) e) f0 f1 f3 f4 f5;refine⟨_,rfl,znj (s:={ s with heap:=h',toks:=tk }) (n:="range_iterator") st' rfl rfl (by decide) ⟨.int (lo+i),H,I1,⟨t,?_⟩,⟨rfl,rfl⟩,st',fun b hb=>(hf b hb).1⟩⟩;rw[Int.mul_one]
 done:=by
   intro X hP hw hK hc i pins s σ H E I hf st hg;subst hP hw hK;obtain⟨f0,f1,f2,f3,f4,f5⟩:=hf it (by simp);exact wpAny_pyNext_range_end (I.ok.hd hc) st (by have:n<=i:=hg;omega) fun h' eb=>⟨rfl,I.turned (t':=s.toks) (fun b o hb e=>eb b o hb e) f0 f1 f3 f4 f5⟩
 self:=fun _ _ _ _ _ st h=>wpAny_pyIter_rangeiter st h
section
variable {X:Cx} {tg:Expr}
noncomputable def zpL(K:Ac)(tl:TE):TI:=fun σ H R=>tl σ H fun x H1=>∃ a,x=.ref a/\(∃ xs,SqL K H1 a xs)/\R (Itl K a) H1
noncomputable def iTup(K:Ac)(tl:TE):TI:=fun σ H R=>tl σ H fun x H1=>∃ a,x=.ref a/\(∃ xs,SqT K H1 a xs)/\R (Itt K a) H1
theorem zmb{l:Expr}{tl:TE}(hl:PE X l tl):PI X tg l (zpL X.K tl):=by
 intro pins s σ H R I h;refine thn (hl pins s σ H _ I h) ?_;rintro v s1 ⟨x,H1,I1,r1,q1⟩;obtain⟨a,e,⟨xs,hq⟩,q⟩:=q1;subst e;cases r1;obtain⟨its,rv,p,hz⟩:=I1.list hq;refine CA p.isList ?_;refine⟨s1.heap.objs.size,[s1.heap.objs.size],_,_,H1,rfl,I1.kept (t':=s1.toks) fun b o e=>Ag _ e,ziD a _,⟨_,Av _ rfl,rfl,rfl⟩,fun b hb=>?_,q⟩;have e:b=s1.heap.objs.size:=by simpa using hb
 subst e;exact I1.fpOk (Ae _) (I1.hok.fresh (Ae _))
theorem znV{l:Expr}{tl:TE}(hl:PE X l tl):PI X tg l (iTup X.K tl):=by
 intro pins s σ H R I h;refine thn (hl pins s σ H _ I h) ?_;rintro v s1 ⟨x,H1,I1,r1,q1⟩;obtain⟨a,e,⟨xs,hq⟩,q⟩:=q1;subst e;cases r1;obtain⟨its,rv,p,hz⟩:=I1.tuple hq;refine wpAny_pyIter_tuple (show s1.heap.IsTuple a its.toArray from p) ?_;refine⟨s1.heap.objs.size,[s1.heap.objs.size],_,_,H1,rfl,I1.kept (t':=s1.toks) fun b o e=>Ag _ e,zhe a _,⟨_,Av _ rfl,rfl,rfl⟩,fun b hb=>?_,q⟩;have e:b=s1.heap.objs.size:=by simpa using hb
 subst e;exact I1.fpOk (Ae _) (I1.hok.fresh (Ae _))
theorem zkl{pins:List (Addr×Obj)}{σ:St}{H:Hp}{s:Shared}{R:It->Hp->Prop}{E:Value->Shared->Prop}{lo hi:Int}{t u v:Tok}{tk:Nat}(I:Inv X pins σ H s)(h1:-(2 ^ 62)<=lo)(h2:lo < 2 ^ 62)(h3:-(2 ^ 62)<=hi)(h4:hi < 2 ^ 62)
   (q:R (Itr lo (hi - lo).toNat) H):wpAny (model X.prog X.w) X.A (pyIter (.ref s.heap.objs.size)) (PIE X pins σ tg R) E { s with heap:=s.heap.push { cls:=.type "range",data:=.fields #[.int lo t,.int hi u,.int 1 v] },toks:=tk }:=by
 refine wpAny_pyIter_range (IsRange.new ..) (small_one h1 h2 h3 h4) ?_;have I1:Inv X pins σ H { s with heap:=s.heap.push { cls:=.type "range",data:=.fields #[.int lo t,.int hi u,.int 1 v] },toks:=tk }:=I.kept fun b o e=>Ag _ e;refine⟨(s.heap.push { cls:=.type "range",data:=.fields #[.int lo t,.int hi u,.int 1 v] }).objs.size,[(s.heap.push { cls:=.type "range",data:=.fields #[.int lo t,.int hi u,.int 1 v] }).objs.size],_,_,H,rfl,
   I1.kept (t':=tk) fun b o e=>Ag _ e,zhf _ lo (hi - lo).toNat,?_,fun b hb=>?_,q⟩
 . have e1:lo+((0:Nat):Int)*1=lo:=by simp
   have e2:(((hi - lo).toNat:Nat):Int) - ((0:Nat):Int)=Builtin.Range.rangeSize lo hi 1:=by rw[rangeSize_one];split <;> omega
   show IsRangeIter _ _ (lo+((0:Nat):Int)*1) ((((hi - lo).toNat:Nat):Int) - ((0:Nat):Int)) 1;rw[e1,e2];exact Av _ rfl
 . have e:b=(s.heap.push { cls:=.type "range",data:=.fields #[.int lo t,.int hi u,.int 1 v] }).objs.size:=by simpa using hb
   subst e;exact I1.fpOk (Ae _) (I1.hok.fresh (Ae _))
noncomputable def zpK(ta:TA):TI:=fun σ H R=>ta σ H fun vs H1=>∃ j:Int,vs=[.int j]/\-(2 ^ 62)<=j/\j < 2 ^ 62/\R (Itr 0 j.toNat) H1
theorem ziS{a:Expr}{ta:TA}{p pos:Pos}(hg:Gl X "range")(hm:X.mg "range"=none)(ha:PA X [a] ta)(hs:starEach [a] X.env=[(false,eval a X.env)]:=by rfl):PI X tg (.Call (.Name "range" p) [a] [] pos) (zpK ta):=by
 intro pins s σ H R I h;refine Call_ (zgX I hg hm boot_range (BD (thn (ha pos pins s σ H _ I h) ?_) hs rfl));rintro us s1 ⟨vs,H1,I1,r1,q1⟩;obtain⟨j,e,q1,q2,q⟩:=q1;subst e
 cases r1 with
 | cons r rr =>
   cases rr;obtain⟨t,rfl⟩:=r;exact call_range_1 (zkl I1 (by omega) (by omega) q1 q2 (by simpa using q))
noncomputable def tFor(wi:TI)(g:TG)(tb:TS):TS:=fun D σ H=>wi σ H fun J H1=>∃ W:Nat->Nat->St->Hp->Prop,(∃ m,W 0 m σ H1)/\∀ i m σ H,W i m σ H ->
 (J.stop i H/\D.nx σ H)\/(J.go i H/\∃ N:St->Hp->Prop,(∀ σ' H',N σ' H'->∃ m',m' < m/\W (i+1) m' σ' H')/\∀ x H',J.yld i H x H'->g x σ H' fun σ2 H2=>tb { D with nx:=N,ct:=N,bk:=D.nx } σ2 H2)
noncomputable def zhC(fp:List Addr)(h:Heap):List (Addr×Obj):=fp.filterMap fun b=>(h.get? b).map fun o=>(b,o)
theorem zc2{fp:List Addr}{h:Heap}{b:Addr}{o:Obj}(hb:b∈fp)(e:h.get? b=some o):(b,o)∈zhC fp h:=List.mem_filterMap.mpr ⟨b,hb,by rw[e];rfl⟩
theorem ziV{fp:List Addr}{h:Heap}{p:Addr×Obj}(hp:p∈zhC fp h):p.1∈fp/\h.get? p.1=some p.2:=by
 obtain⟨b,hb,e⟩:=List.mem_filterMap.mp hp
 cases q:h.get? b with
 | none=>rw[q] at e;cases e
 | some o =>
   rw[q] at e;have e':(b,o)=p:=Az e;subst e';exact⟨hb,q⟩
theorem Inv.pinned{pins:List (Addr×Obj)}{σ:St}{H:Hp}{s:Shared}{fp:List Addr}(I:Inv X pins σ H s)(hf:∀ b∈fp,FpOk X pins H b)(ho:∀ b∈fp,∃ o,s.heap.get? b=some o/\∀ v,o.data≠.cell v):Inv X (pins++zhC fp s.heap) σ H s :=
 I.pins_of fun p hp=>(List.mem_append.mp hp).elim (fun z=>I.pin p (AG _ z)) fun z=>by
   obtain⟨hb,e⟩:=ziV z;obtain⟨f0,f1,f2,_⟩:=hf p.1 hb;obtain⟨o,e',d⟩:=ho p.1 hb;rw[e] at e';cases e';exact⟨e,f0,f1,f2,d⟩
theorem Inv.unpinned{pins pl:List (Addr×Obj)}{σ:St}{H:Hp}{s:Shared}(I:Inv X (pins++pl) σ H s):Inv X pins σ H s:=I.pins_of fun p hp=>I.pin p (AG _ (AO _ hp))
theorem znT{iter:Expr}{body:List Stmt}{wi:TI}{g:TG}{tb:TS}{pos:Pos}(hp:PassesOwn (model X.prog X.w) X.A X.env X.xe)(hc:X.calm=true)(hi:PI X tg iter wi)(hg:PG X tg g)(hb:PSs X body tb)
   (hs:∀ x,foldedSetIterable iter X.env x=pure x:=by intro _;rfl):PS X (.For tg iter body [] pos) (tFor wi g tb):=by
 intro pins s σ H D I h;refine wpAny_For (thn (hi pins s σ H _ I h) fun v s1 h1=>thn h1 fun itv s2 h2=>?_) hs;obtain⟨it,fp,tn,J,H2,e,I2,T,st2,f2,W,⟨m0,w0⟩,turn⟩:=h2;subst e
 -- what stays true of the iterator's objects through the loop
 have stat:∀ {H':Hp},(∀ b∈fp,H' b=none)->∀ b∈fp,FpOk X pins H' b:=fun hn b hb=>⟨hn b hb,(f2 b hb).2⟩
 refine codeAny_forLoop_any (fun n s'=>∃ i σ' H',Inv X pins σ' H' s'/\tn i s'.heap/\(∀ b∈fp,H' b=none)/\W i n σ' H') ?_ m0 ⟨0,σ,H2,I2,st2,fun b hb=>(f2 b hb).1,w0⟩;rintro n s3 ⟨i,σ3,H3,I3,st3,fr3,w3⟩
 rcases turn i n σ3 H3 w3 with ⟨stop,qn⟩ | ⟨go,N,hN,step⟩
 . refine BI hp (thn (T.done X rfl rfl rfl hc i pins s3 σ3 H3 X.xe I3 (stat fr3) st3 stop) ?_);rintro r s4 ⟨hr,I4⟩;subst hr;exact CK ⟨σ3,H3,I4,qn⟩
 . refine BI hp (thn (T.item X rfl rfl rfl hc i pins s3 σ3 H3 X.xe I3 (stat fr3) st3 go) ?_);rintro r s4 ⟨u,hr,h4⟩;subst hr;refine BI hp (thn h4 ?_);rintro _ s5 ⟨x,H5,I5,r5,y5,st5,fr5⟩;have I5':=I5.pinned (stat fr5) (T.obj _ _ st5);refine BI hp (thn (hg _ s5 σ3 H5 x u _ I5' r5 (step x H5 y5)) ?_);rintro _ s6 ⟨σ6,H6,I6,q6⟩;refine BI hp (thn (hb _ s6 σ6 H6 _ I6 q6) fun f s7 q7=>?_);have again:∀ {σ7:St} {H7:Hp},Inv X (pins++zhC fp s5.heap) σ7 H7 s7->N σ7 H7->∃ m,m < n/\∃ i σ' H',Inv X pins σ' H' s7/\tn i s7.heap/\(∀ b∈fp,H' b=none)/\W i m σ' H':=fun {σ7 H7} I7 n7=>by
     obtain⟨m',hm,w7⟩:=hN σ7 H7 n7;refine⟨m',hm,i+1,σ7,H7,I7.unpinned,T.keep _ _ _ st5 fun b hb o e=>(I7.pin (b,o) (AG _ (AG _ (zc2 hb e)))).1,fun b hb=>?_,w7⟩;obtain⟨o,e,d⟩:=T.obj _ _ st5 b hb;exact (I7.pin (b,o) (AG _ (AG _ (zc2 hb e)))).2.1
   cases f with
   | next=>obtain⟨σ7,H7,I7,n7⟩:=q7;exact again I7 n7
   | cont=>obtain⟨σ7,H7,I7,n7⟩:=q7;exact again I7 n7
   | brk=>obtain⟨σ7,H7,I7,q7⟩:=q7;exact⟨σ7,H7,I7.unpinned,q7⟩
   | ret v=>obtain⟨x7,σ7,H7,I7,r7,q7⟩:=q7;exact⟨x7,σ7,H7,I7.unpinned,r7,q7⟩
end
noncomputable abbrev R2:=V->V->Hp->VK->Prop
def OpR(X:Cx)(f:Value->Value->Sem Value)(r:R2):Prop :=
 ∀ (pins:List (Addr×Obj)) (s:Shared) (σ:St) (H:Hp) (x y:V) (v u:Value) (Q:VK),Inv X pins σ H s->RelV x v->RelV y u->r x y H Q ->
   wpAny (model X.prog X.w) X.A (f v u) (EP X pins σ Q) X.xe s
def UnR(X:Cx)(f:Value->Sem Value)(r:V->Hp->VK->Prop):Prop :=
 ∀ (pins:List (Addr×Obj)) (s:Shared) (σ:St) (H:Hp) (x:V) (v:Value) (Q:VK),Inv X pins σ H s->RelV x v->r x H Q ->
   wpAny (model X.prog X.w) X.A (f v) (EP X pins σ Q) X.xe s
def zg7(X:Cx)(f:Value)(r:List V->Hp->VK->Prop):Prop :=
 ∀ (pins:List (Addr×Obj)) (s:Shared) (σ:St) (H:Hp) (xs:List V) (us:List Value) (Q:VK),Inv X pins σ H s->Vals xs us->r xs H Q ->
   wpAny (model X.prog X.w) X.A (call f us) (EP X pins σ Q) X.xe s
def TruR(X:Cx)(r:V->Hp->(Bool->Hp->Prop)->Prop):Prop :=
 ∀ (pins:List (Addr×Obj)) (s:Shared) (σ:St) (H:Hp) (x:V) (v:Value) (Q:Bool->Hp->Prop),Inv X pins σ H s->RelV x v->r x H Q ->
   wpAny (model X.prog X.w) X.A (truthy v) (TP X pins σ Q) X.xe s
noncomputable def tOp(r:R2)(ta tb:TE):TE:=fun σ H Q=>ta σ H fun x H1=>tb σ H1 fun y H2=>r x y H2 Q
noncomputable def tUn(r:V->Hp->VK->Prop)(ta:TE):TE:=fun σ H Q=>ta σ H fun x H1=>r x H1 Q
noncomputable def rI(C:Int->Int->Prop)(g:Int->Int->V):R2:=fun x y H Q=>∃ i j,x=.int i/\y=.int j/\C i j/\Q (g i j) H
noncomputable def rI0(g:Int->Int->V):R2:=fun x y H Q=>∃ i j,x=.int i/\y=.int j/\Q (g i j) H
noncomputable def rU(g:Int->V):V->Hp->VK->Prop:=fun x H Q=>∃ i,x=.int i/\Q (g i) H
section
variable {X:Cx} {a b c:Expr} {ta tb tc:TE} {pos:Pos}
theorem binT(ha:PE X a ta)(hb:PE X b tb){pins:List (Addr×Obj)}{s:Shared}{σ:St}{H:Hp}{R:V->V->Hp->Prop}(I:Inv X pins σ H s)
   (h:ta σ H fun x H1=>tb σ H1 fun y H2=>R x y H2) {Q:Value->Shared->Prop} {f:Value->Value->Sem Value}
   (hf:∀ v u s2 x y H2,Inv X pins σ H2 s2->RelV x v->RelV y u->R x y H2->wpAny (model X.prog X.w) X.A (f v u) Q X.xe s2) :
   wpAny (model X.prog X.w) X.A (eval a X.env) (fun v s₁=>wpAny (model X.prog X.w) X.A (eval b X.env) (fun u s₂=>wpAny (model X.prog X.w) X.A (f v u) Q X.xe s₂) X.xe s₁) X.xe s:=by
 refine thn (ha pins s σ H _ I h) ?_;rintro v s1 ⟨x,H1,I1,r1,q1⟩;refine thn (hb pins s1 σ H1 _ I1 q1) ?_;rintro u s2 ⟨y,H2,I2,r2,q2⟩;exact hf v u s2 x y H2 I2 r1 r2 q2
theorem zps{op:Operator}{r:R2}(ho:OpR X (binaryOp op) r)(ha:PE X a ta)(hb:PE X b tb):PE X (.BinOp a op b pos) (tOp r ta tb):=by
 intro pins s σ H Q I h;exact wpAny_BinOp (binT ha hb I h fun v u s2 x y H2 I2 rx ry q=>ho pins s2 σ H2 x y v u Q I2 rx ry q)
theorem zpr{op:UnaryOp}{r:V->Hp->VK->Prop}(ho:UnR X (unaryOp op) r)(ha:PE X a ta):PE X (.UnaryOp op a pos) (tUn r ta):=by
 intro pins s σ H Q I h;exact UnaryOp_ (thn (ha pins s σ H _ I h) fun v s1 ⟨x,H1,I1,r1,q1⟩=>ho pins s1 σ H1 x v Q I1 r1 q1)
theorem opI{f:Value->Value->Sem Value}{C:Int->Int->Prop}{g:Int->Int->Int}
   (rule:∀ (i j:Int) (t u:Tok) (s:Shared) (Q:Value->Shared->Prop) (E:Value->Shared->Prop),C i j->Q (.int (g i j) s.toks) { s with toks:=s.toks+1 }->wpAny (model X.prog X.w) X.A (f (.int i t) (.int j u)) Q E s) :
   OpR X f (rI C fun i j=>.int (g i j)):=by
 intro pins s σ H x y v u Q I rx ry h;obtain⟨i,j,rfl,rfl,hc,q⟩:=h;obtain⟨t,rfl⟩:=rx;obtain⟨t',rfl⟩:=ry;exact rule i j t t' s _ _ hc ⟨.int (g i j),H,I.tok _,⟨_,rfl⟩,q⟩
theorem opI0{f:Value->Value->Sem Value}{g:Int->Int->Int}
   (rule:∀ (i j:Int) (t u:Tok) (s:Shared) (Q:Value->Shared->Prop) (E:Value->Shared->Prop),Q (.int (g i j) s.toks) { s with toks:=s.toks+1 }->wpAny (model X.prog X.w) X.A (f (.int i t) (.int j u)) Q E s) :
   OpR X f (rI0 fun i j=>.int (g i j)):=by
 intro pins s σ H x y v u Q I rx ry h;obtain⟨i,j,rfl,rfl,q⟩:=h;obtain⟨t,rfl⟩:=rx;obtain⟨t',rfl⟩:=ry;exact rule i j t t' s _ _ ⟨.int (g i j),H,I.tok _,⟨_,rfl⟩,q⟩
theorem opB0{f:Value->Value->Sem Value}{g:Int->Int->Bool}
   (rule:∀ (i j:Int) (t u:Tok) (s:Shared) (Q:Value->Shared->Prop) (E:Value->Shared->Prop),Q (.bool (g i j)) s->wpAny (model X.prog X.w) X.A (f (.int i t) (.int j u)) Q E s) :
   OpR X f (rI0 fun i j=>.bl (g i j)):=by
 intro pins s σ H x y v u Q I rx ry h;obtain⟨i,j,rfl,rfl,q⟩:=h;obtain⟨t,rfl⟩:=rx;obtain⟨t',rfl⟩:=ry;exact rule i j t t' s _ _ ⟨.bl (g i j),H,I,rfl,q⟩
def CMul(i j:Int):Prop:=(-(2 ^ 64) < i/\i < 2 ^ 64)\/(-(2 ^ 64) < j/\j < 2 ^ 64)
theorem CMul.ok{i j:Int}(h:CMul i j):IntMulOk i j:=by
 rcases h with ⟨h1,h2⟩ | ⟨h1,h2⟩
 . exact .of_left (intBits_le_64 h1 h2)
 . exact .of_right (intBits_le_64 h1 h2)
theorem zoe:OpR X (binaryOp .Add) (rI0 fun i j=>.int (i+j)):=opI0 fun _ _ _ _ _ _ _ q=>add_int q
theorem zn8:OpR X (binaryOp .Sub) (rI0 fun i j=>.int (i - j)):=opI0 fun _ _ _ _ _ _ _ q=>sub_int q
theorem zn9:OpR X (binaryOp .Mult) (rI CMul fun i j=>.int (i*j)):=opI fun _ _ _ _ _ _ _ hc q=>mul_int q hc.ok
theorem zoa:OpR X (binaryOp .Mod) (rI (fun _ j=>0 < j) fun i j=>.int (i % j)):=opI fun i j _ _ _ _ _ hc q=>by
 have h1:(0:Int) < j:=hc;exact mod_int' (by omega) (by rw[Int.fmod_eq_emod_of_nonneg i (by omega)];exact q)
theorem unI{f:Value->Sem Value}{g:Int->Int}
   (rule:∀ (i:Int) (t:Tok) (s:Shared) (Q:Value->Shared->Prop) (E:Value->Shared->Prop),Q (.int (g i) s.toks) { s with toks:=s.toks+1 }->wpAny (model X.prog X.w) X.A (f (.int i t)) Q E s) :
   UnR X f (rU fun i=>.int (g i)):=by
 intro pins s σ H x v Q I rx h;obtain⟨i,rfl,q⟩:=h;obtain⟨t,rfl⟩:=rx;exact rule i t s _ _ ⟨.int (g i),H,I.tok _,⟨_,rfl⟩,q⟩
theorem znl:UnR X (unaryOp .USub) (rU fun i=>.int (-i)):=unI fun _ _ _ _ _ q=>neg_int q
end
section
variable {X:Cx} {a b c:Expr} {ta tb tc:TE} {pos:Pos}
theorem zoF{pins:List (Addr×Obj)}{σ:St}{H:Hp}{s:Shared}{Q:VK}{k k':Bool}(I:Inv X pins σ H s)(q:Q (.bl k) H)(e:k=k'):EP X pins σ Q (.bool k') s:=by
 subst e;exact⟨.bl k,H,I,rfl,q⟩
theorem zpv:OpR X (compareOp .LtE) (rI0 fun i j=>.bl (decide (i<=j))):=opB0 fun _ _ _ _ _ _ _ q=>le_int q
theorem zpw:OpR X (compareOp .GtE) (rI0 fun i j=>.bl (decide (j<=i))):=opB0 fun _ _ _ _ _ _ _ q=>ge_int q
theorem ziU:OpR X (compareOp .In) (fun x y H Q=>∃ i j,x=.str i/\y=.str j/\Q (.bl (!(BV j i 0 j.length 1).isEmpty)) H):=by
 intro pins s σ H x y v u Q I rx ry h;obtain⟨i,j,rfl,rfl,q⟩:=h;obtain⟨t,rfl⟩:=rx;obtain⟨t',rfl⟩:=ry;exact in_str (zoF I q rfl)
theorem zmi{op:CmpOp}{r:R2}(ho:OpR X (compareOp op) r)(ha:PE X a ta)(hb:PE X b tb)(hm:behindInMarks op b=false):PE X (.Compare a [op] [b] pos) (tOp r ta tb):=by
 intro pins s σ H Q I h;exact wpAny_Compare1 (binT ha hb I h fun v u s2 x y H2 I2 rx ry q=>ho pins s2 σ H2 x y v u Q I2 rx ry q) hm
noncomputable def zpa(t:TE):TT:=fun σ H Q=>t σ H fun x H'=>∃ k,x=.bl k/\Q k H'
theorem zl2{op:CmpOp}{r:R2}(ho:OpR X (compareOp op) r)(ha:PE X a ta)(hb:PE X b tb)(hm:behindInMarks op b=false):PT X (.Compare a [op] [b] pos) (zpa (tOp r ta tb)):=by
 intro pins s σ H Q I h;refine wpAny_isTrue_Compare1 (thn (ha pins s σ H _ I h) fun v s1 ⟨x,H1,I1,r1,q1⟩=>thn (hb pins s1 σ H1 _ I1 q1) fun u s2 ⟨y,H2,I2,r2,q2⟩ =>
   thn (ho pins s2 σ H2 x y v u _ I2 r1 r2 q2) fun c s3 ⟨z,H3,I3,r3,k,e,q3⟩=>?_) hm
 subst e;cases r3;exact BL ⟨H3,I3,q3⟩
noncomputable def zly(r r':R2)(ta tb tc:TE):TE:=fun σ H Q=>ta σ H fun x H1=>tb σ H1 fun y H2=>r x y H2 fun z H3=>∃ k,z=.bl k /\
 (if k=true then tc σ H3 fun w' H4=>r' y w' H4 Q else Q (.bl false) H3)
theorem zky{op op':CmpOp}{r r':R2}(ho:OpR X (compareOp op) r)(ho':OpR X (compareOp op') r')(ha:PE X a ta)(hb:PE X b tb)(hc:PE X c tc)
   (hm:lastMarks [op,op'] [b,c]=false:=by with_unfolding_all rfl):PE X (.Compare a [op,op'] [b,c] pos) (zly r r' ta tb tc):=by
 intro pins s σ H Q I h;refine Compare_chain (thn (ha pins s σ H _ I h) fun v s1 ⟨x,H1,I1,r1,q1⟩=>chain_link (thn (hb pins s1 σ H1 _ I1 q1) fun u s2 ⟨y,H2,I2,r2,q2⟩ =>
   thn (ho pins s2 σ H2 x y v u _ I2 r1 r2 q2) fun d s3 ⟨z,H3,I3,r3,k,e,q3⟩=>?_)) hm
 subst e;cases r3;refine BL ?_
 cases k with
 | false=>exact ite_ff ⟨.bl false,H3,I3,rfl,q3⟩
 | true=>exact ite_tt (chain_last (thn (hc pins s3 σ H3 _ I3 q3) fun w' s4 ⟨z',H4,I4,r4,q4⟩=>ho' pins s4 σ H4 y z' u w' Q I4 r2 r4 q4))
def TruV(K:Ac)(x:V)(H:Hp)(k:Bool):Prop :=
 match x with
 | .non=>k=false
 | .bl b=>k=b
 | .int i=>k=(i != 0)
 | .str y=>y.length<=sizeLine/\k=((y.length:Int) != 0)
 | .byt y=>y.size<=sizeLine/\k=((y.size:Int) != 0)
 | .ref p=>(∃ xs,SqL K H p xs/\k=!xs.isEmpty)\/(∃ xs,SqT K H p xs/\k=!xs.isEmpty)\/∃ kvs,H p=some (.dK kvs)/\k=!kvs.isEmpty
 | _=>False
theorem zh4{κ:Type}{kvs:List (κ×V)}{vs:List (κ×Value)}(r:KV kvs vs):(!vs.isEmpty)=!kvs.isEmpty:=by
 cases r <;> rfl
theorem zfE{xs:List V}{its:List Value}(r:Vals xs its):(!its.toArray.isEmpty)=!xs.isEmpty:=by
 cases r <;> simp
theorem zf3:(sizeLine:Nat) < 2 ^ 63:=by rw[C6];decide
theorem zno:TruR X (fun x H Q=>∃ k,TruV X.K x H k/\Q k H):=by
 intro pins s σ H x v Q I rx h;obtain⟨k,e,q⟩:=h;have hl:=zf3;have hs:sizeLine=16777216:=C6
 cases x with
 | non =>
   cases rx;have e':k=false:=e;subst e';exact truthy_none ⟨H,I,q⟩
 | bl b =>
   cases rx;have e':k=b:=e;subst e';exact BL ⟨H,I,q⟩
 | int i =>
   obtain⟨t,rfl⟩:=rx;have e':k=(i != 0):=e;subst e';exact PySem.P.truthy_int ⟨H,I,q⟩
 | str y =>
   obtain⟨t,rfl⟩:=rx;obtain⟨hy,e'⟩:y.length<=sizeLine/\k=((y.length:Int) != 0):=e;subst e';exact PySem.P.truthy_str (by omega) ⟨H,I.tok _,q⟩
 | byt y =>
   obtain⟨t,rfl⟩:=rx;obtain⟨hy,e'⟩:y.size<=sizeLine/\k=((y.size:Int) != 0):=e;subst e';exact PySem.W.truthy_bytes (by omega) ⟨H,I.tok _,q⟩
 | ref p =>
   cases rx;have e':(∃ xs,SqL X.K H p xs/\k=!xs.isEmpty)\/(∃ xs,SqT X.K H p xs/\k=!xs.isEmpty)\/∃ kvs,H p=some (.dK kvs)/\k=!kvs.isEmpty:=e
   rcases e' with ⟨xs,hx,e'⟩ | ⟨xs,hx,e'⟩ | ⟨kvs,hx,e'⟩
   . subst e';obtain⟨its,r,pl,hz⟩:=I.list hx;have hlen:=r.length;exact wpAny_truthy_list pl.isList (by simp only[Ar];omega) ⟨H,I.tok _,by rw[zfE r];exact q⟩
   . subst e';obtain⟨its,r,pl,hz⟩:=I.tuple hx;have hlen:=r.length;exact truthy_tuple pl (by simp only[Ar];omega) ⟨H,I.tok _,by rw[zfE r];exact q⟩
   . subst e';obtain⟨hz,hS,vs,r,m⟩:kvs.length<=sizeLine/\(p==sysModules)=false/\∃ vs,KV kvs vs/\s.heap.DictOf (zby X.prog X.w) p vs:=I.hok p _ hx;have hlen:kvs.length=vs.length:=Cg r;exact wpAny_truthy_dict hS m (by omega) ⟨H,I.tok _,by rw[zh4 r];exact q⟩
 | _=>exact (show False from e).elim
theorem zkn(ha:PE X a ta)(he:∀ whole,isTrue a X.env whole=(do let v <-whole;standAt a.pos;holding [v] (truthy v))) :
   PT X a (fun σ H Q=>ta σ H fun x H'=>∃ k,TruV X.K x H' k/\Q k H'):=by
 intro pins s σ H Q I h;exact isTrue_plain (thn (ha pins s σ H _ I h) fun v s1 ⟨x,H1,I1,r1,q1⟩=>zno pins s1 σ H1 x v Q I1 r1 q1) (he _)
theorem zhI:OpR X (binaryOp .Add) (fun x y H Q=>∃ i j,x=.str i/\y=.str j/\i.length+j.length<=sizeLine/\Q (.str (i++j)) H):=by
 intro pins s σ H x y v u Q I rx ry h;obtain⟨i,j,rfl,rfl,hz,q⟩:=h;obtain⟨t,rfl⟩:=rx;obtain⟨t',rfl⟩:=ry;exact add_str (fun t' tk=>⟨.str (i++j),H,I.tok _,⟨_,rfl⟩,q⟩) hz
theorem vals1{x:V}{us:List Value}(r:Vals [x] us):∃ u,us=[u]/\RelV x u:=by
 cases r with
 | cons r1 r2=>cases r2;exact⟨_,rfl,r1⟩
theorem zld:zg7 X (.builtin "abs") (fun xs H Q=>∃ i,xs=[.int i]/\Q (.int (if i < 0 then -i else i)) H):=by
 intro pins s σ H xs us Q I r h;obtain⟨i,rfl,q⟩:=h;obtain⟨u,rfl,t,rfl⟩:=vals1 r;exact call_abs_int fun u tk=>⟨.int (if i < 0 then -i else i),H,I.tok _,⟨_,rfl⟩,q⟩
end
theorem RelO.some_of{v:V}{o:Option Value}(r:RelO (some v) o):∃ u,o=some u/\RelV v u:=by
 cases o with
 | none=>exact (show False from r).elim
 | some u=>exact⟨u,rfl,r⟩
structure Room(k:Nat)(A:Around):Prop where
 hd:A.handled=none
 dp:A.depth+3*k+5 < recursionLimit
 un:A.units+16*k+200 < cLine
 gd:A.guards=some []
theorem Room.mono{j k:Nat}{A:Around}(r:Room k A)(h:j<=k):Room j A:=⟨r.hd,by have:=r.dp;omega,by have:=r.un;omega,r.gd⟩
theorem Room.deeper{k:Nat}{A:Around}(r:Room (k+1) A)(env:Env):Room k (A.deeper env) :=
 ⟨r.hd,by have:=r.dp;show A.depth+1+3*k+5 < _;omega,by have:=r.un;show A.units+3+16*k+200 < _;omega,r.gd⟩
theorem Room.depth{k:Nat}{A:Around}(r:Room k A):A.depth < recursionLimit:=by have:=r.dp;omega
theorem Room.units{k:Nat}{A:Around}(r:Room k A):A.units+64 < cLine:=by have:=r.un;omega
noncomputable def tNil:TA:=fun _ H Q=>Q [] H
noncomputable def zph(ta:TE)(tr:TA):TA:=fun σ H Q=>ta σ H fun x H1=>tr σ H1 fun xs H2=>Q (x::xs) H2
section
variable {X:Cx} {e:Expr} {es:List Expr} {te:TE} {t:TA} {pos:Pos}
theorem zhE:PA X [] tNil:=fun _ _ _ _ H Q I h=>Calls.spliced_nil ⟨[],H,I,.nil,h⟩
theorem zeo(ha:PE X e te)(hr:PA X es t)(hs:starEach (e::es) X.env=(false,eval e X.env)::starEach es X.env:=by rfl):PA X (e::es) (zph te t):=by
 intro pos pins s σ H Q I h;rw[hs];show wpAny _ _ (spliced ((false,eval e X.env)::backTo pos (starEach es X.env))) _ _ s;refine Calls.spliced_cons (thn (ha pins s σ H _ I h) ?_);rintro u s1 ⟨x,H1,I1,r1,q1⟩;exact thn (hr pos pins s1 σ H1 _ I1 q1) fun us s2 ⟨xs,H2,I2,r2,q2⟩=>⟨x::xs,H2,I2,.cons r1 r2,q2⟩
noncomputable def tTup(t:TA):TE:=fun σ H Q=>t σ H fun xs H1=>xs.length<=sizeLine/\∀ p,H1 p=none->Q (.ref p) (upd H1 p (.tup xs))
noncomputable def tLst(t:TA):TE:=fun σ H Q=>t σ H fun xs H1=>xs.length<=sizeLine/\∀ p,H1 p=none->Q (.ref p) (upd H1 p (.lst xs))
theorem znZ{x1}(h:PA X es t):PE X (.Tuple es x1 pos) (tTup t):=by
 intro pins s σ H Q I hq;refine wpAny_Tuple_spliced (thn (h pos pins s σ H _ I hq) fun us s1 ⟨xs,H1,I1,r,z,q⟩=>⟨by rw[<-r.length];exact z,?_⟩);have hf:H1 s1.heap.objs.size=none:=I1.hok.fresh (Ae _);refine⟨.ref s1.heap.objs.size,upd H1 s1.heap.objs.size (.tup xs),I1.laid (t':=s1.toks) (fun b u e=>Ag _ e) (Ae _) ?_,rfl,q _ hf⟩;exact⟨z,us,r,⟨_,Av _ rfl,rfl,rfl,_,rfl⟩⟩
theorem zn3(h:PA X es t):PE X (.List es pos) (tLst t):=by
 intro pins s σ H Q I hq;refine wpAny_List_spliced (thn (h pos pins s σ H _ I hq) fun us s1 ⟨xs,H1,I1,r,z,q⟩=>⟨by rw[<-r.length];exact z,?_⟩);have hf:H1 s1.heap.objs.size=none:=I1.hok.fresh (Ae _);refine⟨.ref s1.heap.objs.size,upd H1 s1.heap.objs.size (.lst xs),I1.laid (t':=s1.toks) (fun b u e=>Ag _ e) (Ae _) ?_,rfl,q _ hf⟩;exact⟨z,us,0,r,Av _ rfl⟩
end
noncomputable abbrev Sp:=List V->Hp->VK->XK->Prop
noncomputable abbrev CXT:=List Env->Hp->Shared->XK->Value->Shared->Prop
structure Env0(P:Program)(w:World)(K:Ac)(mg:Str->Option Value)(base:Heap)(A:Around)(outer:List Env)(s:Shared)(H:Hp):Prop where
 frames:A.frames=some outer
 mod:Mod K mg base
 bs:∀ b o,base.get? b=some o->s.heap.get? b=some o/\H b=none
 bsz:base.objs.size<=s.heap.objs.size
 funs:s.heap.FunFrames base outer
 frf:∀ b∈frs outer,H b=none
 hok:HOk P w H s.heap
 bare:AllBare s.gens
def CE(outer:List Env)(P:Program)(w:World)(H:Hp)(s:Shared)(Q:VK)(u:Value)(s':Shared):Prop :=
 ∃ v H',s'.os=s.os/\AllBare s'.gens/\Un (frs outer) [] H H' s.heap s'.heap/\HOk P w H' s'.heap/\RelV v u/\Q v H'
def CR(CX:CXT)(outer:List Env)(P:Program)(w:World)(H:Hp)(s:Shared)(Q:VK)(E:XK)(r:Result)(s':Shared):Prop :=
 match r with
 | .ok (.ret u)=>CE outer P w H s Q u s'
 | .ok _=>False
 | .error e=>CX outer H s E e s'
structure FnOk(P:Program)(w:World)(K:Ac)(mg:Str->Option Value)(base:Heap)(CX:CXT)(k:Nat)(f:Addr)(fd:FuncData)(ps:List Str)(sp:Sp):Prop where
 len:∀ vs H Q E,sp vs H Q E->vs.length=ps.length
 run:∀ (A:Around) (outer:List Env) (s:Shared) (H:Hp) (args:Args) (us:List Value) (vs:List V) (Q:VK) (E:XK),Room k A->Env0 P w K mg base A outer s H->BindsTo s fd args (ps.zip us)->Vals vs us->sp vs H Q E ->
   codeAny (model P w) A (.call (.ref f) args) (CR CX outer P w H s Q E) s
section
variable {X:Cx} {pins:List (Addr×Obj)} {σ:St} {H:Hp} {s s':Shared}
theorem Inv.env0(I:Inv X pins σ H s):Env0 X.prog X.w X.K X.mg X.base X.A X.stack s H :=
 ⟨I.ok.frames,I.ok.mod,I.bs,AI I.ok.bsz I.sz,I.stack,I.stkFree,I.hok,I.bare⟩
theorem Inv.after{Q:VK}{u:Value}(I:Inv X pins σ H s)(h:CE X.stack X.prog X.w H s Q u s'):EP X pins σ Q u s':=by
 obtain⟨v,H',os,bare,un,hok,r,q⟩:=h;obtain⟨hh,g,d,t,os'⟩:=s';obtain rfl:os'=s.os:=os;exact⟨v,H',I.call (h':=hh) (g':=g) (d':=d) (t':=t) (ch:=[]) un hok bare (fun b z=>absurd z (by simp)),r,q⟩
end
noncomputable def zoW(sp:Sp)(dvs:List V)(E:XK)(t:TA):TE:=fun σ H Q=>t σ H fun vs H1=>sp (vs++dvs) H1 Q E
def Binds(K:Ac)(fd:FuncData)(ps:List Str)(ds:List Value):Prop :=
 ∀ (s:Shared) (us:List Value),K.In s.heap->(us++ds).length=ps.length->BindsTo s fd ⟨us,[]⟩ (ps.zip (us++ds))
theorem Binds.all{K:Ac}{fd:FuncData}{ps:List Str}(h:∀ us:List Value,us.length=ps.length->bindArgs fd ⟨us,[]⟩=pure (ps.zip us)):Binds K fd ps []:=fun s us _ hl=>by
 rw[Ao] at hl ⊢;exact .of_eq (h us hl)
def Passes(CX:CXT)(X:Cx)(E:XK):Prop:=∀ (pins:List (Addr×Obj)) (σ:St) (H:Hp) (s:Shared) (e:Value) (s':Shared),Inv X pins σ H s->CX X.stack H s E e s'->X.xe e s'
section
variable {X:Cx} {CX:CXT} {k:Nat} {f C:Addr} {fd:FuncData} {ps:List Str} {sp:Sp} {dvs:List V} {ds:List Value} {E:XK} {x m:Str} {p pos apos:Pos} {e o:Expr} {es:List Expr} {ta:TE} {t:TA}
theorem zlY{pins:List (Addr×Obj)}{σ:St}{H:Hp}{s:Shared}{Q:VK}{us:List Value}{vs:List V}(F:FnOk X.prog X.w X.K X.mg X.base CX k f fd ps sp)(hr:Room k X.A)(hb:Binds X.K fd ps ds)(hd:Vals dvs ds)(hx:Passes CX X E)
   (I:Inv X pins σ H s) (r:Vals vs us) (h:sp (vs++dvs) H Q E):wpAny (model X.prog X.w) X.A (call (.ref f) us) (EP X pins σ Q) X.xe s:=by
 have r2:Vals (vs++dvs) (us++ds):=r.append hd;have hl:(us++ds).length=ps.length:=by rw[<-r2.length];exact F.len _ _ _ _ h
 refine wpAny_call (CM (F.run X.A X.stack s H ⟨us,[]⟩ (us++ds) (vs++dvs) Q E hr I.env0 (hb s us I.kIn hl) r2 h) fun r s' hq=>?_)
 cases r with
 | error e=>exact hx pins σ H s e s' I hq
 | ok fl =>
   cases fl with
   | ret u=>exact I.after hq
   | next=>exact False.elim hq
   | brk=>exact False.elim hq
   | cont=>exact False.elim hq
theorem zmj(F:FnOk X.prog X.w X.K X.mg X.base CX k f fd ps sp)(hr:Room k X.A)(hg:Gl X x)(hm:X.mg x=some (.ref f))(hk:Bx X.K (.ref f)=true)(hb:Binds X.K fd ps ds)(hd:Vals dvs ds)(hx:Passes CX X E)
   (ha:PA X (e::es) t) (hdb:(x==("__debug__":Str))=false:=by decide) (he:starEach (e::es) X.env=(false,eval e X.env)::starEach es X.env:=by rfl) (hpl:(backTo pos (starEach es X.env)).any (·.1)=false:=by rfl) :
   PE X (.Call (.Name x p) (e::es) [] pos) (zoW sp dvs E t):=by
 intro pins s σ H Q I h;refine Ct (zhZ I hg hm ?_ hdb);refine PySem.W.callWith_K (h₀:=X.base) I.ok.mod.kin hk (thn (ha pos pins s σ H _ I h) fun us s1 ⟨vs,H1,I1,r,q⟩=>⟨I1.kIn,?_⟩) he hpl;exact zlY F hr hb hd hx I1 r q
theorem zkz(F:FnOk X.prog X.w X.K X.mg X.base CX k f fd ps sp)(hr:Room k X.A)(hg:Gl X x)(hm:X.mg x=some (.ref f))(hk:Bx X.K (.ref f)=true)(hb:Binds X.K fd ps ds)(hd:Vals dvs ds)(hx:Passes CX X E)
   (hdb:(x==("__debug__":Str))=false:=by decide):PE X (.Call (.Name x p) [] [] pos) (zoW sp dvs E tNil):=by
 intro pins s σ H Q I h;refine Ct (zhZ I hg hm ?_ hdb);exact PySem.W.callWith_K0 I.kIn hk (zlY (us:=[]) F hr hb hd hx I .nil h)
end
structure FnScope(N P:List Str)(sc:Scope):Prop where
 kind:sc.kind=.function
 co:sc.isCoroutine=false
 gen:sc.isGenerator=false
 nd:N.Nodup
 pre:N.take P.length=P
 par:∀ x∈P,sc.names.lookup x=some .local\/sc.names.lookup x=some .cell
 nofree:∀ y∈sc.names,y.2≠.free
theorem zgF{kindOf:Str->Option NameKind}{x:Str}:∀ {binds:List (Str×Value)} {m:Str->Option Value},(∀ v,(x,v) ∉ binds)->bindL kindOf binds m x=m x
 | [],_,_=>rfl
 | (n,v)::r,m,h=>by
   unfold bindL;rw[zgF fun w hw=>h w (Ah _ hw)]
   split
   . have:x≠n:=by rintro rfl;exact h v Am
     simp[this]
   . rfl
theorem zgH{kindOf:Str->Option NameKind}{x:Str}:∀ {binds:List (Str×Value)} {m:Str->Option Value},(∀ v,(x,v) ∉ binds)->bindC kindOf binds m x=m x
 | [],_,_=>rfl
 | (n,v)::r,m,h=>by
   unfold bindC;rw[zgH fun w hw=>h w (Ah _ hw)]
   split
   . rfl
   . have:x≠n:=by rintro rfl;exact h v Am
     simp[this]
theorem zgG{kindOf:Str->Option NameKind}{x:Str}{v:Value}:∀ {P:List Str} {vs:List Value} {i:Nat} {m:Str->Option Value},P.Nodup->P[i]?=some x->vs[i]?=some v->kindOf x=some .local ->
   bindL kindOf (P.zip vs) m x=some v
 | [],_,_,_,_,h,_,_=>by simp at h
 | _::_,[],_,_,_,_,h,_=>by simp at h
 | p::P,w::vs,0,m,nd,h1,h2,hk=>by
   simp at h1 h2;subst h1;subst h2;show bindL kindOf ((p,w)::P.zip vs) m p=_;unfold bindL;rw[zgF fun v hv=>(List.nodup_cons.mp nd).1 (DI hv).1,if_pos hk];simp
 | p::P,w::vs,i+1,m,nd,h1,h2,hk=>by
   show bindL kindOf ((p,w)::P.zip vs) m x=_;unfold bindL;exact zgG (i:=i) (List.nodup_cons.mp nd).2 (by simpa using h1) (by simpa using h2) hk
theorem zgI{kindOf:Str->Option NameKind}{x:Str}{v:Value}:∀ {P:List Str} {vs:List Value} {i:Nat} {m:Str->Option Value},P.Nodup->P[i]?=some x->vs[i]?=some v->kindOf x≠some .local ->
   bindC kindOf (P.zip vs) m x=some v
 | [],_,_,_,_,h,_,_=>by simp at h
 | _::_,[],_,_,_,_,h,_=>by simp at h
 | p::P,w::vs,0,m,nd,h1,h2,hk=>by
   simp at h1 h2;subst h1;subst h2;show bindC kindOf ((p,w)::P.zip vs) m p=_;unfold bindC;rw[zgH fun v hv=>(List.nodup_cons.mp nd).1 (DI hv).1,if_neg hk];simp
 | p::P,w::vs,i+1,m,nd,h1,h2,hk=>by
   show bindC kindOf ((p,w)::P.zip vs) m x=_;unfold bindC;exact zgI (i:=i) (List.nodup_cons.mp nd).2 (by simpa using h1) (by simpa using h2) hk
noncomputable def start(N:List Str)(vs:List V):St:=vs.map some++Bk (N.length - vs.length) none
noncomputable def cxOf(CX:CXT)(P:Program)(w:World)(K:Ac)(mg:Str->Option Value)(base:Heap)(N:List Str)(qual:Str)(scope:Scope)(f:Addr)(cd:Value)(A:Around)(outer:List Env)(s:Shared)(H:Hp)(E:XK):Cx where
 prog:=P
 w:=w
 K:=K
 mg:=mg
 base:=base
 A:=A.deeper (envOfC qual scope s.heap.objs.size f cd)
 N:=N
 s₀:=s
 H₀:=H
 env:=envOfC qual scope s.heap.objs.size f cd
 outer:=outer
 stack:=envOfC qual scope s.heap.objs.size f cd::outer
 ex:=[]
 calm:=true
 fn:=fun _=>true
 pn:=[]
 xe:=fun e s'=>wpAny (model P w) (A.deeper (envOfC qual scope s.heap.objs.size f cd)) (leaving (envOfC qual scope s.heap.objs.size f cd) e) (fun _ s''=>CX outer H s E e s'') (fun e' s''=>CX outer H s E e' s'') s'
theorem zii{sc:Scope}{n:Nat}{x:Str}(h:sc.names.lookup x=some .cell):∃ c,(cellsFrom n sc.names []).lookup x=some c:=by
 have q:=DP sc.names n [] (.inl h);exact Option.isSome_iff_exists.mp q
theorem zja{CX:CXT}{P:Program}{w:World}{K:Ac}{mg:Str->Option Value}{base:Heap}{N ps:List Str}{qual:Str}{scope:Scope}{f:Addr}{cd:Value}{A:Around}{outer:List Env}{s s1:Shared}{H:Hp}{E:XK}{us:List Value}{vs:List V}
   (S:FnScope N ps scope) (hd:A.handled=none) (e0:Env0 P w K mg base A outer s H) (hl:vs.length=ps.length) (r:Vals vs us)
   (x:InCallC s s.heap.objs.size (bindL (envOfC qual scope s.heap.objs.size f cd).kindOf (ps.zip us) fun _=>none) (cellsFrom (s.heap.objs.size+1) scope.names []) (bindC (envOfC qual scope s.heap.objs.size f cd).kindOf (ps.zip us) fun _=>none) s1) :
   Inv (cxOf CX P w K mg base N qual scope f cd A outer s H E) [] (start N vs) H s1:=by
 have hpl:ps.length<=N.length:=by have:=congrArg List.length S.pre;rw[Cd] at this;omega
 obtain⟨h1,tk,rfl,hk⟩:=x.done;have noA:∀ b:Addr,b ∉ (cxOf CX P w K mg base N qual scope f cd A outer s H E).ex:=fun b z=>absurd (show b∈([]:List Addr) from z) (by simp);refine⟨⟨e0.mod,S.kind,rfl,rfl,Ae _,fun y z c h1 h2=>?_,fun y hy=>?_,fun y c _ h=>?_,fun _=>hd,Around.frames_deeper e0.frames,.inr ⟨rfl,rfl⟩,fun b z=>absurd z (noA b),e0.bs,e0.bsz,fun b _ _=>noA b,fun b z=>absurd z (noA b),e0.funs,e0.frf⟩,
   rfl,e0.bare,Un.kept hk,⟨_,x.toInCall.ns,fun i y v h1 h2 h3=>?_⟩,fun y c h=>⟨_,x.cell y c h⟩,e0.hok.fresh (Ae _),fun y c h=>?_,fun p hp=>absurd (show p∈([]:List (Addr×Obj)) from hp) (by simp),e0.hok.kept hk,?_⟩
 . exact name_of_addr x.apart (AM h1) (AM h2)
 . have hy:scope.names.lookup y=some .cell\/scope.names.lookup y=some .free:=hy
   rcases hy with hy | hy
   . exact zii hy
   . exact absurd rfl (S.nofree _ (AM hy))
 . exact BP (x.above y c (AM h))
 . have hi:i < vs.length:=by
     unfold start at h2
     by_cases hi:i < vs.length
     . exact hi
     . rw[AK (by simpa using hi)] at h2;rw[BW] at h2
       split at h2 <;> cases h2
   have ha:vs[i]?=some v:=by
     unfold start at h2;rw[Al (by simpa using hi),Ay] at h2
     cases e:vs[i]? with
     | none=>rw[e] at h2;cases h2
     | some a=>rw[e] at h2;cases h2;rfl
   obtain⟨u,hu,rv⟩:=r.get ha;have hp:ps[i]?=some y:=by
     rw[<-S.pre,List.getElem?_take_of_lt (by omega)];exact h1
   have ndP:ps.Nodup:=by rw[<-S.pre];exact S.nd.sublist (List.take_sublist _ _)
   refine⟨u,rv,?_⟩
   rcases S.par y (AV hp) with k | k
   . exact .inl ⟨k,zgG ndP hp hu k⟩
   . obtain⟨c,e⟩:=zii (n:=s.heap.objs.size+1) k;refine .inr ⟨.inl k,c,e,?_⟩;have q:=x.cell y c e;rw[zgI ndP hp hu (by show scope.names.lookup y≠_;rw[k];decide)] at q;exact q
 . exact e0.hok.fresh (BP (x.above y c (AM h)))
 . unfold start;show _=N.length;rw[AD,Af,Bd];omega
theorem zpN{CX:CXT}{P:Program}{w:World}{K:Ac}{mg:Str->Option Value}{base:Heap}{k:Nat}{f:Addr}{name qual:Str}{params:Arguments}{body:List Stmt}{scope:Scope}{dV kV doc pm cdv ct oc:Value}{an od:Option Addr}
   {osl:Array (Option Value)} {N ps:List Str} {sp:Sp} (lk:K.lookup f=some ⟨oc,od,.func (BE name qual params body scope dV kV doc pm an cdv ct),osl⟩) (hcd:Cy K cdv qual=true) (S:FnScope N ps scope)
   (len:∀ vs H Q E,sp vs H Q E->vs.length=ps.length)
   (hbody:∀ (A:Around) (outer:List Env) (s:Shared) (H:Hp) (vs:List V) (Q:VK) (E:XK),Room k (A.deeper (envOfC qual scope s.heap.objs.size f cdv))->sp vs H Q E ->
     ∃ t,PSs (cxOf CX P w K mg base N qual scope f cdv A outer s H E) body t/\t { nx:=fun _ H'=>Q .non H',rt:=Q } (start N vs) H) :
   FnOk P w K mg base CX (k+1) f (BE name qual params body scope dV kV doc pm an cdv ct) ps sp:=by
 refine⟨len,fun A outer s H args us vs Q E hr e0 hb r hsp=>?_⟩;have hl:=len _ _ _ _ hsp;have KX:K.In s.heap:=e0.mod.kin.keeps fun b o e=>(e0.bs b o e).1;have lim:s.heap.NoLimit:=e0.mod.nolimit.keeps fun b o e=>(e0.bs b o e).1;have hkind:∀ y∈ps.zip us,scope.names.lookup y.1=some .local\/(scope.names.lookup y.1=some .cell/\((cellsFrom (s.heap.objs.size+1) scope.names []).lookup y.1).isSome=true):=by
   rintro ⟨n,v⟩ hy
   rcases S.par n (DI hy).1 with q | q
   . exact .inl q
   . exact .inr ⟨q,DP _ _ _ (.inl q)⟩
 refine codeAny_call_function hr.depth (KX _ _ lk) rfl S.co S.gen rfl (PySem.W.codeRec_of KX hcd) (hb _ _ _ _ ?_);refine wpAny_newFunctionEnv_cells S.kind hkind fun env he s1 x=>?_;subst he;refine⟨lim.keeps x.toInCall.keep,codeAny_func ?_⟩;obtain⟨t,ht,hq⟩:=hbody A outer s H vs Q E (hr.deeper _) hsp;have I:Inv (cxOf CX P w K mg base N qual scope f cdv A outer s H E) [] (start N vs) H s1:=zja S hr.hd e0 hl r x;refine Bj (ht [] s1 (start N vs) H _ I hq) (fun fl s' hs=>?_) fun e s' hs=>hs;have fin:∀ {σ':St} {H':Hp} {v:V} {u:Value},Inv (cxOf CX P w K mg base N qual scope f cdv A outer s H E) [] σ' H' s'->RelV v u->Q v H'->CE outer P w H s Q u s' :=
   fun {σ' H' v u} J rv q=>⟨v,H',J.os,J.bare,J.base,J.hok,rv,q⟩
 cases fl with
 | ret u =>
   obtain⟨v,σ',H',J,rv,q⟩:=hs;exact fin J rv q
 | next =>
   obtain⟨σ',H',J,q⟩:=hs;exact fin (v:=V.non) (u:=Bi) J rfl q
 | brk =>
   obtain⟨_,_,_,q⟩:=hs;exact False.elim q
 | cont =>
   obtain⟨_,_,_,q⟩:=hs;exact False.elim q
section
variable {X:Cx} {x:Str} {p pos:Pos} {e:Expr} {es:List Expr} {t:TA} {id T:String} {r:List V->Hp->VK->Prop}
noncomputable def tCB(r:List V->Hp->VK->Prop)(t:TA):TE:=fun σ H Q=>t σ H fun vs H1=>r vs H1 Q
theorem zeK(hc:zg7 X (.builtin id) r)(hg:Gl X x)(hm:X.mg x=none)(hv:bootBuiltins x=some (.builtin id))(ha:PA X (e::es) t)(hn:x≠"__name__":=by decide)(hdb:(x==("__debug__":Str))=false:=by decide)
   (he:starEach (e::es) X.env=(false,eval e X.env)::starEach es X.env:=by rfl) (hpl:(backTo pos (starEach es X.env)).any (·.1)=false:=by rfl):PE X (.Call (.Name x p) (e::es) [] pos) (tCB r t):=by
 intro pins s σ H Q I h;refine Ct (zgX I hg hm hv ?_ hn hdb);exact PyProof.Rows.callWith_builtin1 (thn (ha pos pins s σ H _ I h) fun us s1 ⟨vs,H1,I1,r1,q1⟩=>hc pins s1 σ H1 vs us Q I1 r1 q1) he hpl
theorem zgr(hc:zg7 X (.type T) r)(hg:Gl X x)(hm:X.mg x=none)(hv:bootBuiltins x=some (.type T))(ha:PA X (e::es) t)(hn:x≠"__name__":=by decide)(hdb:(x==("__debug__":Str))=false:=by decide)
   (he:starEach (e::es) X.env=(false,eval e X.env)::starEach es X.env:=by rfl) (hpl:(backTo pos (starEach es X.env)).any (·.1)=false:=by rfl):PE X (.Call (.Name x p) (e::es) [] pos) (tCB r t):=by
 intro pins s σ H Q I h;refine Ct (zgX I hg hm hv ?_ hn hdb);exact BD (thn (ha pos pins s σ H _ I h) fun us s1 ⟨vs,H1,I1,r1,q1⟩=>hc pins s1 σ H1 vs us Q I1 r1 q1) he hpl
end
section
variable {κ:Type} [DecidableEq κ]
noncomputable def valV(kvs:List (κ×V))(k:κ):Option V:=(kvs.find? fun kv=>decide (kv.1=k)).map (·.2)
noncomputable def putK(kvs:List (κ×V))(k:κ)(v:V):List (κ×V) :=
 if (kvs.any fun kv=>decide (kv.1=k))=true then kvs.map (fun kv=>if kv.1=k then (kv.1,v) else kv) else kvs++[(k,v)]
theorem zfP{p:κ×V}{r:List (κ×V)}{k:κ}(e:p.1=k):valV (p::r) k=some p.2:=by simp[valV,Bs,e]
theorem zfQ{p:κ×V}{r:List (κ×V)}{k:κ}(e:¬ p.1=k):valV (p::r) k=valV r k:=by simp[valV,Bs,e]
theorem zha(k:κ):∀ kvs:List (κ×V),(kvs.any fun kv=>decide (kv.1=k))=(valV kvs k).isSome
 | []=>rfl
 | p::r=>by
   rw[BK]
   by_cases e:p.1=k
   . simp only[zfP e,decide_eq_true e,Bool.true_or,Eh]
   . rw[zfQ e,decide_eq_false e,Bool.false_or];exact zha k r
theorem zdg(kvs:List (κ×V))(k:κ)(v:V):(putK kvs k v).length<=kvs.length+1:=by
 unfold putK
 split
 . rw[Af];omega
 . rw[AD,Bo,DJ];omega
theorem RelO.isSome_eq{o:Option V}{u:Option Value}(r:RelO o u):o.isSome=u.isSome:=by
 cases o with
 | none=>cases u with
   | none=>rfl
   | some _=>exact (show False from r).elim
 | some _=>cases u with
   | none=>exact (show False from r).elim
   | some _=>rfl
theorem KV.val{kvs:List (κ×V)}{vs:List (κ×Value)}(r:KV kvs vs)(k:κ):RelO (valV kvs k) (valueAt vs k):=by
 unfold KV at r
 induction r with
 | nil=>exact CN
 | @cons p q ps qs h t ih =>
   obtain⟨h1,h2⟩:=h
   by_cases e:p.1=k
   . have e':q.1=k:=h1.symm.trans e;have b:valueAt (q::qs) k=some q.2:=by simp[valueAt,Bs,e']
     rw[zfP e,b];exact h2
   . have e':¬ q.1=k:=fun z=>e (h1.trans z);have b:valueAt (q::qs) k=valueAt qs k:=by simp[valueAt,Bs,e']
     rw[zfQ e,b];exact ih
theorem KV.any{kvs:List (κ×V)}{vs:List (κ×Value)}(r:KV kvs vs)(k:κ):(kvs.any fun kv=>decide (kv.1=k))=vs.any fun kv=>decide (kv.1=k):=by
 unfold KV at r
 induction r with
 | nil=>rfl
 | cons h t ih=>rw[BK,BK,ih,h.1]
theorem KV.repl{kvs:List (κ×V)}{vs:List (κ×Value)}(r:KV kvs vs)(k:κ){y:V}{u:Value}(ry:RelV y u) :
   KV (kvs.map fun kv=>if kv.1=k then (kv.1,y) else kv) (vs.map fun kv=>if kv.1=k then (kv.1,u) else kv):=by
 unfold KV at r ⊢
 induction r with
 | nil=>exact .nil
 | @cons p q ps qs h t ih =>
   rw[Aq,Aq];refine .cons ?_ ih;obtain⟨h1,h2⟩:=h
   by_cases e:p.1=k
   . rw[if_pos e,if_pos (h1.symm.trans e)];exact⟨h1,ry⟩
   . rw[if_neg e,if_neg (fun z=>e (h1.trans z))];exact⟨h1,h2⟩
theorem KV.put{kvs:List (κ×V)}{vs:List (κ×Value)}(r:KV kvs vs)(k:κ){y:V}{u:Value}(ry:RelV y u):KV (putK kvs k y) (stored vs k u):=by
 unfold putK stored;rw[r.any k]
 by_cases e:(vs.any fun kv=>decide (kv.1=k))=true
 . rw[if_pos e,if_pos e];exact r.repl k ry
 . rw[if_neg e,if_neg e];exact Fv r ⟨rfl,ry⟩
theorem KV.length{kvs:List (κ×V)}{vs:List (κ×Value)}(r:KV kvs vs):kvs.length=vs.length:=Cg r
end
theorem zmH{P:Program}{w:World}{k:Key}{u:Value}(r:RelV (kV k) u):(zby P w).is k u=true:=by
 cases k with
 | inl i=>obtain⟨t,e⟩:=(show ∃ t,u=Fh i t from r);subst e;exact zgV P w i t
 | inr x=>obtain⟨t,e⟩:=(show ∃ t,u=C7 x t from r);subst e;exact zgU P w x t
theorem zgy{P:Program}{w:World}:∀ {ks:List Key} {us:List Value},Vals (ks.map kV) us->ItemsAre (zby P w) ks us
 | [],_,r=>by rw[BQ] at r;cases r;exact .nil
 | k::ks,_,r=>by
   rw[Aq] at r
   cases r with
   | cons h t=>exact .cons (zmH h) (zgy t)
noncomputable abbrev KT (H:Hp):List (List Key×V)->List (List Key×Addr×Value)->Prop:=Paired fun p q=>p.1=q.1/\H q.2.1=some (.tup (p.1.map kV))/\RelV p.2 q.2.2
theorem KT.val{H:Hp}{kvs:List (List Key×V)}{xs:List (List Key×Addr×Value)}(r:KT H kvs xs)(k:List Key):RelO (valV kvs k) ((atKey xs k).map (·.2)):=by
 induction r with
 | nil=>exact CN
 | @cons p q ps qs h t ih =>
   obtain⟨h1,_,h2⟩:=h
   by_cases e:p.1=k
   . have e':q.1=k:=h1.symm.trans e;have b:atKey (q::qs) k=some q.2:=by simp[atKey,Bs,e']
     rw[zfP e,b];exact h2
   . have e':¬ q.1=k:=fun z=>e (h1.trans z);have b:atKey (q::qs) k=atKey qs k:=by simp[atKey,Bs,e']
     rw[zfQ e,b];exact ih
theorem KT.repl{H:Hp}{kvs:List (List Key×V)}{xs:List (List Key×Addr×Value)}(r:KT H kvs xs)(k:List Key){y:V}{u:Value}(ry:RelV y u) :
   KT H (kvs.map fun kv=>if kv.1=k then (kv.1,y) else kv) (xs.map (putAt k u)):=by
 induction r with
 | nil=>exact .nil
 | @cons p q ps qs h t ih =>
   rw[Aq,Aq];refine .cons ?_ ih;obtain⟨h1,h2,h3⟩:=h;unfold putAt
   by_cases e:p.1=k
   . rw[if_pos e,if_pos (h1.symm.trans e)];exact⟨h1,h2,ry⟩
   . rw[if_neg e,if_neg (fun z=>e (h1.trans z))];exact⟨h1,h2,h3⟩
theorem KT.put{H:Hp}{kvs:List (List Key×V)}{xs:List (List Key×Addr×Value)}(r:KT H kvs xs)(k:List Key){b:Addr}{y:V}{u:Value}(hb:H b=some (.tup (k.map kV)))(ry:RelV y u) :
   KT H (putK kvs k y) (storedH xs k b u):=by
 have e:(kvs.any fun kv=>decide (kv.1=k))=(atKey xs k).isSome:=by
   rw[zha,(r.val k).isSome_eq,Es]
 unfold putK storedH;rw[e]
 by_cases q:(atKey xs k).isSome=true
 . rw[if_pos q,if_pos q];exact r.repl k ry
 . rw[if_neg q,if_neg q];exact Fv r ⟨rfl,hb,ry⟩
theorem KT.keeps{H H':Hp}{kvs:List (List Key×V)}{xs:List (List Key×Addr×Value)}(r:KT H kvs xs)(ht:∀ b ys,H b=some (.tup ys)->H' b=some (.tup ys)):KT H' kvs xs :=
 Paired.mapP r fun _ _ z=>⟨z.1,ht _ _ z.2.1,z.2.2⟩
section
variable {P:Program} {w:World} {H:Hp} {h:Heap} {a:Addr}
theorem zoY{u:HO}(ok:HOk P w H h)(e:Rd H a u):zdv P w H h a u:=e.ok ok
theorem zmW{kvs:List (Key×V)}(ok:HOk P w H h)(e:Rd H a (.dK kvs)):kvs.length<=sizeLine/\(a==sysModules)=false/\∃ vs,KV kvs vs/\h.DictOf (zby P w) a vs :=
 show zdv P w H h a (.dK kvs) from zoY ok e
theorem zoJ{kvs:List (Key×V)}(ok:HOk P w H h)(e:H a=some (.dK kvs)):kvs.length<=sizeLine/\(a==sysModules)=false/\∃ vs,KV kvs vs/\h.DictOf (zby P w) a vs:=zmW ok (.inl e)
theorem zi5{ks:List Key}(ok:HOk P w H h)(e:H a=some (.tup (ks.map kV))):(tupleKind (zby P w)).is h ks a:=by
 obtain⟨_,its,r,o,h1,h2,_,n,h3⟩:=(show zdv P w H h a (.tup (ks.map kV)) from ok a _ e)
 exact⟨o,its.toArray,n,h1,h2,h3,by simpa using zgy r⟩
theorem zmV{kvs:List (List Key×V)}(ok:HOk P w H h)(e:Rd H a (.dT kvs)):kvs.length<=sizeLine/\(a==sysModules)=false /\
   ∃ xs,KT H kvs xs/\h.DictOfH (tupleKind (zby P w)) a xs:=by
 obtain⟨z,y,xs,r,o,es,ep,h1,h2,h3,h4,h5⟩:=(show zdv P w H h a (.dT kvs) from zoY ok e)
 refine⟨z,y,xs,r,o,es,ep,h1,h2,h3,h4,fun x hx=>?_,h5⟩;have all:∀ {l:List (List Key×V)} {m:List (List Key×Addr×Value)},KT H l m->∀ x∈m,(tupleKind (zby P w)).is h x.1 x.2.1:=by
   intro l m q
   induction q with
   | nil=>intro x hx;exact nomatch hx
   | @cons p q ps qs hq t ih =>
     intro x hx
     rcases List.mem_cons.mp hx with e | hx
     . subst e;exact zi5 ok (by rw[<-hq.1];exact hq.2.1)
     . exact ih x hx
 exact all r x hx
theorem zpP{kvs:List (List Key×V)}(ok:HOk P w H h)(e:H a=some (.dT kvs)):kvs.length<=sizeLine/\(a==sysModules)=false /\
   ∃ xs,KT H kvs xs/\h.DictOfH (tupleKind (zby P w)) a xs:=zmV ok (.inl e)
end
def DGet(H:Hp)(a:Addr)(y:V)(r:Option V):Prop :=
 (∃ kvs k,Rd H a (.dK kvs)/\y=kV k/\r=valV kvs k)\/∃ kvs k b,Rd H a (.dT kvs)/\y=.ref b/\H b=some (.tup (k.map kV))/\r=valV kvs k
def DPut(H:Hp)(a:Addr)(y v:V)(H':Hp):Prop :=
 (∃ kvs k,H a=some (.dK kvs)/\y=kV k/\kvs.length < sizeLine/\H'=upd H a (.dK (putK kvs k v))) \/
 ∃ kvs k b,H a=some (.dT kvs)/\y=.ref b/\H b=some (.tup (k.map kV))/\kvs.length < sizeLine/\H'=upd H a (.dT (putK kvs k v))
theorem DGet.k{H:Hp}{a:Addr}{kvs:List (Key×V)}{k:Key}(e:H a=some (.dK kvs)):DGet H a (kV k) (valV kvs k):=.inl ⟨kvs,k,.inl e,rfl,rfl⟩
theorem DGet.t{H:Hp}{a b:Addr}{kvs:List (List Key×V)}{k:List Key}(e:H a=some (.dT kvs))(eb:H b=some (.tup (k.map kV))):DGet H a (.ref b) (valV kvs k):=.inr ⟨kvs,k,b,.inl e,rfl,eb,rfl⟩
theorem DPut.k{H:Hp}{a:Addr}{kvs:List (Key×V)}{k:Key}{v:V}(e:H a=some (.dK kvs))(hl:kvs.length < sizeLine):DPut H a (kV k) v (upd H a (.dK (putK kvs k v))):=.inl ⟨kvs,k,e,rfl,hl,rfl⟩
theorem DPut.t{H:Hp}{a b:Addr}{kvs:List (List Key×V)}{k:List Key}{v:V}(e:H a=some (.dT kvs))(eb:H b=some (.tup (k.map kV)))(hl:kvs.length < sizeLine) :
   DPut H a (.ref b) v (upd H a (.dT (putK kvs k v))):=.inr ⟨kvs,k,b,e,rfl,eb,hl,rfl⟩
section
variable {X:Cx} {pins:List (Addr×Obj)} {σ:St} {H:Hp} {s:Shared} {a:Addr} {y v:V} {u r:Value} {o:Option V} {A:Around} {E:Value->Shared->Prop}
theorem Inv.big(I:Inv X pins σ H s):sysModules < s.heap.objs.size:=by
 have h:mainGlobals < s.heap.objs.size:=(I.mod.glob.keeps I.bk).lt;exact Nat.lt_trans (by decide) h
theorem zji{Q:Value->Shared->Prop}(hu:A.units+1 < cLine)(I:Inv X pins σ H s)(g:DGet H a y (some v))(ry:RelV y u)(h:∀ w' s',Inv X pins σ H s'->RelV v w'->Q w' s') :
   wpAny (model X.prog X.w) A (getItem (.ref a) u) Q E s:=by
 rcases g with ⟨kvs,k,e,ey,l⟩ | ⟨kvs,k,b,e,ey,eb,l⟩
 . subst ey;obtain⟨z,hd,vs,rel,dd⟩:=zmW I.hok e;obtain⟨w',hw,rw'⟩:=RelO.some_of (v:=v) (o:=valueAt vs k) (by rw[l];exact rel.val k);exact wpAny_getItem_of (zmH ry) dd.mapOf hw (h w' _ (I.tok _) rw')
 . subst ey
   cases (show u=A0 b from ry)
   obtain⟨z,hd,xs,rel,dd⟩:=zmV I.hok e;obtain⟨w',hw,rw'⟩:=RelO.some_of (v:=v) (o:=(atKey xs k).map (·.2)) (by rw[l];exact rel.val k);obtain⟨p,hp,hp2⟩:=Option.map_eq_some_iff.mp hw;refine wpAny_getItem_heap (C9 hu) (zi5 I.hok eb) dd hp ?_;rw[hp2];exact h w' _ (I.tok _) rw'
theorem d_in{Q:Value->Shared->Prop}(hu:A.units+1 < cLine)(I:Inv X pins σ H s)(g:DGet H a y o)(ry:RelV y u)(h:∀ s',Inv X pins σ H s'->Q (.bool o.isSome) s') :
   wpAny (model X.prog X.w) A (compareOp .In u (.ref a)) Q E s:=by
 rcases g with ⟨kvs,k,e,ey,l⟩ | ⟨kvs,k,b,e,ey,eb,l⟩
 . subst ey;obtain⟨z,hd,vs,rel,dd⟩:=zmW I.hok e;refine wpAny_in_of (zmH ry) hd dd.mapOf ?_;rw[<-(rel.val k).isSome_eq,<-l];exact h _ (I.tok _)
 . subst ey
   cases (show u=A0 b from ry)
   obtain⟨z,hd,xs,rel,dd⟩:=zmV I.hok e;refine wpAny_in_heap (C9 hu) (zi5 I.hok eb) hd dd ?_;have q:=(rel.val k).isSome_eq;rw[Es] at q;rw[<-q,<-l];exact h _ (I.tok _)
theorem zic{h':Heap}{t':Nat}{ob:HO}(I:Inv X pins σ H s)(mu:Mut (H a))(hs:BC a s.heap h')(he:∃ q,h'.get? a=some q)(new:zdv X.prog X.w (upd H a ob) h' a ob) :
   Inv X pins σ (upd H a ob) { s with heap:=h',toks:=t' } :=
 I.write (x:=a) (e:=a) mu (.inl rfl) (fun b q hb z=>(hs.2 b hb).trans z) he new
theorem zmX{P:Program}{w:World}{H':Hp}{h':Heap}{kvs:List (Key×V)}{vs:List (Key×Value)}(z:kvs.length<=sizeLine)(hd:(a==sysModules)=false)(rel:KV kvs vs)(dd:h'.DictOf (zby P w) a vs) :
   zdv P w H' h' a (.dK kvs):=⟨z,hd,vs,rel,dd⟩
theorem zjh{H':Hp}{Q:Unit->Shared->Prop}(hu:A.units+1 < cLine)(I:Inv X pins σ H s)(g:DPut H a y v H')(ry:RelV y u)(rv:RelV v r)(h:∀ s',Inv X pins σ H' s'->Q () s') :
   wpAny (model X.prog X.w) A (setItem (.ref a) u r) Q E s:=by
 rcases g with ⟨kvs,k,e,ey,l,eH⟩ | ⟨kvs,k,b,e,ey,eb,l,eH⟩
 . subst ey eH;obtain⟨z,hd,vs,rel,dd⟩:=zoJ I.hok e;have hz:vs.length<=sizeLine:=by rw[<-rel.length];exact z
   have hl:(putK kvs k v).length<=sizeLine:=by have:=zdg kvs k v;omega
   refine wpAny_setItem_pairs (hsz:=hz) (zmH ry) dd fun h' dd' hs=>h _ ?_;have he:∃ q,h'.get? a=some q:=let ⟨q,_,_,hq,_⟩:=dd';⟨q,hq⟩
   exact zic I (by rw[e];exact CN) hs he (zmX hl hd (rel.put k rv) dd')
 . subst ey eH
   cases (show u=A0 b from ry)
   obtain⟨z,hd,xs,rel,dd⟩:=zpP I.hok e;have hz:xs.length<=sizeLine:=by rw[<-Cg rel];exact z
   have hl:(putK kvs k v).length<=sizeLine:=by have:=zdg kvs k v;omega
   refine wpAny_setItem_heap (hsz:=hz) (C9 hu) (zi5 I.hok eb) dd fun h' dd' hs=>h _ ?_;obtain⟨q,es,ep,hq,h2,h3,h4,_,h5⟩:=dd';refine zic I (by rw[e];exact CN) hs ⟨q,hq⟩ ⟨hl,hd,_,(rel.put k eb rv).keeps fun c ys ec=>?_,q,es,ep,hq,h2,h3,h4,h5⟩;rw[zaO (zoi ec e (fun z=>nomatch z))];exact ec
end
def NoSl(i:Expr):Prop:=∀ ov iv,subscripted i false ov iv=operate [ov,iv] (getItem ov iv)
theorem zlA{prog:Program}{w:World}{A:Around}{E:Value->Shared->Prop}{s:Shared}{env:Env}{value slice:Expr}{pos:Pos}{T id:String}{Q:Value->Shared->Prop}
   (hl:typeLookup (.type T) "__getitem__"=pure (some (.builtin id))) (hs:NoSl slice)
   (h:wpAny (model prog w) A (eval value env) (fun o s₁=>wpAny (model prog w) A (eval slice env) (fun i s₂=>s₂.TypeIs o T/\wpAny (model prog w) A (getItem o i) Q E s₂) E s₁) E s) :
   wpAny (model prog w) A (eval (.Subscript value slice pos) env) Q E s:=by
 refine EO (Bj h (fun o s₁ h₁=>Bj h₁ (fun i s₂ h₂=>?_) fun _ _ x=>x) fun _ _ x=>x);obtain⟨hT,h₂⟩:=h₂;unfold subscriptTail;refine Aa ?_;rw[getitemInPython_of_ne hT.not_modules];refine Aa (wpAny_specialOf hT hl ?_);have fin:wpAny (model prog w) A (subscripted slice false o i) (fun r s₃=>wpAny (model prog w) A (letTemporaryGo value o r >>= fun _=>pure r) Q E s₃) E s₂:=by
   rw[hs o i];exact wpAny_operating (Bj h₂ (fun r s₃ h₃=>Aa (wpAny_letTemporaryGo (Ad h₃))) fun _ _ x=>x)
 first
   | exact Ad (Aa fin)
   | exact Aa (Ad (Aa fin))
   | exact Aa fin
theorem zg0{X:Cx}{pins:List (Addr×Obj)}{σ:St}{H:Hp}{s:Shared}{a:Addr}{y:V}{o:Option V}(I:Inv X pins σ H s)(g:DGet H a y o):s.TypeIs (.ref a) "dict":=by
 rcases g with ⟨kvs,k,e,_,_⟩ | ⟨kvs,k,b,e,_,_,_⟩
 . obtain⟨_,_,vs,_,dd⟩:=zmW I.hok e;exact dd.typeIs
 . obtain⟨_,_,xs,_,dd⟩:=zmV I.hok e;exact dd.typeIs
noncomputable def zpg(td ty:TE):TE:=fun σ H Q=>td σ H fun x H1=>ty σ H1 fun y H2=>∃ a v,x=.ref a/\DGet H2 a y (some v)/\Q v H2
noncomputable def tDIn(ty td:TE):TE:=fun σ H Q=>ty σ H fun y H1=>td σ H1 fun x H2=>∃ a o,x=.ref a/\DGet H2 a y o/\Q (.bl o.isSome) H2
noncomputable def zpm(td ty tv:TE):TS:=fun D σ H=>tv σ H fun v H1=>td σ H1 fun x H2=>ty σ H2 fun y H3=>∃ a H4,x=.ref a/\DPut H3 a y v H4/\D.nx σ H4
section
variable {X:Cx} {o i e value:Expr} {pos pos' tpos:Pos} {td ty tv:TE}
theorem zmh(hu:X.A.units+1 < cLine)(ho:PE X o td)(hi:PE X i ty)(hs:NoSl i):PE X (.Subscript o i pos) (zpg td ty):=by
 intro pins s σ H Q I h;refine zlA PySem.F.slot_dict_getitem.lookup hs (thn (ho pins s σ H _ I h) fun u s1 ⟨x,H1,I1,rx,q1⟩=>thn (hi pins s1 σ H1 _ I1 q1) ?_);rintro iv s2 ⟨y,H2,I2,ry,a,v,ex,g,q2⟩;subst ex;obtain rfl:u=A0 a:=rx;exact⟨zg0 I2 g,zji hu I2 g ry fun w' s3 I3 rw'=>⟨v,H2,I3,rw',q2⟩⟩
theorem zn7(hu:X.A.units+1 < cLine)(hi:PE X i ty)(ho:PE X o td):PC X .In i o (tDIn ty td):=by
 intro pins s σ H Q I h;refine thn (hi pins s σ H _ I h) fun iv s1 ⟨y,H1,I1,ry,q1⟩=>thn (ho pins s1 σ H1 _ I1 q1) ?_;rintro u s2 ⟨x,H2,I2,rx,a,ov,ex,g,q2⟩;subst ex;obtain rfl:u=A0 a:=rx;exact d_in hu I2 g ry fun s3 I3=>⟨.bl ov.isSome,H2,I3,rfl,q2⟩
theorem zl6(hu:X.A.units+1 < cLine)(ho:PE X o td)(hi:PE X i ty)(hv:PE X value tv)(hs:swapsWith value (some (.Subscript o i pos')) pos.line X.env=pure false) :
   PS X (.Assign [.Subscript o i pos'] value pos) (zpm td ty tv):=by
 intro pins s σ H D I h;refine wpAny_Assign_Subscript (thn (hv pins s σ H _ I h) fun r s1 ⟨v,H1,I1,rv,q1⟩=>thn (ho pins s1 σ H1 _ I1 q1) fun u s2 ⟨x,H2,I2,rx,q2⟩=>thn (hi pins s2 σ H2 _ I2 q2) ?_) hs;rintro iv s3 ⟨y,H3,I3,ry,a,H4,ex,g,q3⟩;subst ex;obtain rfl:u=A0 a:=rx;exact zjh hu I3 g ry rv fun s4 I4=>⟨σ,H4,I4,q3⟩
end
theorem zk4{P:Program}{w:World}{H:Hp}(h:Heap)(hb:sysModules < h.objs.size):zdv P w H (h.push { cls:=.type "dict",data:=.dict #[] }) h.objs.size (.dK []) :=
 ⟨A4 _,beq_eq_false_iff_ne.mpr (A9 (AB hb)),[],.nil,Heap.DictOf.new h⟩
noncomputable def zj5:List (TE×TE)->St->Hp->(List (V×V)->Hp->Prop)->Prop
 | [],_,H,Q=>Q [] H
 | (tk,tv)::r,σ,H,Q=>tk σ H fun x H1=>tv σ H1 fun y H2=>zj5 r σ H2 fun ps H3=>Q ((x,y)::ps) H3
noncomputable abbrev VV:List (V×V)->List (Value×Value)->Prop:=Paired fun p q=>RelV p.1 q.1/\RelV p.2 q.2
def PPs(X:Cx)(pos:Pos)(keys:List (Option Expr))(values:List Expr)(trs:List (TE×TE)):Prop :=
 ∀ (pins:List (Addr×Obj)) (s:Shared) (σ:St) (H:Hp) (Q:List (V×V)->Hp->Prop),Inv X pins σ H s->zj5 trs σ H Q ->
   wpAny (model X.prog X.w) X.A (evalPairs (pairTrees keys values X.env pos)) (fun vs s'=>∃ ps H',Inv X pins σ H' s'/\VV ps vs/\Q ps H') X.xe s
theorem zl7{X:Cx}{pos:Pos}:PPs X pos [] [] []:=fun pins s σ H Q I h=>pairTrees_nil_walk ⟨[],H,I,.nil,h⟩
theorem zkq{X:Cx}{pos:Pos}{k v:Expr}{ks:List (Option Expr)}{vs:List Expr}{tk tv:TE}{trs:List (TE×TE)}(hk:PE X k tk)(hv:PE X v tv)(hr:PPs X pos ks vs trs) :
   PPs X pos (some k::ks) (v::vs) ((tk,tv)::trs):=fun pins s σ H Q I h =>
 pairTrees_cons_walk (thn (hk pins s σ H _ I h) fun u s1 ⟨x,H1,I1,rx,q1⟩=>thn (hv pins s1 σ H1 _ I1 q1) fun w2 s2 ⟨y,H2,I2,ry,q2⟩ =>
   thn (hr pins s2 σ H2 _ I2 q2) fun ws s3 ⟨ps,H3,I3,rel,q3⟩=>⟨(x,y)::ps,H3,I3,.cons ⟨rx,ry⟩ rel,q3⟩)
noncomputable def zhV(kvs more:List (Key×V)):List (Key×V):=more.foldl (fun acc kv=>putK acc kv.1 kv.2) kvs
theorem KV.merge:∀ {more:List (Key×V)} {rs:List (Key×Value)} {kvs:List (Key×V)} {vs:List (Key×Value)},KV more rs->KV kvs vs->KV (zhV kvs more) (merged vs rs):=by
 intro more rs kvs vs r;unfold KV at r
 induction r generalizing kvs vs with
 | nil=>intro q;exact q
 | @cons p q ps qs h t ih =>
   intro r0;have e:KV (putK kvs p.1 p.2) (stored vs q.1 q.2):=by
     have:=r0.put p.1 h.2;rw[<-h.1];exact this
   exact ih e
theorem zdp:∀ (more kvs:List (Key×V)),(zhV kvs more).length<=kvs.length+more.length
 | [],kvs=>by show kvs.length<=kvs.length+0;omega
 | p::r,kvs=>by
   have h1:=zdp r (putK kvs p.1 p.2);have h2:=zdg kvs p.1 p.2;show (zhV (putK kvs p.1 p.2) r).length<=_;rw[Bo];omega
theorem zfI{P:Program}{w:World}:∀ {kvs:List (Key×V)} {ws:List (Value×Value)},VV (kvs.map fun kv=>(kV kv.1,kv.2)) ws->∃ rs,Carries (zby P w) ws rs/\KV kvs rs
 | [],_,r=>by rw[BQ] at r;cases r;exact⟨[],CN,.nil⟩
 | p::kvs,_,r=>by
   rw[Aq] at r
   cases r with
   | @cons a b as bs h t =>
     obtain⟨rs,c,q⟩:=zfI (P:=P) (w:=w) t;obtain⟨b1,b2⟩:=b;exact⟨(p.1,b2)::rs,⟨zmH h.1,rfl,c⟩,.cons ⟨rfl,h.2⟩ q⟩
noncomputable def zpf(trs:List (TE×TE)):TE:=fun σ H Q=>∀ p,H p=none->zj5 trs σ (upd H p (.dK [])) fun ps H2=>H2 p=some (.dK [])/\∃ kvs:List (Key×V),ps=kvs.map (fun kv=>(kV kv.1,kv.2))/\kvs.length<=15/\Q (.ref p) (upd H2 p (.dK (zhV [] kvs)))
theorem zmg{X:Cx}{pos:Pos}{keys:List (Option Expr)}{values:List Expr}{trs:List (TE×TE)}(h:PPs X pos keys values trs)(hall:keys.all (·.isSome)=true)(hl:keys.length=values.length)(h0:keys≠[])
   (h15:keys.length<=15):PE X (.Dict keys values pos) (zpf trs):=by
 intro pins s σ H Q I q;have hn:=I.hok.fresh (Ae s.heap.objs.size);have I1:=I.laid (a:=s.heap.objs.size) (o:=.dK []) (h':=s.heap.push { cls:=.type "dict",data:=.dict #[] }) (t':=s.toks) (fun _ _ q=>Ag _ q) (Ae _) (zk4 s.heap I.big);refine wpAny_Dict_walk (knd:=zby X.prog X.w) hall hl h0 h15 (thn (h pins _ σ _ _ I1 (q _ hn)) ?_);rintro ws s2 ⟨ps,H2,I2,rel,e,kvs,ep,lk,q2⟩;subst ep;obtain⟨rs,c,rk⟩:=zfI (P:=X.prog) (w:=X.w) rel;obtain⟨z,hd,vs0,r0,dd⟩:=zoJ I2.hok e;cases r0;refine⟨rs,c,dd,fun h' dd' hs=>⟨.ref s.heap.objs.size,_,?_,rfl,q2⟩⟩;have hz:(zhV [] kvs).length<=sizeLine:=by
   have h1:=zdp kvs [];rw[DJ] at h1;rw[C6];omega
 have he:∃ q,h'.get? s.heap.objs.size=some q:=let ⟨q,_,_,hq,_⟩:=dd';⟨q,hq⟩
 exact zic I2 (by rw[e];exact CN) hs he (zmX hz hd (rk.merge .nil) dd')
structure M2(X:Cx)(o:Expr)(m:Str)(apos:Pos)(e f:Expr)(cpos:Pos):Prop where
 base:attributeBase o m X.env (eval o X.env)=eval o X.env
 few:((backTo cpos (starEach [e,f] X.env)).all (fun x=>!x.1)&&(backToKw cpos (keywordEach [] X.env)).all (fun x=>x.1.isSome)
  &&decide (([e,f]:List Expr).length+([]:List Keyword).length+(if ([]:List Keyword).isEmpty then 0 else 1) < 30))=true
 line:(apos.endLine==cpos.line)=true
 trees:backTo cpos (starEach [e,f] X.env)=[(false,eval e X.env),(false,eval f X.env)]
def IsD(H:Hp)(a:Addr):Prop:=(∃ kvs,Rd H a (.dK kvs))\/∃ kvs,Rd H a (.dT kvs)
theorem zoB{X:Cx}{pins:List (Addr×Obj)}{σ:St}{H:Hp}{s:Shared}{a:Addr}(I:Inv X pins σ H s)(d:IsD H a) :
   s.TypeIs (.ref a) "dict"/\(∀ b,A0 a=.ref b->∃ ob,s.heap.get? b=some ob/\ob.dict=none)/\(a==sysModules)=false:=by
 rcases d with ⟨kvs,e⟩ | ⟨kvs,e⟩
 . obtain⟨_,hd,vs,_,dd⟩:=zmW I.hok e;refine⟨dd.typeIs,fun b q=>?_,hd⟩;cases q;obtain⟨ob,_,_,h1,h2,_⟩:=dd;exact⟨ob,h1,h2.2.1⟩
 . obtain⟨_,hd,xs,_,dd⟩:=zmV I.hok e;refine⟨dd.typeIs,fun b q=>?_,hd⟩;cases q;obtain⟨ob,_,_,h1,h2,_⟩:=dd;exact⟨ob,h1,h2.2.1⟩
end L2
namespace HT
open PySem PyProof.Rows
noncomputable def lexLt:List Int->List Int->Bool
 | [],[]=>false
 | [],_::_=>true
 | _::_,[]=>false
 | x::xs,y::ys=>if x=y then lexLt xs ys else decide (x < y)
theorem lexLt_cons(x y:Int)(xs ys:List Int):lexLt (x::xs) (y::ys)=if x=y then lexLt xs ys else decide (x < y):=rfl
theorem lexLt_nil_nil:lexLt [] []=false:=rfl
theorem lexLt_nil_cons(y:Int)(ys:List Int):lexLt [] (y::ys)=true:=rfl
theorem lexLt_cons_nil(x:Int)(xs:List Int):lexLt (x::xs) []=false:=rfl
section
open PySem.SeqAt
open PySem.MeetsSeq PySem.MeetsSeq2 PySem.MeetsSeq3
end
section
variable {prog:Program} {w:World} {A:Around} {E:Value->Shared->Prop} {s:Shared}
theorem cat_tup{t b:Addr}{vs ws:List Value}{Q:Value->Shared->Prop}(ht:IsTup s.heap t vs.toArray)(hb:IsTup s.heap b ws.toArray)(hv:vs≠[])
   (h1:ws=[]->Q (.ref t) s) (h2:ws≠[]->Q (.ref s.heap.objs.size) { s with heap:=s.heap.push { cls:=.type "tuple",data:=.seq (vs++ws).toArray } })
   (hsz:vs.length+ws.length<=sizeLine):wpAny (model prog w) A (binaryOp .Add (.ref t) (.ref b)) Q E s:=by
 obtain⟨⟨cls,dd,data,sl⟩,ho,hc,n,hd⟩:=id ht;obtain⟨⟨cls2,dd2,data2,sl2⟩,ho2,hc2,n2,hd2⟩:=id hb;simp only at hc hd hc2 hd2;subst hc hd hc2 hd2;have e:vs.toArray++ws.toArray=(vs++ws).toArray:=by simp
 by_cases hw:ws=[]
 . exact concat_meets ⟨_,ho,rfl⟩ ⟨_,ho2,rfl⟩ noFill_tuple_add seq_tuple_add DQ DD (Dx _ _)
     (tuple_addW1 t b vs.toArray ws.toArray n n2 dd dd2 sl sl2 (by simpa using hv) (by simp[hw])) ⟨ho,ho2,h1 hw⟩
 . refine concat_meets ⟨_,ho,rfl⟩ ⟨_,ho2,rfl⟩ noFill_tuple_add seq_tuple_add DQ DD (Dx _ _)
     (tuple_addW2 t b vs.toArray ws.toArray n n2 dd dd2 sl sl2 (by simpa using hv) (by simpa using hw) (by rw[Ar,Ar];exact hsz)) ⟨ho,ho2,?_⟩
   rw[e];exact h2 hw
noncomputable def sIx(n d:Nat):Option Int->Nat
 | none=>d
 | some v=>if v < 0 then (v+(n:Int)).toNat else min v.toNat n
theorem znK(n d:Nat)(hd:d<=n)(o:Option Int):sIx n d o<=n:=by
 cases o with
 | none=>exact hd
 | some v =>
   show (if v < 0 then (v+(n:Int)).toNat else min v.toNat n)<=n
   by_cases hv:v < 0
   . rw[if_pos hv];omega
   . rw[if_neg hv];exact EG _ _
theorem zjT(v:Int)(n d:Nat):(if v < 0 then max (v+(n:Int)) 0 else min v (n:Int))=((sIx n d (some v):Nat):Int):=by
 show (if v < 0 then max (v+(n:Int)) 0 else min v (n:Int))=(((if v < 0 then (v+(n:Int)).toNat else min v.toNat n):Nat):Int)
 by_cases hv:v < 0
 . simp only[if_pos hv];omega
 . simp only[if_neg hv];omega
theorem zit(lo hi:Option Int)(n:Nat):Co lo hi 1 (n:Int)=(((sIx n 0 lo:Nat):Int),((sIx n n hi:Nat):Int)):=by
 have h1:¬ ((1:Int) < 0):=by omega
 unfold Co;simp only[h1,if_false];refine Prod.ext ?_ ?_
 . cases lo with
   | none=>rfl
   | some v=>exact zjT v n 0
 . cases hi with
   | none=>rfl
   | some v=>exact zjT v n n
theorem zhB(i j:Nat):BO (i:Int) (j:Int) 1=j - i:=by
 unfold BO;have h1:(1:Int) > 0:=by omega
 simp only[h1,if_true,Int.ediv_one]
 split <;> omega
theorem zfh{v:Value}{o:Option Int}{Q:Option Int->Shared->Prop}(p:IsPart v o)(h:Q o s):wpAny (model prog w) A (Builtin.Slice.slicePartIndex v) Q E s:=by
 cases p with
 | none=>exact slicePart_none h
 | int i t=>exact slicePart_int h
theorem sliceApplied_gen{sl:Addr}{vl vu:Value}{lo hi:Option Int}{n:Nat}{Q:Int×Int×Nat->Shared->Prop}(hs:s.heap.IsSliceOf sl vl vu .none)(pl:IsPart vl lo)(pu:IsPart vu hi)
   (h:Q (((sIx n 0 lo:Nat):Int),1,sIx n n hi - sIx n 0 lo) s):wpAny (model prog w) A (Di (.ref sl) (pure (n:Int))) Q E s:=by
 obtain⟨os,hos,hcs,hds⟩:=id hs;unfold Di Builtin.Slice.sliceFields;refine Aa (Aa (Cj hos hds (x:=vl) rfl (Aa (Cj hos hds (x:=vu) rfl (Aa (Cj hos hds (x:=.none) rfl (Ad ?_)))))));refine Aa (slicePart_none ?_);show wpAny _ _ (if ((1:Int)==0)=true then _ else _) _ _ s;rw[if_neg (by decide)];refine Aa (zfh pl (Aa (zfh pu (Aa (Ad ?_)))));show wpAny _ _ (match Co lo hi 1 (n:Int) with | (lo,hi)=>pure (lo,(1:Int),BO lo hi 1)) _ _ s;rw[zit lo hi n];show wpAny _ _ (pure (((sIx n 0 lo:Nat):Int),(1:Int),BO ((sIx n 0 lo:Nat):Int) ((sIx n n hi:Nat):Int) 1)) _ _ s;rw[zhB];exact Ad h
theorem zku(xs:Array Value)(i k:Nat):((Au k).filterMap fun (m:Nat)=>xs[((i:Int)+(m:Int)*1).toNat]?).toArray=((xs.toList.drop i).take k).toArray:=by
 have e:(fun (m:Nat)=>xs[((i:Int)+(m:Int)*1).toNat]?)=fun m=>xs[i+m]?:=by
   funext m
   have:((i:Int)+(m:Int)*1).toNat=i+m:=by omega
   rw[this]
 rw[e];have:=pick_run xs i k;rw[List.filterMap_map] at this;have e2:((fun x=>xs[x]?) ∘ fun x=>i+x)=fun m=>xs[i+m]?:=rfl;rw[e2] at this;rw[this]
theorem getItem_tuple_cut{t sl:Addr}{items:Array Value}{vl vu:Value}{lo hi:Option Int}{Q:Value->Shared->Prop}(ht:IsTup s.heap t items)(hs:s.heap.IsSliceOf sl vl vu .none)(pl:IsPart vl lo)(pu:IsPart vu hi)
   (hw:¬ (sIx items.size 0 lo=0/\sIx items.size items.size hi=items.size))
   (h:Q (.ref s.heap.objs.size) { s with heap:=s.heap.push { cls:=.type "tuple",data:=.seq ((items.toList.drop (sIx items.size 0 lo)).take (sIx items.size items.size hi - sIx items.size 0 lo)).toArray } })
   (hsz:items.size<=sizeLine):wpAny (model prog w) A (getItem (.ref t) (.ref sl)) Q E s:=by
 have htake:sizeOk (.seq ((items.toList.drop (sIx items.size 0 lo)).take (sIx items.size items.size hi - sIx items.size 0 lo)).toArray):=by
   show ((items.toList.drop (sIx items.size 0 lo)).take (sIx items.size items.size hi - sIx items.size 0 lo)).toArray.size<=sizeLine;rw[Ar,Cd,Dy,AH];omega
 have hj:sIx items.size items.size hi<=items.size:=znK _ _ (Ae _) hi;obtain⟨os,hos,hcs,hds⟩:=id hs;have hTs:s.TypeIs (.ref sl) "slice":=⟨os,hos,hcs⟩
 unfold getItem
 try with_reducible refine Bg ?_
 first | refine Aa (Ad ?_) | skip
 refine Aa (Et ht.typeIs (by decide) ?_);refine Aa (Bm (name:=B9 "__getitem__") ht.typeIs Br
   (A5 Br ht.typeIs Eb ?_ (Ei _ _)))
 show wpAny _ _ (Dj (.ref t) >>= _) _ _ s;refine Aa (tupleItemsOf_ ht ?_);refine Aa (CO hTs ?_);rw[if_pos (by decide)];refine Aa (sliceApplied_gen hs pl pu ?_);have hno:¬ ((((sIx items.size 0 lo:Nat):Int)==0&&(1:Int)==1&&(sIx items.size items.size hi - sIx items.size 0 lo)==items.size)=true):=by
   intro q;rw[AA,AA] at q;have q1:((sIx items.size 0 lo:Nat):Int)=0:=eq_of_beq q.1.1;have q2:sIx items.size items.size hi - sIx items.size 0 lo=items.size:=eq_of_beq q.2;exact hw ⟨by omega,by omega⟩
 show wpAny _ _ (if (((sIx items.size 0 lo:Nat):Int)==0&&(1:Int)==1&&(sIx items.size items.size hi - sIx items.size 0 lo)==items.size)=true then _ else _) _ _ s;rw[if_neg hno,zku]
 first
   | exact Aa (m:=BR _) (AQ (Ad ⟨_,rfl,Ad h⟩) htake)
   | exact Aa (m:=BR _) (AQ (Aa (Ad (Ad ⟨_,rfl,Ad h⟩))) htake)
   | exact Aa (Aa (m:=BR _) (AQ (Ad (Ad ⟨_,rfl,Ad h⟩)) htake))
   | exact Aa (Aa (m:=BR _) (AQ (Ad ⟨_,rfl,Ad h⟩) htake))
end
end HT
namespace L2
open PySem PySem.Spec PyProof.Rows
noncomputable abbrev TO:=St->Hp->(Option Int->Hp->Prop)->Prop
def PO(X:Cx)(e:Option Expr)(t:TO):Prop :=
 ∀ (pins:List (Addr×Obj)) (s:Shared) (σ:St) (H:Hp) (Q:Option Int->Hp->Prop),Inv X pins σ H s->t σ H Q ->
   wpAny (model X.prog X.w) X.A (evalPart e X.env) (fun u s'=>∃ o H',Inv X pins σ H' s'/\IsPart u o/\Q o H') X.xe s
noncomputable def zlx:TO:=fun _ H Q=>Q none H
noncomputable def zpb(t:TE):TO:=fun σ H Q=>t σ H fun x H1=>∃ i,x=.int i/\Q (some i) H1
section
variable {X:Cx} {e:Expr} {te:TE} {lo hi:Option Expr} {tl th:TO} {pos p2:Pos}
theorem zma:PO X none zlx:=by
 intro pins s σ H Q I h;rw[evalPart_none];exact Ad ⟨none,H,I,.none,h⟩
theorem zl9(h:PE X e te):PO X (some e) (zpb te):=by
 intro pins s σ H Q I hw;rw[evalPart_some];refine thn (h pins s σ H _ I hw) ?_;rintro u s1 ⟨x,H1,I1,r1,q1⟩;obtain⟨i,rfl,q⟩:=q1;obtain⟨t,rfl⟩:=r1;exact⟨some i,H1,I1,.int i t,q⟩
def SlR(X:Cx)(r:V->Option Int->Option Int->Hp->VK->Prop):Prop :=
 ∀ (pins:List (Addr×Obj)) (s:Shared) (σ:St) (H:Hp) (x:V) (v vl vu:Value) (lo hi:Option Int) (sl:Addr) (Q:VK),Inv X pins σ H s->RelV x v->s.heap.IsSliceOf sl vl vu .none->IsPart vl lo->IsPart vu hi->r x lo hi H Q ->
   ∃ T id,typeLookup (.type T) "__getitem__"=pure (some (.builtin id))/\s.TypeIs v T/\wpAny (model X.prog X.w) X.A (getItem v (.ref sl)) (EP X pins σ Q) X.xe s
noncomputable def tSl(r:V->Option Int->Option Int->Hp->VK->Prop)(te:TE)(tl th:TO):TE:=fun σ H Q=>te σ H fun x H1=>tl σ H1 fun l H2=>th σ H2 fun u H3=>r x l u H3 Q
theorem zeJ{r:V->Option Int->Option Int->Hp->VK->Prop}(hr:SlR X r)(he:PE X e te)(hl:PO X lo tl)(hu:PO X hi th):PE X (.Subscript e (.Slice lo hi none p2) pos) (tSl r te tl th):=by
 intro pins s σ H Q I h;refine EO (thn (he pins s σ H _ I h) ?_);rintro v s1 ⟨x,H1,I1,r1,q1⟩;refine wpAny_Slice (thn (hl pins s1 σ H1 _ I1 q1) fun vl s2 ⟨l,H2,I2,pl,q2⟩=>thn (hu pins s2 σ H2 _ I2 q2) ?_);rintro vu s3 ⟨u,H3,I3,pu,q3⟩;rw[evalPart_none];refine Ad ?_;have I4:Inv X pins σ H3 { s3 with heap:=s3.heap.push { cls:=.type "slice",data:=.fields #[vl,vu,.none] } }:=I3.kept (t':=s3.toks) fun b ob q=>Ag _ q;obtain⟨T,id,hT,ht,hg⟩:=hr pins { s3 with heap:=s3.heap.push { cls:=.type "slice",data:=.fields #[vl,vu,.none] } } σ H3 x v vl vu l u s3.heap.objs.size Q I4 r1 (FB ..) pl pu q3;show wpAny (model X.prog X.w) X.A (subscriptTail e (.Slice lo hi none p2) v (.ref s3.heap.objs.size)) (EP X pins σ Q) X.xe { s3 with heap:=s3.heap.push { cls:=.type "slice",data:=.fields #[vl,vu,.none] } };exact tail_any (ops:=[.ref s3.heap.objs.size,v]) ht hT hg (by with_unfolding_all rfl)
noncomputable def cutV(xs:List V)(lo hi:Option Int):List V:=(xs.drop (HT.sIx xs.length 0 lo)).take (HT.sIx xs.length xs.length hi - HT.sIx xs.length 0 lo)
theorem zer(xs:List V)(lo hi:Option Int):(cutV xs lo hi).length<=xs.length:=by
 unfold cutV;rw[Cd,Dy];omega
noncomputable def rSlT(K:Ac):V->Option Int->Option Int->Hp->VK->Prop:=fun x lo hi H Q=>∃ a xs,x=.ref a/\SqT K H a xs /\
 ¬ (HT.sIx xs.length 0 lo=0/\HT.sIx xs.length xs.length hi=xs.length)/\∀ p,H p=none->Q (.ref p) (upd H p (.tup (cutV xs lo hi)))
theorem zny:SlR X (rSlT X.K):=by
 intro pins s σ H x v vl vu lo hi sl Q I rx hs pl pu h;obtain⟨a,xs,rfl,hx,hw,q⟩:=h;cases rx;obtain⟨its,r,ht,hz⟩:=I.tuple hx;have hlen:its.toArray.size=xs.length:=by rw[Ar];exact r.length.symm
 refine⟨"tuple",_,PyProof.Rows.slot_tuple_getitem.lookup,ht.typeIs,?_⟩;refine HT.getItem_tuple_cut ht hs pl pu (by rw[hlen];exact hw) ?_ (by rw[hlen];exact hz);rw[hlen];refine⟨.ref s.heap.objs.size,_,I.laid (t':=s.toks) (o:=.tup (cutV xs lo hi)) (fun b ob q=>Ag _ q) (Ae _) ?_,rfl,q _ (I.hok.fresh (Ae _))⟩;exact⟨AI (zer xs lo hi) hz,_,(r.drop (HT.sIx xs.length 0 lo)).take (HT.sIx xs.length xs.length hi - HT.sIx xs.length 0 lo),zfN.new _ _⟩
noncomputable def zpo(K:Ac):R2:=fun x y H Q=>∃ a b xs ys,x=.ref a/\y=.ref b/\SqT K H a xs/\SqT K H b ys/\xs≠[]/\xs.length+ys.length<=sizeLine /\
 (ys=[]->Q (.ref a) H)/\(ys≠[]->∀ p,H p=none->Q (.ref p) (upd H p (.tup (xs++ys))))
theorem Vals.nil_iff{xs:List V}{us:List Value}(r:Vals xs us):us=[] ↔ xs=[]:=by
 cases r with
 | nil=>simp
 | cons _ _=>simp
theorem zmo:OpR X (binaryOp .Add) (zpo X.K):=by
 intro pins s σ H x y v u Q I rx ry h;obtain⟨a,b,xs,ys,rfl,rfl,ha,hb,hx,hz,q1,q2⟩:=h;cases rx;cases ry;obtain⟨its,r1,p1,_⟩:=I.tuple ha;obtain⟨its2,r2,p2,_⟩:=I.tuple hb;refine HT.cat_tup p1 p2 (fun z=>hx (r1.nil_iff.mp z)) (fun z=>⟨.ref a,H,I,rfl,q1 (r2.nil_iff.mp z)⟩) (fun z=>?_) (by rw[<-r1.length,<-r2.length];exact hz);refine⟨.ref s.heap.objs.size,_,I.laid (t':=s.toks) (o:=.tup (xs++ys)) (fun b ob q=>Ag _ q) (Ae _) ?_,rfl,q2 (fun w=>z (r2.nil_iff.mpr w)) _ (I.hok.fresh (Ae _))⟩;exact⟨by rw[AD];exact hz,_,r1.append r2,zfN.new _ _⟩
end
noncomputable def ixN(n:Nat)(i:Int):Option Nat:=if 0<=i then (if i < n then some i.toNat else none) else if -(n:Int)<=i then some (i+n).toNat else none
noncomputable def atI{α:Type}(xs:List α)(i:Int):Option α:=(ixN xs.length i).bind fun j=>xs[j]?
theorem zjN{n:Nat}{i:Int}{j:Nat}(h:ixN n i=some j):seqIndex? i n=some j/\j < n/\-(n:Int)<=i/\i < n:=by
 unfold ixN at h
 by_cases h0:0<=i
 . rw[if_pos h0] at h
   by_cases h1:i < n
   . rw[if_pos h1] at h;have e:i.toNat=j:=Az h;exact⟨by rw[EE h0 h1,e],by omega,by omega,h1⟩
   . rw[if_neg h1] at h;cases h
 . rw[if_neg h0] at h
   by_cases h1:-(n:Int)<=i
   . rw[if_pos h1] at h;have e:(i+n).toNat=j:=Az h;exact⟨by rw[Ej (by omega) h1,e],by omega,h1,by omega⟩
   . rw[if_neg h1] at h;cases h
theorem zis{α:Type}{xs:List α}{i:Int}{v:α}(h:atI xs i=some v):∃ j,seqIndex? i xs.length=some j/\xs[j]?=some v/\j < xs.length/\-(xs.length:Int)<=i/\i < xs.length:=by
 unfold atI at h
 cases e:ixN xs.length i with
 | none=>rw[e] at h;cases h
 | some j =>
   rw[e] at h;obtain⟨h1,h2,h3,h4⟩:=zjN e;exact⟨j,h1,h,h2,h3,h4⟩
def ziv(b:Expr):Prop:=∀ o i,subscripted b false o i=operate [o,i] (getItem o i)
def IxR(X:Cx)(r:R2):Prop :=
 ∀ (value slice:Expr) (pins:List (Addr×Obj)) (s:Shared) (σ:St) (H:Hp) (x y:V) (v u:Value) (Q:VK),Inv X pins σ H s->RelV x v->RelV y u->r x y H Q ->
   subscripted slice false v u=operate [v,u] (getItem v u)->wpAny (model X.prog X.w) X.A (subscriptTail value slice v u) (EP X pins σ Q) X.xe s
def MtR(X:Cx)(id:String)(r:V->List V->Hp->VK->Prop):Prop :=
 ∀ (pins:List (Addr×Obj)) (s:Shared) (σ:St) (H:Hp) (x:V) (xs:List V) (v:Value) (us:List Value) (Q:VK),Inv X pins σ H s->RelV x v->Vals xs us->r x xs H Q ->
   wpAny (model X.prog X.w) X.A (call (.builtin id) (v::us)) (EP X pins σ Q) X.xe s
section
variable {X:Cx} {a b:Expr} {ta tb:TE} {pos:Pos}
theorem zpt{r:R2}(hr:IxR X r)(ha:PE X a ta)(hb:PE X b tb)(hs:ziv b):PE X (.Subscript a b pos) (tOp r ta tb):=by
 intro pins s σ H Q I h;exact EO (binT ha hb I h fun v u s2 x y H2 I2 rx ry q=>hr a b pins s2 σ H2 x y v u Q I2 rx ry q (hs _ _))
noncomputable def rIxL(K:Ac):R2:=fun x y H Q=>∃ p xs i v,x=.ref p/\y=.int i/\SqL K H p xs/\atI xs i=some v/\Q v H
noncomputable def rIxT(K:Ac):R2:=fun x y H Q=>∃ p xs i v,x=.ref p/\y=.int i/\SqT K H p xs/\atI xs i=some v/\Q v H
noncomputable def rIxS:R2:=fun x y H Q=>∃ z i c,x=.str z/\y=.int i/\z.length<=sizeLine/\atI z.cps.toList i=some c/\Q (.str ⟨#[c]⟩) H
theorem zjM:IxR X (rIxL X.K):=by
 intro value slice pins s σ H x y v u Q I rx ry h hs;obtain⟨p,xs,i,z,rfl,rfl,hq,he,q⟩:=h;cases rx;obtain⟨t,rfl⟩:=ry;obtain⟨its,r,pl,hz⟩:=I.list hq;obtain⟨j,h1,h2,h3,h4,h5⟩:=zis he;obtain⟨w,ew,rw'⟩:=r.get h2;have hl:=r.length;have hn:=zf3;have fin:EP X pins σ Q w s:=⟨z,H,I,rw',q⟩
 by_cases h0:0<=i
 . have hj:i.toNat=j:=by
     rw[EE h0 h5] at h1;exact Az h1
   exact item_listR pl.isList h0 (by omega) (by rw[hj];simpa using ew) fin hs
 . have hj:(i+(its.toArray.size:Int)).toNat=j:=by
     rw[Ej (by omega) h4] at h1;rw[Ar,<-hl];exact Az h1
   exact DR (x:=w) pl.isList.typeIs slot_list_getitem.lookup
     (wpAny_getItem_list_neg (Q:=fun r s'=>r=w/\EP X pins σ Q r s') pl.isList (by omega) (by rw[Ar] <;> omega) (by omega) (by rw[hj];simpa using ew) ⟨rfl,fin⟩) hs
theorem zcr:IxR X (rIxT X.K):=by
 intro value slice pins s σ H x y v u Q I rx ry h hs;obtain⟨p,xs,i,z,rfl,rfl,hq,he,q⟩:=h;cases rx;obtain⟨t,rfl⟩:=ry;obtain⟨its,r,pl,hz⟩:=I.tuple hq;obtain⟨j,h1,h2,h3,h4,h5⟩:=zis he;obtain⟨w,ew,rw'⟩:=r.get h2;have hl:=r.length;have hn:=zf3;have fin:EP X pins σ Q w s:=⟨z,H,I,rw',q⟩
 exact DR (x:=w) pl.typeIs slot_tuple_getitem.lookup
   (getItem_tuple (j:=j) (Q:=fun r s'=>r=w/\EP X pins σ Q r s') pl (by omega) (by omega) (by rw[Ar,<-hl];exact h1) (by simpa using ew) ⟨rfl,fin⟩) hs
theorem zf4:IxR X rIxS:=by
 intro value slice pins s σ H x y v u Q I rx ry h hs;obtain⟨z,i,c,rfl,rfl,hz,he,q⟩:=h;obtain⟨t,rfl⟩:=rx;obtain⟨t',rfl⟩:=ry;obtain⟨j,h1,h2,h3,h4,h5⟩:=zis he;have hl:z.cps.toList.length=z.length:=by simp[Str.length]
 rw[hl] at h1 h4 h5;have hn:=zf3;exact tail_any (ER s z t) slot_str_getitem.lookup (getItem_str (c:=c) (by
   have e1:decide (i < -(2 ^ 63:Int))=false:=decide_eq_false (by omega);have e2:decide (i ≥ 2 ^ 63)=false:=decide_eq_false (by omega);rw[e1,e2,Fi]) (by rw[h1];simpa using h2) ⟨.str ⟨#[c]⟩,H,I.tok _,⟨_,rfl⟩,q⟩) hs
theorem zhW(its:List Value)(n j:Nat)(u:Value):BZ (·.setIfInBounds j u) { cls:=.type "list",data:=.seq its.toArray n }={ cls:=.type "list",data:=.seq (its.set j u).toArray n }:=by
 simp[BZ]
theorem Inv.lst{pins:List (Addr×Obj)}{σ:St}{H:Hp}{s:Shared}{p:Addr}{xs:List V}(I:Inv X pins σ H s)(h:H p=some (.lst xs)) :
   ∃ (its:List Value) (n:Nat),Vals xs its/\s.heap.get? p=some { cls:=.type "list",data:=.seq its.toArray n }/\xs.length<=sizeLine:=by
 obtain⟨z,its,n,r,e⟩:=I.hok p _ h;exact⟨its,n,r,e,z⟩
theorem Inv.lstUpd{pins:List (Addr×Obj)}{σ:St}{H:Hp}{s:Shared}{p:Addr}{xs ys:List V}{its its':List Value}{n n':Nat}{f:Obj->Obj}(I:Inv X pins σ H s)(h:H p=some (.lst xs))
   (ho:s.heap.get? p=some { cls:=.type "list",data:=.seq its.toArray n }) (hf:f { cls:=.type "list",data:=.seq its.toArray n }={ cls:=.type "list",data:=.seq its'.toArray n' }) (r:Vals ys its') (hz:ys.length<=sizeLine) (t:Nat) :
   Inv X pins σ (upd H p (.lst ys)) { s with heap:=s.heap.update p f,toks:=t }:=by
 have e:(s.heap.update p f).get? p=some { cls:=.type "list",data:=.seq its'.toArray n' }:=by
   rw[A8 f ho (by rw[hf] <;> rfl),hf]
 refine I.write (x:=p) (e:=p) (by rw[h];trivial) (.inl rfl) (fun b u hb q=>(B5 _ _ (A9 hb)).trans q) ⟨_,e⟩ ?_;exact⟨hz,its',n',r,e⟩
noncomputable def zpn:V->V->V->Hp->(Hp->Prop)->Prop:=fun o i v H Q=>∃ p xs k j,o=.ref p/\i=.int k/\H p=some (.lst xs)/\ixN xs.length k=some j/\Q (upd H p (.lst (xs.set j v)))
theorem set_list:PSet X zpn:=by
 intro pins s σ H o i v ov iv u Q I ro ri rv h;obtain⟨p,xs,k,j,rfl,rfl,hp,hj,q⟩:=h;cases ro;obtain⟨t,rfl⟩:=ri;obtain⟨its,n,r,ho,hz⟩:=I.lst hp;obtain⟨h1,h2,h3,h4⟩:=zjN hj;have hl:=r.length;have hn:=zf3;have I':Inv X pins σ (upd H p (.lst (xs.set j v))) { s with heap:=s.heap.update p (BZ (·.setIfInBounds j u)) } :=
   I.lstUpd hp ho (zhW its n j u) (r.set rv j) (by rw[B0];exact hz) s.toks
 by_cases h0:0<=k
 . have hk:k.toNat=j:=by
     rw[EE h0 h4] at h1;exact Az h1
   exact PySem.W.ki_setAt ho h0 (by omega) (by rw[Ar,<-hl];exact h4) (by rw[hk];exact⟨_,I',q⟩)
 . have hk:(k+(its.toArray.size:Int)).toNat=j:=by
     rw[Ej (by omega) h3] at h1;rw[Ar,<-hl];exact Az h1
   exact PySem.W.ki_setBack ho (by omega) (by rw[Ar,<-hl];exact h3) (by omega) (by rw[hk];exact⟨_,I',q⟩)
theorem zfU(lo hi:Option Int)(n:Nat):(sliceBounds lo hi none n).1=((HT.sIx n 0 lo:Nat):Int)/\(sliceBounds lo hi none n).2.1=((HT.sIx n n hi:Nat):Int)/\(sliceBounds lo hi none n).2.2=1:=by
 refine⟨?_,?_,rfl⟩
 . cases lo with
   | none=>simp[sliceBounds,HT.sIx]
   | some i =>
     simp only[sliceBounds,HT.sIx,EH,show (1:Int) > 0 by decide,if_true]
     by_cases h:i < 0
     . simp only[h,if_true] <;> omega
     . simp only[h,if_false] <;> omega
 . cases hi with
   | none=>simp[sliceBounds,HT.sIx]
   | some i =>
     simp only[sliceBounds,HT.sIx,EH,show (1:Int) > 0 by decide,if_true]
     by_cases h:i < 0
     . simp only[h,if_true] <;> omega
     . simp only[h,if_false] <;> omega
theorem zfg(its:List Value)(lo hi:Option Int):slicePick its.toArray lo hi none=((its.drop (HT.sIx its.length 0 lo)).take (HT.sIx its.length its.length hi - HT.sIx its.length 0 lo)).toArray:=by
 obtain⟨h1,h2,h3⟩:=zfU lo hi its.toArray.size;unfold slicePick;rw[h1,h2,h3];simp only[sliceRange_one,pick_run,Ar] <;> rfl
noncomputable def rSlL(K:Ac):V->Option Int->Option Int->Hp->VK->Prop:=fun x lo hi H Q=>∃ a xs,x=.ref a/\SqL K H a xs/\∀ p,H p=none->Q (.ref p) (upd H p (.lst (cutV xs lo hi)))
theorem zjt:SlR X (rSlL X.K):=by
 intro pins s σ H x v vl vu lo hi sl Q I rx hs pl pu h;obtain⟨a,xs,rfl,hx,q⟩:=h;cases rx;obtain⟨its,r,ht,hz⟩:=I.list hx;have hlen:=r.length;refine⟨"list",_,slot_list_getitem.lookup,ht.isList.typeIs,?_⟩;refine wpAny_getItem_list_slice ht.isList hs pl pu .none (by simp) ?_ (by rw[Ar] <;> omega);rw[zfg,<-hlen];refine⟨.ref s.heap.objs.size,_,I.laid (t':=s.toks) (o:=.lst (cutV xs lo hi)) (fun b ob q=>Ag _ q) (Ae _) ?_,rfl,q _ (I.hok.fresh (Ae _))⟩;exact⟨AI (zer xs lo hi) hz,_,0,(r.drop (HT.sIx xs.length 0 lo)).take (HT.sIx xs.length xs.length hi - HT.sIx xs.length 0 lo),Av _ rfl⟩
theorem zcO:zg7 X (.builtin "len") (fun xs H Q=>∃ p ys,xs=[.ref p]/\(SqL X.K H p ys\/SqT X.K H p ys)/\Q (.int ys.length) H):=by
 intro pins s σ H xs us Q I r h;obtain⟨p,ys,rfl,hq,q⟩:=h;obtain⟨u,rfl,rx⟩:=vals1 r;cases rx;have hn:=zf3
 rcases hq with hq | hq
 . obtain⟨its,r',pl,hz⟩:=I.list hq;have hlen:=r'.length;exact Calls.call_len_list pl.isList (by simp only[Ar] <;> omega) ⟨.int ys.length,H,I.tok _,⟨s.toks+1,by rw[Ar,hlen]⟩,q⟩
 . obtain⟨its,r',pl,hz⟩:=I.tuple hq;have hlen:=r'.length;exact len_tuple pl (by simp only[Ar] <;> omega) ⟨.int ys.length,H,I.tok _,⟨s.toks+1,by rw[Ar,hlen]⟩,q⟩
theorem zf8:zg7 X (.builtin "len") (fun xs H Q=>∃ z,xs=[.str z]/\z.length<=sizeLine/\Q (.int z.length) H):=by
 intro pins s σ H xs us Q I r h;obtain⟨z,rfl,hz,q⟩:=h;obtain⟨u,rfl,t,rfl⟩:=vals1 r;have hn:=zf3;exact len_str (by omega) ⟨.int z.length,H,I.tok _,⟨_,rfl⟩,q⟩
theorem zcN:zg7 X (.type "list") (fun xs H Q=>∃ p ys,xs=[.ref p]/\(SqL X.K H p ys\/SqT X.K H p ys)/\∀ l,H l=none->Q (.ref l) (upd H l (.lst ys))):=by
 intro pins s σ H xs us Q I r h;obtain⟨p,ys,rfl,hq,q⟩:=h;obtain⟨u,rfl,rx⟩:=vals1 r;cases rx;have fin:∀ (its:List Value),Vals ys its->ys.length<=sizeLine->∀ (h':Heap) (c':Nat),(∀ b o',s.heap.get? b=some o'->h'.get? b=some o') ->
     h'.get? s.heap.objs.size=some { cls:=.type "list",dict:=none,data:=.seq its.toArray c',slots:=#[] }->EP X pins σ Q (.ref s.heap.objs.size) { s with heap:=h' }:=fun its r' hz h' c' kp e =>
   ⟨.ref s.heap.objs.size,_,I.laid (t':=s.toks) kp (Ae _) (show zdv X.prog X.w _ h' _ (.lst ys) from ⟨hz,its,c',r',e⟩),rfl,q _ (I.hok.fresh (Ae _))⟩
 rcases hq with hq | hq
 . obtain⟨its,r',pl,hz⟩:=I.list hq;have hlen:=r'.length;obtain⟨o,ho,hc,n,hd⟩:=pl.isList;exact call_list_seq p (.inl rfl) ho hc hd (fun h' c' kp e=>fin its r' hz h' c' kp e) (by simp only[Ar] <;> omega)
 . obtain⟨its,r',pl,hz⟩:=I.tuple hq;have hlen:=r'.length;obtain⟨o,ho,hc,n,hd⟩:=pl;exact call_list_seq p (.inr rfl) ho hc hd (fun h' c' kp e=>fin its r' hz h' c' kp e) (by simp only[Ar] <;> omega)
theorem zdr:zg7 X (.type "tuple") (fun xs H Q=>∃ p ys,xs=[.ref p]/\((SqL X.K H p ys/\∀ l,H l=none->Q (.ref l) (upd H l (.tup ys)))\/(SqT X.K H p ys/\Q (.ref p) H))):=by
 intro pins s σ H xs us Q I r h;obtain⟨p,ys,rfl,h⟩:=h;obtain⟨u,rfl,rx⟩:=vals1 r;cases rx
 rcases h with ⟨hq,q⟩ | ⟨hq,q⟩
 . obtain⟨its,r',pl,hz⟩:=I.list hq;have hlen:=r'.length;refine call_tuple_list pl.isList (fun h' kp=>?_) (by simp only[Ar] <;> omega);have I1:Inv X pins σ H { s with heap:=h' }:=I.kept (t':=s.toks) kp;have I2:Inv X pins σ (upd H h'.objs.size (.tup ys)) { s with heap:=h'.push { cls:=.type "tuple",data:=.seq its.toArray } } :=
     I1.laid (t':=s.toks) (fun b o e=>Ag _ e) (Ae _) (show zdv X.prog X.w _ _ _ (.tup ys) from ⟨hz,its,r',zfN.new _ _⟩)
   exact⟨.ref h'.objs.size,_,I2,rfl,q _ (I1.hok.fresh (Ae _))⟩
 . obtain⟨its,r',pl,hz⟩:=I.tuple hq;exact call_tuple_same pl ⟨.ref p,H,I,rfl,q⟩
def tyV(K:Ac)(T:String)(x:V)(H:Hp):Prop:=match x with
 | .str _=>T="str"
 | .int _=>T="int"
 | .ref p=>(T="list"/\∃ xs,SqL K H p xs)\/(T="tuple"/\∃ o,K.lookup p=some o/\o.cls=.type "tuple"/\o.dict=none) \/
     (T="dict"/\((∃ kvs,H p=some (.dK kvs))\/∃ kvs,H p=some (.dT kvs)))\/(T="set"/\∃ S n,H p=some (.set S n))
 | _=>False
theorem znm{pins:List (Addr×Obj)}{σ:St}{H:Hp}{s:Shared}{T:String}{x:V}{v:Value}(I:Inv X pins σ H s)(r:RelV x v)(ty:tyV X.K T x H) :
   s.TypeIs v T/\∀ a,v=.ref a->∃ ob,s.heap.get? a=some ob/\ob.dict=none:=by
 cases x with
 | str z =>
   obtain⟨t,rfl⟩:=r
   cases (show T="str" from ty)
   exact⟨ER s z t,fun _ e=>nomatch e⟩
 | int i =>
   obtain⟨t,rfl⟩:=r
   cases (show T="int" from ty)
   exact⟨typeIs_int s i t,fun _ e=>nomatch e⟩
 | ref p =>
   cases r
   rcases ty with ⟨rfl,xs,hq⟩ | ⟨rfl,o,hk,hc,hd⟩ | ⟨rfl,hk⟩ | ⟨rfl,S,n,hk⟩
   . obtain⟨its,_,pl,_⟩:=I.list hq;refine⟨pl.isList.typeIs,fun a e=>?_⟩;cases e;obtain⟨o,n,e,c,hd,_⟩:=pl;exact⟨o,e,hd⟩
   . refine⟨⟨o,I.kIn p o hk,hc⟩,fun a e=>?_⟩;cases e;exact⟨o,I.kIn _ o hk,hd⟩
   . have z:∃ o,s.heap.get? p=some o/\o.ExactDict:=by
       rcases hk with ⟨kvs,hk⟩ | ⟨kvs,hk⟩
       . obtain⟨_,_,_,_,o,_,_,e,ex,_⟩:=I.hok p _ hk;exact⟨o,e,ex⟩
       . obtain⟨_,_,_,_,o,_,_,e,ex,_⟩:=I.hok p _ hk;exact⟨o,e,ex⟩
     obtain⟨o,e,ex⟩:=z;refine⟨⟨o,e,ex.1⟩,fun a e2=>?_⟩;cases e2;exact⟨o,e,ex.2.1⟩
   . obtain⟨o,_,_,_,e,ex,_⟩:=I.hok p _ hk;refine⟨⟨o,e,ex.1⟩,fun a e2=>?_⟩;cases e2;exact⟨o,e,ex.2.1⟩
 | _=>exact False.elim ty
noncomputable def tBM(K:Ac)(T:String)(r:V->List V->Hp->VK->Prop)(to:TE)(t:TA):TE:=fun σ H Q=>to σ H fun x H1=>tyV K T x H1/\t σ H1 fun xs H2=>r x xs H2 Q
variable {o e:Expr} {es:List Expr} {to:TE} {t:TA} {name:Str} {apos cpos:Pos} {T id:String} {r:V->List V->Hp->VK->Prop}
theorem zm7(pa:PlainAttrs T)(slot:Slot T name id)(hty:typeOf (.builtin id)=pure (.type "method_descriptor"))(hm:MtR X id r)(ho:PE X o to)(ha:PA X (e::es) t)
   (hbase:attributeBase o name X.env (eval o X.env)=eval o X.env:=by rfl)
   (hfew:((backTo cpos (starEach (e::es) X.env)).all (fun x=>!x.1)&&(backToKw cpos (keywordEach [] X.env)).all (fun x=>x.1.isSome)
    &&decide ((e::es).length+([]:List Keyword).length+(if ([]:List Keyword).isEmpty then 0 else 1) < 30))=true:=by rfl)
   (hline:(apos.endLine==cpos.line)=true:=by rfl) (hs:starEach (e::es) X.env=(false,eval e X.env)::starEach es X.env:=by rfl) (hplain:(backTo cpos (starEach es X.env)).any (·.1)=false:=by rfl) :
   PE X (.Call (.Attribute o name apos) (e::es) [] cpos) (tBM X.K T r to t):=by
 intro pins s σ H Q I h;refine wpAny_Call_method_late hbase hfew hline rfl (thn (ho pins s σ H _ I h) ?_);rintro v s1 ⟨x,H1,I1,r1,ty,q1⟩;obtain⟨h1,h2⟩:=znm I1 r1 ty;refine⟨T,id,pa,slot,hty,h1,h2,?_⟩;have hA:=ha cpos pins s1 σ H1 _ I1 q1;rw[hs] at hA ⊢;refine DS (by show (false || (backTo cpos (starEach es X.env)).any (·.1))=false;rw[hplain] <;> rfl) (Calls.evalArgs_plain ?_);exact thn hA fun us s2 ⟨vs,H2,I2,r2,q2⟩=>hm pins s2 σ H2 x vs v us Q I2 r1 r2 q2
end
def MtM(X:Cx)(id:String)(r:V->List V->Hp->VK->Prop):Prop :=
 ∀ (pins:List (Addr×Obj)) (s:Shared) (σ:St) (H:Hp) (x:V) (xs:List V) (v:Value) (us:List Value) (Q:VK),Inv X pins σ H s->RelV x v->Vals xs us->r x xs H Q ->
   wpAny (model X.prog X.w) X.A (call (.builtin id) (v::us)) (EP X pins σ Q) X.xe s
theorem Vals.one:∀ {x:V} {us:List Value},Vals [x] us->∃ u,us=[u]/\RelV x u
 | _,_,.cons r .nil=>⟨_,rfl,r⟩
theorem Vals.two{x y:V}{us:List Value}(h:Vals [x,y] us):∃ u v,us=[u,v]/\RelV x u/\RelV y v:=by
 cases h with
 | cons r t =>
   cases t with
   | cons q t =>
     cases t;exact⟨_,_,rfl,r,q⟩
theorem Vals.eraseIdx:∀ {xs:List V} {us:List Value} (i:Nat),Vals xs us->Vals (xs.eraseIdx i) (us.eraseIdx i)
 | _,_,_,.nil=>.nil
 | _,_,0,.cons _ t=>t
 | _,_,i+1,.cons r t=>.cons r (Vals.eraseIdx i t)
theorem zgx{α:Type}:∀ (l:List α) (i:Nat),(l.eraseIdx i).length<=l.length
 | [],_=>Ae _
 | _::_,0=>Ck _
 | _::r,i+1=>Ce (zgx r i)
section
variable {X:Cx} {pins:List (Addr×Obj)} {σ:St} {H:Hp} {s:Shared} {l b:Addr} {xs ys zs:List V}
theorem Inv.lset{its its':List Value}{n:Nat}{f:Array Value->Array Value}{t':Nat}(I:Inv X pins σ H s)(hH:H l=some (.lst xs))
   (e:s.heap.get? l=some { cls:=.type "list",data:=.seq its.toArray n }) (hf:f its.toArray=its'.toArray) (hv:Vals ys its') (hz:ys.length<=sizeLine) :
   Inv X pins σ (upd H l (.lst ys)) { s with heap:=s.heap.update l (BZ f),toks:=t' }:=by
 have q:=PySem.IsL.update e f;rw[hf] at q;refine I.write (x:=l) (e:=l) (by rw[hH];exact trivial) (.inl rfl) (fun b' u hb hu=>(B5 s.heap (BZ f) (A9 hb)).trans hu) ⟨_,q⟩ ?_;exact⟨hz,its',_,hv,q⟩
theorem Inv.lnew{its:List Value}{t':Nat}(I:Inv X pins σ H s)(hv:Vals ys its)(hz:ys.length<=sizeLine) :
   Inv X pins σ (upd H s.heap.objs.size (.lst ys)) { s with heap:=s.heap.push { cls:=.type "list",data:=.seq its.toArray },toks:=t' } :=
 I.laid (fun _ _ q=>Ag _ q) (Ae _) ⟨hz,its,0,hv,Av _ rfl⟩
theorem Inv.fresh(I:Inv X pins σ H s):H s.heap.objs.size=none:=I.hok.fresh (Ae _)
theorem Inv.lstM(I:Inv X pins σ H s)(hH:H l=some (.lst xs)):xs.length<=sizeLine/\∃ (its:List Value) (n:Nat),Vals xs its/\xs.length=its.length/\s.heap.get? l=some { cls:=.type "list",data:=.seq its.toArray n }:=by
 obtain⟨z,its,n,r,e⟩:=I.hok l _ hH;exact⟨z,its,n,r,r.length,e⟩
end
section
variable {X:Cx}
noncomputable def zlZ:V->List V->Hp->VK->Prop:=fun x vs H Q=>∃ l xs y,x=.ref l/\vs=[y]/\H l=some (.lst xs)/\xs.length < sizeLine/\Q .non (upd H l (.lst (xs++[y])))
theorem zgu:MtM X "list.append" zlZ:=by
 intro pins s σ H x vs v us Q I rx rv h;obtain⟨l,xs,y,rfl,rfl,hH,hz,q⟩:=h;cases rx;obtain⟨u,rfl,ru⟩:=rv.one;obtain⟨z,its,n,r,hl,e⟩:=I.lstM hH;refine call_meets F.slot_list_append ⟨_,e,rfl⟩ F.entry_list_append (F.args_list_append_2 _ _) (PySem.list_append l its.toArray n u (by rw[Ar];omega)) ⟨e,?_⟩;refine⟨.non,_,I.lset (its':=its++[u]) hH e (by simp) (r.append (.cons ru .nil)) ?_,rfl,q⟩;rw[AD,Ca];omega
noncomputable def znO:V->List V->Hp->VK->Prop:=fun x vs H Q=>∃ l xs i k y,x=.ref l/\vs=[.int i]/\H l=some (.lst xs)/\-(2 ^ 63)<=i/\i < 2 ^ 63/\seqIndex? i xs.length=some k/\xs[k]?=some y/\Q y (upd H l (.lst (xs.eraseIdx k)))
theorem zkH:MtM X "list.pop" znO:=by
 intro pins s σ H x vs v us Q I rx rv h;obtain⟨l,xs,i,k,y,rfl,rfl,hH,h1,h2,hk,hy,q⟩:=h;cases rx;obtain⟨u,rfl,ru⟩:=rv.one;obtain⟨t,rfl⟩:=ru;obtain⟨z,its,n,r,hl,e⟩:=I.lstM hH;obtain⟨w,hw,rw'⟩:=r.get hy;refine call_meets F.slot_list_pop ⟨_,e,rfl⟩ F.entry_list_pop (F.args_list_pop_2 _ _)
   (MeetsSeq.list_pop_at l its.toArray n i t k w (fitsIndex_both h1 h2) (by rw[Ar,<-hl];exact hk) (by rw[<-AL];exact hw) (by rw[Ar];omega)) ⟨e,?_⟩
 refine⟨y,_,I.lset (its':=its.eraseIdx k) hH e ?_ (r.eraseIdx k) ?_,rw',q⟩
 . show its.toArray.eraseIdxIfInBounds k=(its.eraseIdx k).toArray;rw[List.eraseIdxIfInBounds_toArray]
 . have:=zgx xs k;omega
noncomputable def rCat:R2:=fun x y H Q=>∃ l b xs zs,x=.ref l/\y=.ref b/\H l=some (.lst xs)/\H b=some (.lst zs)/\xs.length+zs.length<=sizeLine/\∀ p,H p=none->Q (.ref p) (upd H p (.lst (xs++zs)))
theorem zod:OpR X (binaryOp .Add) rCat:=by
 intro pins s σ H x y v u Q I rx ry h;obtain⟨l,b,xs,zs,rfl,rfl,hH,hB,hz,q⟩:=h;cases rx;cases ry;obtain⟨z,its,n,r,hl,e⟩:=I.lstM hH;obtain⟨z2,its2,n2,r2,hl2,e2⟩:=I.lstM hB;refine PySem.P.add_list e e2 ?_ (by rw[Ar,Ar];omega);have ea:its.toArray++its2.toArray=(its++its2).toArray:=by simp
 rw[ea];exact⟨.ref _,_,I.lnew (t':=s.toks) (r.append r2) (by rw[AD];omega),rfl,q _ I.fresh⟩
end
section
variable {prog:Program} {w:World} {A:Around} {E:Value->Shared->Prop} {s:Shared}
set_option maxRecDepth 100000 in
end
end L2
namespace Att
open PySem PySem.W PySem.Calls PyProof.Rows
theorem zeg{P:Params}{h:Heap}:∀ (ns:List Int) (vs:List Value),WellAll P h vs (ns.map WData.int)->IntsAre vs ns:=by
 intro ns
 induction ns with
 | nil =>
   intro vs w;rw[BQ] at w;cases w;exact .nil
 | cons n ns ih =>
   intro vs w;rw[Aq] at w
   cases w with
   | cons a b =>
     cases a;exact .cons _ _ (ih _ b)
theorem ziL{l:OpenLaw}{n:Nat}(hn:l.most=some n){P:Params}{h:Heap}{args:List WData}{vals:List Value}
   (hpre:l.row.toRowW.claim.pre args=true) (hwl:WellAll P h vals args) :
   ∃ a vs ns,vals=[A0 a]/\args=[WData.list (ns.map WData.int)]/\h.get? a=some { cls:=.type "list",data:=.seq vs.toArray }/\IntsAre vs ns/\ns.length<=n:=by
 have hsh:WShape.hasAll [] args [.list .int]=true:=(pre_splitW hpre).1;have hc:l.pre.holds [] { args:=args }=true:=(pre_splitW hpre).2;obtain⟨d,r,rfl,h1,h2⟩:=hasAllW_cons hsh;obtain rfl:=hasAllW_nil h2;obtain⟨xs,rfl,h3⟩:=hasW_list h1;obtain⟨ns,rfl⟩:=items_int h3;have hlen:ns.length<=n:=by
   unfold OpenLaw.pre at hc;have h4:(WTm.not (.lt (.lit (.int (n:Int))) (.len (.arg 0)))).holds [] { args:=[.list (ns.map .int)] }=true:=by
     have h4:=(holds_andW hc).1;rw[hn] at h4;exact h4
   have h5:=condW_of h4 (w_not (w_lt w_lit (w_len_list (w_arg rfl))));rw[Af] at h5;refine Nat.le_of_not_lt fun q=>?_;have q':(n:Int) < ((ns.length:Nat):Int):=by omega
   first
     | (rw[decide_eq_true q'] at h5;exact absurd h5 (by decide))
     | (simp at h5;omega)
 cases hwl with
 | cons w1 w2 =>
   cases w2
   cases w1 with
   | list ho hall=>exact⟨_,_,ns,rfl,rfl,ho,zeg ns _ hall,hlen⟩
theorem ziP(l:OpenLaw)(args:List WData):l.row.toRowW.claim.post args (.bool true) args=true :=
 postW_of (r:=l.row.toRowW) (X:=(true==true))
   (show WShape.has [] (.bool true) .bool=true by first | rfl | decide | simp[WShape.has,WShape.arms,WShape.armsAll])
   (show (WTm.eq .res (.lit (.bool true))).value [] { args:=args,res:=some (.bool true),after:=args }=some (.bool (true==true)) from w_eq_bool (w_res rfl) w_lit) rfl
theorem attach_call{l:OpenLaw}{n:Nat}{q:Program}{loose:List Str}{XP:(Str->Option Value)->Heap->Prop}{YP:World->Heap->Prop}{d:DefRec}
   (hn:l.most=some n) (hdf:d.params.defaults=[])
   (call:∀ (w:World) (s₀ s₁:Shared) (mg mb:Str->Option Value) (fa:Addr) (o:Obj) (pm cd doc:Value) (a:Addr) (vs:List Value) (ns:List Int),
     Ground q loose [] XP w s₀ mg mb s₁.heap->YP w s₁.heap ->
     s₁.heap.get? fa=some o->o.data=.func (docDef d.name d.params d.body d.scope pm cd doc)->s₁.heap.CodeRec cd d.name->mg d.name=some (.ref fa) ->
     s₁.heap.get? a=some { cls:=.type "list",data:=.seq vs.toArray }->IntsAre vs ns->ns.length<=n->s₁.gens=#[] ->
     codeAny (model l.prog w) callerA (.call (.ref fa) ⟨[.ref a],[]⟩) (fun r s'=>r=.ok (.ret (.bool true))/\OldK s₁.heap s'.heap/\s'.os=s₁.os/\AllBare s'.gens) s₁) :
   WalkO q loose XP YP l.row.toRowW d [] (fun f vs=>ES f vs):=by
 intro w s₀ s₁ mg mb G Y fa o pm cd doc dV kV ho hd hcd hD hmg hg args vals as hpre hlay hrd hwl hlo;obtain rfl:dV=.none:=Dflts.none hD hdf;obtain rfl:kV=.none:=Dflts.noKw hD;obtain⟨a,vs,ns,rfl,rfl,hobj,hints,hlen⟩:=ziL hn hpre hwl;refine enter_call (CM (call w s₀ s₁ mg mb fa o pm cd doc a vs ns G Y ho (fd_plain hd) hcd hmg hobj hints hlen hg) fun r s' hq=>?_);obtain⟨rfl,h2,h3,h4⟩:=hq;exact⟨.inl ⟨.bool true,.bool true,[],rfl,fun _=>rfl,.bool true,ziP l _,fun _=>⟨Dp,fun _ hm=>(nomatch hm)⟩⟩,h2,h3,h4⟩
end Att
namespace L2
open PySem PySem.Spec PyProof.Rows
theorem zgb:∀ {vs:List Value} {ns:List Int},IntsAre vs ns->Vals (ns.map V.int) vs
 | _,_,.nil=>.nil
 | _,_,.cons n t h=>.cons ⟨t,rfl⟩ (zgb h)
def Only(H:Hp):Prop:=∀ b,H b=none\/∃ o xs,H b=some (.frz o (.lst xs))
theorem zkP{P:Program}{w:World}{K:Ac}{mg mb:Str->Option Value}{CX:CXT}{k:Nat}{fa a:Addr}{fd:FuncData}{x:Str}{sp:Sp}{s₁:Shared}{vs:List Value}{ns:List Int}
   (KX:K.In s₁.heap) (hns:s₁.heap.Ns mainGlobals mg) (hb:s₁.heap.Ns builtinsNs mb) (hbb:∀ x:Str,x≠"__name__"->mb x=bootBuiltins x) (hlim:s₁.heap.NoLimit) (hg:s₁.gens=#[])
   (ha:s₁.heap.get? a=some { cls:=.type "list",data:=.seq vs.toArray }) (hi:IntsAre vs ns) (hl:ns.length<=sizeLine) (hr:Room k callerA)
   (F:∀ base:Heap,K.In base->base.Ns mainGlobals mg->FnOk P w K mg base CX k fa fd [x] sp) (hbind:∀ (s:Shared) (u:Value),BindsTo s fd ⟨[u],[]⟩ [(x,u)])
   (hsp:∀ H:Hp,Only H->SqL K H a (ns.map V.int)->sp [.ref a] H (fun v _=>v=.bl true) fun _ _ _=>False)
   (hCX:∀ H e s',CX [] H s₁ (fun _ _ _=>False) e s'->False) :
   codeAny (model P w) callerA (.call (.ref fa) ⟨[.ref a],[]⟩) (fun r s'=>r=.ok (.ret (.bool true))/\OldK s₁.heap s'.heap/\s'.os=s₁.os/\AllBare s'.gens) s₁:=by
 have rv:=zgb hi;have lenV:=hi.length
 -- from an abstract heap in which nothing but the script may be tracked
 have core:∀ H:Hp,Only H->SqL K H a (ns.map V.int)->HOk P w H s₁.heap->(∀ b,H b≠none->b=a)->(H a≠none->K.lookup a=none) ->
     codeAny (model P w) callerA (.call (.ref fa) ⟨[.ref a],[]⟩) (fun r s'=>r=.ok (.ret (.bool true))/\OldK s₁.heap s'.heap/\s'.os=s₁.os/\AllBare s'.gens) s₁:=by
   intro H hO hS hok hA hK;have base_of:∀ {b:Addr} {o:Obj},s₁.heap.get? b=some o->H b=none->(hidT s₁.heap H).get? b=some o:=fun e n=>zkZ e n;have noA:∀ {b:Addr} {o:Obj} {es:Array DictEntry} {ep:Nat},s₁.heap.get? b=some o->o.data=.dict es ep->H b=none:=fun {b o es ep} e d=>by
     cases q:H b with
     | none=>rfl
     | some u =>
       have e':b=a:=hA b (by rw[q];simp);subst e';rw[ha] at e;cases e;have d':Data.seq vs.toArray _=Data.dict es ep:=d;cases d'
   have nsK:∀ {b:Addr} {m:Str->Option Value},s₁.heap.Ns b m->(hidT s₁.heap H).Ns b m:=fun {b m} ⟨o,es,ep,e,d,r⟩=>⟨o,es,ep,base_of e (noA e d),d,r⟩
   have hKb:K.In (hidT s₁.heap H):=fun b o e=>base_of (KX b o e) (by
     cases q:H b with
     | none=>rfl
     | some u =>
       have e':b=a:=hA b (by rw[q];simp);subst e';rw[hK (by rw[q];simp)] at e;cases e)
   have hM:Mod K mg (hidT s₁.heap H):=⟨hKb,nsK hns,⟨mb,nsK hb,hbb⟩,let ⟨mc,h1,h2⟩:=hlim;⟨mc,nsK h1,h2⟩⟩
   have e0:Env0 P w K mg (hidT s₁.heap H) callerA [] s₁ H:=⟨rfl,hM,fun b o e=>zmr e,Nat.le_of_eq (zjc _ _),trivial,fun b hb=>absurd (show b∈([]:List Addr) from hb) (by simp),hok,.of_eq hg⟩
   refine CM ((F _ hKb (nsK hns)).run callerA [] s₁ H ⟨[.ref a],[]⟩ [.ref a] [.ref a] _ _ hr e0 (hbind s₁ (.ref a)) (.cons rfl .nil) (hsp H hO hS)) fun r s' h=>?_
   cases r with
   | error e=>exact (hCX H e s' h).elim
   | ok fl =>
     cases fl with
     | next=>exact False.elim h
     | brk=>exact False.elim h
     | cont=>exact False.elim h
     | ret u =>
       obtain⟨v,H',os,bare,un,hok',r',q⟩:=h;have q':v=.bl true:=q;subst q';obtain rfl:u=CJ true:=r';refine⟨rfl,OldK.of_keep fun b o e=>?_,os,bare⟩
       cases q:H b with
       | none=>exact un.keep b o e q (by intro z;exact absurd (show b∈([]:List Addr) from z) (by simp)) (by simp)
       | some u =>
         rcases hO b with z | ⟨ob,xs,z⟩
         . rw[q] at z;cases z
         . have z2:=un.frzs b ob _ z;obtain⟨e1,_⟩:=hok b _ z;obtain⟨e2,_⟩:=hok' b _ z2;rw[e] at e1;cases e1;exact e2
 cases hk:K.lookup a with
 | some o =>
   -- the script is one of the module's own objects
   have e:=KX a o hk;rw[ha] at e;cases e;refine core (fun _=>none) (fun _=>.inl rfl) (.inr ⟨_,vs.toArray,_,hk,rfl,rfl,rfl,by rw[Ar,lenV];exact hl,by simpa using rv⟩) (fun b u z=>by have z':(none:Option HO)=some u:=z;cases z') (fun b z=>absurd rfl z) fun z=>absurd rfl z
 | none =>
   refine core (fun b=>if b=a then some (.frz { cls:=.type "list",data:=.seq vs.toArray } (.lst (ns.map V.int))) else none) (fun b=>?_) (.inl (.inr ⟨{ cls:=.type "list",data:=.seq vs.toArray },if_pos rfl⟩)) (fun b u z=>?_) (fun b z=>?_) fun _=>hk
   . by_cases hb:b=a
     . exact .inr ⟨_,_,if_pos hb⟩
     . exact .inl (if_neg hb)
   . by_cases hb:b=a
     . have z':=(if_pos hb).symm.trans z;cases z';subst hb;exact⟨ha,by rw[Af];exact hl,vs,_,rv,ha⟩
     . have z':=(if_neg hb).symm.trans z;cases z'
   . by_cases hb:b=a
     . exact hb
     . exact absurd (if_neg hb) z
theorem walk_of{l:DK}{n k:Nat}{q:Program}{loose:List Str}{XP:(Str->Option Value)->Heap->Prop}{YP:World->Heap->Prop}{d:DefRec}{K:Params->Ac}{CX:World->CXT}{sp:World->Sp}{x:Str}
   (hn:l.most=some n) (hn2:n<=sizeLine) (hdf:d.params.defaults=[]) (hr:Room k callerA)
   (hY:∀ (w:World) (h:Heap),YP w h->(K w.params).In h)
   (F:∀ (w:World) (mg:Str->Option Value) (fa:Addr) (h:Heap),(K w.params).In h->h.Ns mainGlobals mg->mg d.name=some (.ref fa) ->
     ∃ fd:FuncData,(∀ (s:Shared) (u:Value),BindsTo s fd ⟨[u],[]⟩ [(x,u)]) /\
       ∀ base:Heap,(K w.params).In base->base.Ns mainGlobals mg->FnOk l.prog w (K w.params) mg base (CX w) k fa fd [x] (sp w))
   (hsp:∀ (w:World) (H:Hp) (a:Addr) (ns:List Int),ns.length<=n->Only H->SqL (K w.params) H a (ns.map V.int)->sp w [.ref a] H (fun v _=>v=.bl true) fun _ _ _=>False)
   (hCX:∀ (w:World) (H:Hp) (s:Shared) (e:Value) (s':Shared),CX w [] H s (fun _ _ _=>False) e s'->False) :
   Fj q loose XP YP l.row.toRowW d [] (fun f vs=>ES f vs):=by
 refine Att.attach_call hn hdf fun w s₀ s₁ mg mb fa o pm cd doc a vs ns G Y ho hd hcd hmg hobj hints hlen hg=>?_;have KX:=hY w _ Y;obtain⟨fd,hb,hF⟩:=F w mg fa _ KX G.T.g hmg;exact zkP KX G.T.g G.T.b G.T.builtins G.T.nolimit hg hobj hints (AI hlen hn2) hr hF hb (fun H hO hS=>hsp w H a ns hlen hO hS) fun H e s'=>hCX w H s₁ e s'
noncomputable def zdZ(s:Stmt):Arguments:=match s with
 | .FunctionDef _ a _ _ _ _ _ _ _ _=>a
 | _=>{ posonlyargs:=[],args:=[],vararg:=none,kwonlyargs:=[],kw_defaults:=[],kwarg:=none,defaults:=[] }
noncomputable def zcz(s:Stmt):List Stmt:=match s with
 | .FunctionDef _ _ b _ _ _ _ _ _ _=>b
 | _=>[]
noncomputable def zal(s:Stmt):Scope:=match s with
 | .FunctionDef _ _ _ _ _ _ sc _ _ _=>sc
 | _=>{ kind:=.function,names:=[],isGenerator:=false,isCoroutine:=false }
noncomputable abbrev CX0:CXT:=fun _ _ _ _ _ _=>False
noncomputable abbrev E0:XK:=fun _ _ _=>False
theorem zoZ{X:Cx}:Passes CX0 X E0:=fun _ _ _ _ _ _ _ h=>h.elim
structure Fun(K:Ac)(x qual:Str)(st:Stmt)(f:Addr)(fd:FuncData):Prop where
 ex:∃ (oc:Value) (od:Option Addr) (kV doc pm:Value) (an:Option Addr) (cdv ct:Value) (osl:Array (Option Value)),
   fd=BE x qual (zdZ st) (zcz st) (zal st) .none kV doc pm an cdv ct/\K.lookup f=some ⟨oc,od,.func fd,osl⟩/\Cy K cdv qual=true
 kp:Bx K (.ref f)=true
section
variable {P:Program} {w:World} {K:Ac} {mg:Str->Option Value} {base:Heap}
theorem Fun.ok{x qual:Str}{st:Stmt}{f:Addr}{fd:FuncData}{N ps:List Str}{k:Nat}{sp:Sp}(F:Fun K x qual st f fd)(S:FnScope N ps (zal st))(len:∀ vs H Q E,sp vs H Q E->vs.length=ps.length)
   (hbody:∀ (cdv:Value) (A:Around) (outer:List Env) (s:Shared) (H:Hp) (vs:List V) (Q:VK) (E:XK),Room k (A.deeper (envOfC qual (zal st) s.heap.objs.size f cdv))->sp vs H Q E ->
     ∃ t,PSs (cxOf CX0 P w K mg base N qual (zal st) f cdv A outer s H E).nox (zcz st) t/\t { nx:=fun _ H'=>Q .non H',rt:=Q } (start N vs) H):FnOk P w K mg base CX0 (k+1) f fd ps sp:=by
 obtain⟨oc,od,kV,doc,pm,an,cdv,ct,osl,rfl,lk,hcd⟩:=F.ex;refine zpN lk hcd S len fun A outer s H vs Q E hr hsp=>?_;obtain⟨t,h,q⟩:=hbody cdv A outer s H vs Q E hr hsp;exact⟨t,h.nox,q⟩
theorem Fun.binds{x qual:Str}{st:Stmt}{f:Addr}{fd:FuncData}{ps:List Str}(F:Fun K x qual st f fd)
   (h:∀ (kV doc pm:Value) (an:Option Addr) (cdv ct:Value) (us:List Value),us.length=ps.length->bindArgs (BE x qual (zdZ st) (zcz st) (zal st) .none kV doc pm an cdv ct) ⟨us,[]⟩=pure (ps.zip us)):Binds K fd ps []:=by
 obtain⟨oc,od,kV,doc,pm,an,cdv,ct,osl,rfl,lk,hcd⟩:=F.ex;exact .all (h kV doc pm an cdv ct)
theorem zk0{x qual:Str}{st:Stmt}{f:Addr}{oc:Value}{od an:Option Addr}{osl:Array (Option Value)}{kV doc pm cdv ct:Value}(l:K.lookup f=some ⟨oc,od,.func (BE x qual (zdZ st) (zcz st) (zal st) .none kV doc pm an cdv ct),osl⟩)
   (c:Cy K cdv qual=true) (k:Bx K (.ref f)=true):Fun K x qual st f (BE x qual (zdZ st) (zcz st) (zal st) .none kV doc pm an cdv ct):=⟨⟨oc,od,kV,doc,pm,an,cdv,ct,osl,rfl,l,c⟩,k⟩
end
theorem zbv{A:Around}{k:Nat}(hr:Room k A):A.units+1 < cLine:=B1 (C2 (by decide:1<=64) _) hr.units
section
variable {X:Cx}
theorem pv(i:Nat){x:Str}{pos:Pos}(hN:X.N[i]?=some x:=by rfl)(hv:Vis X.env.scope x:=by first | exact As rfl | exact Ap (As rfl) | exact Ap (Ap rfl))(hd:(x==("__debug__":Str))=false:=by decide)
   (hcd:(x==("__classdict__":Str))=false:=by decide):PE X (.Name x pos) (tVar i):=zme hN hv hd hcd
end
end L2
namespace L2.MP
open PySem PySem.Spec PyProof.Rows
inductive D where
 | non | bl (b:Bool) | int (i:Int) | str (x:Str) | tup (xs:List D) | ref (n:Nat) | kl (xs:List D)
inductive O where
 | lst (xs:List D) | fz (xs:List D) | dk (kvs:List (Key×D)) | dt (kvs:List (List Key×D)) | fk (kvs:List (Key×D)) | ft (kvs:List (List Key×D)) | ob (C:Addr) (fs:List (Str×D)) | sz (n:Nat)
noncomputable abbrev Sto:=List O
noncomputable abbrev Rho:=List (Option D)
structure Kp(H H':Hp):Prop where
 tup:∀ a xs,H a=some (.tup xs)->H' a=some (.tup xs)
 frz:∀ a o u,H a=some (.frz o u)->H' a=some (.frz o u)
def SqF(K:Ac)(H:Hp)(a:Addr)(xs:List V):Prop :=
 (∃ o,H a=some (.frz o (.lst xs)))\/∃ (o:Obj) (its:Array Value) (n:Nat),K.lookup a=some o/\o.cls=.type "list"/\o.dict=none/\o.data=.seq its n/\its.size<=sizeLine/\Vals xs its.toList
theorem SqF.sq{K:Ac}{H:Hp}{a:Addr}{xs:List V}(h:SqF K H a xs):SqL K H a xs:=by
 rcases h with h | h
 . exact .inl (.inr h)
 . exact .inr h
theorem SqF.kp{K:Ac}{H H':Hp}{a:Addr}{xs:List V}(T:Kp H H')(h:SqF K H a xs):SqF K H' a xs:=by
 rcases h with ⟨o,h⟩ | h
 . exact .inl ⟨o,T.frz _ _ _ h⟩
 . exact .inr h
mutual
noncomputable def Rep(K:Ac)(H:Hp)(io:List Addr):V->D->Prop
 | v,.non=>v=.non
 | v,.bl b=>v=.bl b
 | v,.int i=>v=.int i
 | v,.str x=>v=.str x
 | v,.tup ds=>∃ a xs,v=.ref a/\H a=some (.tup xs)/\Reps K H io xs ds
 | v,.ref n=>∃ a,v=.ref a/\io[n]?=some a
 | v,.kl ds=>∃ a xs,v=.ref a/\SqF K H a xs/\Reps K H io xs ds
noncomputable def Reps(K:Ac)(H:Hp)(io:List Addr):List V->List D->Prop
 | xs,[]=>xs=[]
 | xs,d::ds=>∃ y ys,xs=y::ys/\Rep K H io y d/\Reps K H io ys ds
end
mutual
theorem Rep.mono{K:Ac}{H H':Hp}{io ka:List Addr}(T:Kp H H'):∀ {v:V} {d:D},Rep K H io v d->Rep K H' (io++ka) v d
 | _,.non,h=>h
 | _,.bl _,h=>h
 | _,.int _,h=>h
 | _,.str _,h=>h
 | _,.tup ds,h=>by
   obtain⟨a,xs,e,q,r⟩:=h;exact⟨a,xs,e,T.tup a xs q,Reps.mono T r⟩
 | _,.ref n,h=>by
   obtain⟨a,e,q⟩:=h;exact⟨a,e,by rw[Al (List.getElem?_eq_some_iff.mp q).1];exact q⟩
 | _,.kl ds,h=>by
   obtain⟨a,xs,e,q,r⟩:=h;exact⟨a,xs,e,q.kp T,Reps.mono T r⟩
theorem Reps.mono{K:Ac}{H H':Hp}{io ka:List Addr}(T:Kp H H'):∀ {xs:List V} {ds:List D},Reps K H io xs ds->Reps K H' (io++ka) xs ds
 | _,[],h=>h
 | _,d::ds,h=>by
   obtain⟨y,ys,e,r,rs⟩:=h;exact⟨y,ys,e,Rep.mono T r,Reps.mono T rs⟩
end
section
variable {K:Ac} {H H' H1 H2:Hp} {io ka kb:List Addr} {st st':Sto} {xs ys:List V} {ds es:List D}
theorem Reps.length:∀ {xs:List V} {ds:List D},Reps K H io xs ds->xs.length=ds.length
 | _,[],h=>by rw[show _=[] from h];rfl
 | _,d::ds,h=>by
   obtain⟨y,ys,e,_,rs⟩:=h;rw[e,Bo,Bo,Reps.length rs]
theorem Reps.get:∀ {xs:List V} {ds:List D} {i:Nat} {d:D},Reps K H io xs ds->ds[i]?=some d->∃ v,xs[i]?=some v/\Rep K H io v d
 | _,[],_,_,_,e=>by simp at e
 | _,a::ds,0,d,h,e=>by
   obtain⟨y,ys,rfl,r,_⟩:=h;have e':a=d:=by simpa using e
   subst e';exact⟨y,rfl,r⟩
 | _,a::ds,i+1,d,h,e=>by
   obtain⟨y,ys,rfl,_,rs⟩:=h;exact Reps.get (i:=i) rs (by simpa using e)
theorem Reps.append:∀ {xs ys:List V} {ds es:List D},Reps K H io xs ds->Reps K H io ys es->Reps K H io (xs++ys) (ds++es)
 | _,_,[],_,h,q=>by rw[show _=[] from h];exact q
 | _,_,d::ds,_,h,q=>by
   obtain⟨y,ys,rfl,r,rs⟩:=h;exact⟨y,_,rfl,r,Reps.append rs q⟩
theorem Reps.set:∀ {xs:List V} {ds:List D} {v:V} {d:D} (i:Nat),Reps K H io xs ds->Rep K H io v d->Reps K H io (xs.set i v) (ds.set i d)
 | _,[],_,_,_,h,_=>by rw[show _=[] from h];exact rfl
 | _,a::ds,v,d,0,h,q=>by
   obtain⟨y,ys,rfl,_,rs⟩:=h;exact⟨v,ys,rfl,q,rs⟩
 | _,a::ds,v,d,i+1,h,q=>by
   obtain⟨y,ys,rfl,r,rs⟩:=h;exact⟨y,_,rfl,r,Reps.set i rs q⟩
theorem Reps.take:∀ {xs:List V} {ds:List D} (n:Nat),Reps K H io xs ds->Reps K H io (xs.take n) (ds.take n)
 | _,[],n,h=>by rw[show _=[] from h];simp[Reps]
 | _,_::_,0,_=>by simp[Reps]
 | _,d::ds,n+1,h=>by
   obtain⟨y,ys,rfl,r,rs⟩:=h;exact⟨y,_,rfl,r,Reps.take n rs⟩
theorem Reps.drop:∀ {xs:List V} {ds:List D} (n:Nat),Reps K H io xs ds->Reps K H io (xs.drop n) (ds.drop n)
 | _,[],n,h=>by rw[show _=[] from h];simp[Reps]
 | _,_::_,0,h=>h
 | _,d::ds,n+1,h=>by
   obtain⟨y,ys,rfl,r,rs⟩:=h;exact Reps.drop n rs
theorem Reps.nil:Reps K H io [] []:=rfl
theorem Reps.cons{v:V}{d:D}(r:Rep K H io v d)(rs:Reps K H io xs ds):Reps K H io (v::xs) (d::ds):=⟨v,xs,rfl,r,rs⟩
theorem Reps.one{d:D}(r:Reps K H io xs [d]):∃ v,xs=[v]/\Rep K H io v d:=by
 obtain⟨y,ys,rfl,r,e⟩:=r
 cases (show ys=[] from e)
 exact⟨y,rfl,r⟩
theorem Reps.two{d e:D}(r:Reps K H io xs [d,e]):∃ v u,xs=[v,u]/\Rep K H io v d/\Rep K H io u e:=by
 obtain⟨y,ys,rfl,r,q⟩:=r;obtain⟨v,rfl,q'⟩:=q.one;exact⟨y,v,rfl,r,q'⟩
noncomputable abbrev KR (κ:Type) (K:Ac) (H:Hp) (io:List Addr):List (κ×V)->List (κ×D)->Prop:=Paired fun (p:κ×V) (q:κ×D)=>p.1=q.1/\Rep K H io p.2 q.2
def SetZ(a:Addr)(n:Nat)(h:Heap):Prop:=∃ o es ep t,h.get? a=some o/\o.ExactSet/\o.data=.set es ep t/\es.size < scanBound/\t.fits es.size=true/\es.size=n
noncomputable def OR(K:Ac)(H:Hp)(io:List Addr)(a:Addr):O->Prop
 | .lst ds=>∃ xs,H a=some (.lst xs)/\Reps K H io xs ds
 | .fz ds=>∃ o xs,H a=some (.frz o (.lst xs))/\Reps K H io xs ds
 | .dk kvs=>∃ ps,H a=some (.dK ps)/\KR Key K H io ps kvs
 | .dt kvs=>∃ ps,H a=some (.dT ps)/\KR (List Key) K H io ps kvs
 | .fk kvs=>∃ o ps,H a=some (.frz o (.dK ps))/\KR Key K H io ps kvs
 | .ft kvs=>∃ o ps,H a=some (.frz o (.dT ps))/\KR (List Key) K H io ps kvs
 | .ob C fs=>∃ dx ps,H a=some (.ins C dx ps)/\KR Str K H io ps fs
 | .sz n=>H a=some (.ext (SetZ a n))
structure StR(K:Ac)(H:Hp)(io:List Addr)(st:Sto):Prop where
 len:io.length=st.length
 nd:io.Nodup
 ob:∀ (n:Nat) (a:Addr) (o:O),io[n]?=some a->st[n]?=some o->OR K H io a o
structure EnvR(K:Ac)(H:Hp)(io:List Addr)(σ:St)(ρ:Rho):Prop where
 len:σ.length=ρ.length
 at_:∀ (i:Nat) (d:D),ρ[i]?=some (some d)->∃ v,σ[i]?=some (some v)/\Rep K H io v d
structure Ext(io ka:List Addr)(H H':Hp):Prop where
 keep:∀ b o,H b=some o->b ∉ io->H' b=some o
 fresh:∀ b,b∈ka->H b=none
 frz:∀ b o u,H b=some (.frz o u)->H' b=some (.frz o u)
theorem OR.stands{a:Addr}{o:O}(h:OR K H io a o):∃ u,H a=some u/\∀ xs,u≠.tup xs/\∀ ob,u≠.frz ob (.tup xs):=by
 cases o with
 | lst ds=>obtain⟨xs,e,_⟩:=h;exact⟨_,e,fun _=>⟨by simp,by simp⟩⟩
 | fz ds=>obtain⟨ob,xs,e,_⟩:=h;exact⟨_,e,fun _=>⟨by simp,by simp⟩⟩
 | dk kvs=>obtain⟨xs,e,_⟩:=h;exact⟨_,e,fun _=>⟨by simp,by simp⟩⟩
 | dt kvs=>obtain⟨xs,e,_⟩:=h;exact⟨_,e,fun _=>⟨by simp,by simp⟩⟩
 | fk kvs=>obtain⟨ob,xs,e,_⟩:=h;exact⟨_,e,fun _=>⟨by simp,by simp⟩⟩
 | ft kvs=>obtain⟨ob,xs,e,_⟩:=h;exact⟨_,e,fun _=>⟨by simp,by simp⟩⟩
 | ob C fs=>obtain⟨dx,xs,e,_⟩:=h;exact⟨_,e,fun _=>⟨by simp,by simp⟩⟩
 | sz n=>exact⟨_,h,fun _=>⟨by simp,by simp⟩⟩
theorem StR.mem(S:StR K H io st){a:Addr}(h:a∈io):∃ u,H a=some u/\∀ xs,u≠.tup xs/\∀ ob,u≠.frz ob (.tup xs):=by
 obtain⟨n,hn,e⟩:=Ec h;have h1:io[n]?=some a:=by rw[Aj hn,e]
 have h2:n < st.length:=by rw[<-S.len];exact hn
 exact (S.ob n a _ h1 (Aj h2)).stands
theorem Ext.sqT(S:StR K H io st)(E:Ext io ka H H'):∀ a xs,H a=some (.tup xs)->H' a=some (.tup xs):=by
 intro a xs h;refine E.keep _ _ h fun m=>?_;obtain⟨u,e,q⟩:=S.mem m;rw[h] at e;exact (q xs).1 (Az e).symm
theorem Ext.kp(S:StR K H io st)(E:Ext io ka H H'):Kp H H':=⟨E.sqT S,E.frz⟩
theorem Ext.refl:Ext io [] H H:=⟨fun _ _ h _=>h,fun _ h=>absurd h (by simp),fun _ _ _ h=>h⟩
theorem Ext.trans(S1:StR K H1 (io++ka) st)(E1:Ext io ka H H1)(E2:Ext (io++ka) kb H1 H2):Ext io (ka++kb) H H2 where
 keep:=fun b o h n=>E2.keep b o (E1.keep b o h n) fun m=>by
   rcases List.mem_append.mp m with m | m
   . exact n m
   . rw[E1.fresh b m] at h;cases h
 fresh:=fun b m=>by
   rcases List.mem_append.mp m with m | m
   . exact E1.fresh b m
   . have h1:=E2.fresh b m
     cases e:H b with
     | none=>rfl
     | some o =>
       by_cases hb:b∈io
       . obtain⟨u,e',_⟩:=S1.mem (AO _ hb);rw[e'] at h1;cases h1
       . rw[E1.keep b o e hb] at h1;cases h1
 frz:=fun b o u h=>E2.frz b o u (E1.frz b o u h)
theorem Ext.app(E:Ext io (ka++[]) H H'):Ext io ka H H':=by rw[Ao] at E;exact E
theorem Rep.ext{v:V}{d:D}(S:StR K H io st)(E:Ext io ka H H')(h:Rep K H io v d):Rep K H' (io++ka) v d:=Rep.mono (E.kp S) h
theorem Reps.ext(S:StR K H io st)(E:Ext io ka H H')(h:Reps K H io xs ds):Reps K H' (io++ka) xs ds:=Reps.mono (E.kp S) h
theorem EnvR.ext{σ:St}{ρ:Rho}(h:EnvR K H io σ ρ)(S:StR K H io st)(E:Ext io ka H H'):EnvR K H' (io++ka) σ ρ :=
 ⟨h.len,fun i d e=>let ⟨v,q,r⟩:=h.at_ i d e;⟨v,q,r.ext S E⟩⟩
theorem EnvR.set{σ:St}{ρ:Rho}{v:V}{d:D}(i:Nat)(h:EnvR K H io σ ρ)(r:Rep K H io v d):EnvR K H io (σ.set i (some v)) (ρ.set i (some d)):=by
 refine⟨by rw[B0,B0];exact h.len,fun j e q=>?_⟩
 by_cases hij:i=j
 . subst hij;rw[Dq] at q;rw[if_pos rfl] at q
   split at q
   . rename_i hl
     cases (Az (Az q))
     exact⟨v,by rw[Dq,if_pos rfl,if_pos (by rw[h.len];exact hl)],r⟩
   . cases q
 . rw[AE hij] at q;obtain⟨u,q',r'⟩:=h.at_ j e q;exact⟨u,by rw[AE hij];exact q',r'⟩
theorem StR.nil(S:StR K H io st):StR K H (io++[]) st:=by rw[Ao];exact S
theorem KR.mono{κ:Type}{ps:List (κ×V)}{kvs:List (κ×D)}(T:Kp H H')(h:KR κ K H io ps kvs):KR κ K H' (io++ka) ps kvs:=Paired.mapP h fun _ _ z=>⟨z.1,Rep.mono T z.2⟩
theorem OR.mono{a:Addr}{o:O}(T:Kp H H')(e:H' a=H a)(h:OR K H io a o):OR K H' (io++ka) a o:=by
 cases o with
 | lst ds=>obtain⟨xs,q,r⟩:=h;exact⟨xs,e.trans q,Reps.mono T r⟩
 | fz ds=>obtain⟨ob,xs,q,r⟩:=h;exact⟨ob,xs,e.trans q,Reps.mono T r⟩
 | dk kvs=>obtain⟨xs,q,r⟩:=h;exact⟨xs,e.trans q,KR.mono T r⟩
 | dt kvs=>obtain⟨xs,q,r⟩:=h;exact⟨xs,e.trans q,KR.mono T r⟩
 | fk kvs=>obtain⟨ob,xs,q,r⟩:=h;exact⟨ob,xs,e.trans q,KR.mono T r⟩
 | ft kvs=>obtain⟨ob,xs,q,r⟩:=h;exact⟨ob,xs,e.trans q,KR.mono T r⟩
 | ob C fs=>obtain⟨dx,xs,q,r⟩:=h;exact⟨dx,xs,e.trans q,KR.mono T r⟩
 | sz n=>exact e.trans h
theorem zdW{p:Addr}{o:HO}(S:StR K H io st)(hp:H p=none):Ext io [] H (upd H p o)/\StR K (upd H p o) (io++[]) st:=by
 have E:Ext io [] H (upd H p o):=⟨fun b u h _=>by rw[zaO (zan h hp)];exact h,fun _ h=>absurd h (by simp),fun b u v h=>by rw[zaO (zan h hp)];exact h⟩
 refine⟨E,?_⟩;refine⟨by rw[Ao];exact S.len,by rw[Ao];exact S.nd,fun n a ob h1 h2=>?_⟩;rw[Ao] at h1;obtain⟨u,hu,_⟩:=(S.ob n a ob h1 h2).stands;exact OR.mono (E.kp S) (zaO (zan hu hp)) (S.ob n a ob h1 h2)
theorem zmv{p:Addr}{o:HO}{ob:O}(S:StR K H io st)(hp:H p=none)(new:∀ H',Kp H H'->H' p=some o->OR K H' (io++[p]) p ob):Ext io [p] H (upd H p o)/\StR K (upd H p o) (io++[p]) (st++[ob]):=by
 have E:Ext io [p] H (upd H p o):=⟨fun b u h _=>by rw[zaO (zan h hp)];exact h,fun b h=>by rw[List.mem_singleton.mp h];exact hp,fun b u v h=>by rw[zaO (zan h hp)];exact h⟩
 have np:p ∉ io:=fun m=>by
   obtain⟨u,hu,_⟩:=S.mem m;rw[hp] at hu;cases hu
 refine⟨E,by simp[S.len],?_,fun n a ob' h1 h2=>?_⟩
 . rw[Eu];refine⟨S.nd,by simp,fun a ha b hb=>?_⟩;rw[List.mem_singleton.mp hb];rintro rfl;exact np ha
 . by_cases hn:n < io.length
   . rw[Al hn] at h1;rw[Al (by rw[<-S.len];exact hn)] at h2;obtain⟨u,hu,_⟩:=(S.ob n a ob' h1 h2).stands;exact OR.mono (E.kp S) (zaO (zan hu hp)) (S.ob n a ob' h1 h2)
   . have hl:n < (io++[p]).length:=(List.getElem?_eq_some_iff.mp h1).1;rw[AD,Ca] at hl;have e:n=io.length:=by omega
     subst e;rw[AK (Ae _),Cu] at h1;rw[S.len,AK (Ae _),Cu] at h2
     cases (Az h1)
     cases (Az h2)
     exact new _ (E.kp S) zbw
theorem zgR{p:Addr}{n:Nat}{o:HO}{ob old:O}(S:StR K H io st)(hn:io[n]?=some p)(ho:st[n]?=some old)(nf:∀ o u,H p≠some (.frz o u))(new:∀ H',Kp H H'->H' p=some o->OR K H' (io++[]) p ob):Ext io [] H (upd H p o)/\StR K (upd H p o) (io++[]) (st.set n ob):=by
 have hp:p∈io:=AV hn;have E:Ext io [] H (upd H p o):=⟨fun b u h nb=>by rw[zaO (fun e=>nb (by rw[e];exact hp))];exact h,fun b h=>absurd h (by simp),fun b u v h=>by
   by_cases hb:b=p
   . subst hb;exact absurd h (nf u v)
   . rw[zaO hb];exact h⟩
 refine⟨E,by simp[S.len],by rw[Ao];exact S.nd,fun m a ob' h1 h2=>?_⟩;rw[Ao] at h1
 by_cases hm:m=n
 . subst hm;rw[hn] at h1
   cases (Az h1)
   rw[Dq,if_pos rfl] at h2
   split at h2
   . cases (Az h2)
     exact new _ (E.kp S) zbw
   . cases h2
 . rw[AE (fun e=>hm e.symm)] at h2;have hap:a≠p:=fun e=>by
     subst e;exact hm ((List.getElem?_inj (List.getElem?_eq_some_iff.mp h1).1 S.nd).mp (h1.trans hn.symm))
   exact OR.mono (E.kp S) (zaO hap) (S.ob m a ob' h1 h2)
end
noncomputable abbrev ME:=Rho->Sto->Option (D×Sto)
noncomputable abbrev MT:=Rho->Sto->Option (Bool×Sto)
noncomputable abbrev MA:=Rho->Sto->Option (List D×Sto)
inductive Fl where
 | nx (ρ:Rho) | rt (d:D) | bk (ρ:Rho) | ct (ρ:Rho)
noncomputable abbrev MS:=Rho->Sto->Option (Fl×Sto)
noncomputable abbrev MG:=D->Rho->Sto->Option (Rho×Sto)
noncomputable abbrev MGs:=List D->Rho->Sto->Option (Rho×Sto)
def Bh(K:Ac)(io:List Addr)(H:Hp)(st':Sto)(d:D)(Q:VK):Prop:=∀ v H' ka,Ext io ka H H'->StR K H' (io++ka) st'->Rep K H' (io++ka) v d->Q v H'
inductive tE (K:Ac) (m:ME) (σ:L2.St) (H:Hp) (Q:VK):Prop
 | mk (ρ:Rho) (st:Sto) (io:List Addr) (d:D) (st':Sto) (h1:EnvR K H io σ ρ) (h2:StR K H io st) (h3:m ρ st=some (d,st')) (h4:Bh K io H st' d Q)
inductive tT (K:Ac) (m:MT) (σ:L2.St) (H:Hp) (Q:Bool->Hp->Prop):Prop
 | mk (ρ:Rho) (st:Sto) (io:List Addr) (b:Bool) (st':Sto) (h1:EnvR K H io σ ρ) (h2:StR K H io st) (h3:m ρ st=some (b,st')) (h4:∀ H' ka,Ext io ka H H'->StR K H' (io++ka) st'->Q b H')
inductive tA (K:Ac) (m:MA) (σ:L2.St) (H:Hp) (Q:List V->Hp->Prop):Prop
 | mk (ρ:Rho) (st:Sto) (io:List Addr) (ds:List D) (st':Sto) (h1:EnvR K H io σ ρ) (h2:StR K H io st) (h3:m ρ st=some (ds,st')) (h4:∀ vs H' ka,Ext io ka H H'->StR K H' (io++ka) st'->Reps K H' (io++ka) vs ds->Q vs H')
noncomputable def tS(K:Ac)(m:MS):TS:=fun N σ H=>∃ ρ st io f st',EnvR K H io σ ρ/\StR K H io st/\m ρ st=some (f,st') /\
 match f with
 | .nx ρ'=>∀ σ' H' ka,Ext io ka H H'->StR K H' (io++ka) st'->EnvR K H' (io++ka) σ' ρ'->N.nx σ' H'
 | .bk ρ'=>∀ σ' H' ka,Ext io ka H H'->StR K H' (io++ka) st'->EnvR K H' (io++ka) σ' ρ'->N.bk σ' H'
 | .ct ρ'=>∀ σ' H' ka,Ext io ka H H'->StR K H' (io++ka) st'->EnvR K H' (io++ka) σ' ρ'->N.ct σ' H'
 | .rt d=>Bh K io H st' d N.rt
inductive tG (K:Ac) (m:MG) (v:V) (σ:L2.St) (H:Hp) (Q:L2.St->Hp->Prop):Prop
 | mk (d:D) (ρ:Rho) (st:Sto) (io:List Addr) (ρ':Rho) (st':Sto) (h0:Rep K H io v d) (h1:EnvR K H io σ ρ) (h2:StR K H io st) (h3:m d ρ st=some (ρ',st')) (h4:∀ σ' H' ka,Ext io ka H H'->StR K H' (io++ka) st'->EnvR K H' (io++ka) σ' ρ'->Q σ' H')
inductive tGs (K:Ac) (m:MGs) (vs:List V) (σ:L2.St) (H:Hp) (Q:L2.St->Hp->Prop):Prop
 | mk (ds:List D) (ρ:Rho) (st:Sto) (io:List Addr) (ρ':Rho) (st':Sto) (h0:Reps K H io vs ds) (h1:EnvR K H io σ ρ) (h2:StR K H io st) (h3:m ds ρ st=some (ρ',st')) (h4:∀ σ' H' ka,Ext io ka H H'->StR K H' (io++ka) st'->EnvR K H' (io++ka) σ' ρ'->Q σ' H')
def SE(X:Cx)(e:Expr)(m:ME):Prop:=PE X e (tE X.K m)
def SB(X:Cx)(e:Expr)(m:MT):Prop:=PT X e (tT X.K m)
def SA(X:Cx)(es:List Expr)(m:MA):Prop:=PA X es (tA X.K m)
def SS(X:Cx)(s:Stmt)(m:MS):Prop:=PS X s (tS X.K m)
def SSs(X:Cx)(s:List Stmt)(m:MS):Prop:=PSs X s (tS X.K m)
def SG(X:Cx)(e:Expr)(m:MG):Prop:=PG X e (tG X.K m)
def SGs(X:Cx)(e:List Expr)(m:MGs):Prop:=PGs X e (tGs X.K m)
section
variable {X:Cx} {e a b c:Expr} {es:List Expr} {st1 st2:Stmt} {rest body orelse:List Stmt} {pos:Pos} {m ma mb mc:ME} {mt mu:MT} {mm:MA} {ms mq mr:MS} {mg:MG} {mgs:MGs}
theorem PE.imp{t u:TE}(h:PE X e t)(k:∀ σ H Q,u σ H Q->t σ H Q):PE X e u:=fun pins s σ H Q I q=>h pins s σ H Q I (k σ H Q q)
theorem PT.imp{t u:TT}(h:PT X e t)(k:∀ σ H Q,u σ H Q->t σ H Q):PT X e u:=fun pins s σ H Q I q=>h pins s σ H Q I (k σ H Q q)
theorem PA.imp{t u:TA}(h:PA X es t)(k:∀ σ H Q,u σ H Q->t σ H Q):PA X es u:=fun p pins s σ H Q I q=>h p pins s σ H Q I (k σ H Q q)
theorem PS.imp{t u:TS}(h:PS X st1 t)(k:∀ N σ H,u N σ H->t N σ H):PS X st1 u:=fun pins s σ H N I q=>h pins s σ H N I (k N σ H q)
theorem PSs.imp{t u:TS}(h:PSs X rest t)(k:∀ N σ H,u N σ H->t N σ H):PSs X rest u:=fun pins s σ H N I q=>h pins s σ H N I (k N σ H q)
theorem PG.imp{t u:TG}(h:PG X e t)(k:∀ v σ H Q,u v σ H Q->t v σ H Q):PG X e u:=fun pins s σ H v w Q I r q=>h pins s σ H v w Q I r (k v σ H Q q)
theorem PGs.imp{t u:TGs}(h:PGs X es t)(k:∀ v σ H Q,u v σ H Q->t v σ H Q):PGs X es u:=fun pins s σ H v w Q I r q=>h pins s σ H v w Q I r (k v σ H Q q)
theorem zac{α β:Type}{x:Option α}{f:α->Option β}{y:β}(h:x.bind f=some y):∃ z,x=some z/\f z=some y:=by
 cases x with
 | none=>cases h
 | some z=>exact⟨z,rfl,h⟩
variable {K:Ac} {H H1 H2:Hp} {io ka kb:List Addr} {st st':Sto}
theorem Bh.now{d:D}{Q:VK}{v:V}(h:Bh K io H st d Q)(S:StR K H io st)(r:Rep K H io v d):Q v H:=h v H [] Ext.refl S.nil (by rw[Ao];exact r)
theorem Bh.on{d:D}{Q:VK}(h:Bh K io H st' d Q)(S1:StR K H1 (io++ka) st)(E:Ext io ka H H1):Bh K (io++ka) H1 st' d Q:=fun v H' kb E' S' r =>
 h v H' (ka++kb) (E.trans S1 E') (by rw[<-Ai];exact S') (by rw[<-Ai];exact r)
noncomputable def mVar(i:Nat):ME:=fun ρ st=>match ρ[i]? with
 | some (some d)=>some (d,st)
 | _=>none
theorem zab(i:Nat){x:Str}{pos:Pos}(hN:X.N[i]?=some x:=by rfl)(hv:Vis X.env.scope x:=by first | exact As rfl | exact Ap (As rfl) | exact Ap (Ap rfl))(hd:(x==("__debug__":Str))=false:=by decide)
   (hcd:(x==("__classdict__":Str))=false:=by decide):SE X (.Name x pos) (mVar i):=PE.imp (zme hN hv hd hcd) <| by
 rintro σ H Q ⟨ρ,st,io,d,st',E,S,e,k⟩;unfold mVar at e
 split at e
 . rename_i d' he;cases e;obtain⟨v,hv,r⟩:=E.at_ i _ he;exact⟨v,hv,k.now S r⟩
 . cases e
noncomputable def mCon(d:D):ME:=fun _ st=>some (d,st)
theorem zae{i j pos}:SE X (.Constant (.int i) j pos) (mCon (.int i)):=PE.imp zn4 <| by
 rintro σ H Q ⟨ρ,st,io,d,st',E,S,e,k⟩
 cases e;exact k.now S rfl
theorem zgM{b j pos}:SE X (.Constant (.bool b) j pos) (mCon (.bl b)):=PE.imp zpu <| by
 rintro σ H Q ⟨ρ,st,io,d,st',E,S,e,k⟩
 cases e;exact k.now S rfl
theorem zcl{x j pos}:SE X (.Constant (.str x) j pos) (mCon (.str x)):=PE.imp zn0 <| by
 rintro σ H Q ⟨ρ,st,io,d,st',E,S,e,k⟩
 cases e;exact k.now S rfl
theorem zfi{x:Str}{z:Str}{t:Tok}{pos:Pos}(hg:Gl X x)(hm:X.mg x=some (.str z t))(hd:(x==("__debug__":Str))=false:=by decide):SE X (.Name x pos) (mCon (.str z)) :=
 PE.imp (zmf hg hm (v:=.str z) ⟨t,rfl⟩ hd) <| by
   rintro σ H Q ⟨ρ,st,io,d,st',E,S,e,k⟩
   cases e;exact k.now S rfl
noncomputable abbrev G2:=D->D->Sto->Option (D×Sto)
inductive r2M (K:Ac) (g:G2) (x y:V) (H:Hp) (Q:VK):Prop
 | mk (dx dy:D) (st:Sto) (io:List Addr) (d:D) (st':Sto) (h0:Rep K H io x dx) (h1:Rep K H io y dy) (h2:StR K H io st) (h3:g dx dy st=some (d,st')) (h4:Bh K io H st' d Q)
def OpM(X:Cx)(f:Value->Value->Sem Value)(g:G2):Prop:=OpR X f (r2M X.K g)
noncomputable def mBin(g:G2)(ma mb:ME):ME:=fun ρ st=>(ma ρ st).bind fun (x,s1)=>(mb ρ s1).bind fun (y,s2)=>g x y s2
theorem zdR{g:G2}{σ:L2.St}{H:Hp}{Q:VK}(h:tE K (mBin g ma mb) σ H Q):tOp (r2M K g) (tE K ma) (tE K mb) σ H Q:=by
 obtain⟨ρ,st,io,d,st',E,S,e,k⟩:=h;obtain⟨⟨x,s1⟩,e1,e⟩:=zac e;obtain⟨⟨y,s2⟩,e2,e3⟩:=zac e;refine⟨ρ,st,io,x,s1,E,S,e1,fun v1 H1 k1 X1 S1 R1=>?_⟩;refine⟨ρ,s1,io++k1,y,s2,E.ext S X1,S1,e2,fun v2 H2 k2 X2 S2 R2=>?_⟩;exact⟨x,y,s2,(io++k1)++k2,d,st',R1.ext S1 X2,R2,S2,e3,(k.on S1 X1).on S2 X2⟩
theorem zat{op:Operator}{g:G2}(ho:OpM X (binaryOp op) g)(ha:SE X a ma)(hb:SE X b mb):SE X (.BinOp a op b pos) (mBin g ma mb):=PE.imp (zps ho ha hb) fun _ _ _ h=>zdR h
theorem zht{op:CmpOp}{g:G2}(ho:OpM X (compareOp op) g)(ha:SE X a ma)(hb:SE X b mb)(hm:behindInMarks op b=false):SE X (.Compare a [op] [b] pos) (mBin g ma mb):=PE.imp (zmi ho ha hb hm) fun _ _ _ h=>zdR h
noncomputable def mTst(m:ME):MT:=fun ρ st=>(m ρ st).bind fun (x,s1)=>match x with
 | .bl b=>some (b,s1)
 | _=>none
theorem zj2{ρ:Rho}{b:Bool}(e:mTst m ρ st=some (b,st')):m ρ st=some (.bl b,st'):=by
 obtain⟨⟨x,s1⟩,e1,e⟩:=zac e;dsimp only at e
 split at e
 . cases e;exact e1
 . cases e
theorem zgd{σ:L2.St}{H:Hp}{Q:Bool->Hp->Prop}(h:tT K (mTst m) σ H Q):tE K m σ H fun x H'=>∃ b,x=.bl b/\Q b H':=by
 obtain⟨ρ,st,io,b,st',E,S,e,k⟩:=h;exact⟨ρ,st,io,_,st',E,S,zj2 e,fun v H' ka X' S' R'=>⟨b,R',k H' ka X' S'⟩⟩
theorem zdd{op:CmpOp}{g:G2}(ho:OpM X (compareOp op) g)(ha:SE X a ma)(hb:SE X b mb)(hm:behindInMarks op b=false):SB X (.Compare a [op] [b] pos) (mTst (mBin g ma mb)) :=
 PT.imp (zl2 ho ha hb hm) fun σ H Q h=>zdR (zgd h)
theorem ze8(h:SE X a m)(he:∀ whole,isTrue a X.env whole=(do let v <-whole;standAt a.pos;holding [v] (truthy v)):=by intro _;rfl):SB X a (mTst m) :=
 PT.imp (zkn h he) fun σ H Q h=>by
   obtain⟨ρ,st,io,b,st',E,S,e,k⟩:=zgd h;refine⟨ρ,st,io,b,st',E,S,e,fun v H' ka X' S' R'=>?_⟩;obtain⟨c,hc,q⟩:=k v H' ka X' S' R';subst hc;exact⟨c,rfl,q⟩
noncomputable def zd6(m:MT):MT:=fun ρ st=>(m ρ st).map fun (b,s)=>(!b,s)
theorem zcm(h:SB X a mt):SB X (.UnaryOp .Not a pos) (zd6 mt):=PT.imp (znP h) <| by
 rintro σ H Q ⟨ρ,st,io,b,st',E,S,e,k⟩;unfold zd6 at e
 cases e1:mt ρ st with
 | none=>rw[e1] at e;cases e
 | some p=>rw[e1] at e;cases e;exact⟨ρ,st,io,_,_,E,S,e1,fun H' ka X' S'=>k H' ka X' S'⟩
noncomputable def zom(m n:MT):MT:=fun ρ st=>(m ρ st).bind fun (b,s)=>if b=true then n ρ s else some (false,s)
noncomputable def mOrT(m n:MT):MT:=fun ρ st=>(m ρ st).bind fun (b,s)=>if b=true then some (true,s) else n ρ s
def SW(X:Cx)(e:Expr)(m:MT):Prop:=PW X e (tT X.K m)
theorem PW.imp{t u:TT}(h:PW X e t)(k:∀ σ H Q,u σ H Q->t σ H Q):PW X e u:=fun w pins s σ H Q I q=>h w pins s σ H Q I (k σ H Q q)
theorem SW.sb(h:SW X a mt):SB X a mt:=PW.pt h
theorem zlz(ha:SB X a mt):SW X (.BoolOp .And [a] pos) mt:=pw_and1 ha
theorem zd7(ha:SB X a mt):SW X (.BoolOp .Or [a] pos) mt:=pw_or1 ha
theorem zhJ{n:MT}{σ:L2.St}{ρ:Rho}{Q:Bool->Hp->Prop}{b:Bool}{s1:Sto}(E:EnvR K H io σ ρ)(S:StR K H io st)(X1:Ext io ka H H1)(S1:StR K H1 (io++ka) s1)(e:n ρ s1=some (b,st'))(k:∀ H' ka,Ext io ka H H'->StR K H' (io++ka) st'->Q b H'):tT K n σ H1 Q :=
 ⟨ρ,s1,io++ka,b,st',E.ext S X1,S1,e,fun H' kb X' S'=>k H' (ka++kb) (X1.trans S1 X') (by rw[<-Ai];exact S')⟩
theorem znr{rs:List Expr}(ha:SB X a mt)(hb:SW X (.BoolOp .And (b::rs) pos) mu):SW X (.BoolOp .And (a::b::rs) pos) (zom mt mu):=PW.imp (pw_and ha hb) <| by
 rintro σ H Q ⟨ρ,st,io,v,st',E,S,e,k⟩;obtain⟨⟨x,s1⟩,e1,e⟩:=zac e;refine⟨ρ,st,io,x,s1,E,S,e1,fun H1 k1 X1 S1=>?_⟩
 cases x with
 | true=>rw[if_pos rfl];exact zhJ E S X1 S1 e k
 | false =>
   rw[if_neg (by decide)];have e':some (false,s1)=some (v,st'):=e;cases e';exact k H1 k1 X1 S1
theorem zgg{rs:List Expr}(ha:SB X a mt)(hb:SW X (.BoolOp .Or (b::rs) pos) mu):SW X (.BoolOp .Or (a::b::rs) pos) (mOrT mt mu):=PW.imp (pw_or ha hb) <| by
 rintro σ H Q ⟨ρ,st,io,v,st',E,S,e,k⟩;obtain⟨⟨x,s1⟩,e1,e⟩:=zac e;refine⟨ρ,st,io,x,s1,E,S,e1,fun H1 k1 X1 S1=>?_⟩
 cases x with
 | false=>rw[if_neg (by decide)];exact zhJ E S X1 S1 e k
 | true =>
   rw[if_pos rfl];have e':some (true,s1)=some (v,st'):=e;cases e';exact k H1 k1 X1 S1
noncomputable def ziz(m n:ME):ME:=fun ρ st=>(mTst m ρ st).bind fun (b,s)=>if b=true then n ρ s else some (.bl false,s)
noncomputable def znd(m:ME):ME:=fun ρ st=>(mTst m ρ st).map fun (b,s)=>(.bl !b,s)
theorem zkD{n:ME}{σ:L2.St}{ρ:Rho}{Q:VK}{d:D}{s1:Sto}(E:EnvR K H io σ ρ)(S:StR K H io st)(X1:Ext io ka H H1)(S1:StR K H1 (io++ka) s1)(e:n ρ s1=some (d,st'))(k:Bh K io H st' d Q):tE K n σ H1 Q :=
 ⟨ρ,s1,io++ka,d,st',E.ext S X1,S1,e,k.on S1 X1⟩
theorem zem(ha:SE X a ma):SE X (.BoolOp .And [a] pos) ma:=zn1 ha
theorem zfj{rs:List Expr}(ha:SE X a ma)(hb:SE X (.BoolOp .And (b::rs) pos) mb):SE X (.BoolOp .And (a::b::rs) pos) (ziz ma mb):=PE.imp (zn6 ha hb) <| by
 rintro σ H Q ⟨ρ,st,io,v,st',E,S,e,k⟩;obtain⟨⟨x,s1⟩,e1,e⟩:=zac e;refine⟨ρ,st,io,.bl x,s1,E,S,zj2 e1,fun v1 H1 k1 X1 S1 R1=>⟨x,R1,?_⟩⟩
 cases x with
 | true=>rw[if_pos rfl];exact zkD E S X1 S1 e k
 | false =>
   rw[if_neg (by decide)];have e':some (D.bl false,s1)=some (v,st'):=e;cases e';exact k _ H1 k1 X1 S1 rfl
theorem znE(ha:SE X a ma):SE X (.UnaryOp .Not a pos) (znd ma):=PE.imp (zn2 ha) <| by
 rintro σ H Q ⟨ρ,st,io,v,st',E,S,e,k⟩;unfold znd at e
 cases e1:mTst ma ρ st with
 | none=>rw[e1] at e;cases e
 | some p =>
   rw[e1] at e;cases e;exact⟨ρ,st,io,_,_,E,S,zj2 e1,fun v1 H1 k1 X1 S1 R1=>⟨_,R1,k _ H1 k1 X1 S1 rfl⟩⟩
noncomputable def mIte(c:MT)(m n:ME):ME:=fun ρ st=>(c ρ st).bind fun (b,s)=>if b=true then m ρ s else n ρ s
theorem znG(hc:SB X c mt)(ha:SE X a ma)(hb:SE X b mb):SE X (.IfExp c a b pos) (mIte mt ma mb):=PE.imp (zkx hc ha hb) <| by
 rintro σ H Q ⟨ρ,st,io,v,st',E,S,e,k⟩;obtain⟨⟨x,s1⟩,e1,e⟩:=zac e;refine⟨ρ,st,io,x,s1,E,S,e1,fun H1 k1 X1 S1=>?_⟩
 cases x with
 | true=>rw[if_pos rfl];exact zkD E S X1 S1 e k
 | false=>rw[if_neg (by decide)];exact zkD E S X1 S1 e k
end
end L2.MP
set_option linter.unusedVariables false
namespace L2.MP
open PySem PySem.Spec PyProof.Rows
section
variable {X:Cx} {e a b c:Expr} {es:List Expr} {st1 st2:Stmt} {rest body orelse:List Stmt} {pos:Pos} {m ma mb mc:ME} {mt mu:MT} {mm:MA} {ms mq mr:MS} {mg:MG} {mgs:MGs}
variable {K:Ac} {H H1 H2:Hp} {io ka kb:List Addr} {st st':Sto}
noncomputable def mNil:MA:=fun _ st=>some ([],st)
noncomputable def zad(m:ME)(mm:MA):MA:=fun ρ st=>(m ρ st).bind fun (x,s1)=>(mm ρ s1).bind fun (xs,s2)=>some (x::xs,s2)
theorem zaf:SA X [] mNil:=PA.imp zhE <| by
 rintro σ H Q ⟨ρ,st,io,ds,st',E,S,e,k⟩
 cases e;exact k [] H [] Ext.refl S.nil Reps.nil
theorem zaa(ha:SE X e m)(hr:SA X es mm)(hs:starEach (e::es) X.env=(false,eval e X.env)::starEach es X.env:=by rfl):SA X (e::es) (zad m mm):=PA.imp (zeo ha hr hs) <| by
 rintro σ H Q ⟨ρ,st,io,ds,st',E,S,e,k⟩;obtain⟨⟨x,s1⟩,e1,e⟩:=zac e;obtain⟨⟨xs,s2⟩,e2,e⟩:=zac e;cases e;refine⟨ρ,st,io,x,s1,E,S,e1,fun v1 H1 k1 X1 S1 R1=>⟨ρ,s1,io++k1,xs,_,E.ext S X1,S1,e2,fun vs H2 k2 X2 S2 R2=>?_⟩⟩;exact k _ H2 (k1++k2) (X1.trans S1 X2) (by rw[<-Ai];exact S2) (by rw[<-Ai];exact Reps.cons (R1.ext S1 X2) R2)
noncomputable def fits(n:Nat):Bool:=decide (n<=sizeLine)
noncomputable def mTup(mm:MA):ME:=fun ρ st=>(mm ρ st).bind fun (xs,s)=>if fits xs.length=true then some (.tup xs,s) else none
noncomputable def mLst(mm:MA):ME:=fun ρ st=>(mm ρ st).bind fun (xs,s)=>if fits xs.length=true then some (.ref s.length,s++[.lst xs]) else none
theorem zaq{α:Type}{c:Prop}[Decidable c]{x:Option α}{y:α}(h:(if c then x else none)=some y):c/\x=some y:=by
 by_cases hc:c
 . rw[if_pos hc] at h;exact⟨hc,h⟩
 . rw[if_neg hc] at h;cases h
theorem Bh.tup{ds:List D}{vs:List V}{Q:VK}{p:Addr}(k:Bh K io H st (.tup ds) Q)(S:StR K H io st)(R:Reps K H io vs ds)(hp:H p=none):Q (.ref p) (upd H p (.tup vs)):=by
 obtain⟨E,S'⟩:=zdW (o:=.tup vs) S hp;refine k _ _ [] E S' ⟨p,vs,rfl,zbw,R.ext S E⟩
theorem getElem?_len{α:Type}(l:List α)(x:α):(l++[x])[l.length]?=some x:=by
 rw[AK (Ae _),Cu];rfl
theorem Bh.lst{ds:List D}{vs:List V}{Q:VK}{p:Addr}(k:Bh K io H (st++[.lst ds]) (.ref st.length) Q)(S:StR K H io st)(R:Reps K H io vs ds)(hp:H p=none):Q (.ref p) (upd H p (.lst vs)):=by
 obtain⟨E,S'⟩:=zmv (o:=.lst vs) (ob:=.lst ds) S hp fun H' T e=>⟨vs,e,Reps.mono T R⟩
 exact k _ _ [p] E S' ⟨p,rfl,by rw[<-S.len];exact getElem?_len io p⟩
theorem zck{x1}(h:SA X es mm):SE X (.Tuple es x1 pos) (mTup mm):=PE.imp (znZ h) <| by
 rintro σ H Q ⟨ρ,st,io,d,st',E,S,e,k⟩;obtain⟨⟨xs,s1⟩,e1,e⟩:=zac e;obtain⟨hf,e⟩:=zaq e;cases e;refine⟨ρ,st,io,xs,_,E,S,e1,fun vs H1 k1 X1 S1 R1=>⟨by rw[R1.length];exact of_decide_eq_true hf,fun p hp=>(k.on S1 X1).tup S1 R1 hp⟩⟩
theorem zey(h:SA X es mm):SE X (.List es pos) (mLst mm):=PE.imp (zn3 h) <| by
 rintro σ H Q ⟨ρ,st,io,d,st',E,S,e,k⟩;obtain⟨⟨xs,s1⟩,e1,e⟩:=zac e;obtain⟨hf,e⟩:=zaq e;cases e;refine⟨ρ,st,io,xs,_,E,S,e1,fun vs H1 k1 X1 S1 R1=>⟨by rw[R1.length];exact of_decide_eq_true hf,fun p hp=>(k.on S1 X1).lst S1 R1 hp⟩⟩
noncomputable abbrev GN:=List D->Sto->Option (D×Sto)
inductive rNM (K:Ac) (g:GN) (xs:List V) (H:Hp) (Q:VK):Prop
 | mk (ds:List D) (st:Sto) (io:List Addr) (d:D) (st':Sto) (h1:Reps K H io xs ds) (h2:StR K H io st) (h3:g ds st=some (d,st')) (h4:Bh K io H st' d Q)
def zg8(X:Cx)(f:Value)(g:GN):Prop:=zg7 X f (rNM X.K g)
noncomputable def zar(g:GN)(mm:MA):ME:=fun ρ st=>(mm ρ st).bind fun (xs,s)=>g xs s
theorem zfJ{g:GN}{σ:L2.St}{Q:VK}(h:tE K (zar g mm) σ H Q):tCB (rNM K g) (tA K mm) σ H Q:=by
 obtain⟨ρ,st,io,d,st',E,S,e,k⟩:=h;obtain⟨⟨xs,s1⟩,e1,e⟩:=zac e;exact⟨ρ,st,io,xs,s1,E,S,e1,fun vs H1 k1 X1 S1 R1=>⟨xs,s1,io++k1,d,st',R1,S1,e,k.on S1 X1⟩⟩
theorem zax{x:Str}{p:Pos}{id:String}{g:GN}(hc:zg8 X (.builtin id) g)(hg:Gl X x)(hm:X.mg x=none)(hv:bootBuiltins x=some (.builtin id))(ha:SA X (e::es) mm)(hn:x≠"__name__":=by decide)(hdb:(x==("__debug__":Str))=false:=by decide)
   (he:starEach (e::es) X.env=(false,eval e X.env)::starEach es X.env:=by rfl) (hpl:(backTo pos (starEach es X.env)).any (·.1)=false:=by rfl):SE X (.Call (.Name x p) (e::es) [] pos) (zar g mm) :=
 PE.imp (zeK hc hg hm hv ha hn hdb he hpl) fun _ _ _ h=>zfJ h
theorem zce{x:Str}{p:Pos}{T:String}{g:GN}(hc:zg8 X (.type T) g)(hg:Gl X x)(hm:X.mg x=none)(hv:bootBuiltins x=some (.type T))(ha:SA X (e::es) mm)(hn:x≠"__name__":=by decide)(hdb:(x==("__debug__":Str))=false:=by decide)
   (he:starEach (e::es) X.env=(false,eval e X.env)::starEach es X.env:=by rfl) (hpl:(backTo pos (starEach es X.env)).any (·.1)=false:=by rfl):SE X (.Call (.Name x p) (e::es) [] pos) (zar g mm) :=
 PE.imp (zgr hc hg hm hv ha hn hdb he hpl) fun _ _ _ h=>zfJ h
noncomputable def spM(K:Ac)(n:Nat)(g:GN):Sp:=fun vs H Q _=>∃ ds st io d st',vs.length=n/\Reps K H io vs ds/\StR K H io st/\g ds st=some (d,st')/\Bh K io H st' d Q
theorem zlX{x:Str}{p:Pos}{k:Nat}{f:Addr}{fd:FuncData}{ps:List Str}{n:Nat}{g:GN}(F:FnOk X.prog X.w X.K X.mg X.base CX0 k f fd ps (spM X.K n g))(hr:Room k X.A)(hg:Gl X x)(hm:X.mg x=some (.ref f))(hk:Bx X.K (.ref f)=true)(hb:Binds X.K fd ps [])
   (ha:SA X (e::es) mm) (hdb:(x==("__debug__":Str))=false:=by decide) (he:starEach (e::es) X.env=(false,eval e X.env)::starEach es X.env:=by rfl) (hpl:(backTo pos (starEach es X.env)).any (·.1)=false:=by rfl) (hn:(e::es).length=n:=by rfl)
   (hl:∀ ρ st xs s,mm ρ st=some (xs,s)->xs.length=n) :
   SE X (.Call (.Name x p) (e::es) [] pos) (zar g mm):=PE.imp (zmj F hr hg hm hk hb .nil zoZ ha hdb he hpl) <| by
 rintro σ H Q ⟨ρ,st,io,d,st',E,S,e,k⟩;obtain⟨⟨xs,s1⟩,e1,e⟩:=zac e;refine⟨ρ,st,io,xs,s1,E,S,e1,fun vs H1 k1 X1 S1 R1=>⟨xs,s1,io++k1,d,st',?_,?_,S1,e,k.on S1 X1⟩⟩
 . rw[Ao,R1.length];exact hl _ _ _ _ e1
 . rw[Ao];exact R1
theorem zkM{ρ:Rho}{st:Sto}{xs:List D}{s:Sto}(h:mNil ρ st=some (xs,s)):xs.length=0:=by cases h;rfl
theorem ziZ{ρ:Rho}{st:Sto}{xs:List D}{s:Sto}{n:Nat}(hr:∀ ρ st xs s,mm ρ st=some (xs,s)->xs.length=n)(h:zad m mm ρ st=some (xs,s)):xs.length=n+1:=by
 obtain⟨⟨x,s1⟩,e1,e⟩:=zac h;obtain⟨⟨ys,s2⟩,e2,e⟩:=zac e;cases e;rw[Bo,hr _ _ _ _ e2]
noncomputable def Wn(K:Ac)(io:List Addr)(H:Hp)(st':Sto)(N:Ends):Fl->Prop
 | .nx ρ'=>∀ σ' H' ka,Ext io ka H H'->StR K H' (io++ka) st'->EnvR K H' (io++ka) σ' ρ'->N.nx σ' H'
 | .bk ρ'=>∀ σ' H' ka,Ext io ka H H'->StR K H' (io++ka) st'->EnvR K H' (io++ka) σ' ρ'->N.bk σ' H'
 | .ct ρ'=>∀ σ' H' ka,Ext io ka H H'->StR K H' (io++ka) st'->EnvR K H' (io++ka) σ' ρ'->N.ct σ' H'
 | .rt d=>Bh K io H st' d N.rt
inductive tSi (K:Ac) (m:MS) (N:Ends) (σ:L2.St) (H:Hp):Prop
 | mk (ρ:Rho) (st:Sto) (io:List Addr) (f:Fl) (st':Sto) (h1:EnvR K H io σ ρ) (h2:StR K H io st) (h3:m ρ st=some (f,st')) (h4:Wn K io H st' N f)
theorem zc0{N:Ends}{σ:L2.St}{H:Hp}:tS K ms N σ H ↔ tSi K ms N σ H:=by
 constructor
 . rintro ⟨ρ,st,io,f,st',E,S,e,k⟩;exact⟨ρ,st,io,f,st',E,S,e,by cases f <;> exact k⟩
 . rintro ⟨ρ,st,io,f,st',E,S,e,k⟩;exact⟨ρ,st,io,f,st',E,S,e,by cases f <;> exact k⟩
theorem zfv{P:L2.St->Hp->Prop}{ρ':Rho}(h:∀ σ' H' ka,Ext io ka H H'->StR K H' (io++ka) st'->EnvR K H' (io++ka) σ' ρ'->P σ' H')(X1:Ext io ka H H1)(S1:StR K H1 (io++ka) st) :
   ∀ σ' H' kb,Ext (io++ka) kb H1 H'->StR K H' ((io++ka)++kb) st'->EnvR K H' ((io++ka)++kb) σ' ρ'->P σ' H':=fun σ' H' kb E' S' R' =>
 h σ' H' (ka++kb) (X1.trans S1 E') (by rw[<-Ai];exact S') (by rw[<-Ai];exact R')
theorem Wn.on{N:Ends}{f:Fl}(h:Wn K io H st' N f)(X1:Ext io ka H H1)(S1:StR K H1 (io++ka) st):Wn K (io++ka) H1 st' N f:=by
 cases f with
 | nx ρ'=>exact zfv h X1 S1
 | bk ρ'=>exact zfv h X1 S1
 | ct ρ'=>exact zfv h X1 S1
 | rt d=>exact Bh.on h S1 X1
theorem zj3{N:Ends}{σ:L2.St}{ρ:Rho}{f:Fl}(E:EnvR K H io σ ρ)(S:StR K H io st)(e:ms ρ st=some (f,st'))(w:Wn K io H st' N f):tS K ms N σ H:=zc0.mpr ⟨ρ,st,io,f,st',E,S,e,w⟩
theorem znn{N:Ends}{σ:L2.St}{ρ:Rho}{f:Fl}{s1:Sto}(X1:Ext io ka H H1)(S1:StR K H1 (io++ka) s1)(E:EnvR K H1 (io++ka) σ ρ)(e:ms ρ s1=some (f,st'))(w:Wn K io H st' N f):tS K ms N σ H1 :=
 zj3 E S1 e (w.on X1 S1)
noncomputable def ze9:MS:=fun ρ st=>some (.nx ρ,st)
theorem zlC:SSs X [] ze9:=PSs.imp zl4 fun N σ H h=>by
 obtain⟨ρ,st,io,f,st',E,S,e,w⟩:=zc0.mp h;cases e;exact w σ H [] Ext.refl S.nil (by rw[Ao];exact E)
noncomputable def mSeq(m n:MS):MS:=fun ρ st=>(m ρ st).bind fun (f,s)=>match f with
 | .nx ρ1=>n ρ1 s
 | f=>some (f,s)
theorem zj7(h1:SS X st1 ms)(h2:SSs X rest mq):SSs X (st1::rest) (mSeq ms mq):=PSs.imp (zko h1 h2) fun N σ H h=>by
 obtain⟨ρ,st,io,f,st',E,S,e,w⟩:=zc0.mp h;obtain⟨⟨f1,s1⟩,e1,e⟩:=zac e;refine zj3 E S e1 ?_
 cases f1 with
 | nx ρ1=>exact fun σ' H' ka X' S' R'=>znn X' S' R' e w
 | bk ρ1=>cases e;exact w
 | ct ρ1=>cases e;exact w
 | rt d=>cases e;exact w
theorem zlB(h1:SS X st1 ms):SSs X [st1] ms:=zl3 h1
noncomputable def mExp(m:ME):MS:=fun ρ st=>(m ρ st).map fun (_,s)=>(.nx ρ,s)
noncomputable def mRet(m:ME):MS:=fun ρ st=>(m ρ st).map fun (d,s)=>(.rt d,s)
theorem zai{α β:Type}{x:Option α}{f:α->β}{y:β}(h:x.map f=some y):∃ z,x=some z/\f z=y:=by
 cases x with
 | none=>cases h
 | some z=>exact⟨z,rfl,Az h⟩
theorem zgj(he:SE X e m)(hs:swapsWith e none pos.line X.env=pure false:=by rfl):SS X (.Expr e pos) (mExp m):=PS.imp (zl5 he hs) fun N σ H h=>by
 obtain⟨ρ,st,io,f,st',E,S,e,w⟩:=zc0.mp h;obtain⟨⟨d,s1⟩,e1,e⟩:=zai e;cases e;exact⟨ρ,st,io,d,_,E,S,e1,fun v H' ka X' S' R'=>w σ H' ka X' S' (E.ext S X')⟩
theorem zaV(he:SE X e m):SS X (.Return (some e) pos) (mRet m):=PS.imp (znR he) fun N σ H h=>by
 obtain⟨ρ,st,io,f,st',E,S,e,w⟩:=zc0.mp h;obtain⟨⟨d,s1⟩,e1,e⟩:=zai e;cases e;exact⟨ρ,st,io,d,_,E,S,e1,w⟩
noncomputable def mIf(c:MT)(m n:MS):MS:=fun ρ st=>(c ρ st).bind fun (b,s)=>if b=true then m ρ s else n ρ s
theorem zpj(hc:SB X c mt)(h1:SSs X body ms)(h2:SSs X orelse mq):SS X (.If c body orelse pos) (mIf mt ms mq):=PS.imp (zpp hc h1 h2) fun N σ H h=>by
 obtain⟨ρ,st,io,f,st',E,S,e,w⟩:=zc0.mp h;obtain⟨⟨x,s1⟩,e1,e⟩:=zac e;refine⟨ρ,st,io,x,s1,E,S,e1,fun H1 k1 X1 S1=>?_⟩
 cases x with
 | true=>rw[if_pos rfl];exact znn X1 S1 (E.ext S X1) e w
 | false=>rw[if_neg (by decide)];exact znn X1 S1 (E.ext S X1) e w
noncomputable def gNm(i:Nat):MG:=fun d ρ st=>some (ρ.set i (some d),st)
theorem zaD{i:Nat}{x:Str}(hN:X.N.Nodup)(hi:X.N[i]?=some x)(hx:Loc X.env.scope x)(hf:X.fn x=true\/X.env.scope.names.lookup x=some .local:=by first | exact .inl rfl | exact .inr rfl | assumption):SG X (.Name x pos) (gNm i) :=
 PG.imp (zmd hN hi hx hf) <| by
   rintro v σ H Q ⟨d,ρ,st,io,ρ',st',R,E,S,e,k⟩;cases e;exact k _ H [] Ext.refl S.nil (by rw[Ao];exact E.set i R)
noncomputable def gN0:MGs:=fun ds ρ st=>match ds with
 | []=>some (ρ,st)
 | _=>none
noncomputable def gC(g:MG)(h:MGs):MGs:=fun ds ρ st=>match ds with
 | d::r=>(g d ρ st).bind fun (ρ1,s1)=>h r ρ1 s1
 | []=>none
theorem zdT:SGs X [] gN0:=PGs.imp zmc <| by
 rintro v σ H Q ⟨ds,ρ,st,io,ρ',st',R,E,S,e,k⟩
 cases ds with
 | nil=>cases e;exact⟨R,k σ H [] Ext.refl S.nil (by rw[Ao];exact E)⟩
 | cons d r=>cases e
theorem zbk(h1:SG X e mg)(h2:SGs X es mgs)(hs:(assignEach (e::es) X.env).map (·.2)=assign e X.env::(assignEach es X.env).map (·.2):=by rfl):SGs X (e::es) (gC mg mgs) :=
 PGs.imp (zkv h1 h2 hs) <| by
   rintro v σ H Q ⟨ds,ρ,st,io,ρ',st',R,E,S,e,k⟩
   cases ds with
   | nil=>cases e
   | cons d r =>
     obtain⟨y,ys,rfl,r1,rs⟩:=R;obtain⟨⟨ρ1,s1⟩,e1,e⟩:=zac e;refine⟨y,ys,rfl,d,ρ,st,io,ρ1,s1,r1,E,S,e1,fun σ1 H1 k1 X1 S1 E1=>?_⟩;exact⟨r,ρ1,s1,io++k1,ρ',st',rs.ext S X1,E1,S1,e,zfv k X1 S1⟩
noncomputable def gTp(n:Nat)(h:MGs):MG:=fun d ρ st=>match d with
 | .tup ds=>if ds.length=n then h ds ρ st else none
 | _=>none
theorem zfV{k:Nat}{n:Nat}(hc:X.calm=true)(h:SGs X es mgs)(hn:(assignEach es X.env).length=n:=by rfl)(hst:(assignEach es X.env).findIdx? (·.1)=none:=by rfl):SG X (.Tuple es k pos) (gTp n mgs) :=
 PG.imp (znX hc h hn hst) <| by
   rintro v σ H Q ⟨d,ρ,st,io,ρ',st',R,E,S,e,k⟩
   cases d with
   | tup ds =>
     obtain⟨a,xs,rfl,hq,rs⟩:=R;obtain⟨hl,e⟩:=zaq e;exact⟨a,xs,rfl,SqT.of hq,by rw[rs.length];exact hl,ds,ρ,st,io,ρ',st',rs,E,S,e,k⟩
   | _=>cases e
noncomputable abbrev G3:=D->D->D->Sto->Option Sto
inductive tSetM (K:Ac) (g:G3) (o i v:V) (H:Hp) (Q:Hp->Prop):Prop
 | mk (d1 d2 d3:D) (st:Sto) (io:List Addr) (st':Sto) (h0:Rep K H io o d1) (h1:Rep K H io i d2) (h2:Rep K H io v d3) (h3:StR K H io st) (h4:g d1 d2 d3 st=some st') (h5:∀ H' ka,Ext io ka H H'->StR K H' (io++ka) st'->Q H')
def SetM(X:Cx)(g:G3):Prop:=PSet X (tSetM X.K g)
noncomputable def gSb(g:G3)(mo mi:ME):MG:=fun d ρ st=>(mo ρ st).bind fun (o,s1)=>(mi ρ s1).bind fun (i,s2)=>(g o i d s2).map fun s3=>(ρ,s3)
theorem znD{o i:Expr}{mo mi:ME}{g:G3}(ho:SE X o mo)(hi:SE X i mi)(hs:SetM X g)
   (ha:∀ v,assign (.Subscript o i pos) X.env v=(do
     let ov <-holding [v] (eval o X.env)
     let iv <-holding [v,ov] (eval i X.env)
     standAt pos
     holding [v,ov,iv] (setItem ov iv v)
     release [v,ov,iv] []):=by intro _;rfl):SG X (.Subscript o i pos) (gSb g mo mi) :=
 PG.imp (znY ho hi hs ha) <| by
   rintro v σ H Q ⟨d,ρ,st,io,ρ',st',R,E,S,e,k⟩;obtain⟨⟨x,s1⟩,e1,e⟩:=zac e;obtain⟨⟨y,s2⟩,e2,e⟩:=zac e;obtain⟨s3,e3,e⟩:=zai e;cases e;refine⟨ρ,st,io,x,s1,E,S,e1,fun v1 H1 k1 X1 S1 R1=>⟨ρ,s1,io++k1,y,s2,E.ext S X1,S1,e2,fun v2 H2 k2 X2 S2 R2=>?_⟩⟩;have X12:=X1.trans S1 X2;refine⟨x,y,d,s2,(io++k1)++k2,_,R1.ext S1 X2,R2,(R.ext S X1).ext S1 X2,S2,e3,fun H3 k3 X3 S3=>?_⟩;rw[Ai] at X3 S2;rw[Ai,Ai] at S3;refine k σ H3 ((k1++k2)++k3) (X12.trans S2 X3) (by simpa using S3) ?_;have E2:EnvR X.K H2 (io++(k1++k2)) σ ρ:=E.ext S X12;have:=E2.ext S2 X3;simpa using this
noncomputable def mAsg(m:ME)(g:MG):MS:=fun ρ st=>(m ρ st).bind fun (d,s1)=>(g d ρ s1).map fun (ρ',s2)=>(.nx ρ',s2)
theorem zjo{N:Ends}{σ:L2.St}{H:Hp}(h:tS K (mAsg m mg) N σ H):tAsg (tE K m) (tG K mg) N σ H:=by
 obtain⟨ρ,st,io,f,st',E,S,e,w⟩:=zc0.mp h;obtain⟨⟨x,s1⟩,e1,e⟩:=zac e;obtain⟨⟨ρ',s2⟩,e2,e⟩:=zai e;cases e;exact⟨ρ,st,io,x,s1,E,S,e1,fun v1 H1 k1 X1 S1 R1=>⟨x,ρ,s1,io++k1,ρ',_,R1,E.ext S X1,S1,e2,zfv w X1 S1⟩⟩
theorem zlE{tg:Expr}(he:SE X e m)(hg:SG X tg mg)(hs:swapsWithSole [tg] e pos.line X.env=pure false:=by rfl)(hw:swappedStores [tg] e X.env=pure none:=by rfl)
   (h1:(assignEach [tg] X.env).map (·.2)=[assign tg X.env]:=by rfl):SS X (.Assign [tg] e pos) (mAsg m mg):=PS.imp (znU he hg hs hw h1) fun _ _ _ h=>zjo h
theorem zbd{i:Nat}{x:Str}{pos':Pos}(hN:X.N.Nodup)(hi:X.N[i]?=some x)(hx:Loc X.env.scope x)(he:SE X e m)(hs:swapsWith e (some (.Name x pos')) pos.line X.env=pure false:=by rfl)(hf:X.fn x=true\/X.env.scope.names.lookup x=some .local:=by first | exact .inl rfl | exact .inr rfl | assumption) :
   SS X (.Assign [.Name x pos'] e pos) (mAsg m (gNm i)):=PS.imp (znQ hN hi hx he hs hf) fun N σ H h=>by
 obtain⟨ρ,st,io,f,st',E,S,e,w⟩:=zc0.mp h;obtain⟨⟨x,s1⟩,e1,e⟩:=zac e;obtain⟨⟨ρ',s2⟩,e2,e⟩:=zai e;cases e;cases e2;exact⟨ρ,st,io,x,_,E,S,e1,fun v1 H1 k1 X1 S1 R1=>w _ H1 k1 X1 S1 ((E.ext S X1).set i R1)⟩
structure Wk where
 ds:List D
 g:List (Nat×List D)
def stays(W:Wk)(st:Sto):Prop:=∀ p,p∈W.g->st[p.1]?=some (.lst p.2)\/st[p.1]?=some (.fz p.2)
structure ItOk(K:Ac)(H0:Hp)(io:List Addr)(W:Wk)(J:It):Prop where
 go:∀ i d H ka st,W.ds[i]?=some d->Ext io ka H0 H->StR K H (io++ka) st->stays W st->J.go i H/\∀ x H',J.yld i H x H'->Ext (io++ka) [] H H'/\StR K H' (io++ka) st/\Rep K H' (io++ka) x d
 stop:∀ H ka st,Ext io ka H0 H->StR K H (io++ka) st->stays W st->J.stop W.ds.length H
 stop':∀ H ka st i,W.ds.length<=i->Ext io ka H0 H->StR K H (io++ka) st->stays W st->J.stop i H
noncomputable abbrev MI:=Rho->Sto->Option (Wk×Sto)
inductive tI (K:Ac) (m:MI) (σ:L2.St) (H:Hp) (R:It->Hp->Prop):Prop
 | mk (ρ:Rho) (st:Sto) (io:List Addr) (W:Wk) (st':Sto) (h1:EnvR K H io σ ρ) (h2:StR K H io st) (h3:m ρ st=some (W,st')) (h4:∀ J H' ka,Ext io ka H H'->StR K H' (io++ka) st'->ItOk K H' (io++ka) W J->R J H')
def SI(X:Cx)(tg iter:Expr)(m:MI):Prop:=PI X tg iter (tI X.K m)
theorem PI.imp{tg iter:Expr}{t u:TI}(h:PI X tg iter t)(k:∀ σ H R,u σ H R->t σ H R):PI X tg iter u:=fun pins s σ H R I q=>h pins s σ H R I (k σ H R q)
end
mutual
noncomputable def D.eqb:D->D->Bool
 | .non,.non=>true
 | .bl a,.bl b=>a==b
 | .int a,.int b=>decide (a=b)
 | .str a,.str b=>decide (a=b)
 | .tup a,.tup b=>D.eqbs a b
 | .ref a,.ref b=>decide (a=b)
 | .kl a,.kl b=>D.eqbs a b
 | _,_=>false
noncomputable def D.eqbs:List D->List D->Bool
 | [],[]=>true
 | a::as,b::bs=>D.eqb a b&&D.eqbs as bs
 | _,_=>false
end
mutual
theorem D.eqb_refl:∀ a:D,D.eqb a a=true
 | .non=>rfl
 | .bl a=>by simp[D.eqb]
 | .int a=>by simp[D.eqb]
 | .str a=>by simp[D.eqb]
 | .tup a=>by rw[D.eqb];exact D.eqbs_refl a
 | .ref a=>by simp[D.eqb]
 | .kl a=>by rw[D.eqb];exact D.eqbs_refl a
theorem D.eqbs_refl:∀ a:List D,D.eqbs a a=true
 | []=>rfl
 | a::as=>by rw[D.eqbs,D.eqb_refl a,D.eqbs_refl as];rfl
end
mutual
theorem D.eq_of:∀ {a b:D},D.eqb a b=true->a=b
 | .non,b,h=>by cases b <;> simp[D.eqb] at h ⊢
 | .bl a,b,h=>by cases b <;> simp[D.eqb] at h ⊢;exact h
 | .int a,b,h=>by cases b <;> simp[D.eqb] at h ⊢;exact h
 | .str a,b,h=>by cases b <;> simp[D.eqb] at h ⊢;exact h
 | .tup a,.tup b,h=>by rw[D.eqb] at h;rw[D.eqs_of h]
 | .tup a,.non,h=>by simp[D.eqb] at h
 | .tup a,.bl _,h=>by simp[D.eqb] at h
 | .tup a,.int _,h=>by simp[D.eqb] at h
 | .tup a,.str _,h=>by simp[D.eqb] at h
 | .tup a,.ref _,h=>by simp[D.eqb] at h
 | .tup a,.kl _,h=>by simp[D.eqb] at h
 | .kl a,.kl b,h=>by rw[D.eqb] at h;rw[D.eqs_of h]
 | .kl a,.non,h=>by simp[D.eqb] at h
 | .kl a,.bl _,h=>by simp[D.eqb] at h
 | .kl a,.int _,h=>by simp[D.eqb] at h
 | .kl a,.str _,h=>by simp[D.eqb] at h
 | .kl a,.ref _,h=>by simp[D.eqb] at h
 | .kl a,.tup _,h=>by simp[D.eqb] at h
 | .ref a,b,h=>by cases b <;> simp[D.eqb] at h ⊢;exact h
theorem D.eqs_of:∀ {a b:List D},D.eqbs a b=true->a=b
 | [],[],_=>rfl
 | [],_::_,h=>by simp[D.eqbs] at h
 | _::_,[],h=>by simp[D.eqbs] at h
 | a::as,b::bs,h=>by
   rw[D.eqbs,AA] at h;rw[D.eq_of h.1,D.eqs_of h.2]
end
noncomputable instance:DecidableEq D:=fun a b=>if h:D.eqb a b=true then .isTrue (D.eq_of h) else .isFalse fun e=>h (by rw[e];exact D.eqb_refl b)
noncomputable def zh6(st:Sto)(n:Nat)(ds:List D):Bool:=match st[n]? with
 | some (.lst xs)=>D.eqbs xs ds
 | some (.fz xs)=>D.eqbs xs ds
 | _=>false
theorem zjb{st:Sto}{n:Nat}{ds:List D}(h:zh6 st n ds=true):st[n]?=some (.lst ds)\/st[n]?=some (.fz ds):=by
 unfold zh6 at h
 split at h
 . rename_i xs e;rw[D.eqs_of h] at e;exact .inl e
 . rename_i xs e;rw[D.eqs_of h] at e;exact .inr e
 . cases h
theorem zh5{st:Sto}{n:Nat}{ds:List D}(h:st[n]?=some (.lst ds)):zh6 st n ds=true:=by unfold zh6;rw[h];exact D.eqbs_refl ds
section
variable {X:Cx} {e a b c:Expr} {es:List Expr} {st1 st2:Stmt} {rest body orelse:List Stmt} {pos:Pos} {m ma mb mc:ME} {mt mu:MT} {mm:MA} {ms mq mr:MS} {mg:MG} {mgs:MGs} {mi:MI}
variable {K:Ac} {H H1 H2:Hp} {io ka kb:List Addr} {st st':Sto}
noncomputable def walked(W:Wk)(st:Sto):Bool:=W.g.all fun p=>zh6 st p.1 p.2
theorem zcX{W:Wk}(h:walked W st=true):stays W st:=fun p hp=>zjb (List.all_eq_true.mp h p hp)
noncomputable def zgv(W:Wk)(g:MG)(m:MS):List D->Rho->Sto->Option (Fl×Sto)
 | [],ρ,st=>if walked W st=true then some (.nx ρ,st) else none
 | d::ds,ρ,st=>if walked W st=true then (g d ρ st).bind fun (ρ1,s1)=>(m ρ1 s1).bind fun (f,s2)=>match f with
   | .nx ρ2=>zgv W g m ds ρ2 s2
   | .ct ρ2=>zgv W g m ds ρ2 s2
   | .bk ρ2=>some (.nx ρ2,s2)
   | .rt d=>some (.rt d,s2) else none
noncomputable def mFor(mi:MI)(g:MG)(m:MS):MS:=fun ρ st=>(mi ρ st).bind fun (W,s)=>zgv W g m W.ds ρ s
theorem znw{tg iter:Expr}(hp:PassesOwn (model X.prog X.w) X.A X.env X.xe)(hc:X.calm=true)(hi:SI X tg iter mi)(hg:SG X tg mg)(hb:SSs X body ms)
   (hs:∀ x,foldedSetIterable iter X.env x=pure x:=by intro _;rfl):SS X (.For tg iter body [] pos) (mFor mi mg ms):=PS.imp (znT hp hc hi hg hb hs) fun N σ H h=>by
 obtain⟨ρ,st,io,f,st',E,S,e,w⟩:=zc0.mp h;obtain⟨⟨W,s1⟩,e1,e⟩:=zac e;refine⟨ρ,st,io,W,s1,E,S,e1,fun J H1 k1 X1 S1 IO=>?_⟩;refine⟨fun i n σ2 H2=>n=W.ds.length - i/\∃ ρ2 s2 k2,Ext (io++k1) k2 H1 H2/\StR X.K H2 ((io++k1)++k2) s2/\EnvR X.K H2 ((io++k1)++k2) σ2 ρ2/\zgv W mg ms (W.ds.drop i) ρ2 s2=some (f,st'),
   ⟨_,rfl,ρ,s1,[],Ext.refl,by rw[Ao];exact S1,by rw[Ao];exact E.ext S X1,by rw[EZ];exact e⟩,?_⟩
 rintro i n σ2 H2 ⟨rfl,ρ2,s2,k2,X2,S2,E2,e2⟩;have w2:Wn X.K ((io++k1)++k2) H2 st' N f:=(w.on X1 S1).on X2 S2
 cases hd:W.ds[i]? with
 | none =>
   have hl:W.ds.length<=i:=List.getElem?_eq_none_iff.mp hd;rw[DT hl] at e2;obtain⟨hw,e2⟩:=zaq e2;cases e2;refine .inl ⟨?_,w2 σ2 H2 [] Ext.refl S2.nil (by rw[Ao];exact E2)⟩
   -- the end may lie behind
   by_cases hi:i=W.ds.length
   . rw[hi];exact IO.stop H2 k2 _ X2 S2 (zcX hw)
   . exact IO.stop' H2 k2 _ i hl X2 S2 (zcX hw)
 | some d =>
   have hl:i < W.ds.length:=(List.getElem?_eq_some_iff.mp hd).1;have hdr:W.ds.drop i=d::W.ds.drop (i+1):=by
     rw[Ds hl,(List.getElem?_eq_some_iff.mp hd).2]
   rw[hdr] at e2;obtain⟨hw,e2⟩:=zaq e2;obtain⟨⟨ρ3,s3⟩,e3,e2⟩:=zac e2;obtain⟨⟨f4,s4⟩,e4,e2⟩:=zac e2;obtain⟨go,yl⟩:=IO.go i d H2 k2 s2 hd X2 S2 (zcX hw);refine .inr ⟨go,fun σ5 H5=>∃ ρ5 s5 k5,Ext (io++k1) k5 H1 H5/\StR X.K H5 ((io++k1)++k5) s5/\EnvR X.K H5 ((io++k1)++k5) σ5 ρ5/\zgv W mg ms (W.ds.drop (i+1)) ρ5 s5=some (f,st'),
     fun σ5 H5 h5=>⟨W.ds.length - (i+1),by omega,rfl,h5⟩,fun x H' y=>?_⟩
   obtain⟨X3,S3,R3⟩:=yl x H' y;have X23:Ext (io++k1) k2 H1 H':=(X2.trans S2 X3).app;refine⟨d,ρ2,s2,(io++k1)++k2,ρ3,s3,R3,?_,S3,e3,fun σ6 H6 k6 X6 S6 E6=>?_⟩
   . have:=E2.ext S2 X3;rw[Ao] at this;exact this
   . refine zj3 E6 S6 e4 ?_;have X26:=X23.trans S3 X6;have S6':StR X.K H6 ((io++k1)++(k2++k6)) s3:=by rw[<-Ai];exact S6
     have fin:∀ {ρ7:Rho},zgv W mg ms (W.ds.drop (i+1)) ρ7 s4=some (f,st')->∀ σ7 H7 k7,Ext ((io++k1)++k2++k6) k7 H6 H7->StR X.K H7 ((io++k1)++k2++k6++k7) s4->EnvR X.K H7 ((io++k1)++k2++k6++k7) σ7 ρ7 ->
         ∃ ρ5 s5 k5,Ext (io++k1) k5 H1 H7/\StR X.K H7 ((io++k1)++k5) s5/\EnvR X.K H7 ((io++k1)++k5) σ7 ρ5/\zgv W mg ms (W.ds.drop (i+1)) ρ5 s5=some (f,st'):=by
       intro ρ7 e7 σ7 H7 k7 X7 S7 E7;rw[Ai (io++k1)] at X7;rw[Ai (io++k1),Ai (io++k1)] at S7 E7;exact⟨ρ7,s4,(k2++k6)++k7,X26.trans S6' X7,S7,E7,e7⟩
     cases f4 with
     | nx ρ7=>exact fin e2
     | ct ρ7=>exact fin e2
     | bk ρ7 =>
       cases e2;exact ((w.on X1 S1).on X23 S3).on X6 S6
     | rt dd =>
       cases e2;exact ((w.on X1 S1).on X23 S3).on X6 S6
end
section
variable {X:Cx} {e a b c:Expr} {es:List Expr} {st1 st2:Stmt} {rest body orelse:List Stmt} {pos:Pos} {m ma mb mc:ME} {mt mu:MT} {mm:MA} {ms mq mr:MS} {mg:MG} {mgs:MGs} {mi:MI}
variable {K:Ac} {H H1 H2:Hp} {io ka kb:List Addr} {st st':Sto}
theorem zf2{ρ:Rho}{x:D}{xs:List D}{s s1 s2:Sto}(h1:m ρ s=some (x,s1))(h2:mm ρ s1=some (xs,s2)):zad m mm ρ s=some (x::xs,s2):=by
 unfold zad;rw[h1];show Fw (mm ρ s1) _=_;rw[h2];rfl
noncomputable def zcc(st:Sto)(n:Nat):Option (List D):=match st[n]? with
 | some (.lst ds)=>some ds
 | some (.fz ds)=>some ds
 | _=>none
theorem zbz{n:Nat}{p:Addr}{ds:List D}(S:StR K H io st)(hn:io[n]?=some p)(h:zcc st n=some ds):∃ xs,SqL K H p xs/\Reps K H io xs ds:=by
 unfold zcc at h
 split at h
 . rename_i o he;cases h;obtain⟨xs,e,r⟩:=S.ob n p _ hn he;exact⟨xs,SqL.of e,r⟩
 . rename_i o he;cases h;obtain⟨ob,xs,e,r⟩:=S.ob n p _ hn he;exact⟨xs,.inl (.inr ⟨ob,e⟩),r⟩
 . cases h
theorem zdf{n:Nat}{ds:List D}{W:Wk}(hm:(n,ds)∈W.g)(h:stays W st):zcc st n=some ds:=by
 unfold zcc
 rcases h _ hm with h | h
 . have h:st[n]?=some (.lst ds):=h;rw[h]
 . have h:st[n]?=some (.fz ds):=h;rw[h]
noncomputable def mWL(m:ME):MI:=fun ρ st=>(m ρ st).bind fun (d,s)=>match d with
 | .ref n=>(zcc s n).map fun ds=>(⟨ds,[(n,ds)]⟩,s)
 | _=>none
noncomputable def mWT(m:ME):MI:=fun ρ st=>(m ρ st).bind fun (d,s)=>match d with
 | .tup ds=>some (⟨ds,[]⟩,s)
 | _=>none
theorem zbT{io ka:List Addr}{n:Nat}{p:Addr}(h:io[n]?=some p):(io++ka)[n]?=some p:=by
 rw[Al (List.getElem?_eq_some_iff.mp h).1];exact h
theorem zoz{n:Nat}{p:Addr}{ds:List D}(hn:io[n]?=some p):ItOk K H io ⟨ds,[(n,ds)]⟩ (Itl K p) where
 go:=fun i d H1 k1 s hd X1 S1 hs=>by
   obtain⟨xs,hx,r⟩:=zbz S1 (zbT hn) (zdf Am hs);obtain⟨v,hv,rv⟩:=r.get hd;refine⟨⟨xs,v,hx,hv⟩,fun x H' y=>?_⟩;obtain⟨rfl,y⟩:=y;have e:=y xs hx;rw[hv] at e;cases e;exact⟨Ext.refl,S1,rv⟩
 stop:=fun H1 k1 s X1 S1 hs=>by
   obtain⟨xs,hx,r⟩:=zbz S1 (zbT hn) (zdf Am hs);exact⟨xs,hx,by rw[r.length];exact Ae _⟩
 stop':=fun H1 k1 s i hi X1 S1 hs=>by
   obtain⟨xs,hx,r⟩:=zbz S1 (zbT hn) (zdf Am hs);exact⟨xs,hx,by rw[r.length];exact hi⟩
theorem zlL{tg l:Expr}(hl:SE X l m):SI X tg l (mWL m):=PI.imp (zmb hl) <| by
 rintro σ H R ⟨ρ,st,io,W,st',E,S,e,k⟩;obtain⟨⟨d,s1⟩,e1,e⟩:=zac e;dsimp only at e
 split at e
 . rename_i n;obtain⟨ds,e2,e⟩:=zai e;cases e;refine⟨ρ,st,io,_,_,E,S,e1,fun v H1 k1 X1 S1 R1=>?_⟩;obtain⟨p,rfl,hn⟩:=R1;obtain⟨xs,hx,r⟩:=zbz S1 hn e2;exact⟨p,rfl,⟨xs,hx⟩,k _ H1 k1 X1 S1 (zoz hn)⟩
 . cases e
theorem zox{st:Sto}{p:Addr}{xs:List V}{ds:List D}(S:StR K H io st)(hp:H p=some (.tup xs))(r:Reps K H io xs ds):ItOk K H io ⟨ds,[]⟩ (Itt K p) where
 go:=fun i d H1 k1 s hd X1 S1 hs=>by
   obtain⟨v,hv,rv⟩:=(r.ext S X1).get hd;have hx:SqT K H1 p xs:=SqT.of (X1.sqT S p xs hp);refine⟨⟨xs,v,hx,hv⟩,fun x H' y=>?_⟩;obtain⟨rfl,y⟩:=y;have e:=y xs hx;rw[hv] at e;cases e;exact⟨Ext.refl,S1,rv⟩
 stop:=fun H1 k1 s X1 S1 hs=>⟨xs,SqT.of (X1.sqT S p xs hp),by rw[r.length];exact Ae _⟩
 stop':=fun H1 k1 s i hi X1 S1 hs=>⟨xs,SqT.of (X1.sqT S p xs hp),by rw[r.length];exact hi⟩
theorem znB{tg l:Expr}(hl:SE X l m):SI X tg l (mWT m):=PI.imp (znV hl) <| by
 rintro σ H R ⟨ρ,st,io,W,st',E,S,e,k⟩;obtain⟨⟨d,s1⟩,e1,e⟩:=zac e;dsimp only at e
 split at e
 . rename_i ds;cases e;refine⟨ρ,st,io,_,_,E,S,e1,fun v H1 k1 X1 S1 R1=>?_⟩;obtain⟨p,xs,rfl,hp,r⟩:=R1;exact⟨p,rfl,⟨xs,SqT.of hp⟩,k _ H1 k1 X1 S1 (zox S1 hp r)⟩
 . cases e
noncomputable def run(lo:Int)(n:Nat):List D:=(Au n).map fun (k:Nat)=>D.int (lo+(k:Int))
theorem zb6(lo:Int)(n:Nat):(run lo n).length=n:=by unfold run;rw[Af,BM]
theorem run_get{lo:Int}{n i:Nat}{d:D}(h:(run lo n)[i]?=some d):i < n/\d=.int (lo+(i:Int)):=by
 have hi:i < n:=by
   have q:=(List.getElem?_eq_some_iff.mp h).1
   rwa [zb6] at q
 unfold run at h;rw[Ay,C3 hi] at h;exact⟨hi,(Az h).symm⟩
theorem zoy(lo:Int)(n:Nat):ItOk K H io ⟨run lo n,[]⟩ (Itr lo n) where
 go:=fun i d H1 k1 s hd X1 S1 hs=>by
   obtain⟨hi,rfl⟩:=run_get hd;refine⟨hi,fun x H' y=>?_⟩;obtain⟨rfl,rfl⟩:=y;exact⟨Ext.refl,S1,rfl⟩
 stop:=fun H1 k1 s X1 S1 hs=>by
   show n<=_;rw[zb6];exact Ae _
 stop':=fun H1 k1 s i hi X1 S1 hs=>by
   show n<=i;have hi:(run lo n).length<=i:=hi
   rwa [zb6] at hi
noncomputable def small(j:Int):Bool:=decide (-(2 ^ 62)<=j)&&decide (j < 2 ^ 62)
theorem zfT{j:Int}(h:small j=true):-(2 ^ 62)<=j/\j < 2 ^ 62:=by
 unfold small at h;rw[AA] at h;exact⟨of_decide_eq_true h.1,of_decide_eq_true h.2⟩
noncomputable def mR1(m:ME):MI:=fun ρ st=>(m ρ st).bind fun (d,s)=>match d with
 | .int j=>if small j=true then some (⟨run 0 j.toNat,[]⟩,s) else none
 | _=>none
theorem zbx{tg a:Expr}{p pos:Pos}(hg:Gl X "range")(hm:X.mg "range"=none)(ha:SE X a m)(hs:starEach [a] X.env=[(false,eval a X.env)]:=by rfl):SI X tg (.Call (.Name "range" p) [a] [] pos) (mR1 m) :=
 PI.imp (ziS hg hm (zaa ha zaf hs) hs) <| by
   rintro σ H R ⟨ρ,st,io,W,st',E,S,e,k⟩;obtain⟨⟨d,s1⟩,e1,e⟩:=zac e;dsimp only at e
   split at e
   . rename_i j;obtain⟨hj,e⟩:=zaq e;cases e;refine⟨ρ,st,io,[.int j],_,E,S,(zf2 e1 rfl),fun vs H1 k1 X1 S1 R1=>?_⟩;obtain⟨v,rfl,rfl⟩:=R1.one;exact⟨j,rfl,(zfT hj).1,(zfT hj).2,k _ H1 k1 X1 S1 (zoy 0 _)⟩
   . cases e
end
noncomputable def rho(n:Nat)(ds:List D):Rho:=ds.map some++Bk (n - ds.length) none
noncomputable def fnM(n:Nat)(m:MS):GN:=fun ds st=>(m (rho n ds) st).bind fun (f,s)=>match f with
 | .rt d=>some (d,s)
 | .nx _=>some (.non,s)
 | _=>none
theorem zjf{K:Ac}{H:Hp}{io:List Addr}{N:List Str}{vs:List V}{ds:List D}(R:Reps K H io vs ds):EnvR K H io (start N vs) (rho N.length ds):=by
 have hl:=R.length;refine⟨by unfold start rho;simp[hl],fun i d h=>?_⟩;unfold rho at h;unfold start
 by_cases hi:i < ds.length
 . rw[Al (by simpa using hi),Ay] at h
   cases e:ds[i]? with
   | none=>rw[e] at h;cases h
   | some d' =>
     rw[e] at h
     cases (Az (Az h))
     obtain⟨v,hv,r⟩:=R.get e;exact⟨v,by rw[Al (by simpa[hl] using hi),Ay,hv];rfl,r⟩
 . rw[AK (by simpa using hi),BW] at h
   split at h <;> cases h
section
variable {P:Program} {w:World} {K:Ac} {mg:Str->Option Value} {base:Heap}
theorem fn_m{x qual:Str}{st:Stmt}{f:Addr}{fd:FuncData}{N ps:List Str}{k:Nat}{m:MS}(F:Fun K x qual st f fd)(S:FnScope N ps (zal st))
   (hbody:∀ (cdv:Value) (A:Around) (outer:List Env) (s:Shared) (H:Hp) (E:XK),Room k (A.deeper (envOfC qual (zal st) s.heap.objs.size f cdv)) ->
     SSs (cxOf CX0 P w K mg base N qual (zal st) f cdv A outer s H E).nox (zcz st) m):FnOk P w K mg base CX0 (k+1) f fd ps (spM K ps.length (fnM N.length m)):=by
 refine F.ok S (fun vs H Q E ⟨_,_,_,_,_,h,_⟩=>h) fun cdv A outer s H vs Q E hr h=>?_;obtain⟨ds,st0,io,d,st',hl,R,SR,e,k'⟩:=h;refine⟨_,hbody cdv A outer s H E hr,?_⟩;obtain⟨⟨fl,s1⟩,e1,e⟩:=zac e;refine zj3 (zjf R) SR e1 ?_
 cases fl with
 | rt dd=>cases e;exact k'
 | nx ρ=>cases e;exact fun σ' H' ka X' S' E'=>k' .non H' ka X' S' rfl
 | bk ρ=>cases e
 | ct ρ=>cases e
end
noncomputable def clOf(cells:List (Str×Addr)):List (Str×NameKind)->List (Str×Addr)->List (Str×Addr)
 | [],acc=>acc
 | (n,k)::r,acc=>if k==.free then clOf cells r ((n,(cells.lookup n).getD 0)::acc) else clOf cells r acc
theorem zd0{env:Env}(f:Str×NameKind->List (Str×Addr)->Sem (ForInStep (List (Str×Addr))))
   (hf:∀ n k acc,f (n,k) acc=if k==.free then (do let c <-cellOf env n;pure (.yield ((n,c)::acc))) else pure (.yield acc)) :
   ∀ (names:List (Str×NameKind)) (acc:List (Str×Addr)),(∀ n,(n,AC)∈names->∃ c,env.cells.lookup n=some c)->(forIn names acc f:Sem (List (Str×Addr)))=pure (clOf env.cells names acc)
 | [],acc,_=>by rw[DZ];rfl
 | (n,k)::r,acc,h=>by
   rw[List.forIn_cons,hf];unfold clOf
   cases hk:k==AC with
   | false =>
     rw[if_neg (by simp),if_neg (by simp)];have:=zd0 f hf r acc fun m hm=>h m (Ah _ hm);rw[<-this];rfl
   | true =>
     rw[if_pos rfl,if_pos rfl];have hk':k=AC:=by simpa using hk
     obtain⟨c,hc⟩:=h n (by rw[hk'];exact Am);have:=zd0 f hf r ((n,c)::acc) fun m hm=>h m (Ah _ hm);rw[hc,Dz,<-this];unfold cellOf;rw[hc];rfl
theorem zig{env:Env}{scope:Scope}(h:∀ n,(n,AC)∈scope.names->∃ c,env.cells.lookup n=some c):closureFor scope env=pure (clOf env.cells scope.names []):=by
 unfold closureFor;have:=zd0 (env:=env) (fun x acc=>(match x with | (n,k)=>if k==.free then (do let c <-cellOf env n;pure (.yield ((n,c)::acc))) else pure (.yield acc))) (fun _ _ _=>rfl) scope.names [] h;refine Eq.trans ?_ this;simp only[bind_pure]
theorem zf6{cells:List (Str×Addr)}:∀ {names:List (Str×NameKind)} {acc:List (Str×Addr)} {p:Str×Addr},p∈clOf cells names acc->p∈acc\/((p.1,AC)∈names/\p.2=(cells.lookup p.1).getD 0)
 | [],acc,p,h=>.inl h
 | (n,k)::r,acc,p,h=>by
   unfold clOf at h
   cases hk:k==AC with
   | false =>
     rw[hk,if_neg (by simp)] at h
     rcases zf6 h with h | h
     . exact .inl h
     . exact .inr ⟨Ah _ h.1,h.2⟩
   | true =>
     rw[hk,if_pos rfl] at h;have hk':k=AC:=by simpa using hk
     rcases zf6 h with h | h
     . rcases List.mem_cons.mp h with h | h
       . subst h;exact .inr ⟨by rw[hk'];exact Am,rfl⟩
       . exact .inl h
     . exact .inr ⟨Ah _ h.1,h.2⟩
theorem ze5{cells:List (Str×Addr)}:∀ {names:List (Str×NameKind)} {acc:List (Str×Addr)} {x:Str},((x,AC)∈names\/(acc.lookup x).isSome=true)->((clOf cells names acc).lookup x).isSome=true
 | [],acc,x,h=>by
   rcases h with h | h
   . exact absurd h (by simp)
   . exact h
 | (n,k)::r,acc,x,h=>by
   unfold clOf
   cases hk:k==AC with
   | false =>
     rw[if_neg (by simp)];refine ze5 ?_
     rcases h with h | h
     . rcases List.mem_cons.mp h with h | h
       . have:k=AC:=(CD h).2.symm;rw[this] at hk;exact absurd hk (by decide)
       . exact .inl h
     . exact .inr h
   | true =>
     rw[if_pos rfl];refine ze5 ?_
     by_cases hx:x=n
     . subst hx;exact .inr (by simp)
     . rcases h with h | h
       . rcases List.mem_cons.mp h with h | h
         . exact absurd (CD h).1 hx
         . exact .inl h
       . refine .inr ?_;rw[A6];have:(x==n)=false:=by simpa using hx
         rw[this];exact h
theorem zeN:∀ {names:List (Str×NameKind)} {n:Nat} {acc:List (Str×Addr)} {p:Str×Addr},p∈cellsFrom n names acc->p∈acc\/n<=p.2
 | [],_,_,_,h=>.inl h
 | (x,k)::r,n,acc,p,h=>by
   unfold cellsFrom at h
   split at h
   . rcases zeN h with h | h
     . rcases List.mem_cons.mp h with h | h
       . subst h;exact .inr (Ae _)
       . exact .inl h
     . exact .inr (BN h)
   . exact zeN h
theorem zdi:∀ {names:List (Str×NameKind)} {n:Nat} {acc:List (Str×Addr)},(acc.Pairwise fun x y=>x.2≠y.2)->(∀ p∈acc,p.2 < n)->(cellsFrom n names acc).Pairwise fun x y=>x.2≠y.2
 | [],_,_,h,_=>h
 | (x,k)::r,n,acc,h,hl=>by
   unfold cellsFrom
   split
   . refine zdi (List.pairwise_cons.mpr ⟨fun y hy e=>?_,h⟩) fun p hp=>?_
     . have q:=hl y hy;have e':n=y.2:=e;rw[<-e'] at q;exact AR _ q
     . rcases List.mem_cons.mp hp with rfl | hp
       . exact DA _
       . exact B6 (hl p hp)
   . exact zdi h hl
theorem zhF:∀ {names:List (Str×NameKind)} {n:Nat} {acc:List (Str×Addr)} {x:Str},((x,AN)∈names\/(acc.lookup x).isSome=true)->((cellsFrom n names acc).lookup x).isSome=true
 | [],n,acc,x,h=>by
   rcases h with h | h
   . exact absurd h (by simp)
   . exact h
 | (m,k)::r,n,acc,x,h=>by
   unfold cellsFrom
   cases hk:k==AN with
   | false =>
     rw[if_neg (by simp)];refine zhF ?_
     rcases h with h | h
     . rcases List.mem_cons.mp h with h | h
       . have:k=AN:=(CD h).2.symm;rw[this] at hk;exact absurd hk (by decide)
       . exact .inl h
     . exact .inr h
   | true =>
     rw[if_pos rfl];refine zhF ?_
     by_cases hx:x=m
     . subst hx;exact .inr (by simp)
     . rcases h with h | h
       . rcases List.mem_cons.mp h with h | h
         . exact absurd (CD h).1 hx
         . exact .inl h
       . refine .inr ?_;rw[A6];have:(x==m)=false:=by simpa using hx
         rw[this];exact h
theorem zeM:∀ {names:List (Str×NameKind)} {n:Nat} {acc:List (Str×Addr)} {x:Str},(x,AN) ∉ names->(cellsFrom n names acc).lookup x=acc.lookup x
 | [],_,_,_,_=>rfl
 | (m,k)::r,n,acc,x,h=>by
   unfold cellsFrom
   cases hk:k==AN with
   | false=>rw[if_neg (by simp)];exact zeM fun q=>h (Ah _ q)
   | true =>
     rw[if_pos rfl,zeM fun q=>h (Ah _ q),A6];have hk':k=AN:=by simpa using hk
     have:(x==m)=false:=by
       cases e:x==m with
       | false=>rfl
       | true=>exact absurd (by rw[hk',show x=m by simpa using e];exact Am) h
     rw[this]
theorem zhG:∀ {names:List (Str×NameKind)} {n:Nat} {acc:List (Str×Addr)} {x:Str} {c:Addr},(x,AN)∈names->(cellsFrom n names acc).lookup x=some c->n<=c
 | [],_,_,_,_,h,_=>absurd h (by simp)
 | (m,k)::r,n,acc,x,c,h,e=>by
   unfold cellsFrom at e
   cases hk:k==AN with
   | false =>
     rw[hk,if_neg (by simp)] at e
     rcases List.mem_cons.mp h with h | h
     . have:k=AN:=(CD h).2.symm;rw[this] at hk;exact absurd hk (by decide)
     . exact zhG h e
   | true =>
     rw[hk,if_pos rfl] at e
     by_cases hr:(x,AN)∈r
     . exact BN (zhG hr e)
     . rw[zeM hr] at e
       rcases List.mem_cons.mp h with h | h
       . have hx:x=m:=(CD h).1;subst hx;rw[List.lookup_cons_self] at e;exact Nat.le_of_eq (Az e)
       . exact absurd h hr
theorem zeI:∀ {names:List (Str×NameKind)} {h:Heap} {acc:List (Str×Addr)} {p:Str×Addr},p∈cellsFrom h.objs.size names acc->p∈acc\/(pushCells h names).IsCell p.2 none
 | [],_,_,_,h=>.inl h
 | (x,k)::r,h,acc,p,e=>by
   unfold cellsFrom at e;unfold pushCells
   split at e
   . rename_i hk;rw[if_pos hk];have sz:(h.push { cls:=.type "cell",data:=.cell none }).objs.size=h.objs.size+1:=Bq ..;rw[<-sz] at e
     rcases zeI e with q | q
     . rcases List.mem_cons.mp q with q | q
       . subst q;exact .inr ⟨_,CP _ _ _ _ (Av _ rfl),rfl⟩
       . exact .inl q
     . exact .inr q
   . rename_i hk;rw[if_neg hk];exact zeI e
noncomputable def zc7(X:Cx)(scope:Scope)(N':List Str)(cells:List (Str×Addr))(C:Addr)(s0:Shared)(H0:Hp)(ex:List Addr):Cx :=
 { X with N:=N',s₀:=s0,H₀:=H0,env:=compEnvC scope cells C X.env,outer:=X.stack,ex:=ex,fn:=fun x=>scope.names.any fun p=>p.1==x&&p.2==.cell,pn:=[],xe:=fun _ _=>False }
structure CompS(X:Cx)(scope:Scope)(N':List Str)(nt:Nat)(fr:List Nat):Prop where
 kind:scope.kind=.function
 nd:(scope.names.map (·.1)).Nodup
 len:N'.length=nt+fr.length
 cap:∀ (i j:Nat) (x:Str),fr[i]?=some j->N'[nt+i]?=some x->X.N[j]?=some x/\(x,AC)∈scope.names
 out:∀ x,(x,AC)∈scope.names->X.env.kindOf x=some .cell\/X.env.kindOf x=some .free
theorem lookup_mem:∀ {l:List (Str×NameKind)} {x:Str} {k:NameKind},(l.map (·.1)).Nodup->(x,k)∈l->l.lookup x=some k
 | [],_,_,_,h=>absurd h (by simp)
 | (n,j)::r,x,k,nd,h=>by
   rw[Aq,CQ] at nd;rw[A6]
   rcases List.mem_cons.mp h with h | h
   . cases h;simp
   . have:x≠n:=fun e=>nd.1 (by rw[<-e];exact List.mem_map.mpr ⟨_,h,rfl⟩);have:(x==n)=false:=by simpa using this
     rw[this];exact lookup_mem nd.2 h
theorem zbN{env:Env}:∀ {l:List (Str×NameKind)} {x:Str} {k:NameKind},(l.map fun (n,k)=>if (k==AC&&env.scope.kind==.function&&env.kindOf n==some .cell) then (n,AN) else (n,k)).lookup x=some k ->
   ∃ k',l.lookup x=some k'/\(k'=k\/k'=.free)
 | [],_,_,h=>by simp at h
 | (n,j)::r,x,k,h=>by
   rw[Aq] at h;dsimp only at h
   by_cases hc:(j==AC&&env.scope.kind==.function&&env.kindOf n==some .cell)=true
   . rw[if_pos hc,A6] at h;rw[A6]
     cases hx:x==n with
     | true =>
       have:j=.free:=by
         rw[AA,AA] at hc;simpa using hc.1.1
       exact⟨j,rfl,.inr this⟩
     | false=>rw[hx] at h;exact zbN h
   . rw[if_neg hc,A6] at h;rw[A6]
     cases hx:x==n with
     | true=>rw[hx] at h;cases h;exact⟨j,rfl,.inl rfl⟩
     | false=>rw[hx] at h;exact zbN h
theorem zcD{env:Env}:∀ {l:List (Str×NameKind)} {x:Str},l.lookup x=some .free ->
   (l.map fun (n,k)=>if (k==AC&&env.scope.kind==.function&&env.kindOf n==some .cell) then (n,AN) else (n,k)).lookup x=some .cell \/
   (l.map fun (n,k)=>if (k==AC&&env.scope.kind==.function&&env.kindOf n==some .cell) then (n,AN) else (n,k)).lookup x=some .free
 | [],_,h=>by simp at h
 | (n,j)::r,x,h=>by
   rw[Aq];dsimp only;rw[A6] at h
   by_cases hc:(j==AC&&env.scope.kind==.function&&env.kindOf n==some .cell)=true
   . rw[if_pos hc,A6]
     cases hx:x==n with
     | true=>exact .inl rfl
     | false=>rw[hx] at h;exact zcD h
   . rw[if_neg hc,A6]
     cases hx:x==n with
     | true=>rw[hx] at h;cases h;exact .inr rfl
     | false=>rw[hx] at h;exact zcD h
section
variable {X:Cx} {scope:Scope} {N':List Str} {nt:Nat} {fr:List Nat} {pins:List (Addr×Obj)} {σ:L2.St} {H:Hp} {s:Shared}
noncomputable abbrev clX (X:Cx) (scope:Scope):List (Str×Addr):=clOf X.env.cells scope.names []
noncomputable abbrev zc8 (X:Cx) (scope:Scope) (C:Nat):List (Str×Addr):=cellsFrom (C+1) scope.names (clX X scope)
theorem zih(Z:CompS X scope N' nt fr)(ok:X.Ok){p:Str×Addr}(h:p∈clX X scope):(p.1,AC)∈scope.names/\X.env.cells.lookup p.1=some p.2:=by
 rcases zf6 h with h | ⟨h1,h2⟩
 . exact absurd h (by simp)
 . obtain⟨c,hc⟩:=ok.has p.1 (Z.out p.1 h1);rw[hc,Dz] at h2;exact⟨h1,by rw[hc,h2]⟩
theorem zjk(Z:CompS X scope N' nt fr)(ok:X.Ok){x:Str}(h:(x,AC)∈scope.names):∃ c,X.env.cells.lookup x=some c/\∀ C,(zc8 X scope C).lookup x=some c:=by
 obtain⟨c,hc⟩:=ok.has x (Z.out x h);refine⟨c,hc,fun C=>?_⟩;have no:(x,AN) ∉ scope.names:=fun q=>by
   have a:=lookup_mem Z.nd h;have b:=lookup_mem Z.nd q;rw[a] at b;cases b
 rw[zeM no];have q:=ze5 (cells:=X.env.cells) (acc:=[]) (.inl h);obtain⟨c',e⟩:=Option.isSome_iff_exists.mp q;have:=(zih Z ok (AM e)).2;have this:X.env.cells.lookup x=some c':=this;rw[hc] at this;rw[e,this]
theorem zk9(Z:CompS X scope N' nt fr)(ok:X.Ok):(clX X scope).Pairwise fun x y=>x.2≠y.2:=by
 have gen:∀ (names:List (Str×NameKind)) (acc:List (Str×Addr)),(∀ n,(n,AC)∈names->∃ c,X.env.cells.lookup n=some c)->(names.map (·.1)).Nodup->(∀ p∈acc,p.1 ∉ names.map (·.1)/\X.env.cells.lookup p.1=some p.2)->(acc.Pairwise fun x y=>x.2≠y.2) ->
     (clOf X.env.cells names acc).Pairwise fun x y=>x.2≠y.2:=by
   intro names
   induction names with
   | nil=>intro acc _ _ _ h;exact h
   | cons p r ih =>
     intro acc hf nd ha hp;obtain⟨n,k⟩:=p;rw[Aq,CQ] at nd;unfold clOf
     cases hk:k==AC with
     | false =>
       rw[if_neg (by simp)];exact ih acc (fun m hm=>hf m (Ah _ hm)) nd.2 (fun q hq=>⟨fun z=>(ha q hq).1 (by rw[Aq];exact Ah _ z),(ha q hq).2⟩) hp
     | true =>
       rw[if_pos rfl];have hk':k=AC:=by simpa using hk
       obtain⟨c,hc⟩:=hf n (by rw[hk'];exact Am);refine ih _ (fun m hm=>hf m (Ah _ hm)) nd.2 (fun q hq=>?_) (List.pairwise_cons.mpr ⟨fun y hy e=>?_,hp⟩)
       . rcases List.mem_cons.mp hq with rfl | hq
         . exact⟨nd.1,by rw[hc];rfl⟩
         . exact⟨fun z=>(ha q hq).1 (by rw[Aq];exact Ah _ z),(ha q hq).2⟩
       . have e1:(X.env.cells.lookup n).getD 0=y.2:=e;rw[hc,Dz] at e1;have e2:=(ha y hy).2;rw[<-e1] at e2;have:=ok.inj _ _ _ e2 hc;exact (ha y hy).1 (by rw[this,Aq];exact Am)
 exact gen scope.names [] (fun n hn=>ok.has n (Z.out n hn)) Z.nd (fun p hp=>absurd hp (by simp)) Dp
theorem zk8{M:Model}{A:Around}{E:Value->Shared->Prop}{env:Env}{cl:List (Str×Addr)}{Q:Env->Shared->Prop}
   (h:Q { scope:=scope,locals:=s.heap.objs.size,globals:=env.globals,cells:=cellsFrom (s.heap.objs.size+1) scope.names cl,qual:=env.qual,func:=none,code:=env.code,frame:=env.frame,builtins:=env.builtins }
     { s with heap:=pushCells (s.heap.push { cls:=.type "dict",data:=.dict #[] }) scope.names }) :
   wpAny M A (newFunctionEnv scope env.globals cl [] env.qual none .none (some env)) Q E s:=by
 simp only[newFunctionEnv,Eh,if_true];refine Aa (wpAny_alloc ?_);refine Aa (wpAny_layCells _ (fun name kind cells=>by cases hkc:kind==AN <;> simp[hkc]) _ _ _ _ ?_);rw[show ({ s with heap:=s.heap.push { cls:=.type "dict",data:=.dict #[] } }:Shared).heap.objs.size=s.heap.objs.size+1 from Bq ..];rw[DZ];exact Aa (Ad (Ad h))
noncomputable def zjj(σ:L2.St)(nt:Nat)(fr:List Nat):L2.St:=Bk nt none++fr.map fun (j:Nat)=>(σ[j]?).join
theorem zkW{fp:List Addr}(Z:CompS X scope N' nt fr)(I:Inv X pins σ H s)(hf:∀ b∈fp,FpOk X pins H b)(hlt:∀ b∈fp,b < s.heap.objs.size) :
   Inv (zc7 X scope N' (zc8 X scope s.heap.objs.size) s.heap.objs.size s H fp) [] (zjj σ nt fr) H { s with heap:=pushCells (s.heap.push { cls:=.type "dict",data:=.dict #[] }) scope.names }:=by
 have ok:=I.ok;have kp:∀ b o,s.heap.get? b=some o->(pushCells (s.heap.push { cls:=.type "dict",data:=.dict #[] }) scope.names).get? b=some o:=fun b o e=>CP _ _ b o (Ag _ e);have clt:∀ p∈clX X scope,p.2 < s.heap.objs.size:=fun p hp=>by
   obtain⟨_,e⟩:=zih Z ok hp;obtain⟨v,q⟩:=I.cell p.1 p.2 e;exact q.lt
 have sz:(s.heap.push { cls:=.type "dict",data:=.dict #[] }).objs.size=s.heap.objs.size+1:=Bq ..;have cells:∀ x c,(zc8 X scope s.heap.objs.size).lookup x=some c->(X.env.cells.lookup x=some c)\/(s.heap.objs.size+1<=c/\(pushCells (s.heap.push { cls:=.type "dict",data:=.dict #[] }) scope.names).IsCell c none):=fun x c e=>by
   have m:=AM e
   rcases zeN m with h | h
   . exact .inl (zih Z ok h).2
   . refine .inr ⟨h,?_⟩;have m':(x,c)∈cellsFrom (s.heap.push { cls:=.type "dict",data:=.dict #[] }).objs.size scope.names (clX X scope):=by rw[sz];exact m
     rcases zeI m' with q | q
     . have l:=clt _ q;exact absurd (Aw l (BN h)) (AR _)
     . exact q
 refine⟨⟨ok.mod,Z.kind,ok.glob,ok.blt,Ae _,fun x y c h1 h2=>?_,fun x hx=>?_,fun x c h1 h2=>?_,ok.hd,ok.frames,.inl rfl,fun b hb=>?_,I.bs,AI ok.bsz I.sz,fun b o e hb=>?_,fun b hb=>?_,I.stack,I.stkFree⟩,
   rfl,I.bare,Un.kept kp,⟨fun _=>none,?_,fun i x v h1 h2 h3=>?_⟩,fun x c e=>?_,I.hok.fresh (Ae _),fun x c e=>?_,fun p hp=>absurd hp (by simp[zc7]),I.hok.kept kp,?_⟩
 . exact name_of_addr (zdi (zk9 Z ok) fun p hp=>B6 (clt p hp)) (AM h1) (AM h2)
 . have hx:(relabel scope X.env).names.lookup x=some .cell\/(relabel scope X.env).names.lookup x=some .free:=hx;have q:(x,AN)∈scope.names\/(x,AC)∈scope.names:=by
     rcases hx with hx | hx
     . obtain⟨k',e,z | z⟩:=zbN hx
       . subst z;exact .inl (AM e)
       . subst z;exact .inr (AM e)
     . obtain⟨k',e,z | z⟩:=zbN hx
       . subst z;exact .inr (AM e)
       . subst z;exact .inr (AM e)
   refine Option.isSome_iff_exists.mp (zhF (n:=s.heap.objs.size+1) (acc:=clX X scope) ?_)
   rcases q with q | q
   . exact .inl q
   . exact .inr (ze5 (.inl q))
 . have h1:(scope.names.any fun p=>p.1==x&&p.2==AN)=true:=h1;obtain⟨p,hp,e⟩:=List.any_eq_true.mp h1;rw[AA] at e;have e1:p.1=x:=by simpa using e.1
   have e2:p.2=AN:=by simpa using e.2
   have hm:(x,AN)∈scope.names:=by rw[<-e1,<-e2];exact hp
   exact BN (zhG hm h2)
 . refine⟨AB (hlt b hb),fun x c e z=>?_⟩
   rcases cells x c e with q | ⟨q,_⟩
   . exact (hf b hb).2.2.2.2.1 x c q z
   . have l:=hlt b hb;rw[<-z] at l;exact absurd (Aw l (BN q)) (AR _)
 . rcases (hf b hb).2.2.2.1 with z | z
   . exact ok.noex b o e z
   . exact absurd (Aw (An e) (AI ok.bsz z)) (AR _)
 . intro hs
   rcases List.mem_cons.mp (I.stkSub b hs) with e | e
   . exact (hf b hb).2.1 e
   . exact (hf b hb).2.2.1 e
 . exact (Heap.Ns.new s.heap (.type "dict")).keeps (CP _ _)
 . -- a captured name
   have hi:nt<=i:=by
     by_cases hi:i < nt
     . unfold zjj at h2;rw[Al (by simpa using hi),BW,if_pos hi] at h2;cases h2
     . omega
   obtain⟨i',rfl⟩:∃ i',i=nt+i':=⟨i - nt,by omega⟩
   unfold zjj at h2;rw[AK (by simp),Bd,Nat.add_sub_cancel_left,Ay] at h2
   cases ej:fr[i']? with
   | none=>rw[ej] at h2;cases h2
   | some j =>
     rw[ej] at h2;have h2:(σ[j]?).join=some v:=Az h2;have h2:σ[j]?=some (some v):=by
       cases q:σ[j]? with
       | none=>rw[q] at h2;cases h2
       | some w=>rw[q] at h2;cases w with
         | none=>cases h2
         | some w=>cases h2;rfl
     obtain⟨hN,hfree⟩:=Z.cap i' j x ej h1;obtain⟨c,hc,hcc⟩:=zjk Z ok hfree;have ho:=Z.out x hfree;obtain⟨m,hn,hl⟩:=I.loc;obtain⟨u,r,l⟩:=hl j x v hN h2 (ho.elim (fun z=>.inr (.inl z)) fun z=>.inr (.inr z));refine⟨u,r,.inr ⟨?_,c,hcc _,?_⟩⟩
     . exact zcD (lookup_mem Z.nd hfree)
     . rcases l with ⟨k,_⟩ | ⟨_,c',e',z⟩
       . rcases ho with q | q
         . rw[k] at q;cases q
         . rw[k] at q;cases q
       . rw[hc] at e';cases e';exact z.keeps kp
 . rcases cells x c e with q | ⟨_,q⟩
   . obtain⟨v,z⟩:=I.cell x c q;exact⟨v,z.keeps kp⟩
   . exact⟨none,q⟩
 . rcases cells x c e with q | ⟨q,_⟩
   . exact I.freeC x c q
   . exact I.hok.fresh (BN q)
 . show _=N'.length;unfold zjj;rw[Z.len,AD,Bd,Af]
end
noncomputable abbrev FF:Value->Shared->Prop:=fun _ _=>False
theorem zg1{prog:Program}{w:World}{A:Around}{R:Result->Shared->Prop}{s:Shared}{elt target iter:Expr}{ifs:List Expr}{scope:Scope}{pos:Pos}{it acc:Value}{env:Env}(I:Nat->Shared->Prop)
   (turn:∀ n s,I n s->wpAny (model prog w) A (pyNext it) (fun r s1=>match r with
     | none=>R (.ok .next) s1
     | some v=>wpAny (model prog w) A (letOwnedTupleGo target it v) (fun _ s1=>wpAny (model prog w) A (assign target env v) (fun _ s2 =>
         wpAny (model prog w) A (forIn ifs true fun c r=>if r=true then do let ok <-isTrue c env (eval c env);pure (CS ok) else pure (CS r)) (fun ok s3 =>
           if ok=true then wpAny (model prog w) A (eval elt env) (fun x s4 =>
             wpAny (model prog w) A (call (.builtin "list.append") [acc,x]) (fun _ s5=>∃ m,m < n/\I m s5) FF s4) FF s3
           else ∃ m,m < n/\I m s3) FF s2) FF s1) FF s1) FF s)
   (n:Nat) (h:I n s) :
   codeAny (model prog w) A (.compLoop (.ListComp elt [⟨target,iter,ifs,0⟩] scope pos) 0 it acc env) R s:=by
 refine codeAny_loop rfl I (fun n s hI=>?_) n h;show wpAny _ A ((compTurn (.ListComp elt [⟨target,iter,ifs,0⟩] scope pos) 0 it acc env).onRaise (fun x=>do noteFrame x env;theTreesLotGoes x)) _ _ s;refine wpAny_noted ?_;rw[compTurn_list];refine Aa (Dh (Aa (Bj (turn n s hI) (fun r s₁ h₁=>?_) fun _ _ h'=>False.elim h')))
 cases r with
 | none=>exact Ad h₁
 | some v =>
   refine Aa (Bj h₁ (fun _ s₂ h₂=>?_) fun _ _ h'=>False.elim h');refine Aa (Bj h₂ (fun _ s₂ h₂=>Aa (Bj h₂ (fun ok s₃ h₃=>?_) fun _ _ h'=>False.elim h')) fun _ _ h'=>False.elim h')
   cases ok with
   | false=>exact Ad ⟨rfl,h₃⟩
   | true =>
     exact Aa (Aa (Bj h₃ (fun x s₄ h₄=>Aa (Bj h₄ (fun _ s₅ h₅=>Ad (Ad ⟨rfl,h₅⟩)) fun _ _ h'=>False.elim h')) fun _ _ h'=>False.elim h'))
noncomputable def mCI(W:Wk)(g:MG)(c:MT)(m:ME):List D->Rho->Sto->Option (List D×Sto)
 | [],ρ,st=>if walked W st=true then some ([],st) else none
 | d::ds,ρ,st=>if walked W st=true then (g d ρ st).bind fun (ρ1,s1)=>(c ρ1 s1).bind fun (b,s2) =>
     if b=true then (m ρ1 s2).bind fun (x,s3)=>(mCI W g c m ds ρ1 s3).map fun (xs,s4)=>(x::xs,s4) else mCI W g c m ds ρ1 s2 else none
noncomputable def rho0(ρ:Rho)(nt:Nat)(fr:List Nat):Rho:=Bk nt none++fr.map fun (j:Nat)=>(ρ[j]?).join
noncomputable def zdI(mi:MI)(nt:Nat)(fr:List Nat)(g:MG)(c:MT)(m:ME):ME:=fun ρ st=>(mi ρ st).bind fun (W,s1)=>(mCI W g c m W.ds (rho0 ρ nt fr) s1).bind fun (xs,s2) =>
 if fits xs.length=true then some (.ref s2.length,s2++[.lst xs]) else none
noncomputable def zc4:MT:=fun _ st=>some (true,st)
def SC(X:Cx)(ifs:List Expr)(m:MT):Prop:=∀ (pins:List (Addr×Obj)) (s:Shared) (σ:L2.St) (H:Hp) (Q:Bool->Hp->Prop),Inv X pins σ H s->tT X.K m σ H Q ->
 wpAny (model X.prog X.w) X.A (forIn ifs true fun c r=>if r=true then do let ok <-isTrue c X.env (eval c X.env);pure (CS ok) else pure (CS r)) (TP X pins σ Q) X.xe s
theorem zdU{X:Cx}:SC X [] zc4:=by
 rintro pins s σ H Q I ⟨ρ,st,io,b,st',E,S,e,k⟩;cases e;rw[DZ];exact Ad ⟨H,I,k H [] Ext.refl S.nil⟩
theorem znI{X:Cx}{c:Expr}{m:MT}(h:SB X c m):SC X [c] m:=fun pins s σ H Q I q=>PySem.wpAny_tests_one (h pins s σ H Q I q)
section
variable {K:Ac} {H H1:Hp} {io ka:List Addr} {st:Sto} {σ:L2.St} {ρ:Rho}
theorem zk2{nt:Nat}{fr:List Nat}(h:EnvR K H io σ ρ):EnvR K H io (zjj σ nt fr) (rho0 ρ nt fr):=by
 refine⟨by unfold zjj rho0;simp,fun i d e=>?_⟩;unfold rho0 at e;unfold zjj
 by_cases hi:i < nt
 . rw[Al (by simpa using hi),BW,if_pos hi] at e;cases e
 . rw[AK (by simpa using hi),Bd,Ay] at e ⊢
   cases ej:fr[i - nt]? with
   | none=>rw[ej] at e;cases e
   | some j =>
     rw[ej] at e;have e:(ρ[j]?).join=some d:=Az e;have e:ρ[j]?=some (some d):=by
       cases q:ρ[j]? with
       | none=>rw[q] at e;cases e
       | some w=>rw[q] at e;cases w with
         | none=>cases e
         | some w=>cases e;rfl
     obtain⟨v,hv,r⟩:=h.at_ j d e;exact⟨v,by simp[hv],r⟩
theorem adopt{p:Addr}{xs:List V}{ds:List D}(S:StR K H io st)(hp:H p=some (.lst xs))(np:p ∉ io)(R:Reps K H io xs ds):StR K H (io++[p]) (st++[.lst ds]):=by
 refine⟨by simp[S.len],?_,fun n a ob h1 h2=>?_⟩
 . rw[Eu];refine⟨S.nd,by simp,fun a ha b hb=>?_⟩;rw[List.mem_singleton.mp hb];rintro rfl;exact np ha
 . by_cases hn:n < io.length
   . rw[Al hn] at h1;rw[Al (by rw[<-S.len];exact hn)] at h2;exact OR.mono ⟨fun _ _ h=>h,fun _ _ _ h=>h⟩ rfl (S.ob n a ob h1 h2)
   . have hl:n < (io++[p]).length:=(List.getElem?_eq_some_iff.mp h1).1;rw[AD,Ca] at hl;have e:n=io.length:=by omega
     subst e;rw[AK (Ae _),Cu] at h1;rw[S.len,AK (Ae _),Cu] at h2
     cases (Az h1)
     cases (Az h2)
     exact⟨xs,hp,Reps.mono ⟨fun _ _ h=>h,fun _ _ _ h=>h⟩ R⟩
end
section
variable {X:Cx} {scope:Scope} {N':List Str} {nt:Nat} {fr:List Nat} {elt tg iter:Expr} {ifs:List Expr} {pos:Pos} {mi:MI} {g:MG} {c:MT} {m:ME}
structure CompEnd(X:Cx)(pins:List (Addr×Obj))(σ:L2.St)(H:Hp)(io:List Addr)(d:D)(st':Sto)(Dd C:Addr)(H5:Hp)(s6:Shared):Prop where
 inv:Inv X pins σ H5 s6
 ns:∃ m,s6.heap.Ns C m
 free:H5 C=none
 ne:C≠X.env.locals
 young:X.s₀.heap.objs.size<=C
 cells:∀ x c,X.env.cells.lookup x=some c->c≠C
 pin:∀ p∈X.pn++pins,p.1≠C
 val:∃ ka,Ext io ka H H5/\StR X.K H5 (io++ka) st'/\Rep X.K H5 (io++ka) (.ref Dd) d
inductive CompI (X Y:Cx) (W:Wk) (tn:Nat->Heap->Prop) (fp io:List Addr) (H1:Hp) (Dd:Addr) (g:MG) (c:MT) (m:ME) (t2:Sto) (xs:List D) (n:Nat) (s5:Shared):Prop
 | mk (i:Nat) (σ5:L2.St) (H5:Hp) (ρ5:Rho) (st5:Sto) (k5:List Addr) (ac rs:List D) (h0:n=W.ds.length - i) (h1:Inv Y [] σ5 H5 s5) (h2:tn i s5.heap) (h3:∀ b∈fp,H5 b=none) (h4:Ext io k5 H1 H5) (h5:Dd ∉ k5) (h6:StR X.K H5 (io++k5) st5) (h7:EnvR X.K H5 (io++k5) σ5 ρ5) (h8:∃ vs,H5 Dd=some (.lst vs)/\Reps X.K H5 (io++k5) vs ac) (h9:mCI W g c m (W.ds.drop i) ρ5 st5=some (rs,t2)) (h10:xs=ac++rs)
theorem zif(hx:X.xe=FF)(hc:X.calm=true)(Z:CompS X scope N' nt fr)(hi:SI X tg iter mi)
   (hg:∀ C s0 H0 fp,SG (zc7 X scope N' (zc8 X scope C) C s0 H0 fp) tg g) (ht:∀ C s0 H0 fp,SC (zc7 X scope N' (zc8 X scope C) C s0 H0 fp) ifs c) (he:∀ C s0 H0 fp,SE (zc7 X scope N' (zc8 X scope C) C s0 H0 fp) elt m)
   (hs:∀ x,foldedSetIterable iter X.env x=pure x) {pins:List (Addr×Obj)} {s:Shared} {σ:L2.St} {H:Hp} {ρ:Rho} {st st':Sto} {io:List Addr} {d:D} {use:Option (Value->Sem Unit)} {Qf:Value->Shared->Prop} {ps:Pos}
   (I:Inv X pins σ H s) (E:EnvR X.K H io σ ρ) (S:StR X.K H io st) (e:zdI mi nt fr g c m ρ st=some (d,st'))
   (kf:∀ Dd C H5 s6,CompEnd X pins σ H io d st' Dd C H5 s6->compPost (model X.prog X.w) X.A X.xe use Qf (.ref Dd) C (.ok .next) s6) :
   wpAny (model X.prog X.w) X.A (comprehension (.ListComp elt [⟨tg,iter,ifs,0⟩] scope pos) scope X.env ps (newList []) false (eval iter X.env) use) Qf X.xe s:=by
 obtain⟨⟨W,t1⟩,e1,e⟩:=zac e;obtain⟨⟨xs,t2⟩,e2,e⟩:=zac e;obtain⟨hfit,e⟩:=zaq e;cases e;refine wpAny_comprehension_free (use:=use) rfl hs (zig fun n hn=>I.ok.has n (Z.out n hn)) Z.kind (fun x hx hl=>by
   obtain⟨n,k⟩:=x
   cases (show k=.local from hl)
   exact lookup_mem Z.nd hx) ?_
 refine thn (hi pins s σ H (fun J H1=>∃ ka,Ext io ka H H1/\StR X.K H1 (io++ka) t1/\ItOk X.K H1 (io++ka) W J) I ⟨ρ,st,io,W,t1,E,S,e1,fun J H' ka X' S' O'=>⟨ka,X',S',O'⟩⟩) fun v sa ha=>?_;refine thn ha ?_;rintro itv s2 ⟨it,fp,tn,J,H1,eit,I1,T,tn0,fpok,k1,X1,S1,IO⟩;subst eit;refine AQ ?_
 -- the new list
 have hD:H1 s2.heap.objs.size=none:=I1.hok.fresh (Ae _);have I3:Inv X pins σ (upd H1 s2.heap.objs.size (.lst [])) { s2 with heap:=s2.heap.push { cls:=.type "list",data:=.seq ([]:List Value).toArray },toks:=s2.toks }:=I1.lnew .nil (A4 _);obtain⟨X2,S2a⟩:=zdW (o:=.lst []) S1 hD;rw[Ao] at S2a;have S2:StR X.K (upd H1 s2.heap.objs.size (.lst [])) (io++k1) t1:=S2a;clear S2a;generalize hH3:upd H1 s2.heap.objs.size (.lst [])=H3 at I3 X2 S2;have H3D:H3 s2.heap.objs.size=some (.lst []):=by rw[<-hH3];exact zbw
 generalize hD':s2.heap.objs.size=Dd at hD I3 X2 S2 hH3 H3D ⊢;generalize hs3:({ s2 with heap:=s2.heap.push { cls:=.type "list",data:=.seq ([]:List Value).toArray },toks:=s2.toks }:Shared)=s3 at I3;have fplt:∀ b∈fp,b < s3.heap.objs.size:=fun b hb=>by
   obtain⟨o,ho,_⟩:=T.obj 0 _ tn0 b hb;rw[<-hs3];exact Aw (An ho) (by show _<=(s2.heap.push _).objs.size;rw[Bq];exact Ck _)
 have fpD:∀ b∈fp,b≠Dd:=fun b hb z=>by
   obtain⟨o,ho,_⟩:=T.obj 0 _ tn0 b hb;have:=An ho;rw[z,<-hD'] at this;exact AR _ this
 have fp3:∀ b∈fp,FpOk X pins H3 b:=fun b hb=>⟨by rw[<-hH3,zaO (fpD b hb)];exact (fpok b hb).1,(fpok b hb).2⟩
 have tn3:tn 0 s3.heap:=T.keep 0 _ _ tn0 fun b _ o ho=>by rw[<-hs3];exact Ag _ ho
 refine zk8 ?_;have I4:=zkW (fp:=fp) Z I3 fp3 fplt;have tn4:tn 0 (pushCells (s3.heap.push { cls:=.type "dict",data:=.dict #[] }) scope.names):=T.keep 0 _ _ tn3 fun b _ o ho=>CP _ _ _ _ (Ag _ ho);generalize hs4:({ s3 with heap:=pushCells (s3.heap.push { cls:=.type "dict",data:=.dict #[] }) scope.names }:Shared)=s4 at I4;have tn4:tn 0 s4.heap:=by rw[<-hs4];exact tn4
 show codeAny (model X.prog X.w) X.A (.compStart (.ListComp elt [⟨tg,iter,ifs,0⟩] scope pos) 0 (.ref it) (.ref Dd) (zc7 X scope N' (zc8 X scope s3.heap.objs.size) s3.heap.objs.size s3 H3 fp).env) _ _;generalize hY:zc7 X scope N' (zc8 X scope s3.heap.objs.size) s3.heap.objs.size s3 H3 fp=Y at I4;have yP:Y.prog=X.prog:=by rw[<-hY];rfl
 have yW:Y.w=X.w:=by rw[<-hY];rfl
 have yK:Y.K=X.K:=by rw[<-hY];rfl
 have yC:Y.calm=true:=by rw[<-hY];exact hc
 have yA:Y.A=X.A:=by rw[<-hY];rfl
 have yx:Y.xe=FF:=by rw[<-hY];rfl
 have hg:=hg s3.heap.objs.size s3 H3 fp;have ht:=ht s3.heap.objs.size s3 H3 fp;have he:=he s3.heap.objs.size s3 H3 fp;rw[hY] at hg ht he;have yex:Y.ex=fp:=by rw[<-hY];rfl
 have yfs:∀ b∈fp,b ∉ Y.fs:=fun b hb hs=>by
   rw[<-hY] at hs;have hs:b∈frs X.stack:=hs
   rcases List.mem_cons.mp (I3.stkSub b hs) with z | z
   . exact (fp3 b hb).2.1 z
   . exact (fp3 b hb).2.2.1 z
 have yL:Y.env.locals=s3.heap.objs.size:=by rw[<-hY];rfl
 -- the loop
 have hio:Dd ∉ io++k1:=fun hm=>by
   obtain⟨u,hu,_⟩:=S1.mem hm;rw[hD] at hu;cases hu
 have start:∀ {H':Hp} {sx:Shared} {σ':L2.St},Inv Y [] σ' H' sx->(∀ b∈fp,H' b=none)->∀ b∈fp,FpOk Y [] H' b:=fun {H' sx σ'} I' hn b hb=>by
   refine⟨hn b hb,fun z=>?_,yfs b hb,.inl (by rw[yex];exact hb),fun x cc e z=>?_,fun p hp=>absurd hp (by rw[<-hY];simp[zc7])⟩
   . rw[yL] at z;exact absurd (fplt b hb) (by rw[z];exact AR _)
   . exact (I'.ok.exf b (by rw[yex];exact hb)).2 x cc e z
 have loop:∀ sx:Shared,Inv Y [] (zjj σ nt fr) H3 sx->tn 0 sx.heap->codeAny (model X.prog X.w) X.A (.compLoop (.ListComp elt [⟨tg,iter,ifs,0⟩] scope pos) 0 (.ref it) (.ref Dd) Y.env) (compPost (model X.prog X.w) X.A X.xe use Qf (.ref Dd) s3.heap.objs.size) sx:=by
   intro sx Ix tnx;refine zg1 (CompI X Y W tn fp (io++k1) H1 Dd g c m t2 xs) ?_ (W.ds.length - 0)
     ⟨0,zjj σ nt fr,H3,rho0 ρ nt fr,t1,[],[],xs,rfl,Ix,tnx,fun b hb=>(fp3 b hb).1,X2,by simp,S2.nil,by rw[Ao];exact zk2 (by have:=(E.ext S X1).ext S1 X2;rw[Ao] at this;exact this),⟨[],H3D,rfl⟩,by rw[EZ];exact e2,rfl⟩
   rintro n s5 ⟨i,σ5,H5,ρ5,st5,k5,ac,rs,rfl,I5,tn5,fr5,X25,nk5,S5,E5,⟨vs,hvs,Rvs⟩,e5,exs⟩;have nD:∀ {kk:List Addr},Dd ∉ kk->Dd ∉ (io++k1)++kk:=fun {kk} hk hm=>(List.mem_append.mp hm).elim hio hk;have nF:∀ {kk jj:List Addr} {Ha Hb:Hp} {vv:List V},Ext jj kk Ha Hb->Ha Dd=some (.lst vv)->Dd ∉ kk:=fun {kk jj Ha Hb vv} Xx hv hm=>by
     have q:=Xx.fresh Dd hm;rw[hv] at q;cases q
   cases hd:W.ds[i]? with
   | none =>
     have hl:W.ds.length<=i:=List.getElem?_eq_none_iff.mp hd;rw[DT hl] at e5;obtain⟨hw,e5⟩:=zaq e5;cases e5;have:=T.done Y yP yW yK yC i [] s5 σ5 H5 FF I5 (start I5 fr5) tn5 (IO.stop' H5 k5 _ i hl X25 S5 (zcX hw));rw[yA] at this;refine thn this ?_;rintro r s6 ⟨hr,I6⟩;subst hr;obtain⟨mm,hn,_⟩:=id I6.loc;rw[yL] at hn
     -- back in the frame
     have base:Un (frs X.stack) fp H3 H5 s3.heap s6.heap:=by
       have b:=I6.base;rw[<-hY] at b;exact b
     have os:s6.os=s3.os:=by
       have b:=I6.os;rw[<-hY] at b;exact b
     have free:H5 s3.heap.objs.size=none:=by
       have b:=I6.free;rw[yL] at b;exact b
     have hok:HOk X.prog X.w H5 s6.heap:=by
       have b:=I6.hok;rw[yP,yW] at b;exact b
     have I7:Inv X pins σ H5 s6:=Inv.call' (s':=s6) (ch:=fp) I3 os base hok I6.bare fun b hb=>⟨(fp3 b hb).2.2.2.1,(fp3 b hb).2.1,(fp3 b hb).2.2.2.2.1,(fp3 b hb).2.2.2.2.2⟩
     have np:Dd ∉ (io++k1)++k5:=nD nk5;rw[Ao] at exs;subst exs;have SA:=adopt S5 hvs np Rvs;have X6:Ext io (k1++k5) H H5:=X1.trans S1 X25;have lt3:X.env.locals < s3.heap.objs.size:=I3.lt;refine kf Dd s3.heap.objs.size H5 s6 ⟨I7,⟨mm,hn⟩,free,CL lt3,I3.sz,fun x cc e z=>?_,fun p hp z=>?_,?_⟩
     . obtain⟨vv,q⟩:=I3.cell x cc e;have:=q.lt;rw[z] at this;exact AR _ this
     . have:=An (I3.pin p hp).1;rw[z] at this;exact AR _ this
     refine⟨(k1++k5)++[Dd],⟨fun b o hb nb=>X6.keep b o hb nb,fun b hb=>?_,X6.frz⟩,(by simpa using SA),⟨Dd,rfl,?_⟩⟩
     . rcases List.mem_append.mp hb with hb | hb
       . exact X6.fresh b hb
       . rw[List.mem_singleton.mp hb]
         cases q:H Dd with
         | none=>rfl
         | some o =>
           by_cases hb:Dd∈io
           . exact absurd (AO _ hb) hio
           . have:=X1.keep Dd o q hb;rw[hD] at this;cases this
     . have:=getElem?_len ((io++k1)++k5) Dd;rw[<-S5.len];simpa using this
   | some dd =>
     have hl:i < W.ds.length:=(List.getElem?_eq_some_iff.mp hd).1;have hdr:W.ds.drop i=dd::W.ds.drop (i+1):=by
       rw[Ds hl,(List.getElem?_eq_some_iff.mp hd).2]
     rw[hdr] at e5;obtain⟨hw,e5⟩:=zaq e5;obtain⟨⟨ρ6,t6⟩,e6,e5⟩:=zac e5;obtain⟨⟨b7,t7⟩,e7,e5⟩:=zac e5;obtain⟨go,yl⟩:=IO.go i dd H5 k5 st5 hd X25 S5 (zcX hw);have hit:=T.item Y yP yW yK yC i [] s5 σ5 H5 FF I5 (start I5 fr5) tn5 go;rw[yA] at hit;refine thn hit ?_;rintro r s6 ⟨u,hr,h6⟩;subst hr;refine thn h6 ?_;rintro _ s7 ⟨x,H7,I7,r7,y7,tn7,fr7⟩;obtain⟨X7,S7,R7⟩:=yl x H7 y7;have X57:Ext (io++k1) k5 H1 H7:=(X25.trans S5 X7).app;have hv7:H7 Dd=some (.lst vs):=X7.keep _ _ hvs (nD nk5);have E7:EnvR X.K H7 ((io++k1)++k5) σ5 ρ5:=by
       have:=E5.ext S5 X7;rw[Ao] at this;exact this
     have R7v:Reps X.K H7 ((io++k1)++k5) vs ac:=by
       have:=Rvs.ext S5 X7;rw[Ao] at this;exact this
     have I7p:=I7.pinned (start I7 fr7) (T.obj _ _ tn7);rw[<-yA,<-yP,<-yW];rw[<-yx];refine thn (hg _ s7 σ5 H7 x u (fun σ8 H8=>∃ k8,Ext ((io++k1)++k5) k8 H7 H8/\StR X.K H8 (((io++k1)++k5)++k8) t6/\EnvR X.K H8 (((io++k1)++k5)++k8) σ8 ρ6) I7p r7 (by rw[yK];exact⟨dd,ρ5,st5,(io++k1)++k5,ρ6,t6,R7,E7,S7,e6,fun σ8 H8 k8 X8 S8 E8=>⟨k8,X8,S8,E8⟩⟩)) ?_;rintro _ s8 ⟨σ8,H8,I8,k8,X8,S8,E8⟩;have S8':StR X.K H8 ((io++k1)++(k5++k8)) t6:=by rw[<-Ai];exact S8
     have E8':EnvR X.K H8 ((io++k1)++(k5++k8)) σ8 ρ6:=by rw[<-Ai];exact E8
     have X38:Ext (io++k1) (k5++k8) H1 H8:=X57.trans S7 X8;have nk8:Dd ∉ k5++k8:=fun hm=>(List.mem_append.mp hm).elim nk5 (nF X8 hv7);refine thn (ht _ s8 σ8 H8 (fun b H9=>b=b7/\∃ k9,Ext ((io++k1)++(k5++k8)) k9 H8 H9/\StR X.K H9 (((io++k1)++(k5++k8))++k9) t7) I8 (by rw[yK];exact⟨ρ6,t6,(io++k1)++(k5++k8),b7,t7,E8',S8',e7,fun H9 k9 X9 S9=>⟨rfl,k9,X9,S9⟩⟩)) ?_;rintro ok s9 ⟨H9,I9,eb,k9,X9,S9⟩;subst eb;have X39:Ext (io++k1) ((k5++k8)++k9) H1 H9:=X38.trans S8' X9;have S9':StR X.K H9 ((io++k1)++((k5++k8)++k9)) t7:=by rw[<-Ai];exact S9
     have E9:EnvR X.K H9 ((io++k1)++((k5++k8)++k9)) σ8 ρ6:=by
       have:=E8'.ext S8' X9;rw[Ai] at this;exact this
     have hv8:H8 Dd=some (.lst vs):=X8.keep _ _ hv7 (nD nk5);have hv9:H9 Dd=some (.lst vs):=X9.keep _ _ hv8 (nD nk8);have nk9:Dd ∉ (k5++k8)++k9:=fun hm=>(List.mem_append.mp hm).elim nk8 (nF X9 hv8);have R8v:Reps X.K H8 ((io++k1)++(k5++k8)) vs ac:=by
       have:=R7v.ext S7 X8;rw[Ai] at this;exact this
     have R9v:Reps X.K H9 ((io++k1)++((k5++k8)++k9)) vs ac:=by
       have:=R8v.ext S8' X9;rw[Ai] at this;exact this
     have back:∀ {Hx:Hp} {sx:Shared} {σx:L2.St},Inv Y ([]++zhC fp s7.heap) σx Hx sx->Inv Y [] σx Hx sx/\tn (i+1) sx.heap/\∀ b∈fp,Hx b=none:=fun {Hx sx σx} Ix=>by
       refine⟨Ix.unpinned,T.keep _ _ _ tn7 fun b hb o e=>(Ix.pin (b,o) (AG _ (AG _ (zc2 hb e)))).1,fun b hb=>?_⟩;obtain⟨o,e,dn⟩:=T.obj _ _ tn7 b hb;exact (Ix.pin (b,o) (AG _ (AG _ (zc2 hb e)))).2.1
     cases ok with
     | false =>
       rw[if_neg (by decide)];have e5:mCI W g c m (W.ds.drop (i+1)) ρ6 t7=some (rs,t2):=e5;obtain⟨Ib,tnb,frb⟩:=back I9;exact⟨W.ds.length - (i+1),by omega,i+1,σ8,H9,ρ6,t7,(k5++k8)++k9,ac,rs,rfl,Ib,tnb,frb,X39,nk9,S9',E9,⟨vs,hv9,R9v⟩,e5,exs⟩
     | true =>
       rw[if_pos rfl];have e5:((m ρ6 t7).bind fun (x,s3)=>(mCI W g c m (W.ds.drop (i+1)) ρ6 s3).map fun (xs,s4)=>(x::xs,s4))=some (rs,t2):=e5;obtain⟨⟨x10,t10⟩,e10,e5⟩:=zac e5;obtain⟨⟨rs',t11⟩,e11,e5⟩:=zai e5;cases e5;refine thn (he _ s9 σ8 H9 (fun v H10=>∃ k10,Ext ((io++k1)++((k5++k8)++k9)) k10 H9 H10/\StR X.K H10 (((io++k1)++((k5++k8)++k9))++k10) t10/\Rep X.K H10 (((io++k1)++((k5++k8)++k9))++k10) v x10) I9
         (by rw[yK];exact⟨ρ6,t7,(io++k1)++((k5++k8)++k9),x10,t10,E9,S9',e10,fun v H10 k10 X10 S10 R10=>⟨k10,X10,S10,R10⟩⟩)) fun u10 s10 ⟨v10,H10,I10,r10,k10,X10,S10,R10⟩=>?_
       have X310:Ext (io++k1) (((k5++k8)++k9)++k10) H1 H10:=X39.trans S9' X10;have nk10:Dd ∉ ((k5++k8)++k9)++k10:=fun hm=>(List.mem_append.mp hm).elim nk9 (nF X10 hv9);have S10':StR X.K H10 ((io++k1)++(((k5++k8)++k9)++k10)) t10:=by rw[<-Ai];exact S10
       have hv10:H10 Dd=some (.lst vs):=X10.keep _ _ hv9 (nD nk9);have E10:EnvR X.K H10 ((io++k1)++(((k5++k8)++k9)++k10)) σ8 ρ6:=by
         have:=E9.ext S9' X10;rw[Ai] at this;exact this
       have R10v:Reps X.K H10 ((io++k1)++(((k5++k8)++k9)++k10)) (vs++[v10]) (ac++[x10]):=by
         have a:=R9v.ext S9' X10;rw[Ai] at a;rw[Ai] at R10;exact a.append (Reps.cons R10 Reps.nil)
       have hlen:vs.length < sizeLine:=by
         rw[R9v.length];have:=of_decide_eq_true hfit;rw[exs] at this;simp at this;omega
       refine thn (zgu _ s10 σ8 H10 (.ref Dd) [v10] (.ref Dd) [u10] (fun _ H11=>H11=upd H10 Dd (.lst (vs++[v10]))) I10 rfl (.cons r10 .nil) ⟨Dd,vs,v10,rfl,rfl,hv10,hlen,rfl⟩) ?_;rintro _ s11 ⟨_,H11,I11,_,e11'⟩;subst e11';have nD10:=nD nk10
       -- the new list is written: nothing of the store
       have XU:∀ b o,H10 b=some o->b≠Dd->upd H10 Dd (.lst (vs++[v10])) b=some o:=fun b o hb hn=>by rw[zaO hn];exact hb
       have TU:Kp H10 (upd H10 Dd (.lst (vs++[v10]))):=⟨fun a ys hb=>XU a _ hb (zoi hb hv10 (by simp)),fun a o u hb=>XU a _ hb (zoi hb hv10 (by simp))⟩
       have S11:StR X.K (upd H10 Dd (.lst (vs++[v10]))) ((io++k1)++(((k5++k8)++k9)++k10)) t10:=by
         refine⟨S10'.len,S10'.nd,fun n a ob h1 h2=>?_⟩;have hne:a≠Dd:=fun z=>nD10 (by rw[<-z];exact AV h1);have:=OR.mono (ka:=[]) TU (zaO hne) (S10'.ob n a ob h1 h2);rw[Ao] at this;exact this
       have mono0:∀ {v:V} {d:D},Rep X.K H10 ((io++k1)++(((k5++k8)++k9)++k10)) v d->Rep X.K (upd H10 Dd (.lst (vs++[v10]))) ((io++k1)++(((k5++k8)++k9)++k10)) v d:=fun {v d} h=>by
         have:=Rep.mono (ka:=[]) TU h;rw[Ao] at this;exact this
       have mono1:∀ {v:List V} {d:List D},Reps X.K H10 ((io++k1)++(((k5++k8)++k9)++k10)) v d->Reps X.K (upd H10 Dd (.lst (vs++[v10]))) ((io++k1)++(((k5++k8)++k9)++k10)) v d:=fun {v d} h=>by
         have:=Reps.mono (ka:=[]) TU h;rw[Ao] at this;exact this
       obtain⟨Ib,tnb,frb⟩:=back I11;refine⟨W.ds.length - (i+1),by omega,i+1,σ8,upd H10 Dd (.lst (vs++[v10])),ρ6,t10,((k5++k8)++k9)++k10,ac++[x10],rs',rfl,Ib,tnb,frb,⟨fun b o hb nb=>XU b o (X310.keep b o hb nb) (fun z=>by rw[z,hD] at hb;cases hb),X310.fresh,fun b o u hb=>XU b _ (X310.frz b o u hb) (fun z=>by rw[z,hD] at hb;cases hb)⟩,nk10,S11,⟨E10.len,fun j dj hj=>?_⟩,⟨_,zbw,mono1 R10v⟩,e11,by rw[exs,Ai];rfl⟩;obtain⟨v,q,r⟩:=E10.at_ j dj hj;exact⟨v,q,mono0 r⟩
 have l4:=loop s4 I4 tn4;exact codeAny_compStart_list l4 (T.self _ 0 _ _ _ tn4 l4)
theorem zcy(hx:X.xe=FF)(hc:X.calm=true)(Z:CompS X scope N' nt fr)(hi:SI X tg iter mi)
   (hg:∀ C s0 H0 fp,SG (zc7 X scope N' (zc8 X scope C) C s0 H0 fp) tg g) (ht:∀ C s0 H0 fp,SC (zc7 X scope N' (zc8 X scope C) C s0 H0 fp) ifs c) (he:∀ C s0 H0 fp,SE (zc7 X scope N' (zc8 X scope C) C s0 H0 fp) elt m)
   (hs:∀ x,foldedSetIterable iter X.env x=pure x:=by intro _;rfl):SE X (.ListComp elt [⟨tg,iter,ifs,0⟩] scope pos) (zdI mi nt fr g c m):=by
 rintro pins s σ H Q I ⟨ρ,st,io,d,st',E,S,e,k⟩;rw[eval_ListComp];refine zif (use:=none) hx hc Z hi hg ht he hs I E S e fun Dd C H5 s6 R=>?_;obtain⟨m5,hn⟩:=R.ns;refine⟨m5,hn,fun h' hsb=>?_⟩;obtain⟨ka,X5,S5,R5⟩:=R.val;exact⟨.ref Dd,H5,R.inv.turned (t':=s6.toks) (it:=C) (fun b o hb q=>(hsb.2 b hb).trans q) R.free R.ne (.inr R.young) R.cells R.pin,rfl,k _ _ ka X5 S5 R5⟩
theorem zej{i:Nat}{x:Str}{pos' spos:Pos}(hx:X.xe=FF)(hc:X.calm=true)(Z:CompS X scope N' nt fr)(hi:SI X tg iter mi)
   (hg:∀ C s0 H0 fp,SG (zc7 X scope N' (zc8 X scope C) C s0 H0 fp) tg g) (ht:∀ C s0 H0 fp,SC (zc7 X scope N' (zc8 X scope C) C s0 H0 fp) ifs c) (he:∀ C s0 H0 fp,SE (zc7 X scope N' (zc8 X scope C) C s0 H0 fp) elt m)
   (hN:X.N.Nodup) (hi':X.N[i]?=some x) (hl:X.env.scope.names.lookup x=some .local)
   (hsw:swapsWith (.ListComp elt [⟨tg,iter,ifs,0⟩] scope pos) (some (.Name x pos')) spos.line X.env=pure true:=by rfl)
   (hs:∀ x,foldedSetIterable iter X.env x=pure x:=by intro _;rfl):SS X (.Assign [.Name x pos'] (.ListComp elt [⟨tg,iter,ifs,0⟩] scope pos) spos) (mAsg (zdI mi nt fr g c m) (gNm i)):=by
 intro pins s σ H N I h;obtain⟨ρ,st,io,f,st',E,S,e,w⟩:=zc0.mp h;obtain⟨⟨d,s1⟩,e1,e⟩:=zac e;obtain⟨⟨ρ',s2⟩,e2,e⟩:=zai e;cases e;cases e2;rw[exec_Assign_Name_used _ _ _ _ hsw];refine Aa (Dh (Aa ?_));show wpAny _ X.A (do let _ <-comprehension (.ListComp elt [⟨tg,iter,ifs,0⟩] scope pos) scope X.env _ (newList []) false (eval iter X.env) (some (assign (.Name x pos') X.env))) _ _ s;refine Aa (thn (zif (use:=some (assign (.Name x pos') X.env)) (Qf:=fun _ s'=>SP X pins N .next s') hx hc Z hi hg ht he hs I E S e1 fun Dd C H5 s6 R=>?_) fun _ s' hq=>Ad (Ad hq));obtain⟨m5,hn⟩:=R.ns;obtain⟨ka,X5,S5,R5⟩:=R.val;show wpAny _ _ (assign (.Name x pos') X.env (.ref Dd)) _ _ _;refine Ep (zgi (v:=.ref Dd) R.inv hN hi' (.inl hl) rfl (?_) (.inr hl));rintro s7 I7 ⟨a,sb,ha⟩;have hCa:C≠a:=fun z=>by
   rcases ha with q | q
   . exact R.ne (z.trans q)
   . exact R.cells _ _ q z.symm
 refine⟨m5,hn.sameBut sb hCa,fun h' hsb=>?_⟩;refine⟨_,H5,I7.turned (t':=s7.toks) (it:=C) (fun b o hb q=>(hsb.2 b hb).trans q) R.free R.ne (.inr R.young) R.cells R.pin,?_⟩;exact w _ _ ka X5 S5 ((E.ext S X5).set i R5)
end
section
variable {X:Cx} {e a b c:Expr} {es:List Expr} {pos:Pos} {m ma mb mc:ME} {mm:MA}
variable {K:Ac} {H:Hp} {io ka:List Addr} {st st':Sto}
noncomputable def addD:G2
 | .int i,.int j,st=>some (.int (i+j),st)
 | .str a,.str b,st=>if fits (a.length+b.length)=true then some (.str (a++b),st) else none
 | .tup a,.tup b,st=>if (!a.isEmpty&&fits (a.length+b.length))=true then some (.tup (a++b),st) else none
 | .ref a,.ref b,st=>match st[a]?,st[b]? with
   | some (.lst x),some (.lst y)=>if fits (x.length+y.length)=true then some (.ref st.length,st++[.lst (x++y)]) else none
   | _,_=>none
 | _,_,_=>none
theorem zaH:OpM X (binaryOp .Add) addD:=by
 rintro pins s σ H x y v u Q I rx ry ⟨dx,dy,st,io,d,st',Rx,Ry,S,e,k⟩
 cases dx with
 | int i =>
   cases dy with
   | int j=>cases e;exact zoe pins s σ H x y v u Q I rx ry ⟨i,j,Rx,Ry,k.now S rfl⟩
   | _=>cases e
 | str i =>
   cases dy with
   | str j =>
     obtain⟨hf,e⟩:=zaq e
     cases e;exact zhI pins s σ H x y v u Q I rx ry ⟨i,j,Rx,Ry,of_decide_eq_true hf,k.now S rfl⟩
   | _=>cases e
 | tup i =>
   cases dy with
   | tup j =>
     obtain⟨hf,e⟩:=zaq e;cases e;rw[AA] at hf;obtain⟨p,xs,ex,hp,r1⟩:=Rx;obtain⟨q,ys,ey,hq,r2⟩:=Ry;refine zmo pins s σ H x y v u Q I rx ry ⟨p,q,xs,ys,ex,ey,SqT.of hp,SqT.of hq,fun z=>?_,by rw[r1.length,r2.length];exact of_decide_eq_true hf.2,fun z=>?_,fun z p hp=>k.tup S (r1.append r2) hp⟩
     . have:=r1.length;rw[z] at this;have:i=[]:=Bv this.symm;rw[this] at hf;exact absurd hf.1 (by decide)
     . have:=r2.length;rw[z] at this;have:j=[]:=Bv this.symm;subst this;rw[Ao] at k;exact k.now S ⟨p,xs,rfl,hp,r1⟩
   | _=>cases e
 | ref i =>
   cases dy with
   | ref j =>
     unfold addD at e;dsimp only at e
     split at e
     . rename_i l1 l2 e1 e2;obtain⟨hf,e⟩:=zaq e;cases e;obtain⟨p,ex,hp⟩:=Rx;obtain⟨q,ey,hq⟩:=Ry;obtain⟨xs,h1,r1⟩:=S.ob i p _ hp e1;obtain⟨ys,h2,r2⟩:=S.ob j q _ hq e2;exact zod pins s σ H x y v u Q I rx ry ⟨p,q,xs,ys,ex,ey,h1,h2,by rw[r1.length,r2.length];exact of_decide_eq_true hf,fun p hp=>k.lst S (r1.append r2) hp⟩
     . cases e
   | _=>cases e
 | _=>cases e
noncomputable def intD(c:Int->Int->Bool)(g:Int->Int->D):G2
 | .int i,.int j,st=>if c i j=true then some (g i j,st) else none
 | _,_,_=>none
theorem zfu{f:Value->Value->Sem Value}{C:Int->Int->Prop}{c:Int->Int->Bool}{g:Int->Int->Int}(h:OpR X f (rI C fun i j=>.int (g i j)))(hc:∀ i j,c i j=true->C i j):OpM X f (intD c fun i j=>.int (g i j)):=by
 rintro pins s σ H x y v u Q I rx ry ⟨dx,dy,st,io,d,st',Rx,Ry,S,e,k⟩
 cases dx with
 | int i =>
   cases dy with
   | int j =>
     obtain⟨hf,e⟩:=zaq e
     cases e;exact h pins s σ H x y v u Q I rx ry ⟨i,j,Rx,Ry,hc i j hf,k.now S rfl⟩
   | _=>cases e
 | _=>cases e
noncomputable def tt2:Int->Int->Bool:=fun _ _=>true
noncomputable def subD:G2:=intD tt2 fun i j=>.int (i - j)
theorem zgs:OpM X (binaryOp .Sub) subD:=zfu (C:=fun _ _=>True) (fun pins s σ H x y v u Q I rx ry ⟨i,j,h1,h2,_,q⟩=>zn8 pins s σ H x y v u Q I rx ry ⟨i,j,h1,h2,q⟩) fun _ _ _=>trivial
noncomputable def in64(i:Int):Bool:=decide (-(2 ^ 64) < i)&&decide (i < 2 ^ 64)
noncomputable def mulD:G2:=intD (fun i j=>in64 i || in64 j) fun i j=>.int (i*j)
theorem zmm:OpM X (binaryOp .Mult) mulD:=zfu zn9 fun i j h=>by
 rw[CU] at h;unfold in64 at h;rw[AA,AA] at h
 rcases h with h | h
 . exact .inl ⟨of_decide_eq_true h.1,of_decide_eq_true h.2⟩
 . exact .inr ⟨of_decide_eq_true h.1,of_decide_eq_true h.2⟩
noncomputable def modD:G2:=intD (fun _ j=>decide (0 < j)) fun i j=>.int (i % j)
theorem zcq:OpM X (binaryOp .Mod) modD:=zfu zoa fun i j h=>of_decide_eq_true h
noncomputable def cmpD(g:Int->Int->Bool):G2
 | .int i,.int j,st=>some (.bl (g i j),st)
 | _,_,_=>none
theorem zjB{f:Value->Value->Sem Value}{g:Int->Int->Bool}(h:OpR X f (rI0 fun i j=>.bl (g i j))):OpM X f (cmpD g):=by
 rintro pins s σ H x y v u Q I rx ry ⟨dx,dy,st,io,d,st',Rx,Ry,S,e,k⟩
 cases dx with
 | int i =>
   cases dy with
   | int j=>cases e;exact h pins s σ H x y v u Q I rx ry ⟨i,j,Rx,Ry,k.now S rfl⟩
   | _=>cases e
 | _=>cases e
noncomputable def ltD:G2:=cmpD fun i j=>decide (i < j)
noncomputable def leD:G2:=cmpD fun i j=>decide (i<=j)
noncomputable def gtD:G2:=cmpD fun i j=>decide (j < i)
noncomputable def geD:G2:=cmpD fun i j=>decide (j<=i)
theorem ziT:OpM X (compareOp .LtE) leD:=zjB zpv
theorem zoc:OpM X (compareOp .GtE) geD:=zjB zpw
noncomputable def negD:D->Sto->Option (D×Sto)
 | .int i,st=>some (.int (-i),st)
 | _,_=>none
noncomputable def mNeg(m:ME):ME:=fun ρ st=>(m ρ st).bind fun (x,s)=>negD x s
theorem znF(ha:SE X a ma):SE X (.UnaryOp .USub a pos) (mNeg ma):=PE.imp (zpr znl ha) <| by
 rintro σ H Q ⟨ρ,st,io,d,st',E,S,e,k⟩;obtain⟨⟨x,s1⟩,e1,e⟩:=zac e
 cases x with
 | int i =>
   cases e;exact⟨ρ,st,io,.int i,_,E,S,e1,fun v H1 k1 X1 S1 R1=>⟨i,R1,k _ H1 k1 X1 S1 rfl⟩⟩
 | _=>cases e
noncomputable def idxD:G2
 | .tup ds,.int i,st=>(atI ds i).map fun d=>(d,st)
 | .ref n,.int i,st=>(zcc st n).bind fun ds=>(atI ds i).map fun d=>(d,st)
 | .kl ds,.int i,st=>(atI ds i).map fun d=>(d,st)
 | .str z,.int i,st=>if fits z.length=true then (atI z.cps.toList i).map fun c=>(.str ⟨#[c]⟩,st) else none
 | _,_,_=>none
theorem zir{xs:List V}{ds:List D}{i:Int}{d:D}(r:Reps K H io xs ds)(h:atI ds i=some d):∃ v,atI xs i=some v/\Rep K H io v d:=by
 unfold atI at h ⊢;rw[r.length];obtain⟨j,hj,h⟩:=zac h;obtain⟨v,hv,rv⟩:=r.get h;exact⟨v,by rw[hj];exact hv,rv⟩
theorem ix_M:IxR X (r2M X.K idxD):=by
 rintro value slice pins s σ H x y v u Q I rx ry ⟨dx,dy,st,io,d,st',Rx,Ry,S,e,k⟩ hs
 cases dy with
 | int i =>
   cases dx with
   | tup ds =>
     obtain⟨d',e1,e⟩:=zai e;cases e;obtain⟨p,xs,ex,hp,r⟩:=Rx;obtain⟨w,hw,rw'⟩:=zir r e1;exact zcr value slice pins s σ H x y v u Q I rx ry ⟨p,xs,i,w,ex,Ry,SqT.of hp,hw,k.now S rw'⟩ hs
   | ref n =>
     obtain⟨ds,e0,e⟩:=zac e;obtain⟨d',e1,e⟩:=zai e;cases e;obtain⟨p,ex,hp⟩:=Rx;obtain⟨xs,hx,r⟩:=zbz S hp e0;obtain⟨w,hw,rw'⟩:=zir r e1;exact zjM value slice pins s σ H x y v u Q I rx ry ⟨p,xs,i,w,ex,Ry,hx,hw,k.now S rw'⟩ hs
   | kl ds =>
     obtain⟨d',e1,e⟩:=zai e;cases e;obtain⟨p,xs,ex,hx,r⟩:=Rx;obtain⟨w,hw,rw'⟩:=zir r e1;exact zjM value slice pins s σ H x y v u Q I rx ry ⟨p,xs,i,w,ex,Ry,hx.sq,hw,k.now S rw'⟩ hs
   | str z =>
     obtain⟨hf,e⟩:=zaq e;obtain⟨d',e1,e⟩:=zai e;cases e;exact zf4 value slice pins s σ H x y v u Q I rx ry ⟨z,i,d',Rx,Ry,of_decide_eq_true hf,e1,k.now S rfl⟩ hs
   | _=>cases e
 | _=>cases dx <;> cases e
theorem zpl(ha:SE X a ma)(hb:SE X b mb)(hs:ziv b:=by intro _ _;rfl):SE X (.Subscript a b pos) (mBin idxD ma mb):=PE.imp (zpt ix_M ha hb hs) fun _ _ _ h=>zdR h
noncomputable def lenD:GN
 | [.tup ds],st=>some (.int ds.length,st)
 | [.ref n],st=>(zcc st n).map fun ds=>(.int ds.length,st)
 | [.kl ds],st=>some (.int ds.length,st)
 | [.str z],st=>if fits z.length=true then some (.int z.length,st) else none
 | _,_=>none
theorem zaB:zg8 X (.builtin "len") lenD:=by
 rintro pins s σ H xs us Q I r ⟨ds,st,io,d,st',R,S,e,k⟩
 cases ds with
 | nil=>cases e
 | cons d0 r0 =>
 cases r0 with
 | cons d1 r1=>cases d0 <;> cases e
 | nil =>
 cases d0 with
 | tup ts =>
   cases e;obtain⟨v,rfl,p,ys,rfl,hp,r1⟩:=R.one;refine zcO pins s σ H _ us Q I r ⟨p,ys,rfl,.inr (SqT.of hp),?_⟩;rw[r1.length];exact k.now S rfl
 | ref n =>
   obtain⟨ts,e0,e⟩:=zai e;cases e;obtain⟨v,rfl,p,rfl,hp⟩:=R.one;obtain⟨ys,hx,r1⟩:=zbz S hp e0;refine zcO pins s σ H _ us Q I r ⟨p,ys,rfl,.inl hx,?_⟩;rw[r1.length];exact k.now S rfl
 | kl ts =>
   cases e;obtain⟨v,rfl,p,ys,rfl,hx,r1⟩:=R.one;refine zcO pins s σ H _ us Q I r ⟨p,ys,rfl,.inl hx.sq,?_⟩;rw[r1.length];exact k.now S rfl
 | str z =>
   obtain⟨hf,e⟩:=zaq e;cases e;obtain⟨v,rfl,rfl⟩:=R.one;exact zf8 pins s σ H _ us Q I r ⟨z,rfl,of_decide_eq_true hf,k.now S rfl⟩
 | _=>cases e
noncomputable def intC:GN
 | [.int i],st=>some (.int i,st)
 | [.bl b],st=>some (.int (if b then 1 else 0),st)
 | _,_=>none
noncomputable def absC:GN
 | [.int i],st=>some (.int (if i < 0 then -i else i),st)
 | _,_=>none
theorem zgD:zg8 X (.builtin "abs") absC:=by
 rintro pins s σ H xs us Q I r ⟨ds,st,io,d,st',R,S,e,k⟩
 cases ds with
 | nil=>cases e
 | cons d0 r0 =>
 cases r0 with
 | cons d1 r1=>cases d0 <;> cases e
 | nil =>
 cases d0 with
 | int i =>
   cases e;obtain⟨v,rfl,rfl⟩:=R.one;exact zld pins s σ H _ us Q I r ⟨i,rfl,k.now S rfl⟩
 | _=>cases e
noncomputable def zoo:GN
 | [.tup ds],st=>if fits ds.length=true then some (.ref st.length,st++[.lst ds]) else none
 | [.ref n],st=>(zcc st n).bind fun ds=>if fits ds.length=true then some (.ref st.length,st++[.lst ds]) else none
 | [.kl ds],st=>if fits ds.length=true then some (.ref st.length,st++[.lst ds]) else none
 | _,_=>none
theorem zik:zg8 X (.type "list") zoo:=by
 rintro pins s σ H xs us Q I r ⟨ds,st,io,d,st',R,S,e,k⟩
 cases ds with
 | nil=>cases e
 | cons d0 r0 =>
 cases r0 with
 | cons d1 r1=>cases d0 <;> cases e
 | nil =>
 cases d0 with
 | tup ts =>
   obtain⟨hf,e⟩:=zaq e;cases e;obtain⟨v,rfl,p,ys,rfl,hp,r1⟩:=R.one;exact zcN pins s σ H _ us Q I r ⟨p,ys,rfl,.inr (SqT.of hp),fun l hl=>k.lst S r1 hl⟩
 | ref n =>
   obtain⟨ts,e0,e⟩:=zac e;obtain⟨hf,e⟩:=zaq e;cases e;obtain⟨v,rfl,p,rfl,hp⟩:=R.one;obtain⟨ys,hx,r1⟩:=zbz S hp e0;exact zcN pins s σ H _ us Q I r ⟨p,ys,rfl,.inl hx,fun l hl=>k.lst S r1 hl⟩
 | kl ts =>
   obtain⟨hf,e⟩:=zaq e;cases e;obtain⟨v,rfl,p,ys,rfl,hx,r1⟩:=R.one;exact zcN pins s σ H _ us Q I r ⟨p,ys,rfl,.inl hx.sq,fun l hl=>k.lst S r1 hl⟩
 | _=>cases e
noncomputable def zcZ:GN
 | [.tup ds],st=>some (.tup ds,st)
 | [.ref n],st=>(zcc st n).map fun ds=>(.tup ds,st)
 | _,_=>none
theorem zbS:zg8 X (.type "tuple") zcZ:=by
 rintro pins s σ H xs us Q I r ⟨ds,st,io,d,st',R,S,e,k⟩
 cases ds with
 | nil=>cases e
 | cons d0 r0 =>
 cases r0 with
 | cons d1 r1=>cases d0 <;> cases e
 | nil =>
 cases d0 with
 | tup ts =>
   cases e;obtain⟨v,rfl,p,ys,rfl,hp,r1⟩:=R.one;exact zdr pins s σ H _ us Q I r ⟨p,ys,rfl,.inr ⟨SqT.of hp,k.now S ⟨p,ys,rfl,hp,r1⟩⟩⟩
 | ref n =>
   obtain⟨ts,e0,e⟩:=zai e;cases e;obtain⟨v,rfl,p,rfl,hp⟩:=R.one;obtain⟨ys,hx,r1⟩:=zbz S hp e0;exact zdr pins s σ H _ us Q I r ⟨p,ys,rfl,.inl ⟨hx,fun l hl=>k.tup S r1 hl⟩⟩
 | _=>cases e
end
noncomputable def toPs(f:D->Option PyData):List D->Option (List PyData)
 | []=>some []
 | d::ds=>(f d).bind fun p=>(toPs f ds).map fun ps=>p::ps
noncomputable def toP:Nat->Sto->D->Option PyData
 | 0,_,_=>none
 | n+1,st,d=>match d with
   | .non=>some .none
   | .bl b=>some (.bool b)
   | .int i=>some (.int i)
   | .str x=>if AJ x=true then some (.str x) else none
   | .tup ds=>(toPs (toP n st) ds).map .tuple
   | .ref k=>(zcc st k).bind fun ds=>(toPs (toP n st) ds).map .list
   | .kl _=>none
theorem zdh{n:Nat}:∀ {ps:List PyData},(∀ p∈ps,p.depth<=n)->DL ps<=n
 | [],_=>by rw[DL];exact A4 _
 | p::ps,h=>by
   rw[DL];exact Nat.max_le.mpr ⟨h p Am,zdh fun q hq=>h q (Ah _ hq)⟩
theorem zd1{ps:List PyData}:(∀ p∈ps,p.canLay0=true)->B7 ps=true:=by
 induction ps with
 | nil=>intro _;simp only[B7]
 | cons p ps ih =>
   intro h;simp only[B7];rw[h p Am,ih fun q hq=>h q (Ah _ hq)];rfl
theorem zfR{f:D->Option PyData}:∀ {ds:List D} {ps:List PyData},toPs f ds=some ps->∀ p∈ps,∃ d,f d=some p
 | [],ps,h,p,hp=>by cases h;exact absurd hp (by simp)
 | d::ds,ps,h,p,hp=>by
   obtain⟨q,e1,h⟩:=zac h;obtain⟨qs,e2,h⟩:=zai h;subst h
   rcases List.mem_cons.mp hp with rfl | hp
   . exact⟨d,e1⟩
   . exact zfR e2 p hp
theorem zfb:∀ {n:Nat} {st:Sto} {d:D} {p:PyData},toP n st d=some p->p.canLay0=true/\p.depth<=n
 | 0,_,_,_,h=>by cases h
 | n+1,st,d,p,h=>by
   cases d with
   | non=>cases h;exact⟨by simp only[By],by simp only[Cv];exact A4 _⟩
   | bl b=>cases h;exact⟨by simp only[By],by simp only[Cv];exact A4 _⟩
   | int b=>cases h;exact⟨by simp only[By],by simp only[Cv];exact A4 _⟩
   | str b =>
     obtain⟨hs,h⟩:=zaq h
     cases h;exact⟨by simp only[By];exact hs,by simp only[Cv];exact A4 _⟩
   | tup ds =>
     obtain⟨ps,e,h⟩:=zai h;subst h;have q:∀ p∈ps,p.canLay0=true/\p.depth<=n:=fun p hp=>let ⟨d,hd⟩:=zfR e p hp;zfb hd
     exact⟨by simp only[By];exact zd1 fun p hp=>(q p hp).1,by simp only[Cv];exact Ce (zdh fun p hp=>(q p hp).2)⟩
   | kl ds=>cases h
   | ref k =>
     obtain⟨ds,e0,h⟩:=zac h;obtain⟨ps,e,h⟩:=zai h;subst h;have q:∀ p∈ps,p.canLay0=true/\p.depth<=n:=fun p hp=>let ⟨d,hd⟩:=zfR e p hp;zfb hd
     exact⟨by simp only[By];exact zd1 fun p hp=>(q p hp).1,by simp only[Cv];exact Ce (zdh fun p hp=>(q p hp).2)⟩
section
variable {X:Cx} {a b:Expr} {pos:Pos} {ma mb:ME} {pins:List (Addr×Obj)} {σ:L2.St} {H:Hp} {s:Shared} {io:List Addr} {st:Sto}
theorem zde{f:D->Option PyData}(hf:∀ {v:V} {u:Value} {d:D} {p:PyData},Rep X.K H io v d->RelV v u->f d=some p->∃ as,Reads s.heap u p as) :
   ∀ {xs:List V} {us:List Value} {ds:List D} {ps:List PyData},Reps X.K H io xs ds->Vals xs us->toPs f ds=some ps->∃ as,ReadsAll s.heap us ps as
 | _,_,[],ps,h,r,e=>by
   cases (show _=[] from h)
   cases r;cases e;exact⟨_,.nil⟩
 | _,_,d::ds,ps,h,r,e=>by
   obtain⟨y,ys,rfl,h1,h2⟩:=h
   cases r with
   | cons r1 r2 =>
     obtain⟨q,e1,e⟩:=zac e;obtain⟨qs,e2,e⟩:=zai e;subst e;obtain⟨as,ra⟩:=hf h1 r1 e1;obtain⟨bs,rb⟩:=zde hf h2 r2 e2;exact⟨_,.cons ra rb⟩
theorem zco(I:Inv X pins σ H s)(S:StR X.K H io st):∀ {n:Nat} {v:V} {u:Value} {d:D} {p:PyData},Rep X.K H io v d->RelV v u->toP n st d=some p->∃ as,Reads s.heap u p as
 | 0,_,_,_,_,_,_,h=>by cases h
 | n+1,v,u,d,p,h,r,e=>by
   cases d with
   | non=>cases e;cases (show v=.non from h);cases r;exact⟨_,.none⟩
   | bl b=>cases e;cases (show v=.bl b from h);cases r;exact⟨_,.bool _⟩
   | int b=>cases e;cases (show v=.int b from h);obtain⟨t,rfl⟩:=r;exact⟨_,.int _ _⟩
   | str b =>
     obtain⟨hs,e⟩:=zaq e
     cases e;cases (show v=.str b from h);obtain⟨t,rfl⟩:=r;exact⟨_,.str _ _⟩
   | tup ds =>
     obtain⟨ps,e',q⟩:=zai e;subst q;obtain⟨a,xs,rfl,ha,rs⟩:=h;cases r;obtain⟨its,rv,⟨o,ho,hc,k,hd⟩,hz⟩:=I.tuple (SqT.of ha);obtain⟨as,ra⟩:=zde (f:=toP n st) (fun h r e=>zco I S h r e) rs rv e';exact⟨_,.tuple ho hc hd (by simpa using ra)⟩
   | kl ds=>cases e
   | ref k =>
     obtain⟨ds,e0,e⟩:=zac e;obtain⟨ps,e',q⟩:=zai e;subst q;obtain⟨a,rfl,ha⟩:=h;cases r;obtain⟨xs,hx,rs⟩:=zbz S ha e0;obtain⟨its,rv,⟨o,k,ho,hc,_,hd⟩,hz⟩:=I.list hx;obtain⟨as,ra⟩:=zde (f:=toP n st) (fun h r e=>zco I S h r e) rs rv e';exact⟨_,.list ho hc hd (by simpa using ra)⟩
noncomputable def eqD:G2:=fun x y st=>(toP 100 st x).bind fun p=>(toP 100 st y).map fun q=>(.bl (AU p q),st)
noncomputable def neD:G2:=fun x y st=>(toP 100 st x).bind fun p=>(toP 100 st y).map fun q=>(.bl !PyData.eqv p q,st)
theorem zhH(hu:X.A.units+100 < cLine):OpM X (compareOp .Eq) eqD:=by
 rintro pins s σ H x y v u Q I rx ry ⟨dx,dy,st,io,d,st',Rx,Ry,S,e,k⟩;obtain⟨p,e1,e⟩:=zac e;obtain⟨q,e2,e⟩:=zai e;cases e;obtain⟨as,ra⟩:=zco I S Rx rx e1;obtain⟨bs,rb⟩:=zco I S Ry ry e2;have h1:=zfb e1;have h2:=zfb e2;exact PySem.SeqAt.compareEq_reads ra rb h1.1 h2.1 (B1 (C2 (AI (ET _ _) h1.2) _) hu) ⟨.bl _,H,I,rfl,k.now S rfl⟩
theorem zeO(hu:X.A.units+100 < cLine):OpM X (compareOp .NotEq) neD:=by
 rintro pins s σ H x y v u Q I rx ry ⟨dx,dy,st,io,d,st',Rx,Ry,S,e,k⟩;obtain⟨p,e1,e⟩:=zac e;obtain⟨q,e2,e⟩:=zai e;cases e;obtain⟨as,ra⟩:=zco I S Rx rx e1;obtain⟨bs,rb⟩:=zco I S Ry ry e2;have h1:=zfb e1;have h2:=zfb e2;exact PySem.SeqAt.compareNe_reads ra rb h1.1 h2.1 (B1 (C2 (AI (ET _ _) h1.2) _) hu) ⟨.bl _,H,I,rfl,k.now S rfl⟩
theorem zbL{k:Nat}{A:Around}(hr:Room k A):A.units+100 < cLine:=by have:=hr.un;omega
end
section
variable {X:Cx} {pins:List (Addr×Obj)} {σ:L2.St} {H:Hp} {s:Shared} {h':Heap}
theorem Inv.turnNew{t':Nat}{fp:List Addr}{p:Addr}{o:HO}(I:Inv X pins σ H s)(hf:∀ b∈fp,FpOk X pins H b)(k:∀ b ob,b ∉ fp->s.heap.get? b=some ob->h'.get? b=some ob)(hp:s.heap.objs.size<=p)
   (hfp:∀ b∈fp,∀ ob,s.heap.get? b=some ob->∃ ob',h'.get? b=some ob') (new:zdv X.prog X.w (upd H p o) h' p o):Inv X pins σ (upd H p o) { s with heap:=h',toks:=t' }:=by
 have hpn:=I.hok.fresh hp;have nlt:∀ b ob,s.heap.get? b=some ob->b≠p:=fun b ob e=>AB (Aw (An e) hp);refine Inv.step (ch:=fp) (g':=s.gens) (d':=s.drawn) I (fun b hb=>⟨(hf b hb).2.2.2.1,(hf b hb).2.1,(hf b hb).2.2.2.2.1,(hf b hb).2.2.2.2.2⟩) (fun b ob _ _ hc e _=>k b ob hc e) (fun b ob _ _ hc e _=>⟨ob.slots,k b ob hc e⟩)
   (fun b ob hc e n=>by rw[zaO (nlt b ob e)];exact n) (fun b ob hc e=>⟨ob,k b ob hc e⟩) (fun b xs e=>by rw[zaO (zan e hpn)];exact e) (fun b ob u e=>by rw[zaO (zan e hpn)];exact e)
   (fun b ps e=>⟨#[],by rw[zaO (zan e hpn),e];simp⟩) (fun m hm=>?_) (fun b u e=>?_) I.bare
 . obtain⟨ob,es,ep,ho,r⟩:=hm;exact⟨ob,es,ep,k _ ob (fun z=>(hf _ z).2.1 rfl) ho,r⟩
 . by_cases hb:b=p
   . subst hb;rw[zbw] at e;cases e;exact new
   . rw[zaO hb] at e;refine (I.hok b u e).stay (fun c v hc q=>k c v (fun z=>?_) q) (fun c q=>by rw[zaO (zan q hpn)];exact q) fun c xs q=>by rw[zaO (zan q hpn)];exact q
     have hz:=(hf c z).1
     rcases hc with rfl | hc
     . rw[hz] at e;cases e
     . rw[hz] at hc;cases hc
theorem Inv.turnAll{t':Nat}{fp:List Addr}(I:Inv X pins σ H s)(hf:∀ b∈fp,FpOk X pins H b)(k:∀ b ob,b ∉ fp->s.heap.get? b=some ob->h'.get? b=some ob):Inv X pins σ H { s with heap:=h',toks:=t' }:=by
 refine Inv.step (ch:=fp) (g':=s.gens) (d':=s.drawn) I (fun b hb=>⟨(hf b hb).2.2.2.1,(hf b hb).2.1,(hf b hb).2.2.2.2.1,(hf b hb).2.2.2.2.2⟩) (fun b ob _ _ hc e _=>k b ob hc e) (fun b ob _ _ hc e _=>⟨ob.slots,k b ob hc e⟩)
   (fun b ob hc e n=>n) (fun b ob hc e=>⟨ob,k b ob hc e⟩) (fun b xs e=>e) (fun b ob u e=>e)
   (fun b ps e=>⟨#[],by rw[e];simp⟩) (fun m hm=>?_) (fun b u e=>?_) I.bare
 . obtain⟨ob,es,ep,ho,r⟩:=hm;exact⟨ob,es,ep,k _ ob (fun z=>(hf _ z).2.1 rfl) ho,r⟩
 . refine (I.hok b u e).stay (fun c v hc q=>k c v (fun z=>?_) q) (fun c q=>q) fun c xs q=>q;have hz:=(hf c z).1
   rcases hc with rfl | hc
   . rw[hz] at e;cases e
   . rw[hz] at hc;cases hc
end
section
variable {X:Cx} {m:ME}
theorem boot_enumerate:bootBuiltins "enumerate"=some (.type "enumerate"):=by decide +kernel
noncomputable def pairs(ds:List D):List D:=(ds.zipIdx).map fun (d,k)=>.tup [.int (k:Nat),d]
theorem zcw{ds:List D}{i:Nat}{d:D}(h:(pairs ds)[i]?=some d):∃ e,ds[i]?=some e/\d=.tup [.int (i:Nat),e]:=by
 unfold pairs at h;rw[Ay,D5] at h
 cases e:ds[i]? with
 | none=>rw[e] at h;cases h
 | some x =>
   rw[e] at h;simp at h;exact⟨x,rfl,h.symm⟩
theorem pairs_len(ds:List D):(pairs ds).length=ds.length:=by unfold pairs;simp
end
section
variable {κ:Type} [DecidableEq κ] {K:Ac} {H:Hp} {io:List Addr}
noncomputable def valD(kvs:List (κ×D))(k:κ):Option D:=(kvs.find? fun kv=>decide (kv.1=k)).map (·.2)
noncomputable def putD(kvs:List (κ×D))(k:κ)(d:D):List (κ×D) :=
 if (kvs.any fun kv=>decide (kv.1=k))=true then kvs.map (fun kv=>if kv.1=k then (kv.1,d) else kv) else kvs++[(k,d)]
theorem KR.any{ps:List (κ×V)}{kvs:List (κ×D)}(r:KR κ K H io ps kvs)(k:κ):(ps.any fun kv=>decide (kv.1=k))=(kvs.any fun kv=>decide (kv.1=k)):=by
 induction r with
 | nil=>rfl
 | cons z t ih=>rw[BK,BK,ih,z.1]
theorem KR.length{ps:List (κ×V)}{kvs:List (κ×D)}(r:KR κ K H io ps kvs):ps.length=kvs.length:=Cg r
theorem KR.val{ps:List (κ×V)}{kvs:List (κ×D)}(r:KR κ K H io ps kvs)(k:κ):(valD kvs k=none/\valV ps k=none)\/∃ d v,valD kvs k=some d/\valV ps k=some v/\Rep K H io v d:=by
 induction r with
 | nil=>exact .inl ⟨rfl,rfl⟩
 | @cons p q l1 l2 z t ih =>
   unfold valD valV at *;rw[Bs,Bs,z.1]
   by_cases e:q.1=k
   . rw[decide_eq_true e];exact .inr ⟨q.2,p.2,rfl,rfl,z.2⟩
   . rw[decide_eq_false e];exact ih
theorem KR.append{ps qs:List (κ×V)}{kvs lvs:List (κ×D)}(r:KR κ K H io ps kvs)(r':KR κ K H io qs lvs):KR κ K H io (ps++qs) (kvs++lvs):=by
 induction r with
 | nil=>exact r'
 | cons z t ih=>exact .cons z ih
theorem KR.put{ps:List (κ×V)}{kvs:List (κ×D)}(r:KR κ K H io ps kvs)(k:κ){v:V}{d:D}(rv:Rep K H io v d):KR κ K H io (putK ps k v) (putD kvs k d):=by
 unfold putK putD;rw[KR.any r k]
 by_cases e:(kvs.any fun kv=>decide (kv.1=k))=true
 . rw[if_pos e,if_pos e]
   induction r with
   | nil=>exact .nil
   | @cons p q l1 l2 z t ih =>
     rw[Aq,Aq];have hrest:KR κ K H io (l1.map fun kv=>if kv.1=k then (kv.1,v) else kv) (l2.map fun kv=>if kv.1=k then (kv.1,d) else kv):=by
       clear ih e
       induction t with
       | nil=>exact .nil
       | @cons p q l1 l2 z t ih =>
         rw[Aq,Aq];refine .cons ?_ ih;rw[z.1]
         by_cases e:q.1=k
         . rw[if_pos e,if_pos e];exact⟨rfl,rv⟩
         . rw[if_neg e,if_neg e];exact z
     refine .cons ?_ hrest;rw[z.1]
     by_cases e:q.1=k
     . rw[if_pos e,if_pos e];exact⟨rfl,rv⟩
     . rw[if_neg e,if_neg e];exact z
 . rw[if_neg e,if_neg e];exact KR.append r (.cons ⟨rfl,rv⟩ .nil)
end
noncomputable def keyOf:D->Option Key
 | .int i=>some (.inl i)
 | .str x=>some (.inr x)
 | _=>none
noncomputable def keysOf:List D->Option (List Key)
 | []=>some []
 | d::ds=>(keyOf d).bind fun k=>(keysOf ds).map fun ks=>k::ks
section
variable {X:Cx} {K:Ac} {H:Hp} {io:List Addr} {st st':Sto} {a b e:Expr} {es:List Expr} {ma mb m:ME} {mm:MA} {pos:Pos}
theorem zdQ{v:V}{d:D}{k:Key}(h:Rep K H io v d)(e:keyOf d=some k):v=kV k:=by
 cases d with
 | int i=>cases e;exact h
 | str i=>cases e;exact h
 | _=>cases e
theorem zdX:∀ {xs:List V} {ds:List D} {ks:List Key},Reps K H io xs ds->keysOf ds=some ks->xs=ks.map kV
 | _,[],ks,h,e=>by cases e;exact h
 | _,d::ds,ks,h,e=>by
   obtain⟨y,ys,rfl,h1,h2⟩:=h;obtain⟨k,e1,e⟩:=zac e;obtain⟨ks',e2,e⟩:=zai e;subst e;rw[zdQ h1 e1,zdX h2 e2];rfl
noncomputable def look(st:Sto)(n:Nat)(k:D):Option (Option D):=match st[n]? with
 | some (.dk kvs)=>(keyOf k).map fun q=>valD kvs q
 | some (.dt kvs)=>match k with
   | .tup ds=>(keysOf ds).map fun q=>valD kvs q
   | _=>none
 | _=>none
theorem zhY{n:Nat}{p:Addr}{k:D}{y:V}{r:Option D}(S:StR K H io st)(hp:io[n]?=some p)(ry:Rep K H io y k)(h:look st n k=some r):∃ o,DGet H p y o/\((r=none/\o=none)\/∃ d v,r=some d/\o=some v/\Rep K H io v d):=by
 unfold look at h
 split at h
 . rename_i kvs e;obtain⟨q,e1,h⟩:=zai h;subst h;obtain⟨ps,hH,r⟩:=S.ob n p _ hp e;have ey:=zdQ ry e1;subst ey;refine⟨_,DGet.k hH,?_⟩
   rcases KR.val r q with ⟨h1,h2⟩ | ⟨d,v,h1,h2,h3⟩
   . exact .inl ⟨h1,h2⟩
   . exact .inr ⟨d,v,h1,h2,h3⟩
 . rename_i kvs e
   split at h
   . rename_i ds;obtain⟨q,e1,h⟩:=zai h;subst h;obtain⟨ps,hH,r⟩:=S.ob n p _ hp e;obtain⟨b,xs,rfl,hb,rs⟩:=ry;have ex:=zdX rs e1;subst ex;refine⟨_,DGet.t hH hb,?_⟩
     rcases KR.val r q with ⟨h1,h2⟩ | ⟨d,v,h1,h2,h3⟩
     . exact .inl ⟨h1,h2⟩
     . exact .inr ⟨d,v,h1,h2,h3⟩
   . cases h
 . cases h
noncomputable def zo0(md mk:ME):ME:=fun ρ st=>(md ρ st).bind fun (d,s1)=>(mk ρ s1).bind fun (k,s2)=>match d with
 | .ref n=>(look s2 n k).bind fun r=>r.map fun v=>(v,s2)
 | _=>none
theorem zlW{o i:Expr}{md mk:ME}(hu:X.A.units+1 < cLine)(ho:SE X o md)(hi:SE X i mk)(hs:NoSl i:=by intro _ _;rfl):SE X (.Subscript o i pos) (zo0 md mk):=PE.imp (zmh hu ho hi hs) <| by
 rintro σ H Q ⟨ρ,st,io,d,st',E,S,e,k⟩;obtain⟨⟨x,s1⟩,e1,e⟩:=zac e;obtain⟨⟨y,s2⟩,e2,e⟩:=zac e
 cases x with
 | ref n =>
   obtain⟨r,e3,e⟩:=zac e;obtain⟨w,e4,e⟩:=zai e;cases e;subst e4;refine⟨ρ,st,io,_,s1,E,S,e1,fun v1 H1 k1 X1 S1 R1=>⟨ρ,s1,io++k1,y,_,E.ext S X1,S1,e2,fun v2 H2 k2 X2 S2 R2=>?_⟩⟩;obtain⟨p,rfl,hp⟩:=R1;obtain⟨o,g,⟨z,_⟩ | ⟨d',v,hd,hv,rv⟩⟩:=zhY S2 (zbT hp) R2 e3
   . cases z
   . cases hd;subst hv;exact⟨p,v,rfl,g,((k.on S1 X1).on S2 X2).now S2 rv⟩
 | _=>cases e
noncomputable def mDIn(neg:Bool)(mk md:ME):ME:=fun ρ st=>(mk ρ st).bind fun (k,s1)=>(md ρ s1).bind fun (d,s2)=>match d with
 | .ref n=>(look s2 n k).map fun r=>(.bl (if neg then !r.isSome else r.isSome),s2)
 | _=>none
theorem zjg{neg:Bool}{mk md:ME}{σ:L2.St}{Q:VK}(h:tE K (mDIn neg mk md) σ H Q):tE K mk σ H fun y H1=>tE K md σ H1 fun x H2=>∃ a o,x=.ref a/\DGet H2 a y o/\Q (.bl (if neg then !o.isSome else o.isSome)) H2:=by
 obtain⟨ρ,st,io,d,st',E,S,e,k⟩:=h;obtain⟨⟨y,s1⟩,e1,e⟩:=zac e;obtain⟨⟨x,s2⟩,e2,e⟩:=zac e
 cases x with
 | ref n =>
   obtain⟨r,e3,e⟩:=zai e;cases e;refine⟨ρ,st,io,y,s1,E,S,e1,fun v1 H1 k1 X1 S1 R1=>⟨ρ,s1,io++k1,_,_,E.ext S X1,S1,e2,fun v2 H2 k2 X2 S2 R2=>?_⟩⟩;obtain⟨p,rfl,hp⟩:=R2;obtain⟨o,g,z⟩:=zhY S2 hp (R1.ext S1 X2) e3;have:o.isSome=r.isSome:=by
     rcases z with ⟨a,b⟩ | ⟨d',v,a,b,_⟩
     . rw[a,b];rfl
     . rw[a,b];rfl
   exact⟨p,o,rfl,g,by rw[this];exact ((k.on S1 X1).on S2 X2).now S2 rfl⟩
 | _=>cases e
theorem znH{o i:Expr}{md mk:ME}(hu:X.A.units+1 < cLine)(hi:SE X i mk)(ho:SE X o md)(hm:behindInMarks .In o=false:=by rfl):SE X (.Compare i [.In] [o] pos) (mDIn false mk md):=PE.imp (zn5 (zn7 hu hi ho) hm) fun σ H Q h=>zjg h
end
section
variable {X:Cx} {K:Ac} {H:Hp} {io:List Addr} {st st':Sto} {a b c e:Expr} {es:List Expr} {ma mb mc m:ME} {mm:MA} {pos:Pos}
noncomputable def dput(st:Sto)(n:Nat)(k d:D):Option Sto:=match st[n]? with
 | some (.dk kvs)=>(keyOf k).bind fun q=>if decide (kvs.length < sizeLine)=true then some (st.set n (.dk (putD kvs q d))) else none
 | some (.dt kvs)=>match k with
   | .tup ds=>(keysOf ds).bind fun q=>if decide (kvs.length < sizeLine)=true then some (st.set n (.dt (putD kvs q d))) else none
   | _=>none
 | _=>none
theorem zk3{n:Nat}{p:Addr}{k d:D}{y v:V}(S:StR K H io st)(hp:io[n]?=some p)(ry:Rep K H io y k)(rv:Rep K H io v d)(h:dput st n k d=some st'):∃ H',DPut H p y v H'/\Ext io [] H H'/\StR K H' (io++[]) st':=by
 unfold dput at h
 split at h
 . rename_i kvs e;obtain⟨q,e1,h⟩:=zac h;obtain⟨hl,h⟩:=zaq h;cases h;obtain⟨ps,hH,r⟩:=S.ob n p _ hp e;have ey:=zdQ ry e1;subst ey;have:=KR.length r;refine⟨_,DPut.k hH (by rw[this];exact of_decide_eq_true hl),?_⟩;exact zgR S hp e (fun o u z=>by rw[hH] at z;cases z) fun H' T e'=>⟨_,e',KR.put (KR.mono T r) q (Rep.mono T rv)⟩
 . rename_i kvs e
   split at h
   . rename_i ds;obtain⟨q,e1,h⟩:=zac h;obtain⟨hl,h⟩:=zaq h;cases h;obtain⟨ps,hH,r⟩:=S.ob n p _ hp e;obtain⟨b,xs,rfl,hb,rs⟩:=ry;have ex:=zdX rs e1;subst ex;have:=KR.length r;refine⟨_,DPut.t hH hb (by rw[this];exact of_decide_eq_true hl),?_⟩;exact zgR S hp e (fun o u z=>by rw[hH] at z;cases z) fun H' T e'=>⟨_,e',KR.put (KR.mono T r) q (Rep.mono T rv)⟩
   . cases h
 . cases h
noncomputable def zng(md mk mv:ME):MS:=fun ρ st=>(mv ρ st).bind fun (v,s1)=>(md ρ s1).bind fun (d,s2)=>(mk ρ s2).bind fun (k,s3)=>match d with
 | .ref n=>(dput s3 n k v).map fun s4=>(.nx ρ,s4)
 | _=>none
theorem zlD{o i value:Expr}{md mk mv:ME}{pos':Pos}(hu:X.A.units+1 < cLine)(ho:SE X o md)(hi:SE X i mk)(hv:SE X value mv)(hs:swapsWith value (some (.Subscript o i pos')) pos.line X.env=pure false:=by rfl) :
   SS X (.Assign [.Subscript o i pos'] value pos) (zng md mk mv):=PS.imp (zl6 hu ho hi hv hs) fun N σ H h=>by
 obtain⟨ρ,st,io,f,st',E,S,e,w⟩:=zc0.mp h;obtain⟨⟨v,s1⟩,e1,e⟩:=zac e;obtain⟨⟨d,s2⟩,e2,e⟩:=zac e;obtain⟨⟨k,s3⟩,e3,e⟩:=zac e
 cases d with
 | ref n =>
   obtain⟨s4,e4,e⟩:=zai e;cases e;refine⟨ρ,st,io,v,s1,E,S,e1,fun v1 H1 k1 X1 S1 R1=>⟨ρ,s1,io++k1,_,s2,E.ext S X1,S1,e2,fun v2 H2 k2 X2 S2 R2=>⟨ρ,s2,(io++k1)++k2,k,s3,(E.ext S X1).ext S1 X2,S2,e3,fun v3 H3 k3 X3 S3 R3=>?_⟩⟩⟩;obtain⟨p,rfl,hp⟩:=R2;obtain⟨H4,g,X4,S4⟩:=zk3 S3 (zbT hp) R3 ((R1.ext S1 X2).ext S2 X3) e4;refine⟨p,H4,rfl,g,?_⟩;have w3:∀ σ' H' kb,Ext (((io++k1)++k2)++k3) kb H3 H'->_:=zfv (zfv (zfv w X1 S1) X2 S2) X3 S3;exact w3 σ H4 [] X4 S4 ((((E.ext S X1).ext S1 X2).ext S2 X3).ext S3 X4)
 | _=>cases e
inductive mtM (K:Ac) (g:D->List D->Sto->Option (D×Sto)) (x:V) (xs:List V) (H:Hp) (Q:VK):Prop
 | mk (dx:D) (ds:List D) (st:Sto) (io:List Addr) (d:D) (st':Sto) (h0:Rep K H io x dx) (h1:Reps K H io xs ds) (h2:StR K H io st) (h3:g dx ds st=some (d,st')) (h4:Bh K io H st' d Q)
noncomputable def zcA:D->List D->Sto->Option (D×Sto):=fun x xs st=>match x,xs with
 | .ref n,[d]=>match st[n]? with
   | some (.lst ds)=>if decide (ds.length < sizeLine)=true then some (.non,st.set n (.lst (ds++[d]))) else none
   | _=>none
 | _,_=>none
theorem append_in{n:Nat}{d:D}{ds:List D}{xs:List D}(h:zcA (.ref n) xs st=some (d,st')):∃ ds x,st[n]?=some (.lst ds)/\xs=[x]/\ds.length < sizeLine/\d=.non/\st'=st.set n (.lst (ds++[x])):=by
 unfold zcA at h
 match xs,h with
 | [x],h =>
   dsimp only at h
   split at h
   . rename_i ds e;obtain⟨hl,h⟩:=zaq h;cases h;exact⟨ds,x,e,rfl,of_decide_eq_true hl,rfl,rfl⟩
   . cases h
 | [],h=>cases h
 | _::_::_,h=>cases h
theorem zhR:MtR X "list.append" (mtM X.K zcA):=by
 rintro pins s σ H x xs v us Q I rx rs ⟨dx,ds,st,io,d,st',Rx,Rs,S,e,k⟩
 cases dx with
 | ref n =>
   obtain⟨l,y,e1,rfl,hl,rfl,rfl⟩:=append_in (ds:=[]) e;obtain⟨p,rfl,hp⟩:=Rx;obtain⟨w,rfl,Rw⟩:=Rs.one;obtain⟨ys,hH,r⟩:=S.ob n p _ hp e1;refine zgu pins s σ H _ _ v us Q I rx rs ⟨p,ys,w,rfl,rfl,hH,by rw[r.length];exact hl,?_⟩;obtain⟨E',S'⟩:=zgR (o:=.lst (ys++[w])) (ob:=.lst (l++[y])) S hp e1 (fun o u z=>by rw[hH] at z;cases z) fun H' T e'=>⟨_,e',(Reps.mono T r).append (Reps.cons (Rep.mono T Rw) Reps.nil)⟩
   exact k _ _ [] E' S' rfl
 | _=>unfold zcA at e;cases ds <;> cases e
theorem zhc{n:Nat}{v:V}{l:List D}(R:Rep K H io v (.ref n))(S:StR K H io st)(h:zcc st n=some l):tyV K "list" v H:=by
 obtain⟨p,rfl,hp⟩:=R;obtain⟨xs,hx,_⟩:=zbz S hp h;exact .inl ⟨rfl,xs,hx⟩
noncomputable def mApp(m:ME)(mm:MA):ME:=fun ρ st=>(m ρ st).bind fun (x,s1)=>match x with
 | .ref n=>(zcc s1 n).bind fun _=>(mm ρ s1).bind fun (xs,s2)=>zcA x xs s2
 | _=>none
theorem zez{o:Expr}{apos cpos:Pos}(ho:SE X o m)(ha:SA X (e::es) mm)
   (hbase:attributeBase o "append" X.env (eval o X.env)=eval o X.env:=by rfl)
   (hfew:((backTo cpos (starEach (e::es) X.env)).all (fun x=>!x.1)&&(backToKw cpos (keywordEach [] X.env)).all (fun x=>x.1.isSome)
    &&decide ((e::es).length+([]:List Keyword).length+(if ([]:List Keyword).isEmpty then 0 else 1) < 30))=true:=by rfl)
   (hline:(apos.endLine==cpos.line)=true:=by rfl) (hs:starEach (e::es) X.env=(false,eval e X.env)::starEach es X.env:=by rfl) (hplain:(backTo cpos (starEach es X.env)).any (·.1)=false:=by rfl) :
   SE X (.Call (.Attribute o "append" apos) (e::es) [] cpos) (mApp m mm) :=
 PE.imp (zm7 DE PySem.F.slot_list_append PySem.F.type_list_append zhR ho ha hbase hfew hline hs hplain) <| by
   rintro σ H Q ⟨ρ,st,io,d,st',E,S,e,k⟩;obtain⟨⟨x,s1⟩,e1,e⟩:=zac e
   cases x with
   | ref n =>
     obtain⟨l,e0,e⟩:=zac e;obtain⟨⟨xs,s2⟩,e2,e⟩:=zac e;refine⟨ρ,st,io,_,s1,E,S,e1,fun v1 H1 k1 X1 S1 R1=>⟨zhc R1 S1 e0,ρ,s1,io++k1,xs,s2,E.ext S X1,S1,e2,fun vs H2 k2 X2 S2 R2=>?_⟩⟩;exact⟨_,xs,s2,(io++k1)++k2,d,st',R1.ext S1 X2,R2,S2,e,(k.on S1 X1).on S2 X2⟩
   | _=>cases e
noncomputable abbrev MO:=Rho->Sto->Option (Option Int×Sto)
inductive tOm (K:Ac) (m:MO) (σ:L2.St) (H:Hp) (Q:Option Int->Hp->Prop):Prop
 | mk (ρ:Rho) (st:Sto) (io:List Addr) (d:Option Int) (st':Sto) (h1:EnvR K H io σ ρ) (h2:StR K H io st) (h3:m ρ st=some (d,st')) (h4:∀ H' ka,Ext io ka H H'->StR K H' (io++ka) st'->Q d H')
def SO(X:Cx)(e:Option Expr)(m:MO):Prop:=PO X e (tOm X.K m)
noncomputable def zhM:MO:=fun _ st=>some (none,st)
noncomputable def zhL(m:ME):MO:=fun ρ st=>(m ρ st).bind fun (d,s)=>match d with
 | .int i=>some (some i,s)
 | _=>none
theorem zgm:SO X none zhM:=fun pins s σ H Q I ⟨ρ,st,io,d,st',E,S,e,k⟩=>zma pins s σ H Q I (by cases e;exact k H [] Ext.refl S.nil)
theorem zgl(h:SE X e m):SO X (some e) (zhL m):=fun pins s σ H Q I ⟨ρ,st,io,d,st',E,S,e,k⟩=>zl9 h pins s σ H Q I (by
 obtain⟨⟨x,s1⟩,e1,e⟩:=zac e
 cases x with
 | int i =>
   cases e;exact⟨ρ,st,io,_,_,E,S,e1,fun v1 H1 k1 X1 S1 R1=>⟨i,R1,k H1 k1 X1 S1⟩⟩
 | _=>cases e)
noncomputable def cutD(xs:List D)(lo hi:Option Int):List D:=(xs.drop (HT.sIx xs.length 0 lo)).take (HT.sIx xs.length xs.length hi - HT.sIx xs.length 0 lo)
theorem zid{xs:List V}{ds:List D}(r:Reps K H io xs ds)(lo hi:Option Int):Reps K H io (cutV xs lo hi) (cutD ds lo hi):=by
 unfold cutV cutD;rw[r.length];exact (r.drop _).take _
noncomputable def slD:D->Option Int->Option Int->Sto->Option (D×Sto):=fun x lo hi st=>match x with
 | .tup ds=>if (decide (HT.sIx ds.length 0 lo=0)&&decide (HT.sIx ds.length ds.length hi=ds.length))=true then none else some (.tup (cutD ds lo hi),st)
 | .ref n=>(zcc st n).map fun ds=>(.ref st.length,st++[.lst (cutD ds lo hi)])
 | _=>none
noncomputable def mSl(m:ME)(l h:MO):ME:=fun ρ st=>(m ρ st).bind fun (x,s1)=>(l ρ s1).bind fun (lo,s2)=>(h ρ s2).bind fun (hi,s3)=>slD x lo hi s3
noncomputable def rSlM(K:Ac):V->Option Int->Option Int->Hp->VK->Prop:=fun x lo hi H Q=>rSlT K x lo hi H Q\/rSlL K x lo hi H Q
theorem sl_M:SlR X (rSlM X.K):=by
 intro pins s σ H x v vl vu lo hi sl Q I rx hs pl pu h
 rcases h with h | h
 . exact zny pins s σ H x v vl vu lo hi sl Q I rx hs pl pu h
 . exact zjt pins s σ H x v vl vu lo hi sl Q I rx hs pl pu h
theorem zkh{lo hi:Option Expr}{ml mh:MO}{p2:Pos}(he:SE X e m)(hl:SO X lo ml)(hu:SO X hi mh):SE X (.Subscript e (.Slice lo hi none p2) pos) (mSl m ml mh):=PE.imp (zeJ sl_M he hl hu) <| by
 rintro σ H Q ⟨ρ,st,io,d,st',E,S,e,k⟩;obtain⟨⟨x,s1⟩,e1,e⟩:=zac e;obtain⟨⟨lo',s2⟩,e2,e⟩:=zac e;obtain⟨⟨hi',s3⟩,e3,e⟩:=zac e;refine⟨ρ,st,io,x,s1,E,S,e1,fun v1 H1 k1 X1 S1 R1=>⟨ρ,s1,io++k1,lo',s2,E.ext S X1,S1,e2,fun H2 k2 X2 S2=>⟨ρ,s2,(io++k1)++k2,hi',s3,(E.ext S X1).ext S1 X2,S2,e3,fun H3 k3 X3 S3=>?_⟩⟩⟩;have R3:=(R1.ext S1 X2).ext S2 X3;have k':=((k.on S1 X1).on S2 X2).on S3 X3
 cases x with
 | tup ds =>
   have e:(if (decide (HT.sIx ds.length 0 lo'=0)&&decide (HT.sIx ds.length ds.length hi'=ds.length))=true then none else some (D.tup (cutD ds lo' hi'),s3))=some (d,st'):=e
   by_cases hw:(decide (HT.sIx ds.length 0 lo'=0)&&decide (HT.sIx ds.length ds.length hi'=ds.length))=true
   . rw[if_pos hw] at e;cases e
   . rw[if_neg hw] at e;cases e;obtain⟨p,xs,rfl,hp,r⟩:=R3;refine .inl ⟨p,xs,rfl,SqT.of hp,fun z=>hw ?_,fun q hq=>k'.tup S3 (zid r _ _) hq⟩;rw[r.length] at z;rw[AA];exact⟨decide_eq_true z.1,decide_eq_true z.2⟩
 | ref n =>
   obtain⟨ds,e0,e⟩:=zai e;cases e;obtain⟨p,rfl,hp⟩:=R3;obtain⟨xs,hx,r⟩:=zbz S3 hp e0;exact .inr ⟨p,xs,rfl,hx,fun q hq=>k'.lst S3 (zid r _ _) hq⟩
 | _=>cases e
noncomputable def ze2:G2:=intD (fun _ j=>decide (0 < j)&&decide (j < 2 ^ 128)) fun i j=>.int (i / j)
theorem zdV:OpM X (binaryOp .FloorDiv) ze2:=zfu (C:=fun i j=>0 < j/\j < 2 ^ 128) (opI fun i j _ _ _ _ _ hc q=>by
 refine floordiv_int (by omega) (by rw[Int.fdiv_eq_ediv_of_nonneg i (by omega)];exact q) (.inl (PyProof.noPylong_of_log2 ?_));have h0:j.natAbs≠0:=by omega
 have h1:j.natAbs < 2 ^ 128:=by omega
 exact Nat.lt_trans ((Nat.log2_lt h0).mpr h1) (by decide)) fun i j h=>by
   rw[AA] at h;exact⟨of_decide_eq_true h.1,of_decide_eq_true h.2⟩
noncomputable def powB:G2:=intD (fun i j=>decide (0<=j)&&decide ((Ed i:Int)*j<=2 ^ 27)) fun i j=>.int (i ^ j.toNat)
theorem zml:OpM X (binaryOp .Pow) powB:=zfu (C:=fun i j=>0<=j/\(Ed i:Int)*j<=2 ^ 27) (opI fun i j _ _ _ _ _ hc q=>pow_int hc.1 hc.2 q) fun i j h=>by
   rw[AA] at h;exact⟨of_decide_eq_true h.1,of_decide_eq_true h.2⟩
end
noncomputable def subT(t T:String):Bool:=t==T || (t=="bool"&&T=="int")
noncomputable def sorts:List String:=["NoneType","bool","int","str","tuple","list","dict"]
noncomputable def kinds:List String:=["bool","int","str","tuple","list","dict"]
theorem zmD{K:Ac}{t T:String}(ht:t∈sorts)(hT:T∈kinds):E4 K (.type t) (.type T)=some (subT t T):=by
 have all:∀ t∈sorts,∀ T∈kinds,E4 K (.type t) (.type T)=some (subT t T):=by
   intro t ht T hT;simp only[sorts,kinds,Bb,Ba,or_false] at ht hT
   rcases ht with rfl | rfl | rfl | rfl | rfl | rfl | rfl <;> rcases hT with rfl | rfl | rfl | rfl | rfl | rfl <;> rfl
 exact all t ht T hT
noncomputable def tyName(st:Sto):D->Option String
 | .non=>some "NoneType"
 | .bl _=>some "bool"
 | .int _=>some "int"
 | .str _=>some "str"
 | .tup _=>some "tuple"
 | .ref n=>match st[n]? with
   | some (.lst _)=>some "list"
   | some (.fz _)=>some "list"
   | some (.dk _)=>some "dict"
   | some (.dt _)=>some "dict"
   | _=>none
 | .kl _=>none
section
variable {X:Cx} {K:Ac} {H:Hp} {io:List Addr} {st st':Sto} {a:Expr} {m:ME} {pos:Pos} {pins:List (Addr×Obj)} {σ:L2.St} {s:Shared}
theorem zh0{xs:List V}{p:Addr}(I:Inv X pins σ H s)(h:SqL X.K H p xs):D8 p "list" s.heap:=by
 obtain⟨its,_,⟨o,n,e,c,_,_⟩,_⟩:=I.list h;exact⟨o,e,c⟩
theorem zi4{ps:List (Key×V)}{p:Addr}(I:Inv X pins σ H s)(h:H p=some (.dK ps)):D8 p "dict" s.heap:=by
 obtain⟨_,_,_,_,o,_,_,e,ex,_⟩:=I.hok p _ h;exact⟨o,e,ex.1⟩
theorem zi3{ps:List (List Key×V)}{p:Addr}(I:Inv X pins σ H s)(h:H p=some (.dT ps)):D8 p "dict" s.heap:=by
 obtain⟨_,_,_,_,o,_,_,e,ex,_⟩:=I.hok p _ h;exact⟨o,e,ex.1⟩
theorem zmM{d:D}{v:V}{u:Value}{t T:String}{Q:Value->Shared->Prop}{E:Value->Shared->Prop}(I:Inv X pins σ H s)(S:StR X.K H io st)(R:Rep X.K H io v d)(r:RelV v u)(ht:tyName st d=some t)(hT:T∈kinds)
   (q:∀ tk,Q (.bool (subT t T)) { s with toks:=tk }):wpAny (model X.prog X.w) X.A (call (.builtin "isinstance") [u,.type T]) Q E s:=by
 have k:=fun {x:Value} {HH:Heap->Prop} (hs:t∈sorts) (Z:PySem.W.KitX X.K x (.type t) HH) (p:HH s.heap) (hx:x≠.builtin "__main__.__loader__#opaque")=>PySem.W.kia_one (prog:=X.prog) (w:=X.w) (A:=X.A) (E:=E) Z I.kIn p (zmD hs hT) hx q
 cases d with
 | non=>cases ht;cases (show v=.non from R);cases r;exact k (by decide) PySem.W.kitx_none trivial (by intro e;cases e)
 | bl b=>cases ht;cases (show v=.bl b from R);cases r;exact k (by decide) PySem.W.kitx_bool trivial (by intro e;cases e)
 | int b=>cases ht;cases (show v=.int b from R);obtain⟨t,rfl⟩:=r;exact k (by decide) PySem.W.kitx_int trivial (by intro e;cases e)
 | str b=>cases ht;cases (show v=.str b from R);obtain⟨t,rfl⟩:=r;exact k (by decide) PySem.W.kitx_str trivial (by intro e;cases e)
 | tup ds =>
   cases ht;obtain⟨p,xs,rfl,hp,_⟩:=R;cases r;obtain⟨its,_,⟨o,e,c,_⟩,_⟩:=I.tuple (SqT.of hp);exact k (by decide) PySem.W.kitx_tuple ⟨o,e,c⟩ (by intro e;cases e)
 | ref n =>
   obtain⟨p,rfl,hp⟩:=R;cases r;unfold tyName at ht;dsimp only at ht
   split at ht
   . rename_i o e;cases ht;obtain⟨xs,hH,_⟩:=S.ob n p _ hp e;exact k (by decide) Ew (zh0 I (SqL.of hH)) (by intro e;cases e)
   . rename_i o e;cases ht;obtain⟨ob,xs,hH,_⟩:=S.ob n p _ hp e;exact k (by decide) Ew (zh0 I (.inl (.inr ⟨ob,hH⟩))) (by intro e;cases e)
   . rename_i o e;cases ht;obtain⟨xs,hH,_⟩:=S.ob n p _ hp e;exact k (by decide) Ex (zi4 I hH) (by intro e;cases e)
   . rename_i o e;cases ht;obtain⟨xs,hH,_⟩:=S.ob n p _ hp e;exact k (by decide) Ex (zi3 I hH) (by intro e;cases e)
   . cases ht
 | kl ds=>cases ht
noncomputable def rIsi(K:Ac)(T:String):List V->Hp->VK->Prop:=fun xs H Q=>∃ x d st io t,xs=[x,.ty T]/\Rep K H io x d/\StR K H io st/\tyName st d=some t/\Q (.bl (subT t T)) H
theorem zlc{T:String}(hT:T∈kinds):zg7 X (.builtin "isinstance") (rIsi X.K T):=by
 rintro pins s σ H xs us Q I r ⟨x,d,st,io,t,e,R,S,ht,q⟩;subst e;obtain⟨u,w,rfl,ru,rw'⟩:=r.two;cases rw';exact zmM I S R ru ht hT fun tk=>⟨.bl _,H,I.tok tk,rfl,q⟩
noncomputable def mIsi(T:String)(m:ME):ME:=fun ρ st=>(m ρ st).bind fun (x,s)=>(tyName s x).map fun t=>(.bl (subT t T),s)
theorem zfW{T:String}{x y:Str}{p p2:Pos}(hT:T∈kinds)(hg:Gl X "isinstance")(hm:X.mg "isinstance"=none)(ha:SE X a m)(hgy:Gl X y)(hmy:X.mg y=none)(hvy:bootBuiltins y=some (.type T))(hny:y≠"__name__":=by decide)(hdy:(y==("__debug__":Str))=false:=by decide)
   (hs:starEach [a,.Name y p2] X.env=(false,eval a X.env)::starEach [.Name y p2] X.env:=by rfl) (hs2:starEach [.Name y p2] X.env=[(false,eval (.Name y p2) X.env)]:=by rfl) (hpl:(backTo pos (starEach [.Name y p2] X.env)).any (·.1)=false:=by rfl) :
   SE X (.Call (.Name "isinstance" p) [a,.Name y p2] [] pos) (mIsi T m) :=
 PE.imp (zeK (zlc hT) hg hm (by decide +kernel) (zeo ha (zeo (zmk (v:=.ty T) hgy hmy hvy rfl hny hdy) zhE hs2) hs) (by decide) (by decide) hs hpl) <| by
   rintro σ H Q ⟨ρ,st,io,d,st',E,S,e,k⟩;obtain⟨⟨x,s1⟩,e1,e⟩:=zac e;obtain⟨t,e2,e⟩:=zai e;cases e;exact⟨ρ,st,io,x,_,E,S,e1,fun v1 H1 k1 X1 S1 R1=>⟨v1,x,_,io++k1,t,rfl,R1,S1,e2,k _ H1 k1 X1 S1 rfl⟩⟩
end
theorem zb5{α:Type}{le:α->α->Prop}:∀ {l1 l2:List α},l1.Perm l2->l1.Pairwise le->l2.Pairwise le->(∀ a∈l1,∀ b∈l1,le a b->le b a->a=b)->l1=l2
 | [],l2,p,_,_,_=>(List.Perm.nil_eq p)
 | a::l1,[],p,_,_,_=>absurd p.symm (by intro h;have:=h.length_eq;simp at this)
 | a::l1,b::l2,p,h1,h2,an=>by
   obtain⟨ha,h1'⟩:=List.pairwise_cons.mp h1;obtain⟨hb,h2'⟩:=List.pairwise_cons.mp h2;have e:a=b:=by
     have m1:a∈b::l2:=p.mem_iff.mp Am;have m2:b∈a::l1:=p.mem_iff.mpr Am
     rcases List.mem_cons.mp m1 with q | q
     . exact q
     . rcases List.mem_cons.mp m2 with r | r
       . exact r.symm
       . exact an a Am b (Ah _ r) (ha b r) (hb a q)
   subst e;rw[zb5 ((List.perm_cons a).mp p) h1' h2' fun x hx y hy=>an x (Ah _ hx) y (Ah _ hy)]
noncomputable def sle(a b:Str):Bool:=!decide (b.cps.toList < a.cps.toList)
noncomputable def zek(ss:List Str):List Str:=ss.mergeSort sle
theorem zhm{a b:Str}(h:a.cps.toList=b.cps.toList):a=b:=by
 obtain⟨x⟩:=a;obtain⟨y⟩:=b;have:x=y:=by
   have h':x.toList=y.toList:=h;exact Array.toList_inj.mp h'
 rw[this]
theorem zgn(a b:Str):(sle a b || sle b a)=true:=by
 unfold sle;rw[CU,Bu,Bu,decide_eq_false_iff_not,decide_eq_false_iff_not]
 by_cases h:b.cps.toList < a.cps.toList
 . exact .inr (List.lt_asymm h)
 . exact .inl h
theorem zex(a b c:Str)(h1:sle a b=true)(h2:sle b c=true):sle a c=true:=by
 unfold sle at *;rw[Bu,decide_eq_false_iff_not] at *;have h1:a.cps.toList<=b.cps.toList:=h1;have h2:b.cps.toList<=c.cps.toList:=h2;exact List.le_trans h1 h2
theorem zhp{a b:Str}(h1:sle a b=true)(h2:sle b a=true):a=b:=by
 unfold sle at *;rw[Bu,decide_eq_false_iff_not] at *;exact zhm (List.le_antisymm h1 h2)
theorem zen:∀ {ss:List Str} {p:Str},risingS p ss=true->(p::ss).Pairwise fun a b=>sle a b=true
 | [],p,_=>by simp
 | s::ss,p,h=>by
   have h':(!ltCps s.cps.toList p.cps.toList&&risingS s ss)=true:=h;rw[AA] at h';have ih:=zen h'.2;have hps:sle p s=true:=by
     have:=h'.1;rw[ltCps_eq] at this;exact this
   refine List.pairwise_cons.mpr ⟨fun x hx=>?_,ih⟩
   rcases List.mem_cons.mp hx with rfl | hx
   . exact hps
   . exact zex _ _ _ hps ((List.pairwise_cons.mp ih).1 x hx)
theorem zfe{ss ss':List Str}(p:ss'.Perm ss)(h:sortedS ss'=true):ss'=zek ss:=by
 have hp:ss'.Pairwise fun a b=>sle a b=true:=by
   cases ss' with
   | nil=>exact Dp
   | cons x r=>exact zen h
 refine zb5 (p.trans (Cm ss sle).symm) hp (Bw (fun a b c=>zex a b c) zgn ss) fun a _ b _=>zhp
section
variable {X:Cx} {K:Ac} {H:Hp} {io:List Addr} {st st':Sto} {a b c e:Expr} {es:List Expr} {ma mb mc m:ME} {mm:MA} {pos:Pos} {pins:List (Addr×Obj)} {σ:L2.St} {s:Shared}
noncomputable def strsOf:List D->Option (List Str)
 | []=>some []
 | .str x::r=>(strsOf r).map fun xs=>x::xs
 | _=>none
theorem zei{d:D}{r:List D}{ss:List Str}(h:strsOf (d::r)=some ss):∃ x xs,d=.str x/\strsOf r=some xs/\ss=x::xs:=by
 cases d with
 | str x =>
   obtain⟨xs,e,h⟩:=zai h;exact⟨x,xs,rfl,e,h.symm⟩
 | _=>cases h
theorem zfc(ss:List Str):strsOf (ss.map D.str)=some ss:=by
 induction ss with
 | nil=>rfl
 | cons x r ih=>show (strsOf (r.map D.str)).map _=_;rw[ih];rfl
theorem zhl:∀ {xs:List V} {us:List Value} {ds:List D} {ss:List Str},Reps K H io xs ds->Vals xs us->strsOf ds=some ss->StrsAre us ss
 | _,_,[],ss,h,r,e=>by
   cases (show _=[] from h);cases r;cases e;exact .nil
 | _,_,d::ds,ss,h,r,e=>by
   obtain⟨y,ys,rfl,h1,h2⟩:=h;obtain⟨x,rest,rfl,e2,rfl⟩:=zei e
   cases r with
   | cons r1 r2 =>
     cases (show y=.str x from h1)
     obtain⟨t,rfl⟩:=r1;exact .cons x t (zhl h2 r2 e2)
theorem zgh:∀ {us:List Value} {ss:List Str},StrsAre us ss->Vals (ss.map V.str) us
 | _,_,.nil=>.nil
 | _,_,.cons y t r=>.cons ⟨t,rfl⟩ (zgh r)
theorem ziE(ss:List Str):Reps K H io (ss.map V.str) (ss.map D.str):=by
 induction ss with
 | nil=>exact rfl
 | cons x r ih=>exact Reps.cons rfl ih
theorem lt64{n:Nat}(h:n < 64):n<=sizeLine:=AI (BP h) (by decide)
noncomputable def zlp:D->List D->Sto->Option (D×Sto):=fun x xs st=>match x,xs with
 | .str z,[.ref n]=>(zcc st n).bind fun ds=>(strsOf ds).bind fun ss=>if decide ((ss.map (·.length)).sum+ss.length*z.length<=16777216)=true then some (.str (Txt.join z ss),st) else none
 | _,_=>none
theorem zkI:MtR X "str.join" (mtM X.K zlp):=by
 rintro pins s σ H x xs v us Q I rx rs ⟨dx,ds,st,io,d,st',Rx,Rs,S,e,k⟩;unfold zlp at e
 split at e
 . rename_i z n;obtain⟨ts,e0,e⟩:=zac e;obtain⟨ss,e1,e⟩:=zac e;obtain⟨hl,e⟩:=zaq e;cases e
   cases (show x=.str z from Rx)
   obtain⟨t,rfl⟩:=rx;obtain⟨w,rfl,p,rfl,hp⟩:=Rs.one;obtain⟨u,rfl,ru⟩:=rs.one;cases ru;obtain⟨ys,hx,r1⟩:=zbz S hp e0;obtain⟨its,rv,pl,hz⟩:=I.list hx;exact join_list pl.isList (zhl r1 rv e1) (of_decide_eq_true hl) fun t' k'=>⟨.str _,H,I.tok k',⟨t',rfl⟩,k.now S rfl⟩
 . cases e
noncomputable def znf(m:ME)(mm:MA):ME:=fun ρ st=>(m ρ st).bind fun (x,s1)=>match x with
 | .str _=>(mm ρ s1).bind fun (xs,s2)=>zlp x xs s2
 | _=>none
theorem zjv{o:Expr}{apos cpos:Pos}(ho:SE X o m)(ha:SA X (e::es) mm)
   (hbase:attributeBase o "join" X.env (eval o X.env)=eval o X.env:=by rfl)
   (hfew:((backTo cpos (starEach (e::es) X.env)).all (fun x=>!x.1)&&(backToKw cpos (keywordEach [] X.env)).all (fun x=>x.1.isSome)
    &&decide ((e::es).length+([]:List Keyword).length+(if ([]:List Keyword).isEmpty then 0 else 1) < 30))=true:=by rfl)
   (hline:(apos.endLine==cpos.line)=true:=by rfl) (hs:starEach (e::es) X.env=(false,eval e X.env)::starEach es X.env:=by rfl) (hplain:(backTo cpos (starEach es X.env)).any (·.1)=false:=by rfl) :
   SE X (.Call (.Attribute o "join" apos) (e::es) [] cpos) (znf m mm) :=
 PE.imp (zm7 DU PySem.F.slot_str_join PySem.F.type_str_join zkI ho ha hbase hfew hline hs hplain) <| by
   rintro σ H Q ⟨ρ,st,io,d,st',E,S,e,k⟩;obtain⟨⟨x,s1⟩,e1,e⟩:=zac e
   cases x with
   | str z =>
     obtain⟨⟨xs,s2⟩,e2,e⟩:=zac e;refine⟨ρ,st,io,_,s1,E,S,e1,fun v1 H1 k1 X1 S1 R1=>⟨by cases (show v1=.str z from R1);rfl,ρ,s1,io++k1,xs,s2,E.ext S X1,S1,e2,fun vs H2 k2 X2 S2 R2=>?_⟩⟩;exact⟨_,xs,s2,(io++k1)++k2,d,st',R1.ext S1 X2,R2,S2,e,(k.on S1 X1).on S2 X2⟩
   | _=>cases e
noncomputable def rSlS:V->Option Int->Option Int->Hp->VK->Prop:=fun x lo hi H Q=>∃ z,x=.str z/\z.length<=sizeLine/\Q (.str (Ek z lo hi)) H
theorem znz:SlR X rSlS:=by
 rintro pins s σ H x v vl vu lo hi sl Q I rx hs pl pu ⟨z,e,hz,q⟩;subst e;obtain⟨t,rfl⟩:=rx;refine⟨"str",_,F.slot_str_getitem.lookup,ER _ _ _,?_⟩;have fin:∀ t' k,EP X pins σ Q (.str (Ek z lo hi) t') { s with toks:=k }:=fun t' k=>⟨.str _,H,I.tok k,⟨t',rfl⟩,q⟩
 cases pl with
 | none =>
   cases pu with
   | none=>exact BX (l:=none) (u:=none) (st:=none) hs rfl (Cp ⟨AI (DB z _ _) hz,fin⟩)
   | int j tj=>exact BX (l:=none) (u:=some (j,tj)) (st:=none) hs rfl (Cp ⟨AI (DB z _ _) hz,fin⟩)
 | int i ti =>
   cases pu with
   | none=>exact BX (l:=some (i,ti)) (u:=none) (st:=none) hs rfl (Cp ⟨AI (DB z _ _) hz,fin⟩)
   | int j tj=>exact BX (l:=some (i,ti)) (u:=some (j,tj)) (st:=none) hs rfl (Cp ⟨AI (DB z _ _) hz,fin⟩)
noncomputable def slS:D->Option Int->Option Int->Sto->Option (D×Sto):=fun x lo hi st=>match x with
 | .str z=>if fits z.length=true then some (.str (Ek z lo hi),st) else none
 | _=>none
noncomputable def mSlS(m:ME)(l h:MO):ME:=fun ρ st=>(m ρ st).bind fun (x,s1)=>(l ρ s1).bind fun (lo,s2)=>(h ρ s2).bind fun (hi,s3)=>slS x lo hi s3
theorem ziI{lo hi:Option Expr}{ml mh:MO}{p2:Pos}(he:SE X e m)(hl:SO X lo ml)(hu:SO X hi mh):SE X (.Subscript e (.Slice lo hi none p2) pos) (mSlS m ml mh):=PE.imp (zeJ znz he hl hu) <| by
 rintro σ H Q ⟨ρ,st,io,d,st',E,S,e,k⟩;obtain⟨⟨x,s1⟩,e1,e⟩:=zac e;obtain⟨⟨lo',s2⟩,e2,e⟩:=zac e;obtain⟨⟨hi',s3⟩,e3,e⟩:=zac e;refine⟨ρ,st,io,x,s1,E,S,e1,fun v1 H1 k1 X1 S1 R1=>⟨ρ,s1,io++k1,lo',s2,E.ext S X1,S1,e2,fun H2 k2 X2 S2=>⟨ρ,s2,(io++k1)++k2,hi',s3,(E.ext S X1).ext S1 X2,S2,e3,fun H3 k3 X3 S3=>?_⟩⟩⟩;have k':=((k.on S1 X1).on S2 X2).on S3 X3
 cases x with
 | str z =>
   obtain⟨hf,e⟩:=zaq e;cases e;exact⟨z,R1,of_decide_eq_true hf,k'.now S3 rfl⟩
 | _=>cases e
noncomputable def repS(x:Str)(n:Int):Str:=if n < 1 then DM else if (n==1 || x.length==0)=true then x else ⟨(Bk n.toNat x.cps).foldl (·++·) #[]⟩
noncomputable def zna:G2
 | .str x,.int n,st=>if (decide (-(2 ^ 62)<=n)&&decide (n < 2 ^ 20)&&decide (x.length*n.toNat<=sizeLine)&&decide ((repS x n).length<=sizeLine))=true then some (.str (repS x n),st) else none
 | _,_,_=>none
theorem zkB:OpM X (binaryOp .Mult) zna:=by
 rintro pins s σ H x y v u Q I rx ry ⟨dx,dy,st,io,d,st',Rx,Ry,S,e,k⟩;unfold zna at e
 split at e
 . rename_i z n;obtain⟨hc,e⟩:=zaq e;cases e;rw[AA,AA,AA] at hc;obtain⟨⟨⟨h1,h2⟩,h3⟩,h4⟩:=hc;have h1:=of_decide_eq_true h1;have h2:=of_decide_eq_true h2;have h3:=of_decide_eq_true h3;have h4:=of_decide_eq_true h4
   cases (show x=.str z from Rx)
   cases (show y=.int n from Ry)
   obtain⟨t,rfl⟩:=rx;obtain⟨t2,rfl⟩:=ry;have fin:∀ t' k',EP X pins σ Q (.str (repS z n) t') { s with toks:=k' }:=fun t' k'=>⟨.str _,H,I.tok k',⟨t',rfl⟩,k.now S rfl⟩
   refine PySem.P.mul_str (by rw[decide_eq_false (by omega),decide_eq_false (by omega)];rfl) (fun hn _=>?_) (fun hn _=>?_) ?_
   . have hs:sizeLine=16777216:=C6;have hnn:((n.toNat:Nat):Int)=n:=Int.toNat_of_nonneg (by omega);have hm:(z.length:Int)*n<=2 ^ 63 - 1:=by
       rw[<-hnn,<-Cq];omega
     have:=Int.le_ediv_of_mul_le (by omega:0 < n) hm;omega
   . unfold Builtin.Str.tooLong;exact decide_eq_false (by omega)
   . unfold repS at fin h4
     by_cases hn:n < 1
     . rw[if_pos hn] at fin h4 ⊢;exact⟨h4,fin s.toks (s.toks+1)⟩
     . rw[if_neg hn] at fin h4 ⊢;exact Cp ⟨h4,fin⟩
 . cases e
end
section
variable {X:Cx} {K:Ac} {H:Hp} {io:List Addr} {st st':Sto} {a b c e:Expr} {es:List Expr} {ma mb mc m:ME} {mm:MA} {pos:Pos} {pins:List (Addr×Obj)} {σ:L2.St} {s:Shared}
noncomputable def memP(p:PyData):PyData->Option Bool
 | .list xs=>some (xs.any fun y=>AU y p)
 | .tuple xs=>some (xs.any fun y=>AU y p)
 | _=>none
noncomputable def inD(neg:Bool):G2:=fun x y st=>(toP 50 st x).bind fun p=>(toP 50 st y).bind fun q=>(memP p q).map fun b=>(.bl (if neg then !b else b),st)
theorem zg3{xs:List PyData}(h:(PyData.list xs).canLay0=true):B7 xs=true:=by simpa only [By] using h
theorem zf7{xs:List PyData}(h:(PyData.tuple xs).canLay0=true):B7 xs=true:=by simpa only [By] using h
theorem zob(hu:X.A.units+100 < cLine):OpM X (compareOp .In) (inD false):=by
 rintro pins s σ H x y v u Q I rx ry ⟨dx,dy,st,io,d,st',Rx,Ry,S,e,k⟩;obtain⟨p,e1,e⟩:=zac e;obtain⟨q,e2,e⟩:=zac e;obtain⟨r,e3,e⟩:=zai e;cases e;obtain⟨as,ra⟩:=zco I S Rx rx e1;obtain⟨bs,rb⟩:=zco I S Ry ry e2;have h1:=zfb e1;have h2:=zfb e2;have hb:∀ n,X.A.units+1+min n p.depth < cLine:=fun n=>by have:=EG n p.depth;omega
 cases q with
 | list xs=>cases e3;exact PySem.SeqAt.in_list_reads rb ra (zg3 h2.1) h1.1 (hb _) ⟨.bl _,H,I,rfl,k.now S rfl⟩
 | tuple xs=>cases e3;exact PySem.SeqAt.in_tuple_reads rb ra (zf7 h2.1) h1.1 (hb _) ⟨.bl _,H,I,rfl,k.now S rfl⟩
 | _=>cases e3
noncomputable def inSD:G2
 | .str i,.str j,st=>some (.bl (!(BV j i 0 j.length 1).isEmpty),st)
 | _,_,_=>none
theorem zmn:OpM X (compareOp .In) inSD:=by
 rintro pins s σ H x y v u Q I rx ry ⟨dx,dy,st,io,d,st',Rx,Ry,S,e,k⟩;unfold inSD at e
 split at e
 . rename_i i j
   cases e;exact ziU pins s σ H x y v u Q I rx ry ⟨i,j,Rx,Ry,k.now S rfl⟩
 . cases e
noncomputable def zle:List D->Option (List Bool)
 | []=>some []
 | .bl x::r=>(zle r).map fun xs=>x::xs
 | _=>none
theorem ziq{d:D}{r:List D}{ss:List Bool}(h:zle (d::r)=some ss):∃ x xs,d=.bl x/\zle r=some xs/\ss=x::xs:=by
 cases d with
 | bl x =>
   obtain⟨xs,e,h⟩:=zai h;exact⟨x,xs,rfl,e,h.symm⟩
 | _=>cases h
theorem zjV:∀ {xs:List V} {us:List Value} {ds:List D} {ss:List Bool},Reps K H io xs ds->Vals xs us->zle ds=some ss->us=ss.map CJ
 | _,_,[],ss,h,r,e=>by
   cases (show _=[] from h);cases r;cases e;rfl
 | _,_,d::ds,ss,h,r,e=>by
   obtain⟨y,ys,rfl,h1,h2⟩:=h;obtain⟨x,rest,rfl,e2,rfl⟩:=ziq e
   cases r with
   | cons r1 r2 =>
     cases (show y=.bl x from h1)
     cases r1;rw[zjV h2 r2 e2];rfl
noncomputable def allC:GN
 | [.ref n],st=>(zcc st n).bind fun ds=>(zle ds).map fun bs=>(.bl (bs.all id),st)
 | _,_=>none
theorem range_all(bs:List Bool):((Au bs.length).all fun i=>bs.getD i false)=bs.all id:=by
 rw[EU,EI,EI]
 constructor
 . intro h b hb;obtain⟨i,hi,e⟩:=Ec hb;have:=h i (List.mem_range.mpr hi);rw[Ax,Aj hi,e] at this;exact this
 . intro h i hi;have hi:=List.mem_range.mp hi;rw[Ax,Aj hi];exact h _ (Be hi)
theorem zc9(hc:X.calm=true):zg8 X (.builtin "all") allC:=by
 rintro pins s σ H xs us Q I r ⟨ds,st,io,d,st',R,S,e,k⟩;unfold allC at e
 split at e
 . rename_i n;obtain⟨ts,e0,e⟩:=zac e;obtain⟨bs,e1,e⟩:=zai e;cases e;obtain⟨v,rfl,p,rfl,hp⟩:=R.one;obtain⟨u,rfl,ru⟩:=r.one;cases ru;obtain⟨ys,hx,r1⟩:=zbz S hp e0;obtain⟨its,rv,pl,hz⟩:=I.list hx;have hb:=zjV r1 rv e1;subst hb;refine call_all_walk (CA pl.isList ?_);have hlt:p < s.heap.objs.size:=by
     obtain⟨o,_,e,_⟩:=pl;exact An e
   refine⟨_,_,_,_,_,_,fun i=>bs.getD i false,rfl,Walks.list (A:=X.A.in1) (I.ok.hd hc) s.heap.objs.size p (AB hlt) (bs.map CJ).toArray,⟨⟨_,Av _ rfl,rfl,rfl⟩,?_⟩,?_,fun h' tk hk=>?_⟩
   . obtain⟨o,nn,e,c,dd,sq⟩:=pl;exact⟨o,Ag _ e,c,nn,sq⟩
   . intro i v s' Q' E' hv hq;have hv:((bs.map CJ).toArray)[i]?=some v:=hv;rw[CH,Ay] at hv
     cases ei:bs[i]? with
     | none=>rw[ei] at hv;cases hv
     | some bb =>
       rw[ei] at hv;cases hv;refine BL ?_;have hg:bs.getD i false=bb:=by rw[Ax,ei];rfl
       have hq:Q' (bs.getD i false) s':=hq;rw[hg] at hq;exact hq
   . refine⟨.bl _,H,I.kept (t':=tk) fun b o q=>hk b o ?_ (Ag _ q),rfl,?_⟩
     . simp;exact AB (An q)
     . have:((Au (bs.map CJ).toArray.size).all fun i=>bs.getD i false)=bs.all id:=by simpa using range_all bs
       rw[this];exact k.now S rfl
 . cases e
end
end L2.MP
namespace Srt
open PySem PySem.W PyProof.Rows
noncomputable def Hd(n:Nat)(r:Nat->Int){α:Type}:KasT α->(α->Prop)->Prop
 | .ret a,Q=>Q a
 | .ask i j k,Q=>(i < n/\j < n)/\Hd n r (k (decide (r i < r j))) Q
section
variable {n:Nat} {r:Nat->Int} {α β:Type}
theorem Hd.bind{f:α->KasT β}{Q:β->Prop}:∀ {t:KasT α},Hd n r t (fun a=>Hd n r (f a) Q)->Hd n r (t.bind f) Q
 | .ret _,h=>h
 | .ask i j k,h=>⟨h.1,Hd.bind (t:=k _) h.2⟩
theorem Hd.mono{P Q:α->Prop}(k:∀ a,P a->Q a):∀ {t:KasT α},Hd n r t P->Hd n r t Q
 | .ret a,h=>k a h
 | .ask i j f,h=>⟨h.1,Hd.mono k (t:=f _) h.2⟩
theorem zh7{c:Prop}[Decidable c]{A B:KasT α}{Q:α->Prop}(hc:c)(h:Hd n r A Q):Hd n r (if decide c=true then A else B) Q:=by
 rw[decide_eq_true hc,if_pos rfl];exact h
theorem zh8{c:Prop}[Decidable c]{A B:KasT α}{Q:α->Prop}(hc:¬ c)(h:Hd n r B Q):Hd n r (if decide c=true then A else B) Q:=by
 rw[decide_eq_false hc,if_neg Bp];exact h
def Bel(n:Nat)(p:Array Nat):Prop:=∀ k,p.getD k 0 < n
noncomputable def R(r:Nat->Int)(p:Array Nat)(k:Nat):Int:=r (p.getD k 0)
def Up(r:Nat->Int)(p:Array Nat)(m:Nat):Prop:=∀ i j,i<=j->j < m->R r p i<=R r p j
def Dn(r:Nat->Int)(p:Array Nat)(m:Nat):Prop:=∀ i j,i<=j->j < m->R r p j<=R r p i
theorem getD_eq{p q:Array Nat}{i j:Nat}(h:p[i]?=q[j]?):p.getD i 0=q.getD j 0:=by
 rw[BF,BF,h]
theorem zgo{p:Array Nat}{i j:Nat}(hj:j<=p.size)(k:Nat):(kas_rev p i j).getD k 0=if i<=k/\k < j then p.getD (i+j - 1 - k) 0 else p.getD k 0:=by
 have e:=getElem?_mirror_all (i:=i) hj k;unfold kas_rev
 by_cases h:i<=k/\k < j
 . rw[if_pos h] at e ⊢;exact getD_eq e
 . rw[if_neg h] at e ⊢;exact getD_eq e
theorem zjU{p:Array Nat}{src d:Nat}(hs:src < p.size)(hd:d<=src)(k:Nat):(bubble p src d).getD k 0=if k=src - d then p.getD src 0 else if src - d < k/\k<=src then p.getD (k - 1) 0 else p.getD k 0:=by
 have e:=getElem?_bubble hs d hd k
 by_cases h1:k=src - d
 . rw[if_pos h1] at e ⊢;exact getD_eq e
 . rw[if_neg h1] at e ⊢
   by_cases h2:src - d < k/\k<=src
   . rw[if_pos h2] at e ⊢;exact getD_eq e
   . rw[if_neg h2] at e ⊢;exact getD_eq e
theorem zfr{p:Array Nat}{i j:Nat}(hj:j<=p.size)(h:Bel n p):Bel n (kas_rev p i j):=fun k=>by
 rw[zgo hj];split
 . exact h _
 . exact h _
theorem zmY{p:Array Nat}{src d:Nat}(hs:src < p.size)(hd:d<=src)(h:Bel n p):Bel n (bubble p src d):=fun k=>by
 rw[zjU hs hd]
 by_cases h1:k=src - d
 . rw[if_pos h1];exact h _
 . rw[if_neg h1]
   by_cases h2:src - d < k/\k<=src
   . rw[if_pos h2];exact h _
   . rw[if_neg h2];exact h _
theorem zkk(p:Array Nat)(i j:Nat):(kas_rev p i j).size=p.size:=mirror_size _ _ _ _
theorem ziM(p:Array Nat)(i j:Nat):(kas_rev p i j).Perm p:=mirror_perm _ _ _ _
theorem Up.more{p:Array Nat}{m:Nat}(h:Up r p m)(hl:m=0\/R r p (m - 1)<=R r p m):Up r p (m+1):=fun i j hij hj=>by
 by_cases hm:j < m
 . exact h i j hij hm
 . have e:j=m:=by omega
   subst e
   by_cases hi:i=j
   . rw[hi];exact CF _
   . rcases hl with hl | hl
     . omega
     . exact CV (h i (j - 1) (by omega) (by omega)) hl
theorem Dn.more{p:Array Nat}{m:Nat}(h:Dn r p m)(hl:m=0\/R r p m<=R r p (m - 1)):Dn r p (m+1):=fun i j hij hj=>by
 by_cases hm:j < m
 . exact h i j hij hm
 . have e:j=m:=by omega
   subst e
   by_cases hi:i=j
   . rw[hi];exact CF _
   . rcases hl with hl | hl
     . omega
     . exact CV hl (h i (j - 1) (by omega) (by omega))
theorem zlh{p:Array Nat}(hb:Bel n p):∀ (f m:Nat),1<=m->Up r p m->Hd n r (kas_asc p f m) fun m'=>m<=m'/\m'<=m+f/\Up r p m'/\(m' < m+f->R r p m' < R r p (m' - 1))
 | 0,m,h1,h=>⟨Ae _,Ae _,h,fun z=>absurd z (AR _)⟩
 | f+1,m,h1,h=>by
   refine⟨⟨hb _,hb _⟩,?_⟩
   by_cases c:r (p.getD m 0) < r (p.getD (m - 1) 0)
   . refine zh7 c ?_;exact⟨Ae _,EJ _ _,h,fun _=>c⟩
   . refine zh8 c ?_;refine Hd.mono (fun m' h'=>?_) (zlh hb f (m+1) (by omega) (h.more (.inr (Int.not_lt.mp c))));exact⟨by omega,by omega,h'.2.2.1,fun z=>h'.2.2.2 (by omega)⟩
def Eqs(r:Nat->Int)(p:Array Nat)(i j:Nat):Prop:=∀ k,i<=k->k < j->R r p k=R r p (j - 1)
theorem zhv{p:Array Nat}{i j:Nat}(hj:j<=p.size)(h:Eqs r p i j)(k:Nat):R r (kas_rev p i j) k=R r p k:=by
 unfold R;rw[zgo hj]
 split
 . rename_i hk;have h1:=h (i+j - 1 - k) (by omega) (by omega);have h2:=h k hk.1 hk.2;exact h1.trans h2.symm
 . rfl
theorem Dn.same{p p':Array Nat}{m:Nat}(h:Dn r p m)(e:∀ k,R r p' k=R r p k):Dn r p' m:=fun i j a b=>by rw[e,e];exact h i j a b
theorem znN{p:Array Nat}{m:Nat}(hm:m<=p.size)(h:Dn r p m):Up r (kas_rev p 0 m) m:=fun i j hij hj=>by
 unfold R;rw[zgo hm,zgo hm,if_pos (by omega),if_pos (by omega)];exact h (0+m - 1 - j) (0+m - 1 - i) (by omega) (by omega)
theorem zgC{N:Nat}:∀ (f:Nat) (p:Array Nat) (m q:Nat),Bel n p->p.size=N->1<=m->m+f<=N->q+1<=m->Dn r p m->Eqs r p (m - (q+1)) m ->
   Hd n r (kas_desc f p m q) fun t=>Bel n t.1/\t.1.Perm p/\m<=t.2.1/\t.2.1<=m+f/\t.2.2+1<=t.2.1/\Dn r t.1 t.2.1/\Eqs r t.1 (t.2.1 - (t.2.2+1)) t.2.1
 | 0,p,m,q,hb,hs,h1,h2,h3,hd,he=>⟨hb,Cr _,Ae _,Ae _,h3,hd,he⟩
 | f+1,p,m,q,hb,hs,h1,h2,h3,hd,he=>by
   refine⟨⟨hb _,hb _⟩,?_⟩
   by_cases c:r (p.getD m 0) < r (p.getD (m - 1) 0)
   . refine zh7 c ?_;have one:∀ p':Array Nat,Eqs r p' (m+1 - (0+1)) (m+1):=fun p' k h1 h2=>by
       have e:k=m+1 - 1:=by omega
       subst e;rfl
     by_cases hq:q > 0
     . rw[if_pos hq];have hz:m<=p.size:=by omega
       have e:=zhv hz he;refine Hd.mono (fun t ht=>?_) (zgC f (kas_rev p (m - (q+1)) m) (m+1) 0 (zfr hz hb) ((zkk _ _ _).trans hs) (by omega) (by omega) (by omega) ((hd.more (.inr (CW c))).same e) (one _));exact⟨ht.1,ht.2.1.trans (ziM _ _ _),by omega,by omega,ht.2.2.2.2⟩
     . rw[if_neg hq];refine Hd.mono (fun t ht=>?_) (zgC f p (m+1) 0 hb hs (by omega) (by omega) (by omega) (hd.more (.inr (CW c))) (one _));exact⟨ht.1,ht.2.1,by omega,by omega,ht.2.2.2.2⟩
   . refine zh8 c ?_;refine⟨⟨hb _,hb _⟩,?_⟩
     by_cases d:r (p.getD (m - 1) 0) < r (p.getD m 0)
     . refine zh7 d ?_;exact⟨hb,Cr _,Ae _,EJ _ _,h3,hd,he⟩
     . refine zh8 d ?_;have eq:R r p m=R r p (m - 1):=EV (Int.not_lt.mp d) (Int.not_lt.mp c);refine Hd.mono (fun t ht=>?_) (zgC f p (m+1) (q+1) hb hs (by omega) (by omega) (by omega) (hd.more (.inr (Int.not_lt.mp d))) fun k k1 k2=>?_)
       . exact⟨ht.1,ht.2.1,by omega,by omega,ht.2.2.2.2⟩
       . show R r p k=R r p (m+1 - 1)
         by_cases hk:k=m
         . rw[hk];rfl
         . rw[Nat.add_sub_cancel,eq];exact he k (by omega) (by omega)
def zoU(n N:Nat)(r:Nat->Int)(p:Array Nat)(t:Nat×Array Nat):Prop:=Bel n t.2/\t.2.Perm p/\1<=t.1/\t.1<=N/\Up r t.2 t.1
theorem zhk{N m:Nat}{p:Array Nat}(hb:Bel n p)(hs:p.size=N)(h1:1<=m)(h2:m<=N)(hd:Dn r p m):Hd n r (kas_tail3 m N p) (zoU n N r p):=by
 unfold kas_tail3;have hz:m<=p.size:=by omega
 refine Hd.bind (Hd.mono (fun m' h'=>?_) (zlh (zfr hz hb) (N - m) m h1 (znN hz hd)));exact⟨zfr hz hb,ziM _ _ _,by omega,by omega,h'.2.2.1⟩
theorem zeq{N m:Nat}{p:Array Nat}(hb:Bel n p)(hs:p.size=N)(h1:1<=m)(h2:m+1<=N)(hd:Dn r p (m+1)):Hd n r (kas_descPart m N p) (zoU n N r p):=by
 unfold kas_descPart;refine Hd.bind (Hd.mono (fun t ht=>?_) (zgC (N:=N) (N - (m+1)) p (m+1) 0 hb hs (by omega) (by omega) (by omega) hd fun k k1 k2=>by
   have:k=m+1 - 1:=by omega
   rw[this]))
 obtain⟨t1,t2,t3,t4,t5,t6,t7⟩:=ht;have hsz:t.1.size=N:=t2.size_eq.trans hs
 by_cases hq:t.2.2 > 0
 . rw[if_pos hq];have hz:t.2.1<=t.1.size:=by omega
   refine Hd.mono (fun u hu=>?_) (zhk (zfr hz t1) ((zkk _ _ _).trans hsz) (by omega) (by omega) (t6.same (zhv hz t7)));exact⟨hu.1,(hu.2.1.trans (ziM _ _ _)).trans t2,hu.2.2⟩
 . rw[if_neg hq];refine Hd.mono (fun u hu=>?_) (zhk t1 hsz (by omega) (by omega) t6);exact⟨hu.1,hu.2.1.trans t2,hu.2.2⟩
theorem zk7{N:Nat}{p:Array Nat}(hb:Bel n p)(hs:p.size=N)(hN:1<=N):Hd n r (kas_count N p) (zoU n N r p):=by
 unfold kas_count;have up1:Up r p 1:=fun i j a b=>by
   have:i=j:=by omega
   rw[this];exact CF _
 refine Hd.bind (Hd.mono (fun m hm=>?_) (zlh hb (N - 1) 1 (Ae _) up1));obtain⟨m1,m2,m3,m4⟩:=hm
 by_cases e:(m==N)=true
 . rw[if_pos e];exact⟨hb,Cr _,m1,by omega,m3⟩
 . rw[if_neg e];have ne:m≠N:=fun z=>e (by simp[z]);have lt:=m4 (by omega)
   by_cases g:m > 1
   . rw[if_pos g];refine⟨⟨hb _,hb _⟩,?_⟩
     by_cases c:r (p.getD 0 0) < r (p.getD (m - 1) 0)
     . refine zh7 c ?_;exact⟨hb,Cr _,m1,by omega,m3⟩
     . refine zh8 c ?_;have hz:m<=p.size:=by omega
       have all:∀ k,k < m->R r p k=R r p (m - 1):=fun k hk=>EV (m3 k (m - 1) (by omega) (by omega)) (CV (Int.not_lt.mp c) (m3 0 k (by omega) hk));have e:=zhv (i:=0) hz fun k _ hk=>all k hk;have dn:Dn r p m:=fun i j a b=>by rw[all i (by omega),all j b];exact CF _
       refine Hd.mono (fun u hu=>?_) (zeq (zfr (i:=0) hz hb) ((zkk _ _ _).trans hs) m1 (by omega) ((dn.more (.inr (CW lt))).same e));exact⟨hu.1,hu.2.1.trans (ziM _ _ _),hu.2.2⟩
   . rw[if_neg g];have m1':m=1:=by omega
     subst m1';have dn:Dn r p 1:=fun i j a b=>by
       have:i=j:=by omega
       rw[this];exact CF _
     exact zeq hb hs (Ae _) (by omega) (dn.more (.inr (CW lt)))
theorem zfZ{p:Array Nat}{k:Nat}(hb:Bel n p)(hu:Up r p k):∀ (f a b:Nat),a<=b->b<=k->b<=a+f->(∀ x,x < a->R r p x<=R r p k)->(∀ x,b<=x->x < k->R r p k<=R r p x) ->
   Hd n r (kas_place p k f a b) fun l=>l<=k/\(∀ x,x < l->R r p x<=R r p k)/\∀ x,l<=x->x < k->R r p k<=R r p x
 | 0,a,b,h1,h2,h3,hl,hr=>by
   have:a=b:=by omega
   subst this;exact⟨h2,hl,hr⟩
 | f+1,a,b,h1,h2,h3,hl,hr=>by
   unfold kas_place
   by_cases g:a ≥ b
   . rw[if_pos g];have:a=b:=by omega
     subst this;exact⟨h2,hl,hr⟩
   . rw[if_neg g];refine⟨⟨hb _,hb _⟩,?_⟩
     by_cases c:r (p.getD k 0) < r (p.getD ((a+b) / 2) 0)
     . refine zh7 c ?_;refine zfZ hb hu f a ((a+b) / 2) (by omega) (by omega) (by omega) hl fun x x1 x2=>?_;exact CV (CW c) (hu ((a+b) / 2) x x1 x2)
     . refine zh8 c ?_;refine zfZ hb hu f ((a+b) / 2+1) b (by omega) h2 (by omega) (fun x hx=>?_) hr;exact CV (hu x ((a+b) / 2) (by omega) (by omega)) (Int.not_lt.mp c)
theorem zm2{N:Nat}:∀ (f:Nat) (p:Array Nat) (k:Nat),Bel n p->p.size=N->k+f=N->Up r p k->Hd n r (kas_bin f p k) fun q=>q.Perm p/\Up r q N
 | 0,p,k,hb,hs,hk,hu=>⟨Cr _,by rw[<-hk];exact hu⟩
 | f+1,p,k,hb,hs,hk,hu=>by
   unfold kas_bin;refine Hd.bind (Hd.mono (fun l hl=>?_) (zfZ hb hu k 0 k (A4 _) (Ae _) (by omega) (fun x hx=>absurd hx (DN _)) fun x a b=>absurd (Aw b a) (AR _)));obtain⟨l1,l2,l3⟩:=hl;have hks:k < p.size:=by omega
   refine Hd.mono (fun q hq=>⟨hq.1.trans (bubble_perm _ _ _),hq.2⟩) (zm2 f (bubble p k (k - l)) (k+1) (zmY hks (by omega) hb) ((bubble_size _ _ _).trans hs) (by omega) fun i j hij hj=>?_);have g:∀ x,R r (bubble p k (k - l)) x=if x=l then R r p k else if l < x/\x<=k then R r p (x - 1) else R r p x:=fun x=>by
     unfold R;rw[zjU hks (by omega)];have e:k - (k - l)=l:=by omega
     rw[e]
     by_cases a1:x=l
     . rw[if_pos a1,if_pos a1]
     . rw[if_neg a1,if_neg a1]
       by_cases a2:l < x/\x<=k
       . rw[if_pos a2,if_pos a2]
       . rw[if_neg a2,if_neg a2]
   rw[g i,g j]
   by_cases h1:i=l
   . rw[if_pos h1]
     by_cases h2:j=l
     . rw[if_pos h2];exact CF _
     . rw[if_neg h2,if_pos (by omega)];exact l3 (j - 1) (by omega) (by omega)
   . rw[if_neg h1]
     by_cases h2:j=l
     . rw[if_pos h2,if_neg (by omega)];exact l2 i (by omega)
     . rw[if_neg h2]
       by_cases h3:l < i/\i<=k
       . rw[if_pos h3,if_pos (by omega)];exact hu (i - 1) (j - 1) (by omega) (by omega)
       . rw[if_neg h3]
         by_cases h4:l < j/\j<=k
         . rw[if_pos h4];exact hu i (j - 1) (by omega) (by omega)
         . rw[if_neg h4];exact hu i j hij (by omega)
theorem ziN{n:Nat}(hn:1<=n):Bel n (BS (Au n)):=fun k=>by
 rw[BF,CH]
 by_cases h:k < n
 . rw[C3 h];exact h
 . rw[List.getElem?_eq_none_iff.mpr (by rw[BM];omega)];exact hn
theorem sort_ok(hn:1<=n):Hd n r (kas_sort n) fun q=>q.Perm (BS (Au n))/\Up r q n:=by
 unfold kas_sort;have hs:(BS (Au n)).size=n:=by simp
 refine Hd.bind (Hd.mono (fun t ht=>?_) (zk7 (ziN hn) hs hn));obtain⟨t1,t2,t3,t4,t5⟩:=ht
 by_cases h:t.1 < n
 . rw[if_pos h];have e:max t.1 1=t.1:=Nat.max_eq_left t3;rw[e];refine Hd.mono (fun q hq=>⟨hq.1.trans t2,hq.2⟩) (zm2 (N:=n) (n - t.1) t.2 t.1 t1 (t2.size_eq.trans hs) (by omega) t5)
 . rw[if_neg h];have e:t.1=n:=by omega
   exact⟨t2,by rw[<-e];exact t5⟩
end
end Srt
namespace L2.MP
open PySem PySem.Spec PyProof.Rows
theorem zkN:∀ a:List Int,HT.lexLt a a=false
 | []=>rfl
 | x::r=>by rw[HT.lexLt_cons,if_pos rfl];exact zkN r
theorem zjI:∀ {a b:List Int},HT.lexLt a b=false->HT.lexLt b a=false->a=b
 | [],[],_,_=>rfl
 | [],_::_,h,_=>by rw[HT.lexLt_nil_cons] at h;cases h
 | _::_,[],_,h=>by rw[HT.lexLt_nil_cons] at h;cases h
 | x::a,y::b,h1,h2=>by
   rw[HT.lexLt_cons] at h1 h2
   by_cases e:x=y
   . subst e;rw[if_pos rfl] at h1 h2;rw[zjI h1 h2]
   . rw[if_neg e] at h1;rw[if_neg (A9 e)] at h2;have a1:=of_decide_eq_false h1;have a2:=of_decide_eq_false h2;omega
theorem zhX:∀ {a b c:List Int},HT.lexLt b a=false->HT.lexLt c b=false->HT.lexLt c a=false
 | a,[],c,_,h2=>by
   cases c with
   | nil =>
     cases a with
     | nil=>rfl
     | cons x a=>rename_i h1;rw[HT.lexLt_nil_cons] at h1;cases h1
   | cons z c =>
     cases a with
     | nil=>exact HT.lexLt_cons_nil _ _
     | cons x a=>rename_i h1;rw[HT.lexLt_nil_cons] at h1;cases h1
 | a,y::b,[],_,h2=>by rw[HT.lexLt_nil_cons] at h2;cases h2
 | [],y::b,z::c,_,_=>HT.lexLt_cons_nil _ _
 | x::a,y::b,z::c,h1,h2=>by
   rw[HT.lexLt_cons] at h1 h2 ⊢
   by_cases e1:y=x
   . subst e1;rw[if_pos rfl] at h1
     by_cases e2:z=y
     . subst e2;rw[if_pos rfl] at h2 ⊢;exact zhX h1 h2
     . rw[if_neg e2] at h2 ⊢;exact h2
   . rw[if_neg e1] at h1;have a1:=of_decide_eq_false h1
     by_cases e2:z=y
     . subst e2;rw[if_neg e1];exact h1
     . rw[if_neg e2] at h2;have a2:=of_decide_eq_false h2;rw[if_neg (by omega)];exact decide_eq_false (by omega)
theorem zjH{a b:List Int}(h:HT.lexLt a b=true):HT.lexLt b a=false:=by
 cases e:HT.lexLt b a with
 | false=>rfl
 | true =>
   -- b < a and a < b: then not (a < a) breaks
   exfalso;have:∀ {a b:List Int},HT.lexLt a b=true->HT.lexLt b a=true->False:=by
     intro a
     induction a with
     | nil=>intro b h1 h2;cases b with
       | nil=>rw[HT.lexLt_nil_nil] at h1;cases h1
       | cons y b=>rw[HT.lexLt_cons_nil] at h2;cases h2
     | cons x a ih=>intro b h1 h2;cases b with
       | nil=>rw[HT.lexLt_cons_nil] at h1;cases h1
       | cons y b =>
         rw[HT.lexLt_cons] at h1 h2
         by_cases q:x=y
         . subst q;rw[if_pos rfl] at h1 h2;exact ih h1 h2
         . rw[if_neg q] at h1;rw[if_neg (A9 q)] at h2;have a1:=of_decide_eq_true h1;have a2:=of_decide_eq_true h2;omega
   exact this h e
noncomputable def tle(a b:List Int):Bool:=!HT.lexLt b a
noncomputable def zoX(ts:List (List Int)):List (List Int):=ts.mergeSort tle
theorem zc1(a b c:List Int)(h1:tle a b=true)(h2:tle b c=true):tle a c=true:=by
 unfold tle at *;rw[Bu] at *;exact zhX h1 h2
theorem zeu(a b:List Int):(tle a b || tle b a)=true:=by
 unfold tle
 cases e:HT.lexLt b a with
 | false=>rfl
 | true=>rw[zjH e];rfl
theorem zhj{a b:List Int}(h1:tle a b=true)(h2:tle b a=true):a=b:=by
 unfold tle at *;rw[Bu] at *;exact zjI h2 h1
noncomputable def rank(ts:List (List Int))(i:Nat):Int:=((ts.countP fun t=>HT.lexLt t (ts.getD i [])):Nat)
theorem zjx{ts:List (List Int)}{i j:Nat}(hi:i < ts.length):(decide (rank ts i < rank ts j))=HT.lexLt (ts.getD i []) (ts.getD j []):=by
 unfold rank
 cases e:HT.lexLt (ts.getD i []) (ts.getD j []) with
 | true =>
   refine decide_eq_true ?_;have le:ts.countP (fun t=>HT.lexLt t (ts.getD i [])) < ts.countP (fun t=>HT.lexLt t (ts.getD j [])):=by
     have hm:ts.getD i []∈ts:=by rw[Ax,Aj hi];exact Be hi
     generalize ha:ts.getD i []=a at *;generalize hb:ts.getD j []=b at *;clear ha hb hi;have sub:∀ t,HT.lexLt t a=true->HT.lexLt t b=true:=fun t ht=>by
       cases q:HT.lexLt t b with
       | true=>rfl
       | false =>
         exfalso
         -- b<=t,t < a,a < b
         have h1:HT.lexLt a t=false:=zjH ht;have:HT.lexLt a b=false:=by
           have h2:tle b t=true:=by unfold tle;rw[q];rfl
           have h3:tle t a=true:=by unfold tle;rw[h1];rfl
           have:=zc1 b t a h2 h3;unfold tle at this;rw[Bu] at this;exact this
         rw[e] at this;cases this
     induction ts with
     | nil=>exact absurd hm (by simp)
     | cons t r ih =>
       rw[EK,EK]
       rcases List.mem_cons.mp hm with q | q
       . subst q;rw[zkN,e];have:r.countP (fun t=>HT.lexLt t a)<=r.countP (fun t=>HT.lexLt t b):=D0 fun t _ ht=>sub t ht;simp only[Bf,if_false,if_true];omega
       . have:=ih q
         by_cases c:HT.lexLt t a=true
         . rw[if_pos c,if_pos (sub t c)];omega
         . rw[if_neg c];split <;> omega
   omega
 | false =>
   refine decide_eq_false ?_;have le:ts.countP (fun t=>HT.lexLt t (ts.getD j []))<=ts.countP (fun t=>HT.lexLt t (ts.getD i [])):=D0 fun t _ ht=>by
     cases q:HT.lexLt t (ts.getD i []) with
     | true=>rfl
     | false =>
       exfalso;have h2:tle (ts.getD j []) (ts.getD i [])=true:=by unfold tle;rw[e];rfl
       have h3:tle (ts.getD i []) t=true:=by unfold tle;rw[q];rfl
       have h4:=zc1 _ _ _ h2 h3;unfold tle at h4;rw[ht] at h4;cases h4
   omega
theorem zo4{n:Nat}{r:Nat->Int}{α:Type}{P:α->Prop}{Q:α->Shared->Prop}{s:Shared}{cmp:Nat->Nat->(Bool->Shared->Prop)->Shared->Prop}(hc:∀ i j,i < n->j < n->∀ C:Bool->Shared->Prop,C (decide (r i < r j)) s->cmp i j C s)(hq:∀ a,P a->Q a s) :
   ∀ {t:PySem.W.KasT α},Srt.Hd n r t P->t.kasWp cmp Q s
 | .ret a,h=>hq a h
 | .ask i j k,h=>hc i j h.1.1 h.1.2 _ (zo4 hc hq (t:=k _) h.2)
theorem zgt{P:Program}{w:World}{H:Hp}{h:Heap}{a:Addr}{o:HO}(x:zdv P w H h a o):∃ u,h.get? a=some u:=by
 cases o with
 | lst xs=>obtain⟨_,_,_,_,e⟩:=x;exact⟨_,e⟩
 | tup xs=>obtain⟨_,_,_,o,e,_⟩:=x;exact⟨_,e⟩
 | dK kvs=>obtain⟨_,_,_,_,o,_,_,e,_⟩:=x;exact⟨_,e⟩
 | dT kvs=>obtain⟨_,_,_,_,o,_,_,e,_⟩:=x;exact⟨_,e⟩
 | set S n=>obtain⟨o,_,_,_,e,_⟩:=x;exact⟨_,e⟩
 | ins C dx fs=>obtain⟨_,_,_,e,_⟩:=x;exact⟨_,e⟩
 | own y=>exact x
 | xd fs=>obtain⟨_,⟨_,_,_,e,_⟩,_⟩:=x;exact⟨_,e⟩
 | rng lo hi=>obtain⟨_,_,_,e⟩:=x;exact⟨_,e⟩
 | frz ob u=>obtain⟨e,_⟩:=x;exact⟨_,e⟩
 | tbl ps=>exact⟨_,x⟩
 | met f y=>exact⟨_,x⟩
 | ext φ=>obtain⟨_,e,_⟩:=x;exact e
theorem zog{h:Heap}{a:Addr}{m m':Str->Option Value}(x:h.Ns a m)(y:h.Ns a m'):m=m':=by
 obtain⟨o,es,ep,ho,hd,_,hm⟩:=x;obtain⟨o',es',ep',ho',hd',_,hm'⟩:=y;rw[ho] at ho';cases ho';rw[hd] at hd';cases hd'
 funext n
 rw[<-hm n,hm' n]
section
variable {X:Cx} {pins:List (Addr×Obj)} {σ:L2.St} {H:Hp} {s:Shared}
theorem Inv.laidAt{h':Heap}{m:Str->Option Value}{a:Addr}{o:HO}(I:Inv X pins σ H s)(k:∀ b u,b≠X.env.locals->s.heap.get? b=some u->h'.get? b=some u)(ns:∀ m,s.heap.Ns X.env.locals m->h'.Ns X.env.locals m)(hL:∃ u,h'.get? X.env.locals=some u)
   (ha:s.heap.get? a=none) (hH:H a=none) (haL:a≠X.env.locals) (new:zdv X.prog X.w (upd H a o) h' a o):Inv X pins σ (upd H a o) { s with heap:=h' }:=by
 have na:∀ b u,s.heap.get? b=some u->b≠a:=fun b u e z=>by rw[z,ha] at e;cases e
 refine Inv.step (t':=s.toks) (ch:=[]) (g':=s.gens) (d':=s.drawn) I (fun b hb=>absurd hb (by simp)) (fun b u h1 _ _ e _=>k b u h1 e) (fun b u h1 _ _ e _=>⟨u.slots,k b u h1 e⟩) (fun b u _ e n=>by rw[zaO (na b u e)];exact n) (fun b u _ e=>?_)
   (fun b xs e=>by rw[zaO (zan e hH)];exact e) (fun b u v e=>by rw[zaO (zan e hH)];exact e) (fun b ps e=>⟨#[],by rw[zaO (zan e hH),e];simp⟩) ns (fun b u e=>?_) I.bare
 . by_cases hb:b=X.env.locals
   . rw[hb];exact hL
   . exact⟨u,k b u hb e⟩
 . by_cases hb:b=a
   . subst hb;rw[zbw] at e;cases e;exact new
   . rw[zaO hb] at e;refine (I.hok b u e).stay (fun c v hc q=>k c v (fun z=>?_) q) (fun c q=>by rw[zaO (zan q hH)];exact q) fun c xs q=>by rw[zaO (zan q hH)];exact q
     subst z
     rcases hc with rfl | hc
     . rw[I.free] at e;cases e
     . rw[I.free] at hc;cases hc
end
theorem zc3{α:Type}(ts:List α)(d:α):(Au ts.length).map (fun i=>ts.getD i d)=ts:=by
 apply List.ext_getElem
 . simp
 . intro i h1 h2;simp[Ax,Aj h2]
theorem zgQ{ts:List (List Int)}{q:Array Nat}(hp:q.Perm (BS (Au ts.length)))(hu:Srt.Up (rank ts) q ts.length):q.toList.map (fun i=>ts.getD i [])=zoX ts:=by
 have hl:=Array.perm_iff_toList_perm.mp hp;have hl:q.toList.Perm (Au ts.length):=by simpa using hl
 have hsz:q.toList.length=ts.length:=by rw[hl.length_eq,BM]
 have p1:(q.toList.map fun i=>ts.getD i []).Perm ts:=by
   have:=hl.map fun i=>ts.getD i [];rw[zc3] at this;exact this
 refine zb5 (le:=fun a b=>tle a b=true) (p1.trans (Cm ts tle).symm) ?_ (Bw (fun a b c=>zc1 a b c) zeu ts) fun a _ b _=>zhj;rw[List.pairwise_iff_getElem];intro i j hi hj hij;rw[EL,EL];rw[Af] at hi hj;have hu:=hu i j (BP hij) (by omega);have gi:∀ (k:Nat) (hk:k < q.toList.length),q.getD k 0=q.toList[k]:=fun k hk=>by
   rw[BF,<-AL,Aj hk];rfl
 unfold Srt.R at hu;rw[gi i hi,gi j hj] at hu;have lt:∀ k∈q.toList,k < ts.length:=fun k hk=>List.mem_range.mp (hl.mem_iff.mp hk);have e:=zjx (ts:=ts) (i:=q.toList[j]) (j:=q.toList[i]) (lt _ (Be hj));rw[decide_eq_false (by omega)] at e;unfold tle;rw[<-e];rfl
section
variable {X:Cx} {K:Ac} {H:Hp} {io:List Addr} {st st':Sto} {a b c e:Expr} {es:List Expr} {ma mb mc m:ME} {mm:MA} {pos:Pos} {pins:List (Addr×Obj)} {σ:L2.St} {s:Shared}
noncomputable def orO{α:Type}:Option α->Option α->Option α
 | some x,_=>some x
 | none,y=>y
theorem zcp{α:Type}{x y:Option α}{z:α}(h:orO x y=some z):x=some z\/y=some z:=by
 cases x with
 | none=>exact .inr h
 | some w=>exact .inl h
noncomputable def orG(g h:G2):G2:=fun x y st=>orO (g x y st) (h x y st)
noncomputable def orN(g h:GN):GN:=fun xs st=>orO (g xs st) (h xs st)
theorem zkA{f:Value->Value->Sem Value}{g h:G2}(p:OpM X f g)(q:OpM X f h):OpM X f (orG g h):=by
 rintro pins s σ H x y v u Q I rx ry ⟨dx,dy,st,io,d,st',Rx,Ry,S,e,k⟩
 rcases zcp e with e | e
 . exact p pins s σ H x y v u Q I rx ry ⟨dx,dy,st,io,d,st',Rx,Ry,S,e,k⟩
 . exact q pins s σ H x y v u Q I rx ry ⟨dx,dy,st,io,d,st',Rx,Ry,S,e,k⟩
theorem zlb{f:Value}{g h:GN}(p:zg8 X f g)(q:zg8 X f h):zg8 X f (orN g h):=by
 rintro pins s σ H xs us Q I r ⟨ds,st,io,d,st',R,S,e,k⟩
 rcases zcp e with e | e
 . exact p pins s σ H xs us Q I r ⟨ds,st,io,d,st',R,S,e,k⟩
 . exact q pins s σ H xs us Q I r ⟨ds,st,io,d,st',R,S,e,k⟩
theorem zjG{g:G2}{ρ:Rho}{x y:D}{s0 s1 s2:Sto}{r:D×Sto}(h1:ma ρ s0=some (x,s1))(h2:mb ρ s1=some (y,s2))(h3:g x y s2=some r):mBin g ma mb ρ s0=some r:=by
 unfold mBin;rw[h1];show Fw (mb ρ s1) _=_;rw[h2];exact h3
theorem zlT{g h:G2}(p:SE X e (mBin g ma mb))(q:SE X e (mBin h ma mb)):SE X e (mBin (orG g h) ma mb):=by
 rintro pins s σ H Q I ⟨ρ,st,io,d,st',E,S,e,k⟩;obtain⟨⟨x,s1⟩,e1,e⟩:=zac e;obtain⟨⟨y,s2⟩,e2,e⟩:=zac e
 rcases zcp e with e | e
 . exact p pins s σ H Q I ⟨ρ,st,io,d,st',E,S,zjG e1 e2 e,k⟩
 . exact q pins s σ H Q I ⟨ρ,st,io,d,st',E,S,zjG e1 e2 e,k⟩
noncomputable def zpQ:G2:=fun d k st=>match d with
 | .ref n=>(look st n k).bind fun r=>r.map fun v=>(v,st)
 | _=>none
noncomputable def ixA:G2:=orG idxD zpQ
theorem zaw(hu:X.A.units+1 < cLine)(ha:SE X a ma)(hb:SE X b mb)(hs:ziv b:=by intro _ _;rfl)(hs':NoSl b:=by intro _ _;rfl):SE X (.Subscript a b pos) (mBin ixA ma mb) :=
 zlT (zpl ha hb hs) (show SE X (.Subscript a b pos) (zo0 ma mb) from zlW hu ha hb hs')
noncomputable def dinD(neg:Bool):G2:=fun k d st=>match d with
 | .ref n=>(look st n k).map fun r=>(.bl (if neg then !r.isSome else r.isSome),st)
 | _=>none
noncomputable def inA:G2:=orG (orG (inD false) inSD) (dinD false)
theorem zlV(hu:X.A.units+100 < cLine)(ha:SE X a ma)(hb:SE X b mb)(hm:behindInMarks .In b=false:=by rfl):SE X (.Compare a [.In] [b] pos) (mBin inA ma mb) :=
 zlT (zht (zkA (zob hu) zmn) ha hb hm) (show SE X _ (mDIn false ma mb) from znH (by omega) ha hb hm)
noncomputable def slA:D->Option Int->Option Int->Sto->Option (D×Sto):=fun x lo hi st=>orO (slD x lo hi st) (slS x lo hi st)
noncomputable def mSlA(m:ME)(l h:MO):ME:=fun ρ st=>(m ρ st).bind fun (x,s1)=>(l ρ s1).bind fun (lo,s2)=>(h ρ s2).bind fun (hi,s3)=>slA x lo hi s3
theorem ziK{lo hi:Option Expr}{ml mh:MO}{p2:Pos}(he:SE X e m)(hl:SO X lo ml)(hu:SO X hi mh):SE X (.Subscript e (.Slice lo hi none p2) pos) (mSlA m ml mh):=by
 rintro pins s σ H Q I ⟨ρ,st,io,d,st',E,S,e0,k⟩;obtain⟨⟨x,s1⟩,e1,e0⟩:=zac e0;obtain⟨⟨lo',s2⟩,e2,e0⟩:=zac e0;obtain⟨⟨hi',s3⟩,e3,e0⟩:=zac e0
 rcases zcp e0 with e0 | e0
 . exact zkh he hl hu pins s σ H Q I ⟨ρ,st,io,d,st',E,S,by simp only[mSl,e1,e2,e3,Ab];exact e0,k⟩
 . exact ziI he hl hu pins s σ H Q I ⟨ρ,st,io,d,st',E,S,by simp only[mSlS,e1,e2,e3,Ab];exact e0,k⟩
noncomputable def zjZ:D->Sto->Option (Wk×Sto)
 | .ref n,s=>(zcc s n).map fun ds=>(⟨ds,[(n,ds)]⟩,s)
 | .tup ds,s=>some (⟨ds,[]⟩,s)
 | _,_=>none
noncomputable def mW(m:ME):MI:=fun ρ st=>(m ρ st).bind fun (d,s)=>zjZ d s
theorem zlK{tg l:Expr}(hl:SE X l m):SI X tg l (mW m):=by
 rintro pins s σ H R I ⟨ρ,st,io,W,st',E,S,e0,k⟩;obtain⟨⟨d,s1⟩,e1,e0⟩:=zac e0
 cases d with
 | ref n=>exact zlL hl pins s σ H R I ⟨ρ,st,io,W,st',E,S,by unfold mWL;rw[e1];exact e0,k⟩
 | tup ds=>exact znB hl pins s σ H R I ⟨ρ,st,io,W,st',E,S,by unfold mWT;rw[e1];exact e0,k⟩
 | _=>cases e0
noncomputable def setD:G3:=fun o i v st=>match o,i with
 | .ref n,.int k=>match st[n]? with
   | some (.lst ds)=>(ixN ds.length k).map fun j=>st.set n (.lst (ds.set j v))
   | _=>none
 | _,_=>none
theorem zpk:SetM X setD:=by
 rintro pins s σ H o i v ov iv u Q I ro ri rv ⟨d1,d2,d3,st,io,st',R1,R2,R3,S,e,k⟩
 cases d1 with
 | ref n =>
   cases d2 with
   | int j =>
     unfold setD at e;dsimp only at e
     split at e
     . rename_i ds e0;obtain⟨q,e1,e⟩:=zai e;cases e;obtain⟨p,rfl,hp⟩:=R1;obtain⟨ys,hH,r⟩:=S.ob n p _ hp e0;refine set_list pins s σ H _ _ v ov iv u Q I ro ri rv ⟨p,ys,j,q,rfl,R2,hH,by rw[r.length];exact e1,?_⟩;obtain⟨E',S'⟩:=zgR (o:=.lst (ys.set q v)) (ob:=.lst (ds.set q d3)) S hp e0 (fun o u z=>by rw[hH] at z;cases z) fun H' T e'=>⟨_,e',(Reps.mono T r).set q (Rep.mono T R3)⟩
       exact k _ [] E' S'
     . cases e
   | _=>cases e
 | _=>cases d2 <;> cases e
noncomputable def putA(mo mi mv:ME):MS:=fun ρ st=>orO (mAsg mv (gSb setD mo mi) ρ st) (zng mo mi mv ρ st)
theorem zhn{o i value:Expr}{mo mi mv:ME}{pos':Pos}(hu:X.A.units+1 < cLine)(ho:SE X o mo)(hi:SE X i mi)(hv:SE X value mv)(hs:swapsWith value (some (.Subscript o i pos')) pos.line X.env=pure false:=by rfl)
   (ha:∀ v,assign (.Subscript o i pos') X.env v=(do
     let ov <-holding [v] (eval o X.env)
     let iv <-holding [v,ov] (eval i X.env)
     standAt pos'
     holding [v,ov,iv] (setItem ov iv v)
     release [v,ov,iv] []):=by intro _;rfl)
   (hs2:swapsWithSole [.Subscript o i pos'] value pos.line X.env=pure false:=by rfl) (hw:swappedStores [.Subscript o i pos'] value X.env=pure none:=by rfl)
   (h1:(assignEach [.Subscript o i pos'] X.env).map (·.2)=[assign (.Subscript o i pos') X.env]:=by rfl):SS X (.Assign [.Subscript o i pos'] value pos) (putA mo mi mv):=by
 intro pins s σ H N I h;obtain⟨ρ,st,io,f,st',E,S,e,w⟩:=zc0.mp h
 rcases zcp e with e | e
 . exact zlE hv (znD ho hi zpk ha) hs2 hw h1 pins s σ H N I (zj3 E S e w)
 . exact zlD hu ho hi hv hs pins s σ H N I (zj3 E S e w)
noncomputable def mPar(i j:Nat)(mm:MA):MS:=fun ρ st=>(mm ρ st).bind fun (xs,s)=>match xs with
 | [x,y]=>some (.nx ((ρ.set i (some x)).set j (some y)),s)
 | _=>none
theorem zj9{i j:Nat}{x y:Str}{px py pt:Pos}{kt k2 pt2}(hc:X.calm=true)(hN:X.N.Nodup)(hi:X.N[i]?=some x)(hj:X.N[j]?=some y)(hij:i≠j)
   (hx:X.env.scope.names.lookup x=some .local) (hy:X.env.scope.names.lookup y=some .local) (ha:SA X [a,b] mm)
   (hw:swappedStores [.Tuple [.Name x px,.Name y py] kt pt] (.Tuple [a,b] k2 pt2) X.env=pure (some [x,y]):=by rfl)
   (hs:swapsWithSole [.Tuple [.Name x px,.Name y py] kt pt] (.Tuple [a,b] k2 pt2) pos.line X.env=pure false:=by rfl) :
   SS X (.Assign [.Tuple [.Name x px,.Name y py] kt pt] (.Tuple [a,b] k2 pt2) pos) (mPar i j mm):=PS.imp (znS hc hN hi hj hij hx hy ha hw hs) fun N σ H h=>by
 obtain⟨ρ,st,io,f,st',E,S,e,w⟩:=zc0.mp h;obtain⟨⟨xs,s1⟩,e1,e⟩:=zac e
 match xs,e,e1 with
 | [u,v],e,e1 =>
   cases e;refine⟨ρ,st,io,_,_,E,S,e1,fun vs H1 k1 X1 S1 R1=>?_⟩;obtain⟨p,q,rfl,r1,r2⟩:=R1.two;exact⟨p,q,rfl,w _ H1 k1 X1 S1 (((E.ext S X1).set i r1).set j r2)⟩
def za8(P:Program)(w:World)(K:Ac)(mg:Str->Option Value)(base:Heap)(k:Nat)(x:Str)(n:Nat)(g:GN):Prop :=
 ∃ f fd ps,FnOk P w K mg base CX0 k f fd ps (spM K n g)/\mg x=some (.ref f)/\Bx K (.ref f)=true/\Binds K fd ps []
def zak(n:Nat)(mm:MA):Prop:=∀ ρ st xs s,mm ρ st=some (xs,s)->xs.length=n
theorem zak.nil:zak 0 mNil:=fun _ _ _ _ h=>zkM h
theorem zak.cons{n:Nat}(h:zak n mm):zak (n+1) (zad m mm):=fun _ _ _ _ q=>ziZ h q
theorem zag{x:Str}{p:Pos}{k n:Nat}{g:GN}(F:za8 X.prog X.w X.K X.mg X.base k x n g)(hr:Room k X.A)(hg:Gl X x)(ha:SA X (e::es) mm)(hl:zak n mm)(hdb:(x==("__debug__":Str))=false:=by decide)
   (he:starEach (e::es) X.env=(false,eval e X.env)::starEach es X.env:=by rfl) (hpl:(backTo pos (starEach es X.env)).any (·.1)=false:=by rfl) (hn:(e::es).length=n:=by rfl) :
   SE X (.Call (.Name x p) (e::es) [] pos) (zar g mm):=by
 obtain⟨f,fd,ps,F,hm,hk,hb⟩:=F;exact zlX F hr hg hm hk hb ha hdb he hpl hn hl
def Laid(K:Ac)(mg:Str->Option Value)(x:Str)(st:Stmt)(ps:List Str):Prop:=∃ f fd,Fun K x x st f fd/\mg x=some (.ref f)/\Binds K fd ps []
theorem zbJ{P:Program}{w:World}{mg:Str->Option Value}{base:Heap}{x:Str}{st:Stmt}{N ps:List Str}{k:Nat}{m:MS}(L:Laid K mg x st ps)(S:FnScope N ps (zal st))
   (hbody:∀ (f:Addr) (cdv:Value) (A:Around) (outer:List Env) (s:Shared) (H:Hp) (E:XK),Room k (A.deeper (envOfC x (zal st) s.heap.objs.size f cdv)) ->
     SSs (cxOf CX0 P w K mg base N x (zal st) f cdv A outer s H E).nox (zcz st) m):za8 P w K mg base (k+1) x ps.length (fnM N.length m):=by
 obtain⟨f,fd,F,hm,hb⟩:=L;exact⟨f,fd,ps,fn_m F S (hbody f),hm,F.kp,hb⟩
end
section
variable {prog:Program} {w:World} {A:Around} {E:Value->Shared->Prop} {s:Shared}
theorem zh3{d:Addr}{o:Obj}{R:Value->Shared->Prop}(ty:s.TypeIs (.ref d) "dict")(hd:(d==sysModules)=false)
   (k:R (.ref s.heap.objs.size) { s with heap:=s.heap.push { cls:=.type "dict_items",data:=.fields #[.ref d] } }):wpAny (model prog w) A (call (.builtin "dict.items") [.ref d]) R E s:=by
 refine A5 DF ty PySem.F.entry_dict_items ?_ (PySem.F.args_dict_items_1 _);unfold Builtin.«dict.items» Builtin.Dict.noArgs;refine Aa (Aa (wpAny_notOrdered_dict ty ?_));show wpAny _ _ (pure d) _ _ s;refine Ad ?_;unfold Builtin.Dict.showsAll;show wpAny _ _ ((if (d==sysModules)=true then _ else _) >>= _) _ _ s;rw[if_neg (show ¬ (d==sysModules)=true by rw[hd];decide)];exact Aa (Ad (Aa (AQ (Ad ⟨_,rfl,k⟩))))
end
inductive Sr where
 | l (a:Addr) | t (a:Addr)
noncomputable def Sr.ad:Sr->Addr
 | .l a=>a
 | .t a=>a
noncomputable def Sr.ob:Sr->Obj
 | .l a=>{ cls:=.type "list_iterator",data:=.fields #[.ref a,.int 0 0] }
 | .t a=>{ cls:=.type "tuple_iterator",data:=.fields #[.ref a,.int 0 0] }
noncomputable def Sr.is(h:Heap)(xs:Array Value):Sr->Prop
 | .l a=>h.IsList a xs
 | .t a=>IsTup h a xs
noncomputable def Sr.at_(h:Heap)(i:Addr)(k:Nat):Sr->Prop
 | .l a=>h.IsListIter i a k
 | .t a=>IsTupIter h i a k
theorem Sr.is_keep{h h':Heap}{xs:Array Value}{x:Sr}(q:x.is h xs)(k:∀ u,h.get? x.ad=some u->h'.get? x.ad=some u):x.is h' xs:=by
 cases x with
 | l a=>exact Heap.IsList.at q k
 | t a=>obtain⟨o,g,c⟩:=q;exact⟨o,k o g,c⟩
theorem Sr.at_keep{h h':Heap}{i:Addr}{n:Nat}{x:Sr}(q:x.at_ h i n)(k:∀ u,h.get? i=some u->h'.get? i=some u):x.at_ h' i n:=by
 cases x with
 | l a=>exact FC q k
 | t a=>obtain⟨o,g,c⟩:=q;exact⟨o,k o g,c⟩
theorem Sr.at_get{h:Heap}{i:Addr}{n:Nat}{x:Sr}(q:x.at_ h i n):∃ o vs,h.get? i=some o/\o.data=.fields vs:=by
 cases x with
 | l a=>obtain⟨o,g,c,d⟩:=q;exact⟨o,_,g,d⟩
 | t a=>obtain⟨o,g,c,d⟩:=q;exact⟨o,_,g,d⟩
section
variable {prog:Program} {w:World} {A:Around} {E:Value->Shared->Prop} {s:Shared}
theorem Sr.iter{x:Sr}{xs:Array Value}{R:Value->Shared->Prop}(h:x.is s.heap xs)(k:R (.ref s.heap.objs.size) { s with heap:=s.heap.push x.ob }):wpAny (model prog w) A (pyIter (.ref x.ad)) R E s:=by
 cases x with
 | l a=>exact CA h k
 | t a=>exact iter_tuple h k
theorem zhO{it a:Addr}{i:Nat}{xs:Array Value}{v:Value}{R:Value->Shared->Prop}(hit:IsTupIter s.heap it a i)(ht:IsTup s.heap a xs)(hx:xs[i]?=some v)
   (k:∀ h',IsTupIter h' it a (i+1)->BC it s.heap h'->R v { s with heap:=h' }):wpAny (model prog w) A (Bc (.ref it)) R E s:=by
 obtain⟨ro,rg,rc,rd⟩:=id hit;obtain⟨to,tg,_,tn,td⟩:=ht;unfold Bc;refine Aa (Bm (name:=B9 "__next__") hit.typeIs Cn (A5 Cn hit.typeIs D6 ?_ (Ee _)));show wpAny _ _ (field (.ref it) 0 >>= _) _ _ s;refine Aa (Cj rg rd (x:=.ref a) rfl ?_);show wpAny _ _ (if (A0 a==Bi)=true then _ else _) _ _ s;rw[if_neg (show ¬ (A0 a==Bi)=true from fun z=>Bp z)];show wpAny _ _ (field (.ref it) 1 >>= _) _ _ s;refine Aa (Cj rg rd (x:=.int i 0) rfl ?_);show wpAny _ _ (seqItems? (.ref a) >>= _) _ _ s;refine Aa (C5 tg td ?_);simp only[A7,hx];refine Aa (Bz rg rd (by simp) (Ad ⟨v,rfl,Ad (k _ ⟨_,A8 _ rg (BJ (AW rd _)),(CB ..).trans rc,?_⟩ (AZ ..))⟩));rw[AW rd];simp[rawInt]
theorem zeY{it a:Addr}{i:Nat}{xs:Array Value}{R:Value->Shared->Prop}(hh:A.handled=none)(hit:IsTupIter s.heap it a i)(ht:IsTup s.heap a xs)(hx:xs[i]?=none)
   (k:∀ h' e,DV it s.heap h'->(∃ o,h'.get? e=some o/\o.cls=.type "StopIteration")->E (.ref e) { s with heap:=h' }):wpAny (model prog w) A (Bc (.ref it)) R E s:=by
 obtain⟨ro,rg,rc,rd⟩:=id hit;obtain⟨to,tg,_,tn,td⟩:=ht;unfold Bc;refine Aa (Bm (name:=B9 "__next__") hit.typeIs Cn (A5 Cn hit.typeIs D6 ?_ (Ee _)));show wpAny _ _ (field (.ref it) 0 >>= _) _ _ s;refine Aa (Cj rg rd (x:=.ref a) rfl ?_);show wpAny _ _ (if (A0 a==Bi)=true then _ else _) _ _ s;rw[if_neg (show ¬ (A0 a==Bi)=true from fun z=>Bp z)];show wpAny _ _ (field (.ref it) 1 >>= _) _ _ s;refine Aa (Cj rg rd (x:=.int i 0) rfl ?_);show wpAny _ _ (seqItems? (.ref a) >>= _) _ _ s;refine Aa (C5 tg td ?_);simp only[A7,hx];refine Aa (Dr (Aa (Bz rg rd (by simp) ?_)));show wpAny _ _ (newExc (.type "StopIteration") [] >>= _) _ _ _;simp only[newExc,newTuple];refine Aa (Aa (AQ (Aa (m:=firstArgMember _ _) (wpAny_of_eq (a:=Bi) (by first | rfl | (simp only[firstArgMember];rfl)) (AQ ?_ (by size_fits)))) (by size_fits)));simp only[raiseNew];refine Aa (wpAny_handled ?_)
 first | rw[show A.in1.handled=none from hh] | rw[hh]
 refine Aa (Ad (wpAny_throw ?_));exact k _ _ (((AZ ..).extBut.push _).push _) ⟨_,Av _ rfl,rfl⟩
theorem Sr.next{x:Sr}{it:Addr}{i:Nat}{xs:Array Value}{v:Value}{R:Value->Shared->Prop}(hit:x.at_ s.heap it i)(h:x.is s.heap xs)(hx:xs[i]?=some v)(k:∀ h',x.at_ h' it (i+1)->BC it s.heap h'->R v { s with heap:=h' }) :
   wpAny (model prog w) A (Bc (.ref it)) R E s:=by
 cases x with
 | l a=>exact wpAny_nextOf_list_item hit h hx k
 | t a=>exact zhO hit h hx k
theorem Sr.stop{x:Sr}{it:Addr}{i:Nat}{xs:Array Value}{R:Value->Shared->Prop}(hh:A.handled=none)(hit:x.at_ s.heap it i)(h:x.is s.heap xs)(hx:xs[i]?=none)
   (k:∀ h' e,DV it s.heap h'->(∃ o,h'.get? e=some o/\o.cls=.type "StopIteration")->E (.ref e) { s with heap:=h' }):wpAny (model prog w) A (Bc (.ref it)) R E s:=by
 cases x with
 | l a=>exact wpAny_nextOf_list_end hh hit h hx k
 | t a=>exact zeY hh hit h hx k
end
theorem Sr.at_new{h:Heap}{x:Sr}{i:Addr}(g:h.get? i=some x.ob):x.at_ h i 0:=by
 cases x with
 | l a=>exact⟨_,g,rfl,rfl⟩
 | t a=>exact⟨_,g,rfl,rfl⟩
noncomputable def Sr.sq(H:Hp)(xs:List V):Sr->Prop
 | .l a=>H a=some (.lst xs)\/∃ o,H a=some (.frz o (.lst xs))
 | .t a=>H a=some (.tup xs)
theorem Sr.sq_ne{H:Hp}{xs:List V}{x:Sr}{b:Addr}(h:x.sq H xs)(hb:H b=none):x.ad≠b:=by
 cases x with
 | l a=>rcases h with h | ⟨o,h⟩ <;> exact zan h hb
 | t a=>exact zan (show H a=some (.tup xs) from h) hb
theorem Sr.sq_inj{H:Hp}{xs ys:List V}{x:Sr}(h:x.sq H xs)(h':x.sq H ys):xs=ys:=by
 cases x with
 | l a=>rcases h with h | ⟨o,h⟩ <;> rcases h' with h' | ⟨o',h'⟩ <;> rw[h] at h' <;> cases h' <;> rfl
 | t a =>
   have h:H a=some (.tup xs):=h;have h':H a=some (.tup ys):=h';rw[h] at h';cases h';rfl
theorem Sr.sq_is{X:Cx}{pins:List (Addr×Obj)}{σ:L2.St}{H:Hp}{s:Shared}{xs:List V}{x:Sr}(I:Inv X pins σ H s)(h:x.sq H xs):∃ its:List Value,Vals xs its/\x.is s.heap its.toArray:=by
 cases x with
 | l a =>
   obtain⟨its,rv,p,_⟩:=I.list (show SqL X.K H a xs from .inl h);exact⟨its,rv,p.isList⟩
 | t a =>
   obtain⟨its,rv,p,_⟩:=I.tuple (SqT.of (K:=X.K) h);exact⟨its,rv,p⟩
section
variable {X:Cx} {K:Ac} {H:Hp} {io:List Addr} {ma mb:ME} {st st':Sto}
noncomputable def seqD(s:Sto):D->Option (List D×List (Nat×List D))
 | .ref n=>(zcc s n).map fun ds=>(ds,[(n,ds)])
 | .tup ds=>some (ds,[])
 | _=>none
theorem zlO{d:D}{v:V}{ds:List D}{g:List (Nat×List D)}(S:StR K H io st)(R:Rep K H io v d)(h:seqD st d=some (ds,g)):∃ x:Sr,v=.ref x.ad/\(∃ xs,x.sq H xs) /\
   ∀ H1 ka s1,Ext io ka H H1->StR K H1 (io++ka) s1->(∀ p,p∈g->s1[p.1]?=some (.lst p.2)\/s1[p.1]?=some (.fz p.2))->∃ xs,x.sq H1 xs/\Reps K H1 (io++ka) xs ds:=by
 cases d with
 | ref n =>
   obtain⟨l,e,q⟩:=zai h;cases q;obtain⟨p,rfl,hp⟩:=R;refine⟨.l p,rfl,?_,fun H1 ka s1 X1 S1 hs=>?_⟩
   . unfold zcc at e
     split at e
     . rename_i o he;cases e;obtain⟨xs,q,_⟩:=S.ob n p _ hp he;exact⟨xs,.inl q⟩
     . rename_i o he;cases e;obtain⟨ob,xs,q,_⟩:=S.ob n p _ hp he;exact⟨xs,.inr ⟨ob,q⟩⟩
     . cases e
   . rcases hs (n,ds) Am with q | q
     . obtain⟨xs,q',r⟩:=S1.ob n p _ (zbT hp) q;exact⟨xs,.inl q',r⟩
     . obtain⟨ob,xs,q',r⟩:=S1.ob n p _ (zbT hp) q;exact⟨xs,.inr ⟨ob,q'⟩,r⟩
 | tup ts =>
   cases h;obtain⟨p,xs,rfl,hp,r⟩:=R;exact⟨.t p,rfl,⟨xs,hp⟩,fun H1 ka s1 X1 S1 _=>⟨xs,X1.sqT S p xs hp,r.ext S X1⟩⟩
 | _=>cases h
end
noncomputable def Caps(X:Cx)(fs:List Str):List Nat->List Str->Prop
 | [],[]=>True
 | j::js,x::xs=>(X.N[j]?=some x/\x∈fs)/\Caps X fs js xs
 | _,_=>False
noncomputable def Outs(X:Cx):List Str->Prop
 | []=>True
 | x::xs=>(X.env.kindOf x=some .cell\/X.env.kindOf x=some .free)/\Outs X xs
theorem Outs.get{X:Cx}:∀ {fs:List Str} {x:Str},Outs X fs->x∈fs->X.env.kindOf x=some .cell\/X.env.kindOf x=some .free
 | [],_,_,m=>nomatch m
 | y::ys,x,h,m=>by
   rcases List.mem_cons.mp m with rfl | m
   . exact h.1
   . exact Outs.get h.2 m
theorem Caps.get{X:Cx}{fs:List Str}:∀ {fr:List Nat} {xs:List Str} {i j:Nat} {x:Str},Caps X fs fr xs->fr[i]?=some j->xs[i]?=some x->X.N[j]?=some x/\x∈fs
 | [],[],i,j,x,_,h,_=>by simp at h
 | [],_::_,i,j,x,h,_,_=>h.elim
 | _::_,[],i,j,x,h,_,_=>h.elim
 | k::ks,y::ys,0,j,x,h,h1,h2=>by
   simp at h1 h2;subst h1 h2;exact h.1
 | k::ks,y::ys,i+1,j,x,h,h1,h2=>Caps.get (i:=i) h.2 (by simpa using h1) (by simpa using h2)
theorem zbK{X:Cx}{scope:Scope}{N':List Str}{nt:Nat}{fr:List Nat}(fs:List Str)(kind:scope.kind=.function)(nd:(scope.names.map (·.1)).Nodup)(hf:scope.names.all (fun p=>!(p.2==AC) || fs.contains p.1)=true)
   (hb:fs.all (fun x=>scope.names.contains (x,AC))=true) (len:N'.length=nt+fr.length) (cap:Caps X fs fr (N'.drop nt)) (out:Outs X fs):CompS X scope N' nt fr:=by
 refine⟨kind,nd,len,fun i j x h1 h2=>?_,fun x hx=>?_⟩
 . have h2':(N'.drop nt)[i]?=some x:=by rw[List.getElem?_drop];exact h2
   obtain⟨a,b⟩:=cap.get h1 h2';refine⟨a,?_⟩;have:=List.all_eq_true.mp hb x b;simpa using this
 . have:=List.all_eq_true.mp hf _ hx;have hm:x∈fs:=by simpa using this
   exact out.get hm
theorem zca:bootBuiltins "len"=some (.builtin "len"):=by decide +kernel
theorem zm1:bootBuiltins "abs"=some (.builtin "abs"):=by decide +kernel
theorem zgE:bootBuiltins "sorted"=some (.builtin "sorted"):=by decide +kernel
theorem zin:bootBuiltins "all"=some (.builtin "all"):=by decide +kernel
theorem zoO:bootBuiltins "int"=some (.type "int"):=by decide +kernel
theorem zm0:bootBuiltins "bool"=some (.type "bool"):=by decide +kernel
theorem zoM:bootBuiltins "str"=some (.type "str"):=by decide +kernel
theorem zmZ:bootBuiltins "list"=some (.type "list"):=by decide +kernel
theorem zb1:bootBuiltins "tuple"=some (.type "tuple"):=by decide +kernel
noncomputable def mulA:G2:=orG mulD zna
theorem zdo{X:Cx}:OpM X (binaryOp .Mult) mulA:=zkA zmm zkB
theorem zjO{K:Ac}{H:Hp}{io:List Addr}:∀ (ns:List Int),Reps K H io (ns.map V.int) (ns.map D.int)
 | []=>rfl
 | n::ns=>⟨_,_,rfl,rfl,zjO ns⟩
theorem zka{K:Ac}{H:Hp}{a:Addr}{ns:List Int}{g:GN}{st:Sto}{E:XK}(hO:Only H)(hS:SqL K H a (ns.map V.int))(e:g [.kl (ns.map D.int)] []=some (.bl true,st)):spM K 1 g [.ref a] H (fun v _=>v=.bl true) E:=by
 have hF:SqF K H a (ns.map V.int):=by
   rcases hS with (h | h) | h
   . rcases hO a with z | ⟨o,xs,z⟩
     . rw[z] at h;cases h
     . rw[z] at h;cases h
   . exact .inl h
   . exact .inr h
 refine⟨_,[],[],_,_,rfl,Reps.cons (show Rep K H [] (.ref a) (.kl (ns.map D.int)) from ⟨a,_,rfl,hF,zjO ns⟩) Reps.nil,⟨rfl,Fb,fun n b o h=>by simp at h⟩,e,fun v H' ka E' S' R'=>R'⟩
end L2.MP
namespace L2.MP
open PySem
structure Gr(st st':Sto):Prop where
 len:st.length<=st'.length
 old:∀ k,k < st.length->st'[k]?=st[k]?
theorem Gr.refl(st:Sto):Gr st st:=⟨Ae _,fun _ _=>rfl⟩
theorem Gr.trans{a b c:Sto}(h:Gr a b)(h':Gr b c):Gr a c:=⟨AI h.len h'.len,fun k hk=>(h'.old k (Aw hk h.len)).trans (h.old k hk)⟩
theorem Gr.app(st:Sto)(l:List O):Gr st (st++l):=⟨by simp,fun k hk=>Al hk⟩
theorem getElem?_lt{α:Type}{l:List α}{n:Nat}{x:α}(h:l[n]?=some x):n < l.length:=(List.getElem?_eq_some_iff.mp h).1
theorem zbC(st:Sto)(o:O):(st++[o])[st.length]?=some o:=getElem?_len st o
theorem zc5{W:Wk}{g:MG}{m:MS}:∀ {ds:List D} {Inv:Nat->Rho->Sto->Prop} {ρ:Rho} {st:Sto},Inv 0 ρ st->(∀ k ρ s,k<=ds.length->Inv k ρ s->walked W s=true) ->
   (∀ k d ρ s,ds[k]?=some d->Inv k ρ s->∃ ρ1 s1 ρ2 s2,g d ρ s=some (ρ1,s1)/\m ρ1 s1=some (.nx ρ2,s2)/\Inv (k+1) ρ2 s2)->∃ ρ' s',zgv W g m ds ρ st=some (.nx ρ',s')/\Inv ds.length ρ' s'
 | [],Inv,ρ,st,h0,wk,step=>⟨ρ,st,by unfold zgv;rw[if_pos (wk 0 ρ st (Ae _) h0)],h0⟩
 | d::ds,Inv,ρ,st,h0,wk,step=>by
   obtain⟨ρ1,s1,ρ2,s2,e1,e2,h1⟩:=step 0 d ρ st rfl h0;obtain⟨ρ',s',e,h⟩:=zc5 (W:=W) (g:=g) (m:=m) (ds:=ds) (Inv:=fun k=>Inv (k+1)) h1 (fun k ρ s hk h=>wk (k+1) ρ s (Ce hk) h) (fun k d ρ s hd h=>step (k+1) d ρ s (by simpa using hd) h);refine⟨ρ',s',?_,h⟩;unfold zgv;rw[if_pos (wk 0 ρ st (A4 _) h0),e1];simp only[Ab,e2];exact e
theorem zlr{W:Wk}{g:MG}{c:MT}{m:ME}:∀ {ds:List D} {Inv:Nat->List D->Rho->Sto->Prop} {acc:List D} {ρ:Rho} {st:Sto},Inv 0 acc ρ st->(∀ k a ρ s,k<=ds.length->Inv k a ρ s->walked W s=true) ->
   (∀ k d a ρ s,ds[k]?=some d->Inv k a ρ s->∃ ρ1 s1 b s2,g d ρ s=some (ρ1,s1)/\c ρ1 s1=some (b,s2)/\((b=true/\∃ x s3,m ρ1 s2=some (x,s3)/\Inv (k+1) (a++[x]) ρ1 s3)\/(b=false/\Inv (k+1) a ρ1 s2))) ->
   ∃ xs ρ' s',mCI W g c m ds ρ st=some (xs,s')/\Inv ds.length (acc++xs) ρ' s'
 | [],Inv,acc,ρ,st,h0,wk,step=>⟨[],ρ,st,by unfold mCI;rw[if_pos (wk 0 acc ρ st (Ae _) h0)],by rw[Ao];exact h0⟩
 | d::ds,Inv,acc,ρ,st,h0,wk,step=>by
   obtain⟨ρ1,s1,b,s2,e1,e2,h1⟩:=step 0 d acc ρ st rfl h0;have wk':∀ k a ρ s,k<=ds.length->Inv (k+1) a ρ s->walked W s=true:=fun k a ρ s hk h=>wk (k+1) a ρ s (Ce hk) h;have st':∀ k d a ρ s,ds[k]?=some d->Inv (k+1) a ρ s->∃ ρ1 s1 b s2,g d ρ s=some (ρ1,s1)/\c ρ1 s1=some (b,s2)/\((b=true/\∃ x s3,m ρ1 s2=some (x,s3)/\Inv (k+1+1) (a++[x]) ρ1 s3)\/(b=false/\Inv (k+1+1) a ρ1 s2)):=fun k d a ρ s hd h=>step (k+1) d a ρ s (by simpa using hd) h
   rcases h1 with ⟨rfl,x,s3,e3,h1⟩ | ⟨rfl,h1⟩
   . obtain⟨xs,ρ',s',e,h⟩:=zlr (W:=W) (g:=g) (c:=c) (m:=m) (ds:=ds) (Inv:=fun k=>Inv (k+1)) h1 wk' st';refine⟨x::xs,ρ',s',?_,by simpa using h⟩;unfold mCI;rw[if_pos (wk 0 acc ρ st (A4 _) h0),e1];simp only[Ab,e2,if_true,e3,e,Ak]
   . obtain⟨xs,ρ',s',e,h⟩:=zlr (W:=W) (g:=g) (c:=c) (m:=m) (ds:=ds) (Inv:=fun k=>Inv (k+1)) h1 wk' st';refine⟨xs,ρ',s',?_,h⟩;unfold mCI;rw[if_pos (wk 0 acc ρ st (A4 _) h0),e1];simp only[Ab,e2,Bf,if_false,e]
theorem zjl{W:Wk}{g:MG}{c:MT}{m:ME}{α:Type}{f h:α->D}{R:Rho->Prop}:∀ {as:List α} {ρ:Rho} {st:Sto},R ρ->walked W st=true->(∀ a∈as,∀ ρ,R ρ->∃ ρ1,g (f a) ρ st=some (ρ1,st)/\c ρ1 st=some (true,st)/\m ρ1 st=some (h a,st)/\R ρ1) ->
   mCI W g c m (as.map f) ρ st=some (as.map h,st)
 | [],ρ,st,r,wk,_=>by unfold mCI;rw[BQ];simp only[wk,if_true,BQ]
 | a::as,ρ,st,r,wk,hs=>by
   obtain⟨ρ1,e1,e2,e3,r1⟩:=hs a Am ρ r;have e:=zjl (W:=W) (g:=g) (c:=c) (m:=m) (f:=f) (h:=h) (R:=R) (as:=as) r1 wk fun b hb=>hs b (Ah _ hb);rw[Aq];unfold mCI;rw[if_pos wk,e1];simp only[Ab,e2,if_true,e3,e,Ak,Aq]
theorem zdS{ds xs:List D}{n:Nat}{s:Sto}(h:s[n]?=some (.lst xs)):walked ⟨ds,[(n,xs)]⟩ s=true:=by
 unfold walked;simp only[List.all_cons,List.all_nil,Bool.and_true];exact zh5 h
theorem zaz{n:Nat}(h:n<=10000):fits n=true:=by
 unfold fits;exact decide_eq_true (AI h (by decide))
end L2.MP
namespace L2.MP
@[simp] theorem zcj{α:Type}(x:α)(y:Option α):orO (some x) y=some x:=rfl
@[simp] theorem zcn{α:Type}(y:Option α):orO none y=y:=rfl
end L2.MP
namespace L2.MP.Hn
open PySem L2.MP
end L2.MP.Hn
namespace L2.MP
open PySem
section
variable {ρ ρ1:Rho} {st s1:Sto} {m n ma mb:ME} {mm:MA} {ms mq:MS} {mt mu:MT} {g:G2} {gn:GN} {d:D} {i j:Nat} {ds:List D} {mg:MG} {mgs:MGs} {ml mh:MO}
@[simp] theorem zaP:mVar i ρ st=match ρ[i]? with
 | some (some d)=>some (d,st)
 | _=>none:=rfl
@[simp] theorem za0:mCon d ρ st=some (d,st):=rfl
@[simp] theorem za1:mBin g ma mb ρ st=(ma ρ st).bind fun p=>(mb ρ p.2).bind fun q=>g p.1 q.1 q.2:=rfl
@[simp] theorem zaX:mTst m ρ st=(m ρ st).bind fun p=>match p.1 with
 | .bl b=>some (b,p.2)
 | _=>none:=rfl
@[simp] theorem zaF:zd6 mt ρ st=(mt ρ st).map fun p=>(!p.1,p.2):=rfl
@[simp] theorem zaN:zom mt mu ρ st=(mt ρ st).bind fun p=>if p.1=true then mu ρ p.2 else some (false,p.2):=rfl
@[simp] theorem zbb:mOrT mt mu ρ st=(mt ρ st).bind fun p=>if p.1=true then some (true,p.2) else mu ρ p.2:=rfl
@[simp] theorem zaA:ziz m n ρ st=(mTst m ρ st).bind fun p=>if p.1=true then n ρ p.2 else some (.bl false,p.2):=rfl
@[simp] theorem zaL:znd m ρ st=(mTst m ρ st).map fun p=>(.bl !p.1,p.2):=rfl
@[simp] theorem zaJ:zar gn mm ρ st=(mm ρ st).bind fun p=>gn p.1 p.2:=rfl
@[simp] theorem zaG:zad m mm ρ st=(m ρ st).bind fun p=>(mm ρ p.2).bind fun q=>some (p.1::q.1,q.2):=rfl
@[simp] theorem zbf:mNil ρ st=some ([],st):=rfl
@[simp] theorem zbl:mTup mm ρ st=(mm ρ st).bind fun p=>if fits p.1.length=true then some (.tup p.1,p.2) else none:=rfl
@[simp] theorem zbg:mLst mm ρ st=(mm ρ st).bind fun p=>if fits p.1.length=true then some (.ref p.2.length,p.2++[.lst p.1]) else none:=rfl
@[simp] theorem za3:mRet m ρ st=(m ρ st).map fun p=>(.rt p.1,p.2):=rfl
@[simp] theorem zbq:mExp m ρ st=(m ρ st).map fun p=>(.nx ρ,p.2):=rfl
@[simp] theorem za2:mAsg m mg ρ st=(m ρ st).bind fun p=>(mg p.1 ρ p.2).map fun q=>(.nx q.1,q.2):=rfl
@[simp] theorem zcS:gNm i d ρ st=some (ρ.set i (some d),st):=rfl
@[simp] theorem zaE:ze9 ρ st=some (.nx ρ,st):=rfl
@[simp] theorem zbo:mNeg m ρ st=(m ρ st).bind fun p=>negD p.1 p.2:=rfl
@[simp] theorem zcs:mIf mt ms mq ρ st=(mt ρ st).bind fun p=>if p.1=true then ms ρ p.2 else mq ρ p.2:=rfl
@[simp] theorem zbe:putA ma mb m ρ st=orO (mAsg m (gSb setD ma mb) ρ st) (zng ma mb m ρ st):=rfl
@[simp] theorem zcB{g3:G3}:gSb g3 ma mb d ρ st=(ma ρ st).bind fun p=>(mb ρ p.2).bind fun q=>(g3 p.1 q.1 d q.2).map fun s=>(ρ,s):=rfl
@[simp] theorem zcP:gTp i mgs d ρ st=match d with
 | .tup ds=>if ds.length=i then mgs ds ρ st else none
 | _=>none:=rfl
@[simp] theorem zbp:gN0 [] ρ st=some (ρ,st):=rfl
@[simp] theorem zcT:gC mg mgs (d::ds) ρ st=(mg d ρ st).bind fun p=>mgs ds p.1 p.2:=rfl
theorem ap_w:mW m ρ st=(m ρ st).bind fun p=>zjZ p.1 p.2:=rfl
@[simp] theorem zcx:mR1 m ρ st=(m ρ st).bind fun p=>match p.1 with
 | .int j=>if small j=true then some (⟨run 0 j.toNat,[]⟩,p.2) else none
 | _=>none:=rfl
@[simp] theorem zaK:zc4 ρ st=some (true,st):=rfl
theorem zaI{mi:MI}{k:Nat}{fr:List Nat}:zdI mi k fr mg mt m ρ st=(mi ρ st).bind fun p=>(mCI p.1 mg mt m p.1.ds (rho0 ρ k fr) p.2).bind fun q=>if fits q.1.length=true then some (.ref q.2.length,q.2++[.lst q.1]) else none:=rfl
@[simp] theorem zaZ{mi:MI}:mFor mi mg ms ρ st=(mi ρ st).bind fun p=>zgv p.1 mg ms p.1.ds ρ p.2:=rfl
theorem zbm:mSlA m ml mh ρ st=(m ρ st).bind fun p=>(ml ρ p.2).bind fun q=>(mh ρ q.2).bind fun r=>slA p.1 q.1 r.1 r.2:=rfl
@[simp] theorem zcR:zhM ρ st=some (none,st):=rfl
@[simp] theorem zcQ:zhL m ρ st=(m ρ st).bind fun p=>match p.1 with
 | .int i=>some (some i,p.2)
 | _=>none:=rfl
@[simp] theorem zbc{T:String}:mIsi T m ρ st=(m ρ st).bind fun p=>(tyName p.2 p.1).map fun t=>(.bl (subT t T),p.2):=rfl
theorem zaM:znf m mm ρ st=(m ρ st).bind fun p=>match p.1 with
 | .str _=>(mm ρ p.2).bind fun q=>zlp p.1 q.1 q.2
 | _=>none:=rfl
@[simp] theorem zbr:mApp m mm ρ st=(m ρ st).bind fun p=>match p.1 with
 | .ref n=>(zcc p.2 n).bind fun _=>(mm ρ p.2).bind fun q=>zcA p.1 q.1 q.2
 | _=>none:=rfl
@[simp] theorem zbn:mPar i j mm ρ st=(mm ρ st).bind fun p=>match p.1 with
 | [x,y]=>some (.nx ((ρ.set i (some x)).set j (some y)),p.2)
 | _=>none:=rfl
theorem zas{r:Option (Fl×Sto)}(h:ms ρ st=some (.nx ρ1,s1))(k:mq ρ1 s1=r):mSeq ms mq ρ st=r:=by
 unfold mSeq;rw[h];exact k
theorem zlP{s:Sto}(h:ms ρ st=some (.rt d,s)):mSeq ms mq ρ st=some (.rt d,s):=by
 unfold mSeq;rw[h];rfl
theorem zdc{N:Nat}{s:Sto}(h:ms (rho N ds) st=some (.rt d,s)):fnM N ms ds st=some (d,s):=by
 unfold fnM;rw[h];rfl
theorem zcf{k:Nat}(h:k<=10000:=by decide):fits k=true:=zaz h
@[simp] theorem zcM:fits 0=true:=zcf
@[simp] theorem zcL:fits 1=true:=zcf
@[simp] theorem zcK:fits 2=true:=zcf
@[simp] theorem zcJ:fits 3=true:=zcf
@[simp] theorem zcI:fits 4=true:=zcf
@[simp] theorem zcH:fits 5=true:=zcf
@[simp] theorem zcG:fits 6=true:=zcf
@[simp] theorem zcF:fits 7=true:=zcf
@[simp] theorem zcE:fits 8=true:=zcf
theorem zdM{k:Int}(h0:0<=k)(h1:k<=1000000):small k=true:=by
 unfold small;simp;omega
theorem ze0{n:Nat}{ds:List D}{k:Int}{x:D}(h:st[n]?=some (.lst ds))(h0:0<=k)(hx:ds[k.toNat]?=some x):ixA (.ref n) (.int k) st=some (x,st):=by
 have hl:=getElem?_lt hx;have h1:k < ds.length:=by omega
 simp[ixA,orG,idxD,zcc,h,atI,ixN,h0,h1,zcj];exact (List.getElem?_eq_some_iff.mp hx).2
theorem zcr{ds:List D}{k:Int}{x:D}(h0:0<=k)(hx:ds[k.toNat]?=some x):ixA (.tup ds) (.int k) st=some (x,st):=by
 have hl:=getElem?_lt hx;have h1:k < ds.length:=by omega
 simp[ixA,orG,idxD,atI,ixN,h0,h1,zcj];exact (List.getElem?_eq_some_iff.mp hx).2
theorem zf4{z:Str}{k:Int}{c:Nat}(hz:z.length<=10000)(h0:0<=k)(hx:z.cps[k.toNat]?=some c):ixA (.str z) (.int k) st=some (.str ⟨#[c]⟩,st):=by
 have hl:k.toNat < z.cps.size:=(Array.getElem?_eq_some_iff.mp hx).1;have h1:k < z.cps.size:=by omega
 have hf:fits z.length=true:=zaz hz;simp[ixA,orG,idxD,atI,ixN,h0,h1,zcj,hf];exact (Array.getElem?_eq_some_iff.mp hx).2
theorem zmB{n:Nat}(h:st[n]?=some (.lst ds)):lenD [.ref n] st=some (.int ds.length,st):=by simp[lenD,zcc,h]
theorem zgw:lenD [.tup ds] st=some (.int ds.length,st):=rfl
theorem zdK{n:Nat}(h:st[n]?=some (.lst ds)):zcZ [.ref n] st=some (.tup ds,st):=by simp[zcZ,zcc,h]
@[simp] theorem add_int(a b:Int):addD (.int a) (.int b) st=some (.int (a+b),st):=rfl
@[simp] theorem sub_int(a b:Int):subD (.int a) (.int b) st=some (.int (a - b),st):=rfl
theorem mul_int{a b:Int}(h:-1000000<=a/\a<=1000000):mulA (.int a) (.int b) st=some (.int (a*b),st):=by
 have:in64 a=true:=by unfold in64;simp;omega
 simp[mulA,orG,mulD,intD,this,zcj]
theorem zm5{a b:List D}(ha:a≠[])(h:a.length+b.length<=10000):addD (.tup a) (.tup b) st=some (.tup (a++b),st):=by
 have:fits (a.length+b.length)=true:=zaz h
 cases a with
 | nil=>exact absurd rfl ha
 | cons x a=>simp[addD,this] at *
theorem ziu{a b:Nat}{x y:List D}(ha:st[a]?=some (.lst x))(hb:st[b]?=some (.lst y))(h:x.length+y.length<=10000):addD (.ref a) (.ref b) st=some (.ref st.length,st++[.lst (x++y)]):=by
 have:fits (x.length+y.length)=true:=zaz h;simp[addD,ha,hb,this]
theorem add_str{a b:Str}(h:a.length+b.length<=10000):addD (.str a) (.str b) st=some (.str (a++b),st):=by
 have:fits (a.length+b.length)=true:=zaz h;simp[addD,this]
theorem append_at{n:Nat}{x:D}(h:st[n]?=some (.lst ds))(hl:ds.length<=10000):zcA (.ref n) [x] st=some (.non,st.set n (.lst (ds++[x]))):=by
 have:ds.length < sizeLine:=B1 hl (by decide);simp[zcA,h,this]
end
end L2.MP
set_option linter.unusedSimpArgs false
namespace L2.MP.Hn
open PySem L2.MP
end L2.MP.Hn
namespace L2.MP
open PySem PySem.Builtin PySem.Builtin.Str
theorem join_nil:∀ cs:List Nat,(Str.join ("":Str) (cs.map fun c=>⟨#[c]⟩)).cps.toList=cs
 | []=>rfl
 | [c]=>rfl
 | c::d::cs=>by
   have ih:=join_nil (d::cs);show ((⟨#[c]⟩++("":Str)++Str.join ("":Str) ((d::cs).map fun c=>⟨#[c]⟩):Str)).cps.toList=_;have e:∀ a b:Str,(a++b).cps.toList=a.cps.toList++b.cps.toList:=fun a b=>by
     show (a.cps++b.cps).toList=_;simp
   rw[e,e,ih];rfl
theorem app_list(a b:Str):(a++b).cps.toList=a.cps.toList++b.cps.toList:=by
 show (a.cps++b.cps).toList=_;simp
theorem len_list(a:Str):a.length=a.cps.toList.length:=rfl
end L2.MP
namespace L2.MP
open PySem
theorem zge{f:D->Option PyData}(hf:∀ x:Str,AJ x=true->f (.str x)=some (.str x)):∀ {ss:List Str},(∀ x∈ss,AJ x=true)->toPs f (ss.map D.str)=some (ss.map Cz)
 | [],_=>rfl
 | x::ss,h=>by
   rw[Aq,toPs,hf x (h x Am),Ab,zge hf fun y hy=>h y (Ah _ hy)];rfl
theorem zeh{n:Nat}{st:Sto}{x:Str}(h:AJ x=true):toP (n+1) st (.str x)=some (.str x):=by
 rw[toP];simp[h]
theorem zfS{n:Nat}{st:Sto}{k:Nat}{ss:List Str}(hk:st[k]?=some (.lst (ss.map D.str)))(h:∀ x∈ss,AJ x=true):toP (n+2) st (.ref k)=some (.list (ss.map Cz)):=by
 rw[toP];simp only[zcc,hk,Ab];rw[zge (fun x hx=>zeh hx) h];rfl
theorem zjX(x:Str):∀ ss:List Str,(ss.map Cz).any (fun y=>AU y (.str x))=decide (x∈ss)
 | []=>rfl
 | y::ss=>by
   rw[Aq,BK,zjX x ss];have:AU (.str y) (.str x)=(y==x):=by simp[AU]
   rw[this]
   by_cases hyx:y=x
   . simp[hyx]
   . simp[hyx,A9 hyx]
theorem eq_int(a b:Int)(st:Sto):eqD (.int a) (.int b) st=some (.bl (a==b),st):=by
 unfold eqD;rw[toP,toP];simp[AU]
end L2.MP
namespace L2.MP.Hn
open PySem L2.MP
theorem zel:∀ cs:List Nat,((cs.map fun c=>(⟨#[c]⟩:Str)).map (·.length)).sum=cs.length
 | []=>rfl
 | c::cs=>by
   have ih:=zel cs;simp only[Aq,List.sum_cons,Bo];rw[ih];show 1+_=_;omega
theorem joined{cs:List Nat}{st:Sto}{l:Nat}(hl:st[l]?=some (.lst (cs.map fun c=>.str ⟨#[c]⟩)))(hc:cs.length<=1000):∃ z:Str,zlp (.str "") [.ref l] st=some (.str z,st)/\z.cps.toList=cs:=by
 refine⟨Txt.join "" (cs.map fun c=>⟨#[c]⟩),?_,?_⟩
 . have e:cs.map (fun c=>D.str ⟨#[c]⟩)=(cs.map fun c=>(⟨#[c]⟩:Str)).map D.str:=by simp
   unfold zlp;simp only[zcc,hl,Ab];rw[e,zfc];simp only[Ab];rw[if_pos];apply decide_eq_true;have h0:(("":Str)).length=0:=by decide
   rw[h0,Nat.mul_zero,Nat.add_zero];rw[zel];omega
 . show (Builtin.Str.glued "" _).cps.toList=cs;rw[StrLaws.glued_eq_join];exact join_nil cs
end L2.MP.Hn
namespace L2.MP
open PySem
noncomputable def zb7(k:List Str):D:=.tup (k.map D.str)
end L2.MP
namespace L2.MP.Hn
open PySem L2.MP
end L2.MP.Hn
namespace L2.MP
open PySem
end L2.MP
namespace L2.MP.Hn
open PySem L2.MP
noncomputable def plain:Nat->D->Prop
 | 0,_=>False
 | _+1,.non=>True
 | _+1,.bl _=>True
 | _+1,.int _=>True
 | _+1,.str x=>AJ x=true
 | n+1,.tup ds=>ds.length<=10000/\∀ d∈ds,plain n d
 | _+1,.ref _=>False
 | _+1,.kl _=>False
theorem zhA:∀ {n m:Nat} {d:D},plain n d->n<=m->plain m d
 | 0,_,_,h,_=>h.elim
 | n+1,0,_,_,hm=>absurd hm (by omega)
 | n+1,m+1,.non,_,_=>trivial
 | n+1,m+1,.bl _,_,_=>trivial
 | n+1,m+1,.int _,_,_=>trivial
 | n+1,m+1,.str _,h,_=>h
 | n+1,m+1,.tup ds,h,hm=>⟨h.1,fun d hd=>zhA (h.2 d hd) (by omega)⟩
 | n+1,m+1,.ref _,h,_=>h
 | n+1,m+1,.kl _,h,_=>h
theorem zdL{f:D->Option PyData}:∀ {ds:List D},(∀ d∈ds,∃ p,f d=some p/\AU p p=true)->∃ ps,toPs f ds=some ps/\Ci ps ps=true
 | [],_=>⟨[],rfl,by simp[Ci]⟩
 | d::ds,h=>by
   obtain⟨p,e,q⟩:=h d Am;obtain⟨ps,es,qs⟩:=zdL fun x hx=>h x (Ah _ hx);refine⟨p::ps,?_,?_⟩
   . rw[toPs,e,Ab,es];rfl
   . rw[Ci,q,qs];rfl
theorem zgq:∀ {n:Nat} {d:D} {st:Sto},plain n d->∃ p,toP n st d=some p/\AU p p=true
 | 0,_,_,h=>h.elim
 | n+1,.non,st,_=>⟨.none,by rw[toP],by simp[AU]⟩
 | n+1,.bl b,st,_=>⟨.bool b,by rw[toP],by simp[AU]⟩
 | n+1,.int i,st,_=>⟨.int i,by rw[toP],by simp[AU]⟩
 | n+1,.str x,st,h=>⟨.str x,zeh h,by simp[AU]⟩
 | n+1,.tup ds,st,h=>by
   obtain⟨ps,e,q⟩:=zdL (f:=toP n st) fun d hd=>zgq (st:=st) (h.2 d hd);refine⟨.tuple ps,?_,?_⟩
   . rw[toP,e];rfl
   . rw[AU];exact q
 | n+1,.ref _,_,h=>h.elim
 | n+1,.kl _,_,h=>h.elim
theorem zjC{n:Nat}{d:D}{st:Sto}(h:plain n d)(hn:n<=100):neD d d st=some (.bl false,st):=by
 obtain⟨p,e,q⟩:=zgq (st:=st) (zhA h hn);unfold neD;rw[e];simp[q]
end L2.MP.Hn
namespace L2.MP
open PySem PySem.Spec PyProof.Rows
end L2.MP
namespace L2.MP
open PySem
end L2.MP
namespace L2.MP.Hn
open PySem L2.MP
end L2.MP.Hn
namespace L2.MP
open PySem PySem.Spec PyProof.Rows
section
theorem zia(x:Sr)(o:Obj)(xs:Array Value):Meets (Builtin.«enumerate.__new__» ⟨[.type "enumerate",.ref x.ad],[]⟩) (fun _ R s=>s.heap.get? x.ad=some o/\x.is s.heap xs /\
     R (.ok (.ret (.ref (s.heap.push x.ob).objs.size))) { s with heap:=(s.heap.push x.ob).push { cls:=.type "enumerate",data:=.fields #[.none,.bool false,.ref s.heap.objs.size,rawInt 0,.none,.none] } }) :=
 .of_wp fun prog w A R s h=>by
   obtain⟨hp,g,d,tk,os⟩:=s;obtain⟨h1,h2,h⟩:=h;have hsub:=sub_enumerate;have hx:x.is (Shared.heap ⟨hp,g,d,tk,os⟩) xs:=h2
   wp_walk using BU h1
   refine wpAny_stack_any fun sk=>Ad ?_
   split
   . rename_i c _ _ _ _ _
     cases (c==BY "enumerate")
     . wp_walk using BU h1,Sr.iter hx
       exact⟨_,rfl,h⟩
     . wp_walk using BU h1,Sr.iter hx
       exact⟨_,rfl,h⟩
   . wp_walk using BU h1,Sr.iter hx
     exact⟨_,rfl,h⟩
end
section
variable {prog:Program} {w:World} {A:Around} {E:Value->Shared->Prop} {s:Shared}
theorem Sr.is_get{h:Heap}{xs:Array Value}{x:Sr}(q:x.is h xs):∃ o,h.get? x.ad=some o:=by
 cases x with
 | l a=>obtain⟨o,g,_⟩:=q;exact⟨o,g⟩
 | t a=>obtain⟨o,g,_⟩:=q;exact⟨o,g⟩
theorem zim{x:Sr}{xs:Array Value}{R:Value->Shared->Prop}(hx:x.is s.heap xs)(k:∀ h',IsEnum h' (s.heap.objs.size+1) s.heap.objs.size 0 .none->x.at_ h' s.heap.objs.size 0->(∀ c u,s.heap.get? c=some u->h'.get? c=some u)->R (.ref (s.heap.objs.size+1)) { s with heap:=h' }) :
   wpAny (model prog w) A (call (.type "enumerate") [.ref x.ad]) R E s:=by
 obtain⟨o,g⟩:=Sr.is_get hx;refine callType_new F.called_enumerate (by decide) (F.typeCall_enumerate_1 _) (F.newCall_enumerate_1 _) (fun obj=>F.args_object_init_2 obj _) F.entry_enumerate_new (zia x o xs) ⟨g,hx,?_⟩;have z1:(s.heap.push x.ob).objs.size=s.heap.objs.size+1:=Bq ..;have f2:((s.heap.push x.ob).push { cls:=.type "enumerate",data:=.fields #[.none,.bool false,.ref s.heap.objs.size,rawInt 0,.none,.none] }).get? (s.heap.push x.ob).objs.size=some { cls:=.type "enumerate",data:=.fields #[.none,.bool false,.ref s.heap.objs.size,rawInt 0,.none,.none] }:=Av _ rfl;have f1:((s.heap.push x.ob).push { cls:=.type "enumerate",data:=.fields #[.none,.bool false,.ref s.heap.objs.size,rawInt 0,.none,.none] }).get? s.heap.objs.size=some x.ob:=Ag _ (Av _ (by cases x <;> rfl));show _/\_;rw[z1] at f2 ⊢;exact⟨⟨_,f2,rfl⟩,k _ f2 (Sr.at_new f1) fun c u q=>Ag _ (Ag _ q)⟩
end
theorem Sr.draws{prog:Program}{w:World}{A:Around}(hh:A.handled=none)(it:Addr)(x:Sr)(hne:x.ad≠it)(items:Array Value):Draws prog w A it [it,x.ad] items.size (fun i v=>items[i]?=some v) (fun i h=>x.at_ h it i/\x.is h items) where
 live:=fun _ _ q=>let ⟨o,_,g,_⟩:=Sr.at_get q.1;⟨o,g⟩
 frame:=fun _ _ _ q k=>⟨Sr.at_keep q.1 fun o e=>k it (by simp) o e,Sr.is_keep q.2 fun o e=>k x.ad (by simp) o e⟩
 item:=fun i s Q E hi q k=>by
   refine Sr.next q.1 q.2 (v:=items[i]) (by simp[hi]) fun h' a b=>?_;exact k _ h' s.toks (by simp[hi]) ⟨a,Sr.is_keep q.2 fun o e=>b.extBut _ _ hne e⟩ b
 done:=fun s Q E q k=>Sr.stop hh q.1 q.2 (by simp) k
theorem Sr.drawsEnd{prog:Program}{w:World}{A:Around}(hh:A.handled=none)(it:Addr)(x:Sr)(items:Array Value)(n:Nat)(hn:items[n]?=none):Draws prog w A it [it,x.ad] n (fun _ _=>True) (fun j h=>j=n/\x.at_ h it n/\x.is h items) where
 live:=fun _ _ q=>let ⟨o,_,g,_⟩:=Sr.at_get q.2.1;⟨o,g⟩
 frame:=fun _ _ _ q k=>⟨q.1,Sr.at_keep q.2.1 fun o e=>k it (by simp) o e,Sr.is_keep q.2.2 fun o e=>k x.ad (by simp) o e⟩
 item:=fun i s Q E hi q k=>absurd q.1 (AB hi)
 done:=fun s Q E q k=>Sr.stop hh q.2.1 q.2.2 hn k
noncomputable def Itn(x:Sr):It :=
 ⟨fun i H=>∃ xs v,x.sq H xs/\xs[i]?=some v,fun i H r H'=>∃ p v,H p=none/\H'=upd H p (.tup [.int (i:Nat),v])/\r=.ref p/\∀ xs,x.sq H xs->xs[i]?=some v,fun i H=>∃ xs,x.sq H xs/\xs.length<=i⟩
theorem zhh{P:Program}{w:World}{K:Ac}{elts:List Expr}{x1}{pos:Pos}(x:Sr)(it e:Addr)(hne:e≠it) :
   Turn P w K (.Tuple elts x1 pos) (Itn x) [e,it] e (fun i h=>(∃ old,IsEnum h e it (i:Nat) old)/\x.at_ h it i) where
 mem:=by simp
 obj:=fun i h st b hb=>by
   obtain⟨⟨old,he⟩,hi⟩:=st
   rcases List.mem_cons.mp hb with rfl | hb
   . exact⟨_,he,fun v z=>by cases z⟩
   . rw[List.mem_singleton.mp hb];obtain⟨o,vs,g,d⟩:=Sr.at_get hi;exact⟨o,g,fun v z=>by rw[d] at z;cases z⟩
 keep:=fun i h h' st k=>by
   obtain⟨⟨old,he⟩,hi⟩:=st;exact⟨⟨old,k e (by simp) _ he⟩,Sr.at_keep hi fun o q=>k it (by simp) o q⟩
 item := by
   intro X hP hw hK hc i pins s σ H E I hf st hg;subst hP hw hK;obtain⟨xs,v,hx,hv⟩:=hg;obtain⟨⟨old,he⟩,hi⟩:=st;obtain⟨its,rx,ix⟩:=Sr.sq_is I hx;obtain⟨v',gv,rv⟩:=rx.get hv;have fit:=(hf it (by simp)).1;have fe:=(hf e (by simp)).1;have hlt:i < its.toArray.size:=by have:=(List.getElem?_eq_some_iff.mp gv).1;simpa using this
   refine DG (Sr.draws (A:=X.A.in1) (I.ok.hd hc) it x (Sr.sq_ne hx fit) its.toArray) he ⟨hi,ix⟩ hlt hne (by
     simp only[Bb,Ba,or_false,not_or];exact⟨hne,fun z=>Sr.sq_ne hx fe z.symm⟩) fun y h1 tk hy he1 st1 t1 z1 k1=>?_
   have ey:y=v':=by
     have:its[i]?=some y:=by simpa using hy
     rw[gv] at this;exact (Az this).symm
   subst ey;refine⟨_,rfl,Dk (s:={ s with heap:=h1,toks:=tk+1 }) he1 fun h2 he2 hb2=>?_⟩;have k2:∀ b o,b ∉ [e,it]->s.heap.get? b=some o->h2.get? b=some o:=fun b o hb q=>by
     have n1:b≠e:=fun z=>hb (by simp[z]);have n2:b≠it:=fun z=>hb (by simp[z]);exact (hb2.2 b n1).trans (k1 b o n1 n2 q)
   have hsz:e≠s.heap.objs.size:=AB (An he);have t2:h2.get? s.heap.objs.size=some { cls:=.type "tuple",data:=.seq #[.int i tk,y] }:=(hb2.2 _ hsz.symm).trans t1;have hi2:x.at_ h2 it (i+1):=Sr.at_keep st1.1 fun o q=>(hb2.2 it hne.symm).trans q;refine⟨.ref s.heap.objs.size,upd H s.heap.objs.size (.tup [.int (i:Nat),v]),?_,rfl,⟨_,v,I.hok.fresh (Ae _),rfl,rfl,fun ys hy=>by rw[Sr.sq_inj hy hx];exact hv⟩,⟨⟨_,by exact_mod_cast he2⟩,hi2⟩,fun b hb=>?_⟩
   . exact Inv.turnNew (s:=s) (h':=h2) (t':=tk+1) I hf k2 (Ae _) (fun b hb ob q=>by
       rcases List.mem_cons.mp hb with rfl | hb
       . exact⟨_,he2⟩
       . rw[List.mem_singleton.mp hb];obtain⟨o,vs,g,d⟩:=Sr.at_get hi2;exact⟨o,g⟩) ⟨by show 2<=sizeLine;decide,[.int i tk,y],.cons ⟨_,rfl⟩ (.cons rv .nil),⟨_,t2,rfl,rfl,_,rfl⟩⟩
   . rw[zaO (fun z=>?_)]
     . exact (hf b hb).1
     . rcases List.mem_cons.mp hb with q | hb
       . exact hsz (q.symm.trans z)
       . have q:=List.mem_singleton.mp hb;obtain⟨o,vs,g,d⟩:=Sr.at_get hi;exact (AB (An g)) (q.symm.trans z)
 done:=by
   intro X hP hw hK hc i pins s σ H E I hf st hg;subst hP hw hK;obtain⟨xs,hx,hl⟩:=hg;obtain⟨⟨old,he⟩,hi⟩:=st;obtain⟨its,rx,ix⟩:=Sr.sq_is I hx;have l1:=rx.length;exact DW (Sr.drawsEnd (A:=X.A.in1) (I.ok.hd hc) it x its.toArray i (by simp;omega)) he ⟨rfl,hi,ix⟩ fun h' eb=>⟨rfl,Inv.turnAll (t':=s.toks) I hf fun b o hb q=>eb b o (fun z=>hb (by simp[z])) q⟩
 self:=fun _ _ _ _ _ st h=>by
   obtain⟨⟨old,he⟩,_⟩:=st;exact CC he h
section
variable {X:Cx} {K:Ac} {H:Hp} {io:List Addr} {m:ME} {st st':Sto}
noncomputable def zoI(x:D)(s:Sto):Option (Wk×Sto):=(seqD s x).map fun (a,f)=>(⟨pairs a,f⟩,s)
noncomputable def zjF(m:ME):MI:=fun ρ st=>(m ρ st).bind fun (x,s1)=>zoI x s1
theorem zhs{elts:List Expr}{x1}{tp:Pos}{a:Expr}{p pos:Pos}(hg:Gl X "enumerate")(hm:X.mg "enumerate"=none)(ha:SE X a m)(hs:starEach [a] X.env=[(false,eval a X.env)]:=by rfl) :
   SI X (.Tuple elts x1 tp) (.Call (.Name "enumerate" p) [a] [] pos) (zjF m):=by
 rintro pins s σ H R I ⟨ρ,st,io,W,st',E,S,e,k⟩;obtain⟨⟨x,s1⟩,e1,e⟩:=zac e;obtain⟨⟨as,f⟩,e3,e⟩:=zai e;cases e;refine Call_ (zgX I hg hm boot_enumerate (BD (thn (zaa ha zaf hs pos pins s σ H (fun vs H'=>∃ ka,Ext io ka H H'/\StR X.K H' (io++ka) st'/\Reps X.K H' (io++ka) vs [x]) I ⟨ρ,st,io,[x],st',E,S,zf2 e1 rfl,fun vs H1 k1 X1 S1 R1=>⟨k1,X1,S1,R1⟩⟩) ?_) hs rfl));rintro us t1 ⟨vs,H1,I1,r1,k1,X1,S1,R1⟩;obtain⟨v,rfl,Rx⟩:=R1.one;obtain⟨v',rfl,rv⟩:=r1.one;obtain⟨xx,rfl,⟨xs,hx⟩,kx⟩:=zlO S1 Rx e3;cases rv;obtain⟨its,vx,ix⟩:=Sr.sq_is I1 hx;refine zim ix fun h' he hi kk=>CC he ?_;refine⟨_,_,_,_,H1,rfl,I1.kept (t':=t1.toks) kk,zhh xx t1.heap.objs.size (t1.heap.objs.size+1) (EM _),⟨⟨_,he⟩,hi⟩,fun b hb=>?_,?_⟩
 . have hle:t1.heap.objs.size<=b:=by
     rcases List.mem_cons.mp hb with q | hb
     . rw[q];exact Ck _
     . rw[List.mem_singleton.mp hb];exact Ae _
   exact I1.fpOk hle (I1.hok.fresh hle)
 . refine k _ H1 k1 X1 S1 ?_;refine⟨fun i d H2 k2 s3 hd X2 S2 hs=>?_,fun H2 k2 s3 X2 S2 hs=>?_,fun H2 k2 s3 i hi X2 S2 hs=>?_⟩
   . obtain⟨xs2,qx,rx⟩:=kx H2 k2 s3 X2 S2 hs;obtain⟨dx,g1,rfl⟩:=zcw hd;obtain⟨u1,gu,ru⟩:=rx.get g1;refine⟨⟨xs2,u1,qx,gu⟩,fun r H' yl=>?_⟩;obtain⟨q,u2,hq,rfl,rfl,yu⟩:=yl;have e5:=yu xs2 qx;rw[gu] at e5;cases e5;obtain⟨E',S'⟩:=zdW (o:=.tup [.int (i:Nat),u1]) S2 hq;rw[Ao] at S';refine⟨E',S',⟨q,_,rfl,zbw,?_⟩⟩;have r2:=ru.ext S2 E';rw[Ao] at r2;exact Reps.cons rfl (Reps.cons r2 Reps.nil)
   . obtain⟨xs2,qx,rx⟩:=kx H2 k2 s3 X2 S2 hs;exact⟨xs2,qx,by show xs2.length<=(pairs as).length;rw[pairs_len,rx.length];exact Ae _⟩
   . obtain⟨xs2,qx,rx⟩:=kx H2 k2 s3 X2 S2 hs;have hi:(pairs as).length<=i:=hi;rw[pairs_len] at hi;exact⟨xs2,qx,by rw[rx.length];exact hi⟩
end
section
variable {X:Cx} {K:Ac} {H:Hp} {io:List Addr} {m:ME} {st st':Sto}
@[simp] theorem zdu{ρ:Rho}:zjF m ρ st=(m ρ st).bind fun p=>zoI p.1 p.2:=rfl
end
section
variable {X:Cx} {K:Ac} {H:Hp} {io:List Addr} {m ma mb mc:ME} {st st':Sto} {a b c:Expr} {pos:Pos}
noncomputable def zi0(g g':G2)(ma mb mc:ME):ME:=fun ρ st=>(ma ρ st).bind fun (x,s1)=>(mb ρ s1).bind fun (y,s2)=>(g x y s2).bind fun (z,s3)=>match z with
 | .bl q=>if q=true then (mc ρ s3).bind fun (w,s4)=>g' y w s4 else some (.bl false,s3)
 | _=>none
theorem zg2{g g':G2}{σ:L2.St}{H:Hp}{Q:VK}(h:tE K (zi0 g g' ma mb mc) σ H Q):zly (r2M K g) (r2M K g') (tE K ma) (tE K mb) (tE K mc) σ H Q:=by
 obtain⟨ρ,st,io,d,st',E,S,e,k⟩:=h;obtain⟨⟨x,s1⟩,e1,e⟩:=zac e;obtain⟨⟨y,s2⟩,e2,e⟩:=zac e;obtain⟨⟨z,s3⟩,e3,e⟩:=zac e;refine⟨ρ,st,io,x,s1,E,S,e1,fun v1 H1 k1 X1 S1 R1=>?_⟩;refine⟨ρ,s1,io++k1,y,s2,E.ext S X1,S1,e2,fun v2 H2 k2 X2 S2 R2=>?_⟩;refine⟨x,y,s2,(io++k1)++k2,z,s3,R1.ext S1 X2,R2,S2,e3,fun v3 H3 k3 X3 S3 R3=>?_⟩;have k':=((k.on S1 X1).on S2 X2).on S3 X3;dsimp only at e
 split at e
 . rename_i q;refine⟨q,R3,?_⟩
   cases q with
   | true =>
     rw[if_pos rfl] at e ⊢;obtain⟨⟨w,s4⟩,e4,e5⟩:=zac e;refine⟨ρ,s3,((io++k1)++k2)++k3,w,s4,((E.ext S X1).ext S1 X2).ext S2 X3,S3,e4,fun v4 H4 k4 X4 S4 R4=>?_⟩;exact⟨y,w,s4,(((io++k1)++k2)++k3)++k4,d,st',(R2.ext S2 X3).ext S3 X4,R4,S4,e5,k'.on S4 X4⟩
   | false =>
     rw[if_neg Bp] at e ⊢;cases e;exact Bh.now k' S3 rfl
 . cases e
theorem zkj{op op':CmpOp}{g g':G2}(ho:OpM X (compareOp op) g)(ho':OpM X (compareOp op') g')(ha:SE X a ma)(hb:SE X b mb)(hc:SE X c mc)(hm:lastMarks [op,op'] [b,c]=false:=by with_unfolding_all rfl) :
   SE X (.Compare a [op,op'] [b,c] pos) (zi0 g g' ma mb mc):=PE.imp (zky ho ho' ha hb hc hm) fun _ _ _ h=>zg2 h
noncomputable def ziY(mk mv:ME):ME:=fun ρ st=>(mk ρ (st++[.dk []])).bind fun (k,s1)=>(mv ρ s1).bind fun (v,s2)=>match keyOf k,s2[st.length]? with
 | some q,some (.dk [])=>some (.ref st.length,s2.set st.length (.dk [(q,v)]))
 | _,_=>none
theorem zki{mk mv:ME}(hk:SE X a mk)(hv:SE X b mv):SE X (.Dict [some a] [b] pos) (ziY mk mv) :=
 PE.imp (zmg (zkq hk hv zl7) rfl rfl (by simp) (by simp)) <| by
   rintro σ H Q ⟨ρ,st,io,d,st',E,S,e,k⟩;obtain⟨⟨x,s1⟩,e1,e⟩:=zac e;obtain⟨⟨y,s2⟩,e2,e⟩:=zac e;intro p hp;obtain⟨E',S'⟩:=zmv (o:=.dK []) (ob:=.dk []) S hp fun H' T e=>⟨[],e,.nil⟩
   refine⟨ρ,_,_,x,s1,E.ext S E',S',e1,fun v1 H1 k1 X1 S1 R1=>?_⟩;refine⟨ρ,s1,_,y,s2,(E.ext S E').ext S' X1,S1,e2,fun v2 H2 k2 X2 S2 R2=>?_⟩;dsimp only at e
   split at e
   . rename_i q eq1 eq2;cases e;have hlen:io.length=st.length:=S.len;have hp0:((io++[p])++k1++k2)[st.length]?=some p:=by
       rw[Ai,Ai,AK (by omega),hlen,Cu];rfl
     obtain⟨ps,hH,r⟩:=S2.ob st.length p _ hp0 eq2;cases r;have ey:=zdQ (R1.ext S1 X2) eq1;subst ey;refine⟨hH,[(q,v2)],rfl,by simp,?_⟩;obtain⟨E3,S3⟩:=zgR (o:=.dK [(q,v2)]) (ob:=.dk [(q,y)]) S2 hp0 eq2 (fun o u z=>by rw[hH] at z;cases z) fun H' T e'=>⟨_,e',(KR.put (κ:=Key) (ps:=[]) (kvs:=[]) .nil q (Rep.mono T R2):KR Key X.K H' _ [(q,v2)] [(q,y)])⟩
     have k':=((k.on S' E').on S1 X1).on S2 X2;exact k' _ _ [] E3 S3 ⟨p,rfl,by rw[Ao];exact hp0⟩
   . cases e
end
noncomputable abbrev Spr:=Str×Int
noncomputable def encL(xs:List Nat)(i:Int):List Int:=(xs.map fun (c:Nat)=>(c:Int))++[-1,i]
noncomputable def enc(t:Spr):List Int:=encL t.1.cps.toList t.2
theorem zjQ(i j:Int):∀ xs ys:List Nat,HT.lexLt (encL xs i) (encL ys j)=if xs=ys then decide (i < j) else decide (xs < ys)
 | [],[]=>by
   show HT.lexLt [-1,i] [-1,j]=_;rw[HT.lexLt_cons,if_pos rfl,HT.lexLt_cons,HT.lexLt_nil_nil,if_pos rfl]
   by_cases h:i=j
   . simp[h]
   . simp[h]
 | [],y::ys=>by
   show HT.lexLt (-1::[i]) ((y:Int)::encL ys j)=_;have h1:¬ (-1:Int)=(y:Int):=by omega
   have h2:(-1:Int) < (y:Int):=by omega
   rw[HT.lexLt_cons,if_neg h1,decide_eq_true h2];simp
 | x::xs,[]=>by
   show HT.lexLt ((x:Int)::encL xs i) (-1::[j])=_;have h1:¬ (x:Int)=(-1:Int):=by omega
   have h2:¬ (x:Int) < (-1:Int):=by omega
   rw[HT.lexLt_cons,if_neg h1,decide_eq_false h2];simp
 | x::xs,y::ys=>by
   show HT.lexLt ((x:Int)::encL xs i) ((y:Int)::encL ys j)=_;rw[HT.lexLt_cons,zjQ i j xs ys]
   by_cases h:x=y
   . subst h;rw[if_pos rfl]
     by_cases h2:xs=ys
     . subst h2;simp
     . have:¬ x::xs=x::ys:=fun z=>h2 (CG z).2;rw[if_neg h2,if_neg this]
       congr 1
       simp[List.cons_lt_cons_iff]
   . have h1:¬ (x:Int)=(y:Int):=by omega
     have:¬ x::xs=y::ys:=fun z=>h (CG z).1;rw[if_neg h1,if_neg this]
     by_cases h2:x < y
     . have h3:(x:Int) < (y:Int):=by omega
       have h4:x::xs < y::ys:=List.cons_lt_cons_iff.mpr (.inl h2);rw[decide_eq_true h3,decide_eq_true h4]
     . have h3:¬ (x:Int) < (y:Int):=by omega
       have h4:¬ x::xs < y::ys:=fun z=>by
         rcases List.cons_lt_cons_iff.mp z with q | q
         . exact h2 q
         . exact h q.1
       rw[decide_eq_false h3,decide_eq_false h4]
theorem zmU{a b:Spr}(h:enc a=enc b):a=b:=by
 have i1:tle (enc a) (enc b)=true:=by rw[h];unfold tle;rw[zkN];rfl
 obtain⟨x,i⟩:=a;obtain⟨y,j⟩:=b;unfold enc encL at h;have hl:=congrArg List.length h;simp at hl;obtain⟨h1,h2⟩:=List.append_inj h (by simp[hl]);have e1:x.cps.toList=y.cps.toList:=by
   have inj:∀ {l m:List Nat},l.map (fun (c:Nat)=>(c:Int))=m.map (fun (c:Nat)=>(c:Int))->l=m:=by
     intro l
     induction l with
     | nil=>intro m q;cases m with
       | nil=>rfl
       | cons c m=>cases q
     | cons c l ih=>intro m q;cases m with
       | nil=>cases q
       | cons e m =>
         rw[Aq,Aq] at q;obtain⟨q1,q2⟩:=CG q;rw[ih q2,Int.ofNat_inj.mp q1]
   exact inj h1
 have e2:i=j:=by
   obtain⟨_,q⟩:=CG h2;exact (CG q).1
 rw[zhm e1,e2]
noncomputable def ple(a b:Spr):Bool:=tle (enc a) (enc b)
noncomputable def zg6(ts:List Spr):List Spr:=ts.mergeSort ple
theorem zff(ts:List Spr):(zg6 ts).Perm ts:=Cm ts ple
theorem zgk(ts:List Spr):(zg6 ts).Pairwise fun a b=>ple a b=true:=Bw (fun a b c=>zc1 (enc a) (enc b) (enc c)) (fun a b=>zeu (enc a) (enc b)) ts
theorem zhz{a b:Spr}(h1:ple a b=true)(h2:ple b a=true):a=b:=zmU (zhj h1 h2)
theorem zkb{a b:List Spr}(h:a.Perm b)(hs:b.Pairwise fun x y=>ple x y=true):zg6 a=b:=zb5 (le:=fun a b=>ple a b=true) ((zff a).trans h) (zgk a) hs fun _ _ _ _=>zhz
section
variable {prog:Program} {w:World} {A:Around} {E:Value->Shared->Prop} {s:Shared}
theorem zi8{Q:Bool->Shared->Prop}{a b:Str}{i j:Int}{t1 t2 t3 t4:Tok}(h:Q (HT.lexLt (enc (a,i)) (enc (b,j))) s):PySem.W.KatLex prog w A true false Q [(.str a t1,.str b t2),(.int i t3,.int j t4)] 0 s:=by
 unfold enc at h;rw[zjQ] at h;refine SeqAt.EqAt.str_str a t1 b t2 prog w _ _ ?_
 by_cases e:a=b
 . subst e;rw[if_pos rfl] at h;rw[beq_self_eq_true,if_pos rfl];refine SeqAt.EqAt.int_int i t3 j t4 prog w _ _ ?_
   by_cases e:i=j
   . subst e;rw[beq_self_eq_true,if_pos rfl];rw[decide_eq_false (Int.lt_irrefl _)] at h;exact h
   . have hb:(i==j)=false:=by simpa using e
     rw[hb,if_neg Bp];exact PySem.W.kat_one _ _ (lt_int h)
 . have hb:(a==b)=false:=by simpa using e
   have hc:¬ a.cps.toList=b.cps.toList:=fun z=>e (zhm z);rw[if_neg hc] at h;rw[hb,if_neg Bp];exact oneLt_str h
end
section
variable {X:Cx} {pins:List (Addr×Obj)} {σ:L2.St} {H:Hp} {s:Shared}
noncomputable def zls(H:Hp):List V->List Spr->Prop:=Paired fun v t=>∃ a,v=.ref a/\H a=some (.tup [.str t.1,.int t.2])
noncomputable def si0:Spr:=(⟨#[]⟩,0)
theorem zhy:∀ {xs:List V} {ts:List Spr} {i:Nat},zls H xs ts->i < ts.length->∃ a,xs[i]?=some (.ref a)/\H a=some (.tup [.str (ts.getD i si0).1,.int (ts.getD i si0).2])
 | _,[],i,_,hi=>absurd hi (by simp)
 | _,t::ts,0,.cons r q,_=>by
   obtain⟨a,rfl,ha⟩:=r;exact⟨a,rfl,ha⟩
 | _,t::ts,i+1,.cons r q,hi=>by
   have:=zhy (i:=i) q (by simpa using hi);simpa using this
theorem zib{ts:List Spr}{i:Nat}(hi:i < ts.length):(ts.map enc).getD i []=enc (ts.getD i si0):=by
 rw[Ax,Ay,Aj hi,Ax,Aj hi];rfl
theorem zm3{A:Around}{xs:List V}{us:List Value}{ts:List Spr}{s':Shared}(I:Inv X pins σ H s)(hk:∀ b o,H b≠none->s.heap.get? b=some o->s'.heap.get? b=some o)(T:zls H xs ts)(r:Vals xs us){i j:Nat}(hi:i < ts.length)(hj:j < ts.length)(C:Bool->Shared->Prop)
   (h:C (decide (rank (ts.map enc) i < rank (ts.map enc) j)) s'):EW X.prog X.w A (PyProof.Rows.tuples' true) us i j C s':=by
 rw[zjx (by rw[Af];exact hi),zib hi,zib hj] at h;obtain⟨a,ea,ha⟩:=zhy T hi;obtain⟨b,eb,hb⟩:=zhy T hj;obtain⟨u,eu,ru⟩:=r.get ea;obtain⟨u2,eu2,ru2⟩:=r.get eb;cases ru;cases ru2;obtain⟨ia,va,⟨oa,ga,ca,na,da⟩,_⟩:=I.tuple (SqT.of (K:=X.K) ha);obtain⟨ib,vb,⟨ob,gb,cb,nb,db⟩,_⟩:=I.tuple (SqT.of (K:=X.K) hb);unfold EW;rw[Ax,Ax,eu,eu2];refine PySem.W.kat_lt (hk _ _ (by rw[ha];simp) ga) da (hk _ _ (by rw[hb];simp) gb) db ?_
 cases va with
 | cons r1 t1 =>
   cases t1 with
   | cons r2 t2 =>
     cases t2
     cases vb with
     | cons r3 t3 =>
       cases t3 with
       | cons r4 t4 =>
         cases t4;obtain⟨_,rfl⟩:=r1;obtain⟨_,rfl⟩:=r2;obtain⟨_,rfl⟩:=r3;obtain⟨_,rfl⟩:=r4;exact zi8 h
theorem zjL{h':Heap}(I:Inv X pins σ H s)(hk:∀ b o,H b≠none->s.heap.get? b=some o->h'.get? b=some o):∀ {xs:List V} {us:List Value} {ts:List Spr},zls H xs ts->Vals xs us ->
   ∃ fs:List Value,PySem.W.KatTups h' us fs/\fs.length=us.length/\∀ v∈fs,∃ i t,v=C7 i t
 | _,_,[],.nil,.nil=>⟨[],FA,rfl,fun v hv=>absurd hv (by simp)⟩
 | _,_,t::ts,.cons r q,.cons rv rvs=>by
   obtain⟨a,rfl,ha⟩:=r;cases rv;obtain⟨fs,h1,h2,h3⟩:=zjL I hk q rvs;obtain⟨its,va,⟨o,g,c,n,d⟩,_⟩:=I.tuple (SqT.of (K:=X.K) ha)
   cases va with
   | @cons _ u _ us' ru rus =>
     obtain⟨tk,rfl⟩:=ru;refine⟨.str t.1 tk::fs,Fx (hk _ _ (by rw[ha];simp) g) c d (by simp) h1,by rw[Bo,Bo,h2],fun v hv=>?_⟩
     rcases List.mem_cons.mp hv with rfl | hv
     . exact⟨t.1,tk,rfl⟩
     . exact h3 v hv
end
theorem zfY{ts:List Spr}{q:Array Nat}(hp:q.Perm (BS (Au ts.length)))(hu:Srt.Up (rank (ts.map enc)) q ts.length):q.toList.map (fun i=>ts.getD i si0)=zg6 ts:=by
 have hl:=Array.perm_iff_toList_perm.mp hp;have hl:q.toList.Perm (Au ts.length):=by simpa using hl
 have e:=zgQ (ts:=ts.map enc) (q:=q) (by rw[Af];exact hp) (by rw[Af];exact hu);have p1:(q.toList.map fun i=>ts.getD i si0).Perm ts:=by
   have:=hl.map fun i=>ts.getD i si0;rw[zc3] at this;exact this
 refine zb5 (le:=fun a b=>ple a b=true) (p1.trans (zff ts).symm) ?_ (zgk ts) fun a _ b _=>zhz;have e2:(q.toList.map fun i=>ts.getD i si0).map enc=zoX (ts.map enc):=by
   rw[<-e,Cb];apply List.map_congr_left;intro i hi;rw[zib (List.mem_range.mp (hl.mem_iff.mp hi))];rfl
 have e3:((q.toList.map fun i=>ts.getD i si0).map enc).Pairwise fun a b=>tle a b=true:=by
   rw[e2];exact Bw (fun a b c=>zc1 a b c) zeu _
 rw[B8] at e3;exact e3
noncomputable def siD(t:Spr):D:=.tup [.str t.1,.int t.2]
section
variable {X:Cx} {K:Ac} {H:Hp} {io:List Addr} {st st':Sto}
theorem zft{xs:List V}{ts:List Spr}(r:Reps K H io xs (ts.map siD)):∀ {q:List Nat},(∀ i∈q,i < ts.length)->Reps K H io (q.map fun i=>xs.getD i .non) ((q.map fun i=>ts.getD i si0).map siD)
 | [],_=>rfl
 | i::q,h=>by
   have hi:=h i Am;have hg:(ts.map siD)[i]?=some (siD (ts.getD i si0)):=by
     rw[Ay,Aj hi,Ax,Aj hi];rfl
   obtain⟨v,hv,rv⟩:=r.get hg;refine⟨_,_,rfl,?_,zft r fun j hj=>h j (Ah _ hj)⟩;show Rep K H io (xs.getD i .non) _;rw[Ax,hv];exact rv
end
noncomputable def Itw(n:Nat)(f:Nat->Option V):It:=⟨fun i _=>i < n,fun i H v H'=>H'=H/\f i=some v,fun i _=>n<=i⟩
noncomputable def zh1:List String:=["enumerate","zip","dict_itemiterator","dict_reverseitemiterator","odict_iterator","itertools.zip_longest","itertools.pairwise"]
theorem zhd{P:Program}{w:World}{K:Ac}{tg:Expr}(it:Addr)(n:Nat)(f:Nat->Option V){R:Nat->Value->Prop}{T:Nat->Heap->Prop}(W:∀ A:Around,A.handled=none->Walks P w A it [it] [it] n R T)
   (hr:∀ i v,R i v->∃ x,f i=some x/\RelV x v) (hob:∀ i h,T i h->∃ o nm vs,h.get? it=some o/\o.cls=.type nm/\o.data=.fields vs/\zh1.contains nm=false)
   (hself:∀ (A:Around) (i:Nat) (s:Shared) (Q:Value->Shared->Prop) (E:Value->Shared->Prop),T i s.heap->Q (.ref it) s->wpAny (model P w) A (pyIter (.ref it)) Q E s) :
   Turn P w K tg (Itw n f) [it] it (fun i h=>i<=n/\T i h) where
 mem:=by simp
 obj:=fun i h st b hb=>by
   have e:b=it:=by simpa using hb
   subst e;obtain⟨o,nm,vs,e,c,d,_⟩:=hob i h st.2;exact⟨o,e,fun v z=>by rw[d] at z;cases z⟩
 keep:=fun i h h' st k=>⟨st.1,(W {} rfl).frame i h h' st.2 k⟩
 item:=by
   intro X hP hw hK hc i pins s σ H E I hf st hg;subst hP hw hK;obtain⟨f0,f1,f2,f3,f4,f5⟩:=hf it (by simp);refine (W X.A (I.ok.hd hc)).item i s _ _ hg st.2 fun v h' tk hv st' kk=>?_;obtain⟨x,hx,rx⟩:=hr i v hv;have I1:Inv X pins σ H { s with heap:=h',toks:=tk }:=I.turned (fun b o hb e=>kk b o (by simpa using hb) e) f0 f1 f3 f4 f5;obtain⟨o,nm,vs,e,c,d,hn⟩:=hob (i+1) h' st';exact⟨_,rfl,znj (s:={ s with heap:=h',toks:=tk }) e c d hn ⟨x,H,I1,rx,⟨rfl,hx⟩,⟨hg,st'⟩,fun b hb=>(hf b hb).1⟩⟩
 done:=by
   intro X hP hw hK hc i pins s σ H E I hf st hg;subst hP hw hK;obtain⟨f0,f1,f2,f3,f4,f5⟩:=hf it (by simp);have e:i=n:=EX st.1 hg;subst e;exact (W X.A (I.ok.hd hc)).done s _ _ st.2 fun h' tk kk=>⟨rfl,I.turned (fun b o hb e=>kk b o (by simpa using hb) e) f0 f1 f3 f4 f5⟩
 self:=fun A i s Q E st h=>hself A i s Q E st.2 h
theorem zow{K:Ac}{H:Hp}{io:List Addr}{ds:List D}{n:Nat}{f:Nat->Option V}(hn:n=ds.length)(hf:∀ i d,ds[i]?=some d->∃ v,f i=some v/\∀ H io,Rep K H io v d):ItOk K H io ⟨ds,[]⟩ (Itw n f) where
 go:=fun i d H1 k1 s hd X1 S1 hs=>by
   have hi:i < ds.length:=(List.getElem?_eq_some_iff.mp hd).1;refine⟨by show i < n;omega,fun x H' y=>?_⟩;obtain⟨rfl,y⟩:=y;obtain⟨v,hv,rv⟩:=hf i d hd;rw[hv] at y;cases y;exact⟨Ext.refl,S1,rv _ _⟩
 stop:=fun H1 k1 s X1 S1 hs=>by show n<=ds.length;omega
 stop':=fun H1 k1 s i hi X1 S1 hs=>by
   show n<=i;have hi:ds.length<=i:=hi;omega
section
variable {X:Cx} {K:Ac} {H:Hp} {io:List Addr} {st st':Sto} {a b c e:Expr} {es:List Expr} {ma mb mc m:ME} {mm:MA} {mt:MT} {ms:MS} {pos:Pos} {tg:Expr} {body:List Stmt}
noncomputable def signs(z:Str):List D:=z.cps.toList.map fun c=>D.str ⟨#[c]⟩
noncomputable def zlo(z:Str)(i:Nat):Option V:=z.cps[i]?.map fun c=>V.str ⟨#[c]⟩
theorem ziA{P:Program}{w:World}{A:Around}(hh:A.handled=none)(I:Addr)(x:Str)(t:Tok):Walks P w A I [I] [I] x.cps.size (SignAt x) (fun i h=>h.IsStrIter I (strIterType x) x t i):=by
 unfold strIterType
 cases x.cps.all (· < 128)
 . exact Walks.strWide hh I x t
 . exact Walks.strAscii hh I x t
theorem zj1{P:Program}{w:World}{K:Ac}{tg:Expr}(it:Addr)(x:Str)(t:Tok):Turn P w K tg (Itw x.cps.size (zlo x)) [it] it (fun i h=>i<=x.cps.size/\h.IsStrIter it (strIterType x) x t i) :=
 zhd it x.cps.size (zlo x) (fun A hA=>ziA hA it x t) (fun i v ⟨c,u,hc,hv⟩=>⟨.str ⟨#[c]⟩,by unfold zlo;rw[hc];rfl,u,hv⟩)
   (fun i h ⟨o,e,c,d⟩=>⟨o,_,_,e,c,d,by unfold strIterType;split <;> decide⟩) fun A i s Q E st h=>by
     unfold strIterType at st
     split at st
     . exact wpAny_pyIter_striter_ascii st h
     . exact wpAny_pyIter_striter_wide st h
noncomputable def iStr(tl:TE):TI:=fun σ H R=>tl σ H fun x H1=>∃ z,x=.str z/\R (Itw z.cps.size (zlo z)) H1
theorem znW{l:Expr}{tl:TE}(hl:PE X l tl):PI X tg l (iStr tl):=by
 intro pins s σ H R I h;refine thn (hl pins s σ H _ I h) ?_;rintro v s1 ⟨x,H1,I1,r1,q1⟩;obtain⟨z,e,q⟩:=q1;subst e;obtain⟨t,rfl⟩:=r1;refine wpAny_pyIter_strU ?_;refine⟨s1.heap.objs.size,[s1.heap.objs.size],_,_,H1,rfl,I1.kept (t':=s1.toks) fun b o e=>Ag _ e,zj1 _ z t,⟨A4 _,_,Av _ rfl,rfl,rfl⟩,fun b hb=>?_,q⟩;have e:b=s1.heap.objs.size:=by simpa using hb
 subst e;exact I1.fpOk (Ae _) (I1.hok.fresh (Ae _))
theorem signs_get{z:Str}{i:Nat}{d:D}(h:(signs z)[i]?=some d):∃ v,zlo z i=some v/\∀ H io,Rep K H io v d:=by
 unfold signs at h;rw[Ay] at h;obtain⟨c,hc,e⟩:=zai h;subst e;refine⟨.str ⟨#[c]⟩,?_,fun H io=>rfl⟩;unfold zlo;rw[AL] at hc;rw[hc];rfl
theorem zdN(z:Str):z.cps.size=(signs z).length:=by unfold signs;rw[Af,AH]
noncomputable def mWS(m:ME):MI:=fun ρ st=>(m ρ st).bind fun (d,s)=>match d with
 | .str z=>some (⟨signs z,[]⟩,s)
 | _=>none
theorem znC{l:Expr}(hl:SE X l m):SI X tg l (mWS m):=PI.imp (znW hl) <| by
 rintro σ H R ⟨ρ,st,io,W,st',E,S,e,k⟩;obtain⟨⟨d,s1⟩,e1,e⟩:=zac e;dsimp only at e
 split at e
 . rename_i z;cases e;refine⟨ρ,st,io,_,_,E,S,e1,fun v H1 k1 X1 S1 R1=>?_⟩;exact⟨z,R1,k _ H1 k1 X1 S1 (zow (zdN z) fun i d h=>signs_get h)⟩
 . cases e
noncomputable def mWA(m:ME):MI:=fun ρ st=>(m ρ st).bind fun (d,s)=>orO (zjZ d s) (match d with | .str z=>some (⟨signs z,[]⟩,s) | _=>none)
theorem zcd{l:Expr}(hl:SE X l m):SI X tg l (mWA m):=by
 rintro pins s σ H R I ⟨ρ,st,io,W,st',E,S,e0,k⟩;obtain⟨⟨d,s1⟩,e1,e0⟩:=zac e0
 rcases zcp e0 with e0 | e0
 . exact zlK hl pins s σ H R I ⟨ρ,st,io,W,st',E,S,by unfold mW;rw[e1];exact e0,k⟩
 . exact znC hl pins s σ H R I ⟨ρ,st,io,W,st',E,S,by unfold mWS;rw[e1];exact e0,k⟩
end
section
variable {X:Cx} {K:Ac} {H:Hp} {io:List Addr} {st st':Sto} {a b c e:Expr} {es:List Expr} {ma mb mc m:ME} {mm:MA} {mt:MT} {ms:MS} {pos:Pos} {tg:Expr} {body:List Stmt}
noncomputable def mWhF(c:MT)(m:MS):Nat->MS
 | 0=>fun _ _=>none
 | n+1=>fun ρ st=>(c ρ st).bind fun (b,s)=>if b=true then (m ρ s).bind fun (f,s2)=>match f with
     | .nx ρ2=>mWhF c m n ρ2 s2
     | .ct ρ2=>mWhF c m n ρ2 s2
     | .bk ρ2=>some (.nx ρ2,s2)
     | .rt d=>some (.rt d,s2)
   else some (.nx ρ,s)
theorem zj8{n:Nat}{c:Expr}(hp:PassesOwn (model X.prog X.w) X.A X.env X.xe)(hc:SB X c mt)(hb:SSs X body ms):SS X (.While c body [] pos) (mWhF mt ms n):=PS.imp (zkp hp hc hb) fun N σ H h=>by
 obtain⟨ρ,st,io,f,st',E,S,e,w⟩:=zc0.mp h;refine⟨fun k σ2 H2=>∃ ρ2 s2 k2,Ext io k2 H H2/\StR X.K H2 (io++k2) s2/\EnvR X.K H2 (io++k2) σ2 ρ2/\mWhF mt ms k ρ2 s2=some (f,st'),⟨n,ρ,st,[],Ext.refl,S.nil,by rw[Ao];exact E,e⟩,?_⟩;rintro k σ2 H2 ⟨ρ2,s2,k2,X2,S2,E2,e2⟩;have w2:Wn X.K (io++k2) H2 st' N f:=w.on X2 S2
 cases k with
 | zero=>cases e2
 | succ k =>
   obtain⟨⟨b,s3⟩,e3,e2⟩:=zac e2;refine⟨ρ2,s2,io++k2,b,s3,E2,S2,e3,fun H3 k3 X3 S3=>?_⟩;have X23:=X2.trans S2 X3;have S3':StR X.K H3 (io++(k2++k3)) s3:=by rw[<-Ai];exact S3
   dsimp only
   cases b with
   | false =>
     rw[if_neg (by decide)];have e2:some (Fl.nx ρ2,s3)=some (f,st'):=e2;cases e2;exact w2 σ2 H3 k3 X3 S3 (E2.ext S2 X3)
   | true =>
     rw[if_pos rfl];obtain⟨⟨f4,s4⟩,e4,e2⟩:=zac (show (ms ρ2 s3).bind _=some (f,st') from e2);refine⟨fun σ5 H5=>∃ ρ5 s5 k5,Ext io k5 H H5/\StR X.K H5 (io++k5) s5/\EnvR X.K H5 (io++k5) σ5 ρ5/\mWhF mt ms k ρ5 s5=some (f,st'),fun σ5 H5 h5=>⟨k,DA k,h5⟩,?_⟩;refine zj3 (E2.ext S2 X3) S3 e4 ?_;have fin:∀ {ρ7:Rho},mWhF mt ms k ρ7 s4=some (f,st')->∀ σ7 H7 k7,Ext (io++k2++k3) k7 H3 H7->StR X.K H7 (io++k2++k3++k7) s4->EnvR X.K H7 (io++k2++k3++k7) σ7 ρ7 ->
         ∃ ρ5 s5 k5,Ext io k5 H H7/\StR X.K H7 (io++k5) s5/\EnvR X.K H7 (io++k5) σ7 ρ5/\mWhF mt ms k ρ5 s5=some (f,st'):=by
       intro ρ7 e7 σ7 H7 k7 X7 S7 E7;rw[Ai io] at X7;rw[Ai io,Ai io] at S7 E7;exact⟨ρ7,s4,(k2++k3)++k7,X23.trans S3' X7,S7,E7,e7⟩
     cases f4 with
     | nx ρ7=>exact fin e2
     | ct ρ7=>exact fin e2
     | bk ρ7 =>
       cases e2;exact w2.on X3 S3
     | rt dd =>
       cases e2;exact w2.on X3 S3
theorem Reps.erase:∀ {xs:List V} {ds:List D} (k:Nat),Reps K H io xs ds->Reps K H io (xs.eraseIdx k) (ds.eraseIdx k)
 | _,[],k,h=>by rw[show _=[] from h];simp[Reps]
 | _,d::ds,0,h=>by
   obtain⟨y,ys,rfl,_,rs⟩:=h;exact rs
 | _,d::ds,k+1,h=>by
   obtain⟨y,ys,rfl,r,rs⟩:=h;exact⟨y,_,rfl,r,Reps.erase k rs⟩
noncomputable def popD:D->List D->Sto->Option (D×Sto):=fun x xs st=>match x,xs with
 | .ref n,[.int i]=>match st[n]? with
   | some (.lst ds)=>if small i=true then (seqIndex? i ds.length).bind fun k=>(ds[k]?).map fun d=>(d,st.set n (.lst (ds.eraseIdx k))) else none
   | _=>none
 | _,_=>none
theorem zmx:MtR X "list.pop" (mtM X.K popD):=by
 rintro pins s σ H x xs v us Q I rx rs ⟨dx,ds,st,io,d,st',Rx,Rs,S,e,k⟩;unfold popD at e
 split at e
 . rename_i n i
   split at e
   . rename_i l e1;obtain⟨hi,e⟩:=zaq e;obtain⟨q,e2,e⟩:=zac e;obtain⟨dd,e3,e⟩:=zai e;cases e;obtain⟨p,rfl,hp⟩:=Rx;obtain⟨w,rfl,Rw⟩:=Rs.one
     cases (show w=.int i from Rw)
     obtain⟨ys,hH,r⟩:=S.ob n p _ hp e1;obtain⟨y,hy,ry⟩:=r.get e3;have hsm:=zfT hi;refine zkH pins s σ H _ _ v us Q I rx rs ⟨p,ys,i,q,y,rfl,rfl,hH,by omega,by omega,by rw[r.length];exact e2,hy,?_⟩;obtain⟨E',S'⟩:=zgR (o:=.lst (ys.eraseIdx q)) (ob:=.lst (l.eraseIdx q)) S hp e1 (fun o u z=>by rw[hH] at z;cases z) fun H' T e'=>⟨_,e',(Reps.mono T r).erase q⟩
     exact k _ _ [] E' S' (ry.ext S E')
   . cases e
 . cases e
noncomputable def mPop(m:ME)(mm:MA):ME:=fun ρ st=>(m ρ st).bind fun (x,s1)=>match x with
 | .ref n=>(zcc s1 n).bind fun _=>(mm ρ s1).bind fun (xs,s2)=>popD x xs s2
 | _=>none
theorem zlS{o:Expr}{apos cpos:Pos}(ho:SE X o m)(ha:SA X (e::es) mm)
   (hbase:attributeBase o "pop" X.env (eval o X.env)=eval o X.env:=by rfl)
   (hfew:((backTo cpos (starEach (e::es) X.env)).all (fun x=>!x.1)&&(backToKw cpos (keywordEach [] X.env)).all (fun x=>x.1.isSome)
    &&decide ((e::es).length+([]:List Keyword).length+(if ([]:List Keyword).isEmpty then 0 else 1) < 30))=true:=by rfl)
   (hline:(apos.endLine==cpos.line)=true:=by rfl) (hs:starEach (e::es) X.env=(false,eval e X.env)::starEach es X.env:=by rfl) (hplain:(backTo cpos (starEach es X.env)).any (·.1)=false:=by rfl) :
   SE X (.Call (.Attribute o "pop" apos) (e::es) [] cpos) (mPop m mm) :=
 PE.imp (zm7 DE PySem.F.slot_list_pop PySem.F.type_list_pop zmx ho ha hbase hfew hline hs hplain) <| by
   rintro σ H Q ⟨ρ,st,io,d,st',E,S,e,k⟩;obtain⟨⟨x,s1⟩,e1,e⟩:=zac e
   cases x with
   | ref n =>
     obtain⟨l,e0,e⟩:=zac e;obtain⟨⟨xs,s2⟩,e2,e⟩:=zac e;refine⟨ρ,st,io,_,s1,E,S,e1,fun v1 H1 k1 X1 S1 R1=>⟨zhc R1 S1 e0,ρ,s1,io++k1,xs,s2,E.ext S X1,S1,e2,fun vs H2 k2 X2 S2 R2=>?_⟩⟩;exact⟨_,xs,s2,(io++k1)++k2,d,st',R1.ext S1 X2,R2,S2,e,(k.on S1 X1).on S2 X2⟩
   | _=>cases e
noncomputable def zi1:GN
 | [.str z],st=>if fits z.cps.size=true then some (.ref st.length,st++[.lst (signs z)]) else none
 | _,_=>none
theorem zhq{z:Str}{acc:Array Value}(h:ItemsOf (SignAt z) acc z.cps.size):Vals (z.cps.toList.map fun c=>V.str ⟨#[c]⟩) acc.toList:=by
 have aux:∀ (l:List Nat) (vs:List Value),vs.length=l.length->(∀ (j:Nat) (v:Value),vs[j]?=some v->∃ (c:Nat) (u:Tok),l[j]?=some c/\v=C7 ⟨#[c]⟩ u)->Vals (l.map fun c=>V.str ⟨#[c]⟩) vs:=by
   intro l
   induction l with
   | nil=>intro vs hl _;cases (Bv hl);exact .nil
   | cons c l ih =>
     intro vs hl hv
     cases vs with
     | nil=>simp at hl
     | cons v vs =>
       obtain⟨c',u,hc,rfl⟩:=hv 0 v rfl
       cases (show c=c' by simpa using hc)
       exact .cons ⟨u,rfl⟩ (ih vs (by simpa using hl) fun j v h=>by simpa using hv (j+1) v (by simpa using h))
 refine aux _ _ (by rw[AH,h.1,AH]) fun j v hj=>?_;obtain⟨c,u,hc,hv⟩:=h.2 j v (by rw[<-AL];exact hj);exact⟨c,u,by rw[AL];exact hc,hv⟩
theorem zhr(z:Str):Reps K H io (z.cps.toList.map fun c=>V.str ⟨#[c]⟩) (signs z):=by
 unfold signs;generalize z.cps.toList=l
 induction l with
 | nil=>exact rfl
 | cons c l ih=>exact Reps.cons rfl ih
theorem zg4(hc:X.calm=true):zg8 X (.type "list") zi1:=by
 rintro pins s σ H xs us Q I r ⟨ds,st,io,d,st',R,S,e,k⟩;unfold zi1 at e
 split at e
 . rename_i z;obtain⟨hf,e⟩:=zaq e;cases e;obtain⟨v,rfl,rfl⟩:=R.one;obtain⟨u,rfl,ru⟩:=r.one;obtain⟨t,rfl⟩:=ru;have hz:z.cps.size<=sizeLine:=of_decide_eq_true hf;refine call_list_str (hn:=hz) (I.ok.hd hc) z t fun h' tk acc c' hk hat hacc=>?_;refine⟨.ref s.heap.objs.size,upd H s.heap.objs.size (.lst (z.cps.toList.map fun c=>V.str ⟨#[c]⟩)),I.laid (t':=tk) (fun b o q=>hk b o q) (Ae _) ⟨by rw[Af,AH];exact hz,acc.toList,c',zhq hacc,by simpa using hat⟩,rfl,?_⟩;exact k.lst S (zhr z) (I.hok.fresh (Ae _))
 . cases e
noncomputable def znh:GN:=orN zoo zi1
theorem zil(hc:X.calm=true):zg8 X (.type "list") znh:=zlb zik (zg4 hc)
noncomputable def findD:D->List D->Sto->Option (D×Sto):=fun x xs st=>match x,xs with
 | .str x,[.str y]=>some (.int (D7 x y),st)
 | _,_=>none
theorem zkJ:MtR X "str.find" (mtM X.K findD):=by
 rintro pins s σ H x xs v us Q I rx rs ⟨dx,ds,st,io,d,st',Rx,Rs,S,e,k⟩;unfold findD at e
 split at e
 . rename_i z y;cases e
   cases (show x=.str z from Rx)
   obtain⟨t,rfl⟩:=rx;obtain⟨w,rfl,Rw⟩:=Rs.one
   cases (show w=.str y from Rw)
   obtain⟨u,rfl,ru⟩:=rs.one;obtain⟨t2,rfl⟩:=ru;exact SC.find ⟨.int _,H,I.tok _,⟨_,rfl⟩,k.now S rfl⟩
 . cases e
noncomputable def zne(g:D->List D->Sto->Option (D×Sto))(m:ME)(mm:MA):ME:=fun ρ st=>(m ρ st).bind fun (x,s1)=>match x with
 | .str _=>(mm ρ s1).bind fun (xs,s2)=>g x xs s2
 | _=>none
theorem zhU{g:D->List D->Sto->Option (D×Sto)}{σ:L2.St}{H:Hp}{Q:VK}(h:tE K (zne g m mm) σ H Q):tBM K "str" (mtM K g) (tE K m) (tA K mm) σ H Q:=by
 obtain⟨ρ,st,io,d,st',E,S,e,k⟩:=h;obtain⟨⟨x,s1⟩,e1,e⟩:=zac e
 cases x with
 | str z =>
   obtain⟨⟨xs,s2⟩,e2,e⟩:=zac e;refine⟨ρ,st,io,_,s1,E,S,e1,fun v1 H1 k1 X1 S1 R1=>⟨by cases (show v1=.str z from R1);rfl,ρ,s1,io++k1,xs,s2,E.ext S X1,S1,e2,fun vs H2 k2 X2 S2 R2=>?_⟩⟩;exact⟨_,xs,s2,(io++k1)++k2,d,st',R1.ext S1 X2,R2,S2,e,(k.on S1 X1).on S2 X2⟩
 | _=>cases e
theorem zlU{name:Str}{id:String}{g:D->List D->Sto->Option (D×Sto)}{o:Expr}{apos cpos:Pos}(slot:Slot "str" name id)(hty:typeOf (.builtin id)=pure (.type "method_descriptor"))(hm:MtR X id (mtM X.K g))(ho:SE X o m)(ha:SA X (e::es) mm)
   (hbase:attributeBase o name X.env (eval o X.env)=eval o X.env:=by rfl)
   (hfew:((backTo cpos (starEach (e::es) X.env)).all (fun x=>!x.1)&&(backToKw cpos (keywordEach [] X.env)).all (fun x=>x.1.isSome)
    &&decide ((e::es).length+([]:List Keyword).length+(if ([]:List Keyword).isEmpty then 0 else 1) < 30))=true:=by rfl)
   (hline:(apos.endLine==cpos.line)=true:=by rfl) (hs:starEach (e::es) X.env=(false,eval e X.env)::starEach es X.env:=by rfl) (hplain:(backTo cpos (starEach es X.env)).any (·.1)=false:=by rfl) :
   SE X (.Call (.Attribute o name apos) (e::es) [] cpos) (zne g m mm) :=
 PE.imp (zm7 DU slot hty hm ho ha hbase hfew hline hs hplain) fun σ H Q h=>zhU h
noncomputable def slK:D->Option Int->Option Int->Sto->Option (D×Sto):=fun x lo hi st=>match x with
 | .kl ds=>some (.ref st.length,st++[.lst (cutD ds lo hi)])
 | _=>none
noncomputable def slB:D->Option Int->Option Int->Sto->Option (D×Sto):=fun x lo hi st=>orO (slA x lo hi st) (slK x lo hi st)
noncomputable def mSlB(m:ME)(l h:MO):ME:=fun ρ st=>(m ρ st).bind fun (x,s1)=>(l ρ s1).bind fun (lo,s2)=>(h ρ s2).bind fun (hi,s3)=>slB x lo hi s3
theorem zdO{lo hi:Option Expr}{ml mh:MO}{p2:Pos}(he:SE X e m)(hl:SO X lo ml)(hu:SO X hi mh):SE X (.Subscript e (.Slice lo hi none p2) pos) (mSlB m ml mh):=by
 rintro pins s σ H Q I ⟨ρ,st,io,d,st',E,S,e0,k⟩;obtain⟨⟨x,s1⟩,e1,e0⟩:=zac e0;obtain⟨⟨lo',s2⟩,e2,e0⟩:=zac e0;obtain⟨⟨hi',s3⟩,e3,e0⟩:=zac e0
 rcases zcp e0 with e0 | e0
 . exact ziK he hl hu pins s σ H Q I ⟨ρ,st,io,d,st',E,S,by simp only[mSlA,e1,e2,e3,Ab];exact e0,k⟩
 . refine zeJ zjt he hl hu pins s σ H Q I ?_;refine⟨ρ,st,io,x,s1,E,S,e1,fun v1 H1 k1 X1 S1 R1=>⟨ρ,s1,io++k1,lo',s2,E.ext S X1,S1,e2,fun H2 k2 X2 S2=>⟨ρ,s2,(io++k1)++k2,hi',s3,(E.ext S X1).ext S1 X2,S2,e3,fun H3 k3 X3 S3=>?_⟩⟩⟩;have R3:=(R1.ext S1 X2).ext S2 X3;have k':=((k.on S1 X1).on S2 X2).on S3 X3
   cases x with
   | kl ds =>
     cases e0;obtain⟨p,xs,rfl,hx,r⟩:=R3;exact⟨p,xs,rfl,hx.sq,fun q hq=>k'.lst S3 (zid r _ _) hq⟩
   | _=>cases e0
end
end L2.MP
namespace PySem.F
end PySem.F
namespace PySem
open Builtin
end PySem
namespace L2.MP
open PySem PySem.Spec PyProof.Rows
section
variable {ρ ρ1:Rho} {st s1:Sto} {m n o ma mb:ME} {mm:MA} {ms mq:MS} {mt mu:MT} {d:D} {ml mh:MO}
@[simp] theorem zg5:mWA m ρ st=(m ρ st).bind fun p=>orO (zjZ p.1 p.2) (match p.1 with | .str z=>some (⟨signs z,[]⟩,p.2) | _=>none):=rfl
theorem ze7:mPop m mm ρ st=(m ρ st).bind fun p=>match p.1 with
 | .ref n=>(zcc p.2 n).bind fun _=>(mm ρ p.2).bind fun q=>popD p.1 q.1 q.2
 | _=>none:=rfl
theorem zdt{g:D->List D->Sto->Option (D×Sto)}:zne g m mm ρ st=(m ρ st).bind fun p=>match p.1 with
 | .str _=>(mm ρ p.2).bind fun q=>g p.1 q.1 q.2
 | _=>none:=rfl
@[simp] theorem ze6:mSlB m ml mh ρ st=(m ρ st).bind fun p=>(ml ρ p.2).bind fun q=>(mh ρ q.2).bind fun r=>slB p.1 q.1 r.1 r.2:=rfl
end
end L2.MP
namespace L2.MP
section
open PySem PySem.Spec PyProof.Rows PySem.Builtin PySem.Builtin.Str
variable {prog:Program} {w:World} {A:Around} {E:Value->Shared->Prop} {s:Shared} {z y:Str} {t u:Tok} {Q:Value->Shared->Prop}
end
section
open PySem PySem.Spec PyProof.Rows
variable {X:Cx} {K:Ac} {H:Hp} {io:List Addr} {st st':Sto} {a b c e:Expr} {es:List Expr} {ma mb mc m:ME} {mm:MA} {pos:Pos}
end
end L2.MP
namespace L2.MP
open PySem
theorem zoQ{c:MT}{m n:ME}{ρ:Rho}{st:Sto}:mIte c m n ρ st=(c ρ st).bind fun p=>if p.1=true then m ρ p.2 else n ρ p.2:=rfl
end L2.MP
namespace L2.MP
open PySem PySem.Spec PyProof.Rows
@[irreducible] def JSs (X:Cx) (s:List Stmt) (m:MS):Prop:=SSs X s m
@[irreducible] def JS (X:Cx) (s:Stmt) (m:MS):Prop:=SS X s m
@[irreducible] def JA (X:Cx) (es:List Expr) (m:MA):Prop:=SA X es m
section
variable {X:Cx} {e a b c:Expr} {es:List Expr} {st1 st2:Stmt} {rest body orelse:List Stmt} {pos:Pos} {m ma mb mc:ME} {mt mu:MT} {mm:MA} {ms mq mr:MS} {mg:MG} {mi:MI}
theorem JSs.out(h:JSs X body ms):SSs X body ms:=by unfold JSs at h;exact h
theorem JSs.mk(h:SSs X body ms):JSs X body ms:=by unfold JSs;exact h
theorem JS.out(h:JS X st1 ms):SS X st1 ms:=by unfold JS at h;exact h
theorem JS.mk(h:SS X st1 ms):JS X st1 ms:=by unfold JS;exact h
theorem JA.out(h:JA X es mm):SA X es mm:=by unfold JA at h;exact h
theorem JA.mk(h:SA X es mm):JA X es mm:=by unfold JA;exact h
theorem zb8:JSs X [] ze9:=.mk zlC
theorem zam(h:JS X st1 ms):JSs X [st1] ms:=.mk (zlB h.out)
theorem zah(h:JS X st1 ms)(h2:JSs X rest mq):JSs X (st1::rest) (mSeq ms mq):=.mk (zj7 h.out h2.out)
theorem zgY(hc:SB X c mt)(h1:JSs X body ms)(h2:JSs X orelse mq):JS X (.If c body orelse pos) (mIf mt ms mq):=.mk (zpj hc h1.out h2.out)
theorem zdJ{tg iter:Expr}(hp:PassesOwn (model X.prog X.w) X.A X.env X.xe)(hc:X.calm=true)(hi:SI X tg iter mi)(hg:SG X tg mg)(hb:JSs X body ms)(hs:∀ x,foldedSetIterable iter X.env x=pure x:=by intro _;rfl):JS X (.For tg iter body [] pos) (mFor mi mg ms):=.mk (znw hp hc hi hg hb.out hs)
theorem zkS{n:Nat}(hp:PassesOwn (model X.prog X.w) X.A X.env X.xe)(hc:SB X c mt)(hb:JSs X body ms):JS X (.While c body [] pos) (mWhF mt ms n):=.mk (zj8 hp hc hb.out)
theorem zfD:JA X [] mNil:=.mk zaf
theorem zay(ha:SE X e m)(hr:JA X es mm)(hs:∀ q,starEach (e::q) X.env=(false,eval e X.env)::starEach q X.env:=by intro _;rfl):JA X (e::es) (zad m mm):=.mk (zaa ha hr.out (hs _))
end
section
variable {X:Cx} {pins:List (Addr×Obj)} {σ:L2.St} {H:Hp} {s:Shared}
theorem Inv.notL(I:Inv X pins σ H s){D:Addr}(h:s.heap.get? D=none):D≠X.env.locals/\X.base.get? D=none/\H D=none:=by
 refine⟨fun z=>?_,?_,?_⟩
 . obtain⟨m,⟨o,_,_,e,_⟩,_⟩:=I.loc;rw[<-z,h] at e;cases e
 . cases e:X.base.get? D with
   | none=>rfl
   | some u=>rw[(I.bs D u e).1] at h;cases h
 . cases e:H D with
   | none=>rfl
   | some o =>
     obtain⟨u,hu⟩:=zgt (I.hok D o e);rw[h] at hu;cases hu
end
section
variable {X:Cx} {K:Ac} {H:Hp} {io:List Addr} {st st':Sto}
noncomputable def zoT:G2
 | .tup a,.tup b,st=>if (a.isEmpty&&fits b.length)=true then some (.tup b,st) else none
 | _,_,_=>none
theorem zkC:OpM X (binaryOp .Add) zoT:=by
 rintro pins s σ H x y v u Q I rx ry ⟨dx,dy,st,io,d,st',Rx,Ry,S,e,k⟩;unfold zoT at e
 split at e
 . rename_i i j;obtain⟨hf,e⟩:=zaq e;cases e;rw[AA] at hf;obtain⟨p,xs,rfl,hp,r1⟩:=Rx;obtain⟨q,ys,rfl,hq,r2⟩:=id Ry;cases rx;cases ry;obtain⟨m,F⟩:=I.fr;obtain⟨its,w1,p1,_⟩:=I.tuple (SqT.of hp);obtain⟨its2,w2,p2,_⟩:=I.tuple (SqT.of hq);have e0:its=[]:=by
     have a:=r1.length;have b:=w1.length;have c:i=[]:=by simpa using hf.1
     rw[c] at a;exact Bv (by have a':xs.length=0:=a;omega)
   have hz:its2.length<=sizeLine:=by
     have a:=r2.length;have b:=w2.length;have c:=of_decide_eq_true hf.2;omega
   exact PyProof.Rows.add_tuples F (news:=[]) (fun p hp=>nomatch hp) p1 p2 (fun _=>⟨.ref q,H,I,rfl,k.now S Ry⟩) (fun z _=>absurd e0 z) (fun z _=>absurd e0 z) (by rw[e0];simpa using hz)
 . cases e
noncomputable def addE:G2:=orG addD zoT
theorem zmp:OpM X (binaryOp .Add) addE:=zkA zaH zkC
end
end L2.MP
namespace L2.MP
open PySem PySem.Spec PyProof.Rows PySem.SeqAt PySem.MeetsSeq PySem.MeetsSeq2 PySem.MeetsSeq3
section
variable {prog:Program} {w:World} {A:Around} {E:Value->Shared->Prop} {s:Shared}
theorem zfF{t sl:Addr}{items:Array Value}{vl vu:Value}{lo hi:Option Int}{Q:Value->Shared->Prop}(ht:IsTup s.heap t items)(hs:s.heap.IsSliceOf sl vl vu .none)(pl:IsPart vl lo)(pu:IsPart vu hi)
   (h0:HT.sIx items.size 0 lo=0) (h1:HT.sIx items.size items.size hi=items.size) (h:Q (.ref t) s):wpAny (model prog w) A (getItem (.ref t) (.ref sl)) Q E s:=by
 obtain⟨os,hos,hcs,hds⟩:=id hs;have hTs:s.TypeIs (.ref sl) "slice":=⟨os,hos,hcs⟩
 unfold getItem
 try with_reducible refine Bg ?_
 first | refine Aa (Ad ?_) | skip
 refine Aa (Et ht.typeIs (by decide) (Aa (Bm (name:=B9 "__getitem__") ht.typeIs Br (A5 Br ht.typeIs Eb ?_ (Ei _ _)))));show wpAny _ _ (Dj (.ref t) >>= _) _ _ s;refine Aa (tupleItemsOf_ ht (Aa (CO hTs ?_)));rw[if_pos (by decide)];refine Aa (HT.sliceApplied_gen hs pl pu ?_);rw[h0,h1];have yes:((((0:Nat):Int)==0&&(1:Int)==1&&(items.size - 0)==items.size)=true):=by simp
 show wpAny _ _ (if (((0:Nat):Int)==0&&(1:Int)==1&&(items.size - 0)==items.size)=true then _ else _) _ _ s;rw[if_pos yes];refine Aa (m:=Builtin.Tuple.tupleIsExact _) (Aa (CO ht.typeIs (Ad ?_)));rw[if_pos (by decide)];exact Aa (m:=(pure (Fo (Fp (A0 t))):Sem Fin)) (Ad (Ad ⟨_,rfl,Ad h⟩))
end
section
variable {X:Cx} {K:Ac} {H:Hp} {io:List Addr} {st st':Sto} {e:Expr} {m:ME} {pos:Pos}
noncomputable def rSlW(K:Ac):V->Option Int->Option Int->Hp->VK->Prop:=fun x lo hi H Q=>∃ a xs,x=.ref a/\SqT K H a xs/\HT.sIx xs.length 0 lo=0/\HT.sIx xs.length xs.length hi=xs.length/\Q (.ref a) H
theorem zkc:SlR X (rSlW X.K):=by
 intro pins s σ H x v vl vu lo hi sl Q I rx hs pl pu h;obtain⟨a,xs,rfl,hx,h0,h1,q⟩:=h;cases rx;obtain⟨its,r,ht,hz⟩:=I.tuple hx;have hlen:its.toArray.size=xs.length:=by rw[Ar];exact r.length.symm
 exact⟨"tuple",_,PyProof.Rows.slot_tuple_getitem.lookup,ht.typeIs,zfF ht hs pl pu (by rw[hlen];exact h0) (by rw[hlen];exact h1) ⟨.ref a,H,I,rfl,q⟩⟩
noncomputable def slW:D->Option Int->Option Int->Sto->Option (D×Sto):=fun x lo hi st=>match x with
 | .tup ds=>if (decide (HT.sIx ds.length 0 lo=0)&&decide (HT.sIx ds.length ds.length hi=ds.length))=true then some (.tup ds,st) else none
 | _=>none
noncomputable def slC:D->Option Int->Option Int->Sto->Option (D×Sto):=fun x lo hi st=>orO (slB x lo hi st) (slW x lo hi st)
noncomputable def mSlC(m:ME)(l h:MO):ME:=fun ρ st=>(m ρ st).bind fun (x,s1)=>(l ρ s1).bind fun (lo,s2)=>(h ρ s2).bind fun (hi,s3)=>slC x lo hi s3
theorem ziJ{lo hi:Option Expr}{ml mh:MO}{p2:Pos}(he:SE X e m)(hl:SO X lo ml)(hu:SO X hi mh):SE X (.Subscript e (.Slice lo hi none p2) pos) (mSlC m ml mh):=by
 rintro pins s σ H Q I ⟨ρ,st,io,d,st',E,S,e0,k⟩;obtain⟨⟨x,s1⟩,e1,e0⟩:=zac e0;obtain⟨⟨lo',s2⟩,e2,e0⟩:=zac e0;obtain⟨⟨hi',s3⟩,e3,e0⟩:=zac e0
 rcases zcp e0 with e0 | e0
 . exact zdO he hl hu pins s σ H Q I ⟨ρ,st,io,d,st',E,S,by simp only[mSlB,e1,e2,e3,Ab];exact e0,k⟩
 . refine zeJ zkc he hl hu pins s σ H Q I ?_;refine⟨ρ,st,io,x,s1,E,S,e1,fun v1 H1 k1 X1 S1 R1=>⟨ρ,s1,io++k1,lo',s2,E.ext S X1,S1,e2,fun H2 k2 X2 S2=>⟨ρ,s2,(io++k1)++k2,hi',s3,(E.ext S X1).ext S1 X2,S2,e3,fun H3 k3 X3 S3=>?_⟩⟩⟩;have R3:=(R1.ext S1 X2).ext S2 X3;have k':=((k.on S1 X1).on S2 X2).on S3 X3;unfold slW at e0
   split at e0
   . rename_i ds;obtain⟨hw,e0⟩:=zaq e0;cases e0;rw[AA] at hw;obtain⟨p,xs,rfl,hp,r⟩:=id R3;exact⟨p,xs,rfl,SqT.of hp,by rw[r.length];exact of_decide_eq_true hw.1,by rw[r.length];exact of_decide_eq_true hw.2,k'.now S3 R3⟩
   . cases e0
end
end L2.MP
namespace L2.MP
open PySem L2 PySem.Spec PyProof.Rows
section
variable {K:Ac} {x:Str} {st:Stmt} {f:Addr}
structure FdIn(K:Ac)(x:Str)(st:Stmt)(f:Addr):Prop where
 ex:∃ (oc:Value) (od:Option Addr) (kV dc pm:Value) (an:Option Addr) (cd ct:Value) (sl:Array (Option Value)),K.lookup f=some ⟨oc,od,.func (BE x x (zdZ st) (zcz st) (zal st) .none kV dc pm an cd ct),sl⟩/\Cy K cd x=true
 ns:AX K mainGlobals x=some (some (.ref f))
 kp:Bx K (.ref f)=true
theorem zdq{oc kV dc pm cd ct:Value}{od an:Option Addr}{sl:Array (Option Value)}(a:AX K mainGlobals x=some (some (.ref f)))(l:K.lookup f=some ⟨oc,od,.func (BE x x (zdZ st) (zcz st) (zal st) .none kV dc pm an cd ct),sl⟩)(c:Cy K cd x=true)(k:Bx K (.ref f)=true):FdIn K x st f :=
 ⟨⟨oc,od,kV,dc,pm,an,cd,ct,sl,l,c⟩,a,k⟩
theorem zaW{h:Heap}{mg:Str->Option Value}{ps:List Str}(F:FdIn K x st f)(X:K.In h)(G:h.Ns mainGlobals mg)(b:∀ (kV doc pm:Value) (an:Option Addr) (cdv ct:Value) (us:List Value),us.length=ps.length->bindArgs (BE x x (zdZ st) (zcz st) (zal st) .none kV doc pm an cdv ct) ⟨us,[]⟩=pure (ps.zip us)):Laid K mg x st ps:=by
 obtain⟨⟨oc,od,kV,dc,pm,an,cd,ct,sl,l,c⟩,a,k⟩:=F;exact⟨_,_,zk0 l c k,Dl X G a,(zk0 l c k).binds b⟩
end
theorem len1{α:Type}{P:List α->Prop}(h:∀ a,P [a])(l:List α)(e:l.length=1):P l:=by
 rcases l with _ | ⟨a,_ | ⟨b,l⟩⟩
 . cases e
 . exact h a
 . cases e
theorem len2{α:Type}{P:List α->Prop}(h:∀ a b,P [a,b])(l:List α)(e:l.length=2):P l:=by
 rcases l with _ | ⟨a,l⟩
 . cases e
 . exact len1 (P:=fun l=>P (a::l)) (h a) l (El e)
theorem len3{α:Type}{P:List α->Prop}(h:∀ a b c,P [a,b,c])(l:List α)(e:l.length=3):P l:=by
 rcases l with _ | ⟨a,l⟩
 . cases e
 . exact len2 (P:=fun l=>P (a::l)) (h a) l (El e)
theorem len4{α:Type}{P:List α->Prop}(h:∀ a b c d,P [a,b,c,d])(l:List α)(e:l.length=4):P l:=by
 rcases l with _ | ⟨a,l⟩
 . cases e
 . exact len3 (P:=fun l=>P (a::l)) (h a) l (El e)
end L2.MP
namespace L2.MP
open PySem PySem.Spec PyProof.Rows
end L2.MP
namespace L2.MP
open PySem L2 PySem.Spec PyProof.Rows
end L2.MP
namespace L2.MP
open PySem PySem.Spec PyProof.Rows
end L2.MP
namespace L2.MP
open PySem PySem.Spec
section
variable {κ:Type} [DecidableEq κ]
noncomputable def met(val:Nat->κ):Nat->List κ
 | 0=>[]
 | i+1=>if val i∈met val i then met val i else met val i++[val i]
theorem zjE(val:Nat->κ):∀ i,(met val i).length<=i
 | 0=>Ae _
 | i+1=>by
   have ih:=zjE val i;unfold met
   split
   . omega
   . rw[AD,Ca];omega
theorem zmz(val:Nat->κ)(i:Nat)(x:κ):decide (x∈met val (i+1))=(decide (x∈met val i) || decide (x=val i)):=by
 rw[EU,CU,decide_eq_true_iff,decide_eq_true_iff,decide_eq_true_iff];rw[met]
 split
 . rename_i h
   constructor
   . exact .inl
   . rintro (z | z)
     . exact z
     . rw[z];exact h
 . rw[List.mem_append,Da]
theorem zkL(val:Nat->κ)(i:Nat):(met val (i+1)).length=if decide (val i∈met val i)=true then (met val i).length else (met val i).length+1:=by
 rw[met]
 by_cases h:val i∈met val i
 . rw[if_pos h,if_pos (decide_eq_true h)]
 . rw[if_neg h,if_neg (by simpa using h),AD];rfl
end
section
variable {prog:Program} {w:World} {A:Around} {E:Value->Shared->Prop} {s:Shared} {κ:Type} [DecidableEq κ] {knd:KeyKind prog w κ}
noncomputable def zix(led:Bool):Obj:={ cls:=.type "set",dict:=none,data:=.set #[] 0 (.fresh 0 0 led) }
end
end L2.MP
namespace L2.MP
open PySem PySem.Spec PyProof.Rows
section
variable {X:Cx} {K:Ac} {H:Hp} {io:List Addr} {st st':Sto}
theorem zoN:bootBuiltins "set"=some (.type "set"):=by decide +kernel
end
end L2.MP
namespace L2.MP
open PySem PySem.Spec
end L2.MP
namespace L2.MP
open PySem PySem.Spec PyProof.Rows
def zll(a d:Addr)(h:Heap):Prop:=h.get? a=some { cls:=.type "dict_items",data:=.fields #[.ref d] }
theorem zj0{P:Program}{w:World}{H:Hp}{h:Heap}{a d:Addr}(x:zll a d h):zdv P w H h a (.ext (zll a d)):=⟨x,⟨_,x⟩,fun _ _ y k=>k _ y⟩
noncomputable abbrev tp (t:Spr):HO:=.tup [.str t.1,.int t.2]
noncomputable def updP(H:Hp):List (Addr×Spr)->Hp
 | []=>H
 | p::r=>upd (updP H r) p.1 (tp p.2)
theorem zcY{H:Hp}{b:Addr}:∀ {ps:List (Addr×Spr)},b ∉ ps.map (·.1)->updP H ps b=H b
 | [],_=>rfl
 | p::r,h=>by
   have h1:b≠p.1:=fun z=>h (by simp[z]);show upd (updP H r) p.1 (tp p.2) b=H b;rw[zaO h1];exact zcY fun z=>h (Ah _ z)
theorem zgc{H:Hp}:∀ {ps:List (Addr×Spr)},(ps.map (·.1)).Nodup->∀ p∈ps,updP H ps p.1=some (tp p.2)
 | [],_,p,h=>absurd h (by simp)
 | q::r,nd,p,h=>by
   rw[Aq,CQ] at nd;show upd (updP H r) q.1 (tp q.2) p.1=some (tp p.2)
   rcases List.mem_cons.mp h with rfl | h
   . exact zbw
   . rw[zaO (fun z=>nd.1 (List.mem_map.mpr ⟨p,h,z⟩))];exact zgc nd.2 p h
theorem zhb{K:Ac}{H:Hp}{io:List Addr}{st:Sto}(S:StR K H io st):∀ {ps:List (Addr×Spr)},(∀ p∈ps,H p.1=none)->(ps.map (·.1)).Nodup->Ext io [] H (updP H ps)/\StR K (updP H ps) (io++[]) st
 | [],_,_=>⟨Ext.refl,by rw[Ao];exact S⟩
 | q::r,h,nd=>by
   rw[Aq,CQ] at nd;obtain⟨E,S1⟩:=zhb S (ps:=r) (fun p hp=>h p (Ah _ hp)) nd.2;have hq:updP H r q.1=none:=by rw[zcY nd.1];exact h q Am
   obtain⟨E2,S2⟩:=zdW (o:=tp q.2) S1 hq;refine⟨E.trans S1 E2,?_⟩;rw[Ao] at S2;exact S2
section
variable {X:Cx} {pins:List (Addr×Obj)} {σ:L2.St} {H:Hp} {s:Shared}
theorem Inv.laidP{h':Heap}{t':Nat}{ps:List (Addr×Spr)}(I:Inv X pins σ H s)(k:∀ b u,s.heap.get? b=some u->h'.get? b=some u)(hp:∀ p∈ps,s.heap.objs.size<=p.1)(nd:(ps.map (·.1)).Nodup)
   (new:∀ p∈ps,∃ t1 t2,h'.get? p.1=some { cls:=.type "tuple",data:=.seq #[.str p.2.1 t1,.int p.2.2 t2] }):Inv X pins σ (updP H ps) { s with heap:=h',toks:=t' }:=by
 have out:∀ b u,s.heap.get? b=some u->b ∉ ps.map (·.1):=fun b u e z=>by
   obtain⟨p,hm,rfl⟩:=List.mem_map.mp z;exact absurd (An e) (Nat.not_lt.mpr (hp p hm))
 have outH:∀ b u,H b=some u->b ∉ ps.map (·.1):=fun b u e=>by
   obtain⟨v,hv⟩:=zgt (I.hok b u e);exact out b v hv
 refine I.un ⟨fun b o e n _ _=>k b o e,fun b o e n _ _=>⟨o.slots,k b o e⟩,fun b o e n _=>by rw[zcY (out b o e)];exact n,fun b o e _=>⟨o,k b o e⟩,fun b xs e=>by rw[zcY (outH b _ e)];exact e,fun b o u e=>by rw[zcY (outH b _ e)];exact e,fun b q e=>⟨#[],by rw[zcY (outH b _ e),e];simp⟩⟩ fun b u e=>?_
 by_cases hb:b∈ps.map (·.1)
 . obtain⟨p,hm,rfl⟩:=List.mem_map.mp hb;rw[zgc nd p hm] at e;cases e;obtain⟨t1,t2,g⟩:=new p hm;exact⟨by show 2<=sizeLine;decide,[.str p.2.1 t1,.int p.2.2 t2],.cons ⟨t1,rfl⟩ (.cons ⟨t2,rfl⟩ .nil),⟨_,g,rfl,rfl,_,rfl⟩⟩
 . rw[zcY hb] at e;exact (I.hok b u e).stay (fun c v _ q=>k c v q) (fun c q=>by rw[zcY (outH c _ q)];exact q) fun c xs q=>by rw[zcY (outH c _ q)];exact q
theorem zho{xs:List V}{its:List Value}{ts:List Spr}{D:Addr}{h0:Heap}{Q:VK}(I:Inv X pins σ H s)(rv:Vals xs its)(T:zls H xs ts)(h2:2<=ts.length)(h64:ts.length < 64)(k0:∀ b o,s.heap.get? b=some o->h0.get? b=some o)(hsD:s.heap.get? D=none)(gD:h0.get? D=some (seqObj "list" its.toArray 0))
   (h:∀ (q:Array Nat) (p:Addr),q.Perm (BS (Au ts.length))->Srt.Up (rank (ts.map enc)) q ts.length->H p=none->Q (.ref p) (upd H p (.lst (q.toList.map fun i=>xs.getD i .non)))) :
   wpAny (model X.prog X.w) X.A.in1.in1 (Builtin.«list.sort» ⟨[.ref D],[]⟩) (fun f s'=>f=.done (.ret .none)/\EP X pins σ Q (.ref D) s') (fun _ _=>False) { s with heap:=h0 }:=by
 have hlen:its.length=ts.length:=by
   have a:=rv.length;have b:=Cg T;omega
 obtain⟨m,F⟩:=I.fr;have trkL:∀ b,H b≠none->b≠X.env.locals:=fun b hb z=>hb (by rw[z];exact I.free);obtain⟨n1,n2,hHD⟩:=Inv.notL I hsD;have nD:∀ p∈zes X.base s.heap X.env.locals,p.1≠D:=fun p hp z=>by
   have q:=(zhP (g:=X.base) (h:=s.heap) (L:=X.env.locals) p hp).1;rw[z,hsD] at q;cases q
 refine PySem.W.kat_list_sort (s:={ s with heap:=h0 }) (news:=zes X.base s.heap X.env.locals) (F.kept k0) ((zhP (g:=X.base) (h:=s.heap) (L:=X.env.locals)).grown k0) gD n1 n2 nD (by omega) (by omega) fun e1 h' F' N'=>?_;have keep:∀ {h2:Heap} {o:Obj},PyProof.Rows.Fr X.base X.env.locals h2 m->News X.base X.env.locals h2 ((D,o)::zes X.base s.heap X.env.locals)->∀ b u,b≠X.env.locals->s.heap.get? b=some u->h2.get? b=some u:=fun {h2 o} F2 N2 b u hb e=>by
   cases q:X.base.get? b with
   | some v =>
     have z:=(I.bs b v q).1;rw[e] at z;cases z;exact F2.keep b _ q
   | none=>exact (N2 (b,u) (Ah _ (zgW hb q e))).1
 have hk:∀ b o,H b≠none->s.heap.get? b=some o->h'.get? b=some o:=fun b o hb e=>keep F' N' b o (trkL b hb) e;obtain⟨fs,k1,k2,k3⟩:=zjL (h':=h') I hk T rv;refine PySem.W.kat_kind (s:={ s with heap:=h' }) (T:=.type "str") k1 (by omega) (fun v hv=>?_) rfl ?_
 . obtain⟨i,t,rfl⟩:=k3 v hv;exact PySem.W.Looks.of_pure rfl
 have ok:=Srt.sort_ok (n:=its.length) (r:=rank (ts.map enc)) (by omega);refine zo4 (n:=its.length) (r:=rank (ts.map enc)) (s:={ s with heap:=h' }) (fun i j hi hj C hC=>zm3 (s':={ s with heap:=h' }) I hk T rv (by omega) (by omega) C hC) (fun q hq=>?_) ok;refine Fy F' N' (PySem.W.UpdF.head nD) fun h2 c F2 N2=>⟨rfl,?_⟩
 have hD2:=(N2 _ Am).1;rw[hlen] at hq;have vals:Vals (q.toList.map fun i=>xs.getD i .non) (q.toList.map fun i=>its.getD i Bi):=by
   have hmem:∀ i∈q.toList,i < xs.length:=fun i hi=>by
     have:i∈(BS (Au ts.length)).toList:=(Array.perm_iff_toList_perm.mp hq.1).mem_iff.mp hi;have hr:=rv.length;simp at this;omega
   generalize q.toList=ql at hmem
   induction ql with
   | nil=>exact .nil
   | cons i r ih =>
     refine .cons ?_ (ih fun j hj=>hmem j (Ah _ hj));have hi:=hmem i Am;obtain⟨u,eu,ru⟩:=rv.get (Aj hi);show RelV (xs.getD i V.non) (its.getD i Bi);rw[Ax,Ax,Aj hi,eu];exact ru
 have hql:q.toList.length=ts.length:=by
   have:=(Array.perm_iff_toList_perm.mp hq.1).length_eq;simpa using this
 have J:Inv X pins σ (upd H D (.lst (q.toList.map fun i=>xs.getD i .non))) { s with heap:=h2 } :=
   Inv.laidAt (m:=m) I (keep F2 N2) (fun m' hm'=>by rw[zog hm' F.ns];exact F2.ns) (let ⟨o,_,_,e,_⟩:=F2.ns;⟨o,e⟩) hsD hHD n1 ⟨by rw[Af,hql];exact lt64 h64,_,c,vals,hD2⟩
 exact⟨.ref D,_,J,rfl,h q D hq.1 hq.2 hHD⟩
theorem zou{P:Program}{w:World}{x:Str}{v:Value}(h:(zby P w).is (.inr x) v=true):∃ t,v=.str x t:=by
 rw[zhS] at h
 rcases zaY h with ⟨i,t,e,_⟩ | ⟨y,t,e,r⟩
 . cases e
 . cases e;exact⟨t,r⟩
noncomputable def znq(ta:TE):TE:=fun σ H Q=>ta σ H fun x H1=>∃ d kvs,x=.ref d/\H1 d=some (.dK kvs)/\∀ p,H1 p=none->Q (.ref p) (upd H1 p (.ext (zll p d)))
theorem zkw{o:Expr}{ta:TE}{apos cpos:Pos}(he:PE X o ta)(hbase:attributeBase o "items" X.env (eval o X.env)=eval o X.env:=by rfl)(hline:(apos.endLine==cpos.line)=true:=by rfl):PE X (.Call (.Attribute o "items" apos) [] [] cpos) (znq ta):=by
 intro pins s σ H Q I h;refine wpAny_Call_method0_late hbase hline (thn (he pins s σ H _ I h) ?_);rintro v s2 ⟨x,H1,I1,r1,q⟩;obtain⟨d,kvs,rfl,hd,q⟩:=q;cases r1;obtain⟨t1,t2,hs⟩:=zoB I1 (.inl ⟨kvs,.inl hd⟩);refine⟨"dict","dict.items",PySem.F.plainAttrs_dict,DF,PySem.F.type_dict_items,t1,t2,DS rfl (PySem.evalArgs_none (zh3 (o:=default) t1 hs ?_))⟩;exact⟨.ref s2.heap.objs.size,_,I1.laid (a:=s2.heap.objs.size) (o:=.ext (zll s2.heap.objs.size d)) (t':=s2.toks) (fun b u e=>Ag _ e) (Ae _) (zj0 (Av _ rfl)),rfl,q _ (I1.hok.fresh (Ae _))⟩
inductive SrtI (H:Hp) (Q:VK):List V->Prop
 | mk (p d:Addr) (ts:List Spr) (h1:H p=some (.ext (zll p d))) (h2:H d=some (.dK (ts.map fun t=>(.inr t.1,.int t.2)))) (h3:2<=ts.length) (h4:ts.length < 64)
     (h5:∀ (ps:List (Addr×Spr)) (q:Array Nat) (l:Addr),ps.map (·.2)=ts->(∀ p∈ps,H p.1=none)->(ps.map (·.1)).Nodup->q.Perm (BS (Au ts.length))->Srt.Up (rank (ts.map enc)) q ts.length->updP H ps l=none ->
       Q (.ref l) (upd (updP H ps) l (.lst (q.toList.map fun i=>(ps.map fun p=>V.ref p.1).getD i .non)))):SrtI H Q [.ref p]
theorem zmC:∀ {ts:List Spr} {vs:List (Key×Value)} {j:Nat} {k:Key} {x:Value},KV (ts.map fun t=>((.inr t.1:Key),V.int t.2)) vs->vs[j]?=some (k,x)->∃ t tk,ts[j]?=some t/\k=.inr t.1/\x=.int t.2 tk
 | [],_,j,k,x,.nil,h=>by simp at h
 | t::ts,_,0,k,x,.cons r q,h=>by
   simp at h;subst h;obtain⟨r1,tk,r2⟩:=r;exact⟨t,tk,rfl,r1.symm,r2⟩
 | t::ts,_,j+1,k,x,.cons r q,h=>by
   obtain⟨t',tk,a,b⟩:=zmC (j:=j) q (by simpa using h);exact⟨t',tk,by simpa using a,b⟩
theorem zjy{h:Heap}{H:Hp}:∀ {as:List Addr} {ts:List Spr},as.length=ts.length->((as.zip ts).map (·.1))=as/\((as.zip ts).map (·.2))=ts
 | [],[],_=>⟨rfl,rfl⟩
 | a::as,t::ts,e=>by
   obtain⟨e1,e2⟩:=zjy (h:=h) (H:=H) (as:=as) (ts:=ts) (by simpa using e);exact⟨by rw[Em,Aq,e1],by rw[Em,Aq,e2]⟩
 | [],_::_,e=>by simp at e
 | _::_,[],e=>by simp at e
theorem zjz{H:Hp}:∀ {ps:List (Addr×Spr)},(∀ p∈ps,H p.1=some (tp p.2))->zls H (ps.map fun p=>V.ref p.1) (ps.map (·.2))
 | [],_=>.nil
 | p::r,h=>.cons ⟨p.1,rfl,h p Am⟩ (zjz fun q hq=>h q (Ah _ hq))
theorem zga:∀ (ps:List (Addr×Spr)),Vals (ps.map fun p=>V.ref p.1) ((ps.map (·.1)).map A0)
 | []=>.nil
 | p::r=>.cons rfl (zga r)
theorem zfK(hc:X.calm=true):zg7 X (.builtin "sorted") (fun xs H Q=>SrtI H Q xs):=by
 intro pins s σ H xs us Q I r h;obtain⟨p,d,ts,h1,h2,h3,h4,h5⟩:=h;obtain⟨u,rfl,ru⟩:=r.one;cases ru;obtain⟨vz,_,_⟩:=I.hok p _ h1;obtain⟨hz,hS,vs,rel,dd⟩:=zoJ I.hok h2;obtain⟨ep,hat⟩:=dd.dictAt;have hvl:vs.length=ts.length:=by
   have:=rel.length;simp at this;omega
 refine Dt kind_sorted plain_sorted entry_sorted (args_sorted1 _) ?_;unfold Builtin.«sorted»;refine Aa (m:=checkCount "sorted" 1 1 _) (Ad ?_);refine Aa (PySem.W.kdx_collect (A:=X.A.in1) (knd:=zby X.prog X.w) (kvs:=vs) (ep:=ep) (I.ok.hd hc) ⟨_,vz,rfl,rfl⟩ hat (by rw[hvl];exact lt64 h4) fun h1' tk as hk hl hG=>?_);refine Aa (wpAny_newList ?_ (by rw[Af,hl,hvl];exact lt64 h4));obtain⟨z1,z2⟩:=zjy (h:=h1') (H:=H) (as:=as) (ts:=ts) (by omega);have nd:((as.zip ts).map (·.1)).Nodup:=by rw[z1];exact hG.rise.imp fun h=>AB h
 have mem:∀ q∈as.zip ts,q.1∈as:=fun q hq=>by rw[<-z1];exact List.mem_map_of_mem hq
 have new:∀ q∈as.zip ts,∃ t1 t2,h1'.get? q.1=some { cls:=.type "tuple",data:=.seq #[.str q.2.1 t1,.int q.2.2 t2] }:=fun q hq=>by
   obtain⟨j,hj⟩:=List.mem_iff_getElem?.mp hq;have hz:=List.getElem?_zip_eq_some.mp hj;obtain⟨key,k,x,e1,e2,e3⟩:=hG.pairs j q.1 hz.1;obtain⟨t,tk,f1,rfl,rfl⟩:=zmC rel e1;rw[hz.2] at f1;cases f1;obtain⟨t1,rfl⟩:=zou e2;exact⟨t1,tk,e3⟩
 have J:Inv X pins σ (updP H (as.zip ts)) { s with heap:=h1',toks:=tk }:=Inv.laidP I hk (fun q hq=>BP (hG.above _ (mem q hq))) nd new;have g0:(h1'.push (seqObj "list" (as.map A0).toArray 0)).get? h1'.objs.size=some (seqObj "list" (as.map A0).toArray 0):=Av _ rfl;have fr:∀ q∈as.zip ts,H q.1=none:=fun q hq=>I.hok.fresh (BP (hG.above _ (mem q hq)));have rv:Vals ((as.zip ts).map fun p=>V.ref p.1) (as.map A0):=by
   have:=zga (as.zip ts);rw[z1] at this;exact this
 have T:zls (updP H (as.zip ts)) ((as.zip ts).map fun p=>V.ref p.1) ts:=by
   have:=zjz (zgc (H:=H) nd);rw[z2] at this;exact this
 have fr2:h1'.get? h1'.objs.size=none:=D4 (Ae _);refine Aa (Bg (A5 slot_list_sort ⟨_,g0,rfl⟩ entry_list_sort (Bj (zho (s:={ s with heap:=h1',toks:=tk }) (Q:=Q) J rv T h3 h4 (fun b u e=>Ag _ e) fr2 g0 fun q l hq hu hl=>h5 _ q l z2 fr nd hq hu hl) (fun f s' ⟨e,r⟩=>?_) fun _ _ x=>x.elim) (args_list_sort _)));subst e;exact⟨_,rfl,Ad ⟨_,rfl,r⟩⟩
end
noncomputable def kiOf:List (Key×D)->Option (List Spr)
 | []=>some []
 | (.inr x,.int i)::r=>(kiOf r).map fun ts=>(x,i)::ts
 | _=>none
noncomputable def znc(m:ME):ME:=fun ρ st=>(m ρ st).bind fun (d,s)=>match d with
 | .ref n=>match s[n]? with
   | some (.dk kvs)=>(kiOf kvs).bind fun ts=>if (decide (2<=ts.length)&&decide (ts.length < 64))=true then some (.ref s.length,s++[.lst ((zg6 ts).map siD)]) else none
   | _=>none
 | _=>none
section
variable {X:Cx} {K:Ac} {H:Hp} {io:List Addr} {st st':Sto} {pos:Pos} {m:ME}
theorem zmF:∀ {ps:List (Key×V)} {kvs:List (Key×D)} {ts:List Spr},KR Key K H io ps kvs->kiOf kvs=some ts->ps=ts.map fun t=>(.inr t.1,.int t.2)
 | _,[],ts,.nil,e=>by cases e;rfl
 | a::_,q::kvs,ts,.cons h t,e=>by
   obtain⟨a1,a2⟩:=a;unfold kiOf at e
   split at e
   . rename_i hq;cases hq
   . rename_i x i r hq;cases hq;obtain⟨us,e1,e⟩:=zai e;subst e
     cases (show a1=.inr x from h.1)
     cases (show a2=.int i from h.2)
     rw[Aq,zmF t e1]
   . cases e
theorem zhw{H:Hp}:∀ {ps:List (Addr×Spr)},(∀ p∈ps,H p.1=some (tp p.2))->Reps K H io (ps.map fun p=>V.ref p.1) ((ps.map (·.2)).map siD)
 | [],_=>rfl
 | p::r,h=>⟨_,_,rfl,⟨p.1,_,rfl,h p Am,⟨_,_,rfl,rfl,⟨_,_,rfl,rfl,rfl⟩⟩⟩,zhw fun q hq=>h q (Ah _ hq)⟩
theorem zlR{o:Expr}{p apos cpos:Pos}(hc:X.calm=true)(hg:Gl X "sorted")(hm:X.mg "sorted"=none)(ho:SE X o m)(hbase:attributeBase o "items" X.env (eval o X.env)=eval o X.env:=by rfl)(hline:(apos.endLine==cpos.line)=true:=by rfl)
   (he:starEach [Expr.Call (.Attribute o "items" apos) [] [] cpos] X.env=(false,eval (.Call (.Attribute o "items" apos) [] [] cpos) X.env)::starEach [] X.env:=by rfl) (hpl:(backTo pos (starEach [] X.env)).any (·.1)=false:=by rfl) :
   SE X (.Call (.Name "sorted" p) [.Call (.Attribute o "items" apos) [] [] cpos] [] pos) (znc m) :=
 PE.imp (zeK (zfK hc) hg hm zgE (zeo (zkw ho hbase hline) zhE he) (by decide) (by decide) he hpl) <| by
   rintro σ H Q ⟨ρ,st,io,d,st',E,S,e,k⟩;obtain⟨⟨x,s1⟩,e1,f1⟩:=zac e;clear e;refine⟨ρ,st,io,x,s1,E,S,e1,fun v H1 k1 X1 S1 R1=>?_⟩
   cases x with
   | ref n =>
     dsimp only at f1
     split at f1
     . rename_i kvs en;obtain⟨ts,e2,f2⟩:=zac f1;obtain⟨hl,e⟩:=zaq f2;cases e;rw[AA] at hl;obtain⟨a,rfl,ha⟩:=R1;obtain⟨ps,hH,r⟩:=S1.ob n a _ ha en;have ep:=zmF r e2;subst ep;refine⟨a,_,rfl,hH,fun v hv=>?_⟩;obtain⟨E2,S2⟩:=zdW (o:=.ext (zll v a)) S1 hv;refine⟨v,a,ts,zbw,by rw[zaO (zan hH hv)];exact hH,of_decide_eq_true hl.1,of_decide_eq_true hl.2,fun ps q l z fr nd hq hu hf=>?_⟩;obtain⟨E3,S3⟩:=zhb S2 fr nd;have k':=((k.on S1 X1).on S2 E2).on S3 E3;have rp:=zhw (K:=X.K) (io:=io++k1++[]++[]) (zgc (H:=upd H1 v (.ext (zll v a))) nd);rw[z] at rp;have hmm:∀ i∈q.toList,i < ts.length:=fun i hi=>by
         have:=(Array.perm_iff_toList_perm.mp hq).mem_iff.mp hi;simpa using this
       have rr:=zft rp hmm;rw[zfY hq hu] at rr;exact k'.lst S3 rr hf
     . cases f1
   | _=>cases f1
end
section
variable {X:Cx} {K:Ac} {H:Hp} {io:List Addr} {m:ME} {st st':Sto} {tg:Expr}
end
end L2.MP
namespace L2.MP
open PySem PySem.Spec
theorem zgP{t:SetTable}{es:Array (Int×Value)}{n:Nat}(hp:t.plain=false):(relayAll t es n).2.1.plain=false:=by
 unfold relayAll
 split
 . rename_i t1 od e1;have q:t1.plain=false:=by
     unfold SetTable.relaid SetTable.laid at e1
     cases hc:SetTable.layClean (SetTable.sizeAbove n - 1) (es.map (·.1)) with
     | none=>rw[hc] at e1;cases e1
     | some ow =>
       rw[hc] at e1;cases e1;exact hp
   dsimp only
   split
   . exact q
   . rfl
 . rfl
section
variable {prog:Program} {w:World} {A:Around} {E:Value->Shared->Prop} {s:Shared} {κ:Type} [DecidableEq κ] {knd:KeyKind prog w κ}
def SetD(knd:KeyKind prog w κ)(h:Heap)(a:Addr)(S:κ->Bool)(n:Nat):Prop :=
 ∃ o es ep t,h.get? a=some o/\o.ExactSet/\o.data=.set es ep t/\ElemsOf knd es.toList/\(∀ k,S k=true ↔ ∃ e∈es.toList,knd.is k e.2=true)/\es.size < scanBound/\t.fits es.size=true/\es.size=n/\(n=0\/t.plain=false)
theorem SetD.as{h:Heap}{a:Addr}{S S':κ->Bool}{n n':Nat}(x:SetD knd h a S n)(e:∀ k,S k=S' k)(en:n=n'):SetD knd h a S' n':=by
 have:S=S':=funext e;subst this;subst en;exact x
theorem zfd{h:Heap}{a:Addr}{o:Obj}{es es2:Array (Int×Value)}{ep n:Nat}{t t2:SetTable}{S:κ->Bool}(g:h.get? a=some o)(gx:o.ExactSet)(gd:o.data=.set es ep t)(k1:ElemsOf knd es2.toList)(k2:∀ k,S k=true ↔ ∃ e∈es2.toList,knd.is k e.2=true)(k3:es2.size < scanBound)(k4:t2.fits es2.size=true)(k5:es2.size=n)(k6:t2.plain=false) :
   (h.update a (EY es2 t2)).get? a=some { o with data:=.set es2 (ep+1) t2 }/\SetD knd (h.update a (EY es2 t2)) a S n:=by
 obtain⟨y,_⟩:=SetOf_store (knd:=knd) g gx gd k1 k2 k3 k4;exact⟨y,_,es2,ep+1,t2,y,gx,rfl,k1,k2,k3,k4,k5,.inr k6⟩
theorem zlj{a:Addr}{S:Str->Bool}{n:Nat}{z:Str}{tk:Tok}{Q:Bool->Shared->Prop}(x:SetD (strKind prog w) s.heap a S n)(room:n+1 < scanBound)
   (q:∀ h',BC a s.heap h'->SetD (strKind prog w) h' a (fun y=>S y || decide (y=z)) (if S z then n else n+1)->Q (!S z) { s with heap:=h' }) :
   wpAny (model prog w) A (setAddHashed a (.str z tk) ((strKind prog w).hash z)) Q E s:=by
 have key:(strKind prog w).is z (.str z tk)=true:=by
   show Df z (.str z tk)=true;simp[Df]
 obtain⟨o,es,ep,t,g,gx,gd,k1,k2,k3,k4,k5,k6⟩:=x;have r1:es.size+1 < scanBound:=by omega
 have sc:(C7 z tk).scannable=true:=rfl;unfold setAddHashed setAddHashedIn;refine Bg (Aa (Bn g gd k4 ?_));dsimp only;rw[byScan_of sc k3 k1];simp only[if_true];unfold setAddByScan;refine Aa (Aa (Dr (Aa (wpAny_setScan_of key g gd k4 k1 ?_))))
 cases hr:List.findIdx? (fun e=>(strKind prog w).is z e.2) es.toList with
 | some j =>
   dsimp only;obtain⟨hj,hp,_⟩:=List.findIdx?_eq_some_iff_getElem.mp hr;have hS:S z=true:=(k2 z).mpr ⟨es.toList[j],Be hj,hp⟩;refine Ad (Ad ?_);have es0:s={ s with heap:=s.heap }:=by cases s;rfl
   have:=q s.heap (Heap.SameBut.refl a s.heap) ⟨o,es,ep,t,g,gx,gd,k1,fun y=>by
     rw[CU,decide_eq_true_eq,<-k2 y];exact⟨fun hk=>hk.elim id (fun e=>e ▸ hS),.inl⟩,k3,k4,by rw[hS];exact k5,by rw[hS];exact k6⟩
   rw[hS] at this;rw[es0];exact this
 | none =>
   dsimp only;have hS:S z=false:=by
     cases hk:S z with
     | false=>rfl
     | true =>
       obtain⟨e,he,hp⟩:=(k2 z).mp hk;have:=List.findIdx?_eq_none_iff.mp hr e he;rw[hp] at this;cases this
   have lp:=layNew_perm t es ((strKind prog w).hash z) (.str z tk);have lf:=layNew_fits t es ((strKind prog w).hash z) (.str z tk);generalize layNew t es ((strKind prog w).hash z) (.str z tk)=L at lp lf ⊢;obtain⟨es1,t1,wd,gv⟩:=L;dsimp only at lp lf ⊢;rw[Ey] at lp;have m1:ElemsOf (strKind prog w) es1.toList:=(k1.push key sc).perm lp;have m2:=mem_push_iff key k2 lp;have sz:es1.size=n+1:=by rw[<-AH,lp.length_eq,AD,AH,k5];rfl
   have m3:es1.size < scanBound:=by rw[sz];exact room
   have fin:∀ h',BC a s.heap h'->SetD (strKind prog w) h' a (fun y=>S y || decide (y=z)) (n+1)->Q true { s with heap:=h' }:=fun h' sb y=>by
     have:=q h' sb;rw[hS] at this;exact this y
   have gw:∀ (b:Bool) {s1:Shared} {Q1:Unit->Shared->Prop},Q1 () s1->wpAny (model prog w) A (match b with | true=>rule "set.scan.the-table-gave-way" | false=>pure ()) Q1 E s1:=fun b s1 Q1 y=>by
     cases b
     . exact Ad y
     . exact Dr y
   have tail:∀ t2:SetTable,t2.fits es1.size=true->t2.plain=false->wpAny (model prog w) A (do
       storeSet a es1 t2
       if (!wd&&t2.tooFull)=true then do
           (match (relayAll t2 es1 (Bl es1.size)).2.2 with | true=>rule "set.scan.the-table-gave-way" | false=>pure ())
           storeSet a (relayAll t2 es1 (Bl es1.size)).1 (relayAll t2 es1 (Bl es1.size)).2.1
           pure (some true)
         else pure (some true)) (fun r s1=>r=some true/\∃ h',s1={ s with heap:=h' }/\BC a s.heap h'/\SetD (strKind prog w) h' a (fun y=>S y || decide (y=z)) (n+1)) E s:=fun t2 f2 p2=>by
     refine Aa (Ez g gd ?_ (EA m3));obtain⟨g1,x1⟩:=zfd (knd:=strKind prog w) g gx gd m1 m2 m3 f2 sz p2;have b1:=AZ s.heap a (EY es1 t2)
     split
     . have rp:=relayAll_perm t2 es1 (Bl es1.size);have rf:=relayAll_fits t2 es1 (Bl es1.size);have rq:=zgP (es:=es1) (n:=Bl es1.size) p2;generalize relayAll t2 es1 (Bl es1.size)=Rl at rp rf rq ⊢;obtain⟨es2,t3,gv2⟩:=Rl;dsimp only at rp rf rq ⊢;have s2:es2.size=es1.size:=by rw[<-AH,rp.length_eq,AH]
       have n2:∀ y,(S y || decide (y=z))=true ↔ ∃ e∈es2.toList,(strKind prog w).is y e.2=true:=fun y=>(m2 y).trans ⟨fun⟨e,he,u⟩=>⟨e,rp.mem_iff.mpr he,u⟩,fun⟨e,he,u⟩=>⟨e,rp.mem_iff.mp he,u⟩⟩;refine Aa (gw _ (Aa (Ez g1 rfl ?_ (EA (by rw[s2];exact m3)))));obtain⟨_,x2⟩:=zfd (knd:=strKind prog w) (n:=n+1) g1 gx rfl (m1.perm rp) n2 (s2 ▸ m3) rf (s2.trans sz) rq;exact Ad ⟨rfl,_,rfl,b1.trans (AZ _ a _),x2⟩
     . exact Ad ⟨rfl,_,rfl,b1,x1⟩
   have go:∀ t2:SetTable,t2.fits es1.size=true->t2.plain=false->wpAny (model prog w) A ((do
       storeSet a es1 t2
       if (!wd&&t2.tooFull)=true then do
           (match (relayAll t2 es1 (Bl es1.size)).2.2 with | true=>rule "set.scan.the-table-gave-way" | false=>pure ())
           storeSet a (relayAll t2 es1 (Bl es1.size)).1 (relayAll t2 es1 (Bl es1.size)).2.1
           pure (some true)
         else pure (some true))) (fun r s1=>wpAny (model prog w) A (match r with | some added=>pure added | none=>setAddHashedIn a (.str z tk) ((strKind prog w).hash z) 99999) Q E s1) E s:=fun t2 f2 p2=>Bj (tail t2 f2 p2) (fun r s1 ⟨e,h',e1,b,y⟩=>by subst e e1;exact Ad (fin h' b y)) fun _ _ e=>e
   refine Aa (gw _ ?_)
   split
   . refine Aa (Ad ?_);exact go _ (SetTable.fits_plain_off lf) rfl
   . rename_i np;refine Aa (Ad ?_);exact go _ lf (by simpa using np)
end
end L2.MP
namespace L2.MP
open PySem PySem.Spec PyProof.Rows
theorem zb9{α:Type}:∀ {l:List α} {i:Nat} (h:i < l.length),(l[i]::l.eraseIdx i).Perm l
 | x::l,0,h=>Fc _
 | x::l,i+1,h=>by
   rw[DH,DX];exact (Fd _ _ _).trans (D1 _ (zb9 (by simpa using h)))
theorem zjA{α:Type}(next:Nat->Nat):∀ (f k:Nat) (left:List α) (out:Array α),f=left.length->(En next f k left out).toList.Perm (out.toList++left)
 | 0,k,left,out,e=>by
   have:left=[]:=List.length_eq_zero_iff.mp e.symm;subst this;unfold En;simp
 | f+1,k,left,out,e=>by
   have hl:next k % left.length < left.length:=Nat.mod_lt _ (by omega);unfold En;rw[Aj hl];dsimp only;refine (zjA next f (k+1) _ _ (by rw[Dm hl];omega)).trans ?_;rw[Ey,Ai];exact CI _ (zb9 hl)
theorem ziR{α:Type}(next:Nat->Nat)(xs:Array α):(pickOrder next xs).toList.Perm xs.toList:=by
 have:=zjA next xs.size 0 xs.toList #[] (by simp);simpa[pickOrder] using this
theorem zjR{α:Type}{M:Model}{A:Around}{E:Value->Shared->Prop}:∀ (n:Nat) (xs:List α) (s:Shared) (Q:List α->Shared->Prop),n=xs.length->(∀ ys d,ys.Perm xs->Q ys { s with drawn:=d })->wpAny M A (drawOrder n xs) Q E s
 | 0,xs,s,Q,e,h=>by
   have:xs=[]:=List.length_eq_zero_iff.mp e.symm;subst this;exact Ad (h [] s.drawn (Fc _))
 | n+1,[],s,Q,e,h=>by cases e
 | n+1,x::xs,s,Q,e,h=>by
   unfold drawOrder;refine Aa fun Γ p hΓ=>⟨by simp,?_⟩
   generalize hi:M.w.draws .order (s.drawn.get .order) % (x::xs).length=i;have hl:i < (x::xs).length:=by rw[<-hi];exact Nat.mod_lt _ (by simp)
   show wpAny M A (match (x::xs)[i]? with | some y=>(do return y::(<-drawOrder n ((x::xs).eraseIdx i))) | none=>unsupported "internal:drawOrder") Q E { s with drawn:=s.drawn.bump .order };rw[Aj hl];dsimp only;refine Aa (zjR n _ _ _ (by rw[Dm hl];simp at e ⊢;omega) fun ys d hp=>Ad (h _ d ?_));exact (D1 _ hp).trans (zb9 hl)
theorem zbt:Slot "set_iterator" "__next__" "set_iterator.__next__":=.of (owner:="set_iterator") (n:="__next__") (by rw[typeLookup_type,D2];kernel_rfl) (by decide +kernel) (by decide +kernel) (by decide +kernel) (by first | exact .inl (by decide +kernel) | exact .inr (by decide +kernel)) (by rw[D3];kernel_rfl)
theorem zdn:Slot "set_iterator" "__iter__" "set_iterator.__iter__":=.of (owner:="set_iterator") (n:="__iter__") (by rw[typeLookup_type,D2];kernel_rfl) (by decide +kernel) (by decide +kernel) (by decide +kernel) (by first | exact .inl (by decide +kernel) | exact .inr (by decide +kernel)) (by rw[D3];kernel_rfl)
theorem zc6:entryFor table "set_iterator.__next__"=some Builtin.«set_iterator.__next__»:=entryFor_of_tree (by kernel_rfl)
theorem zds(a:Value):argsOk "set_iterator.__next__" ⟨[a],[]⟩:=by unfold argsOk;kernel_rfl
theorem ze4:entryFor table "set.__iter__"=some Builtin.«frozenset.__iter__»:=entryFor_alias (id':="frozenset.__iter__") (by kernel_rfl) rfl (by decide +kernel) (by kernel_rfl)
section
variable {prog:Program} {w:World} {A:Around} {E:Value->Shared->Prop} {s:Shared}
def zjY(I a:Addr)(first:Value)(n ep i:Nat)(h:Heap):Prop:=∃ o,h.get? I=some o/\o.cls=.type "set_iterator"/\o.data=.fields #[first,.int i 0,.ref a,.int n 0,.int ep 0]
theorem zjY.ty{I a:Addr}{first:Value}{n ep i:Nat}(x:zjY I a first n ep i s.heap):s.TypeIs (.ref I) "set_iterator":=let ⟨o,e,c,_⟩:=x;⟨o,e,c⟩
end
inductive WalkAt (w:World) (a:Addr) (es:Array (Int×Value)) (ep:Nat) (vs:List Value):Value->Heap->Prop
 | text {h:Heap} (hb:w.params.followText "set-order"=true) (e:vs=(pickOrder (w.params.setOrder a ep) es).toList.map (·.2)):WalkAt w a es ep vs (.int 0 0) h
 | drawn {h:Heap} {T:Addr} {ps:List Nat} (hT:IsTup h T (ps.map fun (i:Nat)=>rawInt i).toArray) (hl:ps.length=vs.length) (e:∀ (i p:Nat),ps[i]?=some p->∃ q:Int×Value,es[p]?=some q/\vs[i]?=some q.2):WalkAt w a es ep vs (.ref T) h
section
variable {prog:Program} {w:World} {A:Around} {E:Value->Shared->Prop} {s:Shared}
theorem zkd{I a:Addr}{first:Value}{n ep i:Nat}{o:Obj}{es:Array (Int×Value)}{t:SetTable}{vs:List Value}{x:Value}{Q:Option Value->Shared->Prop}(hI:zjY I a first n ep i s.heap)(ho:s.heap.get? a=some o)(hd:o.data=.set es ep t)(hf:t.fits es.size=true)(hn:es.size=n)
   (hw:WalkAt w a es ep vs first s.heap) (hx:vs[i]?=some x) (hQ:∀ h',zjY I a first n ep (i+1) h'->BC I s.heap h'->Q (some x) { s with heap:=h' }):wpAny (model prog w) A (pyNext (.ref I)) Q E s:=by
 obtain⟨oI,eI,cI,dI⟩:=id hI;unfold pyNext;refine Aa (wpAny_attempt (Bm (name:=B9 "__next__") hI.ty zbt (A5 zbt hI.ty zc6 ?_ (zds _))));unfold Builtin.«set_iterator.__next__»;refine Aa (Ad ?_);refine Aa (wpAny_fieldsOf eI dI ?_);dsimp only;refine Aa (C4 ho hd hf ?_);rw[if_neg (by rw[hn];simp)];have hIa:a≠I:=fun z=>by
   subst z;rw[ho] at eI;cases eI;rw[hd] at dI;cases dI
 cases hw with
 | text hb e =>
   dsimp only;subst e;rw[Ay] at hx;obtain⟨q,hq,rfl⟩:=zai hx;unfold setNext;refine Aa (Aa (Bn ho hd hf ?_));unfold setsByText;refine Aa (Aa (BA (Ad ?_)));refine Bt (fun _=>?_) (fun z=>absurd hb z);dsimp only;rw[if_neg (by simp)];unfold setWalk;refine Aa (Aa (Bn ho hd hf ?_));unfold setsByText;refine Aa (Aa (BA (Ad ?_)));refine Bt (fun _=>?_) (fun z=>absurd hb z);refine Aa (BA (Ad (Ad ?_)));have:(pickOrder (w.params.setOrder a ep) es)[(i:Int).toNat]?=some q:=by rw[A7,<-AL];exact hq
   show wpAny _ _ (match ((pickOrder (w.params.setOrder a ep) es)[(i:Int).toNat]?).map fun e=>(e.2,(0:Int).toNat) with | some (x,next)=>_ | none=>_) _ _ _;rw[this];show wpAny _ _ (setField (A0 I) 0 (rawInt 0) >>= _) _ _ _;refine Aa (Bz eI dI (by simp) ?_);have e2:=A8 (Fk (·.setIfInBounds 0 (rawInt 0))) eI (BJ (AW dI _));refine Aa (Bz e2 (AW dI _) (by simp) (Ad ⟨q.2,rfl,Ad (hQ _ ?_ ((AZ ..).trans (AZ ..)))⟩));refine⟨_,A8 _ e2 (BJ (AW (AW dI _) _)),?_,?_⟩
   . rw[CB,CB];exact cI
   . rw[AW (AW dI _)];simp[rawInt]
 | drawn hT hl e =>
   rename_i T ps;dsimp only;obtain⟨oT,eT,cT,m,dT⟩:=hT;refine Aa (C5 eT dT ?_);have hi:i < ps.length:=by rw[hl];exact (List.getElem?_eq_some_iff.mp hx).1
   obtain⟨q,h1,h2⟩:=e i _ (Aj hi);rw[h2] at hx;cases hx;have:((ps.map fun (i:Nat)=>rawInt i).toArray)[(i:Int).toNat]?=some (rawInt (ps[i]:Nat)):=by simp[hi]
   dsimp only;rw[this];show wpAny _ _ (setNextDrawn a ((ps[i]:Nat):Int).toNat _ >>= _) _ _ _;unfold setNextDrawn;refine Aa (Aa (Bn ho hd hf ?_));dsimp only;rw[if_neg (by simp),A7,h1];refine Ad ?_;refine Aa (Bz eI dI (by simp) (Ad ⟨q.2,rfl,Ad (hQ _ ?_ (AZ ..))⟩));refine⟨_,A8 _ eI (BJ (AW dI _)),(CB ..).trans cI,?_⟩;rw[AW dI];simp[rawInt]
theorem zlJ{I a:Addr}{first:Value}{n ep i:Nat}{o:Obj}{es:Array (Int×Value)}{t:SetTable}{vs:List Value}{Q:Option Value->Shared->Prop}(hh:A.handled=none)(hI:zjY I a first n ep i s.heap)(ho:s.heap.get? a=some o)(hd:o.data=.set es ep t)(hf:t.fits es.size=true)(hn:es.size=n)
   (hw:WalkAt w a es ep vs first s.heap) (hx:vs[i]?=none) (hQ:∀ h',DV I s.heap h'->Q none { s with heap:=h' }):wpAny (model prog w) A (pyNext (.ref I)) Q E s:=by
 obtain⟨oI,eI,cI,dI⟩:=id hI;unfold pyNext;refine Aa (wpAny_attempt (Bm (name:=B9 "__next__") hI.ty zbt (A5 zbt hI.ty zc6 ?_ (zds _))));unfold Builtin.«set_iterator.__next__»;refine Aa (Ad ?_);refine Aa (wpAny_fieldsOf eI dI ?_);dsimp only;refine Aa (C4 ho hd hf ?_);rw[if_neg (by rw[hn];simp)];have fin:∀ (h':Heap),DV I s.heap h'->wpAny (model prog w) A.in1 (newExc (.type "StopIteration") [] >>= fun e=>(raiseNew e:Sem Fin)) (fun fin s'=>∃ v,fin=Fo (Fp v)/\wpAny (model prog w) A (pure (some v)) Q E s') (fun e s'=>wpAny (model prog w) A (isInstance e (BY "StopIteration") >>= fun b=>if b=true then pure none else throw e) Q E s') { s with heap:=h' }:=fun h' hk=>by
   refine Aa ?_;simp only[newExc,newTuple];refine Aa (AQ ?_ (by size_fits));refine Aa (m:=firstArgMember _ _) (wpAny_of_eq (a:=Bi) (by first | rfl | (simp only[firstArgMember];rfl)) ?_);refine AQ ?_ (by size_fits);simp only[raiseNew];refine Aa (wpAny_handled ?_);rw[show A.in1.handled=none from hh];refine Aa (Ad (wpAny_throw ?_));refine Aa (wpAny_isInstance (T:="StopIteration") (b:=true) ⟨_,Av _ rfl,rfl⟩ isSubtype_stop ?_);exact Ad (hQ _ ((hk.push _).push _))
 cases hw with
 | text hb e =>
   dsimp only;subst e;rw[Ay] at hx;have hq:(pickOrder (w.params.setOrder a ep) es).toList[i]?=none:=by
     cases hz:(pickOrder (w.params.setOrder a ep) es).toList[i]? with
     | none=>rfl
     | some z=>rw[hz] at hx;cases hx
   unfold setNext;refine Aa (Aa (Bn ho hd hf ?_));unfold setsByText;refine Aa (Aa (BA (Ad ?_)));refine Bt (fun _=>?_) (fun z=>absurd hb z);dsimp only;rw[if_neg (by simp)];unfold setWalk;refine Aa (Aa (Bn ho hd hf ?_));unfold setsByText;refine Aa (Aa (BA (Ad ?_)));refine Bt (fun _=>?_) (fun z=>absurd hb z);refine Aa (BA (Ad (Ad ?_)));have:(pickOrder (w.params.setOrder a ep) es)[(i:Int).toNat]?=none:=by rw[A7,<-AL];exact hq
   show wpAny _ _ (match ((pickOrder (w.params.setOrder a ep) es)[(i:Int).toNat]?).map fun e=>(e.2,(0:Int).toNat) with | some (x,next)=>_ | none=>_) _ _ _;rw[this];show wpAny _ _ (setField (A0 I) 2 Bi >>= _) _ _ _;exact Aa (Bz eI dI (by simp) (fin _ (AZ ..).extBut))
 | drawn hT hl e =>
   rename_i T ps;dsimp only;obtain⟨oT,eT,cT,m,dT⟩:=hT;refine Aa (C5 eT dT ?_);have hi:ps.length<=i:=by rw[hl];exact List.getElem?_eq_none_iff.mp hx
   have:((ps.map fun (i:Nat)=>rawInt i).toArray)[(i:Int).toNat]?=none:=by simp[hi]
   dsimp only;rw[this];show wpAny _ _ (setField (A0 I) 0 (rawInt 0) >>= _) _ _ _;refine Aa (Bz eI dI (by simp) ?_);have e2:=A8 (Fk (·.setIfInBounds 0 (rawInt 0))) eI (BJ (AW dI _));exact Aa (Bz e2 (AW dI _) (by simp) (fin _ ((AZ ..).trans (AZ ..)).extBut))
end
theorem zhx{es:Array (Int×Value)}{ps:List Nat}(h:ps.Perm (Au es.size)):∃ vs:List Value,vs.Perm (es.toList.map (·.2))/\ps.length=vs.length/\∀ (i p:Nat),ps[i]?=some p->∃ q:Int×Value,es[p]?=some q/\vs[i]?=some q.2:=by
 refine⟨ps.map fun p=>(es.getD p (0,.none)).2,?_,by simp,fun i p hp=>?_⟩
 . refine (h.map _).trans (List.Perm.of_eq ?_);apply EB;intro i;rw[Ay,Ay]
   by_cases hi:i < es.size
   . rw[C3 hi];simp[hi]
   . rw[Cc (by simp;omega)];simp[hi]
 . have hm:p < es.size:=by
     have:=h.mem_iff.mp (AV hp);simpa using this
   refine⟨es[p],by simp[hm],?_⟩;rw[Ay,hp];simp[hm]
section
variable {prog:Program} {w:World} {A:Around} {E:Value->Shared->Prop} {s:Shared}
theorem zkg{a:Addr}{n ep:Nat}{o:Obj}{es:Array (Int×Value)}{t:SetTable}{Q:Value->Shared->Prop}(ho:s.heap.get? a=some o)(hx:o.ExactSet)(hd:o.data=.set es ep t)(hf:t.fits es.size=true)(hn:es.size=n)(h2:2<=n)(h3:n < 4096)(hp:t.plain=false)
   (hQ:∀ h' d I first vs,(∀ b u,s.heap.get? b=some u->h'.get? b=some u)->s.heap.objs.size<=I->zjY I a first n ep 0 h'->WalkAt w a es ep vs first h'->vs.Perm (es.toList.map (·.2))->Q (.ref I) { s with heap:=h',drawn:=d }):wpAny (model prog w) A (pyIter (.ref a)) Q E s:=by
 have ty:s.TypeIs (.ref a) "set":=⟨o,ho,hx.1⟩
 refine EC ty F.slot_set_iter (A5 F.slot_set_iter ty ze4 ?_ (F.args_set_iter_1 _));unfold Builtin.«frozenset.__iter__» Ft slotArgs;simp only[List.isEmpty_nil,D9,Bf,↓reduceIte,bind_assoc,DJ,bne_self_eq_false];unfold Fq Fs;refine Aa (Ad ?_);dsimp only;refine Aa (Ad ?_);refine Aa (Aa (C4 ho hd hf (Ad ?_)));unfold setDrawn;refine Aa (Aa (Bn ho hd hf ?_));dsimp only;unfold setsByText;refine Aa (Aa (BA (Ad (Ad ?_))));have lay:∀ (first:Value) (vs:List Value) (h':Heap) (d:Drawn),(∀ b u,s.heap.get? b=some u->h'.get? b=some u)->s.heap.objs.size<=h'.objs.size->(∀ h2:Heap,(∀ b u,h'.get? b=some u->h2.get? b=some u)->WalkAt w a es ep vs first h2)->vs.Perm (es.toList.map (·.2)) ->
     wpAny (model prog w) A.in1 (setEpoch a >>= fun e=>newFields "set_iterator" [first,rawInt 0,.ref a,rawInt es.size,rawInt e] >>= fun v=>(ret v:Sem Fin)) (fun fin s'=>∃ v,fin=Fo (Fp v)/\∃ T' r,s'.TypeIs v T'/\typeLookup (.type T') (B9 "__next__")=pure (some r)/\Q v s') E { s with heap:=h',drawn:=d }:=fun first vs h' d hk hs hw hv=>by
   unfold setEpoch;refine Aa (Aa (Bn (hk _ _ ho) hd hf (Ad ?_)));refine Aa (AQ (Ad ⟨_,rfl,"set_iterator",_,⟨_,Av _ rfl,rfl⟩,zbt.lookup,?_⟩));subst hn;exact hQ _ d _ first vs (fun b u e=>Ag _ (hk b u e)) hs ⟨_,Av _ rfl,rfl,rfl⟩ (hw _ fun b u e=>Ag _ e) hv
 refine Bt (fun z=>?_) (fun z=>?_)
 . refine Aa (zjR _ _ _ _ (by simp) fun ps d hps=>?_);obtain⟨vs,v1,v2,v3⟩:=zhx hps;have hl:ps.length=n:=by rw[hps.length_eq,BM,hn]
   refine Aa (AQ ?_ (by show _<=_;simp[hl];unfold sizeLine;omega));exact lay _ vs _ d (fun b u e=>Ag _ e) (by rw[Bq];exact Ck _) (fun h2 k=>.drawn ⟨_,k _ _ (Av _ rfl),rfl,_,rfl⟩ v2 v3) v1
 . have hb:w.params.followText "set-order"=true:=by
     cases hc:w.params.followText "set-order" with
     | true=>rfl
     | false =>
       refine absurd ?_ z;show (!(w.params.followText "set-order")&&(!t.plain&&decide (es.size > 1)))=true;rw[hc,hp,decide_eq_true (by omega)];rfl
   refine Aa (Ad ?_);exact lay _ _ s.heap s.drawn (fun _ _ e=>e) (Ae _) (fun h2 _=>.text hb rfl) ((ziR _ es).map _)
end
theorem ze3:entryFor table "set_iterator.__iter__"=some Builtin.«dict_keyiterator.__iter__»:=entryFor_alias (id':="dict_keyiterator.__iter__") (by kernel_rfl) rfl (by decide +kernel) (by kernel_rfl)
theorem zfL(a:Value):argsOk "set_iterator.__iter__" ⟨[a],[]⟩:=by unfold argsOk;kernel_rfl
noncomputable def zjq(I a:Addr):Value->List Addr
 | .ref T=>[I,a,T]
 | _=>[I,a]
def zpS(a:Addr)(es:Array (Int×Value))(ep:Nat)(t:SetTable)(h:Heap):Prop:=∃ o,h.get? a=some o/\o.data=.set es ep t
section
variable {prog:Program} {w:World} {A:Around} {E:Value->Shared->Prop} {s:Shared}
theorem WalkAt.on{a:Addr}{es:Array (Int×Value)}{ep:Nat}{vs:List Value}{first:Value}{h h':Heap}{I:Addr}(x:WalkAt w a es ep vs first h)(k:∀ b∈zjq I a first,∀ o,h.get? b=some o->h'.get? b=some o):WalkAt w a es ep vs first h':=by
 cases x with
 | text hb e=>exact .text hb e
 | drawn hT hl e =>
   obtain⟨o,e1,r⟩:=hT;exact .drawn ⟨o,k _ (by simp[zjq]) o e1,r⟩ hl e
theorem WalkAt.apart{a:Addr}{es:Array (Int×Value)}{ep n i:Nat}{vs:List Value}{first:Value}{h:Heap}{I:Addr}{h':Heap}(x:WalkAt w a es ep vs first h)(y:zjY I a first n ep i h)(k:∀ b o,b ∉ [I]->h.get? b=some o->h'.get? b=some o):WalkAt w a es ep vs first h':=by
 cases x with
 | text hb e=>exact .text hb e
 | drawn hT hl e =>
   obtain⟨o,e1,c1,r⟩:=hT;obtain⟨o2,e2,c2,_⟩:=y;refine .drawn ⟨o,k _ o (fun z=>?_) e1,c1,r⟩ hl e;rw[List.mem_singleton.mp z,e2] at e1;cases e1;rw[c2] at c1;exact absurd (Fe c1) (by decide)
theorem ziB(hh:A.handled=none){I a:Addr}{first:Value}{n ep:Nat}{es:Array (Int×Value)}{t:SetTable}{vs:List Value}(hf:t.fits es.size=true)(hn:es.size=n)(hv:vs.length=n)(hne:a≠I) :
   Walks prog w A I (zjq I a first) [I] n (fun i v=>vs[i]?=some v) (fun i h=>zjY I a first n ep i h/\zpS a es ep t h/\WalkAt w a es ep vs first h) where
 sub:=fun b hb=>by
   rw[List.mem_singleton.mp hb];unfold zjq
   split <;> simp
 frame:=fun i h h' ⟨⟨o,e,r⟩,⟨o2,e2,r2⟩,x⟩ k=>⟨⟨o,k I (by unfold zjq;split <;> simp) o e,r⟩,⟨o2,k a (by unfold zjq;split <;> simp) o2 e2,r2⟩,x.on k⟩
 item:=fun i s Q E hi ⟨st,⟨o,e,d⟩,x⟩ hQ=>by
   have hx:vs[i]?=some vs[i]:=Aj (by omega);refine zkd st e d hf hn x hx fun h' st' sb=>?_;have k:∀ b o,b ∉ [I]->s.heap.get? b=some o->h'.get? b=some o:=fun b o hb e=>sb.extBut b o (fun z=>hb (by simp[z])) e;exact hQ _ h' s.toks hx ⟨st',⟨o,k _ _ (by simpa using hne) e,d⟩,x.apart st k⟩ k
 done:=fun s Q E ⟨st,⟨o,e,d⟩,x⟩ hQ=>zlJ hh st e d hf hn x (Cc (by omega)) fun h' he=>hQ h' s.toks fun b o hb e=>he b o (fun z=>hb (by simp[z])) e
 self:=fun i s Q E ⟨st,_,_⟩ hQ=>by
   refine EC st.ty zdn (A5 zdn st.ty ze3 ?_ (zfL _));show wpAny _ _ (ret (.ref I)) _ _ s;exact Ad ⟨_,rfl,"set_iterator",_,st.ty,zbt.lookup,hQ⟩
theorem zkY{r:Addr}{Q:Bool->Shared->Prop}(hT:s.TypeIs (.ref r) "set")(h:Q false s):wpAny (model prog w) A (Dc (.ref r)) Q E s:=by
 unfold Dc;refine Aa (wpAny_specialOf hT F.slot_set_len.lookup ?_);generalize hid:("set.__len__":String)=id0
 wp_delta
 rw[show splitId id0=some ("set","__len__") from by subst hid;decide +kernel];subst hid;refine Aa (wpAny_isInstance (T:="set") (b:=true) hT (by rw[D3];kernel_rfl) (Bt (fun z=>absurd z (by decide)) fun _=>Bt (fun _=>?_) fun z=>absurd (by decide +kernel) z));exact Aa (CO hT (Ad h))
theorem zgL{a:Addr}{n ep:Nat}{o:Obj}{es:Array (Int×Value)}{t:SetTable}{R:List Value->Shared->Prop}(hh:A.handled=none)(ho:s.heap.get? a=some o)(hx:o.ExactSet)(hd:o.data=.set es ep t)(hf:t.fits es.size=true)(hn:es.size=n)(h2:2<=n)(h3:n < 4096)(hp:t.plain=false)
   (h:∀ h' d tk vs,(∀ b u,s.heap.get? b=some u->h'.get? b=some u)->s.heap.objs.size < h'.objs.size->vs.Perm (es.toList.map (·.2))->R vs { s with heap:=h',drawn:=d,toks:=tk }):wpAny (model prog w) A (collect (.ref a)) R E s:=by
 have hlt:a < s.heap.objs.size:=An ho;have hnl:n<=sizeLine:=by unfold sizeLine;omega
 unfold collect;refine Aa (wpAny_runValue (Cs PyProof.Rows.entry_proto_collect' ?_));rw[Cf F.plain_proto_collect _];show wpAny _ A.in1 (newList [] >>= fun l=>again (.builtin "list.__iadd__" ⟨[l,.ref a],[]⟩)) _ _ s;refine Aa (AQ (Ad ⟨Ea F.plain_list_iadd _,Cs entry_list_iadd' ?_⟩));rw[Cf F.plain_list_iadd _];generalize hl:s.heap.objs.size=l at *;have g1:(s.heap.push { cls:=.type "list",data:=.seq ([]:List Value).toArray }).get? l=some { cls:=.type "list",data:=.seq #[] }:=by subst hl;exact Av _ rfl
 have oa:(s.heap.push { cls:=.type "list",data:=.seq ([]:List Value).toArray }).get? a=some o:=Ag _ ho;have k1:∀ b u,s.heap.get? b=some u->(s.heap.push { cls:=.type "list",data:=.seq ([]:List Value).toArray }).get? b=some u:=fun b u e=>Ag _ e;generalize s.heap.push { cls:=.type "list",data:=.seq ([]:List Value).toArray }=h1 at *;show wpAny _ A.in1 (De (.ref l) (.ref a) (.ref l)) _ _ _;unfold De;have ty:({ s with heap:=h1 }:Shared).TypeIs (.ref a) "set":=⟨o,oa,hx.1⟩
 refine Aa (CO (T:="set") ty ?_);have q1:DC (.ref l) (.ref a)=false:=by simp[DC,CL hlt]
 have q2:(BY "set"==BY "list")=false:=by decide
 have q3:(BY "set"==BY "tuple")=false:=by decide
 simp only[q1,q2,q3,Fi,Bf,if_false];refine Aa (zkg oa hx hd hf hn h2 h3 hp fun h4 d I first vs k4 hI si wa pv=>?_);have hlI:l≠I:=AB (Aw (An g1) hI);refine Aa (Bg (zkY ⟨o,k4 _ _ oa,hx.1⟩ ?_));refine Bt (fun _=>?_) (fun z=>absurd (by decide +kernel) z);refine Aa (Dr (Aa ?_));have g4:=k4 _ _ g1;show wpAny _ _ (updateSeq l (·.push .none) >>= fun _=>updateSeq l (·.pop)) _ _ _;refine Aa (wpAny_updateSeq g4 rfl ?_);have g5:=A8 (BZ (·.push Bi)) g4 rfl;refine wpAny_updateSeq (hz:=by seq_fits) g5 rfl ?_;have g6:=A8 (BZ (·.pop)) g5 rfl;have k6:∀ b u,b≠l->h4.get? b=some u->((h4.update l (BZ (·.push Bi))).update l (BZ (·.pop))).get? b=some u:=fun b u hb e=>(B5 _ _ (A9 hb)).trans ((B5 _ _ (A9 hb)).trans e);have hIa:a≠I:=AB (Aw (An oa) hI);have hlf:l ∉ zjq I a first:=fun z=>by
   have:l=I\/l=a\/first=.ref l:=by
     unfold zjq at z
     split at z
     . simp at z
       rcases z with z | z | z
       . exact .inl z
       . exact .inr (.inl z)
       . exact .inr (.inr (by rw[z]))
     . simp at z
       rcases z with z | z
       . exact .inl z
       . exact .inr (.inl z)
   rcases this with z | z | z
   . exact hlI z
   . exact absurd z (CL hlt)
   . cases wa with
     | text=>cases z
     | drawn hT _ _ =>
       cases z;obtain⟨u,e,c,_⟩:=hT;rw[g4] at e;cases e;exact absurd (Fe c) (by decide)
 have W:=ziB (prog:=prog) (w:=w) (A:=A.in1) hh (I:=I) (a:=a) (first:=first) (n:=n) (ep:=ep) (es:=es) (t:=t) (vs:=vs) hf hn (by rw[pv.length_eq,Af,AH];exact hn) hIa;refine Ad ⟨Ea F.plain_extend_loop _,codeAny_extend_loopS W.toS hnl l hlf _ n 0 _ #[] _ rfl (A4 _) (W.frame 0 h4 _ ⟨si,⟨o,k4 _ _ oa,hd⟩,wa⟩ fun b hb u e=>k6 b u (fun z=>hlf (z ▸ hb)) e) g6 (ItemsOf.nil _) fun s' acc c hm hS hacc=>?_⟩;rw[Moved.eq_with hm];show wpAny _ A (load l >>= _) _ _ _;refine Aa (wpAny_load hS (Ad ?_));have ev:acc.toList=vs:=by
   apply EB;intro i
   by_cases hi:i < n
   . obtain⟨e1,e2⟩:=hacc;have h4:acc[i]?=some acc[i]:=Array.getElem?_eq_getElem (by omega);rw[AL,h4];exact (e2 i _ h4).symm
   . rw[Cc (by rw[AH,hacc.1];omega),Cc (by rw[pv.length_eq,Af,AH];omega)]
 rw[ev];refine h s'.heap d s'.toks vs (fun b u e=>hm.heap b u (fun z=>?_) (k6 b u ?_ (k4 b u (k1 b u e)))) (An hS) pv
 . rcases List.mem_cons.mp z with z | z
   . exact absurd (An e) (by rw[z,hl];exact AR _)
   . exact absurd (Aw (An (k1 b u e)) hI) (by rw[List.mem_singleton.mp z];exact AR _)
 . exact fun z=>absurd (An e) (by rw[z,hl];exact AR _)
end
end L2.MP
namespace L2.MP
open PySem PySem.Spec
section
variable {prog:Program} {w:World} {A:Around} {R:Result->Shared->Prop} {I:Addr} {fp wr:List Addr} {G:Array GenState->Array GenState->Prop} {n:Nat} {P:Nat->Value->Prop} {St:Nat->Shared->Prop}
theorem ziG(W:WalksS prog w A.in1 I fp wr G n P St)(Z:Addr)(hZ:Z ∉ fp)(val:Nat->Str)(hv:∀ i v,P i v->∃ t,v=.str (val i) t)(hb:n+1 < scanBound) :
   ∀ (k i:Nat) (s:Shared),n - i=k->i<=n->St i s->SetD (strKind prog w) s.heap Z (fun x=>decide (x∈met val i)) (met val i).length ->
     (∀ s',Moved (Z::wr) G s s'->SetD (strKind prog w) s'.heap Z (fun x=>decide (x∈met val n)) (met val n).length->R (.ok (.ret .none)) s') ->
     codeAny (model prog w) A (.builtin "set.update.loop" ⟨[.ref Z,.ref I],[]⟩) R s:=by
 have hw:Z ∉ wr:=fun q=>hZ (W.sub _ q);have up:∀ b∈wr,b∈Z::wr:=fun b q=>Ah _ q;have keep:∀ {s s':Shared} {S:Str->Bool} {m:Nat},Moved wr G s s'->SetD (strKind prog w) s.heap Z S m->SetD (strKind prog w) s'.heap Z S m:=fun hm x=>by
   obtain⟨o,es,ep,t,ho,r⟩:=x;exact⟨o,es,ep,t,hm.heap Z _ hw ho,r⟩
 intro k
 induction k with
 | zero =>
   intro i s hk hi hs x go;have e:i=n:=by omega
   subst e;refine Cs Cw ?_;rw[Cf BG _];show wpAny _ A.in1 (pyNext (.ref I) >>= _) _ _ s;refine Aa (W.done s _ _ hs fun s' hm=>?_);exact Ad (go s' (hm.mono up) (keep hm x))
 | succ k ih =>
   intro i s hk hi hs x go;have lt:i < n:=by omega
   refine Cs Cw ?_;rw[Cf BG _];show wpAny _ A.in1 (pyNext (.ref I) >>= _) _ _ s;refine Aa (W.item i s _ _ lt hs fun v s1 hP hs1 hm=>?_);obtain⟨vt,rfl⟩:=hv i v hP;have v1:=strKind_is prog w (val i) vt;have x1:=keep hm x;show wpAny _ A.in1 (holding [_] (setAdd Z _) >>= _) _ _ s1;refine Aa (Bg ?_);unfold setAdd;refine Bg (Aa ((strKind prog w).pyHash (k:=val i) v1 ?_));have room:(met val i).length+1 < scanBound:=by have:=zjE val i;omega
   refine zlj (s:={ s1 with toks:=s1.toks+1 }) x1 room fun h' sb x2=>?_;have x3:SetD (strKind prog w) h' Z (fun y=>decide (y∈met val (i+1))) (met val (i+1)).length:=SetD.as x2 (fun y=>(zmz val i y).symm) (zkL val i).symm;refine Ad ⟨Ea BG _,ih (i+1) _ (by omega) lt (W.frame _ s1 _ _ hs1 (Ck _) fun b hb o e=>?_) x3 fun s2 hm2 x4=>?_⟩
   . rw[sb.2 b (fun q:b=Z=>hZ (by rw[<-q];exact hb))];exact e
   . refine go s2 (Moved.trans W.gtrans ((hm.mono up).then_heap (Ck _) fun b o hb e=>?_) hm2) x4;rw[sb.2 b (fun q:b=Z=>hb (by rw[q];exact Am))];exact e
end
section
variable {prog:Program} {w:World} {A:Around} {E:Value->Shared->Prop} {s:Shared}
theorem ziH{l:Addr}{its:Array Value}{val:Nat->Str}{Q:Value->Shared->Prop}(hh:A.handled=none)(hl:s.heap.IsList l its)(hv:∀ (i:Nat) (v:Value),its[i]?=some v->∃ t,v=.str (val i) t)(hb:its.size+1 < scanBound)
   (go:∀ (h':Heap) (tk:Nat),SetD (strKind prog w) h' s.heap.objs.size (fun x=>decide (x∈met val its.size)) (met val its.size).length->(∀ b o,b < s.heap.objs.size->s.heap.get? b=some o->h'.get? b=some o)->Q (.ref s.heap.objs.size) { s with heap:=h',toks:=tk }) :
   wpAny (model prog w) A (call (.type "set") [.ref l]) Q E s:=by
 obtain⟨c,tl,hmro⟩:=F.called_set.mro;have q1:=F.called_set.made;have q2:=F.called_set.sub;refine wpAny_call (codeAny_of_tree ?_);show wpAny _ _ (callAny (.type "set") _) _ _ _;refine Ad ⟨Code.quiet_builtin _ (by decide +kernel),Cs F.entry_type_call ?_⟩;rw[Around.under_plain (weight_type_call_type "set" [.ref l] []) rfl];have q3:=F.called_set.notType;have q4:=F.called_set.canCreate;have q5:=F.typeCall_set_1 (.ref l)
 repeat (any_goals (first | assumption | wp_step))
 refine CM (code_set_new_1 (.ref l) (E:=E) (Q₁:=fun obj s₁=>∃ led:Bool,obj=.ref s.heap.objs.size/\s₁={ s with heap:=s.heap.push (zix led) }) fun led=>⟨led,rfl,rfl⟩) fun r s1 hr=>?_
 cases r with
 | error e=>exact hr
 | ok fl =>
   cases fl with
   | ret obj =>
     obtain⟨led,rfl,rfl⟩:=hr;have at0:(s.heap.push (zix led)).get? s.heap.objs.size=some (zix led):=Av _ rfl;have ty:Shared.TypeIs { s with heap:=s.heap.push (zix led) } (.ref s.heap.objs.size) "set":=⟨_,at0,rfl⟩
     have q6:=F.called_set.init.lookup;have q7:=F.called_set.init.bind (.ref s.heap.objs.size)
     repeat (any_goals (first | assumption | wp_step))
     refine CM (codeAny_call_builtin (R:=wants (fun r s₂=>r=.none/\∃ h' tk,s₂={ s with heap:=h',toks:=tk }/\SetD (strKind prog w) h' s.heap.objs.size (fun x=>decide (x∈met val its.size)) (met val its.size).length/\(∀ b o,b < s.heap.objs.size->s.heap.get? b=some o->h'.get? b=some o)) E) F.called_set.init.plain F.entry_set_init (check_set_init_1 ty ?_)) fun r2 s2 hr2=>?_
     . obtain⟨u,hu,hc,m,hd⟩:=hl;obtain⟨uc,ud,ux,us⟩:=u;simp only at hc hd;subst hc;subst hd;have at1:(s.heap.push (zix led)).get? l=some { cls:=.type "list",dict:=ud,data:=.seq its m,slots:=us }:=Ag _ hu;have l1:(s.heap.push (zix led)).IsList l its:=⟨_,at1,rfl,m,rfl⟩
       have z1:=F.sub_list_set;have z2:=F.sub_list_frozenset;have z3:(BY "list"==BY "dict")=false:=by decide
       unfold Builtin.«set.__init__» noKeywords Ff;generalize hPI:pyIter=PI
       wp_walk
       subst hPI;refine CA l1 (Aa (wpAny_runValue ?_));have ll:l < s.heap.objs.size:=An hu;have h3:A.in1.in1.in1.handled=none:=by simp[hh]
       have n1:l≠(s.heap.push (zix led)).objs.size:=by rw[Bq];exact AB (B6 ll)
       have n2:s.heap.objs.size ∉ [(s.heap.push (zix led)).objs.size,l]:=by
         rw[Bq,Bb,Da];rintro (z | z)
         . exact absurd z (AB (DA _))
         . exact absurd z (CL ll)
       refine ziG ((Walks.list h3 _ l n1 its).toS) s.heap.objs.size n2 val hv hb (its.size - 0) 0 _ (by omega) (A4 _) ⟨⟨_,Av _ rfl,rfl,rfl⟩,(l1.push _)⟩ ?first ?rest
       case first =>
         have g:((s.heap.push (zix led)).push { cls:=.type "list_iterator",data:=.fields #[.ref l,.int 0 0] }).get? s.heap.objs.size=some (zix led):=Ag _ at0;exact⟨_,#[],0,_,g,⟨rfl,rfl,rfl⟩,rfl,fun e he=>(by simp at he),fun k=>(by simp[met]),(by decide),rfl,rfl,.inl rfl⟩
       case rest =>
         intro s' hm x;obtain⟨h',g',d',tk',os'⟩:=s';have eg:g'=s.gens:=hm.gens;have ed:d'=s.drawn:=hm.drawn;have eo:os'=s.os:=hm.os;subst eg;subst ed;subst eo;show wpAny _ _ _ _ _ _;refine Ad ?_;show wpAny _ _ (ret Bi) _ _ _;refine Ad ⟨rfl,h',tk',rfl,x,fun b o hb e=>?_⟩;refine hm.heap b o ?_ (Ag _ (Ag _ e));rw[Bq,Bb,Da];rintro (z | z)
         . exact absurd z (AB hb)
         . exact absurd z (AB (B6 hb))
     . cases r2 with
       | error e=>exact hr2
       | ok fl2 =>
         cases fl2 with
         | ret r =>
           obtain⟨rfl,h',tk,rfl,x,k⟩:=hr2
           repeat (any_goals (first | assumption | wp_step))
           exact go _ _ x k
         | _=>exact hr2.elim
   | _=>exact hr.elim
end
end L2.MP
namespace L2.MP
open PySem PySem.Spec PyProof.Rows
theorem zhD{α:Type}[DecidableEq α]:∀ {m l:List α},m.Nodup->(∀ x∈m,x∈l)->l.length=m.length->l.Perm m
 | [],l,_,_,e=>by
   have:l=[]:=List.length_eq_zero_iff.mp e;rw[this]
 | x::r,l,nd,h,e=>by
   have hx:=h x Am;obtain⟨n1,n2⟩:=List.nodup_cons.mp nd;refine (List.perm_cons_erase hx).trans (D1 x (zhD n2 (fun y hy=>(List.mem_erase_of_ne (fun z:y=x=>n1 (z ▸ hy))).mpr (h y (Ah _ hy))) ?_));rw[List.length_erase_of_mem hx,e];rfl
theorem zeZ{κ:Type}[DecidableEq κ](val:Nat->κ):∀ i,(met val i).Nodup
 | 0=>Fb
 | i+1=>by
   rw[met]
   split
   . exact zeZ val i
   . rename_i h;refine List.nodup_append.mpr ⟨zeZ val i,by simp,?_⟩;intro a ha b hb e;rw[List.mem_singleton.mp hb] at e;exact h (e ▸ ha)
noncomputable def once(ss:List Str):List Str:=met (fun i=>ss.getD i DM) ss.length
inductive SetX (a:Addr) (ms:List Str) (h:Heap):Prop
 | mk (o:Obj) (es:Array (Int×Value)) (ep:Nat) (t:SetTable) (h1:h.get? a=some o) (h2:o.ExactSet) (h3:o.data=.set es ep t) (h4:StrsAre (es.toList.map (·.2)) (es.toList.map fun e=>strOf e.2)) (h5:(es.toList.map fun e=>strOf e.2).Perm ms) (h6:es.size < 4096) (h7:t.fits es.size=true) (h8:es.size=ms.length) (h9:ms.length=0\/t.plain=false)
theorem zlN{prog:Program}{w:World}{h:Heap}{a:Addr}{ms:List Str}(nd:ms.Nodup)(x:SetD (strKind prog w) h a (fun x=>decide (x∈ms)) ms.length):SetX a ms h:=by
 obtain⟨o,es,ep,t,g,gx,gd,k1,k2,k3,k4,k5,k6⟩:=x;have all:∀ e∈es.toList,∃ z tk,e.2=.str z tk:=fun e he=>by
   obtain⟨⟨k,hk,_⟩,_⟩:=k1 e he;obtain⟨t,ht⟩:=C0 hk;exact⟨k,t,ht⟩
 refine⟨o,es,ep,t,g,gx,gd,?_,zhD nd (fun z hz=>?_) (by simpa using k5),k3,k4,k5,k6⟩
 . have:=strsAre_map (es.toList.map (·.2)) fun v hv=>by
     obtain⟨e,he,rfl⟩:=List.mem_map.mp hv;exact all e he
   rwa [Cb] at this
 . obtain⟨e,he,u⟩:=(k2 z).mp (decide_eq_true hz);obtain⟨t,ht⟩:=C0 u;exact List.mem_map.mpr ⟨e,he,by rw[ht];rfl⟩
theorem zkV{X:Cx}{pins:List (Addr×Obj)}{σ:List (Option V)}{H:Hp}{s:Shared}(I:Inv X pins σ H s)(d:Drawn):Inv X pins σ H { s with drawn:=d }:=⟨I.ok,I.os,I.bare,I.base,I.loc,I.cell,I.free,I.freeC,I.pin,I.hok,I.len⟩
section
variable {X:Cx}
theorem zlM{P:Program}{w:World}{H:Hp}{h:Heap}{a:Addr}{ms:List Str}(x:SetX a ms h):zdv P w H h a (.ext (SetX a ms)):=by
 have y:=x;obtain⟨o,es,ep,t,h1⟩:=y;refine⟨x,⟨o,h1⟩,?_⟩;rintro g1 g2 ⟨o,es,ep,t,h1,h2,h3,h4,h5,h6,h7,h8,h9⟩ k;exact⟨o,es,ep,t,k o h1,h2,h3,h4,h5,h6,h7,h8,h9⟩
inductive SetL (K:Ac) (H:Hp) (Q:VK):List V->Prop
 | mk (a:Addr) (ss:List Str) (h1:SqL K H a (ss.map V.str)) (h2:ss.length<=4000) (h3:∀ p,H p=none->Q (.ref p) (upd H p (.ext (SetX p (once ss))))):SetL K H Q [.ref a]
theorem zjn(hc:X.calm=true):zg7 X (.type "set") (fun xs H Q=>SetL X.K H Q xs):=by
 rintro pins s σ H xs us Q I r ⟨a,ss,h1,h2,h3⟩;obtain⟨u,rfl,ru⟩:=r.one;cases ru;obtain⟨its,rv,pl,hz⟩:=I.list h1;have hl:its.length=ss.length:=by
   have:=rv.length;rw[Af] at this;exact this.symm
 have sz:its.toArray.size=ss.length:=by rw[Ar];exact hl
 refine ziH (val:=fun i=>ss.getD i DM) (I.ok.hd hc) pl.isList (fun i v e=>?_) (by rw[sz];unfold scanBound;omega) fun h' tk hs hk=>?_
 . rw[CH] at e;have hi:i < ss.length:=by rw[<-hl];exact (List.getElem?_eq_some_iff.mp e).1
   obtain⟨y,hy,ry⟩:=rv.get (i:=i) (x:=V.str ss[i]) (by rw[Ay,Aj hi];rfl);rw[e] at hy;cases hy;obtain⟨t,rfl⟩:=ry;refine⟨t,?_⟩;rw[Ax,Aj hi];rfl
 . rw[sz] at hs;refine⟨.ref s.heap.objs.size,_,I.laid (t':=tk) (fun b o q=>hk b o (An q) q) (Ae _) (zlM (zlN (zeZ _ _) hs)),rfl,?_⟩;exact h3 _ (I.hok.fresh (Ae _))
inductive SrtX (H:Hp) (Q:VK):List V->Prop
 | mk (a:Addr) (ms:List Str) (h1:H a=some (.ext (SetX a ms))) (h2:2<=ms.length) (h3:ms.length < 64) (h4:∀ l,H l=none->Q (.ref l) (upd H l (.lst ((zek ms).map V.str)))):SrtX H Q [.ref a]
theorem zjm(hc:X.calm=true):zg7 X (.builtin "sorted") (fun xs H Q=>SrtX H Q xs):=by
 rintro pins s σ H xs us Q I r ⟨a,ms,hH,h2,h3,h4⟩;obtain⟨u,rfl,ru⟩:=r.one;cases ru;obtain⟨⟨o,es,ep,t,e1,e2,e3,e4,e5,e6,e7,e8,e9⟩,_,_⟩:=I.hok a _ hH;have hp:t.plain=false:=e9.resolve_left (by omega);refine Dt kind_sorted plain_sorted entry_sorted (args_sorted1 _) ?_;unfold Builtin.«sorted»;refine Aa (m:=checkCount "sorted" 1 1 _) (Ad (Aa (zgL (A:=X.A.in1) (I.ok.hd hc) e1 e2 e3 e7 e8 h2 (by omega) hp fun h' d tk vs hk hsz hv=>?_)));have hvs:StrsAre vs (vs.map strOf):=strsAre_map vs fun v hm=>e4.all v (hv.mem_iff.mp hm);have hvp:(vs.map strOf).Perm ms:=by
   have:=hv.map strOf;rw[Cb] at this;exact this.trans e5
 have hlen:vs.length=ms.length:=by rw[hv.length_eq,Af,AH,e8]
 refine Aa (wpAny_newList ?_ (by rw[hlen];exact lt64 h3));have g0:(h'.push (seqObj "list" vs.toArray 0)).get? h'.objs.size=some (seqObj "list" vs.toArray 0):=Av _ rfl;refine Aa (Bg (A5 slot_list_sort ⟨_,g0,rfl⟩ entry_list_sort (list_sort_treeK strKind_oneLt g0 hvs.keysOf (fun v₁ v₂ rest e=>keyKind_strs (by rw[<-e];exact hvs)) (by omega) fun st' a1 a2=>⟨_,rfl,Ad ⟨_,rfl,?_⟩⟩) (args_list_sort _)));obtain⟨ss',b1,b2,b3⟩:=sorted_out_str hvs a1 a2;have es:=zfe (b2.trans hvp) b3;have hs:s.heap.objs.size<=h'.objs.size:=BP hsz;obtain⟨c,hat⟩:=sortedHeap_at (vs:=vs) (out:=(arrOf st').map (·.2)) (n:=0) g0;have hlen':(ss'.map V.str).length<=sizeLine:=by rw[Af,(b2.trans hvp).length_eq];exact lt64 h3
 refine⟨.ref h'.objs.size,upd H h'.objs.size (.lst (ss'.map V.str)),((zkV I d).laid (t':=tk) (a:=h'.objs.size) (fun b u q=>?_) hs ⟨hlen',((arrOf st').map (·.2)).toList,c,zgh b1,by rw[Array.toArray_toList];exact hat⟩),rfl,?_⟩
 . have q1:=hk b u q;have hb:=An q1;rw[sortedHeap_old (AB hb) (by rw[size_push'];exact B6 hb)];exact Ag _ q1
 . rw[es];exact h4 _ (I.hok.fresh hs)
end
noncomputable def znb(m:ME):ME:=fun ρ st=>(m ρ st).bind fun (d,s)=>match d with
 | .ref n=>(zcc s n).bind fun ds=>(strsOf ds).bind fun ss=>if (decide (ss.length<=4000)&&decide (2<=(once ss).length)&&decide ((once ss).length < 64))=true then some (.ref s.length,s++[.lst ((zek (once ss)).map D.str)]) else none
 | _=>none
section
variable {X:Cx} {K:Ac} {H:Hp} {io:List Addr} {st st':Sto} {pos:Pos} {m:ME}
theorem zgp:∀ {xs:List V} {ds:List D} {ss:List Str},Reps K H io xs ds->strsOf ds=some ss->xs=ss.map V.str
 | xs,[],ss,r,e=>by
   cases e;exact r
 | xs,d::ds,ss,r,e=>by
   obtain⟨x,zs,rfl,e1,rfl⟩:=zei e;obtain⟨v,vs,rfl,r1,r2⟩:=r;cases r1;rw[zgp r2 e1];rfl
theorem zlQ{o:Expr}{p p2 pos2:Pos}(hc:X.calm=true)(hg:Gl X "sorted")(hm:X.mg "sorted"=none)(hg2:Gl X "set")(hm2:X.mg "set"=none)(ho:SE X o m)
   (ho2:starEach [o] X.env=(false,eval o X.env)::starEach [] X.env:=by rfl) (hp2:(backTo pos2 (starEach [] X.env)).any (·.1)=false:=by rfl)
   (he:starEach [Expr.Call (.Name "set" p2) [o] [] pos2] X.env=(false,eval (.Call (.Name "set" p2) [o] [] pos2) X.env)::starEach [] X.env:=by rfl) (hpl:(backTo pos (starEach [] X.env)).any (·.1)=false:=by rfl) :
   SE X (.Call (.Name "sorted" p) [.Call (.Name "set" p2) [o] [] pos2] [] pos) (znb m) :=
 PE.imp (zeK (zjm hc) hg hm zgE (zeo (zgr (zjn hc) hg2 hm2 zoN (zeo ho zhE ho2) (by decide) (by decide) ho2 hp2) zhE he) (by decide) (by decide) he hpl) <| by
   rintro σ H Q ⟨ρ,st,io,d,st',E,S,e,k⟩;obtain⟨⟨x,s1⟩,e1,f1⟩:=zac e;clear e;refine⟨ρ,st,io,x,s1,E,S,e1,fun v H1 k1 X1 S1 R1=>?_⟩
   cases x with
   | ref n =>
     dsimp only at f1;obtain⟨ds,e2,f2⟩:=zac f1;obtain⟨ss,e3,f3⟩:=zac f2;obtain⟨hl,e⟩:=zaq f3;cases e;rw[AA,AA] at hl;obtain⟨a,rfl,ha⟩:=R1;obtain⟨xs,hq,r⟩:=zbz S1 ha e2;rw[zgp r e3] at hq;refine⟨a,ss,hq,of_decide_eq_true hl.1.1,fun p hp=>?_⟩;obtain⟨E2,S2⟩:=zdW (o:=.ext (SetX p (once ss))) S1 hp;refine⟨p,once ss,zbw,of_decide_eq_true hl.1.2,of_decide_eq_true hl.2,fun l hf=>?_⟩;exact ((k.on S1 X1).on S2 E2).lst S2 (ziE _) hf
   | _=>cases f1
end
theorem zgB{P:Program}{w:World}{A:Around}(hh:A.handled=none)(I:Addr)(x:Str)(t:Tok):Draws P w A I [I] x.cps.size (SignAt x) (fun i h=>h.IsStrIter I (strIterType x) x t i):=by
 unfold strIterType
 cases x.cps.all (· < 128)
 . exact Draws.strWide hh I x t
 . exact Draws.strAscii hh I x t
noncomputable def Itt(z:Str):It:=⟨fun i _=>i < z.cps.size,fun i H r H'=>∃ p c,H p=none/\z.cps[i]?=some c/\H'=upd H p (.tup [.int (i:Nat),.str ⟨#[c]⟩])/\r=.ref p,fun i _=>z.cps.size<=i⟩
theorem zhg{P:Program}{w:World}{K:Ac}{elts:List Expr}{x1}{pos:Pos}(z:Str)(t:Tok)(it e:Addr)(hne:e≠it) :
   Turn P w K (.Tuple elts x1 pos) (Itt z) [e,it] e (fun i h=>i<=z.cps.size/\(∃ old,IsEnum h e it (i:Nat) old)/\h.IsStrIter it (strIterType z) z t i) where
 mem:=by simp
 obj:=fun i h st b hb=>by
   obtain⟨_,⟨old,he⟩,o,ho,c,d⟩:=st
   rcases List.mem_cons.mp hb with rfl | hb
   . exact⟨_,he,fun v z=>by cases z⟩
   . rw[List.mem_singleton.mp hb];exact⟨o,ho,fun v z=>by rw[d] at z;cases z⟩
 keep:=fun i h h' st k=>by
   obtain⟨hi,⟨old,he⟩,o,ho,r⟩:=st;exact⟨hi,⟨old,k e (by simp) _ he⟩,o,k it (by simp) o ho,r⟩
 item := by
   intro X hP hw hK hc i pins s σ H E I hf st hg;subst hP hw hK;have hlt:i < z.cps.size:=hg;obtain⟨_,⟨old,he⟩,hi⟩:=st;have fit:=(hf it (by simp)).1;have fe:=(hf e (by simp)).1;refine DG (zgB (A:=X.A.in1) (I.ok.hd hc) it z t) he hi hlt hne (by simpa using hne) fun y h1 tk hy he1 st1 t1 z1 k1=>?_;obtain⟨c,yt,hc,rfl⟩:=hy;refine⟨_,rfl,Dk (s:={ s with heap:=h1,toks:=tk+1 }) he1 fun h2 he2 hb2=>?_⟩;have k2:∀ b o,b ∉ [e,it]->s.heap.get? b=some o->h2.get? b=some o:=fun b o hb q=>by
     have n1:b≠e:=fun z=>hb (by simp[z]);have n2:b≠it:=fun z=>hb (by simp[z]);exact (hb2.2 b n1).trans (k1 b o n1 n2 q)
   have hsz:e≠s.heap.objs.size:=AB (An he);have t2:h2.get? s.heap.objs.size=some { cls:=.type "tuple",data:=.seq #[.int i tk,.str ⟨#[c]⟩ yt] }:=(hb2.2 _ hsz.symm).trans t1;obtain⟨o2,g2,r2⟩:=st1;have hi2:h2.IsStrIter it (strIterType z) z t (i+1):=⟨o2,(hb2.2 it hne.symm).trans g2,r2⟩
   refine⟨.ref s.heap.objs.size,upd H s.heap.objs.size (.tup [.int (i:Nat),.str ⟨#[c]⟩]),?_,rfl,⟨_,c,I.hok.fresh (Ae _),hc,rfl,rfl⟩,⟨hlt,⟨_,by exact_mod_cast he2⟩,hi2⟩,fun b hb=>?_⟩
   . exact Inv.turnNew (s:=s) (h':=h2) (t':=tk+1) I hf k2 (Ae _) (fun b hb ob q=>by
       rcases List.mem_cons.mp hb with rfl | hb
       . exact⟨_,he2⟩
       . rw[List.mem_singleton.mp hb];exact⟨o2,(hb2.2 it hne.symm).trans g2⟩) ⟨by show 2<=sizeLine;decide,[.int i tk,.str ⟨#[c]⟩ yt],.cons ⟨_,rfl⟩ (.cons ⟨_,rfl⟩ .nil),⟨_,t2,rfl,rfl,_,rfl⟩⟩
   . rw[zaO (fun z=>?_)]
     . exact (hf b hb).1
     . rcases List.mem_cons.mp hb with q | hb
       . exact hsz (q.symm.trans z)
       . have q:=List.mem_singleton.mp hb;obtain⟨o,g,d⟩:=hi;exact (AB (An g)) (q.symm.trans z)
 done:=by
   intro X hP hw hK hc i pins s σ H E I hf st hg;subst hP hw hK;obtain⟨hle,⟨old,he⟩,hi⟩:=st;have e2:i=z.cps.size:=EX hle hg;subst e2;exact DW (zgB (A:=X.A.in1) (I.ok.hd hc) it z t) he hi fun h' eb=>⟨rfl,Inv.turnAll (t':=s.toks) I hf fun b o hb q=>eb b o (fun z=>hb (by simp[z])) q⟩
 self:=fun _ _ _ _ _ st h=>by
   obtain⟨_,⟨old,he⟩,_⟩:=st;exact CC he h
section
variable {X:Cx} {K:Ac} {H:Hp} {io:List Addr} {m:ME} {st st':Sto}
noncomputable def zmT(x:D)(s:Sto):Option (Wk×Sto):=match x with
 | .str z=>some (⟨pairs (signs z),[]⟩,s)
 | _=>none
noncomputable def mEnT(m:ME):MI:=fun ρ st=>(m ρ st).bind fun (x,s1)=>zmT x s1
theorem zkf{elts:List Expr}{x1}{tp:Pos}{a:Expr}{p pos:Pos}(hg:Gl X "enumerate")(hm:X.mg "enumerate"=none)(ha:SE X a m)(hs:starEach [a] X.env=[(false,eval a X.env)]:=by rfl) :
   SI X (.Tuple elts x1 tp) (.Call (.Name "enumerate" p) [a] [] pos) (mEnT m):=by
 rintro pins s σ H R I ⟨ρ,st,io,W,st',E,S,e,k⟩;obtain⟨⟨x,s1⟩,e1,e⟩:=zac e;unfold zmT at e;dsimp only at e
 split at e
 . rename_i z;cases e;refine Call_ (zgX I hg hm boot_enumerate (BD (thn (zaa ha zaf hs pos pins s σ H (fun vs H'=>∃ ka,Ext io ka H H'/\StR X.K H' (io++ka) st'/\Reps X.K H' (io++ka) vs [.str z]) I ⟨ρ,st,io,[.str z],st',E,S,zf2 e1 rfl,fun vs H1 k1 X1 S1 R1=>⟨k1,X1,S1,R1⟩⟩) ?_) hs rfl));rintro us t1 ⟨vs,H1,I1,r1,k1,X1,S1,R1⟩;obtain⟨v,rfl,rfl⟩:=R1.one;obtain⟨v',rfl,rv⟩:=r1.one;obtain⟨t,rfl⟩:=rv;refine call_enumerate_str fun h' he hi _ kk=>CC he ?_;refine⟨_,_,_,_,H1,rfl,I1.kept (t':=t1.toks) kk,zhg z t t1.heap.objs.size (t1.heap.objs.size+1) (EM _),⟨A4 _,⟨_,he⟩,hi⟩,fun b hb=>?_,?_⟩
   . have hle:t1.heap.objs.size<=b:=by
       rcases List.mem_cons.mp hb with q | hb
       . rw[q];exact Ck _
       . rw[List.mem_singleton.mp hb];exact Ae _
     exact I1.fpOk hle (I1.hok.fresh hle)
   . refine k _ H1 k1 X1 S1 ?_;have ln:(pairs (signs z)).length=z.cps.size:=by rw[pairs_len,<-zdN]
     refine⟨fun i d H2 k2 s3 hd X2 S2 hs=>?_,fun H2 k2 s3 X2 S2 hs=>?_,fun H2 k2 s3 i hi X2 S2 hs=>?_⟩
     . obtain⟨dx,g1,rfl⟩:=zcw hd;have hi:i < z.cps.size:=by rw[<-ln];exact (List.getElem?_eq_some_iff.mp hd).1
       refine⟨hi,fun r H' yl=>?_⟩;obtain⟨q,c,hq,hc,rfl,rfl⟩:=yl;have ed:dx=.str ⟨#[c]⟩:=by
         unfold signs at g1;rw[Ay,AL,hc] at g1;cases g1;rfl
       subst ed;obtain⟨E',S'⟩:=zdW (o:=.tup [.int (i:Nat),.str ⟨#[c]⟩]) S2 hq;rw[Ao] at S';exact⟨E',S',⟨q,_,rfl,zbw,Reps.cons rfl (Reps.cons rfl Reps.nil)⟩⟩
     . show z.cps.size<=(pairs (signs z)).length;rw[ln];exact Ae _
     . show z.cps.size<=i;have hi:(pairs (signs z)).length<=i:=hi;rw[ln] at hi;exact hi
 . cases e
end
variable {X:Cx} {pos:Pos}
theorem zdP{x:Str}{p:Pos}{k:Nat}{g:GN}(F:za8 X.prog X.w X.K X.mg X.base k x 0 g)(hr:Room k X.A)(hg:Gl X x)(hdb:(x==("__debug__":Str))=false:=by decide):SE X (.Call (.Name x p) [] [] pos) (zar g mNil):=by
 obtain⟨f,fd,ps,F,hm,hk,hb⟩:=F;refine PE.imp (zkz F hr hg hm hk hb .nil zoZ hdb) ?_;rintro σ H Q ⟨ρ,st,io,d,st',E,S,e,k⟩;exact⟨[],st,io,d,st',rfl,rfl,S,e,k⟩
end L2.MP
namespace L2.MP.Hb
open PySem L2.MP
noncomputable def zb2:MS:=mAsg (mBin modD (mBin addD (mBin addD (mBin addD (mBin mulA (mVar 1) (mCon (.int 1000003))) (mBin modD (mVar 3) (mCon (.int 2305843009213693951)))) (mBin mulA (mCon (.int 31)) (mVar 2))) (mCon (.int 7))) (mCon (.int 2305843009213693951))) (gNm 1)
noncomputable def zbj:ME:=zar absC (zad (mVar 0) (mNil))
noncomputable def zbh:MT:=mTst (mBin geD (zar absC (zad (mVar 0) (mNil))) (mBin powB (mCon (.int 10)) (mCon (.int 18))))
noncomputable def zdx:MS:=mSeq (mAsg (mCon (.int 17)) (gNm 1)) (mSeq (mFor (zjF (mSlB (mVar 0) (zhM) (zhL (mCon (.int 63))))) (gTp 2 (gC (gNm 2) (gC (gNm 3) (gN0)))) (zb2)) (mRet (mLst (zad (zdI (mWA (mSlB (mVar 0) (zhM) (zhL (mCon (.int 63))))) 1 [] (gNm 0) (zbh) (zbj)) (zad (mVar 1) (mNil))))))
noncomputable def zbZ:GN:=fnM 4 zdx
noncomputable def zaQ:MT:=zom (mTst (mBin neD (mBin ixA (mVar 0) (mCon (.int 0))) (mLst (mNil)))) (mTst (mBin eqD (mBin ixA (mBin ixA (mVar 0) (mCon (.int 0))) (mCon (.int 0))) (mCon (.int 0))))
noncomputable def zbP:MS:=mExp (mPop (mBin ixA (mVar 0) (mCon (.int 0))) (zad (mCon (.int 0)) (mNil)))
noncomputable def zcW:MS:=mSeq (mWhF (zaQ) (zbP) 100) (mSeq (mIf (mTst (mBin neD (mBin ixA (mVar 0) (mCon (.int 0))) (mLst (mNil)))) (mSeq (mAsg (mBin modD (mBin ixA (mBin ixA (mVar 0) (mCon (.int 0))) (mCon (.int 0))) (mVar 1)) (gNm 2)) (mSeq (putA (mBin ixA (mVar 0) (mCon (.int 0))) (mCon (.int 0)) (mBin ze2 (mBin ixA (mBin ixA (mVar 0) (mCon (.int 0))) (mCon (.int 0))) (mVar 1))) (mRet (mVar 2)))) (ze9)) (mSeq (putA (mVar 0) (mCon (.int 1)) (mBin modD (mBin addD (mBin mulA (mBin ixA (mVar 0) (mCon (.int 1))) (mCon (.int 6364136223846793005))) (mCon (.int 1442695040888963407))) (mCon (.int 2305843009213693951)))) (mRet (mBin modD (mBin ze2 (mBin modD (mBin mulA (mBin ixA (mVar 0) (mCon (.int 1))) (mBin addD (mBin modD (mBin ixA (mVar 0) (mCon (.int 1))) (mCon (.int 1000003))) (mCon (.int 48271)))) (mCon (.int 2305843009213693951))) (mCon (.int 4099))) (mVar 1)))))
noncomputable def zaj:GN:=fnM 3 zcW
noncomputable def zbH:ME:=mPop (mVar 1) (zad (zar zaj (zad (mVar 2) (zad (zar lenD (zad (mVar 1) (mNil))) (mNil)))) (mNil))
noncomputable def zdy:MS:=mSeq (mAsg (zar znh (zad (mCon (.str "abcdefghijklmnopqrstuvwxyz0123456789")) (mNil))) (gNm 2)) (mRet (znf (mCon (.str "")) (zad (zdI (mR1 (mVar 1)) 1 [2,0] (gNm 0) (zc4) (zbH)) (mNil))))
noncomputable def zb0:GN:=fnM 3 zdy
noncomputable def zbR:ME:=mBin ixA (mVar 1) (zar zaj (zad (mVar 2) (zad (zar lenD (zad (mVar 1) (mNil))) (mNil))))
noncomputable def zcV:MS:=mSeq (mAsg (mBin addD (mCon (.int 1)) (zar zaj (zad (mVar 0) (zad (mVar 2) (mNil))))) (gNm 3)) (mSeq (mIf (mTst (mBin eqD (zar zaj (zad (mVar 0) (zad (mCon (.int 6)) (mNil)))) (mCon (.int 0)))) (mRet (mBin mulA (mBin ixA (mLst (zad (mBin ixA (mVar 1) (mCon (.int 0))) (zad (mBin ixA (mVar 1) (mNeg (mCon (.int 1)))) (mNil)))) (zar zaj (zad (mVar 0) (zad (mCon (.int 2)) (mNil))))) (mVar 3))) (ze9)) (mRet (znf (mCon (.str "")) (zad (zdI (mR1 (mVar 3)) 1 [1,0] (gNm 0) (zc4) (zbR)) (mNil)))))
noncomputable def zbW:GN:=fnM 4 zcV
end L2.MP.Hb
namespace L2.MP
open PySem
theorem zgf{f:D->Option PyData}(hf:∀ x:Int,f (.int x)=some (.int x)):∀ as:List Int,toPs f (as.map D.int)=some (as.map Fz)
 | []=>rfl
 | x::as=>by
   rw[Aq,toPs,hf x,Ab,zgf hf as];rfl
theorem zhi{n:Nat}{st:Sto}{k:Nat}{as:List Int}(hk:st[k]?=some (.lst (as.map D.int))):toP (n+2) st (.ref k)=some (.list (as.map Fz)):=by
 rw[toP];simp only[zcc,hk,Ab];rw[zgf (fun x=>by rw[toP])];rfl
theorem zjD{st:Sto}{f g:Nat}{as:List Int}(hf:st[f]?=some (.lst (as.map D.int)))(hg:st[g]?=some (.lst [])):neD (.ref f) (.ref g) st=some (.bl (!as.isEmpty),st):=by
 unfold neD;rw[zhi (n:=98) hf,zhi (n:=98) (as:=[]) hg]
 cases as <;> rfl
end L2.MP
namespace L2.MP.Hb
open PySem L2.MP
def PotB(n q:Nat)(st:Sto):Prop:=∃ (as:List Int) (b:Int),st[n]?=some (.lst [.ref q,.int b])/\st[q]?=some (.lst (as.map D.int))/\q≠n/\(∀ a∈as,0<=a)/\as.length<=63/\0<=b/\b < 2305843009213693951
structure FrB(n q:Nat)(st st':Sto):Prop where
 len:st.length<=st'.length
 old:∀ k,k < st.length->k≠n->k≠q->st'[k]?=st[k]?
theorem FrB.refl(n q:Nat)(st:Sto):FrB n q st st:=⟨Ae _,fun _ _ _ _=>rfl⟩
theorem FrB.trans{n q:Nat}{a b c:Sto}(h:FrB n q a b)(h':FrB n q b c):FrB n q a c:=⟨AI h.len h'.len,fun k hk n1 n2=>(h'.old k (Aw hk h.len) n1 n2).trans (h.old k hk n1 n2)⟩
theorem FrB.app(n q:Nat)(st:Sto)(l:List O):FrB n q st (st++l):=⟨by simp,fun k hk _ _=>Al hk⟩
theorem FrB.setN(n q:Nat)(st:Sto)(o:O):FrB n q st (st.set n o):=⟨by simp,fun k _ h1 h2=>by rw[AE (fun h=>h1 h.symm)]⟩
theorem FrB.setQ(n q:Nat)(st:Sto)(o:O):FrB n q st (st.set q o):=⟨by simp,fun k _ h1 h2=>by rw[AE (fun h=>h2 h.symm)]⟩
theorem PotB.gr{n q:Nat}{st st':Sto}(h:PotB n q st)(g:Gr st st'):PotB n q st':=by
 obtain⟨as,b,e1,e2,r⟩:=h;exact⟨as,b,by rw[g.old n (getElem?_lt e1)];exact e1,by rw[g.old q (getElem?_lt e2)];exact e2,r⟩
theorem PotB.lt{n q:Nat}{st:Sto}(h:PotB n q st):n < st.length/\q < st.length:=by
 obtain⟨as,b,e1,e2,r⟩:=h;exact⟨getElem?_lt e1,getElem?_lt e2⟩
theorem zju{n q:Nat}{b many:Int}{v:Option D}(hqn:q≠n):∀ (as:List Int) (st:Sto) (k:Nat),st[n]?=some (.lst [.ref q,.int b])->st[q]?=some (.lst (as.map D.int))->as.length < k ->
   ∃ (as':List Int) (st':Sto),mWhF zaQ zbP k [some (.ref n),some (.int many),v] st=some (.nx [some (.ref n),some (.int many),v],st')/\st'[n]?=some (.lst [.ref q,.int b])/\st'[q]?=some (.lst (as'.map D.int))/\(∀ a∈as',a∈as)/\as'.length<=as.length/\FrB n q st st'
 | as,st,0,_,_,h=>absurd h (DN _)
 | as,st,k+1,h1,h2,hk=>by
   have i0:ixA (.ref n) (.int 0) st=some (.ref q,st):=ze0 h1 (by decide) rfl;have e1:=zjD (st:=st++[.lst []]) (f:=q) (g:=st.length) (as:=as) (by rw[Al (getElem?_lt h2)];exact h2) (zbC st _);have h1':(st++[O.lst []])[n]?=some (.lst [.ref q,.int b]):=by rw[Al (getElem?_lt h1)];exact h1
   have h2':(st++[O.lst []])[q]?=some (.lst (as.map D.int)):=by rw[Al (getElem?_lt h2)];exact h2
   have i0':ixA (.ref n) (.int 0) (st++[.lst []])=some (.ref q,st++[.lst []]):=ze0 h1' (by decide) rfl;generalize hs:st++[O.lst []]=s1 at e1 h1' h2' i0';have f1:FrB n q st s1:=by rw[<-hs];exact FrB.app _ _ _ _
   cases as with
   | nil =>
     refine⟨[],s1,?_,h1',h2',by simp,by simp,f1⟩;have et:zaQ [some (.ref n),some (.int many),v] st=some (false,s1):=by
       unfold zaQ;simp[rho,zaP,za0,za1,zaX,zaF,zaN,zbb,zaA,zaL,zaJ,zaG,zbf,zbl,zbg,za3,zbq,za2,zcS,zaE,zbo,zcs,zbe,zcB,zcP,zbp,zcT,ap_w,zcx,zaK,zaI,zaZ,zbm,zcR,zcQ,zbc,zaM,zbr,zbn,zcj,zcn,zcM,zcL,zcK,zcJ,zcI,zcH,zcG,zcF,zcE,Ab,Ak,add_int,sub_int,ltD,leD,gtD,geD,cmpD,intC,rho0,i0,hs,e1]
     rw[mWhF];simp[et]
   | cons a as =>
     have i1:ixA (.ref q) (.int 0) s1=some (.int a,s1):=ze0 h2' (by decide) rfl
     by_cases ha:a=0
     . subst ha;have et:zaQ [some (.ref n),some (.int many),v] st=some (true,s1):=by
         unfold zaQ;simp[rho,zaP,za0,za1,zaX,zaF,zaN,zbb,zaA,zaL,zaJ,zaG,zbf,zbl,zbg,za3,zbq,za2,zcS,zaE,zbo,zcs,zbe,zcB,zcP,zbp,zcT,ap_w,zcx,zaK,zaI,zaZ,zbm,zcR,zcQ,zbc,zaM,zbr,zbn,zcj,zcn,zcM,zcL,zcK,zcJ,zcI,zcH,zcG,zcF,zcE,Ab,Ak,add_int,sub_int,ltD,leD,gtD,geD,cmpD,intC,rho0,i0,hs,e1,i0',i1,eq_int]
       have hl:zbP [some (.ref n),some (.int many),v] s1=some (.nx [some (.ref n),some (.int many),v],s1.set q (.lst (as.map D.int))):=by
         unfold zbP;have:seqIndex? 0 ((0:Int)::as).length=some 0:=by
           unfold seqIndex?;simp
         simp[rho,zaP,za0,za1,zaX,zaF,zaN,zbb,zaA,zaL,zaJ,zaG,zbf,zbl,zbg,za3,zbq,za2,zcS,zaE,zbo,zcs,zbe,zcB,zcP,zbp,zcT,ap_w,zcx,zaK,zaI,zaZ,zbm,zcR,zcQ,zbc,zaM,zbr,zbn,zcj,zcn,zcM,zcL,zcK,zcJ,zcI,zcH,zcG,zcF,zcE,Ab,Ak,add_int,sub_int,ltD,leD,gtD,geD,cmpD,intC,rho0,ze7,i0',zcc,h2',popD,show small 0=true by decide];simp at this;rw[this];simp
       obtain⟨as',s',e,g1,g2,g3,g4,g5⟩:=zju (n:=n) (q:=q) (b:=b) (many:=many) (v:=v) hqn as (s1.set q (.lst (as.map D.int))) k (by rw[AE hqn];exact h1') (by simp[getElem?_lt h2']) (by simp at hk;omega);refine⟨as',s',?_,g1,g2,fun x hx=>Ah _ (g3 x hx),by simp;omega,(f1.trans (FrB.setQ _ _ _ _)).trans g5⟩;rw[mWhF];simp[et,hl,e]
     . refine⟨a::as,s1,?_,h1',h2',by simp,by simp,f1⟩;have et:zaQ [some (.ref n),some (.int many),v] st=some (false,s1):=by
         unfold zaQ;simp[rho,zaP,za0,za1,zaX,zaF,zaN,zbb,zaA,zaL,zaJ,zaG,zbf,zbl,zbg,za3,zbq,za2,zcS,zaE,zbo,zcs,zbe,zcB,zcP,zbp,zcT,ap_w,zcx,zaK,zaI,zaZ,zbm,zcR,zcQ,zbc,zaM,zbr,zbn,zcj,zcn,zcM,zcL,zcK,zcJ,zcI,zcH,zcG,zcF,zcE,Ab,Ak,add_int,sub_int,ltD,leD,gtD,geD,cmpD,intC,rho0,i0,hs,e1,i0',i1,eq_int,ha]
       rw[mWhF];simp[et]
theorem zbY{n q:Nat}{st:Sto}{many:Int}(h:PotB n q st)(h1:0 < many)(h2:many < 18446744073709551616):∃ (r:Int) (st':Sto),zaj [.ref n,.int many] st=some (.int r,st')/\0<=r/\r < many/\PotB n q st'/\FrB n q st st':=by
 obtain⟨as0,b,en,eq0,hqn,hpos0,hlen0,hb,hb2⟩:=h;have hm2:many < 340282366920938463463374607431768211456:=by omega
 obtain⟨as,s1,ew,en1,eq1,hsub,hlen,f1⟩:=zju (n:=n) (q:=q) (b:=b) (many:=many) (v:=none) hqn as0 st 100 en eq0 (by omega);have hpos:∀ a∈as,0<=a:=fun a ha=>hpos0 a (hsub a ha);have i0:ixA (.ref n) (.int 0) s1=some (.ref q,s1):=ze0 en1 (by decide) rfl;have e1:=zjD (st:=s1++[.lst []]) (f:=q) (g:=s1.length) (as:=as) (by rw[Al (getElem?_lt eq1)];exact eq1) (zbC s1 _);have en2:(s1++[O.lst []])[n]?=some (.lst [.ref q,.int b]):=by rw[Al (getElem?_lt en1)];exact en1
 have eq2:(s1++[O.lst []])[q]?=some (.lst (as.map D.int)):=by rw[Al (getElem?_lt eq1)];exact eq1
 generalize hs:s1++[O.lst []]=s2 at e1 en2 eq2;have f2:FrB n q st s2:=f1.trans (by rw[<-hs];exact FrB.app _ _ _ _);have j0:ixA (.ref n) (.int 0) s2=some (.ref q,s2):=ze0 en2 (by decide) rfl;have hn2:=getElem?_lt en2;have hq2:=getElem?_lt eq2
 cases as with
 | cons a as =>
   have j1:ixA (.ref q) (.int 0) s2=some (.int a,s2):=ze0 eq2 (by decide) rfl;have ha:=hpos a Am;refine⟨a % many,s2.set q (.lst ((a / many::as).map D.int)),zdc ?_,B3 _ (by omega),BH _ h1,⟨a / many::as,b,by rw[AE hqn];exact en2,by simp[hq2],hqn,?_,by simp at hlen ⊢;omega,hb,hb2⟩,f2.trans (FrB.setQ _ _ _ _)⟩
   . unfold zcW;refine zas ew ?_;refine zlP ?_;have hset:setD (.ref q) (.int 0) (.int (a / many)) s2=some (s2.set q (.lst ((a / many::as).map D.int))):=by
       simp[setD,eq2,ixN]
     have st1:mAsg (mBin modD (mBin ixA (mBin ixA (mVar 0) (mCon (.int 0))) (mCon (.int 0))) (mVar 1)) (gNm 2) [some (.ref n),some (.int many),none] s2=some (.nx [some (.ref n),some (.int many),some (.int (a % many))],s2):=by
       simp[rho,zaP,za0,za1,zaX,zaF,zaN,zbb,zaA,zaL,zaJ,zaG,zbf,zbl,zbg,za3,zbq,za2,zcS,zaE,zbo,zcs,zbe,zcB,zcP,zbp,zcT,ap_w,zcx,zaK,zaI,zaZ,zbm,zcR,zcQ,zbc,zaM,zbr,zbn,zcj,zcn,zcM,zcL,zcK,zcJ,zcI,zcH,zcG,zcF,zcE,Ab,Ak,add_int,sub_int,ltD,leD,gtD,geD,cmpD,intC,rho0,j0,j1,modD,intD,h1]
     have st2:putA (mBin ixA (mVar 0) (mCon (.int 0))) (mCon (.int 0)) (mBin ze2 (mBin ixA (mBin ixA (mVar 0) (mCon (.int 0))) (mCon (.int 0))) (mVar 1)) [some (.ref n),some (.int many),some (.int (a % many))] s2=some (.nx [some (.ref n),some (.int many),some (.int (a % many))],s2.set q (.lst ((a / many::as).map D.int))):=by
       simp only[rho,zaP,za0,za1,zaX,zaF,zaN,zbb,zaA,zaL,zaJ,zaG,zbf,zbl,zbg,za3,zbq,za2,zcS,zaE,zbo,zcs,zbe,zcB,zcP,zbp,zcT,ap_w,zcx,zaK,zaI,zaZ,zbm,zcR,zcQ,zbc,zaM,zbr,zbn,zcj,zcn,zcM,zcL,zcK,zcJ,zcI,zcH,zcG,zcF,zcE,Ab,Ak,add_int,sub_int,ltD,leD,gtD,geD,cmpD,intC,rho0,ze2,intD];simp[rho,zaP,za0,za1,zaX,zaF,zaN,zbb,zaA,zaL,zaJ,zaG,zbf,zbl,zbg,za3,zbq,za2,zcS,zaE,zbo,zcs,zbe,zcB,zcP,zbp,zcT,ap_w,zcx,zaK,zaI,zaZ,zbm,zcR,zcQ,zbc,zaM,zbr,zbn,zcj,zcn,zcM,zcL,zcK,zcJ,zcI,zcH,zcG,zcF,zcE,Ab,Ak,add_int,sub_int,ltD,leD,gtD,geD,cmpD,intC,rho0,j0,j1,h1,hm2,hset]
     have key:mSeq (mAsg (mBin modD (mBin ixA (mBin ixA (mVar 0) (mCon (.int 0))) (mCon (.int 0))) (mVar 1)) (gNm 2)) (mSeq (putA (mBin ixA (mVar 0) (mCon (.int 0))) (mCon (.int 0)) (mBin ze2 (mBin ixA (mBin ixA (mVar 0) (mCon (.int 0))) (mCon (.int 0))) (mVar 1))) (mRet (mVar 2))) [some (.ref n),some (.int many),none] s2=some (.rt (.int (a % many)),s2.set q (.lst ((a / many::as).map D.int))) :=
       zas st1 (zas st2 (by simp[rho,zaP,za0,za1,zaX,zaF,zaN,zbb,zaA,zaL,zaJ,zaG,zbf,zbl,zbg,za3,zbq,za2,zcS,zaE,zbo,zcs,zbe,zcB,zcP,zbp,zcT,ap_w,zcx,zaK,zaI,zaZ,zbm,zcR,zcQ,zbc,zaM,zbr,zbn,zcj,zcn,zcM,zcL,zcK,zcJ,zcI,zcH,zcG,zcF,zcE,Ab,Ak,add_int,sub_int,ltD,leD,gtD,geD,cmpD,intC,rho0]))
     have et:mTst (mBin neD (mBin ixA (mVar 0) (mCon (.int 0))) (mLst (mNil))) [some (.ref n),some (.int many),none] s1=some (true,s2):=by simp[rho,zaP,za0,za1,zaX,zaF,zaN,zbb,zaA,zaL,zaJ,zaG,zbf,zbl,zbg,za3,zbq,za2,zcS,zaE,zbo,zcs,zbe,zcB,zcP,zbp,zcT,ap_w,zcx,zaK,zaI,zaZ,zbm,zcR,zcQ,zbc,zaM,zbr,zbn,zcj,zcn,zcM,zcL,zcK,zcJ,zcI,zcH,zcG,zcF,zcE,Ab,Ak,add_int,sub_int,ltD,leD,gtD,geD,cmpD,intC,rho0,i0,hs,e1]
     rw[zcs,et];exact key
   . intro x hx
     rcases List.mem_cons.mp hx with rfl | hx
     . exact Int.ediv_nonneg ha (by omega)
     . exact hpos x (Ah _ hx)
 | nil =>
   have q0:0<=(b*6364136223846793005+1442695040888963407) % 2305843009213693951:=B3 _ (by decide);have q1:(b*6364136223846793005+1442695040888963407) % 2305843009213693951 < 2305843009213693951:=BH _ (by decide);generalize hc:(b*6364136223846793005+1442695040888963407) % 2305843009213693951=c at q0 q1;have i1:in64 b=true:=by unfold in64;simp;omega
   have i2:in64 c=true:=by unfold in64;simp;omega
   have hset:setD (.ref n) (.int 1) (.int c) s2=some (s2.set n (.lst [.ref q,.int c])):=by
     simp[setD,en2,ixN]
   have en3:(s2.set n (.lst [.ref q,.int c]))[n]?=some (.lst [.ref q,.int c]):=by simp[hn2]
   have j2:ixA (.ref n) (.int 1) s2=some (.int b,s2):=ze0 en2 (by decide) rfl;have j3:ixA (.ref n) (.int 1) (s2.set n (.lst [.ref q,.int c]))=some (.int c,s2.set n (.lst [.ref q,.int c])):=ze0 en3 (by decide) rfl;generalize hs3:s2.set n (.lst [.ref q,.int c])=s3 at hset en3 j3;have f3:FrB n q st s3:=f2.trans (by rw[<-hs3];exact FrB.setN _ _ _ _);have eq3:s3[q]?=some (.lst (([]:List Int).map D.int)):=by rw[<-hs3,AE (fun h=>hqn h.symm)];exact eq2
   generalize hX:c*(c % 1000003+48271) % 2305843009213693951 / 4099=X;refine⟨X % many,s3,zdc ?_,B3 _ (by omega),BH _ h1,⟨[],c,en3,eq3,hqn,by simp,by simp,q0,q1⟩,f3⟩;unfold zcW;refine zas ew ?_;have et:mTst (mBin neD (mBin ixA (mVar 0) (mCon (.int 0))) (mLst (mNil))) [some (.ref n),some (.int many),none] s1=some (false,s2):=by simp[rho,zaP,za0,za1,zaX,zaF,zaN,zbb,zaA,zaL,zaJ,zaG,zbf,zbl,zbg,za3,zbq,za2,zcS,zaE,zbo,zcs,zbe,zcB,zcP,zbp,zcT,ap_w,zcx,zaK,zaI,zaZ,zbm,zcR,zcQ,zbc,zaM,zbr,zbn,zcj,zcn,zcM,zcL,zcK,zcJ,zcI,zcH,zcG,zcF,zcE,Ab,Ak,add_int,sub_int,ltD,leD,gtD,geD,cmpD,intC,rho0,i0,hs,e1]
   refine zas (ρ1:=[some (.ref n),some (.int many),none]) (s1:=s2) (by rw[zcs,et];rfl) ?_;refine zas (ρ1:=[some (.ref n),some (.int many),none]) (s1:=s3) (by simp[rho,zaP,za0,za1,zaX,zaF,zaN,zbb,zaA,zaL,zaJ,zaG,zbf,zbl,zbg,za3,zbq,za2,zcS,zaE,zbo,zcs,zbe,zcB,zcP,zbp,zcT,ap_w,zcx,zaK,zaI,zaZ,zbm,zcR,zcQ,zbc,zaM,zbr,zbn,zcj,zcn,zcM,zcL,zcK,zcJ,zcI,zcH,zcG,zcF,zcE,Ab,Ak,add_int,sub_int,ltD,leD,gtD,geD,cmpD,intC,rho0,j2,mulA,orG,mulD,intD,i1,modD,hc,hset]) ?_;simp[rho,zaP,za0,za1,zaX,zaF,zaN,zbb,zaA,zaL,zaJ,zaG,zbf,zbl,zbg,za3,zbq,za2,zcS,zaE,zbo,zcs,zbe,zcB,zcP,zbp,zcT,ap_w,zcx,zaK,zaI,zaZ,zbm,zcR,zcQ,zbc,zaM,zbr,zbn,zcj,zcn,zcM,zcL,zcK,zcJ,zcI,zcH,zcG,zcF,zcE,Ab,Ak,add_int,sub_int,ltD,leD,gtD,geD,cmpD,intC,rho0,j3,mulA,orG,mulD,intD,i2,modD,ze2,hX,h1]
theorem zk6(ns:List Int)(lo hi:Option Int):∃ ms:List Int,cutD (ns.map D.int) lo hi=ms.map D.int/\ms.length<=ns.length:=by
 unfold cutD;refine⟨(ns.drop (HT.sIx (ns.map D.int).length 0 lo)).take (HT.sIx (ns.map D.int).length (ns.map D.int).length hi - HT.sIx (ns.map D.int).length 0 lo),by simp,?_⟩;rw[Cd,Dy];omega
theorem zlI{ds:List D}{lo hi:Option Int}{st:Sto}:slB (.kl ds) lo hi st=some (.ref st.length,st++[.lst (cutD ds lo hi)]):=by
 simp[slB,slA,slD,slS,slK,zcn]
theorem zpq(st:Sto):powB (.int 10) (.int 18) st=some (.int 1000000000000000000,st):=rfl
theorem zj6{ns:List Int}(st:Sto)(hl:ns.length<=63):∃ (n q:Nat) (st':Sto),zbZ [.kl (ns.map D.int)] st=some (.ref n,st')/\PotB n q st'/\Gr st st':=by
 obtain⟨ms,hms,hml⟩:=zk6 ns none (some 63);have e1:=zlI (ds:=ns.map D.int) (lo:=none) (hi:=some 63) (st:=st);rw[hms] at e1;have a1:(st++[O.lst (ms.map D.int)])[st.length]?=some (.lst (ms.map D.int)):=zbC _ _;generalize hs1:st++[O.lst (ms.map D.int)]=s1 at e1 a1;have g1:Gr st s1:=by rw[<-hs1];exact Gr.app _ _
 have key:=zc5 (W:=⟨pairs (ms.map D.int),[(st.length,ms.map D.int)]⟩) (g:=gTp 2 (gC (gNm 2) (gC (gNm 3) (gN0)))) (m:=zb2) (ds:=pairs (ms.map D.int)) (ρ:=[some (.kl (ns.map D.int)),some (.int 17),none,none]) (st:=s1)
   (Inv:=fun k ρ s=>∃ (b:Int) (x y:Option D),ρ=[some (.kl (ns.map D.int)),some (.int b),x,y]/\0<=b/\b < 2305843009213693951/\s=s1)
   ⟨17,none,none,rfl,by decide,by decide,rfl⟩ (fun k ρ s hk hI=>by obtain⟨b,x,y,_,_,_,rfl⟩:=hI;exact zdS a1) (fun k d ρ s hd hI=>by
     obtain⟨b,x,y,rfl,hb0,hb1,rfl⟩:=hI;obtain⟨z,hz,rfl⟩:=zcw hd;rw[Ay] at hz;obtain⟨c,hc,rfl⟩:=zai hz;have hk:k < ms.length:=getElem?_lt hc;have i1:in64 b=true:=by unfold in64;simp;omega
     have i31:in64 31=true:=by decide
     refine⟨[some (.kl (ns.map D.int)),some (.int b),some (.int (k:Nat)),some (.int c)],s,[some (.kl (ns.map D.int)),some (.int ((b*1000003+c % 2305843009213693951+31*(k:Int)+7) % 2305843009213693951)),some (.int (k:Nat)),some (.int c)],s,by simp[rho,zaP,za0,za1,zaX,zaF,zaN,zbb,zaA,zaL,zaJ,zaG,zbf,zbl,zbg,za3,zbq,za2,zcS,zaE,zbo,zcs,zbe,zcB,zcP,zbp,zcT,ap_w,zcx,zaK,zaI,zaZ,zbm,zcR,zcQ,zbc,zaM,zbr,zbn,zcj,zcn,zcM,zcL,zcK,zcJ,zcI,zcH,zcG,zcF,zcE,Ab,Ak,add_int,sub_int,ltD,leD,gtD,geD,cmpD,intC,rho0],?_,_,_,_,rfl,B3 _ (by decide),BH _ (by decide),rfl⟩;unfold zb2;simp[rho,zaP,za0,za1,zaX,zaF,zaN,zbb,zaA,zaL,zaJ,zaG,zbf,zbl,zbg,za3,zbq,za2,zcS,zaE,zbo,zcs,zbe,zcB,zcP,zbp,zcT,ap_w,zcx,zaK,zaI,zaZ,zbm,zcR,zcQ,zbc,zaM,zbr,zbn,zcj,zcn,zcM,zcL,zcK,zcJ,zcI,zcH,zcG,zcF,zcE,Ab,Ak,add_int,sub_int,ltD,leD,gtD,geD,cmpD,intC,rho0,mulA,orG,mulD,intD,i1,i31,modD])
 obtain⟨ρ',s',el,b,x,y,rfl,hb0,hb1,rfl⟩:=key;have e2:=zlI (ds:=ns.map D.int) (lo:=none) (hi:=some 63) (st:=s');rw[hms] at e2;have a2:(s'++[O.lst (ms.map D.int)])[s'.length]?=some (.lst (ms.map D.int)):=zbC _ _;generalize hs2:s'++[O.lst (ms.map D.int)]=s2 at e2 a2;have g2:Gr s' s2:=by rw[<-hs2];exact Gr.app _ _
 have key2:=zlr (W:=⟨ms.map D.int,[(s'.length,ms.map D.int)]⟩) (g:=gNm 0) (c:=zbh) (m:=zbj) (ds:=ms.map D.int) (acc:=[]) (st:=s2) (ρ:=[none])
   (Inv:=fun k a ρ s=>(∃ z,ρ=[z])/\(∃ as:List Int,a=as.map D.int/\(∀ c∈as,0<=c)/\as.length<=k)/\s=s2) ⟨⟨_,rfl⟩,⟨[],rfl,by simp,by simp⟩,rfl⟩ (fun k a ρ s hk hI=>by obtain⟨_,_,rfl⟩:=hI;exact zdS a2) (fun k d a ρ s hd hI=>by
     obtain⟨⟨z,rfl⟩,⟨as,rfl,ha,hal⟩,rfl⟩:=hI;rw[Ay] at hd;obtain⟨c,hc,rfl⟩:=zai hd;have habs:0<=(if c < 0 then -c else c):=by split <;> omega
     have ec:zbj [some (.int c)] s=some (.int (if c < 0 then -c else c),s):=by unfold zbj;simp[rho,zaP,za0,za1,zaX,zaF,zaN,zbb,zaA,zaL,zaJ,zaG,zbf,zbl,zbg,za3,zbq,za2,zcS,zaE,zbo,zcs,zbe,zcB,zcP,zbp,zcT,ap_w,zcx,zaK,zaI,zaZ,zbm,zcR,zcQ,zbc,zaM,zbr,zbn,zcj,zcn,zcM,zcL,zcK,zcJ,zcI,zcH,zcG,zcF,zcE,Ab,Ak,add_int,sub_int,ltD,leD,gtD,geD,cmpD,intC,rho0,absC]
     have et:zbh [some (.int c)] s=some (decide (1000000000000000000<=(if c < 0 then -c else c)),s):=by unfold zbh;simp[rho,zaP,za0,za1,zaX,zaF,zaN,zbb,zaA,zaL,zaJ,zaG,zbf,zbl,zbg,za3,zbq,za2,zcS,zaE,zbo,zcs,zbe,zcB,zcP,zbp,zcT,ap_w,zcx,zaK,zaI,zaZ,zbm,zcR,zcQ,zbc,zaM,zbr,zbn,zcj,zcn,zcM,zcL,zcK,zcJ,zcI,zcH,zcG,zcF,zcE,Ab,Ak,add_int,sub_int,ltD,leD,gtD,geD,cmpD,intC,rho0,absC,zpq]
     refine⟨[some (.int c)],s,_,s,by simp[rho,zaP,za0,za1,zaX,zaF,zaN,zbb,zaA,zaL,zaJ,zaG,zbf,zbl,zbg,za3,zbq,za2,zcS,zaE,zbo,zcs,zbe,zcB,zcP,zbp,zcT,ap_w,zcx,zaK,zaI,zaZ,zbm,zcR,zcQ,zbc,zaM,zbr,zbn,zcj,zcn,zcM,zcL,zcK,zcJ,zcI,zcH,zcG,zcF,zcE,Ab,Ak,add_int,sub_int,ltD,leD,gtD,geD,cmpD,intC,rho0],et,?_⟩
     by_cases hq:1000000000000000000<=(if c < 0 then -c else c)
     . refine .inl ⟨decide_eq_true hq,_,s,ec,⟨_,rfl⟩,⟨as++[if c < 0 then -c else c],by simp,?_,by simp;omega⟩,rfl⟩;intro w hw
       rcases List.mem_append.mp hw with hw | hw
       . exact ha w hw
       . rw[List.mem_singleton.mp hw];exact habs
     . exact .inr ⟨decide_eq_false hq,⟨_,rfl⟩,⟨as,rfl,ha,by omega⟩,rfl⟩)
 obtain⟨xs,ρ2,s3,ec,_,⟨as,hx,hpos,hal⟩,rfl⟩:=key2;rw[CY] at hx;subst hx;rw[Af] at hal;have fl:fits (as.map D.int).length=true:=zaz (by rw[Af];omega);refine⟨s3.length+1,s3.length,s3++[.lst (as.map D.int)]++[.lst [.ref s3.length,.int b]],zdc ?_,⟨as,b,?_,?_,by omega,hpos,by omega,hb0,hb1⟩,((g1.trans g2).trans (Gr.app _ _)).trans (Gr.app _ _)⟩
 . unfold zdx;refine zas (ρ1:=[some (.kl (ns.map D.int)),some (.int 17),none,none]) (s1:=st) (by simp[rho,zaP,za0,za1,zaX,zaF,zaN,zbb,zaA,zaL,zaJ,zaG,zbf,zbl,zbg,za3,zbq,za2,zcS,zaE,zbo,zcs,zbe,zcB,zcP,zbp,zcT,ap_w,zcx,zaK,zaI,zaZ,zbm,zcR,zcQ,zbc,zaM,zbr,zbn,zcj,zcn,zcM,zcL,zcK,zcJ,zcI,zcH,zcG,zcF,zcE,Ab,Ak,add_int,sub_int,ltD,leD,gtD,geD,cmpD,intC,rho0]) ?_;refine zas (ρ1:=[some (.kl (ns.map D.int)),some (.int b),x,y]) (s1:=s') (by
     have ee:zjF (mSlB (mVar 0) (zhM) (zhL (mCon (.int 63)))) [some (.kl (ns.map D.int)),some (.int 17),none,none] st=some (⟨pairs (ms.map D.int),[(st.length,ms.map D.int)]⟩,s'):=by
       rw[zdu];simp[rho,zaP,za0,za1,zaX,zaF,zaN,zbb,zaA,zaL,zaJ,zaG,zbf,zbl,zbg,za3,zbq,za2,zcS,zaE,zbo,zcs,zbe,zcB,zcP,zbp,zcT,ap_w,zcx,zaK,zaI,zaZ,zbm,zcR,zcQ,zbc,zaM,zbr,zbn,zcj,zcn,zcM,zcL,zcK,zcJ,zcI,zcH,zcG,zcF,zcE,Ab,Ak,add_int,sub_int,ltD,leD,gtD,geD,cmpD,intC,rho0,ze6,e1,zoI,seqD,zcc,a1]
     rw[zaZ,ee];exact el) ?_
   have ew:mWA (mSlB (mVar 0) (zhM) (zhL (mCon (.int 63)))) [some (.kl (ns.map D.int)),some (.int b),x,y] s'=some (⟨ms.map D.int,[(s'.length,ms.map D.int)]⟩,s3):=by
     rw[zg5];simp[rho,zaP,za0,za1,zaX,zaF,zaN,zbb,zaA,zaL,zaJ,zaG,zbf,zbl,zbg,za3,zbq,za2,zcS,zaE,zbo,zcs,zbe,zcB,zcP,zbp,zcT,ap_w,zcx,zaK,zaI,zaZ,zbm,zcR,zcQ,zbc,zaM,zbr,zbn,zcj,zcn,zcM,zcL,zcK,zcJ,zcI,zcH,zcG,zcF,zcE,Ab,Ak,add_int,sub_int,ltD,leD,gtD,geD,cmpD,intC,rho0,ze6,e2,zjZ,zcc,a2]
   have el2:zdI (mWA (mSlB (mVar 0) (zhM) (zhL (mCon (.int 63))))) 1 [] (gNm 0) (zbh) (zbj) [some (.kl (ns.map D.int)),some (.int b),x,y] s'=some (.ref s3.length,s3++[.lst (as.map D.int)]):=by
     rw[zaI,ew];simp only[Ab];rw[show rho0 [some (.kl (ns.map D.int)),some (.int b),x,y] 1 []=[none] from rfl,ec];simp only[Ab,fl,if_true]
   rw[za3,zbg,zaG,el2];simp[rho,zaP,za0,za1,zaX,zaF,zaN,zbb,zaA,zaL,zaJ,zaG,zbf,zbl,zbg,za3,zbq,za2,zcS,zaE,zbo,zcs,zbe,zcB,zcP,zbp,zcT,ap_w,zcx,zaK,zaI,zaZ,zbm,zcR,zcQ,zbc,zaM,zbr,zbn,zcj,zcn,zcM,zcL,zcK,zcJ,zcI,zcH,zcG,zcF,zcE,Ab,Ak,add_int,sub_int,ltD,leD,gtD,geD,cmpD,intC,rho0]
 . have:=zbC (s3++[.lst (as.map D.int)]) (.lst [.ref s3.length,.int b]);simpa using this
 . rw[Al (by simp)];exact zbC _ _
noncomputable abbrev zf9:Str:="abcdefghijklmnopqrstuvwxyz0123456789"
noncomputable abbrev sgD (c:Nat):D:=.str ⟨#[c]⟩
theorem zjp:zf9.cps.toList.length=36:=by decide +kernel
theorem zli:zf9.cps.toList.Nodup:=by decide +kernel
theorem zi2{z:Str}{st:Sto}(h:z.cps.size<=10000):znh [.str z] st=some (.ref st.length,st++[.lst (z.cps.toList.map sgD)]):=by
 have:fits z.cps.size=true:=zaz h;simp[znh,orN,zoo,zi1,this,zcn,signs,sgD]
theorem pop_at{l:Nat}{ds:List D}{d:D}{r:Int}{st:Sto}(h:st[l]?=some (.lst ds))(h0:0<=r)(h1:r<=1000000)(hd:ds[r.toNat]?=some d):popD (.ref l) [.int r] st=some (d,st.set l (.lst (ds.eraseIdx r.toNat))):=by
 have hl:=getElem?_lt hd;have hs:small r=true:=zdM h0 h1;have hi:seqIndex? r ds.length=some r.toNat:=by
   have q1:¬ r < 0:=by omega
   have q2:r < (ds.length:Int):=by omega
   simp[seqIndex?,q1,h0,q2]
 simp[popD,h,hs,hi,hd]
theorem zgA{α β:Type}(f:α->β):∀ (l:List α) (k:Nat),(l.map f).eraseIdx k=(l.eraseIdx k).map f
 | [],_=>by simp
 | a::l,0=>by simp
 | a::l,k+1=>by simp[zgA f l k]
theorem zb9{α:Type}:∀ (l:List α) (k:Nat) (h:k < l.length),(l[k]::l.eraseIdx k).Perm l
 | [],_,h=>absurd h (DN _)
 | a::l,0,_=>by simp
 | a::l,k+1,h=>by
   have:=zb9 l k (by simpa using h);simp only[DX,DH];exact (Fd _ _ _).trans (this.cons a)
structure LetOk(z:Str)(k:Nat):Prop where
 len:z.cps.toList.length=k
 nd:z.cps.toList.Nodup
 mem:∀ c∈z.cps.toList,c∈zf9.cps.toList
theorem PotB.ne{n q:Nat}{st:Sto}(h:PotB n q st):n≠st.length/\q≠st.length:=by
 have:=h.lt;omega
theorem PotB.set{n q l:Nat}{st:Sto}{o:O}(h:PotB n q st)(h1:l≠n)(h2:l≠q):PotB n q (st.set l o):=by
 obtain⟨as,b,e1,e2,r⟩:=h;exact⟨as,b,by rw[AE h1];exact e1,by rw[AE h2];exact e2,r⟩
theorem zke{n q:Nat}{st:Sto}{many:Int}(h:PotB n q st)(h0:0<=many)(h1:many<=36):∃ (z:Str) (st':Sto),zb0 [.ref n,.int many] st=some (.str z,st')/\LetOk z many.toNat/\PotB n q st'/\FrB n q st st':=by
 obtain⟨hn,hq⟩:=h.ne;have e1:=zi2 (z:=zf9) (st:=st) (by decide +kernel);have a1:=zbC st (.lst (zf9.cps.toList.map sgD));have p1:=h.gr (Gr.app st [.lst (zf9.cps.toList.map sgD)]);have f1:=FrB.app n q st [.lst (zf9.cps.toList.map sgD)];generalize hs1:st++[O.lst (zf9.cps.toList.map sgD)]=s1 at e1 a1 p1 f1;have key:=zlr (W:=⟨run 0 many.toNat,[]⟩) (g:=gNm 0) (c:=zc4) (m:=zbH) (ds:=run 0 many.toNat) (acc:=[]) (st:=s1) (ρ:=[none,some (.ref st.length),some (.ref n)])
   (Inv:=fun k a ρ s=>(∃ x,ρ=[x,some (.ref st.length),some (.ref n)])/\(∃ cs rest:List Nat,a=cs.map sgD/\s[st.length]?=some (.lst (rest.map sgD))/\cs.length=k/\(cs++rest).Perm zf9.cps.toList)/\PotB n q s/\FrB n q st s)
   ⟨⟨_,rfl⟩,⟨[],zf9.cps.toList,rfl,a1,rfl,by simp⟩,p1,f1⟩ (fun _ _ _ _ _ _=>rfl) (fun k d a ρ s hd hI=>by
     obtain⟨⟨x,rfl⟩,⟨cs,rest,rfl,hat,hlen,hperm⟩,hp,hf⟩:=hI;have hk:k < many.toNat:=by
       have:=getElem?_lt hd
       rwa [zb6] at this
     have hl36:=hperm.length_eq;rw[AD,zjp,hlen] at hl36;obtain⟨r,s2,e2,r0,r1,p2,f2⟩:=zbY (many:=(rest.length:Int)) hp (by omega) (by omega);have hat2:s2[st.length]?=some (.lst (rest.map sgD)):=(f2.old st.length (getElem?_lt hat) (A9 hn) (A9 hq)).trans hat;have hr:r.toNat < rest.length:=by omega
     have hd2:(rest.map sgD)[r.toNat]?=some (sgD rest[r.toNat]):=by rw[Ay,Aj hr];rfl
     have ep:=pop_at hat2 r0 (by omega) hd2;have el:=zmB hat;rw[Af] at el;refine⟨[some d,some (.ref st.length),some (.ref n)],s,true,s,by simp[rho,zaP,za0,za1,zaX,zaF,zaN,zbb,zaA,zaL,zaJ,zaG,zbf,zbl,zbg,za3,zbq,za2,zcS,zaE,zbo,zcs,zbe,zcB,zcP,zbp,zcT,ap_w,zcx,zaK,zaI,zaZ,zbm,zcR,zcQ,zbc,zaM,zbr,zbn,zcj,zcn,zcM,zcL,zcK,zcJ,zcI,zcH,zcG,zcF,zcE,Ab,Ak,add_int,sub_int,ltD,leD,gtD,geD,cmpD,intC,rho0],rfl,.inl ⟨rfl,sgD rest[r.toNat],s2.set st.length (.lst ((rest.map sgD).eraseIdx r.toNat)),?_,⟨_,rfl⟩,⟨cs++[rest[r.toNat]],rest.eraseIdx r.toNat,by simp,?_,by simp[hlen],?_⟩,p2.set (A9 hn) (A9 hq),?_⟩⟩
     . unfold zbH;simp[rho,zaP,za0,za1,zaX,zaF,zaN,zbb,zaA,zaL,zaJ,zaG,zbf,zbl,zbg,za3,zbq,za2,zcS,zaE,zbo,zcs,zbe,zcB,zcP,zbp,zcT,ap_w,zcx,zaK,zaI,zaZ,zbm,zcR,zcQ,zbc,zaM,zbr,zbn,zcj,zcn,zcM,zcL,zcK,zcJ,zcI,zcH,zcG,zcF,zcE,Ab,Ak,add_int,sub_int,ltD,leD,gtD,geD,cmpD,intC,rho0,ze7,zcc,hat,el,e2,ep]
     . rw[BB (getElem?_lt hat2)];rw[zgA]
     . have:=zb9 rest r.toNat hr;have h2:(cs++([rest[r.toNat]]++rest.eraseIdx r.toNat)).Perm (cs++rest):=CI cs this;rw[<-Ai] at h2;exact h2.trans hperm
     . have f3:=hf.trans f2;exact⟨by rw[B0];exact f3.len,fun k hk h1 h2=>by rw[AE (by omega)];exact f3.old k hk h1 h2⟩)
 obtain⟨xs,ρ',s',ec,_,⟨cs,rest,hx,hat,hlen,hperm⟩,hp,hf⟩:=key;rw[CY] at hx;subst hx;rw[zb6] at hlen;have p3:=hp.gr (Gr.app s' [.lst (cs.map sgD)]);obtain⟨z,ez,hz⟩:=Hn.joined (zbC s' (.lst (cs.map sgD))) (by omega);have fc:fits (cs.map sgD).length=true:=zaz (by rw[Af];omega);have sm:small many=true:=zdM h0 (by omega);have hnd:(cs++rest).Nodup:=hperm.nodup_iff.mpr zli;refine⟨z,s'++[.lst (cs.map sgD)],zdc ?_,⟨by rw[hz];exact hlen,by rw[hz];exact (List.nodup_append.mp hnd).1,fun c hc=>hperm.mem_iff.mp (AO _ (by rw[<-hz];exact hc))⟩,p3,hf.trans (FrB.app _ _ _ _)⟩;unfold zdy;refine zas (ρ1:=[some (.ref n),some (.int many),some (.ref st.length)]) (s1:=s1) (by simp[rho,zaP,za0,za1,zaX,zaF,zaN,zbb,zaA,zaL,zaJ,zaG,zbf,zbl,zbg,za3,zbq,za2,zcS,zaE,zbo,zcs,zbe,zcB,zcP,zbp,zcT,ap_w,zcx,zaK,zaI,zaZ,zbm,zcR,zcQ,zbc,zaM,zbr,zbn,zcj,zcn,zcM,zcL,zcK,zcJ,zcI,zcH,zcG,zcF,zcE,Ab,Ak,add_int,sub_int,ltD,leD,gtD,geD,cmpD,intC,rho0,e1]) ?_;have ecm:zdI (mR1 (mVar 1)) 1 [2,0] (gNm 0) (zc4) (zbH) [some (.ref n),some (.int many),some (.ref st.length)] s1=some (.ref s'.length,s'++[.lst (cs.map sgD)]):=by
   rw[zaI,zcx];simp only[zaP,Ab,AF,A3,sm,if_true];rw[show rho0 [some (.ref n),some (.int many),some (.ref st.length)] 1 [2,0]=[none,some (.ref st.length),some (.ref n)] from rfl,ec];simp only[Ab,fc,if_true]
 simp[rho,zaP,za0,za1,zaX,zaF,zaN,zbb,zaA,zaL,zaJ,zaG,zbf,zbl,zbg,za3,zbq,za2,zcS,zaE,zbo,zcs,zbe,zcB,zcP,zbp,zcT,ap_w,zcx,zaK,zaZ,zbm,zcR,zcQ,zbc,zaM,zbr,zbn,zcj,zcn,zcM,zcL,zcK,zcJ,zcI,zcH,zcG,zcF,zcE,Ab,Ak,add_int,sub_int,ltD,leD,gtD,geD,cmpD,intC,rho0,zg5,ze7,zdt,ze6,zdu,ecm,ez]
theorem zmL{z:Str}{c:Nat}{st:Sto}(hz:z.length<=10000)(h:z.cps.toList.getLast?=some c):ixA (.str z) (.int (-1)) st=some (sgD c,st):=by
 have hf:fits z.length=true:=zaz hz;have hne:z.cps.toList≠[]:=by intro q;rw[q] at h;cases h
 have hpos:0 < z.cps.toList.length:=List.length_pos_iff.mpr hne;have hpos':0 < z.cps.size:=by simpa using hpos
 rw[Du] at h;have hx:ixN z.cps.toList.length (-1)=some (z.cps.toList.length - 1):=by
   unfold ixN;simp;omega
 simp[ixA,orG,idxD,hf];rw[show atI z.cps.toList (-1)=some c by unfold atI;rw[hx];exact h];rfl
theorem zij(c:Nat):∀ (k:Nat) (a:Array Nat),((Bk k #[c]).foldl (·++·) a).toList=a.toList++Bk k c
 | 0,a=>by simp
 | k+1,a=>by
   rw[Ef,List.foldl_cons,zij c k (a++#[c])];simp[Ef]
theorem zfs{c:Nat}{n:Int}(h1:1<=n):(repS ⟨#[c]⟩ n).cps.toList=Bk n.toNat c:=by
 unfold repS;rw[if_neg (by omega)]
 by_cases hn:n=1
 . subst hn;rfl
 . rw[if_neg]
   . exact zij c n.toNat #[]
   . simp[hn];show ¬ ((⟨#[c]⟩:Str).length=0);show ¬ (1=0)
     decide
theorem zep{c:Nat}{n:Int}{st:Sto}(h1:1<=n)(h2:n<=1000):mulA (sgD c) (.int n) st=some (.str (repS ⟨#[c]⟩ n),st):=by
 have hl:(repS ⟨#[c]⟩ n).length=n.toNat:=by rw[len_list,zfs h1,Bd]
 have e1:(⟨#[c]⟩:Str).length=1:=rfl;have hz:sizeLine=16777216:=C6;have:(decide (-(2 ^ 62)<=n)&&decide (n < 2 ^ 20)&&decide ((⟨#[c]⟩:Str).length*n.toNat<=sizeLine)&&decide ((repS ⟨#[c]⟩ n).length<=sizeLine))=true:=by
   rw[hl,e1,hz];rw[decide_eq_true (show -(2 ^ 62)<=n by omega),decide_eq_true (show n < 2 ^ 20 by omega),decide_eq_true (show 1*n.toNat<=16777216 by omega),decide_eq_true (show n.toNat<=16777216 by omega)];rfl
 show mulA (.str ⟨#[c]⟩) (.int n) st=_;unfold mulA orG mulD intD;dsimp only;rw[zcn];unfold zna;dsimp only;rw[if_pos this]
structure WordOk(z w:Str)(most:Nat):Prop where
 lo:1<=w.cps.toList.length
 hi:w.cps.toList.length<=most
 mem:∀ c∈w.cps.toList,c∈z.cps.toList
theorem zlt{n q:Nat}{st:Sto}{z:Str}{most:Int}(h:PotB n q st)(hz1:1<=z.cps.toList.length)(hz2:z.cps.toList.length<=1000)(hm1:1<=most)(hm2:most<=1000) :
   ∃ (w:Str) (st':Sto),zbW [.ref n,.str z,.int most] st=some (.str w,st')/\WordOk z w most.toNat/\PotB n q st'/\FrB n q st st':=by
 have hzl:z.length<=10000:=by rw[len_list];omega
 obtain⟨r1,s1,e1,r10,r11,p1,f1⟩:=zbY (many:=most) h (by omega) (by omega);obtain⟨r2,s2,e2,r20,r21,p2,f2⟩:=zbY (many:=6) p1 (by decide) (by decide);have st1:mAsg (mBin addD (mCon (.int 1)) (zar zaj (zad (mVar 0) (zad (mVar 2) (mNil))))) (gNm 3) [some (.ref n),some (.str z),some (.int most),none] st=some (.nx [some (.ref n),some (.str z),some (.int most),some (.int (1+r1))],s1):=by simp[rho,zaP,za0,za1,zaX,zaF,zaN,zbb,zaA,zaL,zaJ,zaG,zbf,zbl,zbg,za3,zbq,za2,zcS,zaE,zbo,zcs,zbe,zcB,zcP,zbp,zcT,ap_w,zcx,zaK,zaZ,zbm,zcR,zcQ,zbc,zaM,zbr,zbn,zcj,zcn,zcM,zcL,zcK,zcJ,zcI,zcH,zcG,zcF,zcE,Ab,Ak,add_int,sub_int,ltD,leD,gtD,geD,cmpD,intC,rho0,zg5,ze7,zdt,ze6,zdu,e1]
 by_cases hr:r2=0
 . subst hr;obtain⟨c0,hc0⟩:∃ c,z.cps.toList[0]?=some c:=⟨_,Aj (by omega)⟩
   obtain⟨c1,hc1⟩:∃ c,z.cps.toList.getLast?=some c:=by
     rw[Du];exact⟨_,Aj (by omega)⟩
   have i0:ixA (.str z) (.int 0) s2=some (sgD c0,s2):=zf4 hzl (by decide) (by rw[<-AL];exact hc0);have i1:ixA (.str z) (.int (-1)) s2=some (sgD c1,s2):=zmL hzl hc1;have p3:=p2.gr (Gr.app s2 [.lst [sgD c0,sgD c1]]);have a3:=zbC s2 (.lst [sgD c0,sgD c1]);have f3:=FrB.app n q s2 [.lst [sgD c0,sgD c1]];obtain⟨hn3,hq3⟩:=p2.ne;generalize hs3:s2++[O.lst [sgD c0,sgD c1]]=s3 at p3 a3 f3;obtain⟨r3,s4,e4,r30,r31,p4,f4⟩:=zbY (many:=2) p3 (by decide) (by decide);have a4:s4[s2.length]?=some (.lst [sgD c0,sgD c1]):=(f4.old _ (getElem?_lt a3) (A9 hn3) (A9 hq3)).trans a3;obtain⟨c,hc,hcz⟩:∃ c,[sgD c0,sgD c1][r3.toNat]?=some (sgD c)/\c∈z.cps.toList:=by
     have:r3=0\/r3=1:=by omega
     rcases this with rfl | rfl
     . exact⟨c0,rfl,AV hc0⟩
     . exact⟨c1,rfl,List.mem_of_getLast? hc1⟩
   have i4:ixA (.ref s2.length) (.int r3) s4=some (sgD c,s4):=ze0 a4 r30 hc;have em:=zep (c:=c) (n:=1+r1) (st:=s4) (by omega) (by omega);refine⟨repS ⟨#[c]⟩ (1+r1),s4,zdc ?_,⟨?_,?_,?_⟩,p4,(f1.trans f2).trans (f3.trans f4)⟩
   . unfold zcV;refine zas st1 (zlP ?_);simp[rho,zaP,za0,za1,zaX,zaF,zaN,zbb,zaA,zaL,zaJ,zaG,zbf,zbl,zbg,za3,zbq,za2,zcS,zaE,zbo,zcs,zbe,zcB,zcP,zbp,zcT,ap_w,zcx,zaK,zaZ,zbm,zcR,zcQ,zbc,zaM,zbr,zbn,zcj,zcn,zcM,zcL,zcK,zcJ,zcI,zcH,zcG,zcF,zcE,Ab,Ak,add_int,sub_int,ltD,leD,gtD,geD,cmpD,intC,rho0,zg5,ze7,zdt,ze6,zdu,e2,eq_int,i0,i1,negD,hs3,e4,i4,em]
   . rw[zfs (by omega),Bd];omega
   . rw[zfs (by omega),Bd];omega
   . intro x hx;rw[zfs (by omega)] at hx;rw[List.eq_of_mem_replicate hx];exact hcz
 . have key:=zlr (W:=⟨run 0 (1+r1).toNat,[]⟩) (g:=gNm 0) (c:=zc4) (m:=zbR) (ds:=run 0 (1+r1).toNat) (acc:=[]) (st:=s2) (ρ:=[none,some (.str z),some (.ref n)])
     (Inv:=fun k a ρ s=>(∃ x,ρ=[x,some (.str z),some (.ref n)])/\(∃ cs:List Nat,a=cs.map sgD/\cs.length=k/\∀ c∈cs,c∈z.cps.toList)/\PotB n q s/\FrB n q st s)
     ⟨⟨_,rfl⟩,⟨[],rfl,rfl,by simp⟩,p2,f1.trans f2⟩ (fun _ _ _ _ _ _=>rfl) (fun k d a ρ s hd hI=>by
       obtain⟨⟨x,rfl⟩,⟨cs,rfl,hlen,hmem⟩,hp,hf⟩:=hI;obtain⟨r,s3,e3,r0,r1',p3,f3⟩:=zbY (many:=(z.length:Int)) hp (by rw[len_list];omega) (by rw[len_list];omega);have hr:r.toNat < z.cps.toList.length:=by rw[len_list] at r1';omega
       have ex:ixA (.str z) (.int r) s3=some (sgD z.cps.toList[r.toNat],s3):=zf4 hzl r0 (by rw[<-AL];exact Aj hr);have hf':fits z.length=true:=zaz hzl;have el:lenD [.str z] s=some (.int z.length,s):=by simp[lenD,hf']
       refine⟨[some d,some (.str z),some (.ref n)],s,true,s,by simp[rho,zaP,za0,za1,zaX,zaF,zaN,zbb,zaA,zaL,zaJ,zaG,zbf,zbl,zbg,za3,zbq,za2,zcS,zaE,zbo,zcs,zbe,zcB,zcP,zbp,zcT,ap_w,zcx,zaK,zaZ,zbm,zcR,zcQ,zbc,zaM,zbr,zbn,zcj,zcn,zcM,zcL,zcK,zcJ,zcI,zcH,zcG,zcF,zcE,Ab,Ak,add_int,sub_int,ltD,leD,gtD,geD,cmpD,intC,rho0,zg5,ze7,zdt,ze6,zdu],rfl,.inl ⟨rfl,sgD z.cps.toList[r.toNat],s3,?_,⟨_,rfl⟩,⟨cs++[z.cps.toList[r.toNat]],by simp,by simp[hlen],?_⟩,p3,hf.trans f3⟩⟩
       . unfold zbR;simp[rho,zaP,za0,za1,zaX,zaF,zaN,zbb,zaA,zaL,zaJ,zaG,zbf,zbl,zbg,za3,zbq,za2,zcS,zaE,zbo,zcs,zbe,zcB,zcP,zbp,zcT,ap_w,zcx,zaK,zaZ,zbm,zcR,zcQ,zbc,zaM,zbr,zbn,zcj,zcn,zcM,zcL,zcK,zcJ,zcI,zcH,zcG,zcF,zcE,Ab,Ak,add_int,sub_int,ltD,leD,gtD,geD,cmpD,intC,rho0,zg5,ze7,zdt,ze6,zdu,el,e3,ex]
       . intro c hc
         rcases List.mem_append.mp hc with hc | hc
         . exact hmem c hc
         . rw[List.mem_singleton.mp hc];exact Be _)
   obtain⟨xs,ρ',s',ec,_,⟨cs,hx,hlen,hmem⟩,hp,hf⟩:=key;rw[CY] at hx;subst hx;rw[zb6] at hlen;have p3:=hp.gr (Gr.app s' [.lst (cs.map sgD)]);obtain⟨w,ez,hw⟩:=Hn.joined (zbC s' (.lst (cs.map sgD))) (by omega);have fc:fits (cs.map sgD).length=true:=zaz (by rw[Af];omega);have sm:small (1+r1)=true:=zdM (by omega) (by omega);refine⟨w,s'++[.lst (cs.map sgD)],zdc ?_,⟨by rw[hw];omega,by rw[hw];omega,by rw[hw];exact hmem⟩,p3,hf.trans (FrB.app _ _ _ _)⟩;unfold zcV;refine zas st1 ?_;refine zas (ρ1:=[some (.ref n),some (.str z),some (.int most),some (.int (1+r1))]) (s1:=s2) (by simp[rho,zaP,za0,za1,zaX,zaF,zaN,zbb,zaA,zaL,zaJ,zaG,zbf,zbl,zbg,za3,zbq,za2,zcS,zaE,zbo,zcs,zbe,zcB,zcP,zbp,zcT,ap_w,zcx,zaK,zaZ,zbm,zcR,zcQ,zbc,zaM,zbr,zbn,zcj,zcn,zcM,zcL,zcK,zcJ,zcI,zcH,zcG,zcF,zcE,Ab,Ak,add_int,sub_int,ltD,leD,gtD,geD,cmpD,intC,rho0,zg5,ze7,zdt,ze6,zdu,e2,eq_int,hr]) ?_;have ecm:zdI (mR1 (mVar 3)) 1 [1,0] (gNm 0) (zc4) (zbR) [some (.ref n),some (.str z),some (.int most),some (.int (1+r1))] s2=some (.ref s'.length,s'++[.lst (cs.map sgD)]):=by
     rw[zaI,zcx];simp only[zaP,Ab,AF,A3,sm,if_true];rw[show rho0 [some (.ref n),some (.str z),some (.int most),some (.int (1+r1))] 1 [1,0]=[none,some (.str z),some (.ref n)] from rfl,ec];simp only[Ab,fc,if_true]
   simp[rho,zaP,za0,za1,zaX,zaF,zaN,zbb,zaA,zaL,zaJ,zaG,zbf,zbl,zbg,za3,zbq,za2,zcS,zaE,zbo,zcs,zbe,zcB,zcP,zbp,zcT,ap_w,zcx,zaK,zaZ,zbm,zcR,zcQ,zbc,zaM,zbr,zbn,zcj,zcn,zcM,zcL,zcK,zcJ,zcI,zcH,zcG,zcF,zcE,Ab,Ak,add_int,sub_int,ltD,leD,gtD,geD,cmpD,intC,rho0,zg5,ze7,zdt,ze6,zdu,ecm,ez]
theorem zmP{z:Str}{c:Nat}(hc:c∈z.cps.toList):∃ i:Nat,D7 z ⟨#[c]⟩=(i:Int)/\z.cps.toList[i]?=some c:=by
 have h:=ED z c;rw[decide_eq_true hc] at h
 cases ho:BV z ⟨#[c]⟩ 0 z.length 1 with
 | nil=>rw[ho] at h;cases h
 | cons i rest =>
   refine⟨i,by simp[D7,ho],?_⟩;exact (StrLaws.subAt_one z c i).mp (StrLaws.occ_spec z ⟨#[c]⟩ 0 z.length 1 i (by rw[ho];exact Am))
noncomputable def plc(z:Str)(c:Nat):Nat:=(D7 z ⟨#[c]⟩).toNat
theorem zks{z:Str}{c:Nat}(hc:c∈z.cps.toList):D7 z ⟨#[c]⟩=(plc z c:Int)/\z.cps.toList[plc z c]?=some c:=by
 obtain⟨i,h1,h2⟩:=zmP hc;unfold plc;rw[h1];exact⟨by simp,by simpa using h2⟩
theorem zmQ{z:Str}{c:Nat}{st:Sto}(hc:c∈z.cps.toList):findD (.str z) [sgD c] st=some (.int (plc z c),st):=by
 unfold findD sgD;simp[(zks hc).1]
noncomputable abbrev Tab:=List (List (Nat×Nat))
noncomputable def pD(p:Nat×Nat):D:=.tup [.int p.1,.int p.2]
noncomputable def rowD(r:List (Nat×Nat)):D:=.tup (r.map pD)
noncomputable def wkD(z:Str)(T:Tab):D:=.tup [.str z,.tup (T.map rowD)]
structure TabOk(z:Str)(T:Tab):Prop where
 lo:1<=T.length
 hi:T.length<=100
 row:∀ r∈T,r.length=z.cps.toList.length/\∀ p∈r,p.1 < z.cps.toList.length/\p.2 < T.length
noncomputable def chrZ(z:Str)(j:Nat):Nat:=z.cps.toList.getD j 0
theorem zla{z:Str}{j:Nat}(h:j < z.cps.toList.length):z.cps.toList[j]?=some (chrZ z j):=by
 unfold chrZ;rw[Ax,Aj h];rfl
theorem zmK{z:Str}{j:Nat}{st:Sto}(hz:z.cps.toList.length<=1000)(h:j < z.cps.toList.length):ixA (.str z) (.int (j:Int)) st=some (sgD (chrZ z j),st) :=
 zf4 (by rw[len_list];omega) (by omega) (by rw[<-AL];simpa using zla h)
theorem zi9{z:Str}{T:Tab}{st:Sto}:ixA (wkD z T) (.int 1) st=some (.tup (T.map rowD),st):=zcr (by decide) rfl
theorem zh2{z:Str}{T:Tab}{st:Sto}:ixA (wkD z T) (.int 0) st=some (.str z,st):=zcr (by decide) rfl
theorem zpJ{p:Nat×Nat}{st:Sto}:ixA (pD p) (.int 0) st=some (.int p.1,st):=zcr (by decide) rfl
theorem zpI{p:Nat×Nat}{st:Sto}:ixA (pD p) (.int 1) st=some (.int p.2,st):=zcr (by decide) rfl
end L2.MP.Hb
namespace L2.MP.Hd
open PySem L2.MP
end L2.MP.Hd
namespace L2.MP
open PySem
@[simp] theorem zpO(n:Nat)(ds:List D):rho n ds=ds.map some++Bk (n - ds.length) none:=rfl
@[simp] theorem zo6(ρ:Rho)(n:Nat)(l:List Nat):rho0 ρ n l=Bk n none++l.map fun (j:Nat)=>(ρ[j]?).join:=rfl
@[simp] theorem zpT{a b:Int}{st:Sto}:ltD (.int a) (.int b) st=some (.bl (decide (a < b)),st):=rfl
@[simp] theorem zpU{a b:Int}{st:Sto}:leD (.int a) (.int b) st=some (.bl (decide (a<=b)),st):=rfl
@[simp] theorem zpX{a b:Int}{st:Sto}:gtD (.int a) (.int b) st=some (.bl (decide (b < a)),st):=rfl
@[simp] theorem zpY{a b:Int}{st:Sto}:geD (.int a) (.int b) st=some (.bl (decide (b<=a)),st):=rfl
@[simp] theorem zpW{a:Int}{st:Sto}:intC [.int a] st=some (.int a,st):=rfl
@[simp] theorem zpV{b:Bool}{st:Sto}:intC [.bl b] st=some (.int (if b then 1 else 0),st):=rfl
end L2.MP
namespace L2.MP.Hd
open PySem L2.MP
theorem ziX{a b:Int}{st:Sto}(h:0 < b):modD (.int a) (.int b) st=some (.int (a % b),st):=by simp[modD,intD,h]
theorem zjS{a b:Int}{st:Sto}(h:0 < b)(h2:b < 340282366920938463463374607431768211456):ze2 (.int a) (.int b) st=some (.int (a / b),st):=by simp[ze2,intD,h,h2]
end L2.MP.Hd
namespace L2.MP.Hd
open PySem L2.MP
open L2.MP.Hb (zep zfs sgD)
end L2.MP.Hd
namespace L2.MP.Hd
open PySem L2.MP
open L2.MP.Hb (sgD)
end L2.MP.Hd
namespace L2.MP.Hd
open PySem L2.MP
noncomputable def kvS(p:Str×Int):Key×D:=(.inr p.1,.int p.2)
end L2.MP.Hd
namespace L2.MP
open PySem
theorem zo7{W:Wk}{g:MG}{c:MT}{m:ME}{α:Type}{f h:α->D}{R:Rho->Prop}:∀ {as:List α} {ρ:Rho} {st:Sto},R ρ->(∀ s,Gr st s->walked W s=true)->(∀ a∈as,∀ ρ s,R ρ->Gr st s->∃ ρ1 s1,g (f a) ρ s=some (ρ1,s)/\c ρ1 s=some (true,s)/\m ρ1 s=some (h a,s1)/\Gr s s1/\R ρ1) ->
   ∃ s',mCI W g c m (as.map f) ρ st=some (as.map h,s')/\Gr st s'
 | [],ρ,st,r,wk,_=>⟨st,by unfold mCI;rw[BQ];simp only[wk st (Gr.refl st),if_true,BQ],Gr.refl st⟩
 | a::as,ρ,st,r,wk,hs=>by
   obtain⟨ρ1,s1,e1,e2,e3,g1,r1⟩:=hs a Am ρ st r (Gr.refl st);obtain⟨s',e,g'⟩:=zo7 (W:=W) (g:=g) (c:=c) (m:=m) (f:=f) (h:=h) (R:=R) (as:=as) (st:=s1) r1 (fun s q=>wk s (g1.trans q)) fun b hb ρ s q z=>hs b (Ah _ hb) ρ s q (g1.trans z);refine⟨s',?_,g1.trans g'⟩;rw[Aq];unfold mCI;rw[if_pos (wk st (Gr.refl st)),e1];simp only[Ab,e2,if_true,e3,e,Ak,Aq]
end L2.MP
namespace L2.MP.stickytiles_k49_walked_beds_formed
open PySem L2.MP L2.MP.Hb
noncomputable def ziw:MS:=mRet (mBin addD (mBin addD (mBin addD (mVar 0) (mBin ixA (mCon (.str "abcdefghijklmnopqrstuvwxyz")) (mBin ze2 (mVar 1) (mCon (.int 676))))) (mBin ixA (mCon (.str "abcdefghijklmnopqrstuvwxyz")) (mBin modD (mBin ze2 (mVar 1) (mCon (.int 26))) (mCon (.int 26))))) (mBin ixA (mCon (.str "abcdefghijklmnopqrstuvwxyz")) (mBin modD (mVar 1) (mCon (.int 26)))))
noncomputable def za6:GN:=fnM 2 ziw
noncomputable def zfO:MS:=mRet (mTup (zad (mVar 0) (zad (zar zcZ (zad (znc (mVar 1)) (mNil))) (zad (zar zcZ (zad (mVar 2) (mNil))) (mNil)))))
noncomputable def zct:GN:=fnM 3 zfO
noncomputable def zcb:ME:=mTup (zad (mBin modD (mBin addD (mVar 0) (mCon (.int 1))) (mVar 1)) (zad (mIte (mTst (mBin eqD (mVar 0) (mBin subD (mVar 1) (mCon (.int 1))))) (mCon (.int 0)) (mCon (.int 1))) (mNil)))
noncomputable def zdm:ME:=mTup (zad (mVar 0) (zad (mCon (.int 1)) (mNil)))
noncomputable def zgK:MS:=mSeq (mAsg (zdI (mR1 (mVar 0)) 1 [0] (gNm 0) (zc4) (zcb)) (gNm 1)) (mSeq (mAsg (zdI (mR1 (mVar 0)) 1 [] (gNm 0) (zc4) (zdm)) (gNm 2)) (mRet (mTup (zad (mSlC (mCon (.str "0123456789abcdefghijklmnopqrstuvwxyz")) (zhM) (zhL (mVar 0))) (zad (mTup (zad (zar zcZ (zad (mVar 1) (mNil))) (zad (zar zcZ (zad (mVar 2) (mNil))) (mNil)))) (mNil))))))
noncomputable def zbG:GN:=fnM 3 zgK
noncomputable def zdB:MS:=mRet (zar za6 (zad (mCon (.str "l")) (zad (mVar 0) (mNil))))
noncomputable def zap:GN:=fnM 1 zdB
noncomputable def zd3:MS:=mRet (zar za6 (zad (mCon (.str "s")) (zad (mVar 0) (mNil))))
noncomputable def zau:GN:=fnM 1 zd3
noncomputable def zet:MS:=mRet (zar za6 (zad (mCon (.str "w")) (zad (mVar 0) (mNil))))
noncomputable def zaC:GN:=fnM 1 zet
noncomputable def zdD:MS:=mRet (zar za6 (zad (mCon (.str "c")) (zad (mCon (.int 0)) (mNil))))
noncomputable def zaU:GN:=fnM 0 zdD
noncomputable def zbO:MS:=mSeq (mAsg (zar zap (zad (zne findD (mBin ixA (mVar 0) (mCon (.int 0))) (zad (mVar 4) (mNil))) (mNil))) (gNm 5)) (mExp (mApp (mVar 2) (zad (mTup (zad (mVar 4) (zad (mVar 5) (zad (zar zaC (zad (mBin addD (mVar 3) (mCon (.int 1))) (mNil))) (zad (mCon (.str "")) (zad (zar zaC (zad (mVar 3) (mNil))) (mNil))))))) (mNil))))
noncomputable def zd2:MS:=mSeq (mAsg (mLst (mNil)) (gNm 2)) (mSeq (mFor (mEnT (mVar 1)) (gTp 2 (gC (gNm 3) (gC (gNm 4) (gN0)))) (zbO)) (mRet (mVar 2)))
noncomputable def zbV:GN:=fnM 6 zd2
noncomputable def zci:MS:=mSeq (mAsg (mTup (zad (mCon (.str "")) (zad (zar zaU (mNil)) (zad (mCon (.str "")) (zad (mCon (.str "")) (zad (zar zaC (zad (zar lenD (zad (mVar 0) (mNil))) (mNil))) (mNil))))))) (gNm 1)) (mSeq (mAsg (mTup (zad (mCon (.str "")) (zad (zar zaU (mNil)) (zad (mCon (.str "")) (zad (zar zaU (mNil)) (zad (zar zau (zad (mCon (.int 0)) (mNil))) (mNil))))))) (gNm 2)) (mRet (mLst (zad (mVar 1) (zad (mVar 2) (mNil))))))
noncomputable def zbB:GN:=fnM 3 zci
noncomputable def zbi:MS:=mSeq (mAsg (mBin ixA (mVar 6) (mCon (.int 0))) (gNm 7)) (mSeq (mAsg (mTup (zad (zar zap (zad (mVar 7) (mNil))) (zad (zar zau (zad (mVar 3) (mNil))) (zad (zar zap (zad (mVar 5) (mNil))) (zad (zar zau (zad (mBin ixA (mVar 6) (mCon (.int 1))) (mNil))) (mNil)))))) (gNm 8)) (mExp (mApp (mVar 2) (zad (mBin addD (mTup (zad (mBin ixA (mVar 1) (mVar 7)) (mNil))) (mVar 8)) (mNil)))))
noncomputable def zcC:MS:=mFor (zjF (mVar 4)) (gTp 2 (gC (gNm 5) (gC (gNm 6) (gN0)))) (zbi)
noncomputable def zdw:MS:=mSeq (mAsg (mBin ixA (mVar 0) (mCon (.int 0))) (gNm 1)) (mSeq (mAsg (mLst (mNil)) (gNm 2)) (mSeq (mFor (zjF (mBin ixA (mVar 0) (mCon (.int 1)))) (gTp 2 (gC (gNm 3) (gC (gNm 4) (gN0)))) (zcC)) (mRet (mVar 2))))
noncomputable def zbI:GN:=fnM 9 zdw
noncomputable def zdl:MS:=putA (mVar 2) (zar zaC (zad (mVar 3) (mNil))) (mCon (.int 2))
noncomputable def zdk:MS:=putA (mVar 2) (zar zap (zad (mVar 3) (mNil))) (mCon (.int 1))
noncomputable def zdj:MS:=putA (mVar 2) (zar zau (zad (mVar 3) (mNil))) (mCon (.int 1))
noncomputable def zcu:MS:=mSeq (mAsg (ziY (zar zaU (mNil)) (mCon (.int 2))) (gNm 2)) (mSeq (mFor (mR1 (mBin addD (zar lenD (zad (mVar 1) (mNil))) (mCon (.int 1)))) (gNm 3) (zdl)) (mSeq (mFor (mR1 (zar lenD (zad (mBin ixA (mVar 0) (mCon (.int 0))) (mNil)))) (gNm 3) (zdk)) (mSeq (mFor (mR1 (zar lenD (zad (mBin ixA (mVar 0) (mCon (.int 1))) (mNil)))) (gNm 3) (zdj)) (mRet (mVar 2)))))
noncomputable def za4:GN:=fnM 4 zcu
noncomputable def zcU:MS:=mSeq (mAsg (zar lenD (zad (mVar 1) (mNil))) (gNm 3)) (mSeq (mAsg (mBin addD (mBin addD (zar zbV (zad (mVar 0) (zad (mVar 1) (mNil)))) (zar zbB (zad (mVar 1) (mNil)))) (zar zbI (zad (mVar 0) (mNil)))) (gNm 4)) (mRet (mTup (zad (zar zct (zad (mCon (.int 2)) (zad (zar za4 (zad (mVar 0) (zad (mVar 1) (mNil)))) (zad (mVar 4) (mNil))))) (zad (mTup (zad (mBin addD (mVar 3) (mCon (.int 1))) (zad (mBin addD (mVar 2) (mCon (.int 1))) (mNil)))) (zad (mTup (zad (mTup (zad (mVar 3) (zad (mCon (.int 0)) (zad (mVar 3) (mNil))))) (mNil))) (mNil)))))))
noncomputable def zaS:GN:=fnM 5 zcU
noncomputable def zbQ:MS:=mSeq (mAsg (mBin addE (mBin ixA (mCon (.str "0123456789abcdefghijklmnopqrstuvwxyz")) (mBin modD (mVar 2) (mVar 0))) (mVar 3)) (gNm 3)) (mAsg (mBin ze2 (mVar 2) (mVar 0)) (gNm 2))
noncomputable def zd5:MS:=mSeq (mAsg (mCon (.str "")) (gNm 3)) (mSeq (mFor (mR1 (mVar 1)) (gNm 4) (zbQ)) (mRet (mVar 3)))
noncomputable def zbX:GN:=fnM 5 zd5
noncomputable def zdC:MS:=mRet (zar zaS (zad (zar zbG (zad (mVar 0) (mNil))) (zad (zar zbX (zad (mVar 0) (zad (mVar 1) (zad (mVar 2) (mNil))))) (zad (mVar 3) (mNil)))))
noncomputable def zaT:GN:=fnM 4 zdC
noncomputable def za7:ME:=mTup (zad (zar zaj (zad (mVar 1) (zad (zar lenD (zad (mVar 2) (mNil))) (mNil)))) (zad (zar zaj (zad (mVar 1) (zad (mVar 3) (mNil)))) (mNil)))
noncomputable def zbU:MS:=mExp (mApp (mVar 5) (zad (zar zcZ (zad (zdI (mWA (mVar 3)) 1 [0,3,4] (gNm 0) (zc4) (za7)) (mNil))) (mNil)))
noncomputable def zch:MS:=mSeq (mAsg (zar zb0 (zad (mVar 0) (zad (mBin addD (mCon (.int 1)) (zar zaj (zad (mVar 0) (zad (mVar 1) (mNil))))) (mNil)))) (gNm 3)) (mSeq (mAsg (mBin addD (mCon (.int 1)) (zar zaj (zad (mVar 0) (zad (mVar 2) (mNil))))) (gNm 4)) (mSeq (mAsg (mLst (mNil)) (gNm 5)) (mSeq (mFor (mR1 (mVar 4)) (gNm 6) (zbU)) (mRet (mTup (zad (mVar 3) (zad (zar zcZ (zad (mVar 5) (mNil))) (mNil))))))))
noncomputable def zbA:GN:=fnM 7 zch
noncomputable def zda:MS:=mRet (ziz (mIsi "int" (mVar 0)) (ziz (znd (mIsi "bool" (mVar 0))) (zi0 leD leD (mVar 1) (mVar 0) (mVar 2))))
noncomputable def zao:GN:=fnM 3 zda
noncomputable def zcg:ME:=mBin inA (mVar 0) (mVar 1)
noncomputable def zd4:MS:=mRet (ziz (mIsi "str" (mVar 0)) (ziz (mBin leD (zar lenD (zad (mVar 0) (mNil))) (mVar 2)) (zar allC (zad (zdI (mWA (mVar 0)) 1 [1] (gNm 0) (zc4) (zcg)) (mNil)))))
noncomputable def zbs:GN:=fnM 3 zd4
noncomputable def zb4:ME:=ziz (mIsi "tuple" (mVar 0)) (mBin eqD (zar lenD (zad (mVar 0) (mNil))) (mVar 1))
noncomputable def zdA:MS:=mRet (ziz (mIsi "tuple" (mVar 0)) (zar allC (zad (zdI (mWA (mVar 0)) 1 [1] (gNm 0) (zc4) (zb4)) (mNil))))
noncomputable def zav:GN:=fnM 2 zdA
noncomputable def zba:ME:=mVar 0
noncomputable def zbF:ME:=ziz (zar zbs (zad (mVar 0) (zad (mVar 1) (zad (mCon (.int 8)) (mNil))))) (mBin neD (mVar 0) (mCon (.str "")))
noncomputable def zbE:ME:=zar zao (zad (mVar 1) (zad (mCon (.int 1)) (zad (mCon (.int 4)) (mNil))))
noncomputable def zbD:ME:=mBin inA (mVar 0) (mBin addD (mVar 1) (mLst (zad (mCon (.str "")) (mNil))))
noncomputable def za9:MS:=mIf (mOrT (zd6 (mTst (zar zbs (zad (mBin ixA (mVar 3) (mCon (.int 0))) (zad (mBin addD (mVar 1) (mCon (.str "0123456789"))) (zad (mCon (.int 1)) (mNil))))))) (zd6 (mTst (zar allC (zad (zdI (mWA (mSlB (mVar 3) (zhL (mCon (.int 1))) (zhM))) 1 [2] (gNm 0) (zc4) (zbD)) (mNil)))))) (mRet (mCon (.bl false))) (ze9)
noncomputable def zcv:MS:=mSeq (mAsg (mCon (.str "abcdefghijklmnopqrstuvwxyz")) (gNm 1)) (mSeq (mIf (mOrT (zd6 (mTst (mIsi "tuple" (mVar 0)))) (mOrT (mTst (mBin neD (zar lenD (zad (mVar 0) (mNil))) (mCon (.int 3)))) (zd6 (mTst (zar zao (zad (mBin ixA (mVar 0) (mCon (.int 0))) (zad (mCon (.int 2)) (zad (mCon (.int 2)) (mNil))))))))) (mRet (mCon (.bl false))) (ze9)) (mSeq (mIf (mOrT (zd6 (mTst (zar zav (zad (mBin ixA (mVar 0) (mCon (.int 1))) (zad (mCon (.int 2)) (mNil)))))) (mOrT (zd6 (mTst (zar zav (zad (mBin ixA (mVar 0) (mCon (.int 2))) (zad (mCon (.int 5)) (mNil)))))) (mTst (mBin eqD (mBin ixA (mVar 0) (mCon (.int 2))) (mTup (mNil)))))) (mRet (mCon (.bl false))) (ze9)) (mSeq (mAsg (zdI (mWA (mBin ixA (mVar 0) (mCon (.int 1)))) 2 [] (gTp 2 (gC (gNm 0) (gC (gNm 1) (gN0)))) (zc4) (zba)) (gNm 2)) (mSeq (mIf (mOrT (zd6 (mTst (zar allC (zad (zdI (mWA (mVar 2)) 1 [1] (gNm 0) (zc4) (zbF)) (mNil))))) (mTst (mBin neD (mVar 2) (znb (mVar 2))))) (mRet (mCon (.bl false))) (ze9)) (mSeq (mIf (zd6 (mTst (zar allC (zad (zdI (mWA (mBin ixA (mVar 0) (mCon (.int 1)))) 2 [] (gTp 2 (gC (gNm 0) (gC (gNm 1) (gN0)))) (zc4) (zbE)) (mNil))))) (mRet (mCon (.bl false))) (ze9)) (mSeq (mFor (mWA (mBin ixA (mVar 0) (mCon (.int 2)))) (gNm 3) (za9)) (mRet (mCon (.bl true)))))))))
noncomputable def za5:GN:=fnM 4 zcv
noncomputable def zdb:MS:=mSeq (mIf (mOrT (zd6 (mTst (mIsi "tuple" (mVar 0)))) (mOrT (mTst (mBin neD (zar lenD (zad (mVar 0) (mNil))) (mCon (.int 3)))) (zd6 (mTst (zar za5 (zad (mBin ixA (mVar 0) (mCon (.int 0))) (mNil))))))) (mRet (mCon (.bl false))) (ze9)) (mSeq (mIf (mOrT (zd6 (mTst (zar zav (zad (mTup (zad (mBin ixA (mVar 0) (mCon (.int 1))) (mNil))) (zad (mCon (.int 2)) (mNil)))))) (mOrT (zd6 (mTst (zar zav (zad (mBin ixA (mVar 0) (mCon (.int 2))) (zad (mCon (.int 3)) (mNil)))))) (mTst (mBin neD (zar lenD (zad (mBin ixA (mVar 0) (mCon (.int 2))) (mNil))) (mCon (.int 1)))))) (mRet (mCon (.bl false))) (ze9)) (mSeq (mIf (mOrT (zd6 (mTst (zar zao (zad (mBin ixA (mBin ixA (mVar 0) (mCon (.int 1))) (mCon (.int 0))) (zad (mVar 1) (zad (mVar 1) (mNil))))))) (zd6 (mTst (zar zao (zad (mBin ixA (mBin ixA (mVar 0) (mCon (.int 1))) (mCon (.int 1))) (zad (mVar 2) (zad (mVar 2) (mNil)))))))) (mRet (mCon (.bl false))) (ze9)) (mSeq (mAsg (mBin ixA (mBin ixA (mVar 0) (mCon (.int 2))) (mCon (.int 0))) (gTp 3 (gC (gNm 4) (gC (gNm 5) (gC (gNm 6) (gN0)))))) (mSeq (mIf (mOrT (zd6 (mTst (zar zao (zad (mVar 4) (zad (mCon (.int 0)) (zad (mBin subD (mVar 1) (mCon (.int 1))) (mNil))))))) (zd6 (mTst (zar zao (zad (mVar 5) (zad (mCon (.int 0)) (zad (mBin subD (mVar 2) (mCon (.int 1))) (mNil)))))))) (mRet (mCon (.bl false))) (ze9)) (mRet (ziz (zar zao (zad (mVar 6) (zad (mCon (.int 0)) (zad (mBin subD (zar lenD (zad (mBin ixA (mBin ixA (mVar 0) (mCon (.int 0))) (mCon (.int 2))) (mNil))) (mCon (.int 1))) (mNil))))) (mBin leD (zar lenD (zad (mBin ixA (mBin ixA (mVar 0) (mCon (.int 0))) (mCon (.int 2))) (mNil))) (mVar 3))))))))
noncomputable def zaR:GN:=fnM 7 zdb
noncomputable def zb3:MS:=mAsg (mBin mulA (mVar 2) (mVar 0)) (gNm 2)
noncomputable def zdz:MS:=mSeq (mAsg (mCon (.int 1)) (gNm 2)) (mSeq (mFor (mR1 (mVar 1)) (gNm 3) (zb3)) (mRet (mVar 2)))
noncomputable def zbu:GN:=fnM 4 zdz
noncomputable def zfM:MS:=mSeq (mAsg (zar zbA (zad (mVar 1) (zad (mCon (.int 10)) (zad (mCon (.int 4)) (mNil))))) (gNm 3)) (mSeq (mPar 4 5 (zad (zar zbW (zad (mVar 1) (zad (mBin ixA (mVar 3) (mCon (.int 0))) (zad (mCon (.int 6)) (mNil))))) (zad (zar zaj (zad (mVar 1) (zad (mCon (.int 9)) (mNil)))) (mNil)))) (mSeq (mAsg (zar zaS (zad (mVar 3) (zad (mVar 4) (zad (mVar 5) (mNil))))) (gNm 6)) (mSeq (mAsg (mBin addD (mBin addD (mBin mulA (zar lenD (zad (mBin ixA (mVar 3) (mCon (.int 1))) (mNil))) (zar lenD (zad (mBin ixA (mVar 3) (mCon (.int 0))) (mNil)))) (zar lenD (zad (mVar 4) (mNil)))) (mCon (.int 2))) (gNm 7)) (mSeq (mIf (mOrT (zd6 (mTst (zar zaR (zad (mVar 6) (zad (mBin addD (zar lenD (zad (mVar 4) (mNil))) (mCon (.int 1))) (zad (mBin addD (mVar 5) (mCon (.int 1))) (zad (mVar 7) (mNil)))))))) (mTst (mBin neD (zar zaS (zad (mVar 3) (zad (mVar 4) (zad (mVar 5) (mNil))))) (mVar 6)))) (mRet (mCon (.bl false))) (ze9)) (mSeq (mPar 8 9 (zad (mBin addD (mCon (.int 2)) (zar zaj (zad (mVar 1) (zad (mCon (.int 9)) (mNil))))) (zad (mBin addD (mCon (.int 1)) (zar zaj (zad (mVar 1) (zad (mCon (.int 6)) (mNil))))) (mNil)))) (mSeq (mPar 10 5 (zad (zar zaj (zad (mVar 1) (zad (zar zbu (zad (mVar 8) (zad (mVar 9) (mNil)))) (mNil)))) (zad (zar zaj (zad (mVar 1) (zad (mCon (.int 9)) (mNil)))) (mNil)))) (mSeq (mAsg (zar zaT (zad (mVar 8) (zad (mVar 9) (zad (mVar 10) (zad (mVar 5) (mNil)))))) (gNm 6)) (mSeq (mAsg (mBin addD (mBin addD (mBin mulA (zar lenD (zad (mBin ixA (zar zbG (zad (mVar 8) (mNil))) (mCon (.int 1))) (mNil))) (mVar 8)) (mVar 9)) (mCon (.int 2))) (gNm 7)) (mIf (mOrT (zd6 (mTst (zar zaR (zad (mVar 6) (zad (mBin addD (mVar 9) (mCon (.int 1))) (zad (mBin addD (mVar 5) (mCon (.int 1))) (zad (mVar 7) (mNil)))))))) (mTst (mBin neD (zar zaT (zad (mVar 8) (zad (mVar 9) (zad (mVar 10) (zad (mVar 5) (mNil)))))) (mVar 6)))) (mRet (mCon (.bl false))) (ze9))))))))))
noncomputable def zoV:MS:=mSeq (mAsg (zar zbZ (zad (mVar 0) (mNil))) (gNm 1)) (mSeq (mFor (mR1 (mCon (.int 3))) (gNm 2) (zfM)) (mRet (mCon (.bl true))))
noncomputable def zln:GN:=fnM 11 zoV
end L2.MP.stickytiles_k49_walked_beds_formed
namespace L2.MP.stickytiles_k49_walked_beds_formed
open PySem L2 L2.MP L2.MP.Hb PySem.Spec PyProof.Rows
noncomputable def top(i:Nat):Stmt:=PySem.Challenge.pw_stickytiles_k49_walked_beds_formed.main.body.getD i (.Pass ⟨0,0,0,0⟩)
section
variable {P:Program} {w:World} {K:Ac} {mg:Str->Option Value} {base:Heap}
theorem nd_0:(["figure","base"]:List Str).Nodup:=by decide +kernel
theorem nd_1:(["base","adding","keeping"]:List Str).Nodup:=by decide +kernel
theorem nd_2:(["figure"]:List Str).Nodup:=by decide +kernel
theorem nd_3:(["walker","word","found","number","letter","north"]:List Str).Nodup:=by decide +kernel
theorem nd_4:(["word","seed","other"]:List Str).Nodup:=by decide +kernel
theorem nd_5:(["walker","letters","found","state","steps","letter","step","new","sides"]:List Str).Nodup:=by decide +kernel
theorem nd_6:(["walker","word","strengths","number"]:List Str).Nodup:=by decide +kernel
theorem nd_7:(["walker","word","rows","wide","kinds"]:List Str).Nodup:=by decide +kernel
theorem nd_8:(["base","wide","number","written","place"]:List Str).Nodup:=by decide +kernel
theorem nd_9:(["_law_script","_law_seed","_law_k","_law_cell"]:List Str).Nodup:=by decide +kernel
theorem zpH:(["_law_cell"]:List Str).Nodup:=by decide +kernel
theorem zpG:(["_law_state","_law_many","_law_digit"]:List Str).Nodup:=by decide +kernel
theorem zpF:(["_law_state","_law_many","_law_left"]:List Str).Nodup:=by decide +kernel
theorem zpE:(["_law_k","_law_left","_law_state"]:List Str).Nodup:=by decide +kernel
theorem zm9:(["_law_state","_law_signs_here","_law_states","_law_letters","_law_many","_law_table","_law_turn"]:List Str).Nodup:=by decide +kernel
theorem zpD:(["_law_sign","_law_state","_law_letters","_law_many"]:List Str).Nodup:=by decide +kernel
theorem zpC:(["_law_state","_law_letters","_law_most","_law_many"]:List Str).Nodup:=by decide +kernel
theorem zpB:(["_law_turn","_law_letters","_law_state"]:List Str).Nodup:=by decide +kernel
theorem zpA:(["_law_sign","_law_signs_here"]:List Str).Nodup:=by decide +kernel
theorem zpz:(["_law_one","_law_many"]:List Str).Nodup:=by decide +kernel
theorem zol:(["_law_thing","_law_letters","_law_names","_law_kind"]:List Str).Nodup:=by decide +kernel
theorem zm8:(["_law_name","_law_strength"]:List Str).Nodup:=by decide +kernel
theorem zpy:(["_law_name","_law_letters"]:List Str).Nodup:=by decide +kernel
theorem zpx:(["_law_side","_law_names"]:List Str).Nodup:=by decide +kernel
theorem zok:(["_law_thing","_law_wide","_law_high","_law_most","_law_x","_law_y","_law_kind"]:List Str).Nodup:=by decide +kernel
theorem zoj:(["_law_base","_law_many","_law_number_here","_law_turn"]:List Str).Nodup:=by decide +kernel
theorem ziy:(["_law_script","_law_state","_law_turn","_law_walker_here","_law_word_here","_law_rows","_law_bed","_law_most","_law_base","_law_wide","_law_first"]:List Str).Nodup:=by decide +kernel
theorem zgN:FnScope ["letter","number"] ["letter","number"] (zal (top 2)):=⟨rfl,rfl,rfl,by decide +kernel,rfl,by decide +kernel,by decide +kernel⟩
theorem zgS{t_LETTERS:Tok}(L:Laid K mg "numbered" (top 2) ["letter","number"])(g_LETTERS:mg "LETTERS"=some (.str "abcdefghijklmnopqrstuvwxyz" t_LETTERS)):za8 P w K mg base 1 "numbered" 2 za6 :=
 zbJ (k:=0) L zgN fun f cdv A outer s H E hr=>JSs.out (zam (JS.mk (zaV (zat zaH (zat zaH (zat zaH (zab 0) (zaw (zbv hr) (zfi rfl g_LETTERS) (zat zdV (zab 1) (zae)))) (zaw (zbv hr) (zfi rfl g_LETTERS) (zat zcq (zat zdV (zab 1) (zae)) (zae)))) (zaw (zbv hr) (zfi rfl g_LETTERS) (zat zcq (zab 1) (zae)))))))
theorem zgO:FnScope ["enough","strengths","kinds"] ["enough","strengths","kinds"] (zal (top 3)):=⟨rfl,rfl,rfl,by decide +kernel,rfl,by decide +kernel,by decide +kernel⟩
theorem zgT(L:Laid K mg "house_of" (top 3) ["enough","strengths","kinds"])(b_tuple:mg "tuple"=none)(b_sorted:mg "sorted"=none):za8 P w K mg base 1 "house_of" 3 zct :=
 zbJ (k:=0) L zgO fun f cdv A outer s H E hr=>JSs.out (zam (JS.mk (zaV (zck (zaa (zab 0) (zaa (zce zbS rfl b_tuple zb1 (zaa (zlR rfl rfl b_sorted (zab 1)) (zaf))) (zaa (zce zbS rfl b_tuple zb1 (zaa (zab 2) (zaf))) (zaf))))))))
theorem zhu:FnScope ["base","adding","keeping"] ["base"] (zal (top 6)):=⟨rfl,rfl,rfl,by decide +kernel,rfl,by decide +kernel,by decide +kernel⟩
theorem zhK{t_FIGURES:Tok}(L:Laid K mg "counter" (top 6) ["base"])(b_range:mg "range"=none)(b_tuple:mg "tuple"=none)(g_FIGURES:mg "FIGURES"=some (.str "0123456789abcdefghijklmnopqrstuvwxyz" t_FIGURES)):za8 P w K mg base 1 "counter" 1 zbG :=
 zbJ (k:=0) L zhu fun f cdv A outer s H E hr=>JSs.out (zah (JS.mk (zej (i:=1) rfl rfl (zbK (N':=["figure","base"]) (nt:=1) (fr:=[0]) ["base"] rfl (by decide +kernel) (by decide +kernel) (by decide +kernel) rfl ⟨⟨rfl,by decide⟩,trivial⟩ ⟨by first | exact As rfl | exact Ap rfl,trivial⟩) (zbx rfl b_range (zab 0)) (fun C s0 H0 fp=>zaD (i:=0) nd_0 rfl (by first | exact As rfl | exact Ap rfl)) (fun C s0 H0 fp=>zdU) (fun C s0 H0 fp=>zck (zaa (zat zcq (zat zaH (zab 0) (zae)) (zab 1)) (zaa (znG (zdd (zhH (zbL hr)) (zab 0) (zat zgs (zab 1) (zae)) rfl) (zae) (zae)) (zaf)))) nd_1 rfl rfl)) (zah (JS.mk (zej (i:=2) rfl rfl (zbK (N':=["figure"]) (nt:=1) (fr:=[]) [] rfl (by decide +kernel) (by decide +kernel) (by decide +kernel) rfl trivial trivial) (zbx rfl b_range (zab 0)) (fun C s0 H0 fp=>zaD (i:=0) nd_2 rfl (by first | exact As rfl | exact Ap rfl)) (fun C s0 H0 fp=>zdU) (fun C s0 H0 fp=>zck (zaa (zab 0) (zaa (zae) (zaf)))) nd_1 rfl rfl)) (zam (JS.mk (zaV (zck (zaa (ziJ (zfi rfl g_FIGURES) (zgm) (zgl (zab 0))) (zaa (zck (zaa (zce zbS rfl b_tuple zb1 (zaa (zab 1) (zaf))) (zaa (zce zbS rfl b_tuple zb1 (zaa (zab 2) (zaf))) (zaf)))) (zaf)))))))))
theorem zeF:FnScope ["number"] ["number"] (zal (top 8)):=⟨rfl,rfl,rfl,by decide +kernel,rfl,by decide +kernel,by decide +kernel⟩
theorem zeU(L:Laid K mg "letter_name" (top 8) ["number"])(h_numbered:za8 P w K mg base 1 "numbered" 2 za6):za8 P w K mg base 2 "letter_name" 1 zap :=
 zbJ (k:=1) L zeF fun f cdv A outer s H E hr=>JSs.out (zam (JS.mk (zaV (zag h_numbered (hr.mono (by decide)) rfl (zaa (zcl) (zaa (zab 0) (zaf))) (zak.cons (zak.cons zak.nil))))))
theorem zfm:FnScope ["number"] ["number"] (zal (top 9)):=⟨rfl,rfl,rfl,by decide +kernel,rfl,by decide +kernel,by decide +kernel⟩
theorem zfy(L:Laid K mg "state_name" (top 9) ["number"])(h_numbered:za8 P w K mg base 1 "numbered" 2 za6):za8 P w K mg base 2 "state_name" 1 zau :=
 zbJ (k:=1) L zfm fun f cdv A outer s H E hr=>JSs.out (zam (JS.mk (zaV (zag h_numbered (hr.mono (by decide)) rfl (zaa (zcl) (zaa (zab 0) (zaf))) (zak.cons (zak.cons zak.nil))))))
theorem zfX:FnScope ["number"] ["number"] (zal (top 10)):=⟨rfl,rfl,rfl,by decide +kernel,rfl,by decide +kernel,by decide +kernel⟩
theorem zf0(L:Laid K mg "word_name" (top 10) ["number"])(h_numbered:za8 P w K mg base 1 "numbered" 2 za6):za8 P w K mg base 2 "word_name" 1 zaC :=
 zbJ (k:=1) L zfX fun f cdv A outer s H E hr=>JSs.out (zam (JS.mk (zaV (zag h_numbered (hr.mono (by decide)) rfl (zaa (zcl) (zaa (zab 0) (zaf))) (zak.cons (zak.cons zak.nil))))))
theorem zeH:FnScope [] [] (zal (top 11)):=⟨rfl,rfl,rfl,by decide +kernel,rfl,by decide +kernel,by decide +kernel⟩
theorem zeW(L:Laid K mg "column_name" (top 11) [])(h_numbered:za8 P w K mg base 1 "numbered" 2 za6):za8 P w K mg base 2 "column_name" 0 zaU :=
 zbJ (k:=1) L zeH fun f cdv A outer s H E hr=>JSs.out (zam (JS.mk (zaV (zag h_numbered (hr.mono (by decide)) rfl (zaa (zcl) (zaa (zae) (zaf))) (zak.cons (zak.cons zak.nil))))))
theorem zfk:FnScope ["walker","word","found","number","letter","north"] ["walker","word"] (zal (top 12)):=⟨rfl,rfl,rfl,by decide +kernel,rfl,by decide +kernel,by decide +kernel⟩
theorem zfw(L:Laid K mg "word_kinds" (top 12) ["walker","word"])(b_enumerate:mg "enumerate"=none)(h_letter_name:za8 P w K mg base 2 "letter_name" 1 zap)(h_word_name:za8 P w K mg base 2 "word_name" 1 zaC):za8 P w K mg base 3 "word_kinds" 2 zbV :=
 zbJ (k:=2) L zfk fun f cdv A outer s H E hr=>JSs.out (zah (JS.mk (zbd (i:=2) nd_3 rfl (by first | exact As rfl | exact Ap rfl) (zey (zaf)))) (zah (zdJ AY rfl (zkf rfl b_enumerate (zab 1)) (zfV rfl (zbk (zaD (i:=3) nd_3 rfl (by first | exact As rfl | exact Ap rfl)) (zbk (zaD (i:=4) nd_3 rfl (by first | exact As rfl | exact Ap rfl)) (zdT)))) (zah (JS.mk (zbd (i:=5) nd_3 rfl (by first | exact As rfl | exact Ap rfl) (zag h_letter_name (hr.mono (by decide)) rfl (zaa (zlU PySem.F.slot_str_find PySem.F.type_str_find zkJ (zaw (zbv hr) (zab 0) (zae)) (zaa (zab 4) (zaf))) (zaf)) (zak.cons zak.nil)))) (zam (JS.mk (zgj (zez (zab 2) (zaa (zck (JA.out (zay (zab 4) (zay (zab 5) (zay (zag h_word_name (hr.mono (by decide)) rfl (zaa (zat zaH (zab 3) (zae)) (zaf)) (zak.cons zak.nil)) (zay (zcl) (zay (zag h_word_name (hr.mono (by decide)) rfl (zaa (zab 3) (zaf)) (zak.cons zak.nil)) (zfD)))))))) (zaf)))))))) (zam (JS.mk (zaV (zab 2))))))
theorem zeb:FnScope ["word","seed","other"] ["word"] (zal (top 13)):=⟨rfl,rfl,rfl,by decide +kernel,rfl,by decide +kernel,by decide +kernel⟩
theorem zef(L:Laid K mg "column_kinds" (top 13) ["word"])(b_len:mg "len"=none)(h_word_name:za8 P w K mg base 2 "word_name" 1 zaC)(h_column_name:za8 P w K mg base 2 "column_name" 0 zaU)(h_state_name:za8 P w K mg base 2 "state_name" 1 zau):za8 P w K mg base 3 "column_kinds" 1 zbB :=
 zbJ (k:=2) L zeb fun f cdv A outer s H E hr=>JSs.out (zah (JS.mk (zbd (i:=1) nd_4 rfl (by first | exact As rfl | exact Ap rfl) (zck (JA.out (zay (zcl) (zay (zdP h_column_name (hr.mono (by decide)) rfl) (zay (zcl) (zay (zcl) (zay (zag h_word_name (hr.mono (by decide)) rfl (zaa (zax zaB rfl b_len zca (zaa (zab 0) (zaf))) (zaf)) (zak.cons zak.nil)) (zfD)))))))))) (zah (JS.mk (zbd (i:=2) nd_4 rfl (by first | exact As rfl | exact Ap rfl) (zck (JA.out (zay (zcl) (zay (zdP h_column_name (hr.mono (by decide)) rfl) (zay (zcl) (zay (zdP h_column_name (hr.mono (by decide)) rfl) (zay (zag h_state_name (hr.mono (by decide)) rfl (zaa (zae) (zaf)) (zak.cons zak.nil)) (zfD)))))))))) (zam (JS.mk (zaV (zey (zaa (zab 1) (zaa (zab 2) (zaf)))))))))
theorem zeA:FnScope ["walker","letters","found","state","steps","letter","step","new","sides"] ["walker"] (zal (top 14)):=⟨rfl,rfl,rfl,by decide +kernel,rfl,by decide +kernel,by decide +kernel⟩
theorem zeP(L:Laid K mg "table_kinds" (top 14) ["walker"])(b_enumerate:mg "enumerate"=none)(h_state_name:za8 P w K mg base 2 "state_name" 1 zau)(h_letter_name:za8 P w K mg base 2 "letter_name" 1 zap):za8 P w K mg base 3 "table_kinds" 1 zbI :=
 zbJ (k:=2) L zeA fun f cdv A outer s H E hr=>JSs.out (zah (JS.mk (zbd (i:=1) nd_5 rfl (by first | exact As rfl | exact Ap rfl) (zaw (zbv hr) (zab 0) (zae)))) (zah (JS.mk (zbd (i:=2) nd_5 rfl (by first | exact As rfl | exact Ap rfl) (zey (zaf)))) (zah (zdJ AY rfl (zhs rfl b_enumerate (zaw (zbv hr) (zab 0) (zae))) (zfV rfl (zbk (zaD (i:=3) nd_5 rfl (by first | exact As rfl | exact Ap rfl)) (zbk (zaD (i:=4) nd_5 rfl (by first | exact As rfl | exact Ap rfl)) (zdT)))) (zam (zdJ AY rfl (zhs rfl b_enumerate (zab 4)) (zfV rfl (zbk (zaD (i:=5) nd_5 rfl (by first | exact As rfl | exact Ap rfl)) (zbk (zaD (i:=6) nd_5 rfl (by first | exact As rfl | exact Ap rfl)) (zdT)))) (zah (JS.mk (zbd (i:=7) nd_5 rfl (by first | exact As rfl | exact Ap rfl) (zaw (zbv hr) (zab 6) (zae)))) (zah (JS.mk (zbd (i:=8) nd_5 rfl (by first | exact As rfl | exact Ap rfl) (zck (JA.out (zay (zag h_letter_name (hr.mono (by decide)) rfl (zaa (zab 7) (zaf)) (zak.cons zak.nil)) (zay (zag h_state_name (hr.mono (by decide)) rfl (zaa (zab 3) (zaf)) (zak.cons zak.nil)) (zay (zag h_letter_name (hr.mono (by decide)) rfl (zaa (zab 5) (zaf)) (zak.cons zak.nil)) (zay (zag h_state_name (hr.mono (by decide)) rfl (zaa (zaw (zbv hr) (zab 6) (zae)) (zaf)) (zak.cons zak.nil)) (zfD))))))))) (zam (JS.mk (zgj (zez (zab 2) (zaa (zat zaH (zck (zaa (zaw (zbv hr) (zab 1) (zab 7)) (zaf))) (zab 8)) (zaf))))))))))) (zam (JS.mk (zaV (zab 2)))))))
theorem zdE:FnScope ["walker","word","strengths","number"] ["walker","word"] (zal (top 15)):=⟨rfl,rfl,rfl,by decide +kernel,rfl,by decide +kernel,by decide +kernel⟩
theorem zdG(L:Laid K mg "walk_strengths" (top 15) ["walker","word"])(b_len:mg "len"=none)(b_range:mg "range"=none)(h_column_name:za8 P w K mg base 2 "column_name" 0 zaU)(h_word_name:za8 P w K mg base 2 "word_name" 1 zaC)(h_letter_name:za8 P w K mg base 2 "letter_name" 1 zap)(h_state_name:za8 P w K mg base 2 "state_name" 1 zau):za8 P w K mg base 3 "walk_strengths" 2 za4 :=
 zbJ (k:=2) L zdE fun f cdv A outer s H E hr=>JSs.out (zah (JS.mk (zbd (i:=2) nd_6 rfl (by first | exact As rfl | exact Ap rfl) (zki (zdP h_column_name (hr.mono (by decide)) rfl) (zae)))) (zah (zdJ AY rfl (zbx rfl b_range (zat zaH (zax zaB rfl b_len zca (zaa (zab 1) (zaf))) (zae))) (zaD (i:=3) nd_6 rfl (by first | exact As rfl | exact Ap rfl)) (zam (JS.mk (zhn (zbv hr) (zab 2) (zag h_word_name (hr.mono (by decide)) rfl (zaa (zab 3) (zaf)) (zak.cons zak.nil)) (zae))))) (zah (zdJ AY rfl (zbx rfl b_range (zax zaB rfl b_len zca (zaa (zaw (zbv hr) (zab 0) (zae)) (zaf)))) (zaD (i:=3) nd_6 rfl (by first | exact As rfl | exact Ap rfl)) (zam (JS.mk (zhn (zbv hr) (zab 2) (zag h_letter_name (hr.mono (by decide)) rfl (zaa (zab 3) (zaf)) (zak.cons zak.nil)) (zae))))) (zah (zdJ AY rfl (zbx rfl b_range (zax zaB rfl b_len zca (zaa (zaw (zbv hr) (zab 0) (zae)) (zaf)))) (zaD (i:=3) nd_6 rfl (by first | exact As rfl | exact Ap rfl)) (zam (JS.mk (zhn (zbv hr) (zab 2) (zag h_state_name (hr.mono (by decide)) rfl (zaa (zab 3) (zaf)) (zak.cons zak.nil)) (zae))))) (zam (JS.mk (zaV (zab 2))))))))
theorem zfl:FnScope ["walker","word","rows","wide","kinds"] ["walker","word","rows"] (zal (top 16)):=⟨rfl,rfl,rfl,by decide +kernel,rfl,by decide +kernel,by decide +kernel⟩
theorem zfx(L:Laid K mg "walked_bed" (top 16) ["walker","word","rows"])(b_len:mg "len"=none)(h_word_kinds:za8 P w K mg base 3 "word_kinds" 2 zbV)(h_column_kinds:za8 P w K mg base 3 "column_kinds" 1 zbB)(h_table_kinds:za8 P w K mg base 3 "table_kinds" 1 zbI)(h_walk_strengths:za8 P w K mg base 3 "walk_strengths" 2 za4)(h_house_of:za8 P w K mg base 1 "house_of" 3 zct):za8 P w K mg base 4 "walked_bed" 3 zaS :=
 zbJ (k:=3) L zfl fun f cdv A outer s H E hr=>JSs.out (zah (JS.mk (zbd (i:=3) nd_7 rfl (by first | exact As rfl | exact Ap rfl) (zax zaB rfl b_len zca (zaa (zab 1) (zaf))))) (zah (JS.mk (zbd (i:=4) nd_7 rfl (by first | exact As rfl | exact Ap rfl) (zat zaH (zat zaH (zag h_word_kinds (hr.mono (by decide)) rfl (zaa (zab 0) (zaa (zab 1) (zaf))) (zak.cons (zak.cons zak.nil))) (zag h_column_kinds (hr.mono (by decide)) rfl (zaa (zab 1) (zaf)) (zak.cons zak.nil))) (zag h_table_kinds (hr.mono (by decide)) rfl (zaa (zab 0) (zaf)) (zak.cons zak.nil))))) (zam (JS.mk (zaV (zck (zaa (zag h_house_of (hr.mono (by decide)) rfl (zaa (zae) (zaa (zag h_walk_strengths (hr.mono (by decide)) rfl (zaa (zab 0) (zaa (zab 1) (zaf))) (zak.cons (zak.cons zak.nil))) (zaa (zab 4) (zaf)))) (zak.cons (zak.cons (zak.cons zak.nil)))) (zaa (zck (zaa (zat zaH (zab 3) (zae)) (zaa (zat zaH (zab 2) (zae)) (zaf)))) (zaa (zck (zaa (zck (zaa (zab 3) (zaa (zae) (zaa (zab 3) (zaf))))) (zaf))) (zaf))))))))))
theorem zfq:FnScope ["base","wide","number","written","place"] ["base","wide","number"] (zal (top 17)):=⟨rfl,rfl,rfl,by decide +kernel,rfl,by decide +kernel,by decide +kernel⟩
theorem zfC{t_FIGURES:Tok}(L:Laid K mg "in_figures" (top 17) ["base","wide","number"])(b_range:mg "range"=none)(g_FIGURES:mg "FIGURES"=some (.str "0123456789abcdefghijklmnopqrstuvwxyz" t_FIGURES)):za8 P w K mg base 1 "in_figures" 3 zbX :=
 zbJ (k:=0) L zfq fun f cdv A outer s H E hr=>JSs.out (zah (JS.mk (zbd (i:=3) nd_8 rfl (by first | exact As rfl | exact Ap rfl) (zcl))) (zah (zdJ AY rfl (zbx rfl b_range (zab 1)) (zaD (i:=4) nd_8 rfl (by first | exact As rfl | exact Ap rfl)) (zah (JS.mk (zbd (i:=3) nd_8 rfl (by first | exact As rfl | exact Ap rfl) (zat zmp (zaw (zbv hr) (zfi rfl g_FIGURES) (zat zcq (zab 2) (zab 0))) (zab 3)))) (zam (JS.mk (zbd (i:=2) nd_8 rfl (by first | exact As rfl | exact Ap rfl) (zat zdV (zab 2) (zab 0))))))) (zam (JS.mk (zaV (zab 3))))))
theorem zeG:FnScope ["base","wide","first","rows"] ["base","wide","first","rows"] (zal (top 18)):=⟨rfl,rfl,rfl,by decide +kernel,rfl,by decide +kernel,by decide +kernel⟩
theorem zeV(L:Laid K mg "counted_bed" (top 18) ["base","wide","first","rows"])(h_in_figures:za8 P w K mg base 1 "in_figures" 3 zbX)(h_counter:za8 P w K mg base 1 "counter" 1 zbG)(h_walked_bed:za8 P w K mg base 4 "walked_bed" 3 zaS):za8 P w K mg base 5 "counted_bed" 4 zaT :=
 zbJ (k:=4) L zeG fun f cdv A outer s H E hr=>JSs.out (zam (JS.mk (zaV (zag h_walked_bed (hr.mono (by decide)) rfl (zaa (zag h_counter (hr.mono (by decide)) rfl (zaa (zab 0) (zaf)) (zak.cons zak.nil)) (zaa (zag h_in_figures (hr.mono (by decide)) rfl (zaa (zab 0) (zaa (zab 1) (zaa (zab 2) (zaf)))) (zak.cons (zak.cons (zak.cons zak.nil)))) (zaa (zab 3) (zaf)))) (zak.cons (zak.cons (zak.cons zak.nil)))))))
theorem zeB:FnScope ["_law_script","_law_seed","_law_k","_law_cell"] ["_law_script"] (zal (top 20)):=⟨rfl,rfl,rfl,by decide +kernel,rfl,by decide +kernel,by decide +kernel⟩
theorem zeQ(L:Laid K mg "_law_start" (top 20) ["_law_script"])(b_enumerate:mg "enumerate"=none)(b_abs:mg "abs"=none):za8 P w K mg base 1 "_law_start" 1 zbZ :=
 zbJ (k:=0) L zeB fun f cdv A outer s H E hr=>JSs.out (zah (JS.mk (zbd (i:=1) nd_9 rfl (by first | exact As rfl | exact Ap rfl) (zae))) (zah (zdJ AY rfl (zhs rfl b_enumerate (zdO (zab 0) (zgm) (zgl (zae)))) (zfV rfl (zbk (zaD (i:=2) nd_9 rfl (by first | exact As rfl | exact Ap rfl)) (zbk (zaD (i:=3) nd_9 rfl (by first | exact As rfl | exact Ap rfl)) (zdT)))) (zam (JS.mk (zbd (i:=1) nd_9 rfl (by first | exact As rfl | exact Ap rfl) (zat zcq (zat zaH (zat zaH (zat zaH (zat zdo (zab 1) (zae)) (zat zcq (zab 3) (zae))) (zat zdo (zae) (zab 2))) (zae)) (zae)))))) (zam (JS.mk (zaV (zey (zaa (zcy rfl rfl (zbK (N':=["_law_cell"]) (nt:=1) (fr:=[]) [] rfl (by decide +kernel) (by decide +kernel) (by decide +kernel) rfl trivial trivial) (zcd (zdO (zab 0) (zgm) (zgl (zae)))) (fun C s0 H0 fp=>zaD (i:=0) zpH rfl (by first | exact As rfl | exact Ap rfl)) (fun C s0 H0 fp=>znI (zdd zoc (zax zgD rfl b_abs zm1 (zaa (zab 0) (zaf))) (zat zml (zae) (zae)) rfl)) (fun C s0 H0 fp=>zax zgD rfl b_abs zm1 (zaa (zab 0) (zaf)))) (zaa (zab 1) (zaf)))))))))
theorem zfp:FnScope ["_law_state","_law_many","_law_digit"] ["_law_state","_law_many"] (zal (top 21)):=⟨rfl,rfl,rfl,by decide +kernel,rfl,by decide +kernel,by decide +kernel⟩
theorem zfB(L:Laid K mg "_law_next" (top 21) ["_law_state","_law_many"]):za8 P w K mg base 1 "_law_next" 2 zaj :=
 zbJ (k:=0) L zfp fun f cdv A outer s H E hr=>JSs.out (zah (zkS AY (SW.sb (znr (zdd (zeO (zbL hr)) (zaw (zbv hr) (zab 0) (zae)) (zey (zaf)) rfl) (zlz (zdd (zhH (zbL hr)) (zaw (zbv hr) (zaw (zbv hr) (zab 0) (zae)) (zae)) (zae) rfl)))) (zam (JS.mk (zgj (zlS (zaw (zbv hr) (zab 0) (zae)) (zaa (zae) (zaf))))))) (zah (zgY (zdd (zeO (zbL hr)) (zaw (zbv hr) (zab 0) (zae)) (zey (zaf)) rfl) (zah (JS.mk (zbd (i:=2) zpG rfl (by first | exact As rfl | exact Ap rfl) (zat zcq (zaw (zbv hr) (zaw (zbv hr) (zab 0) (zae)) (zae)) (zab 1)))) (zah (JS.mk (zhn (zbv hr) (zaw (zbv hr) (zab 0) (zae)) (zae) (zat zdV (zaw (zbv hr) (zaw (zbv hr) (zab 0) (zae)) (zae)) (zab 1)))) (zam (JS.mk (zaV (zab 2)))))) (zb8)) (zah (JS.mk (zhn (zbv hr) (zab 0) (zae) (zat zcq (zat zaH (zat zdo (zaw (zbv hr) (zab 0) (zae)) (zae)) (zae)) (zae)))) (zam (JS.mk (zaV (zat zcq (zat zdV (zat zcq (zat zdo (zaw (zbv hr) (zab 0) (zae)) (zat zaH (zat zcq (zaw (zbv hr) (zab 0) (zae)) (zae)) (zae))) (zae)) (zae)) (zab 1))))))))
theorem zeC:FnScope ["_law_state","_law_many","_law_left"] ["_law_state","_law_many"] (zal (top 22)):=⟨rfl,rfl,rfl,by decide +kernel,rfl,by decide +kernel,by decide +kernel⟩
theorem zeR(L:Laid K mg "_law_signs" (top 22) ["_law_state","_law_many"])(b_list:mg "list"=none)(b_range:mg "range"=none)(b_len:mg "len"=none)(h_q_law_next:za8 P w K mg base 1 "_law_next" 2 zaj):za8 P w K mg base 2 "_law_signs" 2 zb0 :=
 zbJ (k:=1) L zeC fun f cdv A outer s H E hr=>JSs.out (zah (JS.mk (zbd (i:=2) zpF rfl (by first | exact As rfl | exact Ap rfl) (zce (zil rfl) rfl b_list zmZ (zaa (zcl) (zaf))))) (zam (JS.mk (zaV (zjv (zcl) (zaa (zcy rfl rfl (zbK (N':=["_law_k","_law_left","_law_state"]) (nt:=1) (fr:=[2,0]) ["_law_left","_law_state"] rfl (by decide +kernel) (by decide +kernel) (by decide +kernel) rfl ⟨⟨rfl,by decide⟩,⟨⟨rfl,by decide⟩,trivial⟩⟩ ⟨by first | exact As rfl | exact Ap rfl,⟨by first | exact As rfl | exact Ap rfl,trivial⟩⟩) (zbx rfl b_range (zab 1)) (fun C s0 H0 fp=>zaD (i:=0) zpE rfl (by first | exact As rfl | exact Ap rfl)) (fun C s0 H0 fp=>zdU) (fun C s0 H0 fp=>zlS (zab 1) (zaa (zag h_q_law_next (hr.mono (by decide)) rfl (zaa (zab 2) (zaa (zax zaB rfl b_len zca (zaa (zab 1) (zaf))) (zaf))) (zak.cons (zak.cons zak.nil))) (zaf)))) (zaf)))))))
theorem zd8:FnScope ["_law_state","_law_signs_here","_law_states","_law_letters","_law_many","_law_table","_law_turn"] ["_law_state","_law_signs_here","_law_states"] (zal (top 23)):=⟨rfl,rfl,rfl,by decide +kernel,rfl,by decide +kernel,by decide +kernel⟩
theorem zec(L:Laid K mg "_law_walker" (top 23) ["_law_state","_law_signs_here","_law_states"])(b_range:mg "range"=none)(b_len:mg "len"=none)(b_tuple:mg "tuple"=none)(h_q_law_next:za8 P w K mg base 1 "_law_next" 2 zaj)(h_q_law_signs:za8 P w K mg base 2 "_law_signs" 2 zb0):za8 P w K mg base 3 "_law_walker" 3 zbA :=
 zbJ (k:=2) L zd8 fun f cdv A outer s H E hr=>JSs.out (zah (JS.mk (zbd (i:=3) zm9 rfl (by first | exact As rfl | exact Ap rfl) (zag h_q_law_signs (hr.mono (by decide)) rfl (zaa (zab 0) (zaa (zat zaH (zae) (zag h_q_law_next (hr.mono (by decide)) rfl (zaa (zab 0) (zaa (zab 1) (zaf))) (zak.cons (zak.cons zak.nil)))) (zaf))) (zak.cons (zak.cons zak.nil))))) (zah (JS.mk (zbd (i:=4) zm9 rfl (by first | exact As rfl | exact Ap rfl) (zat zaH (zae) (zag h_q_law_next (hr.mono (by decide)) rfl (zaa (zab 0) (zaa (zab 2) (zaf))) (zak.cons (zak.cons zak.nil)))))) (zah (JS.mk (zbd (i:=5) zm9 rfl (by first | exact As rfl | exact Ap rfl) (zey (zaf)))) (zah (zdJ AY rfl (zbx rfl b_range (zab 4)) (zaD (i:=6) zm9 rfl (by first | exact As rfl | exact Ap rfl)) (zam (JS.mk (zgj (zez (zab 5) (zaa (zce zbS rfl b_tuple zb1 (zaa (zcy rfl rfl (zbK (N':=["_law_sign","_law_state","_law_letters","_law_many"]) (nt:=1) (fr:=[0,3,4]) ["_law_state","_law_letters","_law_many"] rfl (by decide +kernel) (by decide +kernel) (by decide +kernel) rfl ⟨⟨rfl,by decide⟩,⟨⟨rfl,by decide⟩,⟨⟨rfl,by decide⟩,trivial⟩⟩⟩ ⟨by first | exact As rfl | exact Ap rfl,⟨by first | exact As rfl | exact Ap rfl,⟨by first | exact As rfl | exact Ap rfl,trivial⟩⟩⟩) (zcd (zab 3)) (fun C s0 H0 fp=>zaD (i:=0) zpD rfl (by first | exact As rfl | exact Ap rfl)) (fun C s0 H0 fp=>zdU) (fun C s0 H0 fp=>zck (zaa (zag h_q_law_next (hr.mono (by decide)) rfl (zaa (zab 1) (zaa (zax zaB rfl b_len zca (zaa (zab 2) (zaf))) (zaf))) (zak.cons (zak.cons zak.nil))) (zaa (zag h_q_law_next (hr.mono (by decide)) rfl (zaa (zab 1) (zaa (zab 3) (zaf))) (zak.cons (zak.cons zak.nil))) (zaf))))) (zaf))) (zaf))))))) (zam (JS.mk (zaV (zck (zaa (zab 3) (zaa (zce zbS rfl b_tuple zb1 (zaa (zab 5) (zaf))) (zaf)))))))))))
theorem zfn:FnScope ["_law_state","_law_letters","_law_most","_law_many"] ["_law_state","_law_letters","_law_most"] (zal (top 24)):=⟨rfl,rfl,rfl,by decide +kernel,rfl,by decide +kernel,by decide +kernel⟩
theorem zfz(L:Laid K mg "_law_word" (top 24) ["_law_state","_law_letters","_law_most"])(b_range:mg "range"=none)(b_len:mg "len"=none)(h_q_law_next:za8 P w K mg base 1 "_law_next" 2 zaj):za8 P w K mg base 2 "_law_word" 3 zbW :=
 zbJ (k:=1) L zfn fun f cdv A outer s H E hr=>JSs.out (zah (JS.mk (zbd (i:=3) zpC rfl (by first | exact As rfl | exact Ap rfl) (zat zaH (zae) (zag h_q_law_next (hr.mono (by decide)) rfl (zaa (zab 0) (zaa (zab 2) (zaf))) (zak.cons (zak.cons zak.nil)))))) (zah (zgY (zdd (zhH (zbL hr)) (zag h_q_law_next (hr.mono (by decide)) rfl (zaa (zab 0) (zaa (zae) (zaf))) (zak.cons (zak.cons zak.nil))) (zae) rfl) (zam (JS.mk (zaV (zat zdo (zaw (zbv hr) (zey (zaa (zaw (zbv hr) (zab 1) (zae)) (zaa (zaw (zbv hr) (zab 1) (znF (zae))) (zaf)))) (zag h_q_law_next (hr.mono (by decide)) rfl (zaa (zab 0) (zaa (zae) (zaf))) (zak.cons (zak.cons zak.nil)))) (zab 3))))) (zb8)) (zam (JS.mk (zaV (zjv (zcl) (zaa (zcy rfl rfl (zbK (N':=["_law_turn","_law_letters","_law_state"]) (nt:=1) (fr:=[1,0]) ["_law_letters","_law_state"] rfl (by decide +kernel) (by decide +kernel) (by decide +kernel) rfl ⟨⟨rfl,by decide⟩,⟨⟨rfl,by decide⟩,trivial⟩⟩ ⟨by first | exact As rfl | exact Ap rfl,⟨by first | exact As rfl | exact Ap rfl,trivial⟩⟩) (zbx rfl b_range (zab 3)) (fun C s0 H0 fp=>zaD (i:=0) zpB rfl (by first | exact As rfl | exact Ap rfl)) (fun C s0 H0 fp=>zdU) (fun C s0 H0 fp=>zaw (zbv hr) (zab 1) (zag h_q_law_next (hr.mono (by decide)) rfl (zaa (zab 2) (zaa (zax zaB rfl b_len zca (zaa (zab 1) (zaf))) (zaf))) (zak.cons (zak.cons zak.nil))))) (zaf))))))))
theorem zd9:FnScope ["_law_thing","_law_least","_law_most"] ["_law_thing","_law_least","_law_most"] (zal (top 25)):=⟨rfl,rfl,rfl,by decide +kernel,rfl,by decide +kernel,by decide +kernel⟩
theorem zed(L:Laid K mg "_law_number" (top 25) ["_law_thing","_law_least","_law_most"])(b_isinstance:mg "isinstance"=none)(b_int:mg "int"=none)(b_bool:mg "bool"=none):za8 P w K mg base 1 "_law_number" 3 zao :=
 zbJ (k:=0) L zd9 fun f cdv A outer s H E hr=>JSs.out (zam (JS.mk (zaV (zfj (zfW (T:="int") (x:="isinstance") (by decide) rfl b_isinstance (zab 0) rfl b_int zoO) (zfj (znE (zfW (T:="bool") (x:="isinstance") (by decide) rfl b_isinstance (zab 0) rfl b_bool zm0)) (zem (zkj ziT ziT (zab 1) (zab 0) (zab 2))))))))
theorem zfo:FnScope ["_law_thing","_law_signs_here","_law_most"] ["_law_thing","_law_signs_here","_law_most"] (zal (top 26)):=⟨rfl,rfl,rfl,by decide +kernel,rfl,by decide +kernel,by decide +kernel⟩
theorem zfA(L:Laid K mg "_law_text" (top 26) ["_law_thing","_law_signs_here","_law_most"])(b_isinstance:mg "isinstance"=none)(b_str:mg "str"=none)(b_len:mg "len"=none)(b_all:mg "all"=none):za8 P w K mg base 1 "_law_text" 3 zbs :=
 zbJ (k:=0) L zfo fun f cdv A outer s H E hr=>JSs.out (zam (JS.mk (zaV (zfj (zfW (T:="str") (x:="isinstance") (by decide) rfl b_isinstance (zab 0) rfl b_str zoM) (zfj (zht ziT (zax zaB rfl b_len zca (zaa (zab 0) (zaf))) (zab 2) rfl) (zem (zax (zc9 rfl) rfl b_all zin (zaa (zcy rfl rfl (zbK (N':=["_law_sign","_law_signs_here"]) (nt:=1) (fr:=[1]) ["_law_signs_here"] rfl (by decide +kernel) (by decide +kernel) (by decide +kernel) rfl ⟨⟨rfl,by decide⟩,trivial⟩ ⟨by first | exact As rfl | exact Ap rfl,trivial⟩) (zcd (zab 0)) (fun C s0 H0 fp=>zaD (i:=0) zpA rfl (by first | exact As rfl | exact Ap rfl)) (fun C s0 H0 fp=>zdU) (fun C s0 H0 fp=>zlV (zbL hr) (zab 0) (zab 1))) (zaf)))))))))
theorem zeE:FnScope ["_law_things","_law_many"] ["_law_things","_law_many"] (zal (top 27)):=⟨rfl,rfl,rfl,by decide +kernel,rfl,by decide +kernel,by decide +kernel⟩
theorem zeT(L:Laid K mg "_law_pairs" (top 27) ["_law_things","_law_many"])(b_isinstance:mg "isinstance"=none)(b_tuple:mg "tuple"=none)(b_len:mg "len"=none)(b_all:mg "all"=none):za8 P w K mg base 1 "_law_pairs" 2 zav :=
 zbJ (k:=0) L zeE fun f cdv A outer s H E hr=>JSs.out (zam (JS.mk (zaV (zfj (zfW (T:="tuple") (x:="isinstance") (by decide) rfl b_isinstance (zab 0) rfl b_tuple zb1) (zem (zax (zc9 rfl) rfl b_all zin (zaa (zcy rfl rfl (zbK (N':=["_law_one","_law_many"]) (nt:=1) (fr:=[1]) ["_law_many"] rfl (by decide +kernel) (by decide +kernel) (by decide +kernel) rfl ⟨⟨rfl,by decide⟩,trivial⟩ ⟨by first | exact As rfl | exact Ap rfl,trivial⟩) (zcd (zab 0)) (fun C s0 H0 fp=>zaD (i:=0) zpz rfl (by first | exact As rfl | exact Ap rfl)) (fun C s0 H0 fp=>zdU) (fun C s0 H0 fp=>zfj (zfW (T:="tuple") (x:="isinstance") (by decide) rfl b_isinstance (zab 0) rfl b_tuple zb1) (zem (zht (zhH (zbL hr)) (zax zaB rfl b_len zca (zaa (zab 0) (zaf))) (zab 1) rfl)))) (zaf))))))))
theorem zdF:FnScope ["_law_thing","_law_letters","_law_names","_law_kind"] ["_law_thing"] (zal (top 28)):=⟨rfl,rfl,rfl,by decide +kernel,rfl,by decide +kernel,by decide +kernel⟩
theorem zdH(L:Laid K mg "_law_is_house" (top 28) ["_law_thing"])(b_isinstance:mg "isinstance"=none)(b_tuple:mg "tuple"=none)(b_len:mg "len"=none)(b_all:mg "all"=none)(b_sorted:mg "sorted"=none)(b_set:mg "set"=none)(h_q_law_number:za8 P w K mg base 1 "_law_number" 3 zao)(h_q_law_pairs:za8 P w K mg base 1 "_law_pairs" 2 zav)(h_q_law_text:za8 P w K mg base 1 "_law_text" 3 zbs):za8 P w K mg base 2 "_law_is_house" 1 za5 :=
 zbJ (k:=1) L zdF fun f cdv A outer s H E hr=>JSs.out (zah (JS.mk (zbd (i:=1) zol rfl (by first | exact As rfl | exact Ap rfl) (zcl))) (zah (zgY (SW.sb (zgg (zcm (ze8 (zfW (T:="tuple") (x:="isinstance") (by decide) rfl b_isinstance (zab 0) rfl b_tuple zb1))) (zgg (zdd (zeO (zbL hr)) (zax zaB rfl b_len zca (zaa (zab 0) (zaf))) (zae) rfl) (zd7 (zcm (ze8 (zag h_q_law_number (hr.mono (by decide)) rfl (zaa (zaw (zbv hr) (zab 0) (zae)) (zaa (zae) (zaa (zae) (zaf)))) (zak.cons (zak.cons (zak.cons zak.nil)))))))))) (zam (JS.mk (zaV (zgM)))) (zb8)) (zah (zgY (SW.sb (zgg (zcm (ze8 (zag h_q_law_pairs (hr.mono (by decide)) rfl (zaa (zaw (zbv hr) (zab 0) (zae)) (zaa (zae) (zaf))) (zak.cons (zak.cons zak.nil))))) (zgg (zcm (ze8 (zag h_q_law_pairs (hr.mono (by decide)) rfl (zaa (zaw (zbv hr) (zab 0) (zae)) (zaa (zae) (zaf))) (zak.cons (zak.cons zak.nil))))) (zd7 (zdd (zhH (zbL hr)) (zaw (zbv hr) (zab 0) (zae)) (zck (zaf)) rfl))))) (zam (JS.mk (zaV (zgM)))) (zb8)) (zah (JS.mk (zbd (i:=2) zol rfl (by first | exact As rfl | exact Ap rfl) (zcy rfl rfl (zbK (N':=["_law_name","_law_strength"]) (nt:=2) (fr:=[]) [] rfl (by decide +kernel) (by decide +kernel) (by decide +kernel) rfl trivial trivial) (zcd (zaw (zbv hr) (zab 0) (zae))) (fun C s0 H0 fp=>zfV rfl (zbk (zaD (i:=0) zm8 rfl (by first | exact As rfl | exact Ap rfl)) (zbk (zaD (i:=1) zm8 rfl (by first | exact As rfl | exact Ap rfl)) (zdT)))) (fun C s0 H0 fp=>zdU) (fun C s0 H0 fp=>zab 0)))) (zah (zgY (SW.sb (zgg (zcm (ze8 (zax (zc9 rfl) rfl b_all zin (zaa (zcy rfl rfl (zbK (N':=["_law_name","_law_letters"]) (nt:=1) (fr:=[1]) ["_law_letters"] rfl (by decide +kernel) (by decide +kernel) (by decide +kernel) rfl ⟨⟨rfl,by decide⟩,trivial⟩ ⟨by first | exact As rfl | exact Ap rfl,trivial⟩) (zcd (zab 2)) (fun C s0 H0 fp=>zaD (i:=0) zpy rfl (by first | exact As rfl | exact Ap rfl)) (fun C s0 H0 fp=>zdU) (fun C s0 H0 fp=>zfj (zag h_q_law_text (hr.mono (by decide)) rfl (zaa (zab 0) (zaa (zab 1) (zaa (zae) (zaf)))) (zak.cons (zak.cons (zak.cons zak.nil)))) (zem (zht (zeO (zbL hr)) (zab 0) (zcl) rfl)))) (zaf))))) (zd7 (zdd (zeO (zbL hr)) (zab 2) (zlQ rfl rfl b_sorted rfl b_set (zab 2)) rfl)))) (zam (JS.mk (zaV (zgM)))) (zb8)) (zah (zgY (zcm (ze8 (zax (zc9 rfl) rfl b_all zin (zaa (zcy rfl rfl (zbK (N':=["_law_name","_law_strength"]) (nt:=2) (fr:=[]) [] rfl (by decide +kernel) (by decide +kernel) (by decide +kernel) rfl trivial trivial) (zcd (zaw (zbv hr) (zab 0) (zae))) (fun C s0 H0 fp=>zfV rfl (zbk (zaD (i:=0) zm8 rfl (by first | exact As rfl | exact Ap rfl)) (zbk (zaD (i:=1) zm8 rfl (by first | exact As rfl | exact Ap rfl)) (zdT)))) (fun C s0 H0 fp=>zdU) (fun C s0 H0 fp=>zag h_q_law_number (hr.mono (by decide)) rfl (zaa (zab 1) (zaa (zae) (zaa (zae) (zaf)))) (zak.cons (zak.cons (zak.cons zak.nil))))) (zaf))))) (zam (JS.mk (zaV (zgM)))) (zb8)) (zah (zdJ AY rfl (zcd (zaw (zbv hr) (zab 0) (zae))) (zaD (i:=3) zol rfl (by first | exact As rfl | exact Ap rfl)) (zam (zgY (SW.sb (zgg (zcm (ze8 (zag h_q_law_text (hr.mono (by decide)) rfl (zaa (zaw (zbv hr) (zab 3) (zae)) (zaa (zat zaH (zab 1) (zcl)) (zaa (zae) (zaf)))) (zak.cons (zak.cons (zak.cons zak.nil)))))) (zd7 (zcm (ze8 (zax (zc9 rfl) rfl b_all zin (zaa (zcy rfl rfl (zbK (N':=["_law_side","_law_names"]) (nt:=1) (fr:=[2]) ["_law_names"] rfl (by decide +kernel) (by decide +kernel) (by decide +kernel) rfl ⟨⟨rfl,by decide⟩,trivial⟩ ⟨by first | exact As rfl | exact Ap rfl,trivial⟩) (zcd (zdO (zab 3) (zgl (zae)) (zgm))) (fun C s0 H0 fp=>zaD (i:=0) zpx rfl (by first | exact As rfl | exact Ap rfl)) (fun C s0 H0 fp=>zdU) (fun C s0 H0 fp=>zlV (zbL hr) (zab 0) (zat zaH (zab 1) (zey (zaa (zcl) (zaf)))))) (zaf)))))))) (zam (JS.mk (zaV (zgM)))) (zb8)))) (zam (JS.mk (zaV (zgM)))))))))))
theorem zea:FnScope ["_law_thing","_law_wide","_law_high","_law_most","_law_x","_law_y","_law_kind"] ["_law_thing","_law_wide","_law_high","_law_most"] (zal (top 29)):=⟨rfl,rfl,rfl,by decide +kernel,rfl,by decide +kernel,by decide +kernel⟩
theorem zee(L:Laid K mg "_law_is_bed" (top 29) ["_law_thing","_law_wide","_law_high","_law_most"])(b_isinstance:mg "isinstance"=none)(b_tuple:mg "tuple"=none)(b_len:mg "len"=none)(h_q_law_is_house:za8 P w K mg base 2 "_law_is_house" 1 za5)(h_q_law_pairs:za8 P w K mg base 1 "_law_pairs" 2 zav)(h_q_law_number:za8 P w K mg base 1 "_law_number" 3 zao):za8 P w K mg base 3 "_law_is_bed" 4 zaR :=
 zbJ (k:=2) L zea fun f cdv A outer s H E hr=>JSs.out (zah (zgY (SW.sb (zgg (zcm (ze8 (zfW (T:="tuple") (x:="isinstance") (by decide) rfl b_isinstance (zab 0) rfl b_tuple zb1))) (zgg (zdd (zeO (zbL hr)) (zax zaB rfl b_len zca (zaa (zab 0) (zaf))) (zae) rfl) (zd7 (zcm (ze8 (zag h_q_law_is_house (hr.mono (by decide)) rfl (zaa (zaw (zbv hr) (zab 0) (zae)) (zaf)) (zak.cons zak.nil)))))))) (zam (JS.mk (zaV (zgM)))) (zb8)) (zah (zgY (SW.sb (zgg (zcm (ze8 (zag h_q_law_pairs (hr.mono (by decide)) rfl (zaa (zck (zaa (zaw (zbv hr) (zab 0) (zae)) (zaf))) (zaa (zae) (zaf))) (zak.cons (zak.cons zak.nil))))) (zgg (zcm (ze8 (zag h_q_law_pairs (hr.mono (by decide)) rfl (zaa (zaw (zbv hr) (zab 0) (zae)) (zaa (zae) (zaf))) (zak.cons (zak.cons zak.nil))))) (zd7 (zdd (zeO (zbL hr)) (zax zaB rfl b_len zca (zaa (zaw (zbv hr) (zab 0) (zae)) (zaf))) (zae) rfl))))) (zam (JS.mk (zaV (zgM)))) (zb8)) (zah (zgY (SW.sb (zgg (zcm (ze8 (zag h_q_law_number (hr.mono (by decide)) rfl (zaa (zaw (zbv hr) (zaw (zbv hr) (zab 0) (zae)) (zae)) (zaa (zab 1) (zaa (zab 1) (zaf)))) (zak.cons (zak.cons (zak.cons zak.nil)))))) (zd7 (zcm (ze8 (zag h_q_law_number (hr.mono (by decide)) rfl (zaa (zaw (zbv hr) (zaw (zbv hr) (zab 0) (zae)) (zae)) (zaa (zab 2) (zaa (zab 2) (zaf)))) (zak.cons (zak.cons (zak.cons zak.nil))))))))) (zam (JS.mk (zaV (zgM)))) (zb8)) (zah (JS.mk (zlE (zaw (zbv hr) (zaw (zbv hr) (zab 0) (zae)) (zae)) (zfV rfl (zbk (zaD (i:=4) zok rfl (by first | exact As rfl | exact Ap rfl)) (zbk (zaD (i:=5) zok rfl (by first | exact As rfl | exact Ap rfl)) (zbk (zaD (i:=6) zok rfl (by first | exact As rfl | exact Ap rfl)) (zdT))))))) (zah (zgY (SW.sb (zgg (zcm (ze8 (zag h_q_law_number (hr.mono (by decide)) rfl (zaa (zab 4) (zaa (zae) (zaa (zat zgs (zab 1) (zae)) (zaf)))) (zak.cons (zak.cons (zak.cons zak.nil)))))) (zd7 (zcm (ze8 (zag h_q_law_number (hr.mono (by decide)) rfl (zaa (zab 5) (zaa (zae) (zaa (zat zgs (zab 2) (zae)) (zaf)))) (zak.cons (zak.cons (zak.cons zak.nil))))))))) (zam (JS.mk (zaV (zgM)))) (zb8)) (zam (JS.mk (zaV (zfj (zag h_q_law_number (hr.mono (by decide)) rfl (zaa (zab 6) (zaa (zae) (zaa (zat zgs (zax zaB rfl b_len zca (zaa (zaw (zbv hr) (zaw (zbv hr) (zab 0) (zae)) (zae)) (zaf))) (zae)) (zaf)))) (zak.cons (zak.cons (zak.cons zak.nil)))) (zem (zht ziT (zax zaB rfl b_len zca (zaa (zaw (zbv hr) (zaw (zbv hr) (zab 0) (zae)) (zae)) (zaf))) (zab 3) rfl)))))))))))
theorem zeD:FnScope ["_law_base","_law_many","_law_number_here","_law_turn"] ["_law_base","_law_many"] (zal (top 30)):=⟨rfl,rfl,rfl,by decide +kernel,rfl,by decide +kernel,by decide +kernel⟩
theorem zeS(L:Laid K mg "_law_power" (top 30) ["_law_base","_law_many"])(b_range:mg "range"=none):za8 P w K mg base 1 "_law_power" 2 zbu :=
 zbJ (k:=0) L zeD fun f cdv A outer s H E hr=>JSs.out (zah (JS.mk (zbd (i:=2) zoj rfl (by first | exact As rfl | exact Ap rfl) (zae))) (zah (zdJ AY rfl (zbx rfl b_range (zab 1)) (zaD (i:=3) zoj rfl (by first | exact As rfl | exact Ap rfl)) (zam (JS.mk (zbd (i:=2) zoj rfl (by first | exact As rfl | exact Ap rfl) (zat zdo (zab 2) (zab 0)))))) (zam (JS.mk (zaV (zab 2))))))
theorem znJ:FnScope ["_law_script","_law_state","_law_turn","_law_walker_here","_law_word_here","_law_rows","_law_bed","_law_most","_law_base","_law_wide","_law_first"] ["_law_script"] (zal (top 31)):=⟨rfl,rfl,rfl,by decide +kernel,rfl,by decide +kernel,by decide +kernel⟩
theorem zoE{f:Addr}{fd:FuncData}(F:Fun K "law" "law" (top 31) f fd)(b_range:mg "range"=none)(b_len:mg "len"=none)(h_q_law_start:za8 P w K mg base 1 "_law_start" 1 zbZ)(h_q_law_walker:za8 P w K mg base 3 "_law_walker" 3 zbA)(h_q_law_next:za8 P w K mg base 1 "_law_next" 2 zaj)(h_q_law_word:za8 P w K mg base 2 "_law_word" 3 zbW)(h_walked_bed:za8 P w K mg base 4 "walked_bed" 3 zaS)(h_q_law_is_bed:za8 P w K mg base 3 "_law_is_bed" 4 zaR)(h_q_law_power:za8 P w K mg base 1 "_law_power" 2 zbu)(h_counted_bed:za8 P w K mg base 5 "counted_bed" 4 zaT)(h_counter:za8 P w K mg base 1 "counter" 1 zbG):FnOk P w K mg base CX0 6 f fd ["_law_script"] (spM K 1 zln) :=
 fn_m (k:=5) F znJ fun cdv A outer s H E hr=>JSs.out (zah (JS.mk (zbd (i:=1) ziy rfl (by first | exact As rfl | exact Ap rfl) (zag h_q_law_start (hr.mono (by decide)) rfl (zaa (zab 0) (zaf)) (zak.cons zak.nil)))) (zah (zdJ AY rfl (zbx rfl b_range (zae)) (zaD (i:=2) ziy rfl (by first | exact As rfl | exact Ap rfl)) (zah (JS.mk (zbd (i:=3) ziy rfl (by first | exact As rfl | exact Ap rfl) (zag h_q_law_walker (hr.mono (by decide)) rfl (zaa (zab 1) (zaa (zae) (zaa (zae) (zaf)))) (zak.cons (zak.cons (zak.cons zak.nil)))))) (zah (JS.mk (zj9 (i:=4) (j:=5) rfl ziy rfl rfl (by decide) rfl rfl (zaa (zag h_q_law_word (hr.mono (by decide)) rfl (zaa (zab 1) (zaa (zaw (zbv hr) (zab 3) (zae)) (zaa (zae) (zaf)))) (zak.cons (zak.cons (zak.cons zak.nil)))) (zaa (zag h_q_law_next (hr.mono (by decide)) rfl (zaa (zab 1) (zaa (zae) (zaf))) (zak.cons (zak.cons zak.nil))) (zaf))))) (zah (JS.mk (zbd (i:=6) ziy rfl (by first | exact As rfl | exact Ap rfl) (zag h_walked_bed (hr.mono (by decide)) rfl (zaa (zab 3) (zaa (zab 4) (zaa (zab 5) (zaf)))) (zak.cons (zak.cons (zak.cons zak.nil)))))) (zah (JS.mk (zbd (i:=7) ziy rfl (by first | exact As rfl | exact Ap rfl) (zat zaH (zat zaH (zat zdo (zax zaB rfl b_len zca (zaa (zaw (zbv hr) (zab 3) (zae)) (zaf))) (zax zaB rfl b_len zca (zaa (zaw (zbv hr) (zab 3) (zae)) (zaf)))) (zax zaB rfl b_len zca (zaa (zab 4) (zaf)))) (zae)))) (zah (zgY (SW.sb (zgg (zcm (ze8 (zag h_q_law_is_bed (hr.mono (by decide)) rfl (JA.out (zay (zab 6) (zay (zat zaH (zax zaB rfl b_len zca (zaa (zab 4) (zaf))) (zae)) (zay (zat zaH (zab 5) (zae)) (zay (zab 7) (zfD)))))) (zak.cons (zak.cons (zak.cons (zak.cons zak.nil))))))) (zd7 (zdd (zeO (zbL hr)) (zag h_walked_bed (hr.mono (by decide)) rfl (zaa (zab 3) (zaa (zab 4) (zaa (zab 5) (zaf)))) (zak.cons (zak.cons (zak.cons zak.nil)))) (zab 6) rfl)))) (zam (JS.mk (zaV (zgM)))) (zb8)) (zah (JS.mk (zj9 (i:=8) (j:=9) rfl ziy rfl rfl (by decide) rfl rfl (zaa (zat zaH (zae) (zag h_q_law_next (hr.mono (by decide)) rfl (zaa (zab 1) (zaa (zae) (zaf))) (zak.cons (zak.cons zak.nil)))) (zaa (zat zaH (zae) (zag h_q_law_next (hr.mono (by decide)) rfl (zaa (zab 1) (zaa (zae) (zaf))) (zak.cons (zak.cons zak.nil)))) (zaf))))) (zah (JS.mk (zj9 (i:=10) (j:=5) rfl ziy rfl rfl (by decide) rfl rfl (zaa (zag h_q_law_next (hr.mono (by decide)) rfl (zaa (zab 1) (zaa (zag h_q_law_power (hr.mono (by decide)) rfl (zaa (zab 8) (zaa (zab 9) (zaf))) (zak.cons (zak.cons zak.nil))) (zaf))) (zak.cons (zak.cons zak.nil))) (zaa (zag h_q_law_next (hr.mono (by decide)) rfl (zaa (zab 1) (zaa (zae) (zaf))) (zak.cons (zak.cons zak.nil))) (zaf))))) (zah (JS.mk (zbd (i:=6) ziy rfl (by first | exact As rfl | exact Ap rfl) (zag h_counted_bed (hr.mono (by decide)) rfl (JA.out (zay (zab 8) (zay (zab 9) (zay (zab 10) (zay (zab 5) (zfD)))))) (zak.cons (zak.cons (zak.cons (zak.cons zak.nil))))))) (zah (JS.mk (zbd (i:=7) ziy rfl (by first | exact As rfl | exact Ap rfl) (zat zaH (zat zaH (zat zdo (zax zaB rfl b_len zca (zaa (zaw (zbv hr) (zag h_counter (hr.mono (by decide)) rfl (zaa (zab 8) (zaf)) (zak.cons zak.nil)) (zae)) (zaf))) (zab 8)) (zab 9)) (zae)))) (zam (zgY (SW.sb (zgg (zcm (ze8 (zag h_q_law_is_bed (hr.mono (by decide)) rfl (JA.out (zay (zab 6) (zay (zat zaH (zab 9) (zae)) (zay (zat zaH (zab 5) (zae)) (zay (zab 7) (zfD)))))) (zak.cons (zak.cons (zak.cons (zak.cons zak.nil))))))) (zd7 (zdd (zeO (zbL hr)) (zag h_counted_bed (hr.mono (by decide)) rfl (JA.out (zay (zab 8) (zay (zab 9) (zay (zab 10) (zay (zab 5) (zfD)))))) (zak.cons (zak.cons (zak.cons (zak.cons zak.nil))))) (zab 6) rfl)))) (zam (JS.mk (zaV (zgM)))) (zb8))))))))))))) (zam (JS.mk (zaV (zgM))))))
end
theorem zoR{P:Program}{w:World}{K:Ac}{mg:Str->Option Value}{base:Heap}{f:Addr}{fd:FuncData}(b_tuple:mg "tuple"=none)(b_sorted:mg "sorted"=none)(b_range:mg "range"=none)(b_enumerate:mg "enumerate"=none)(b_len:mg "len"=none)(b_abs:mg "abs"=none)(b_list:mg "list"=none)(b_isinstance:mg "isinstance"=none)(b_int:mg "int"=none)(b_bool:mg "bool"=none)(b_str:mg "str"=none)(b_all:mg "all"=none)(b_set:mg "set"=none){t_LETTERS:Tok}(g_LETTERS:mg "LETTERS"=some (.str "abcdefghijklmnopqrstuvwxyz" t_LETTERS)){t_FIGURES:Tok}(g_FIGURES:mg "FIGURES"=some (.str "0123456789abcdefghijklmnopqrstuvwxyz" t_FIGURES))(L_numbered:Laid K mg "numbered" (top 2) ["letter","number"])(L_house_of:Laid K mg "house_of" (top 3) ["enough","strengths","kinds"])(L_counter:Laid K mg "counter" (top 6) ["base"])(L_letter_name:Laid K mg "letter_name" (top 8) ["number"])(L_state_name:Laid K mg "state_name" (top 9) ["number"])(L_word_name:Laid K mg "word_name" (top 10) ["number"])(L_column_name:Laid K mg "column_name" (top 11) [])(L_word_kinds:Laid K mg "word_kinds" (top 12) ["walker","word"])(L_column_kinds:Laid K mg "column_kinds" (top 13) ["word"])(L_table_kinds:Laid K mg "table_kinds" (top 14) ["walker"])(L_walk_strengths:Laid K mg "walk_strengths" (top 15) ["walker","word"])(L_walked_bed:Laid K mg "walked_bed" (top 16) ["walker","word","rows"])(L_in_figures:Laid K mg "in_figures" (top 17) ["base","wide","number"])(L_counted_bed:Laid K mg "counted_bed" (top 18) ["base","wide","first","rows"])(L_q_law_start:Laid K mg "_law_start" (top 20) ["_law_script"])(L_q_law_next:Laid K mg "_law_next" (top 21) ["_law_state","_law_many"])(L_q_law_signs:Laid K mg "_law_signs" (top 22) ["_law_state","_law_many"])(L_q_law_walker:Laid K mg "_law_walker" (top 23) ["_law_state","_law_signs_here","_law_states"])(L_q_law_word:Laid K mg "_law_word" (top 24) ["_law_state","_law_letters","_law_most"])(L_q_law_number:Laid K mg "_law_number" (top 25) ["_law_thing","_law_least","_law_most"])(L_q_law_text:Laid K mg "_law_text" (top 26) ["_law_thing","_law_signs_here","_law_most"])(L_q_law_pairs:Laid K mg "_law_pairs" (top 27) ["_law_things","_law_many"])(L_q_law_is_house:Laid K mg "_law_is_house" (top 28) ["_law_thing"])(L_q_law_is_bed:Laid K mg "_law_is_bed" (top 29) ["_law_thing","_law_wide","_law_high","_law_most"])(L_q_law_power:Laid K mg "_law_power" (top 30) ["_law_base","_law_many"])(F:Fun K "law" "law" (top 31) f fd):FnOk P w K mg base CX0 6 f fd ["_law_script"] (spM K 1 zln):=by
 have h_numbered:=zgS (P:=P) (w:=w) (base:=base) L_numbered   g_LETTERS;have h_house_of:=zgT (P:=P) (w:=w) (base:=base) L_house_of  b_tuple b_sorted;have h_counter:=zhK (P:=P) (w:=w) (base:=base) L_counter  b_range b_tuple g_FIGURES;have h_letter_name:=zeU (P:=P) (w:=w) (base:=base) L_letter_name    h_numbered;have h_state_name:=zfy (P:=P) (w:=w) (base:=base) L_state_name    h_numbered;have h_word_name:=zf0 (P:=P) (w:=w) (base:=base) L_word_name    h_numbered;have h_column_name:=zeW (P:=P) (w:=w) (base:=base) L_column_name    h_numbered;have h_word_kinds:=zfw (P:=P) (w:=w) (base:=base) L_word_kinds  b_enumerate  h_letter_name h_word_name;have h_column_kinds:=zef (P:=P) (w:=w) (base:=base) L_column_kinds  b_len  h_word_name h_column_name h_state_name;have h_table_kinds:=zeP (P:=P) (w:=w) (base:=base) L_table_kinds  b_enumerate  h_state_name h_letter_name;have h_walk_strengths:=zdG (P:=P) (w:=w) (base:=base) L_walk_strengths  b_len b_range  h_column_name h_word_name h_letter_name h_state_name;have h_walked_bed:=zfx (P:=P) (w:=w) (base:=base) L_walked_bed  b_len  h_word_kinds h_column_kinds h_table_kinds h_walk_strengths h_house_of;have h_in_figures:=zfC (P:=P) (w:=w) (base:=base) L_in_figures  b_range g_FIGURES;have h_counted_bed:=zeV (P:=P) (w:=w) (base:=base) L_counted_bed    h_in_figures h_counter h_walked_bed;have h_q_law_start:=zeQ (P:=P) (w:=w) (base:=base) L_q_law_start  b_enumerate b_abs;have h_q_law_next:=zfB (P:=P) (w:=w) (base:=base) L_q_law_next;have h_q_law_signs:=zeR (P:=P) (w:=w) (base:=base) L_q_law_signs  b_list b_range b_len  h_q_law_next;have h_q_law_walker:=zec (P:=P) (w:=w) (base:=base) L_q_law_walker  b_range b_len b_tuple  h_q_law_next h_q_law_signs;have h_q_law_word:=zfz (P:=P) (w:=w) (base:=base) L_q_law_word  b_range b_len  h_q_law_next;have h_q_law_number:=zed (P:=P) (w:=w) (base:=base) L_q_law_number  b_isinstance b_int b_bool;have h_q_law_text:=zfA (P:=P) (w:=w) (base:=base) L_q_law_text  b_isinstance b_str b_len b_all;have h_q_law_pairs:=zeT (P:=P) (w:=w) (base:=base) L_q_law_pairs  b_isinstance b_tuple b_len b_all;have h_q_law_is_house:=zdH (P:=P) (w:=w) (base:=base) L_q_law_is_house  b_isinstance b_tuple b_len b_all b_sorted b_set  h_q_law_number h_q_law_pairs h_q_law_text;have h_q_law_is_bed:=zee (P:=P) (w:=w) (base:=base) L_q_law_is_bed  b_isinstance b_tuple b_len  h_q_law_is_house h_q_law_pairs h_q_law_number;have h_q_law_power:=zeS (P:=P) (w:=w) (base:=base) L_q_law_power  b_range;exact zoE F b_range b_len h_q_law_start h_q_law_walker h_q_law_next h_q_law_word h_walked_bed h_q_law_is_bed h_q_law_power h_counted_bed h_counter
theorem all_mk{l:DK}{w:World}{K:Ac}{h:Heap}{mg:Str->Option Value}{fa:Addr}(X:K.In h)(G:h.Ns mainGlobals mg)(hfa:mg "law"=some (.ref fa)){f0 f1 f2 f3 f4 f5 f6 f7 f8 f9 f10 f11 f12 f13 f14 f15 f16 f17 f18 f19 f20 f21 f22 f23 f24 f25:Addr}
   (a0:FdIn K "numbered" (top 2) f0)
   (a1:FdIn K "house_of" (top 3) f1)
   (a2:FdIn K "counter" (top 6) f2)
   (a3:FdIn K "letter_name" (top 8) f3)
   (a4:FdIn K "state_name" (top 9) f4)
   (a5:FdIn K "word_name" (top 10) f5)
   (a6:FdIn K "column_name" (top 11) f6)
   (a7:FdIn K "word_kinds" (top 12) f7)
   (a8:FdIn K "column_kinds" (top 13) f8)
   (a9:FdIn K "table_kinds" (top 14) f9)
   (a10:FdIn K "walk_strengths" (top 15) f10)
   (a11:FdIn K "walked_bed" (top 16) f11)
   (a12:FdIn K "in_figures" (top 17) f12)
   (a13:FdIn K "counted_bed" (top 18) f13)
   (a14:FdIn K "_law_start" (top 20) f14)
   (a15:FdIn K "_law_next" (top 21) f15)
   (a16:FdIn K "_law_signs" (top 22) f16)
   (a17:FdIn K "_law_walker" (top 23) f17)
   (a18:FdIn K "_law_word" (top 24) f18)
   (a19:FdIn K "_law_number" (top 25) f19)
   (a20:FdIn K "_law_text" (top 26) f20)
   (a21:FdIn K "_law_pairs" (top 27) f21)
   (a22:FdIn K "_law_is_house" (top 28) f22)
   (a23:FdIn K "_law_is_bed" (top 29) f23)
   (a24:FdIn K "_law_power" (top 30) f24)
   (a25:FdIn K "law" (top 31) f25)
   (z0:AX K mainGlobals "tuple"=some none)
   (z1:AX K mainGlobals "sorted"=some none)
   (z2:AX K mainGlobals "range"=some none)
   (z3:AX K mainGlobals "enumerate"=some none)
   (z4:AX K mainGlobals "len"=some none)
   (z5:AX K mainGlobals "abs"=some none)
   (z6:AX K mainGlobals "list"=some none)
   (z7:AX K mainGlobals "isinstance"=some none)
   (z8:AX K mainGlobals "int"=some none)
   (z9:AX K mainGlobals "bool"=some none)
   (z10:AX K mainGlobals "str"=some none)
   (z11:AX K mainGlobals "all"=some none)
   (z12:AX K mainGlobals "set"=some none)
   {tg0:Tok} (y0:AX K mainGlobals "LETTERS"=some (some (.str "abcdefghijklmnopqrstuvwxyz" tg0)))
   {tg1:Tok} (y1:AX K mainGlobals "FIGURES"=some (some (.str "0123456789abcdefghijklmnopqrstuvwxyz" tg1))) :
   ∃ fd:FuncData,(∀ (s:Shared) (v:Value),BindsTo s fd ⟨[v],[]⟩ [("_law_script",v)])/\∀ base:Heap,K.In base->base.Ns mainGlobals mg->FnOk l.prog w K mg base CX0 6 fa fd ["_law_script"] (spM K 1 zln):=by
 obtain⟨⟨oc,od,kV,dc,pm,an,cd,ct,sl,l,c⟩,n,k⟩:=a25;have e:=hfa.symm.trans (Dl X G n);cases e;exact⟨_,fun s v=>.of_eq rfl,fun base _ _=>zoR (AS X G z0) (AS X G z1) (AS X G z2) (AS X G z3) (AS X G z4) (AS X G z5) (AS X G z6) (AS X G z7) (AS X G z8) (AS X G z9) (AS X G z10) (AS X G z11) (AS X G z12) (Dl X G y0) (Dl X G y1)
   (zaW (ps:=["letter","number"]) a0 X G fun _ _ _ _ _ _=>len2 fun _ _=>rfl)
   (zaW (ps:=["enough","strengths","kinds"]) a1 X G fun _ _ _ _ _ _=>len3 fun _ _ _=>rfl)
   (zaW (ps:=["base"]) a2 X G fun _ _ _ _ _ _=>len1 fun _=>rfl)
   (zaW (ps:=["number"]) a3 X G fun _ _ _ _ _ _=>len1 fun _=>rfl)
   (zaW (ps:=["number"]) a4 X G fun _ _ _ _ _ _=>len1 fun _=>rfl)
   (zaW (ps:=["number"]) a5 X G fun _ _ _ _ _ _=>len1 fun _=>rfl)
   (zaW (ps:=[]) a6 X G fun _ _ _ _ _ _ us hl=>match us,hl with | [],_=>rfl)
   (zaW (ps:=["walker","word"]) a7 X G fun _ _ _ _ _ _=>len2 fun _ _=>rfl)
   (zaW (ps:=["word"]) a8 X G fun _ _ _ _ _ _=>len1 fun _=>rfl)
   (zaW (ps:=["walker"]) a9 X G fun _ _ _ _ _ _=>len1 fun _=>rfl)
   (zaW (ps:=["walker","word"]) a10 X G fun _ _ _ _ _ _=>len2 fun _ _=>rfl)
   (zaW (ps:=["walker","word","rows"]) a11 X G fun _ _ _ _ _ _=>len3 fun _ _ _=>rfl)
   (zaW (ps:=["base","wide","number"]) a12 X G fun _ _ _ _ _ _=>len3 fun _ _ _=>rfl)
   (zaW (ps:=["base","wide","first","rows"]) a13 X G fun _ _ _ _ _ _=>len4 fun _ _ _ _=>rfl)
   (zaW (ps:=["_law_script"]) a14 X G fun _ _ _ _ _ _=>len1 fun _=>rfl)
   (zaW (ps:=["_law_state","_law_many"]) a15 X G fun _ _ _ _ _ _=>len2 fun _ _=>rfl)
   (zaW (ps:=["_law_state","_law_many"]) a16 X G fun _ _ _ _ _ _=>len2 fun _ _=>rfl)
   (zaW (ps:=["_law_state","_law_signs_here","_law_states"]) a17 X G fun _ _ _ _ _ _=>len3 fun _ _ _=>rfl)
   (zaW (ps:=["_law_state","_law_letters","_law_most"]) a18 X G fun _ _ _ _ _ _=>len3 fun _ _ _=>rfl)
   (zaW (ps:=["_law_thing","_law_least","_law_most"]) a19 X G fun _ _ _ _ _ _=>len3 fun _ _ _=>rfl)
   (zaW (ps:=["_law_thing","_law_signs_here","_law_most"]) a20 X G fun _ _ _ _ _ _=>len3 fun _ _ _=>rfl)
   (zaW (ps:=["_law_things","_law_many"]) a21 X G fun _ _ _ _ _ _=>len2 fun _ _=>rfl)
   (zaW (ps:=["_law_thing"]) a22 X G fun _ _ _ _ _ _=>len1 fun _=>rfl)
   (zaW (ps:=["_law_thing","_law_wide","_law_high","_law_most"]) a23 X G fun _ _ _ _ _ _=>len4 fun _ _ _ _=>rfl)
   (zaW (ps:=["_law_base","_law_many"]) a24 X G fun _ _ _ _ _ _=>len2 fun _ _=>rfl)
   (zk0 (st:=top 31) l c k)⟩
end L2.MP.stickytiles_k49_walked_beds_formed
namespace L2.MP.stickytiles_k49_walked_beds_formed
open PySem L2.MP L2.MP.Hb
structure RowOk(k m:Nat)(r:List (Nat×Nat)):Prop where
 len:r.length=k
 mem:∀ p∈r,p.1 < k/\p.2 < m
theorem znL{n q:Nat}{st:Sto}{z:Str}{m:Nat}(h:PotB n q st)(hz1:1<=z.cps.toList.length)(hz2:z.cps.toList.length<=1000)(hm1:1<=m)(hm2:m<=1000) :
   ∃ (r:List (Nat×Nat)) (st':Sto),mCI ⟨signs z,[]⟩ (gNm 0) zc4 za7 (signs z) [none,some (.ref n),some (.str z),some (.int (m:Int))] st=some (r.map pD,st')/\RowOk z.cps.toList.length m r/\PotB n q st'/\FrB n q st st':=by
 have key:=zlr (W:=⟨signs z,[]⟩) (g:=gNm 0) (c:=zc4) (m:=za7) (ds:=signs z) (acc:=[]) (st:=st) (ρ:=[none,some (.ref n),some (.str z),some (.int (m:Int))])
   (Inv:=fun k a ρ s=>(∃ x,ρ=[x,some (.ref n),some (.str z),some (.int (m:Int))])/\(∃ r:List (Nat×Nat),a=r.map pD/\r.length=k/\∀ p∈r,p.1 < z.cps.toList.length/\p.2 < m)/\PotB n q s/\FrB n q st s)
   ⟨⟨_,rfl⟩,⟨[],rfl,rfl,by simp⟩,h,FrB.refl _ _ _⟩ (fun _ _ _ _ _ _=>rfl) (fun k d a ρ s hd hI=>by
     obtain⟨⟨x,rfl⟩,⟨r,rfl,hlen,hmem⟩,hp,hf⟩:=hI;have hfz:fits z.length=true:=zaz (by rw[len_list];omega);have el:lenD [.str z] s=some (.int z.length,s):=by simp[lenD,hfz]
     obtain⟨r1,s1,e1,r10,r11,p1,f1⟩:=zbY (many:=(z.length:Int)) hp (by rw[len_list];omega) (by rw[len_list];omega);obtain⟨r2,s2,e2,r20,r21,p2,f2⟩:=zbY (many:=(m:Int)) p1 (by omega) (by omega);rw[len_list] at r11;refine⟨[some d,some (.ref n),some (.str z),some (.int (m:Int))],s,true,s,by simp,rfl,.inl ⟨rfl,pD (r1.toNat,r2.toNat),s2,?_,⟨_,rfl⟩,⟨r++[(r1.toNat,r2.toNat)],by simp,by simp[hlen],?_⟩,p2,hf.trans (f1.trans f2)⟩⟩
     . unfold za7;have q1:((r1.toNat:Nat):Int)=r1:=by omega
       have q2:((r2.toNat:Nat):Int)=r2:=by omega
       simp[el,e1,e2,pD,q1,q2]
     . intro p hp
       rcases List.mem_append.mp hp with hp | hp
       . exact hmem p hp
       . rw[List.mem_singleton.mp hp];exact⟨by show r1.toNat < _;omega,by show r2.toNat < _;omega⟩)
 obtain⟨xs,ρ',s',ec,_,⟨r,hx,hlen,hmem⟩,hp,hf⟩:=key;rw[CY] at hx;subst hx;refine⟨r,s',ec,⟨by rw[hlen,<-zdN];rfl,hmem⟩,hp,hf⟩
theorem zkm{m:ME}{ρ:Rho}{st:Sto}{k:Nat}(e:m ρ st=some (.int (k:Int),st))(hk:k<=1000):mR1 m ρ st=some (⟨run 0 k,[]⟩,st):=by
 have sm:small (k:Int)=true:=zdM (by omega) (by omega);rw[zcx,e,Ab];simp only[sm,if_true];rw[A7]
theorem zdY{m:ME}{g:MG}{b:MS}{ρ ρ':Rho}{st st':Sto}{k:Nat}(e:m ρ st=some (.int (k:Int),st))(hk:k<=1000)(el:zgv ⟨run 0 k,[]⟩ g b (run 0 k) ρ st=some (.nx ρ',st')):mFor (mR1 m) g b ρ st=some (.nx ρ',st'):=by
 rw[zaZ,zkm e hk];exact el
theorem ziC{n q:Nat}{st:Sto}(h:PotB n q st):∃ (z:Str) (T:Tab) (k:Nat) (st':Sto),zbA [.ref n,.int 10,.int 4] st=some (wkD z T,st')/\LetOk z k/\1<=k/\k<=10/\TabOk z T/\T.length<=4/\PotB n q st'/\FrB n q st st':=by
 obtain⟨r1,s1,e1,r10,r11,p1,f1⟩:=zbY (many:=10) h (by decide) (by decide);obtain⟨z,s2,e2,hz,p2,f2⟩:=zke (many:=1+r1) p1 (by omega) (by omega);obtain⟨r3,s3,e3,r30,r31,p3,f3⟩:=zbY (many:=4) p2 (by decide) (by decide);generalize hk:(1+r1).toNat=k at hz;obtain⟨m,hm⟩:∃ m:Nat,1+r3=(m:Int):=⟨(1+r3).toNat,by omega⟩
 have hzl:=hz.len;have p4:=p3.gr (Gr.app s3 [.lst []]);have f4:=FrB.app n q s3 [.lst []];have a4:=zbC s3 (.lst []);obtain⟨hn3,hq3⟩:=p3.ne;generalize hs4:s3++[O.lst []]=s4 at p4 f4 a4;have key:=zc5 (W:=⟨run 0 m,[]⟩) (g:=gNm 6) (m:=zbU) (ds:=run 0 m) (ρ:=[some (.ref n),some (.int 10),some (.int 4),some (.str z),some (.int (m:Int)),some (.ref s3.length),none]) (st:=s4)
   (Inv:=fun i ρ s=>(∃ x,ρ=[some (.ref n),some (.int 10),some (.int 4),some (.str z),some (.int (m:Int)),some (.ref s3.length),x])/\(∃ T:Tab,s[s3.length]?=some (.lst (T.map rowD))/\T.length=i/\∀ r∈T,RowOk z.cps.toList.length m r)/\i<=m/\PotB n q s/\FrB n q s3 s)
   ⟨⟨none,rfl⟩,⟨[],a4,rfl,by simp⟩,by omega,p4,f4⟩ (fun _ _ _ _ _=>rfl) (fun i d ρ s hd hI=>by
     obtain⟨⟨x,rfl⟩,⟨T,hat,hlen,hrow⟩,him,hp,hf⟩:=hI;have hi:i < m:=by
       have:=getElem?_lt hd
       rwa [zb6] at this
     obtain⟨r,s5,e5,hr,p5,f5⟩:=znL (z:=z) (m:=m) hp (by omega) (by omega) (by omega) (by omega);have fr:fits (r.map pD).length=true:=zaz (by rw[Af,hr.len];omega);have hat5:s5[s3.length]?=some (.lst (T.map rowD)):=(f5.old _ (getElem?_lt hat) (A9 hn3) (A9 hq3)).trans hat;have p6:=p5.gr (Gr.app s5 [.lst (r.map pD)]);have a6:(s5++[O.lst (r.map pD)])[s3.length]?=some (.lst (T.map rowD)):=by rw[Al (getElem?_lt hat5)];exact hat5
     have t6:=zdK (zbC s5 (.lst (r.map pD)));have f6:=FrB.app n q s5 [.lst (r.map pD)];generalize hs6:s5++[O.lst (r.map pD)]=s6 at p6 a6 t6 f6;have ea:=append_at (x:=rowD r) a6 (by rw[Af,hlen];omega);have f36:FrB n q s3 s6:=hf.trans (f5.trans f6);refine⟨[some (.ref n),some (.int 10),some (.int 4),some (.str z),some (.int (m:Int)),some (.ref s3.length),some d],s,[some (.ref n),some (.int 10),some (.int 4),some (.str z),some (.int (m:Int)),some (.ref s3.length),some d],s6.set s3.length (.lst (T.map rowD++[rowD r])),by simp,?_,⟨_,rfl⟩,⟨T++[r],by rw[BB (getElem?_lt a6)];simp,by simp[hlen],?_⟩,by omega,p6.set (A9 hn3) (A9 hq3),?_⟩
     . unfold zbU;have ecm:zdI (mWA (mVar 3)) 1 [0,3,4] (gNm 0) (zc4) (za7) [some (.ref n),some (.int 10),some (.int 4),some (.str z),some (.int (m:Int)),some (.ref s3.length),some d] s=some (.ref s5.length,s6):=by
         rw[zaI,zg5];simp only[zaP,Ab,AF,A3,zjZ,zcn];rw[show rho0 [some (.ref n),some (.int 10),some (.int 4),some (.str z),some (.int (m:Int)),some (.ref s3.length),some d] 1 [0,3,4]=[none,some (.ref n),some (.str z),some (.int (m:Int))] from rfl,e5];simp only[Ab,fr,if_true,hs6]
       have t6':zcZ [.ref s5.length] s6=some (rowD r,s6):=t6;simp[zcc,hat,ecm,t6',ea]
     . intro y hy
       rcases List.mem_append.mp hy with hy | hy
       . exact hrow y hy
       . rw[List.mem_singleton.mp hy];exact hr
     . exact⟨by rw[B0];exact f36.len,fun j hj h1 h2=>by rw[AE (by omega)];exact f36.old j hj h1 h2⟩)
 obtain⟨ρ',s7,el,⟨x,rfl⟩,⟨T,hat,hlen,hrow⟩,_,p7,f7⟩:=key;rw[zb6] at hlen;have t7:=zdK hat;refine⟨z,T,k,s7,zdc ?_,hz,by omega,by omega,⟨by omega,by omega,fun r hr=>⟨(hrow r hr).len,fun p hp=>⟨((hrow r hr).mem p hp).1,by rw[hlen];exact ((hrow r hr).mem p hp).2⟩⟩⟩,by omega,p7,(f1.trans f2).trans (f3.trans f7)⟩;show zch [some (.ref n),some (.int 10),some (.int 4),none,none,none,none] st=_;unfold zch;refine zas (ρ1:=[some (.ref n),some (.int 10),some (.int 4),some (.str z),none,none,none]) (s1:=s2) (by simp[e1,e2]) ?_;refine zas (ρ1:=[some (.ref n),some (.int 10),some (.int 4),some (.str z),some (.int (m:Int)),none,none]) (s1:=s3) (by simp[e3,hm]) ?_;refine zas (ρ1:=[some (.ref n),some (.int 10),some (.int 4),some (.str z),some (.int (m:Int)),some (.ref s3.length),none]) (s1:=s4) (by simp[hs4]) ?_;refine zas (ρ1:=[some (.ref n),some (.int 10),some (.int 4),some (.str z),some (.int (m:Int)),some (.ref s3.length),x]) (s1:=s7) (zdY (by simp[zaP]) (by omega) el) ?_;simp[t7];rfl
end L2.MP.stickytiles_k49_walked_beds_formed
namespace L2.MP.stickytiles_k49_walked_beds_formed
open PySem L2.MP L2.MP.Hb
open L2.MP.Hd (ziX zjS kvS)
noncomputable def LET:Str:="abcdefghijklmnopqrstuvwxyz"
noncomputable def nm(c k:Nat):Str:=⟨#[c,97,97,97+k]⟩
noncomputable abbrev lN (k:Nat):Str:=nm 108 k
noncomputable abbrev sN (k:Nat):Str:=nm 115 k
noncomputable abbrev wN (k:Nat):Str:=nm 119 k
noncomputable abbrev cN:Str:=nm 99 0
theorem zop:∀ k:Nat,k < 26->LET.cps[k]?=some (97+k):=by decide +kernel
theorem zmA{k:Nat}{st:Sto}(hk:k < 26):ixA (.str LET) (.int (k:Int)) st=some (.str ⟨#[97+k]⟩,st):=zf4 (by decide +kernel) (by omega) (by rw[A7];exact zop k hk)
theorem zof{i j k:Int}{x y z:Nat}{st:Sto}{L:D}(e1:ze2 (.int k) (.int 676) st=some (.int i,st))(e2:ze2 (.int k) (.int 26) st=some (.int j,st))(e3:modD (.int j) (.int 26) st=some (.int i,st))(e4:modD (.int k) (.int 26) st=some (.int k,st))
   (l0:ixA L (.int i) st=some (.str ⟨#[x]⟩,st)) (lk:ixA L (.int k) st=some (.str ⟨#[y]⟩,st)):mRet (mBin addD (mBin addD (mBin addD (mVar 0) (mBin ixA (mCon L) (mBin ze2 (mVar 1) (mCon (.int 676))))) (mBin ixA (mCon L) (mBin modD (mBin ze2 (mVar 1) (mCon (.int 26))) (mCon (.int 26))))) (mBin ixA (mCon L) (mBin modD (mVar 1) (mCon (.int 26))))) [some (.str ⟨#[z]⟩),some (.int k)] st=some (.rt (.str ⟨#[z,x,x,y]⟩),st):=by
 have a1:addD (.str ⟨#[z]⟩) (.str ⟨#[x]⟩) st=some (.str ⟨#[z,x]⟩,st):=rfl;have a2:addD (.str ⟨#[z,x]⟩) (.str ⟨#[x]⟩) st=some (.str ⟨#[z,x,x]⟩,st):=rfl;have a3:addD (.str ⟨#[z,x,x]⟩) (.str ⟨#[y]⟩) st=some (.str ⟨#[z,x,x,y]⟩,st):=rfl;simp[e1,e2,e3,e4,l0,lk,a1,a2,a3]
theorem ziW{c k:Nat}{st:Sto}(hk:k < 26):za6 [.str ⟨#[c]⟩,.int (k:Int)] st=some (.str (nm c k),st):=by
 refine zdc ?_;have e1:ze2 (.int (k:Int)) (.int 676) st=some (.int 0,st):=by rw[zjS (by decide) (by decide)];congr 3;omega
 have e2:ze2 (.int (k:Int)) (.int 26) st=some (.int 0,st):=by rw[zjS (by decide) (by decide)];congr 3;omega
 have e3:modD (.int 0) (.int 26) st=some (.int 0,st):=by rw[ziX (by decide)];rfl
 have e4:modD (.int (k:Int)) (.int 26) st=some (.int (k:Int),st):=by rw[ziX (by decide)];congr 3;omega
 exact zof e1 e2 e3 e4 (zmA (k:=0) (by decide)) (zmA hk)
theorem nL:("l":Str)=⟨#[108]⟩:=by decide +kernel
theorem nS:("s":Str)=⟨#[115]⟩:=by decide +kernel
theorem nW:("w":Str)=⟨#[119]⟩:=by decide +kernel
theorem nC:("c":Str)=⟨#[99]⟩:=by decide +kernel
theorem l_ev{k:Nat}{st:Sto}(hk:k < 26):zap [.int (k:Int)] st=some (.str (lN k),st):=by
 have:=ziW (c:=108) (st:=st) hk;refine zdc ?_;unfold zdB;rw[nL];simp[this]
theorem s_ev{k:Nat}{st:Sto}(hk:k < 26):zau [.int (k:Int)] st=some (.str (sN k),st):=by
 have:=ziW (c:=115) (st:=st) hk;refine zdc ?_;unfold zd3;rw[nS];simp[this]
theorem w_ev{k:Nat}{st:Sto}(hk:k < 26):zaC [.int (k:Int)] st=some (.str (wN k),st):=by
 have:=ziW (c:=119) (st:=st) hk;refine zdc ?_;unfold zet;rw[nW];simp[this]
theorem c_ev{st:Sto}:zaU [] st=some (.str cN,st):=by
 have:=ziW (c:=99) (k:=0) (st:=st) (by decide);refine zdc ?_;unfold zdD;rw[nC];have this':za6 [.str ⟨#[99]⟩,.int 0] st=some (.str cN,st):=this;simp[this']
theorem zoD{st0 st:Sto}{l:Nat}{o:O}(g:Gr st0 st)(h:st0.length<=l):Gr st0 (st.set l o):=⟨by rw[B0];exact g.len,fun k hk=>by rw[AE (by omega)];exact g.old k hk⟩
theorem znk{ds:List D}{g:MG}{m:MS}{ρ:Rho}{P:Rho->Prop}{l:Nat}{c:Nat->O}{st st0:Sto}(hP:P ρ)(hl:st[l]?=some (c 0))(g0:Gr st0 st)(hl0:st0.length<=l)
   (step:∀ j d ρ s,ds[j]?=some d->P ρ->s[l]?=some (c j)->Gr st0 s->∃ ρ1 ρ2,g d ρ s=some (ρ1,s)/\m ρ1 s=some (.nx ρ2,s.set l (c (j+1)))/\P ρ2) :
   ∃ ρ' st',zgv ⟨ds,[]⟩ g m ds ρ st=some (.nx ρ',st')/\P ρ'/\st'[l]?=some (c ds.length)/\Gr st0 st':=by
 have key:=zc5 (W:=⟨ds,[]⟩) (g:=g) (m:=m) (ds:=ds) (ρ:=ρ) (st:=st) (Inv:=fun i ρ s=>P ρ/\s[l]?=some (c i)/\Gr st0 s) ⟨hP,hl,g0⟩ (fun _ _ _ _ _=>rfl) (fun j d ρ s hd hI=>by
   obtain⟨h0,h1,h2⟩:=hI;obtain⟨ρ1,ρ2,e1,e2,h3⟩:=step j d ρ s hd h0 h1 h2;exact⟨ρ1,s,ρ2,_,e1,e2,h3,by rw[BB (getElem?_lt h1)],zoD h2 hl0⟩)
 obtain⟨ρ',st',e,h0,h1,h2⟩:=key;exact⟨ρ',st',e,h0,h1,h2⟩
noncomputable def wK(z w:Str)(j:Nat):List Str:=[⟨#[chrZ w j]⟩,lN (plc z (chrZ w j)),wN (j+1),"",wN j]
theorem zjs{β:Type}(f:Nat->β)(n:Nat):(Au (n+1)).map f=(Au n).map f++[f n]:=by rw[List.range_succ,B4];rfl
theorem zo8{W:D}{w:Str}{c l p:Nat}{j:Int}{LL:List D}{x:Option D}{s s':Sto}{z:Str}(hW:ixA W (.int 0) s=some (.str z,s))(hf:findD (.str z) [sgD c] s=some (.int (p:Int),s))(n1:zap [.int (p:Int)] s=some (.str (lN p),s))(n2:zaC [.int (j+1)] s=some (.str (wN (j.toNat+1)),s))(n3:zaC [.int j] s=some (.str (wN j.toNat),s))(h1:s[l]?=some (.lst LL))
   (ap:zcA (.ref l) [.tup [sgD c,.str (lN p),.str (wN (j.toNat+1)),.str "",.str (wN j.toNat)]] s=some (.non,s')):zbO [some W,some (.str w),some (.ref l),some (.int j),some (sgD c),x] s=some (.nx [some W,some (.str w),some (.ref l),some (.int j),some (sgD c),some (.str (lN p))],s'):=by
 unfold zbO;refine zas (ρ1:=[some W,some (.str w),some (.ref l),some (.int j),some (sgD c),some (.str (lN p))]) (s1:=s) (by simp[zdt,hW,hf,n1]) ?_;simp[n2,n3,zcc,h1,ap]
theorem zfa{z w:Str}{T:Tab}{st:Sto}(hz:z.cps.toList.length<=20)(hw:∀ c∈w.cps.toList,c∈z.cps.toList)(hl:w.cps.toList.length<=20) :
   ∃ st',zbV [wkD z T,.str w] st=some (.ref st.length,st')/\st'[st.length]?=some (.lst (((Au w.cps.toList.length).map (wK z w)).map zb7))/\Gr st st':=by
 have g1:=Gr.app st [.lst []];have b1:=zbC st (.lst []);generalize hs1:st++[O.lst []]=s1 at g1 b1;have hsl:(pairs (signs w)).length=w.cps.toList.length:=by rw[pairs_len,<-zdN];rfl
 obtain⟨ρ',s2,e2,⟨x,y,u,rfl⟩,b2,g2⟩:=znk (ds:=pairs (signs w)) (g:=gTp 2 (gC (gNm 3) (gC (gNm 4) gN0))) (m:=zbO) (ρ:=[some (wkD z T),some (.str w),some (.ref st.length),none,none,none]) (P:=fun ρ=>∃ x y u,ρ=[some (wkD z T),some (.str w),some (.ref st.length),x,y,u]) (l:=st.length) (c:=fun j=>.lst (((Au j).map (wK z w)).map zb7)) (st:=s1) (st0:=st) ⟨_,_,_,rfl⟩ b1 g1 (Ae _) (fun j d ρ s hd hP h1 _=>by
   obtain⟨x,y,u,rfl⟩:=hP;obtain⟨e,he,rfl⟩:=zcw hd;unfold signs at he;rw[Ay] at he;obtain⟨c,hc,rfl⟩:=zai he;have hj:=getElem?_lt hc;have ec:chrZ w j=c:=by unfold chrZ;rw[Ax,hc];rfl
   have hm:=hw c (AV hc);have hp:plc z c < z.cps.toList.length:=getElem?_lt (zks hm).2;have ap:=append_at (x:=zb7 (wK z w j)) h1 (by simp;omega);rw[<-List.map_singleton,<-B4,<-zjs] at ap;have n2:=w_ev (k:=j+1) (st:=s) (by omega);refine⟨[some (wkD z T),some (.str w),some (.ref st.length),some (.int (j:Int)),some (sgD c),u],[some (wkD z T),some (.str w),some (.ref st.length),some (.int (j:Int)),some (sgD c),some (.str (lN (plc z c)))],by simp,?_,⟨_,_,_,rfl⟩⟩;refine zo8 zh2 (zmQ hm) (l_ev (by omega)) (by rw[A7];exact n2) (by rw[A7];exact w_ev (by omega)) h1 ?_;rw[A7];unfold wK at ap;rw[ec] at ap;exact ap)
 rw[hsl] at b2;refine⟨s2,zdc ?_,b2,g2⟩;unfold zd2;refine zas (ρ1:=[some (wkD z T),some (.str w),some (.ref st.length),none,none,none]) (s1:=s1) (by simp[<-hs1]) ?_;refine zas (ρ1:=[some (wkD z T),some (.str w),some (.ref st.length),x,y,u]) (s1:=s2) ?_ (by simp);rw[zaZ];exact e2
theorem zjK{z:Str}{st:Sto}(h:z.cps.toList.length<=1000):lenD [.str z] st=some (.int (z.cps.toList.length:Int),st):=by
 have hf:fits z.length=true:=zaz (by rw[len_list];omega);show (if fits z.length=true then _ else _)=_;rw[if_pos hf];rfl
noncomputable def cK(k:Nat):List (List Str):=[["",cN,"","",wN k],["",cN,"",cN,sN 0]]
theorem zoK{w:Str}{k:Int}{x y:Str}{st:Sto}(el:lenD [.str w] st=some (.int k,st))(e1:zaC [.int k] st=some (.str x,st))(e2:zau [.int 0] st=some (.str y,st)) :
   zci [some (.str w),none,none] st=some (.rt (.ref st.length),st++[.lst [.tup [.str "",.str cN,.str "",.str "",.str x],.tup [.str "",.str cN,.str "",.str cN,.str y]]]):=by
 have c0:=c_ev (st:=st);unfold zci;refine zas (ρ1:=[some (.str w),some (.tup [.str "",.str cN,.str "",.str "",.str x]),none]) (s1:=st) (by simp[c0,el,e1]) ?_;refine zas (ρ1:=[some (.str w),some (.tup [.str "",.str cN,.str "",.str "",.str x]),some (.tup [.str "",.str cN,.str "",.str cN,.str y])]) (s1:=st) (by simp[c0,e2]) ?_;simp
theorem zoL{w:Str}{st:Sto}(hl:w.cps.toList.length<=20):zbB [.str w] st=some (.ref st.length,st++[.lst ((cK w.cps.toList.length).map zb7)]) :=
 zdc (zoK (zjK (by omega)) (w_ev (by omega)) (s_ev (k:=0) (by decide)))
noncomputable def tK(z:Str)(s:Nat)(q:(Nat×Nat)×Nat):List Str:=[⟨#[chrZ z q.1.1]⟩,lN q.1.1,sN s,lN q.2,sN q.1.2]
noncomputable def rK(z:Str)(q:List (Nat×Nat)×Nat):List (List Str):=q.1.zipIdx.map (tK z q.2)
noncomputable def TK(z:Str)(T:Tab):List (List Str):=T.zipIdx.flatMap (rK z)
theorem zip_get{α:Type}{l:List α}{j:Nat}{x:α}(h:l[j]?=some x):l.zipIdx[j]?=some (x,j):=by rw[D5,h];simp
theorem take_one{α:Type}{l:List α}{j:Nat}{x:α}(h:l[j]?=some x):l.take (j+1)=l.take j++[x]:=by rw[List.take_add_one,h];rfl
theorem zo9{W R:D}{z:Str}{l c:Nat}{s i a b:Nat}{x7 x8:Option D}{LL:List D}{st st':Sto}(p0:ixA (pD (a,b)) (.int 0) st=some (.int (a:Int),st))(p1:ixA (pD (a,b)) (.int 1) st=some (.int (b:Int),st))(n1:zap [.int (a:Int)] st=some (.str (lN a),st))(n2:zau [.int (s:Int)] st=some (.str (sN s),st))(n3:zap [.int (i:Int)] st=some (.str (lN i),st))(n4:zau [.int (b:Int)] st=some (.str (sN b),st))
   (ix:ixA (.str z) (.int (a:Int)) st=some (sgD c,st)) (h1:st[l]?=some (.lst LL)) (ad:addD (.tup [sgD c]) (.tup [.str (lN a),.str (sN s),.str (lN i),.str (sN b)]) st=some (.tup [sgD c,.str (lN a),.str (sN s),.str (lN i),.str (sN b)],st)) (ap:zcA (.ref l) [.tup [sgD c,.str (lN a),.str (sN s),.str (lN i),.str (sN b)]] st=some (.non,st')) :
   zbi [some W,some (.str z),some (.ref l),some (.int (s:Int)),some R,some (.int (i:Int)),some (pD (a,b)),x7,x8] st=some (.nx [some W,some (.str z),some (.ref l),some (.int (s:Int)),some R,some (.int (i:Int)),some (pD (a,b)),some (.int (a:Int)),some (.tup [.str (lN a),.str (sN s),.str (lN i),.str (sN b)])],st'):=by
 unfold zbi;refine zas (ρ1:=[some W,some (.str z),some (.ref l),some (.int (s:Int)),some R,some (.int (i:Int)),some (pD (a,b)),some (.int (a:Int)),x8]) (s1:=st) (by simp[p0]) ?_;refine zas (ρ1:=[some W,some (.str z),some (.ref l),some (.int (s:Int)),some R,some (.int (i:Int)),some (pD (a,b)),some (.int (a:Int)),some (.tup [.str (lN a),.str (sN s),.str (lN i),.str (sN b)])]) (s1:=st) (by simp[n1,n2,n3,n4,p1]) ?_;simp[zcc,h1,ix,ad,ap]
theorem znM{z:Str}{W:D}{r:List (Nat×Nat)}{s l:Nat}{K0:List (List Str)}{x5 x6 x7 x8:Option D}{st st0:Sto}(hz:z.cps.toList.length<=20)(hr:r.length<=20)(hp:∀ p∈r,p.1 < z.cps.toList.length/\p.2 < 20)(hs:s < 20)(hK:K0.length<=1000)(h1:st[l]?=some (.lst (K0.map zb7)))(g0:Gr st0 st)(hl:st0.length<=l) :
   ∃ y5 y6 y7 y8 st',mFor (zjF (mVar 4)) (gTp 2 (gC (gNm 5) (gC (gNm 6) gN0))) zbi [some W,some (.str z),some (.ref l),some (.int (s:Int)),some (rowD r),x5,x6,x7,x8] st=some (.nx [some W,some (.str z),some (.ref l),some (.int (s:Int)),some (rowD r),y5,y6,y7,y8],st')/\st'[l]?=some (.lst ((K0++rK z (r,s)).map zb7))/\Gr st0 st':=by
 obtain⟨ρ',s2,e2,⟨y5,y6,y7,y8,rfl⟩,b2,g2⟩:=znk (ds:=pairs (r.map pD)) (g:=gTp 2 (gC (gNm 5) (gC (gNm 6) gN0))) (m:=zbi) (ρ:=[some W,some (.str z),some (.ref l),some (.int (s:Int)),some (rowD r),x5,x6,x7,x8]) (P:=fun ρ=>∃ y5 y6 y7 y8,ρ=[some W,some (.str z),some (.ref l),some (.int (s:Int)),some (rowD r),y5,y6,y7,y8]) (l:=l) (c:=fun j=>.lst ((K0++(r.zipIdx.take j).map (tK z s)).map zb7)) (st:=st) (st0:=st0) ⟨_,_,_,_,rfl⟩ (by simpa using h1) g0 hl (fun j d ρ t hd hP h2 _=>by
   obtain⟨y5,y6,y7,y8,rfl⟩:=hP;obtain⟨e,he,rfl⟩:=zcw hd;rw[Ay] at he;obtain⟨⟨a,b⟩,hc,rfl⟩:=zai he;have hj:=getElem?_lt hc;obtain⟨ha,hb⟩:=hp _ (AV hc);have ap:=append_at (x:=zb7 (tK z s ((a,b),j))) h2 (by simp;omega);have ec:(K0++(r.zipIdx.take (j+1)).map (tK z s)).map zb7=(K0++(r.zipIdx.take j).map (tK z s)).map zb7++[zb7 (tK z s ((a,b),j))]:=by rw[take_one (zip_get hc)];simp
   refine⟨[some W,some (.str z),some (.ref l),some (.int (s:Int)),some (rowD r),some (.int (j:Int)),some (pD (a,b)),y7,y8],[some W,some (.str z),some (.ref l),some (.int (s:Int)),some (rowD r),some (.int (j:Int)),some (pD (a,b)),some (.int (a:Int)),some (.tup [.str (lN a),.str (sN s),.str (lN j),.str (sN b)])],by simp,?_,⟨_,_,_,_,rfl⟩⟩;rw[ec];exact zo9 zpJ zpI (l_ev (by omega)) (s_ev (by omega)) (l_ev (by omega)) (s_ev (by omega)) (zmK (by omega) ha) h2 (zm5 (by simp) (by simp)) ap)
 refine⟨y5,y6,y7,y8,s2,?_,?_,g2⟩
 . rw[zaZ];exact e2
 . rw[b2,pairs_len,Af];unfold rK;rw[DY (by simp)]
theorem zj4{z:Str}{T:Tab}{st:Sto}(hz:z.cps.toList.length<=20)(h:TabOk z T)(hT:T.length<=10) :
   ∃ st',zbI [wkD z T] st=some (.ref st.length,st')/\st'[st.length]?=some (.lst ((TK z T).map zb7))/\Gr st st':=by
 have g1:=Gr.app st [.lst []];have b1:=zbC st (.lst []);generalize hs1:st++[O.lst []]=s1 at g1 b1;have hlen:∀ j,j<=T.length->((T.zipIdx.take j).flatMap (rK z)).length<=20*j:=fun j=>by
   induction j with
   | zero=>intro _;simp
   | succ j ih =>
     intro hj;have:=ih (by omega);have hg:T[j]?=some T[j]:=Aj (by omega);rw[take_one (zip_get hg),Eg,AD];have hr:=(h.row T[j] (Be (by omega))).1;have:([(T[j],j)].flatMap (rK z)).length=T[j].length:=by simp[rK]
     omega
 have key:=zc5 (W:=⟨pairs (T.map rowD),[]⟩) (g:=gTp 2 (gC (gNm 3) (gC (gNm 4) gN0))) (m:=zcC) (ds:=pairs (T.map rowD)) (ρ:=[some (wkD z T),some (.str z),some (.ref st.length),none,none,none,none,none,none]) (st:=s1)
   (Inv:=fun j ρ s=>(∃ y3 y4 y5 y6 y7 y8,ρ=[some (wkD z T),some (.str z),some (.ref st.length),y3,y4,y5,y6,y7,y8])/\s[st.length]?=some (.lst (((T.zipIdx.take j).flatMap (rK z)).map zb7))/\Gr st s) ⟨⟨_,_,_,_,_,_,rfl⟩,by simpa using b1,g1⟩ (fun _ _ _ _ _=>rfl) (fun j d ρ s hd hI=>by
   obtain⟨⟨y3,y4,y5,y6,y7,y8,rfl⟩,h1,h2⟩:=hI;obtain⟨e,he,rfl⟩:=zcw hd;rw[Ay] at he;obtain⟨r,hr,rfl⟩:=zai he;have hj:=getElem?_lt hr;obtain⟨r1,r2⟩:=h.row r (AV hr);have hl:=hlen j (by omega);obtain⟨x5,x6,x7,x8,s',e',b',g'⟩:=znM (z:=z) (W:=wkD z T) (r:=r) (s:=j) (x5:=y5) (x6:=y6) (x7:=y7) (x8:=y8) (st0:=st) hz (by omega) (fun p hp=>⟨(r2 p hp).1,by have:=(r2 p hp).2;omega⟩) (by omega) (by omega) h1 h2 (Ae _);refine⟨[some (wkD z T),some (.str z),some (.ref st.length),some (.int (j:Int)),some (rowD r),y5,y6,y7,y8],s,_,s',by simp,e',⟨_,_,_,_,_,_,rfl⟩,?_,g'⟩;rw[b',take_one (zip_get hr),Eg];simp)
 obtain⟨ρ',s2,e2,⟨y3,y4,y5,y6,y7,y8,rfl⟩,b2,g2⟩:=key;refine⟨s2,zdc ?_,?_,g2⟩
 . unfold zdw;have i0:∀ s:Sto,ixA (wkD z T) (.int 0) s=some (.str z,s):=fun s=>zh2;have i1:∀ s:Sto,ixA (wkD z T) (.int 1) s=some (.tup (T.map rowD),s):=fun s=>zi9;refine zas (ρ1:=[some (wkD z T),some (.str z),none,none,none,none,none,none,none]) (s1:=st) (by simp[i0]) ?_;refine zas (ρ1:=[some (wkD z T),some (.str z),some (.ref st.length),none,none,none,none,none,none]) (s1:=s1) (by simp[hs1]) ?_;refine zas (ρ1:=[some (wkD z T),some (.str z),some (.ref st.length),y3,y4,y5,y6,y7,y8]) (s1:=s2) ?_ (by simp);rw[zaZ];unfold zjF;simp only[za1,zaP,za0,AF,Ab,i1];exact e2
 . rw[b2,pairs_len,Af];unfold TK;rw[DY (by simp)]
noncomputable def vv(c:Nat):Int:=if c=99\/c=119 then 2 else 1
noncomputable def it(q:Nat×Nat):Spr:=(nm q.1 q.2,vv q.1)
noncomputable def fam(c n:Nat):List (Nat×Nat):=(Au n).map fun k=>(c,k)
noncomputable def IX(a b k:Nat):List (Nat×Nat):=fam 99 1++fam 108 a++fam 115 b++fam 119 k
noncomputable def JX(a b k:Nat):List (Nat×Nat):=fam 99 1++fam 119 k++fam 108 a++fam 115 b
theorem zmI(a b k:Nat):(JX a b k).Perm (IX a b k):=by
 unfold JX IX;rw[Ai,Ai,Ai,Ai];refine CI _ ?_;rw[<-Ai (fam 108 a)];exact List.perm_append_comm
def lt2(p q:Nat×Nat):Prop:=p.1 < q.1\/p.1=q.1/\p.2 < q.2
theorem zbM{c n:Nat}{p:Nat×Nat}(h:p∈fam c n):p.1=c/\p.2 < n:=by
 obtain⟨k,hk,rfl⟩:=List.mem_map.mp h;exact⟨rfl,List.mem_range.mp hk⟩
theorem zgz(c n:Nat):(fam c n).Pairwise lt2:=by
 unfold fam;rw[B8];exact List.pairwise_lt_range.imp fun h=>.inr ⟨rfl,h⟩
theorem zkT(a b k:Nat):(IX a b k).Pairwise lt2:=by
 unfold IX;refine List.pairwise_append.mpr ⟨List.pairwise_append.mpr ⟨List.pairwise_append.mpr ⟨zgz _ _,zgz _ _,fun p hp q hq=>?_⟩,zgz _ _,fun p hp q hq=>?_⟩,zgz _ _,fun p hp q hq=>?_⟩
 . have h1:=zbM hp;have h2:=zbM hq;left;omega
 . have h2:=zbM hq
   rcases List.mem_append.mp hp with hp | hp
   all_goals (have h1:=zbM hp;left;omega)
 . have h2:=zbM hq
   rcases List.mem_append.mp hp with hp | hp
   . rcases List.mem_append.mp hp with hp | hp
     all_goals (have h1:=zbM hp;left;omega)
   . have h1:=zbM hp;left;omega
def SmI(p:Nat×Nat):Prop:=p.1∈[99,108,115,119]/\p.2 < 12
theorem zov{a b k:Nat}(ha:a<=12)(hb:b<=12)(hk:k<=12):∀ p∈IX a b k,SmI p:=fun p hp=>by
 unfold IX at hp
 rcases List.mem_append.mp hp with hp | hp
 . rcases List.mem_append.mp hp with hp | hp
   . rcases List.mem_append.mp hp with hp | hp
     . have h:=zbM hp;exact⟨by rw[h.1];decide,by omega⟩
     . have h:=zbM hp;exact⟨by rw[h.1];decide,by omega⟩
   . have h:=zbM hp;exact⟨by rw[h.1];decide,by omega⟩
 . have h:=zbM hp;exact⟨by rw[h.1];decide,by omega⟩
noncomputable instance (p q:Nat×Nat):Decidable (lt2 p q):=by unfold lt2;exact inferInstance
theorem zoA:∀ c∈[99,108,115,119],∀ d∈[99,108,115,119],∀ k < 12,∀ j < 12,lt2 (c,k) (d,j)->ple (it (c,k)) (it (d,j))=true/\sle (nm c k) (nm d j)=true:=by decide +kernel
theorem zo1{p q:Nat×Nat}(hp:SmI p)(hq:SmI q)(h:lt2 p q):ple (it p) (it q)=true/\sle (nm p.1 p.2) (nm q.1 q.2)=true:=zoA p.1 hp.1 q.1 hq.1 p.2 hp.2 q.2 hq.2 h
theorem zmu{c k d j:Nat}(h:nm c k=nm d j):c=d/\k=j:=by
 unfold nm at h;injection h with h
 simp at h;omega
theorem zon{p q:Nat×Nat}(h:lt2 p q):nm p.1 p.2≠nm q.1 q.2:=fun e=>by
 have:=zmu e
 rcases h with h | h <;> omega
noncomputable abbrev SSk (a b k:Nat):List Spr:=(IX a b k).map it
theorem zlG{a b k:Nat}(ha:a<=12)(hb:b<=12)(hk:k<=12):zg6 ((JX a b k).map it)=SSk a b k:=by
 refine zkb ((zmI a b k).map it) ?_;rw[B8];have sm:=zov ha hb hk;exact (zkT a b k).imp_of_mem fun hp hq h=>(zo1 (sm _ hp) (sm _ hq) h).1
theorem zjW(k:Str):∀ L:List Spr,((L.map kvS).any fun kv=>decide (kv.1=(.inr k:Key)))=L.any fun p=>decide (p.1=k)
 | []=>rfl
 | p::L=>by
   rw[Aq,BK,BK,zjW k L]
   congr 1
   simp[kvS]
theorem zl1{L:List Spr}{k:Str}{v:Int}{n:Nat}{st:Sto}(h:st[n]?=some (.dk (L.map kvS)))(hn:∀ p∈L,p.1≠k)(hl:L.length<=1000):dput st n (.str k) (.int v)=some (st.set n (.dk ((L++[(k,v)]).map kvS))):=by
 have hz:(L.map kvS).length < sizeLine:=by rw[Af];exact B1 hl (by decide)
 have ha:(L.any fun p=>decide (p.1=k))=false:=by
   rw[List.any_eq_false];intro p hp;simpa using hn p hp
 unfold dput;simp only[h];simp only[keyOf,Ab,decide_eq_true hz,if_true,putD,zjW,ha,Bf,if_false,B4,Aq,BQ];rfl
theorem zmG:∀ L:List Spr,kiOf (L.map kvS)=some L
 | []=>rfl
 | p::L=>by
   rw[Aq];show (kiOf (L.map kvS)).map _=_;rw[zmG L];rfl
theorem zl0{m:ME}{k:Str}{n:Nat}{v:Int}{a0 a1 a3:Option D}{s s':Sto}{kvs:List (Key×D)}(h:s[n]?=some (.dk kvs))(em:m [a0,a1,some (.ref n),a3] s=some (.str k,s))(dp:dput s n (.str k) (.int v)=some s'):putA (mVar 2) m (mCon (.int v)) [a0,a1,some (.ref n),a3] s=some (.nx [a0,a1,some (.ref n),a3],s'):=by
 have ns:setD (.ref n) (.str k) (.int v) s=none:=by unfold setD;simp[h]
 rw[zbe];simp only[za2,zcB,zaP,za0,AF,A3,Ab,em,ns,Option.map_none,zcn];unfold zng;simp only[zaP,za0,AF,A3,Ab,em,dp,Ak]
theorem zmR(c n:Nat):fam c (n+1)=fam c n++[(c,n)]:=by unfold fam;rw[zjs]
theorem zf5{m:ME}{f:GN}{v:Int}{c n l:Nat}{W w:D}{L:List (Nat×Nat)}{x:Option D}{st st0:Sto}(hv:v=vv c)(hm:∀ (k:Nat) (s:Sto),k < n->m [some W,some w,some (.ref l),some (.int (k:Int))] s=some (.str (nm c k),s))(hn:n<=20)(hL:L.length<=100)(hf:∀ p∈L,p.1≠c)(h1:st[l]?=some (.dk ((L.map it).map kvS)))(g0:Gr st0 st)(hl:st0.length<=l) :
   ∃ y st',zgv ⟨run 0 n,[]⟩ (gNm 3) (putA (mVar 2) m (mCon (.int v))) (run 0 n) [some W,some w,some (.ref l),x] st=some (.nx [some W,some w,some (.ref l),y],st')/\st'[l]?=some (.dk (((L++fam c n).map it).map kvS))/\Gr st0 st':=by
 obtain⟨ρ',s2,e2,⟨y,rfl⟩,b2,g2⟩:=znk (ds:=run 0 n) (g:=gNm 3) (m:=putA (mVar 2) m (mCon (.int v))) (ρ:=[some W,some w,some (.ref l),x]) (P:=fun ρ=>∃ y,ρ=[some W,some w,some (.ref l),y]) (l:=l) (c:=fun j=>.dk (((L++fam c j).map it).map kvS)) (st:=st) (st0:=st0) ⟨_,rfl⟩ (by simpa[fam] using h1) g0 hl (fun j d ρ t hd hP h2 _=>by
   obtain⟨y,rfl⟩:=hP;obtain⟨hj,rfl⟩:=run_get hd;rw[Eo];refine⟨[some W,some w,some (.ref l),some (.int (j:Int))],[some W,some w,some (.ref l),some (.int (j:Int))],by simp,?_,⟨_,rfl⟩⟩;have dp:=zl1 (k:=nm c j) (v:=v) h2 (fun p hp e=>by
     obtain⟨q,hq,rfl⟩:=List.mem_map.mp hp;have:=zmu (show nm q.1 q.2=nm c j from e)
     rcases List.mem_append.mp hq with hq | hq
     . exact hf q hq this.1
     . have:=zbM hq
       omega) (by simp[fam];omega)
   rw[zmR,<-Ai,B4 (l₂:=[(c,j)])];have e:[(c,j)].map it=[(nm c j,v)]:=by rw[hv];rfl
   rw[e];exact zl0 h2 (hm j t hj) dp)
 rw[zb6] at b2;exact⟨y,s2,e2,b2,g2⟩
theorem zk5{mk mv:ME}{ρ:Rho}{st:Sto}{k:Str}{v:Int}(e1:mk ρ (st++[.dk []])=some (.str k,st++[.dk []]))(e2:mv ρ (st++[.dk []])=some (.int v,st++[.dk []])):ziY mk mv ρ st=some (.ref st.length,st++[.dk [(.inr k,.int v)]]):=by
 unfold ziY;simp only[e1,e2,Ab,keyOf,zbC];simp[putD]
theorem znv{z w:Str}{T:Tab}{st:Sto}(hz:z.cps.toList.length<=12)(hT:T.length<=12)(hw:w.cps.toList.length<=11) :
   ∃ st',za4 [wkD z T,.str w] st=some (.ref st.length,st')/\st'[st.length]?=some (.dk (((JX z.cps.toList.length T.length (w.cps.toList.length+1)).map it).map kvS))/\Gr st st':=by
 generalize hW:wkD z T=W;have i0:∀ s:Sto,ixA W (.int 0) s=some (.str z,s):=fun s=>by rw[<-hW];exact zh2
 have i1:∀ s:Sto,ixA W (.int 1) s=some (.tup (T.map rowD),s):=fun s=>by rw[<-hW];exact zi9
 have l0:∀ s:Sto,lenD [.str z] s=some (.int (z.cps.toList.length:Int),s):=fun s=>zjK (by omega);have l1:∀ s:Sto,lenD [.tup (T.map rowD)] s=some (.int (T.length:Int),s):=fun s=>by rw[zgw,Af]
 have l2:∀ s:Sto,lenD [.str w] s=some (.int (w.cps.toList.length:Int),s):=fun s=>zjK (by omega);have g1:=Gr.app st [.dk [(.inr cN,.int 2)]];have b1:(st++[O.dk [(.inr cN,.int 2)]])[st.length]?=some (.dk (((fam 99 1).map it).map kvS)):=zbC st _;generalize hs1:st++[O.dk [(.inr cN,.int 2)]]=s1 at g1 b1;generalize z.cps.toList.length=a at *;generalize hb:T.length=b at *;generalize w.cps.toList.length=k at *;obtain⟨y2,s2,e2,b2,g2⟩:=zf5 (m:=zar zaC (zad (mVar 3) mNil)) (f:=zaC) (v:=2) (c:=119) (n:=k+1) (l:=st.length) (W:=W) (w:=.str w) (L:=fam 99 1) (x:=none) (st:=s1) (st0:=st) rfl (fun j s hj=>by simp[w_ev (k:=j) (st:=s) (by omega)]) (by omega) (by simp[fam]) (fun p hp=>by have:=zbM hp;omega) b1 g1 (Ae _);obtain⟨y3,s3,e3,b3,g3⟩:=zf5 (m:=zar zap (zad (mVar 3) mNil)) (f:=zap) (v:=1) (c:=108) (n:=a) (l:=st.length) (W:=W) (w:=.str w) (L:=fam 99 1++fam 119 (k+1)) (x:=y2) (st:=s2) (st0:=st) rfl (fun j s hj=>by simp[l_ev (k:=j) (st:=s) (by omega)]) (by omega) (by simp[fam];omega) (fun p hp=>by rcases List.mem_append.mp hp with hp | hp <;> (have:=zbM hp;omega)) b2 g2 (Ae _);obtain⟨y4,s4,e4,b4,g4⟩:=zf5 (m:=zar zau (zad (mVar 3) mNil)) (f:=zau) (v:=1) (c:=115) (n:=b) (l:=st.length) (W:=W) (w:=.str w) (L:=fam 99 1++fam 119 (k+1)++fam 108 a) (x:=y3) (st:=s3) (st0:=st) rfl (fun j s hj=>by simp[s_ev (k:=j) (st:=s) (by omega)]) (by omega) (by simp[fam];omega) (fun p hp=>by
   rcases List.mem_append.mp hp with hp | hp
   . rcases List.mem_append.mp hp with hp | hp <;> (have:=zbM hp;omega)
   . have:=zbM hp;omega) b3 g3 (Ae _)
 refine⟨s4,zdc ?_,b4,g4⟩;unfold zcu;refine zas (ρ1:=[some W,some (.str w),some (.ref st.length),none]) (s1:=s1) ?_ ?_
 . show mAsg _ _ [some W,some (.str w),none,none] st=_;rw[za2,zk5 (k:=cN) (v:=2) (by simp[c_ev]) (by simp),hs1];rfl
 refine zas (ρ1:=[some W,some (.str w),some (.ref st.length),y2]) (s1:=s2) (zdY (k:=k+1) (by simp[l2]) (by omega) e2) ?_;refine zas (ρ1:=[some W,some (.str w),some (.ref st.length),y3]) (s1:=s3) (zdY (k:=a) (by simp[i0,l0]) (by omega) e3) ?_;refine zas (ρ1:=[some W,some (.str w),some (.ref st.length),y4]) (s1:=s4) (zdY (k:=b) (by simp[i1,l1]) (by omega) e4) (by simp)
end L2.MP.stickytiles_k49_walked_beds_formed
namespace L2.MP.stickytiles_k49_walked_beds_formed
open PySem L2.MP L2.MP.Hb
open L2.MP.Hd (kvS)
theorem zgZ{L:List Spr}{ks:List D}{r l:Nat}{st:Sto}(hr:st[r]?=some (.dk (L.map kvS)))(hl:st[l]?=some (.lst ks))(h2:2<=L.length)(h64:L.length < 64)(hk:ks.length<=1000) :
   zct [.int 2,.ref r,.ref l] st=some (.tup [.int 2,.tup ((zg6 L).map siD),.tup ks],st++[.lst ((zg6 L).map siD)]):=by
 refine zdc ?_;have e1:znc (mVar 1) [some (.int 2),some (.ref r),some (.ref l)] st=some (.ref st.length,st++[.lst ((zg6 L).map siD)]):=by
   unfold znc;simp only[zaP,A3,AF,Ab,hr,zmG,decide_eq_true h2,decide_eq_true h64,Fm,if_true]
 have a1:=zbC st (.lst ((zg6 L).map siD));have a2:(st++[O.lst ((zg6 L).map siD)])[l]?=some (.lst ks):=by rw[Al (getElem?_lt hl)];exact hl
 generalize (zg6 L).map siD=SL at *;generalize st++[O.lst SL]=s1 at *;have t1:zcZ [.ref st.length] s1=some (.tup SL,s1):=by simp[zcZ,zcc,a1]
 have t2:zcZ [.ref l] s1=some (.tup ks,s1):=by simp[zcZ,zcc,a2]
 have f3:fits 3=true:=by decide
 unfold zfO;show mRet _ [some (.int 2),some (.ref r),some (.ref l)] st=_;simp[e1,t1,t2,f3]
noncomputable def KW(z w:Str)(T:Tab):List (List Str):=(Au w.cps.toList.length).map (wK z w)++cK w.cps.toList.length++TK z T
noncomputable def hD(S:List Spr)(K:List (List Str)):D:=.tup [.int 2,.tup (S.map siD),.tup (K.map zb7)]
noncomputable def bD(H:D)(k r:Int):D:=.tup [H,.tup [.int (k+1),.int (r+1)],.tup [.tup [.int k,.int 0,.int k]]]
noncomputable def WB(z w:Str)(T:Tab)(r:Int):D:=bD (hD (SSk z.cps.toList.length T.length (w.cps.toList.length+1)) (KW z w T)) w.cps.toList.length r
theorem zoP{W w H:D}{k r:Int}{a b c d e l:Nat}{st s1 s2 s3 s4 s5 s6 s7:Sto}(el:lenD [w] st=some (.int k,st))(e1:zbV [W,w] st=some (.ref a,s1))(e2:zbB [w] s1=some (.ref b,s2))(e3:addD (.ref a) (.ref b) s2=some (.ref c,s3))(e4:zbI [W] s3=some (.ref d,s4))(e5:addD (.ref c) (.ref d) s4=some (.ref e,s5))
   (e6:za4 [W,w] s5=some (.ref l,s6)) (e7:zct [.int 2,.ref l,.ref e] s6=some (H,s7)):zcU [some W,some w,some (.int r),none,none] st=some (.rt (bD H k r),s7):=by
 unfold zcU;refine zas (ρ1:=[some W,some w,some (.int r),some (.int k),none]) (s1:=st) (by simp[el]) ?_;refine zas (ρ1:=[some W,some w,some (.int r),some (.int k),some (.ref e)]) (s1:=s5) (by simp[e1,e2,e3,e4,e5]) ?_;simp[e6,e7,bD]
theorem zjP(c n:Nat):(fam c n).length=n:=by simp[fam]
theorem zmJ(a b k:Nat):(JX a b k).length=1+k+a+b:=by simp[JX,zjP];omega
theorem zm6{z:Str}{T:Tab}(h:∀ r∈T,r.length=z.cps.toList.length):(TK z T).length=T.length*z.cps.toList.length:=by
 have:∀ (l:List (List (Nat×Nat)×Nat)),(∀ q∈l,q.1.length=z.cps.toList.length)->(l.flatMap (rK z)).length=l.length*z.cps.toList.length:=fun l=>by
   induction l with
   | nil=>simp
   | cons q l ih =>
     intro hq;rw[List.flatMap_cons,AD,ih fun x hx=>hq x (Ah _ hx)];have:=hq q Am;simp[rK,this,Nat.succ_mul,Nat.add_comm]
 unfold TK;rw[this _ fun q hq=>h q.1 (by have:=DO hq;rw[this.2.2];exact Be _),List.length_zipIdx]
theorem zlm{z w:Str}{T:Tab}(h:∀ r∈T,r.length=z.cps.toList.length):(KW z w T).length=w.cps.toList.length+2+T.length*z.cps.toList.length:=by
 unfold KW;rw[AD,AD,zm6 h];simp[cK]
structure WkOk(z w:Str)(T:Tab):Prop where
 z1:1<=z.cps.toList.length
 z10:z.cps.toList.length<=10
 t4:T.length<=4
 w1:1<=w.cps.toList.length
 w6:w.cps.toList.length<=6
 tab:TabOk z T
 sub:∀ c∈w.cps.toList,c∈z.cps.toList
 fac:∀ c∈z.cps.toList,c∈zf9.cps.toList
theorem zlg{z w:Str}{T:Tab}{r:Int}{st:Sto}(h:WkOk z w T):∃ st',zaS [wkD z T,.str w,.int r] st=some (WB z w T r,st')/\Gr st st':=by
 have z10:=h.z10;have t4:=h.t4;have w6:=h.w6;have hrow:∀ r∈T,r.length=z.cps.toList.length:=fun r hr=>(h.tab.row r hr).1;have hmul:T.length*z.cps.toList.length<=40:=Fg t4 z10;obtain⟨s1,e1,b1,g1⟩:=zfa (T:=T) (st:=st) (by omega) h.sub (by omega);have e2:=zoL (w:=w) (st:=s1) (by omega);have b2:=zbC s1 (.lst ((cK w.cps.toList.length).map zb7));have g2:=Gr.app s1 [.lst ((cK w.cps.toList.length).map zb7)];generalize s1++[O.lst ((cK w.cps.toList.length).map zb7)]=s2 at e2 b2 g2;have b1':=(g2.old _ (getElem?_lt b1)).trans b1;have e3:=ziu b1' b2 (by rw[Af,Af,Af,BM];show _+2<=_;omega);rw[<-B4] at e3;have b3:=zbC s2 (.lst (((Au w.cps.toList.length).map (wK z w)++cK w.cps.toList.length).map zb7));have g3:=Gr.app s2 [.lst (((Au w.cps.toList.length).map (wK z w)++cK w.cps.toList.length).map zb7)];generalize s2++[O.lst (((Au w.cps.toList.length).map (wK z w)++cK w.cps.toList.length).map zb7)]=s3 at e3 b3 g3;obtain⟨s4,e4,b4,g4⟩:=zj4 (st:=s3) (by omega) h.tab (by omega);have b3':=(g4.old _ (getElem?_lt b3)).trans b3;have e5:=ziu b3' b4 (by rw[Af,Af,zm6 hrow,AD,Af,BM];show _+2+_<=_;omega);rw[<-B4,show (Au w.cps.toList.length).map (wK z w)++cK w.cps.toList.length++TK z T=KW z w T from rfl] at e5;have b5:=zbC s4 (.lst ((KW z w T).map zb7));have g5:=Gr.app s4 [.lst ((KW z w T).map zb7)];generalize s4++[O.lst ((KW z w T).map zb7)]=s5 at e5 b5 g5;obtain⟨s6,e6,b6,g6⟩:=znv (z:=z) (w:=w) (T:=T) (st:=s5) (by omega) (by omega) (by omega);have b5':=(g6.old _ (getElem?_lt b5)).trans b5;have e7:=zgZ b6 b5' (by rw[Af,zmJ];omega) (by rw[Af,zmJ];omega) (by rw[Af,zlm hrow];omega);rw[zlG (by omega) (by omega) (by omega)] at e7;refine⟨_,zdc (zoP (zjK (by omega)) e1 e2 e3 e4 e5 e6 e7),?_⟩;exact ((g1.trans g2).trans (g3.trans g4)).trans ((g5.trans g6).trans (Gr.app _ _))
end L2.MP.stickytiles_k49_walked_beds_formed
namespace L2.MP.stickytiles_k49_walked_beds_formed
open PySem L2.MP L2.MP.Hb
open L2.MP.Hn
theorem znt:subT "int" "int"=true:=by decide
theorem znu:subT "int" "bool"=false:=by decide
theorem zns:subT "str" "str"=true:=by decide
theorem sub_tt:subT "tuple" "tuple"=true:=by decide
theorem zkE{x lo hi:Int}{st:Sto}(h1:lo<=x)(h2:x<=hi):zao [.int x,.int lo,.int hi] st=some (.bl true,st):=by
 have t1:tyName st (.int x)=some "int":=rfl;refine zdc ?_;unfold zda;simp[zi0,t1,znt,znu,h1,h2]
theorem zio{α:Type}:∀ as:List α,zle (as.map fun _=>D.bl true)=some (as.map fun _=>true)
 | []=>rfl
 | a::as=>by
   show (zle (as.map fun _=>D.bl true)).map _=_;rw[zio as];rfl
theorem zm4{α:Type}{mi:MI}{nt:Nat}{f:α->D}{as:List α}{fr:List Nat}{g:MG}{m:ME}{ρi ρ:Rho}{st:Sto}{gd:List (Nat×List D)}{R:Rho->Prop}(hw:mi ρ st=some (⟨as.map f,gd⟩,st))(hg:∀ s,Gr st s->walked ⟨as.map f,gd⟩ s=true)(hρ:rho0 ρ nt fr=ρi)(hR:R ρi)(hl:as.length<=10000)
   (h:∀ a∈as,∀ r s,R r->Gr st s->∃ r1 s1,g (f a) r s=some (r1,s)/\m r1 s=some (.bl true,s1)/\Gr s s1/\R r1) :
   ∃ st',zar allC (zad (zdI mi nt fr g zc4 m) mNil) ρ st=some (.bl true,st')/\Gr st st':=by
 obtain⟨s1,e,g1⟩:=zo7 (W:=⟨as.map f,gd⟩) (g:=g) (c:=zc4) (m:=m) (f:=f) (h:=fun _=>D.bl true) (R:=R) (as:=as) (ρ:=ρi) (st:=st) hR hg (fun a ha r s hr gs=>by
   obtain⟨r1,s1,e1,e2,g2,h2⟩:=h a ha r s hr gs;exact⟨r1,s1,e1,rfl,e2,g2,h2⟩)
 have fl:fits (as.map fun _=>D.bl true).length=true:=zaz (by rw[Af];exact hl);have ec:zdI mi nt fr g zc4 m ρ st=some (.ref s1.length,s1++[.lst (as.map fun _=>D.bl true)]):=by
   rw[zaI,hw];simp only[Ab];rw[hρ,e];simp only[Ab,fl,if_true]
 refine⟨_,?_,g1.trans (Gr.app s1 [.lst (as.map fun _=>D.bl true)])⟩;simp only[zaJ,zaG,zbf,ec,Ab];unfold allC;simp only[zcc,zbC,Ab,zio,Ak];simp
theorem zoC{a b:Str}{st:Sto}:inA (.str a) (.str b) st=some (.bl (!(BV b a 0 b.length 1).isEmpty),st):=by
 have e:inD false (.str a) (.str b) st=none:=by
   unfold inD
   cases h1:toP 50 st (.str a) with
   | none=>rfl
   | some p =>
     cases h2:toP 50 st (.str b) with
     | none=>rfl
     | some q =>
       have:q=.str b:=by
         rw[toP] at h2
         split at h2
         . cases h2;rfl
         . cases h2
       subst this;rfl
 unfold inA orG;rw[e,zcn];rfl
theorem zmO{c:Nat}{z:Str}{st:Sto}(h:c∈z.cps.toList):inA (.str ⟨#[c]⟩) (.str z) st=some (.bl true,st):=by
 rw[zoC];have:=ED z c;rw[decide_eq_true h] at this;rw[this]
theorem zjr{x z:Str}{n:Int}{st:Sto}(h:∀ c∈x.cps.toList,c∈z.cps.toList)(hn:(x.cps.toList.length:Int)<=n)(hx:x.cps.toList.length<=1000):∃ st',zbs [.str x,.str z,.int n] st=some (.bl true,st')/\Gr st st':=by
 have t1:tyName st (.str x)=some "str":=rfl;have el:=zjK (z:=x) (st:=st) hx;have hw:mWA (mVar 0) [some (.str x),some (.str z),some (.int n)] st=some (⟨x.cps.toList.map sgD,[]⟩,st):=rfl;obtain⟨s1,e,g⟩:=zm4 (fr:=[1]) (nt:=1) (g:=gNm 0) (m:=zcg) (R:=fun r=>∃ y,r=[y,some (.str z)]) hw (fun _ _=>rfl) rfl ⟨_,rfl⟩ (by omega) (fun c hc r s hr _=>by
   obtain⟨y,rfl⟩:=hr;refine⟨[some (sgD c),some (.str z)],s,rfl,?_,Gr.refl s,⟨_,rfl⟩⟩;unfold zcg;have:=zmO (st:=s) (h c hc);have this':inA (sgD c) (.str z) s=some (.bl true,s):=this;simp[this'])
 refine⟨s1,zdc ?_,g⟩;unfold zd4;show mRet _ [some (.str x),some (.str z),some (.int n)] st=_;have ec:mBin leD (zar lenD (zad (mVar 0) mNil)) (mVar 2) [some (.str x),some (.str z),some (.int n)] st=some (.bl true,st):=by
   simp[el];simpa using hn
 simp only[za3,zaA,zaX,zbc,zaP,AF,Ab,t1,Ak,zns,if_true,ec,e]
theorem zeL{ds:List (List D)}{n:Nat}{st:Sto}(h:∀ d∈ds,d.length=n)(hl:ds.length<=1000):∃ st',zav [.tup (ds.map D.tup),.int (n:Int)] st=some (.bl true,st')/\Gr st st':=by
 have t1:tyName st (.tup (ds.map D.tup))=some "tuple":=rfl;have hw:mWA (mVar 0) [some (.tup (ds.map D.tup)),some (.int (n:Int))] st=some (⟨ds.map D.tup,[]⟩,st):=rfl;obtain⟨s1,e,g⟩:=zm4 (fr:=[1]) (nt:=1) (g:=gNm 0) (m:=zb4) (R:=fun r=>∃ y,r=[y,some (.int (n:Int))]) hw (fun _ _=>rfl) rfl ⟨_,rfl⟩ (by omega) (fun d hd r s hr _=>by
   obtain⟨y,rfl⟩:=hr;refine⟨[some (.tup d),some (.int (n:Int))],s,rfl,?_,Gr.refl s,⟨_,rfl⟩⟩;have t2:tyName s (.tup d)=some "tuple":=rfl;have e2:=zgw (ds:=d) (st:=s);rw[h d hd] at e2;unfold zb4;simp[t2,sub_tt,e2,eq_int])
 refine⟨s1,zdc ?_,g⟩;unfold zdA;show mRet _ [some (.tup (ds.map D.tup)),some (.int (n:Int))] st=_;simp only[za3,zaA,zaX,zbc,zaP,AF,Ab,t1,Ak,sub_tt,if_true,e]
noncomputable def FAC:Str:=LET++"0123456789"
inductive KdI (ns:List Str):List Str->Prop
 | mk (f a b c d:Str) (h1:∀ x∈f.cps.toList,x∈FAC.cps.toList) (h2:f.cps.toList.length<=1) (h3:∀ x∈[f,a,b,c,d],AJ x=true) (h4:∀ x∈[a,b,c,d],x∈ns++[("":Str)]):KdI ns [f,a,b,c,d]
structure HsI(S:List Spr)(K:List (List Str)):Prop where
 let_:∀ p∈S,∀ c∈p.1.cps.toList,c∈LET.cps.toList
 len:∀ p∈S,p.1.cps.toList.length<=8
 ne:∀ p∈S,p.1≠""
 ok:∀ p∈S,AJ p.1=true
 val:∀ p∈S,1<=p.2/\p.2<=4
 srt:zek (once (S.map (·.1)))=S.map (·.1)
 lo:2<=(once (S.map (·.1))).length
 hi:(once (S.map (·.1))).length < 64
 l60:S.length<=60
 kd:∀ k∈K,KdI (S.map (·.1)) k
 k0:K≠[]
 kl:K.length<=1000
theorem zmw{l n:Nat}{ss:List Str}{st:Sto}(hl:st[l]?=some (.lst (ss.map D.str)))(hn:st[n]?=some (.lst (ss.map D.str)))(h:∀ x∈ss,AJ x=true):neD (.ref l) (.ref n) st=some (.bl false,st):=by
 unfold neD;rw[zfS (n:=98) hl h,zfS (n:=98) hn h];have all:∀ r:List Str,Ci (r.map Cz) (r.map Cz)=true:=fun r=>by
   induction r with
   | nil=>rfl
   | cons y r ih=>rw[Aq,Ci,ih];simp[AU]
 have this:AU (.list (ss.map Cz)) (.list (ss.map Cz))=true:=by rw[AU];exact all ss
 simp[this]
theorem zmN{l:Nat}{x:Str}{ss:List Str}{st:Sto}(hl:st[l]?=some (.lst (ss.map D.str)))(h:∀ x∈ss,AJ x=true)(hx:AJ x=true)(hm:x∈ss):inA (.str x) (.ref l) st=some (.bl true,st):=by
 unfold inA orG inD;rw[zfS (n:=48) hl h,zeh (n:=49) hx];simp only[Ab,memP,Ak,zjX,zcj,decide_eq_true hm];rfl
theorem eq_nil{K:List (List Str)}{st:Sto}(h:∀ k∈K,∀ x∈k,AJ x=true)(h0:K≠[]):eqD (.tup (K.map zb7)) (.tup []) st=some (.bl false,st):=by
 have kp:∀ k:List Str,(∀ x∈k,AJ x=true)->∃ p,toP 99 st (zb7 k)=some p/\AU p p=true:=fun k hk=>by
   obtain⟨ps,e,q⟩:=zdL (f:=toP 98 st) (ds:=k.map D.str) fun d hd=>by
     obtain⟨x,hx,rfl⟩:=List.mem_map.mp hd;exact⟨.str x,zeh (hk x hx),by simp[AU]⟩
   exact⟨.tuple ps,by unfold zb7;rw[toP,e];rfl,by rw[AU];exact q⟩
 cases K with
 | nil=>exact absurd rfl h0
 | cons k r =>
   obtain⟨p,e,_⟩:=kp k (h k Am);obtain⟨ps,es,_⟩:=zdL (f:=toP 99 st) (ds:=r.map zb7) fun d hd=>by
     obtain⟨x,hx,rfl⟩:=List.mem_map.mp hd;exact kp x (h x (Ah _ hx))
   unfold eqD;rw[toP,Aq,toPs,e,Ab,es];simp[toP,toPs,AU,Ci]
theorem zlF{m:ME}{ρ:Rho}{n:Nat}{ss:List Str}{st:Sto}(em:m ρ st=some (.ref n,st))(hn:st[n]?=some (.lst (ss.map D.str)))(h1:ss.length<=4000)(h2:2<=(once ss).length)(h3:(once ss).length < 64):znb m ρ st=some (.ref st.length,st++[.lst ((zek (once ss)).map D.str)]):=by
 unfold znb;simp only[em,Ab,zcc,hn,zfc,decide_eq_true h1,decide_eq_true h2,decide_eq_true h3,Fm,if_true]
theorem zmE{ns:List Str}{k:List Str}{T L:D}{n:Nat}{st:Sto}(h:KdI ns k)(hn:st[n]?=some (.lst (ns.map D.str)))(ok:∀ x∈ns,AJ x=true)(hl:ns.length<=100) :
   ∃ st',za9 [some T,some (.str LET),some (.ref n),some (zb7 k)] st=some (.nx [some T,some (.str LET),some (.ref n),some (zb7 k)],st')/\Gr st st':=by
 obtain⟨f,a,b,c,d,h1,h2,h3,h4⟩:=h;obtain⟨s1,e1,g1⟩:=zjr (z:=FAC) (n:=1) (st:=st) h1 (by omega) (by omega);have i0:∀ s:Sto,ixA (zb7 [f,a,b,c,d]) (.int 0) s=some (.str f,s):=fun s=>zcr (by decide) rfl;have ad:∀ s:Sto,addD (.str LET) (.str "0123456789") s=some (.str FAC,s):=fun s=>add_str (by decide +kernel);have hw:mWA (mSlB (mVar 3) (zhL (mCon (.int 1))) zhM) [some T,some (.str LET),some (.ref n),some (zb7 [f,a,b,c,d])] s1=some (⟨[a,b,c,d].map D.str,[]⟩,s1):=rfl;have hn1:=(g1.old _ (getElem?_lt hn)).trans hn;obtain⟨s2,e2,g2⟩:=zm4 (fr:=[2]) (nt:=1) (g:=gNm 0) (m:=zbD) (R:=fun r=>∃ y,r=[y,some (.ref n)]) hw (fun _ _=>rfl) rfl ⟨_,rfl⟩ (by simp) (fun x hx r s hr gs=>by
   obtain⟨y,rfl⟩:=hr;have hns:=(gs.old _ (getElem?_lt hn1)).trans hn1;have a1:=zbC s (.lst [.str ""]);have a2:(s++[O.lst [.str ""]])[n]?=some (.lst (ns.map D.str)):=by rw[Al (getElem?_lt hns)];exact hns
   have g3:=Gr.app s [.lst [.str ""]];have m1:mLst (zad (mCon (.str "")) mNil) [some (.str x),some (.ref n)] s=some (.ref s.length,s++[.lst [.str ""]]):=by simp
   generalize s++[O.lst [.str ""]]=s3 at *;have ea:=ziu a2 a1 (by simp;omega);rw[show ns.map D.str++[.str ""]=(ns++[("":Str)]).map D.str by simp] at ea;have b1:=zbC s3 (.lst ((ns++[("":Str)]).map D.str));have g4:=Gr.app s3 [.lst ((ns++[("":Str)]).map D.str)];generalize s3++[O.lst ((ns++[("":Str)]).map D.str)]=s4 at *;have ei:=zmN b1 (fun z hz=>by
     rcases List.mem_append.mp hz with hz | hz
     . exact ok z hz
     . rw[List.mem_singleton.mp hz];decide +kernel) (h3 x (Ah _ hx)) (h4 x hx)
   refine⟨[some (.str x),some (.ref n)],s4,rfl,?_,g3.trans g4,⟨_,rfl⟩⟩;unfold zbD;simp only[za1,zaP,AF,A3,Ab,m1,ea,ei])
 refine⟨s2,?_,g1.trans g2⟩;unfold za9;generalize zb7 [f,a,b,c,d]=KD at *;have c1:zar zbs (zad (mBin ixA (mVar 3) (mCon (.int 0))) (zad (mBin addD (mVar 1) (mCon (.str "0123456789"))) (zad (mCon (.int 1)) mNil))) [some T,some (.str LET),some (.ref n),some KD] st=some (.bl true,s1):=by simp[i0,ad,e1]
 simp only[zcs,zbb,zaF,zaX,c1,e2,Ab,Ak,D9,Bf,if_false,zaE]
theorem ze1{t:MT}{a:MS}{ρ:Rho}{st s1:Sto}(h:t ρ st=some (false,s1)):mIf t a ze9 ρ st=some (.nx ρ,s1):=by simp only[zcs,h,Ab,Bf,if_false,zaE]
theorem orF{a b:MT}{ρ:Rho}{st s1 s2:Sto}(h1:a ρ st=some (false,s1))(h2:b ρ s1=some (false,s2)):mOrT a b ρ st=some (false,s2):=by simp only[zbb,h1,Ab,Bf,if_false,h2]
theorem notT{m:ME}{ρ:Rho}{st s1:Sto}(h:m ρ st=some (.bl true,s1)):zd6 (mTst m) ρ st=some (false,s1):=by simp only[zaF,zaX,h,Ab,Ak,D9]
theorem tstF{m:ME}{ρ:Rho}{st s1:Sto}(h:m ρ st=some (.bl false,s1)):mTst m ρ st=some (false,s1):=by simp only[zaX,h,Ab]
theorem ne_i(a:Int)(st:Sto):neD (.int a) (.int a) st=some (.bl false,st):=by
 unfold neD;rw[toP];simp[AU]
theorem zoh{x y:Str}{st:Sto}(hx:AJ x=true)(hy:AJ y=true)(h:x≠y):neD (.str x) (.str y) st=some (.bl true,st):=by
 unfold neD;rw[zeh (n:=99) hx,zeh (n:=99) hy];simp[AU,h]
theorem zo2{ds:List D}{ρ:Rho}{st:Sto}{i:Nat}(h:ρ[i]?=some (some (.tup ds))):mIsi "tuple" (mVar i) ρ st=some (.bl true,st):=by
 have t1:tyName st (.tup ds)=some "tuple":=rfl;simp[h,t1,sub_tt]
theorem zgJ{x y:D}{a b:Option D}{s:Sto}:gTp 2 (gC (gNm 0) (gC (gNm 1) gN0)) (.tup [x,y]) [a,b] s=some ([some x,some y],s):=by simp
theorem zkG{S:List Spr}{H SD:D}{st:Sto}{ρ:Rho}(h0:ρ[0]?=some (some H))(hS:SD=.tup (S.map siD))(i1:ixA H (.int 1) st=some (SD,st))(hl:S.length<=60) :
   zdI (mWA (mBin ixA (mVar 0) (mCon (.int 1)))) 2 [] (gTp 2 (gC (gNm 0) (gC (gNm 1) gN0))) zc4 zba ρ st=some (.ref st.length,st++[.lst ((S.map (·.1)).map D.str)]):=by
 have hw:mWA (mBin ixA (mVar 0) (mCon (.int 1))) ρ st=some (⟨S.map siD,[]⟩,st):=by
   rw[zg5];simp only[za1,zaP,za0,h0,Ab,i1,hS];rfl
 have e:=zjl (W:=⟨S.map siD,[]⟩) (g:=gTp 2 (gC (gNm 0) (gC (gNm 1) gN0))) (c:=zc4) (m:=zba) (f:=siD) (h:=fun p=>D.str p.1) (R:=fun r=>∃ a b,r=[a,b]) (as:=S) (ρ:=[none,none]) (st:=st) ⟨_,_,rfl⟩ rfl (fun p hp r hr=>by
   obtain⟨a,b,rfl⟩:=hr;refine⟨[some (.str p.1),some (.int p.2)],zgJ,rfl,?_,⟨_,_,rfl⟩⟩;unfold zba
   rfl)
 have fl:fits (S.map fun p=>D.str p.1).length=true:=zaz (by rw[Af];omega);rw[zaI,hw];simp only[Ab];rw[show rho0 ρ 2 []=[none,none] from rfl,e];simp only[Ab,fl,if_true,Cb];rfl
theorem zkX{S:List Spr}{K:List (List Str)}{st:Sto}(h:HsI S K):∃ st',za5 [hD S K] st=some (.bl true,st')/\Gr st st':=by
 have l60:=h.l60;have hkl:=h.kl;have okn:∀ x∈S.map (·.1),AJ x=true:=fun x hx=>by
   obtain⟨p,hp,rfl⟩:=List.mem_map.mp hx;exact h.ok p hp
 have i0:∀ s:Sto,ixA (hD S K) (.int 0) s=some (.int 2,s):=fun s=>zcr (by decide) rfl;have i1:∀ s:Sto,ixA (hD S K) (.int 1) s=some (.tup (S.map siD),s):=fun s=>zcr (by decide) rfl;have i2:∀ s:Sto,ixA (hD S K) (.int 2) s=some (.tup (K.map zb7),s):=fun s=>zcr (by decide) rfl;have el:∀ s:Sto,lenD [hD S K] s=some (.int 3,s):=fun s=>rfl;have ei:∀ (i:Nat) (s:Sto) (ρ:Rho),ρ[i]?=some (some (hD S K))->mIsi "tuple" (mVar i) ρ s=some (.bl true,s):=fun i s ρ hr=>zo2 hr;obtain⟨s1,e1,g1⟩:=zeL (ds:=S.map fun p=>[D.str p.1,.int p.2]) (n:=2) (st:=st) (fun d hd=>by obtain⟨p,_,rfl⟩:=List.mem_map.mp hd;rfl) (by rw[Af];omega);rw[Cb,show D.tup ∘ (fun p:Spr=>[D.str p.1,.int p.2])=siD from rfl] at e1;obtain⟨s2,e2,g2⟩:=zeL (ds:=K.map fun k=>k.map D.str) (n:=5) (st:=s1) (fun d hd=>by
   obtain⟨k,hk,rfl⟩:=List.mem_map.mp hd;obtain⟨f,a,b,c,d,_,_,_,_⟩:=h.kd k hk
   rfl) (by rw[Af];omega)
 rw[Cb,show D.tup ∘ (fun k:List Str=>k.map D.str)=zb7 from rfl] at e2;have e3:eqD (.tup (K.map zb7)) (.tup []) s2=some (.bl false,s2):=eq_nil (fun k hk x hx=>by
   obtain⟨f,a,b,c,d,_,_,h3,_⟩:=h.kd k hk;exact h3 x hx) h.k0
 generalize hH:hD S K=H at *;have e4:=zkG (S:=S) (H:=H) (st:=s2) (ρ:=[some H,some (.str LET),none,none]) rfl rfl (i1 s2) l60;have b4:=zbC s2 (.lst ((S.map (·.1)).map D.str));have g4:=Gr.app s2 [.lst ((S.map (·.1)).map D.str)];generalize s2++[O.lst ((S.map (·.1)).map D.str)]=s4 at e4 b4 g4;have hw5:mWA (mVar 2) [some H,some (.str LET),some (.ref s2.length),none] s4=some (⟨(S.map (·.1)).map D.str,[(s2.length,(S.map (·.1)).map D.str)]⟩,s4):=by
   rw[zg5];simp[zjZ,seqD,b4,zcc,zcj]
 obtain⟨s5,e5,g5⟩:=zm4 (fr:=[1]) (nt:=1) (g:=gNm 0) (m:=zbF) (R:=fun r=>∃ y,r=[y,some (.str LET)]) hw5 (fun s gs=>zdS ((gs.old _ (getElem?_lt b4)).trans b4)) rfl ⟨_,rfl⟩ (by rw[Af];omega) (fun x hx r s hr gs=>by
   obtain⟨y,rfl⟩:=hr;obtain⟨p,hp,rfl⟩:=List.mem_map.mp hx;have hlen:=h.len p hp;obtain⟨s6,e6,g6⟩:=zjr (x:=p.1) (z:=LET) (n:=8) (st:=s) (h.let_ p hp) (by omega) (by omega);have e7:=zoh (x:=p.1) (y:="") (st:=s6) (h.ok p hp) (by decide +kernel) (h.ne p hp);refine⟨[some (.str p.1),some (.str LET)],s6,rfl,?_,g6,⟨_,rfl⟩⟩;unfold zbF;have c1:zar zbs (zad (mVar 0) (zad (mVar 1) (zad (mCon (.int 8)) mNil))) [some (.str p.1),some (.str LET)] s=some (.bl true,s6):=by simp[e6]
   have c2:mBin neD (mVar 0) (mCon (.str "")) [some (.str p.1),some (.str LET)] s6=some (.bl true,s6):=by simp[e7]
   simp only[zaA,zaX,c1,Ab,if_true,c2])
 have b5:=(g5.old _ (getElem?_lt b4)).trans b4;have e6:=zlF (m:=mVar 2) (ρ:=[some H,some (.str LET),some (.ref s2.length),none]) rfl b5 (by rw[Af];omega) h.lo h.hi;rw[h.srt] at e6;have b6:=zbC s5 (.lst ((S.map (·.1)).map D.str));have b6':(s5++[O.lst ((S.map (·.1)).map D.str)])[s2.length]?=some (.lst ((S.map (·.1)).map D.str)):=by rw[Al (getElem?_lt b5)];exact b5
 have g6:=Gr.app s5 [.lst ((S.map (·.1)).map D.str)];generalize s5++[O.lst ((S.map (·.1)).map D.str)]=s6 at e6 b6 b6' g6;have e7:=zmw b6' b6 okn;have hw8:mWA (mBin ixA (mVar 0) (mCon (.int 1))) [some H,some (.str LET),some (.ref s2.length),none] s6=some (⟨S.map siD,[]⟩,s6):=by
   rw[zg5];simp only[za1,zaP,za0,AF,Ab,i1];rfl
 obtain⟨s8,e8,g8⟩:=zm4 (fr:=[]) (nt:=2) (g:=gTp 2 (gC (gNm 0) (gC (gNm 1) gN0))) (m:=zbE) (R:=fun r=>∃ a b,r=[a,b]) hw8 (fun _ _=>rfl) rfl ⟨_,_,rfl⟩ (by omega) (fun p hp r s hr gs=>by
   obtain⟨a,b,rfl⟩:=hr;have hv:=h.val p hp;refine⟨[some (.str p.1),some (.int p.2)],s,zgJ,?_,Gr.refl s,⟨_,_,rfl⟩⟩;unfold zbE;simp[zkE (st:=s) hv.1 hv.2])
 have b8:=(g8.old _ (getElem?_lt b6')).trans b6';have key:=zc5 (W:=⟨K.map zb7,[]⟩) (g:=gNm 3) (m:=za9) (ds:=K.map zb7) (ρ:=[some H,some (.str LET),some (.ref s2.length),none]) (st:=s8)
   (Inv:=fun j ρ s=>(∃ y,ρ=[some H,some (.str LET),some (.ref s2.length),y])/\Gr s8 s) ⟨⟨_,rfl⟩,Gr.refl _⟩ (fun _ _ _ _ _=>rfl) (fun j d ρ s hd hI=>by
   obtain⟨⟨y,rfl⟩,gs⟩:=hI;rw[Ay] at hd;obtain⟨k,hk,rfl⟩:=zai hd;obtain⟨s',e',g'⟩:=zmE (T:=H) (L:=H) (n:=s2.length) (st:=s) (h.kd k (AV hk)) ((gs.old _ (getElem?_lt b8)).trans b8) okn (by rw[Af];omega);exact⟨_,s,_,s',rfl,e',⟨_,rfl⟩,gs.trans g'⟩)
 obtain⟨ρ',s9,e9,⟨y,rfl⟩,g9⟩:=key;refine⟨s9,zdc ?_,(g1.trans (g2.trans g4)).trans ((g5.trans g6).trans (g8.trans g9))⟩;have n22:zao [.int 2,.int 2,.int 2] st=some (.bl true,st):=zkE (by decide) (by decide);unfold zcv;show mSeq _ _ [some H,none,none,none] st=_;refine zas (ρ1:=[some H,some (.str LET),none,none]) (s1:=st) rfl ?_;refine zas (ρ1:=[some H,some (.str LET),none,none]) (s1:=st) (ze1 (orF (notT (ei 0 st _ rfl)) (orF (tstF (s1:=st) (by simp[el,ne_i])) (notT (s1:=st) (by simp[i0,n22]))))) ?_;refine zas (ρ1:=[some H,some (.str LET),none,none]) (s1:=s2) (ze1 (orF (notT (s1:=s1) ?_) (orF (notT (s1:=s2) ?_) (tstF (s1:=s2) ?_)))) ?_
 . have e1':zav [.tup (S.map siD),.int 2] st=some (.bl true,s1):=e1;simp[i1,e1']
 . have e2':zav [.tup (K.map zb7),.int 5] s1=some (.bl true,s2):=e2;simp[i2,e2']
 . simp[i2,e3]
 refine zas (ρ1:=[some H,some (.str LET),some (.ref s2.length),none]) (s1:=s4) (by rw[za2,e4];rfl) ?_;refine zas (ρ1:=[some H,some (.str LET),some (.ref s2.length),none]) (s1:=s6) (ze1 (orF (notT (s1:=s5) e5) (tstF (s1:=s6) ?_))) ?_
 . simp only[za1,e6,Ab,zaP,AF,A3];exact e7
 refine zas (ρ1:=[some H,some (.str LET),some (.ref s2.length),none]) (s1:=s8) (ze1 (notT e8)) ?_;refine zas (ρ1:=[some H,some (.str LET),some (.ref s2.length),y]) (s1:=s9) ?_ (by simp);rw[zaZ,zg5];simp only[za1,zaP,za0,AF,Ab,i2];exact e9
theorem zhT{ss:List Str}(nd:ss.Nodup):∀ i,i<=ss.length->met (fun i=>ss.getD i DM) i=ss.take i
 | 0,_=>rfl
 | i+1,h=>by
   have hi:i < ss.length:=h;have e:ss.getD i DM=ss[i]:=by rw[Ax,Aj hi];rfl
   have hn:ss[i] ∉ ss.take i:=fun hm=>by
     obtain⟨j,hj,e⟩:=List.mem_iff_getElem.mp hm;rw[Cd] at hj;rw[List.getElem_take] at e;have:=(EF nd).mp e;omega
   rw[met,zhT nd i (by omega)];rw[e,if_neg hn,take_one (Aj hi)]
theorem zmq{ss:List Str}(nd:ss.Nodup):once ss=ss:=by
 unfold once;rw[zhT nd _ (Ae _),List.take_length]
theorem zlH{ss:List Str}(h:ss.Pairwise fun a b=>sle a b=true):zek ss=ss:=zb5 (le:=fun a b=>sle a b=true) (Cm ss sle) (Bw zex zgn ss) h fun _ _ _ _=>zhp
noncomputable def nmq(q:Nat×Nat):Str:=nm q.1 q.2
theorem zlq:∀ c∈[99,108,115,119],∀ k < 12,(∀ x∈(nm c k).cps.toList,x∈LET.cps.toList)/\(nm c k).cps.toList.length<=8/\nm c k≠""/\AJ (nm c k)=true/\1<=vv c/\vv c<=4:=by decide +kernel
theorem zf1(a b k:Nat):(SSk a b k).map (·.1)=(IX a b k).map nmq:=by rw[Cb];rfl
theorem zkF(a b k:Nat):((IX a b k).map nmq).Nodup:=by
 unfold List.Nodup;rw[B8];exact (zkT a b k).imp fun h=>zon h
theorem ziF{a b k:Nat}(ha:a<=12)(hb:b<=12)(hk:k<=12):((IX a b k).map nmq).Pairwise fun x y=>sle x y=true:=by
 rw[B8];have sm:=zov ha hb hk;exact (zkT a b k).imp_of_mem fun hp hq h=>(zo1 (sm _ hp) (sm _ hq) h).2
theorem zkU(a b k:Nat):(IX a b k).length=1+a+b+k:=by simp[IX,zjP];omega
theorem zje{c n j:Nat}(h:j < n):(c,j)∈fam c n:=List.mem_map.mpr ⟨j,List.mem_range.mpr h,rfl⟩
theorem c_in{a b k:Nat}:cN∈(IX a b k).map nmq:=List.mem_map.mpr ⟨(99,0),AO _ (AO _ (AO _ (zje (by decide)))),rfl⟩
theorem l_in{a b k j:Nat}(h:j < a):lN j∈(IX a b k).map nmq:=List.mem_map.mpr ⟨(108,j),AO _ (AO _ (AG _ (zje h))),rfl⟩
theorem s_in{a b k j:Nat}(h:j < b):sN j∈(IX a b k).map nmq:=List.mem_map.mpr ⟨(115,j),AO _ (AG _ (zje h)),rfl⟩
theorem w_in{a b k j:Nat}(h:j < k):wN j∈(IX a b k).map nmq:=List.mem_map.mpr ⟨(119,j),AG _ (zje h),rfl⟩
theorem zmS:∀ c∈zf9.cps.toList,c∈FAC.cps.toList/\AJ ⟨#[c]⟩=true:=by decide +kernel
theorem zni{ns:List Str}{f a b c d:Str}(hf:f=""\/∃ x,x∈zf9.cps.toList/\f=⟨#[x]⟩)(ok:∀ x∈ns,AJ x=true)(h:∀ x∈[a,b,c,d],x∈ns++[("":Str)]):KdI ns [f,a,b,c,d]:=by
 have e0:AJ ("":Str)=true:=by decide +kernel
 refine⟨f,a,b,c,d,?_,?_,?_,h⟩
 . rcases hf with rfl | ⟨x,hx,rfl⟩
   . intro x hx;exact absurd hx (by decide +revert)
   . intro y hy;have:y=x:=by simpa using hy
     rw[this];exact (zmS x hx).1
 . rcases hf with rfl | ⟨x,hx,rfl⟩
   . decide
   . show 1<=1;omega
 . intro x hx
   rcases List.mem_cons.mp hx with hx | hx
   . rw[hx]
     rcases hf with rfl | ⟨y,hy,rfl⟩
     . exact e0
     . exact (zmS y hy).2
   . rcases List.mem_append.mp (h x hx) with hm | hm
     . exact ok x hm
     . rw[List.mem_singleton.mp hm];exact e0
theorem in4{ns:List Str}{a b c d:Str}(ha:a∈ns\/a="")(hb:b∈ns\/b="")(hc:c∈ns\/c="")(hd:d∈ns\/d=""):∀ x∈[a,b,c,d],x∈ns++[("":Str)]:=by
 have key:∀ x:Str,(x∈ns\/x="")->x∈ns++[("":Str)]:=fun x hx=>by
   rcases hx with hx | hx
   . exact AO _ hx
   . rw[hx];exact AG _ (by simp)
 intro x hx;simp only[Bb,Ba,or_false] at hx
 rcases hx with rfl | rfl | rfl | rfl
 . exact key _ ha
 . exact key _ hb
 . exact key _ hc
 . exact key _ hd
theorem zo3{z w:Str}{T:Tab}(h:WkOk z w T):HsI (SSk z.cps.toList.length T.length (w.cps.toList.length+1)) (KW z w T):=by
 have z1:=h.z1;have z10:=h.z10;have t4:=h.t4;have w6:=h.w6;have w1:=h.w1;have t1:=h.tab.lo;have hrow:∀ r∈T,r.length=z.cps.toList.length:=fun r hr=>(h.tab.row r hr).1;have hmul:T.length*z.cps.toList.length<=40:=Fg t4 z10;have sm:=zov (a:=z.cps.toList.length) (b:=T.length) (k:=w.cps.toList.length+1) (by omega) (by omega) (by omega);have al:∀ p∈SSk z.cps.toList.length T.length (w.cps.toList.length+1),∃ q,SmI q/\p=it q:=fun p hp=>by
   obtain⟨q,hq,rfl⟩:=List.mem_map.mp hp;exact⟨q,sm q hq,rfl⟩
 have ok:∀ x∈(IX z.cps.toList.length T.length (w.cps.toList.length+1)).map nmq,AJ x=true:=fun x hx=>by
   obtain⟨q,hq,rfl⟩:=List.mem_map.mp hx;exact (zlq q.1 (sm q hq).1 q.2 (sm q hq).2).2.2.2.1
 have fz:∀ j,j < z.cps.toList.length->chrZ z j∈zf9.cps.toList:=fun j hj=>h.fac _ (AV (zla hj));have on:once ((SSk z.cps.toList.length T.length (w.cps.toList.length+1)).map (·.1))=(IX z.cps.toList.length T.length (w.cps.toList.length+1)).map nmq:=by rw[zf1];exact zmq (zkF _ _ _)
 refine⟨fun p hp=>?_,fun p hp=>?_,fun p hp=>?_,fun p hp=>?_,fun p hp=>?_,?_,?_,?_,?_,fun k hk=>?_,?_,?_⟩
 . obtain⟨q,hq,rfl⟩:=al p hp;exact (zlq q.1 hq.1 q.2 hq.2).1
 . obtain⟨q,hq,rfl⟩:=al p hp;exact (zlq q.1 hq.1 q.2 hq.2).2.1
 . obtain⟨q,hq,rfl⟩:=al p hp;exact (zlq q.1 hq.1 q.2 hq.2).2.2.1
 . obtain⟨q,hq,rfl⟩:=al p hp;exact (zlq q.1 hq.1 q.2 hq.2).2.2.2.1
 . obtain⟨q,hq,rfl⟩:=al p hp;exact (zlq q.1 hq.1 q.2 hq.2).2.2.2.2
 . rw[on,zf1];exact zlH (ziF (by omega) (by omega) (by omega))
 . rw[on,Af,zkU];omega
 . rw[on,Af,zkU];omega
 . rw[Af,zkU];omega
 . rw[zf1];unfold KW at hk
   rcases List.mem_append.mp hk with hk | hk
   . rcases List.mem_append.mp hk with hk | hk
     . obtain⟨j,hj,rfl⟩:=List.mem_map.mp hk;have hj:=List.mem_range.mp hj;have hc:chrZ w j∈z.cps.toList:=h.sub _ (AV (zla hj));exact zni (.inr ⟨_,h.fac _ hc,rfl⟩) ok (in4 (.inl (l_in (getElem?_lt (zks hc).2))) (.inl (w_in (by omega))) (.inr rfl) (.inl (w_in (by omega))))
     . unfold cK at hk;simp only[Bb,Ba,or_false] at hk
       rcases hk with rfl | rfl
       . exact zni (.inl rfl) ok (in4 (.inl c_in) (.inr rfl) (.inr rfl) (.inl (w_in (by omega))))
       . exact zni (.inl rfl) ok (in4 (.inl c_in) (.inr rfl) (.inl c_in) (.inl (s_in (by omega))))
   . unfold TK at hk;obtain⟨⟨r,s⟩,hr,hk⟩:=List.mem_flatMap.mp hk;obtain⟨⟨⟨x,y⟩,i⟩,hp,rfl⟩:=List.mem_map.mp hk;have m1:=DO hr;have m2:=DO hp;simp only[Nat.zero_add,Nat.sub_zero] at m1 m2;have hs:s < T.length:=m1.2.1;have hrT:r∈T:=by rw[m1.2.2];exact Be _
     obtain⟨r1,r2⟩:=h.tab.row r hrT;have hi:i < r.length:=m2.2.1;have hxr:(x,y)∈r:=by rw[m2.2.2];exact Be _
     obtain⟨hx,hy⟩:=r2 _ hxr;exact zni (.inr ⟨_,fz x hx,rfl⟩) ok (in4 (.inl (l_in hx)) (.inl (s_in hs)) (.inl (l_in (by omega))) (.inl (s_in hy)))
 . unfold KW cK;simp
 . rw[zlm hrow];omega
theorem zms{x lo hi:ME}{a b c:Int}{ρ:Rho}{st:Sto}(e1:x ρ st=some (.int a,st))(e2:lo ρ st=some (.int b,st))(e3:hi ρ st=some (.int c,st))(h1:b<=a)(h2:a<=c):zar zao (zad x (zad lo (zad hi mNil))) ρ st=some (.bl true,st):=by
 have:=zkE (st:=st) h1 h2;simp[e1,e2,e3,this]
theorem zlf{H:D}{KD:List D}{k r M:Int}{st s1:Sto}(k0:0<=k)(r0:0<=r)(hh:za5 [H] st=some (.bl true,s1))(g1:Gr st s1)(i2:∀ s:Sto,ixA H (.int 2) s=some (.tup KD,s))(hk:k < KD.length)(hM:(KD.length:Int)<=M) :
   ∃ st',zaR [bD H k r,.int (k+1),.int (r+1),.int M] st=some (.bl true,st')/\Gr st st':=by
 have b0:∀ s:Sto,ixA (bD H k r) (.int 0) s=some (H,s):=fun s=>zcr (by decide) rfl;have b1:∀ s:Sto,ixA (bD H k r) (.int 1) s=some (.tup [.int (k+1),.int (r+1)],s):=fun s=>zcr (by decide) rfl;have b2:∀ s:Sto,ixA (bD H k r) (.int 2) s=some (.tup [.tup [.int k,.int 0,.int k]],s):=fun s=>zcr (by decide) rfl;have c0:∀ s:Sto,ixA (.tup [.int (k+1),.int (r+1)]) (.int 0) s=some (.int (k+1),s):=fun s=>zcr (by decide) rfl;have c1:∀ s:Sto,ixA (.tup [.int (k+1),.int (r+1)]) (.int 1) s=some (.int (r+1),s):=fun s=>zcr (by decide) rfl;have d0:∀ s:Sto,ixA (.tup [.tup [.int k,.int 0,.int k]]) (.int 0) s=some (.tup [.int k,.int 0,.int k],s):=fun s=>zcr (by decide) rfl;have el:∀ s:Sto,lenD [bD H k r] s=some (.int 3,s):=fun s=>rfl;have el1:∀ s:Sto,lenD [.tup [.tup [.int k,.int 0,.int k]]] s=some (.int 1,s):=fun s=>rfl;have elk:∀ s:Sto,lenD [.tup KD] s=some (.int KD.length,s):=fun s=>rfl;have ei:∀ (s:Sto) (ρ:Rho),ρ[0]?=some (some (bD H k r))->mIsi "tuple" (mVar 0) ρ s=some (.bl true,s):=fun s ρ hr=>zo2 hr;obtain⟨s2,e2,g2⟩:=zeL (ds:=[[D.int (k+1),.int (r+1)]]) (n:=2) (st:=s1) (by simp) (by simp);obtain⟨s3,e3,g3⟩:=zeL (ds:=[[D.int k,.int 0,.int k]]) (n:=3) (st:=s2) (by simp) (by simp);have e2':zav [.tup [.tup [.int (k+1),.int (r+1)]],.int 2] s1=some (.bl true,s2):=e2;have e3':zav [.tup [.tup [.int k,.int 0,.int k]],.int 3] s2=some (.bl true,s3):=e3;generalize hB:bD H k r=B at *;refine⟨s3,zdc ?_,g1.trans (g2.trans g3)⟩;unfold zdb;show mSeq _ _ [some B,some (.int (k+1)),some (.int (r+1)),some (.int M),none,none,none] st=_;refine zas (ρ1:=[some B,some (.int (k+1)),some (.int (r+1)),some (.int M),none,none,none]) (s1:=s1) (ze1 (orF (notT (ei st _ rfl)) (orF (tstF (s1:=st) (by simp[el,ne_i])) (notT (s1:=s1) (by simp[b0,hh]))))) ?_;refine zas (ρ1:=[some B,some (.int (k+1)),some (.int (r+1)),some (.int M),none,none,none]) (s1:=s3) (ze1 (orF (notT (s1:=s2) (by simp[b1,e2'])) (orF (notT (s1:=s3) (by simp[b2,e3'])) (tstF (s1:=s3) (by simp[b2,el1,ne_i]))))) ?_;refine zas (ρ1:=[some B,some (.int (k+1)),some (.int (r+1)),some (.int M),none,none,none]) (s1:=s3) (ze1 (orF (notT (s1:=s3) (zms (a:=k+1) (b:=k+1) (c:=k+1) (by simp[b1,c0]) (by simp) (by simp) (by omega) (by omega))) (notT (s1:=s3) (zms (a:=r+1) (b:=r+1) (c:=r+1) (by simp[b1,c1]) (by simp) (by simp) (by omega) (by omega))))) ?_;refine zas (ρ1:=[some B,some (.int (k+1)),some (.int (r+1)),some (.int M),some (.int k),some (.int 0),some (.int k)]) (s1:=s3) (by simp[b2,d0]) ?_;refine zas (ρ1:=[some B,some (.int (k+1)),some (.int (r+1)),some (.int M),some (.int k),some (.int 0),some (.int k)]) (s1:=s3) (ze1 (orF (notT (s1:=s3) (zms (a:=k) (b:=0) (c:=k+1 - 1) (by simp) (by simp) (by simp) (by omega) (by omega))) (notT (s1:=s3) (zms (a:=0) (b:=0) (c:=r+1 - 1) (by simp) (by simp) (by simp) (by omega) (by omega))))) ?_;rw[za3,zaA,zaX,zms (a:=k) (b:=0) (c:=(KD.length:Int) - 1) (by simp) (by simp) (by simp[b0,i2,elk]) (by omega) (by omega)];simp[b0,i2,elk,hM]
end L2.MP.stickytiles_k49_walked_beds_formed
namespace L2.MP.stickytiles_k49_walked_beds_formed
open PySem L2.MP L2.MP.Hb
open L2.MP.Hn
open L2.MP.Hd (ziX zjS)
theorem zkt{ns k:List Str}(h:KdI ns k):plain 8 (zb7 k):=by
 obtain⟨f,a,b,c,d,_,_,h3,_⟩:=h;refine⟨by simp,fun x hx=>?_⟩;obtain⟨y,hy,rfl⟩:=List.mem_map.mp hx;exact h3 y hy
theorem ziQ{S:List Spr}{K:List (List Str)}{k r:Int}(h:HsI S K):plain 11 (bD (hD S K) k r):=by
 have l60:=h.l60;have kl:=h.kl;have hH:plain 10 (hD S K):=by
   refine⟨by simp,fun x hx=>?_⟩;simp only[Bb,Ba,or_false] at hx
   rcases hx with rfl | rfl | rfl
   . trivial
   . refine⟨by rw[Af];omega,fun d hd=>?_⟩;obtain⟨p,hp,rfl⟩:=List.mem_map.mp hd;refine⟨by simp,fun x hx=>?_⟩;simp only[Bb,Ba,or_false] at hx
     rcases hx with rfl | rfl
     . exact h.ok p hp
     . trivial
   . refine⟨by rw[Af];omega,fun d hd=>?_⟩;obtain⟨k,hk,rfl⟩:=List.mem_map.mp hd;exact zkt (h.kd k hk)
 refine⟨by simp,fun x hx=>?_⟩;simp only[Bb,Ba,or_false] at hx
 rcases hx with rfl | rfl | rfl
 . exact hH
 . refine⟨by simp,fun x hx=>?_⟩;simp only[Bb,Ba,or_false] at hx
   rcases hx with rfl | rfl <;> trivial
 . refine⟨by simp,fun x hx=>?_⟩;simp only[Bb,Ba,or_false] at hx;subst hx;refine⟨by simp,fun x hx=>?_⟩;simp only[Bb,Ba,or_false] at hx
   rcases hx with rfl | rfl | rfl <;> trivial
noncomputable abbrev FIG:Str:="0123456789abcdefghijklmnopqrstuvwxyz"
noncomputable def fgs(b:Nat):Str:=Ek FIG none (some (b:Int))
noncomputable def figc(k:Nat):Nat:=FIG.cps.getD k 0
noncomputable def adP(b i:Nat):Nat×Nat:=((i+1) % b,if i=b - 1 then 0 else 1)
noncomputable def kpP(i:Nat):Nat×Nat:=(i,1)
noncomputable def CT(b:Nat):Tab:=[(Au b).map (adP b),(Au b).map kpP]
theorem zk1:∀ b < 11,2<=b->(fgs b).cps.toList.length=b/\(∀ c∈(fgs b).cps.toList,c∈zf9.cps.toList)/\∀ k < b,figc k∈(fgs b).cps.toList:=by decide +kernel
theorem zpR:∀ b < 11,2<=b->∀ r∈CT b,r.length=b/\∀ p∈r,p.1 < b/\p.2 < 2:=by decide +kernel
theorem zoH:∀ k < 36,FIG.cps[k]?=some (figc k):=by decide +kernel
theorem znA{b:Nat}{st:Sto}:slC (.str FIG) none (some (b:Int)) st=some (.str (fgs b),st):=rfl
theorem zlw{x y:ME}{a b:Int}{ρ:Rho}{st:Sto}(e1:x ρ st=some (.int a,st))(e2:y ρ st=some (.int b,st)):mTup (zad x (zad y mNil)) ρ st=some (.tup [.int a,.int b],st):=by simp[e1,e2]
theorem zoS{i b m:Int}{t:Int}{st:Sto}(e1:modD (.int (i+1)) (.int b) st=some (.int m,st))(e2:eqD (.int i) (.int (b - 1)) st=some (.bl (decide (t=0)),st))(ht:t=0\/t=1):zcb [some (.int i),some (.int b)] st=some (.tup [.int m,.int t],st):=by
 unfold zcb;refine zlw (by simp[e1]) ?_;rw[zoQ]
 rcases ht with rfl | rfl <;> simp[e2]
theorem zfG{b:Nat}{st:Sto}(h2:2<=b)(h10:b < 11):∃ st',zbG [.int (b:Int)] st=some (wkD (fgs b) (CT b),st')/\Gr st st':=by
 have er:run 0 b=(Au b).map fun (i:Nat)=>D.int (0+(i:Int)):=rfl;have hfl:∀ f:Nat->D,fits ((Au b).map f).length=true:=fun f=>zaz (by simp;omega);have c1:=zjl (W:=⟨run 0 b,[]⟩) (g:=gNm 0) (c:=zc4) (m:=zcb) (f:=fun (i:Nat)=>D.int (0+(i:Int))) (h:=fun i=>pD (adP b i)) (R:=fun r=>∃ x,r=[x,some (.int (b:Int))]) (as:=Au b) (ρ:=[none,some (.int (b:Int))]) (st:=st) ⟨_,rfl⟩ rfl (fun i hi r hr=>by
   obtain⟨x,rfl⟩:=hr;have hi:=List.mem_range.mp hi;refine⟨[some (.int (0+(i:Int))),some (.int (b:Int))],rfl,rfl,?_,⟨_,rfl⟩⟩;rw[Eo];refine zoS (t:=((if i=b - 1 then 0 else 1:Nat):Int)) ?_ ?_ ?_
   . rw[ziX (by omega)];have:((i:Int)+1) % (b:Int)=(((i+1) % b:Nat):Int):=by rw[Int.natCast_emod];rfl
     rw[this];rfl
   . rw[eq_int]
     by_cases hb:i=b - 1
     . have:(i:Int)=(b:Int) - 1:=by omega
       simp[hb,this];omega
     . have:¬ (i:Int)=(b:Int) - 1:=by omega
       simp[hb,this]
   . split
     . exact .inl rfl
     . exact .inr rfl)
 have b1:=zbC st (.lst ((Au b).map fun i=>pD (adP b i)));have g1:=Gr.app st [.lst ((Au b).map fun i=>pD (adP b i))];have m1:zdI (mR1 (mVar 0)) 1 [0] (gNm 0) zc4 zcb [some (.int (b:Int)),none,none] st=some (.ref st.length,st++[.lst ((Au b).map fun i=>pD (adP b i))]):=by
   rw[zaI,zkm (k:=b) rfl (by omega)];simp only[Ab];rw[show rho0 [some (.int (b:Int)),none,none] 1 [0]=[none,some (.int (b:Int))] from rfl,er];rw[er] at c1;rw[c1];simp only[Ab,hfl,if_true]
 generalize hs1:st++[O.lst ((Au b).map fun i=>pD (adP b i))]=s1 at b1 g1 m1;have c2:=zjl (W:=⟨run 0 b,[]⟩) (g:=gNm 0) (c:=zc4) (m:=zdm) (f:=fun (i:Nat)=>D.int (0+(i:Int))) (h:=fun i=>pD (kpP i)) (R:=fun r=>∃ x,r=[x]) (as:=Au b) (ρ:=[none]) (st:=s1) ⟨_,rfl⟩ rfl (fun i hi r hr=>by
   obtain⟨x,rfl⟩:=hr;refine⟨[some (.int (0+(i:Int)))],rfl,rfl,?_,⟨_,rfl⟩⟩;rw[Eo];exact zlw rfl rfl)
 have b2:=zbC s1 (.lst ((Au b).map fun i=>pD (kpP i)));have g2:=Gr.app s1 [.lst ((Au b).map fun i=>pD (kpP i))];have m2:zdI (mR1 (mVar 0)) 1 [] (gNm 0) zc4 zdm [some (.int (b:Int)),some (.ref st.length),none] s1=some (.ref s1.length,s1++[.lst ((Au b).map fun i=>pD (kpP i))]):=by
   rw[zaI,zkm (k:=b) rfl (by omega)];simp only[Ab];rw[show rho0 [some (.int (b:Int)),some (.ref st.length),none] 1 []=[none] from rfl,er];rw[er] at c2;rw[c2];simp only[Ab,hfl,if_true]
 have b1':(s1++[O.lst ((Au b).map fun i=>pD (kpP i))])[st.length]?=some (.lst ((Au b).map fun i=>pD (adP b i))):=by rw[Al (getElem?_lt b1)];exact b1
 generalize s1++[O.lst ((Au b).map fun i=>pD (kpP i))]=s2 at b2 g2 m2 b1';refine⟨s2,zdc ?_,g1.trans g2⟩;have t1:=zdK b1';have t2:=zdK b2;have ew:wkD (fgs b) (CT b)=.tup [.str (fgs b),.tup [.tup ((Au b).map fun i=>pD (adP b i)),.tup ((Au b).map fun i=>pD (kpP i))]]:=by
   unfold wkD CT;simp[rowD]
 rw[ew];have sf:=znA (b:=b) (st:=s2);generalize (Au b).map (fun i=>pD (adP b i))=A1 at *;generalize (Au b).map (fun i=>pD (kpP i))=A2 at *;generalize fgs b=F at *;unfold zgK;refine zas (ρ1:=[some (.int (b:Int)),some (.ref st.length),none]) (s1:=s1) (by show mAsg _ _ [some (.int (b:Int)),none,none] st=_;rw[za2,m1];rfl) ?_;refine zas (ρ1:=[some (.int (b:Int)),some (.ref st.length),some (.ref s1.length)]) (s1:=s2) (by rw[za2,m2];rfl) ?_;have m3:mSlC (mCon (.str "0123456789abcdefghijklmnopqrstuvwxyz")) zhM (zhL (mVar 0)) [some (.int (b:Int)),some (.ref st.length),some (.ref s1.length)] s2=some (.str F,s2):=sf;simp[m3,t1,t2]
theorem zg9{b:Nat}{w:Str}(h2:2<=b)(h10:b < 11)(w1:1<=w.cps.toList.length)(w6:w.cps.toList.length<=6)(hs:∀ c∈w.cps.toList,c∈(fgs b).cps.toList):WkOk (fgs b) w (CT b):=by
 obtain⟨f1,f2,_⟩:=zk1 b h10 h2;refine⟨by omega,by omega,by simp[CT],w1,w6,⟨by simp[CT],by simp[CT],fun r hr=>?_⟩,hs,f2⟩;rw[f1];exact zpR b h10 h2 r hr
theorem zlk{a b:Str}{st:Sto}(h:a.length+b.length<=10000):addE (.str a) (.str b) st=some (.str (a++b),st):=by
 unfold addE orG;rw[add_str h,zcj]
theorem zoG{B W:D}{N k m:Int}{c:Nat}{w w':Str}{x:Option D}{st:Sto}(e1:modD (.int N) B st=some (.int k,st))(e2:ixA (.str FIG) (.int k) st=some (sgD c,st))(e3:addE (sgD c) (.str w) st=some (.str w',st))(e4:ze2 (.int N) B st=some (.int m,st)) :
   zbQ [some B,some W,some (.int N),some (.str w),x] st=some (.nx [some B,some W,some (.int m),some (.str w'),x],st):=by
 have e2':ixA (.str "0123456789abcdefghijklmnopqrstuvwxyz") (.int k) st=some (sgD c,st):=e2;unfold zbQ;refine zas (ρ1:=[some B,some W,some (.int N),some (.str w'),x]) (s1:=st) (by simp[e1,e2',e3]) (by simp[e4])
noncomputable def fgo(b:Nat)(N:Int):Nat->Int×Str
 | 0=>(N,"")
 | j+1=>((fgo b N j).1 / (b:Int),⟨#[figc ((fgo b N j).1 % (b:Int)).toNat]⟩++(fgo b N j).2)
theorem zmt{c:Nat}(h:c∈("":Str).cps.toList):False:=by
 have e:("":Str).cps.toList=[]:=by decide +kernel
 rw[e] at h;cases h
theorem zjd{b:Nat}{N:Int}(h2:2<=b)(h10:b < 11):∀ j,(fgo b N j).2.cps.toList.length=j/\∀ c∈(fgo b N j).2.cps.toList,c∈(fgs b).cps.toList
 | 0=>⟨by show ("":Str).cps.toList.length=0;decide +kernel,fun c hc=>(zmt hc).elim⟩
 | j+1=>by
   obtain⟨hl,hc⟩:=zjd (N:=N) h2 h10 j;obtain⟨_,_,f3⟩:=zk1 b h10 h2;have m0:0<=(fgo b N j).1 % (b:Int):=B3 _ (by omega);have m1:(fgo b N j).1 % (b:Int) < (b:Int):=BH _ (by omega);unfold fgo;dsimp only;rw[app_list];refine⟨?_,fun c hc'=>?_⟩
   . simp only[AD,hl];show 1+j=j+1;omega
   . rcases List.mem_append.mp hc' with q | q
     . have:c=figc ((fgo b N j).1 % (b:Int)).toNat:=by simpa using q
       rw[this];exact f3 _ (by omega)
     . exact hc c q
theorem zh9{b k:Nat}{N:Int}{st:Sto}(h2:2<=b)(h10:b < 11)(hk:k<=6):zbX [.int (b:Int),.int (k:Int),.int N] st=some (.str (fgo b N k).2,st):=by
 have key:=zc5 (W:=⟨run 0 k,[]⟩) (g:=gNm 4) (m:=zbQ) (ds:=run 0 k) (ρ:=[some (.int (b:Int)),some (.int (k:Int)),some (.int N),some (.str ""),none]) (st:=st)
   (Inv:=fun j ρ s=>(∃ x,ρ=[some (.int (b:Int)),some (.int (k:Int)),some (.int (fgo b N j).1),some (.str (fgo b N j).2),x])/\j<=k/\s=st) ⟨⟨none,rfl⟩,A4 _,rfl⟩ (fun _ _ _ _ _=>rfl) (fun j d ρ s hd hI=>by
   obtain⟨⟨x,rfl⟩,hjk,rfl⟩:=hI;have hj:j < k:=by
     have:=getElem?_lt hd
     rwa [zb6] at this
   obtain⟨hl,_⟩:=zjd (N:=N) h2 h10 j;have m0:0<=(fgo b N j).1 % (b:Int):=B3 _ (by omega);have m1:(fgo b N j).1 % (b:Int) < (b:Int):=BH _ (by omega);refine⟨[some (.int (b:Int)),some (.int (k:Int)),some (.int (fgo b N j).1),some (.str (fgo b N j).2),some d],s,[some (.int (b:Int)),some (.int (k:Int)),some (.int (fgo b N (j+1)).1),some (.str (fgo b N (j+1)).2),some d],s,rfl,?_,⟨_,rfl⟩,by omega,rfl⟩;refine zoG (ziX (by omega)) (zf4 (by decide +kernel) m0 (zoH _ (by omega))) (zlk ?_) (zjS (by omega) (by omega));rw[len_list (fgo b N j).2,hl];show 1+j<=10000
   omega)
 obtain⟨ρ',s',el,⟨x,rfl⟩,_,rfl⟩:=key;rw[zb6] at el;refine zdc ?_;unfold zd5;refine zas (ρ1:=[some (.int (b:Int)),some (.int (k:Int)),some (.int N),some (.str ""),none]) (s1:=s') (by simp) ?_;refine zas (ρ1:=[some (.int (b:Int)),some (.int (k:Int)),some (.int (fgo b N k).1),some (.str (fgo b N k).2),x]) (s1:=s') (zdY (k:=k) (by simp) (by omega) el) (by simp)
theorem zie{B K N R W w X:D}{st s1 s2 s3:Sto}(e1:zbG [B] st=some (W,s1))(e2:zbX [B,K,N] s1=some (w,s2))(e3:zaS [W,w,R] s2=some (X,s3)):zaT [B,K,N,R] st=some (X,s3):=by
 refine zdc ?_;unfold zdC;show mRet _ [some B,some K,some N,some R] st=_;simp[e1,e2,e3]
theorem zlu{b k:Nat}{N:Int}(h2:2<=b)(h10:b < 11)(k1:1<=k)(hk:k<=6):WkOk (fgs b) (fgo b N k).2 (CT b):=by
 obtain⟨hl,hc⟩:=zjd (N:=N) h2 h10 k;exact zg9 h2 h10 (by omega) (by omega) hc
theorem zfH{b k:Nat}{N r:Int}{st:Sto}(h2:2<=b)(h10:b < 11)(k1:1<=k)(hk:k<=6):∃ st',zaT [.int (b:Int),.int (k:Int),.int N,.int r] st=some (WB (fgs b) (fgo b N k).2 (CT b) r,st')/\Gr st st':=by
 obtain⟨s1,e1,g1⟩:=zfG (st:=st) h2 h10;obtain⟨s3,e3,g3⟩:=zlg (r:=r) (st:=s1) (zlu (N:=N) h2 h10 k1 hk);exact⟨s3,zie e1 (zh9 h2 h10 hk) e3,g1.trans g3⟩
theorem zhQ{p q:Nat}{st:Sto}(h:p<=1000000):mulA (.int (p:Int)) (.int (q:Int)) st=some (.int ((p*q:Nat):Int),st):=by
 rw[mul_int (by omega),Cq]
theorem zl8{b j:Nat}(h10:b < 11)(hj:j<=6):b ^ j<=1000000:=by
 have h:=Nat.pow_le_pow_right (n:=10) (by decide) hj;have e:10 ^ 6=1000000:=by decide
 rw[e] at h;exact AI (Nat.pow_le_pow_left (show b<=10 by omega) j) h
theorem ziO{B:Int}{k:Nat}{f:Nat->Int}{st:Sto}(h0:f 0=1)(hk:k<=6)(hs:∀ j < k,∀ s:Sto,mulA (.int (f j)) (.int B) s=some (.int (f (j+1)),s)):zbu [.int B,.int (k:Int)] st=some (.int (f k),st):=by
 have key:=zc5 (W:=⟨run 0 k,[]⟩) (g:=gNm 3) (m:=zb3) (ds:=run 0 k) (ρ:=[some (.int B),some (.int (k:Int)),some (.int 1),none]) (st:=st)
   (Inv:=fun j ρ s=>(∃ x,ρ=[some (.int B),some (.int (k:Int)),some (.int (f j)),x])/\s=st) ⟨⟨none,by rw[h0]⟩,rfl⟩ (fun _ _ _ _ _=>rfl) (fun j d ρ s hd hI=>by
   obtain⟨⟨x,rfl⟩,rfl⟩:=hI;have hj:j < k:=by
     have:=getElem?_lt hd
     rwa [zb6] at this
   have em:=hs j hj s;refine⟨[some (.int B),some (.int (k:Int)),some (.int (f j)),some d],s,[some (.int B),some (.int (k:Int)),some (.int (f (j+1))),some d],s,rfl,?_,⟨_,rfl⟩,rfl⟩;unfold zb3;simp[em])
 obtain⟨ρ',s',el,⟨x,rfl⟩,rfl⟩:=key;rw[zb6] at el;refine zdc ?_;unfold zdz;refine zas (ρ1:=[some (.int B),some (.int (k:Int)),some (.int 1),none]) (s1:=s') (by simp) ?_;refine zas (ρ1:=[some (.int B),some (.int (k:Int)),some (.int (f k)),x]) (s1:=s') (zdY (k:=k) (by simp) (by omega) el) (by simp)
theorem zkr{b k:Nat}{st:Sto}(h10:b < 11)(hk:k<=6):zbu [.int (b:Int),.int (k:Int)] st=some (.int ((b ^ k:Nat):Int),st) :=
 ziO (f:=fun j=>((b ^ j:Nat):Int)) rfl hk fun j hj s=>by
   have em:=zhQ (st:=s) (p:=b ^ j) (q:=b) (zl8 h10 (by omega));rw[<-Nat.pow_succ] at em;exact em
end L2.MP.stickytiles_k49_walked_beds_formed
namespace L2.MP.stickytiles_k49_walked_beds_formed
open PySem L2.MP L2.MP.Hb
open L2.MP.Hn (zjC)
theorem orF2{a b:MT}{ρ:Rho}{st s1 s2:Sto}(h1:a ρ st=some (false,s1))(h2:b ρ s1=some (false,s2)):mIf (mOrT a b) (mRet (mCon (.bl false))) ze9 ρ st=some (.nx ρ,s2):=ze1 (orF h1 h2)
theorem zjJ{z w:Str}{T:Tab}{r M:Int}{st:Sto}(h:WkOk z w T)(r0:0<=r)(hM:M=(T.length:Int)*(z.cps.toList.length:Int)+(w.cps.toList.length:Int)+2):∃ st',zaR [WB z w T r,.int ((w.cps.toList.length:Int)+1),.int (r+1),.int M] st=some (.bl true,st')/\Gr st st':=by
 have hs:=zo3 h;obtain⟨s1,e1,g1⟩:=zkX (st:=st) hs;have hrow:∀ r∈T,r.length=z.cps.toList.length:=fun r hr=>(h.tab.row r hr).1;have hl:=zlm (w:=w) hrow;have hl2:(((KW z w T).map zb7).length:Int)=M:=by
   rw[Af,hl,hM];rw[CZ,CZ,Cq];omega
 refine zlf (by omega) r0 e1 g1 (KD:=(KW z w T).map zb7) (fun s=>zcr (by decide) rfl) ?_ (by omega);rw[Af,hl,CZ,CZ];omega
theorem zjw{z w:Str}{T:Tab}{r:Int}{st:Sto}(h:WkOk z w T):neD (WB z w T r) (WB z w T r) st=some (.bl false,st):=zjC (ziQ (zo3 h)) (by decide)
theorem zmy{W w:D}{z:Str}{TT:List D}{t a k m:Int}{L P y2 y5 y6 y7 y8 y9 y10:Option D}{st:Sto}(i0:ixA W (.int 0) st=some (.str z,st))(i1:ixA W (.int 1) st=some (.tup TT,st))(l0:lenD [.str z] st=some (.int a,st))(l1:lenD [.tup TT] st=some (.int t,st))(l2:lenD [w] st=some (.int k,st))(hm:mulA (.int t) (.int a) st=some (.int m,st)) :
   mAsg (mBin addD (mBin addD (mBin mulA (zar lenD (zad (mBin ixA (mVar 3) (mCon (.int 1))) (mNil))) (zar lenD (zad (mBin ixA (mVar 3) (mCon (.int 0))) (mNil)))) (zar lenD (zad (mVar 4) (mNil)))) (mCon (.int 2))) (gNm 7) [L,P,y2,some W,some w,y5,y6,y7,y8,y9,y10] st=some (.nx [L,P,y2,some W,some w,y5,y6,some (.int (m+k+2)),y8,y9,y10],st):=by
 simp[i0,i1,l0,l1,l2,hm]
theorem zkK{W:D}{TT:List D}{t b k m:Int}{L P y2 y3 y4 y5 y6 y7 y10:Option D}{st s1:Sto}(ec:zbG [.int b] st=some (W,s1))(i1:ixA W (.int 1) s1=some (.tup TT,s1))(l1:lenD [.tup TT] s1=some (.int t,s1))(hm:mulA (.int t) (.int b) s1=some (.int m,s1)) :
   mAsg (mBin addD (mBin addD (mBin mulA (zar lenD (zad (mBin ixA (zar zbG (zad (mVar 8) (mNil))) (mCon (.int 1))) (mNil))) (mVar 8)) (mVar 9)) (mCon (.int 2))) (gNm 7) [L,P,y2,y3,y4,y5,y6,y7,some (.int b),some (.int k),y10] st=some (.nx [L,P,y2,y3,y4,y5,y6,some (.int (m+k+2)),some (.int b),some (.int k),y10],s1):=by
 simp[ec,i1,l1,hm]
theorem zkQ{n:Nat}{W w B B2 F:D}{z:Str}{r k M b2 k2 r2 M2 po x1 x2:Int}{L y2 y3 y4 y5 y6 y7 y8 y9 y10:Option D}{s s1 s2 s3 s4 s6 s7 s8 s9 s10 s11 s12 s13 s14 s15:Sto}
   (e1:zbA [.ref n,.int 10,.int 4] s=some (W,s1)) (i0:∀ t:Sto,ixA W (.int 0) t=some (.str z,t)) (e2:zbW [.ref n,.str z,.int 6] s1=some (w,s2)) (e3:zaj [.ref n,.int 9] s2=some (.int r,s3))
   (e4:zaS [W,w,.int r] s3=some (B,s4))
   (e5:∀ y7,mAsg (mBin addD (mBin addD (mBin mulA (zar lenD (zad (mBin ixA (mVar 3) (mCon (.int 1))) (mNil))) (zar lenD (zad (mBin ixA (mVar 3) (mCon (.int 0))) (mNil)))) (zar lenD (zad (mVar 4) (mNil)))) (mCon (.int 2))) (gNm 7) [L,some (.ref n),y2,some W,some w,some (.int r),some B,y7,y8,y9,y10] s4=some (.nx [L,some (.ref n),y2,some W,some w,some (.int r),some B,some (.int M),y8,y9,y10],s4))
   (lw:∀ t:Sto,lenD [w] t=some (.int k,t)) (e6:zaR [B,.int (k+1),.int (r+1),.int M] s4=some (.bl true,s6)) (e7:zaS [W,w,.int r] s6=some (B,s7)) (e7':∀ t:Sto,neD B B t=some (.bl false,t))
   (e8:zaj [.ref n,.int 9] s7=some (.int x1,s8)) (e9:zaj [.ref n,.int 6] s8=some (.int x2,s9)) (hb:2+x1=b2) (hk:1+x2=k2) (ep:zbu [.int b2,.int k2] s9=some (.int po,s9)) (e10:zaj [.ref n,.int po] s9=some (F,s10)) (e11:zaj [.ref n,.int 9] s10=some (.int r2,s11))
   (e12:zaT [.int b2,.int k2,F,.int r2] s11=some (B2,s12))
   (e13:∀ y7,mAsg (mBin addD (mBin addD (mBin mulA (zar lenD (zad (mBin ixA (zar zbG (zad (mVar 8) (mNil))) (mCon (.int 1))) (mNil))) (mVar 8)) (mVar 9)) (mCon (.int 2))) (gNm 7) [L,some (.ref n),y2,some W,some w,some (.int r2),some B2,y7,some (.int b2),some (.int k2),some F] s12=some (.nx [L,some (.ref n),y2,some W,some w,some (.int r2),some B2,some (.int M2),some (.int b2),some (.int k2),some F],s13))
   (e14:zaR [B2,.int (k2+1),.int (r2+1),.int M2] s13=some (.bl true,s14)) (e15:zaT [.int b2,.int k2,F,.int r2] s14=some (B2,s15)) (e15':∀ t:Sto,neD B2 B2 t=some (.bl false,t)) :
   zfM [L,some (.ref n),y2,y3,y4,y5,y6,y7,y8,y9,y10] s=some (.nx [L,some (.ref n),y2,some W,some w,some (.int r2),some B2,some (.int M2),some (.int b2),some (.int k2),some F],s15):=by
 unfold zfM;refine zas (ρ1:=[L,some (.ref n),y2,some W,y4,y5,y6,y7,y8,y9,y10]) (s1:=s1) (by simp[e1]) ?_;refine zas (ρ1:=[L,some (.ref n),y2,some W,some w,some (.int r),y6,y7,y8,y9,y10]) (s1:=s3) (by simp[i0,e2,e3]) ?_;refine zas (ρ1:=[L,some (.ref n),y2,some W,some w,some (.int r),some B,y7,y8,y9,y10]) (s1:=s4) (by simp[e4]) ?_;refine zas (e5 y7) ?_;refine zas (orF2 (s1:=s6) (s2:=s7) (notT (by simp[lw,e6])) (tstF (by simp[e7,e7']))) ?_;refine zas (ρ1:=[L,some (.ref n),y2,some W,some w,some (.int r),some B,some (.int M),some (.int b2),some (.int k2),y10]) (s1:=s9) (by simp[e8,e9,hb,hk]) ?_;refine zas (ρ1:=[L,some (.ref n),y2,some W,some w,some (.int r2),some B,some (.int M),some (.int b2),some (.int k2),some F]) (s1:=s11) (by simp[ep,e10,e11]) ?_;refine zas (ρ1:=[L,some (.ref n),y2,some W,some w,some (.int r2),some B2,some (.int M),some (.int b2),some (.int k2),some F]) (s1:=s12) (by simp[e12]) ?_;refine zas (e13 _) ?_;exact orF2 (s1:=s14) (s2:=s15) (notT (by simp[e14])) (tstF (by simp[e15,e15']))
theorem zlv{n q:Nat}{L y2 y3 y4 y5 y6 y7 y8 y9 y10:Option D}{s:Sto}(h:PotB n q s):∃ x3 x4 x5 x6 x7 x8 x9 x10 s',zfM [L,some (.ref n),y2,y3,y4,y5,y6,y7,y8,y9,y10] s=some (.nx [L,some (.ref n),y2,x3,x4,x5,x6,x7,x8,x9,x10],s')/\PotB n q s':=by
 obtain⟨z,T,k,s1,e1,hz,k1,k10,hT,t4,p1,f1⟩:=ziC h;have hzl:=hz.len;obtain⟨w,s2,e2,hw,p2,f2⟩:=zlt (z:=z) (most:=6) p1 (by omega) (by omega) (by decide) (by decide);have wlo:=hw.lo;have whi:w.cps.toList.length<=6:=hw.hi;obtain⟨r,s3,e3,r0,r9,p3,f3⟩:=zbY (many:=9) p2 (by decide) (by decide);have wk:WkOk z w T:=⟨by omega,by omega,t4,wlo,whi,hT,hw.mem,hz.mem⟩
 obtain⟨s4,e4,g4⟩:=zlg (r:=r) (st:=s3) wk;have p4:=p3.gr g4;have hm:=zhQ (p:=T.length) (q:=z.cps.toList.length) (st:=s4) (by omega);obtain⟨s6,e6,g6⟩:=zjJ (st:=s4) (r:=r) (M:=((T.length*z.cps.toList.length:Nat):Int)+(w.cps.toList.length:Int)+2) wk r0 (by rw[Cq]);have p6:=p4.gr g6;obtain⟨s7,e7,g7⟩:=zlg (r:=r) (st:=s6) wk;have p7:=p6.gr g7;obtain⟨x1,s8,e8,a0,a9,p8,f8⟩:=zbY (many:=9) p7 (by decide) (by decide);obtain⟨x2,s9,e9,c0,c6,p9,f9⟩:=zbY (many:=6) p8 (by decide) (by decide);obtain⟨b,hb⟩:∃ b:Nat,2+x1=(b:Int):=⟨(2+x1).toNat,by omega⟩
 obtain⟨k2,hk2⟩:∃ k2:Nat,1+x2=(k2:Int):=⟨(1+x2).toNat,by omega⟩
 have b2:2<=b:=by omega
 have b10:b < 11:=by omega
 have kk1:1<=k2:=by omega
 have kk6:k2<=6:=by omega
 have ep:=zkr (st:=s9) b10 kk6;have hp1:0 < b ^ k2:=Nat.pow_pos (by omega);have hp2:=zl8 b10 kk6;generalize b ^ k2=po at ep hp1 hp2;obtain⟨N,s10,e10,n0,nN,p10,f10⟩:=zbY (many:=(po:Int)) p9 (by omega) (by omega);obtain⟨r2,s11,e11,q0,q9,p11,f11⟩:=zbY (many:=9) p10 (by decide) (by decide);obtain⟨s12,e12,g12⟩:=zfH (N:=N) (r:=r2) (st:=s11) b2 b10 kk1 kk6;obtain⟨s13,e13,g13⟩:=zfG (st:=s12) b2 b10;have wk2:=zlu (N:=N) b2 b10 kk1 kk6;obtain⟨hl2,_⟩:=zjd (N:=N) b2 b10 k2;have hf:=(zk1 b b10 b2).1;have hm2:=zhQ (p:=2) (q:=b) (st:=s13) (by decide);obtain⟨s14,e14,g14⟩:=zjJ (st:=s13) (r:=r2) (M:=((2*b:Nat):Int)+(k2:Int)+2) wk2 q0 (by rw[hl2,hf,Cq];rfl);rw[hl2] at e14;obtain⟨s15,e15,g15⟩:=zfH (N:=N) (r:=r2) (st:=s14) b2 b10 kk1 kk6;have p15:=(((p11.gr g12).gr g13).gr g14).gr g15;refine⟨_,_,_,_,_,_,_,_,s15,zkQ e1 (fun t=>zh2) e2 e3 e4 (fun y=>zmy zh2 zi9 (zjK (by omega)) (by rw[zgw,Af]) (zjK (by omega)) hm) (fun t=>zjK (by omega)) e6 e7 (fun t=>zjw wk) e8 e9 hb hk2 ep e10 e11 e12 (fun y=>zkK e13 zi9 zgw hm2) e14 e15 (fun t=>zjw wk2),p15⟩
theorem zkO(ns:List Int)(hl:ns.length<=63):∃ st,zln [.kl (ns.map D.int)] []=some (.bl true,st):=by
 obtain⟨n,q,s1,e1,p1,g1⟩:=zj6 (ns:=ns) [] hl;have key:=zc5 (W:=⟨run 0 3,[]⟩) (g:=gNm 2) (m:=zfM) (ds:=run 0 3) (ρ:=[some (.kl (ns.map D.int)),some (.ref n),none,none,none,none,none,none,none,none,none]) (st:=s1)
   (Inv:=fun i ρ s=>(∃ x2 x3 x4 x5 x6 x7 x8 x9 x10,ρ=[some (.kl (ns.map D.int)),some (.ref n),x2,x3,x4,x5,x6,x7,x8,x9,x10])/\PotB n q s) ⟨⟨_,_,_,_,_,_,_,_,_,rfl⟩,p1⟩ (fun _ _ _ _ _=>rfl) (fun i d ρ s hd hI=>by
     obtain⟨⟨x2,x3,x4,x5,x6,x7,x8,x9,x10,rfl⟩,p2⟩:=hI;obtain⟨b3,b4,b5,b6,b7,b8,b9,b10,s3,e3,p3⟩:=zlv (L:=some (.kl (ns.map D.int))) (y2:=some d) (y3:=x3) (y4:=x4) (y5:=x5) (y6:=x6) (y7:=x7) (y8:=x8) (y9:=x9) (y10:=x10) p2;exact⟨[some (.kl (ns.map D.int)),some (.ref n),some d,x3,x4,x5,x6,x7,x8,x9,x10],s,_,s3,rfl,e3,⟨_,_,_,_,_,_,_,_,_,rfl⟩,p3⟩)
 obtain⟨ρ',s2,el,⟨x2,x3,x4,x5,x6,x7,x8,x9,x10,rfl⟩,p2⟩:=key;refine⟨s2,zdc ?_⟩;show zoV [some (.kl (ns.map D.int)),none,none,none,none,none,none,none,none,none,none] []=_;unfold zoV;refine zas (ρ1:=[some (.kl (ns.map D.int)),some (.ref n),none,none,none,none,none,none,none,none,none]) (s1:=s1) (by simp[e1]) ?_;refine zas (ρ1:=[some (.kl (ns.map D.int)),some (.ref n),x2,x3,x4,x5,x6,x7,x8,x9,x10]) (s1:=s2) (zdY (k:=3) (by simp) (by decide) el) (by simp)
end L2.MP.stickytiles_k49_walked_beds_formed
namespace L2.MP.stickytiles_k49_walked_beds_formed
open PySem L2 L2.MP PySem.Spec PyProof.Rows
theorem znx{K:Ac}{H:Hp}{a:Addr}{ns:List Int}(hl:ns.length<=63)(hO:Only H)(hS:SqL K H a (ns.map V.int)):spM K 1 zln [.ref a] H (fun v _=>v=.bl true) fun _ _ _=>False:=by
 obtain⟨st,e⟩:=zkO ns hl;exact zka hO hS e
theorem walk{l:DK}{q:Program}{loose:List Str}{XP:(Str->Option Value)->Heap->Prop}{YP:World->Heap->Prop}{d:DefRec}{K:Params->Ac}(hn:l.most=some 63)(hdf:d.params.defaults=[])
   (hY:∀ (w:World) (h:Heap),YP w h->(K w.params).In h)
   (F:∀ (w:World) (mg:Str->Option Value) (fa:Addr) (h:Heap),(K w.params).In h->h.Ns mainGlobals mg->mg d.name=some (.ref fa) ->
     ∃ fd:FuncData,(∀ (s:Shared) (u:Value),BindsTo s fd ⟨[u],[]⟩ [("_law_script",u)])/\∀ base:Heap,(K w.params).In base->base.Ns mainGlobals mg->FnOk l.prog w (K w.params) mg base CX0 6 fa fd ["_law_script"] (spM (K w.params) 1 zln)) :
   Fj q loose XP YP l.row.toRowW d [] (fun f vs=>ES f vs) :=
 L2.walk_of (n:=63) (k:=6) (x:="_law_script") (CX:=fun _=>CX0) (sp:=fun w=>spM (K w.params) 1 zln) hn (by decide) hdf ⟨rfl,by decide,by decide,rfl⟩ hY F (fun _ _ a ns hl hO hS=>znx hl hO hS) fun _ _ _ _ _ z=>z
end L2.MP.stickytiles_k49_walked_beds_formed
open PySem PySem.W PyProof.Rows
set_option maxRecDepth 100000 in
set_option maxHeartbeats 0 in
theorem PySem.Challenge.cw_stickytiles_k49_walked_beds_formed_holds : PySem.Challenge.rw_stickytiles_k49_walked_beds_formed.Holds := by
 w_on;o_law;k_head;(case hw=>w_witness2)
 k_fill
 refine L2.MP.stickytiles_k49_walked_beds_formed.walk (l:=PySem.Challenge.rw_stickytiles_k49_walked_beds_formed) rfl rfl (fun w h Y=>PySem.W.kIn_of Y) ?F
 case F =>
   intro w mg fa h KX G hmg;refine' L2.MP.stickytiles_k49_walked_beds_formed.all_mk KX G hmg (L2.MP.zdq ?a0 ?l0 ?c0 ?k0) (L2.MP.zdq ?a1 ?l1 ?c1 ?k1) (L2.MP.zdq ?a2 ?l2 ?c2 ?k2) (L2.MP.zdq ?a3 ?l3 ?c3 ?k3) (L2.MP.zdq ?a4 ?l4 ?c4 ?k4) (L2.MP.zdq ?a5 ?l5 ?c5 ?k5) (L2.MP.zdq ?a6 ?l6 ?c6 ?k6) (L2.MP.zdq ?a7 ?l7 ?c7 ?k7) (L2.MP.zdq ?a8 ?l8 ?c8 ?k8) (L2.MP.zdq ?a9 ?l9 ?c9 ?k9) (L2.MP.zdq ?a10 ?l10 ?c10 ?k10) (L2.MP.zdq ?a11 ?l11 ?c11 ?k11) (L2.MP.zdq ?a12 ?l12 ?c12 ?k12) (L2.MP.zdq ?a13 ?l13 ?c13 ?k13) (L2.MP.zdq ?a14 ?l14 ?c14 ?k14) (L2.MP.zdq ?a15 ?l15 ?c15 ?k15) (L2.MP.zdq ?a16 ?l16 ?c16 ?k16) (L2.MP.zdq ?a17 ?l17 ?c17 ?k17) (L2.MP.zdq ?a18 ?l18 ?c18 ?k18) (L2.MP.zdq ?a19 ?l19 ?c19 ?k19) (L2.MP.zdq ?a20 ?l20 ?c20 ?k20) (L2.MP.zdq ?a21 ?l21 ?c21 ?k21) (L2.MP.zdq ?a22 ?l22 ?c22 ?k22) (L2.MP.zdq ?a23 ?l23 ?c23 ?k23) (L2.MP.zdq ?a24 ?l24 ?c24 ?k24) (L2.MP.zdq ?a25 ?l25 ?c25 ?k25) ?z0 ?z1 ?z2 ?z3 ?z4 ?z5 ?z6 ?z7 ?z8 ?z9 ?z10 ?z11 ?z12 ?y0 ?y1
   (case a0=>k_is);(case l0=>k_is);(case c0=>k_is);(case k0=>k_is)
   (case a1=>k_is);(case l1=>k_is);(case c1=>k_is);(case k1=>k_is)
   (case a2=>k_is);(case l2=>k_is);(case c2=>k_is);(case k2=>k_is)
   (case a3=>k_is);(case l3=>k_is);(case c3=>k_is);(case k3=>k_is)
   (case a4=>k_is);(case l4=>k_is);(case c4=>k_is);(case k4=>k_is)
   (case a5=>k_is);(case l5=>k_is);(case c5=>k_is);(case k5=>k_is)
   (case a6=>k_is);(case l6=>k_is);(case c6=>k_is);(case k6=>k_is)
   (case a7=>k_is);(case l7=>k_is);(case c7=>k_is);(case k7=>k_is)
   (case a8=>k_is);(case l8=>k_is);(case c8=>k_is);(case k8=>k_is)
   (case a9=>k_is);(case l9=>k_is);(case c9=>k_is);(case k9=>k_is)
   (case a10=>k_is);(case l10=>k_is);(case c10=>k_is);(case k10=>k_is)
   (case a11=>k_is);(case l11=>k_is);(case c11=>k_is);(case k11=>k_is)
   (case a12=>k_is);(case l12=>k_is);(case c12=>k_is);(case k12=>k_is)
   (case a13=>k_is);(case l13=>k_is);(case c13=>k_is);(case k13=>k_is)
   (case a14=>k_is);(case l14=>k_is);(case c14=>k_is);(case k14=>k_is)
   (case a15=>k_is);(case l15=>k_is);(case c15=>k_is);(case k15=>k_is)
   (case a16=>k_is);(case l16=>k_is);(case c16=>k_is);(case k16=>k_is)
   (case a17=>k_is);(case l17=>k_is);(case c17=>k_is);(case k17=>k_is)
   (case a18=>k_is);(case l18=>k_is);(case c18=>k_is);(case k18=>k_is)
   (case a19=>k_is);(case l19=>k_is);(case c19=>k_is);(case k19=>k_is)
   (case a20=>k_is);(case l20=>k_is);(case c20=>k_is);(case k20=>k_is)
   (case a21=>k_is);(case l21=>k_is);(case c21=>k_is);(case k21=>k_is)
   (case a22=>k_is);(case l22=>k_is);(case c22=>k_is);(case k22=>k_is)
   (case a23=>k_is);(case l23=>k_is);(case c23=>k_is);(case k23=>k_is)
   (case a24=>k_is);(case l24=>k_is);(case c24=>k_is);(case k24=>k_is)
   (case a25=>k_is);(case l25=>k_is);(case c25=>k_is);(case k25=>k_is)
   (case z0=>k_is);(case z1=>k_is);(case z2=>k_is);(case z3=>k_is);(case z4=>k_is);(case z5=>k_is);(case z6=>k_is);(case z7=>k_is);(case z8=>k_is);(case z9=>k_is);(case z10=>k_is);(case z11=>k_is);(case z12=>k_is);(case y0=>k_is);(case y1=>k_is)
