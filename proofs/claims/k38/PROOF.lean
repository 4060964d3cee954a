import PyProof.Rows.All
import Wide.All
import OpenK.AllK
import Wide.FinOn
import Lean
import PyProof.EqAt
import PyProof.EqKinds
import PyProof.TupleCall
import KE.KRevSl
import PyProof.AttrMissHeap
import KE.KDictOf
import PyProof.StrWalks
import PyProof.ListStr
import PyProof.EnumMake
import PyProof.Rows.Range3
import PyProof.Rows.StrIndexOr
import KE.KRevIter
import PyProof.SumWalk
import PyProof.ReprRoads
import PyProof.DictWalks
import PyProof.FitsBits
import PyProof.CallStr
import PyProof.Rows.FStr
import PyProof.Rows.StrNews
import KE.KIntText
import PyProof.Rows.MinMaxN
import PyProof.StrCalls
import KE.KDictList
import PyProof.RulesTry
import PyProof.Rows.RuleIs
import KE.KDictSum
import PyProof.StrLawsIn
import PyProof.Rows.StrLawsPart
import PyProof.StrLawsChain
import PyProof.Rows.StrIntSpec
import PyProof.StrLawsTight
import PyProof.Rows.ReprOcc
import PySem.Challenge.RW_stickytiles_k38_sound_parts
set_option Elab.async false
set_option linter.all false
set_option maxRecDepth 100000
namespace L2
open PySem PySem.Spec PyProof.Rows
noncomputable abbrev Key:=Sum Int Str
noncomputable def znz:Key->Value->Bool
 | .inl k,v=>Value.isInt k v
 | .inr x,v=>Value.isStrOf x v
noncomputable def keyH(w:World):Key->Int
 | .inl k=>hashInt k
 | .inr x=>hashStr w x
theorem zbg:∀ {k:Key} {v:Value},znz k v=true->(∃ i t,k=Sum.inl i/\v=Value.int i t)\/(∃ x t,k=Sum.inr x/\v=Value.str x t)
 | .inl i,v,h=>by
   obtain⟨t,e⟩:=Value.isInt_shape (k:=i) (v:=v) h;exact .inl ⟨i,t,rfl,e⟩
 | .inr x,v,h=>by
   obtain⟨t,e⟩:=Value.isStrOf_shape (x:=x) (v:=v) h;exact .inr ⟨x,t,rfl,e⟩
theorem zkR(i:Int)(t:Tok):znz (.inl i) (.int i t)=true:=by simp[znz,Value.isInt]
theorem zkQ(x:Str)(t:Tok):znz (.inr x) (.str x t)=true:=by simp[znz,Value.isStrOf]
theorem zq8(a b:Int):decide ((Sum.inl a:Key)=Sum.inl b)=(a==b):=by
 by_cases e:a=b
 . subst e;simp
 . have h:¬ (Sum.inl a:Key)=Sum.inl b:=fun q=>e (Sum.inl.inj q);rw[decide_eq_false h];exact (beq_eq_false_iff_ne.mpr e).symm
theorem zq5(a b:Str):decide ((Sum.inr a:Key)=Sum.inr b)=decide (a=b):=by
 by_cases e:a=b
 . subst e;simp
 . have h:¬ (Sum.inr a:Key)=Sum.inr b:=fun q=>e (Sum.inr.inj q);rw[decide_eq_false h,decide_eq_false e]
theorem zq7(a:Int)(b:Str):decide ((Sum.inl a:Key)=Sum.inr b)=false:=decide_eq_false (fun q=>nomatch q)
theorem zq6(a:Str)(b:Int):decide ((Sum.inr a:Key)=Sum.inl b)=false:=decide_eq_false (fun q=>nomatch q)
noncomputable def zaE(prog:Program)(w:World):PySem.KeyKind prog w Key where
 is:=znz
 hash:=keyH w
 inj:=fun v a b ha hb=>by
   rcases zbg ha with ⟨i,t,rfl,rfl⟩ | ⟨x,t,rfl,rfl⟩
   . rcases zbg hb with ⟨j,u,rfl,e⟩ | ⟨y,u,rfl,e⟩
     . injection e with e1 _;rw[e1]
     . exact nomatch e
   . rcases zbg hb with ⟨j,u,rfl,e⟩ | ⟨y,u,rfl,e⟩
     . exact nomatch e
     . injection e with e1 _;rw[e1]
 byValue:=fun k v h=>by
   rcases zbg h with ⟨i,t,rfl,rfl⟩ | ⟨x,t,rfl,rfl⟩ <;> rfl
 pyHash:=fun hv h=>by
   rcases zbg hv with ⟨i,t,rfl,rfl⟩ | ⟨x,t,rfl,rfl⟩
   . exact wpAny_pyHash_int h
   . exact wpAny_pyHash_str h
 eqBool:=fun hu hv h=>by
   rcases zbg hu with ⟨i,t,rfl,rfl⟩ | ⟨x,t,rfl,rfl⟩
   . rcases zbg hv with ⟨j,u,rfl,rfl⟩ | ⟨y,u,rfl,rfl⟩
     . rw[zq8] at h;exact wpAny_eqBool_int h
     . rw[zq7] at h;exact SeqAt.EqAt.int_str i t y u _ _ _ _ h
   . rcases zbg hv with ⟨j,u,rfl,rfl⟩ | ⟨y,u,rfl,rfl⟩
     . rw[zq6] at h;exact SeqAt.EqAt.str_int x t j u _ _ _ _ h
     . rw[zq5] at h;exact wpAny_eqBool_str h
 «strs»:=fun k x t v h=>by
   rcases zbg h with ⟨i,u,rfl,e⟩ | ⟨y,u,rfl,e⟩
   . exact nomatch e
   . injection e with e1 _
     subst e1
     cases v <;> rfl
theorem zhY(prog:Program)(w:World)(i:Int)(t:Tok):(zaE prog w).is (.inl i) (.int i t)=true:=zkR i t
theorem zhX(prog:Program)(w:World)(x:Str)(t:Tok):(zaE prog w).is (.inr x) (.str x t)=true:=zkQ x t
end L2
namespace L2
open PySem PySem.Spec PyProof.Rows
inductive V where
 | non | bl (b:Bool) | int (i:Int) | str (x:Str) | byt (b:Array UInt8) | flt (b:UInt64) | ref (a:Addr) | ty (n:String)
 deriving DecidableEq
noncomputable def RelV:V->Value->Prop
 | .non,u=>u=Value.none
 | .bl b,u=>u=Value.bool b
 | .int i,u=>∃ t,u=Value.int i t
 | .str x,u=>∃ t,u=Value.str x t
 | .byt b,u=>∃ t,u=Value.bytes b t
 | .flt b,u=>∃ t,u=Value.float b t
 | .ref a,u=>u=Value.ref a
 | .ty n,u=>u=Value.type n
noncomputable abbrev Vals:List V->List Value->Prop:=Paired RelV
theorem Vals.length{xs:List V}{us:List Value}(r:Vals xs us):xs.length=us.length:=Paired.length r
theorem Vals.get:∀ {xs:List V} {us:List Value} {i:Nat} {x:V},Vals xs us->xs[i]?=some x->∃ u,us[i]?=some u/\RelV x u
 | _,_,_,_,.nil,e=>by simp at e
 | _,_,0,_,.cons r _,e=>by simp at e;subst e;exact⟨_,rfl,r⟩
 | _,_,i+1,x,.cons _ t,e=>by
   obtain⟨u,h1,h2⟩:=Vals.get (i:=i) (x:=x) t (by simpa using e);exact⟨u,by simpa using h1,h2⟩
theorem Vals.set{x:V}{u:Value}(r:RelV x u):∀ {xs:List V} {us:List Value} (i:Nat),Vals xs us->Vals (xs.set i x) (us.set i u)
 | _,_,_,.nil=>.nil
 | _,_,0,.cons _ t=>.cons r t
 | _,_,i+1,.cons q t=>.cons q (Vals.set r i t)
theorem Vals.append:∀ {xs ys:List V} {us ws:List Value},Vals xs us->Vals ys ws->Vals (xs++ys) (us++ws)
 | _,_,_,_,.nil,s=>s
 | _,_,_,_,.cons r t,s=>.cons r (Vals.append t s)
theorem Vals.take:∀ {xs:List V} {us:List Value} (n:Nat),Vals xs us->Vals (xs.take n) (us.take n)
 | _,_,0,_=>.nil
 | _,_,_+1,.nil=>.nil
 | _,_,n+1,.cons r t=>.cons r (Vals.take n t)
theorem Vals.drop:∀ {xs:List V} {us:List Value} (n:Nat),Vals xs us->Vals (xs.drop n) (us.drop n)
 | _,_,0,r=>r
 | _,_,_+1,.nil=>.nil
 | _,_,n+1,.cons _ t=>Vals.drop n t
noncomputable def RelO:Option V->Option Value->Prop
 | some v,some u=>RelV v u
 | none,none=>True
 | _,_=>False
noncomputable def KV{κ:Type}:List (κ×V)->List (κ×Value)->Prop:=Paired fun (p:κ×V) (q:κ×Value)=>p.1=q.1/\RelV p.2 q.2
noncomputable def kV:Key->V
 | .inl i=>.int i
 | .inr x=>.str x
inductive HO where
  | lst (xs:List V)
  | tup (xs:List V)
  | dK (kvs:List (Key×V)) | dT (kvs:List (List Key×V))
  | set (S:Int->Bool) (n:Nat)
  | ins (C dx:Addr) (fs:List (Str×V))
  | own (x:Addr)
  | xd (fs:List (Str×V))
  | met (f x:Addr)
  | rng (lo hi:Int)
  | frz (o:Obj) (u:HO)
  | tbl (ps:Array Value)
  | ext (φ:Heap->Prop)
noncomputable abbrev Hp:=Addr->Option HO
noncomputable def upd(H:Hp)(a:Addr)(o:HO):Hp:=fun b=>if b=a then some o else H b
theorem zbs{H:Hp}{a:Addr}{o:HO}:upd H a o a=some o:=by unfold upd;rw[if_pos rfl]
theorem zav{H:Hp}{a b:Addr}{o:HO}(h:b≠a):upd H a o b=H b:=by unfold upd;rw[if_neg h]
theorem zpy{H:Hp}{a b:Addr}{o u:HO}(h:H a=some o)(h':H b=some u)(d:o≠u):a≠b:=by
 intro e;subst e;rw[h] at h';exact d (Option.some.inj h')
theorem zau{H:Hp}{a b:Addr}{o:HO}(h:H a=some o)(h':H b=none):a≠b:=by
 intro e;subst e;rw[h] at h';cases h'
noncomputable def zcS(h:Heap)(a:Addr)(items:Array Value):Prop:=∃ o,h.get? a=some o/\o.cls=.type "tuple"/\o.dict=none/\∃ n,o.data=.seq items n
theorem zcS.t{h:Heap}{a:Addr}{items:Array Value}(x:zcS h a items):IsTup h a items:=let ⟨o,ho,hc,_,r⟩:=x;⟨o,ho,hc,r⟩
theorem zcS.keeps{h h':Heap}{a:Addr}{items:Array Value}(x:zcS h a items)(hk:∀ b o,h.get? b=some o->h'.get? b=some o):zcS h' a items:=let ⟨o,ho,r⟩:=x;⟨o,hk a o ho,r⟩
theorem zcS.new(h:Heap)(items:Array Value):zcS (h.push { cls:=.type "tuple",data:=.seq items }) h.objs.size items:=⟨_,Heap.get?_push_size _ rfl,rfl,rfl,0,rfl⟩
section
variable (P:Program) (w:World)
noncomputable def zdc(H:Hp)(h:Heap)(a:Addr):HO->Prop
 | .lst xs=>xs.length<=sizeLine/\∃ (its:List Value) (n:Nat),Vals xs its/\h.get? a=some { cls:=.type "list",data:=.seq its.toArray n }
 | .tup xs=>xs.length<=sizeLine/\∃ its:List Value,Vals xs its/\zcS h a its.toArray
 | .dK kvs=>kvs.length<=sizeLine/\(a==sysModules)=false/\∃ vs,KV kvs vs/\h.DictOf (zaE P w) a vs
 | .dT kvs=>kvs.length<=sizeLine/\(a==sysModules)=false/\∃ xs:List (List Key×Addr×Value),
     Paired (fun (p:List Key×V) (q:List Key×Addr×Value)=>p.1=q.1/\H q.2.1=some (.tup (p.1.map kV))/\RelV p.2 q.2.2) kvs xs /\
     ∃ o es ep,h.get? a=some o/\o.ExactDict/\o.data=.dict es ep/\es.toList=xs.map (entryOfKey (tupleKind (zaE P w)))/\(xs.map (·.1)).Nodup
 | .set S n=>h.SetOf (intKind P w) a S n
 | .ins C dx fs=>H dx=some (.own a)/\fs.length<=1000/\dx≠a/\h.get? a=some (PySem.W.instObj C dx) /\
     ∃ mA,h.Ns1 dx mA/\(∀ f,RelO (fs.lookup f) (mA f))/\PySem.Within mA (fs.map (·.1))
 | .own _=>∃ o,h.get? a=some o
 | .xd fs=>∃ mA,h.Ns1 a mA/\∀ f,RelO (fs.lookup f) (mA f)
 | .rng lo hi=>∃ t u v,h.get? a=some { cls:=.type "range",data:=.fields #[.int lo t,.int hi u,.int 1 v] }
 | .frz o u=>h.get? a=some o/\zdc H h a u
 | .tbl ps=>h.get? a=some { cls:=.none,data:=.fields ps }
 | .met f x=>h.get? a=some (PySem.W.methodObj (.ref f) (.ref x))
 | .ext φ=>φ h/\(∃ o,h.get? a=some o)/\∀ h1 h2:Heap,φ h1->(∀ o,h1.get? a=some o->h2.get? a=some o)->φ h2
noncomputable def HOk(H:Hp)(h:Heap):Prop:=∀ a o,H a=some o->zdc P w H h a o
end
section
variable {P:Program} {w:World} {H H':Hp} {h h':Heap} {a:Addr} {o:HO}
theorem zdc.lt(x:zdc P w H h a o):a < h.objs.size:=by
 cases o with
 | lst xs=>obtain⟨_,_,_,_,e⟩:=x;exact Heap.lt_size e
 | tup xs=>obtain⟨_,_,_,p⟩:=x;exact p.t.lt
 | dK kvs=>obtain⟨_,_,_,_,o,_,_,e,_⟩:=x;exact Heap.lt_size e
 | dT kvs=>obtain⟨_,_,_,_,o,_,_,e,_⟩:=x;exact Heap.lt_size e
 | set S n=>obtain⟨o,_,_,_,e,_⟩:=x;exact Heap.lt_size e
 | ins C dx fs=>obtain⟨_,_,_,e,_⟩:=x;exact Heap.lt_size e
 | own y=>obtain⟨_,e⟩:=x;exact Heap.lt_size e
 | xd fs=>obtain⟨_,⟨_,_,_,e,_⟩,_⟩:=x;exact Heap.lt_size e
 | rng lo hi=>obtain⟨_,_,_,e⟩:=x;exact Heap.lt_size e
 | frz ob u=>obtain⟨e,_⟩:=x;exact Heap.lt_size e
 | tbl ps=>exact Heap.lt_size (show h.get? a=some _ from x)
 | met f y=>exact Heap.lt_size (show h.get? a=some _ from x)
 | ext φ=>obtain⟨_,⟨_,e⟩,_⟩:=x;exact Heap.lt_size e
theorem Paired.mapP{α β:Type}{F G:α->β->Prop}:∀ {l₁:List α} {l₂:List β},Paired F l₁ l₂->(∀ a b,F a b->G a b)->Paired G l₁ l₂
 | _,_,.nil,_=>.nil
 | _,_,.cons r t,f=>.cons (f _ _ r) (Paired.mapP t f)
theorem zdc.stay(x:zdc P w H h a o)(k:∀ b u,(b=a\/H b=some (.own a))->h.get? b=some u->h'.get? b=some u)
   (ho:∀ b,H b=some (.own a)->H' b=some (.own a)) (ht:∀ b xs,H b=some (.tup xs)->H' b=some (.tup xs)):zdc P w H' h' a o:=by
 induction o with
 | lst xs=>obtain⟨z,its,n,r,e⟩:=x;exact⟨z,its,n,r,k _ _ (.inl rfl) e⟩
 | tup xs=>obtain⟨z,its,r,ob,e,c⟩:=x;exact⟨z,its,r,ob,k _ _ (.inl rfl) e,c⟩
 | dK kvs=>obtain⟨z,y,vs,r,ob,es,ep,e,c⟩:=x;exact⟨z,y,vs,r,ob,es,ep,k _ _ (.inl rfl) e,c⟩
 | dT kvs =>
   obtain⟨z,y,xs,r,ob,es,ep,e,c⟩:=x;exact⟨z,y,xs,Paired.mapP r fun p q z=>⟨z.1,ht _ _ z.2.1,z.2.2⟩,ob,es,ep,k _ _ (.inl rfl) e,c⟩
 | set S n=>obtain⟨ob,es,ep,t,e,c⟩:=x;exact⟨ob,es,ep,t,k _ _ (.inl rfl) e,c⟩
 | ins C dx fs =>
   obtain⟨d,z,ne,e,mA,⟨od,es,ep,e2,c⟩,r⟩:=x;exact⟨ho _ d,z,ne,k _ _ (.inl rfl) e,mA,⟨od,es,ep,k _ _ (.inr d) e2,c⟩,r⟩
 | own y=>obtain⟨ob,e⟩:=x;exact⟨ob,k _ _ (.inl rfl) e⟩
 | xd fs=>obtain⟨mA,⟨od,es,ep,e,c⟩,r⟩:=x;exact⟨mA,⟨od,es,ep,k _ _ (.inl rfl) e,c⟩,r⟩
 | rng lo hi=>obtain⟨t,u,v,e⟩:=x;exact⟨t,u,v,k _ _ (.inl rfl) e⟩
 | frz ob u ih=>obtain⟨e,q⟩:=x;exact⟨k _ _ (.inl rfl) e,ih q⟩
 | tbl ps =>
   have e:h.get? a=some { cls:=.none,data:=.fields ps }:=x;show h'.get? a=some { cls:=.none,data:=.fields ps };exact k a _ (.inl rfl) e
 | met f y =>
   have e:h.get? a=some (PySem.W.methodObj (.ref f) (.ref y)):=x;show h'.get? a=some (PySem.W.methodObj (.ref f) (.ref y));exact k a _ (.inl rfl) e
 | ext φ=>obtain⟨p,⟨o,e⟩,st⟩:=x;exact⟨st _ _ p fun o q=>k _ _ (.inl rfl) q,⟨o,k _ _ (.inl rfl) e⟩,st⟩
theorem HOk.lt(x:HOk P w H h)(e:H a=some o):a < h.objs.size:=(x a o e).lt
theorem HOk.fresh(x:HOk P w H h)(e:h.objs.size<=a):H a=none:=by
 cases q:H a with
 | none=>rfl
 | some u=>exact absurd (Nat.lt_of_lt_of_le (x.lt q) e) (Nat.lt_irrefl _)
theorem HOk.kept(x:HOk P w H h)(k:∀ b u,h.get? b=some u->h'.get? b=some u):HOk P w H h':=fun a o e =>
 (x a o e).stay (fun b u _ q=>k b u q) (fun _ q=>q) fun _ _ q=>q
theorem HOk.laid(x:HOk P w H h)(k:∀ b u,h.get? b=some u->h'.get? b=some u)(hp:h.objs.size<=a)(new:zdc P w (upd H a o) h' a o):HOk P w (upd H a o) h':=fun b u e=>by
 have hn:=x.fresh hp
 by_cases hb:b=a
 . subst hb;rw[zbs] at e;cases e;exact new
 . rw[zav hb] at e;exact (x b u e).stay (fun c v _ q=>k c v q) (fun c q=>by rw[zav (zau q hn)];exact q) fun c xs q=>by rw[zav (zau q hn)];exact q
end
noncomputable def Rd(H:Hp)(a:Addr)(u:HO):Prop:=H a=some u\/∃ o,H a=some (.frz o u)
theorem Rd.ok{P:Program}{w:World}{H:Hp}{h:Heap}{a:Addr}{u:HO}(r:Rd H a u)(x:HOk P w H h):zdc P w H h a u:=by
 rcases r with r | ⟨o,r⟩
 . exact x a u r
 . obtain⟨_,q⟩:=x a _ r;exact q
noncomputable def Mut:Option HO->Prop
 | some (.lst _)=>True
 | some (.dK _)=>True
 | some (.dT _)=>True
 | some (.set _ _)=>True
 | some (.ins _ _ _)=>True
 | some (.ext _)=>True
 | _=>False
section
variable {P:Program} {w:World} {H:Hp} {h h':Heap} {x e:Addr} {o':HO}
theorem HOk.write(ok:HOk P w H h)(mu:Mut (H x))(he:e=x\/H e=some (.own x))(k:∀ b u,b≠e->h.get? b=some u->h'.get? b=some u)(heo:∃ u,h'.get? e=some u)
   (new:zdc P w (upd H x o') h' x o'):HOk P w (upd H x o') h':=fun b u q=>by
 have nown:∀ c y,H c=some (.own y)->c≠x:=fun c y r z=>by subst z;rw[r] at mu;exact mu
 have ntup:∀ c xs,H c=some (.tup xs)->c≠x:=fun c xs r z=>by subst z;rw[r] at mu;exact mu
 by_cases hb:b=x
 . subst hb;rw[zbs] at q;cases q;exact new
 . rw[zav hb] at q
   by_cases hbe:b=e
   . have q':H b=some (.own x):=by
       rcases he with z | z
       . exact absurd (hbe.trans z) hb
       . rw[hbe];exact z
     rw[q] at q';cases q';obtain⟨v,hv⟩:=heo;exact⟨v,by rw[hbe];exact hv⟩
   . refine (ok b u q).stay (fun c v hc r=>k c v ?_ r) (fun c r=>by rw[zav (nown c b r)];exact r) fun c xs r=>by rw[zav (ntup c xs r)];exact r
     rcases hc with rfl | hc
     . exact hbe
     . rintro rfl
       rcases he with z | z
       . exact nown c b hc z
       . rw[hc] at z;cases z;exact hb rfl
end
structure Un(fs ex:List Addr)(H H':Hp)(h h':Heap):Prop where
 keep:∀ b o,h.get? b=some o->H b=none->b ∉ fs->b ∉ ex->h'.get? b=some o
 slot:∀ b o,h.get? b=some o->H b=none->b∈fs->b ∉ ex->∃ sl,h'.get? b=some { o with slots:=sl }
 free:∀ b o,h.get? b=some o->H b=none->b ∉ ex->H' b=none
 there:∀ b o,h.get? b=some o->b ∉ ex->∃ o',h'.get? b=some o'
 tups:∀ b xs,H b=some (.tup xs)->H' b=some (.tup xs)
 frzs:∀ b o u,H b=some (.frz o u)->H' b=some (.frz o u)
 tbls:∀ b ps,H b=some (.tbl ps)->∃ more,H' b=some (.tbl (ps++more))
section
variable {fs fs' ex ex':List Addr} {H H1 H2:Hp} {h h1 h2 h':Heap} {a x e:Addr} {o:HO}
theorem Un.any(u:Un fs ex H H1 h h1){b:Addr}{ob:Obj}(q:h.get? b=some ob)(n:H b=none)(hx:b ∉ ex):∃ sl,h1.get? b=some { ob with slots:=sl }:=by
 by_cases hb:b∈fs
 . exact u.slot b ob q n hb hx
 . exact⟨ob.slots,u.keep b ob q n hb hx⟩
theorem Un.kept(k:∀ b u,h.get? b=some u->h'.get? b=some u):Un fs ex H H h h' :=
 ⟨fun b ob q _ _ _=>k b ob q,fun b ob q _ _ _=>⟨ob.slots,k b ob q⟩,fun _ _ _ n _=>n,fun b ob q _=>⟨ob,k b ob q⟩,fun _ _ q=>q,fun _ _ _ q=>q,fun _ ps q=>⟨#[],by rw[q];simp⟩⟩
theorem Un.refl:Un fs ex H H h h:=Un.kept fun _ _ q=>q
theorem Un.laid(k:∀ b u,h.get? b=some u->h'.get? b=some u)(hp:h.objs.size<=a)(hn:H a=none):Un fs ex H (upd H a o) h h' where
 keep:=fun b u q _ _ _=>k b u q
 slot:=fun b u q _ _ _=>⟨u.slots,k b u q⟩
 free:=fun b u q n _=>by rw[zav (Nat.ne_of_lt (Nat.lt_of_lt_of_le (Heap.lt_size q) hp))];exact n
 there:=fun b u q _=>⟨u,k b u q⟩
 tups:=fun b xs q=>by rw[zav (zau q hn)];exact q
 frzs:=fun b u xs q=>by rw[zav (zau q hn)];exact q
 tbls:=fun b ps q=>⟨#[],by rw[zav (zau q hn),q];simp⟩
theorem Un.write(mu:Mut (H x))(he:e=x\/H e=some (.own x))(k:∀ b u,b≠e->h.get? b=some u->h'.get? b=some u)(heo:∃ u,h'.get? e=some u):Un fs ex H (upd H x o) h h':=by
 have hx:∀ b,H b=none->b≠x:=fun b n z=>by subst z;rw[n] at mu;exact mu
 have hb:∀ b,H b=none->b≠e:=fun b n z=>by
   subst z
   rcases he with r | r
   . exact hx b n r
   . rw[n] at r;cases r
 have hm:∀ b u,H b=some u->¬ Mut (some u)->b≠x:=fun b u q nm z=>by subst z;rw[q] at mu;exact nm mu
 refine⟨fun b u q n _ _=>k b u (hb b n) q,fun b u q n _ _=>⟨u.slots,k b u (hb b n) q⟩,fun b u q n _=>by rw[zav (hx b n)];exact n,fun b u q _=>?_,
   fun b xs q=>by rw[zav (hm b _ q fun z=>z)];exact q,fun b u xs q=>by rw[zav (hm b _ q fun z=>z)];exact q,fun b ps q=>⟨#[],by rw[zav (hm b _ q fun z=>z),q];simp⟩⟩
 by_cases hbe:b=e
 . subst hbe;exact heo
 . exact⟨u,k b u hbe q⟩
end
noncomputable def trk(h:Heap)(H:Hp):List Addr:=(List.range h.objs.size).filter fun a=>(H a).isSome
noncomputable def hidT(h:Heap)(H:Hp):Heap:=PySem.W.hideAll h (trk h H)
theorem zkU(h:Heap)(H:Hp):(hidT h H).objs.size=h.objs.size:=PySem.W.hideAll_size _ _
theorem zm5{h:Heap}{H:Hp}{b:Addr}{o:Obj}(e:h.get? b=some o)(n:H b=none):(hidT h H).get? b=some o :=
 PySem.W.hideAll_get _ e fun hm=>by
   have q:(H b).isSome=true:=(List.mem_filter.mp hm).2;rw[n] at q;simp at q
theorem zoC{h:Heap}{H:Hp}{b:Addr}{o:Obj}(e:(hidT h H).get? b=some o):h.get? b=some o/\H b=none:=by
 have e':h.get? b=some o:=PySem.W.of_hideAll (trk h H) e;refine⟨e',?_⟩
 cases q:H b with
 | none=>rfl
 | some x =>
   have hm:b∈trk h H:=List.mem_filter.mpr ⟨List.mem_range.mpr (Heap.lt_size e'),by simp[q]⟩;have z:(hidT h H).get? b=none:=PySem.W.hideAll_none (trk h H) hm;rw[z] at e;cases e
noncomputable def zed(g h:Heap)(L:Addr):List (Addr×Obj):=(List.range h.objs.size).filterMap fun a=>if a=L\/(g.get? a).isSome=true then none else (h.get? a).map fun o=>(a,o)
theorem zdn{g h:Heap}{L a:Addr}{o:Obj}(h1:a≠L)(h2:g.get? a=none)(h3:h.get? a=some o):(a,o)∈zed g h L :=
 List.mem_filterMap.mpr ⟨a,List.mem_range.mpr (Heap.lt_size h3),by simp[h1,h2,h3]⟩
theorem zfg{g h:Heap}{L:Addr}{p:Addr×Obj}(hp:p∈zed g h L):p.1≠L/\g.get? p.1=none/\h.get? p.1=some p.2:=by
 obtain⟨b,_,e⟩:=List.mem_filterMap.mp hp
 split at e
 . cases e
 . rename_i hn
   cases q:h.get? b with
   | none=>rw[q] at e;simp at e
   | some u =>
     rw[q] at e;simp only[Option.map_some,Option.some.injEq] at e;subst e;refine⟨fun z=>hn (.inl z),?_,q⟩;show g.get? b=none
     cases r:g.get? b with
     | none=>rfl
     | some v=>exact (hn (.inr (by simp[r]))).elim
theorem zgG{g h:Heap}{L:Addr}:News g L h (zed g h L):=fun p hp=>let ⟨a,b,c⟩:=zfg hp;⟨c,a,b⟩
end L2
namespace L2
open PySem PySem.Spec PyProof.Rows
structure Mod(K:PySem.W.Frag)(mg:Str->Option Value)(base:Heap):Prop where
 kin:K.In base
 glob:base.Ns mainGlobals mg
 blt:∃ mb,base.Ns builtinsNs mb/\∀ x:Str,x≠"__name__"->mb x=bootBuiltins x
 nolimit:base.NoLimit
structure Cx where
 prog:Program
 w:World
 K:PySem.W.Frag
 mg:Str->Option Value
 base:Heap
 A:Around
 N:List Str
 s₀:Shared
 H₀:Hp
 env:Env
 outer:List Env
 stack:List Env
 ex:List Addr
 fn:Str->Bool
 calm:Bool
 pn:List (Addr×Obj)
 xe:Value->Shared->Prop
noncomputable def frs(l:List Env):List Addr:=l.filterMap (·.frame)
noncomputable abbrev Cx.fs (X:Cx):List Addr:=frs X.outer
noncomputable def Vis(sc:Scope)(x:Str):Prop:=sc.names.lookup x=some .local\/sc.names.lookup x=some .cell\/sc.names.lookup x=some .free
noncomputable def Loc(sc:Scope)(x:Str):Prop:=sc.names.lookup x=some .local\/sc.names.lookup x=some .cell
noncomputable def Look(env:Env)(h:Heap)(m:Str->Option Value)(x:Str)(u:Value):Prop :=
 (env.kindOf x=some .local/\m x=some u)\/((env.kindOf x=some .cell\/env.kindOf x=some .free)/\∃ c,env.cells.lookup x=some c/\h.IsCell c (some u))
structure Cx.Ok(X:Cx):Prop where
 mod:Mod X.K X.mg X.base
 kind:X.env.scope.kind=.function
 glob:X.env.globals=mainGlobals
 blt:X.env.builtins=builtinsNs
 above:X.s₀.heap.objs.size<=X.env.locals
 inj:∀ x y c,X.env.cells.lookup x=some c->X.env.cells.lookup y=some c->x=y
 has:∀ x,(X.env.kindOf x=some .cell\/X.env.kindOf x=some .free)->∃ c,X.env.cells.lookup x=some c
 cab:∀ x c,X.fn x=true->X.env.cells.lookup x=some c->X.s₀.heap.objs.size<=c
 hd:X.calm=true->X.A.handled=none
 frames:X.A.frames=some X.stack
 stk:X.stack=X.outer\/(X.stack=X.env::X.outer/\X.env.frame=some X.env.locals)
 exf:∀ b∈X.ex,b≠X.env.locals/\∀ x c,X.env.cells.lookup x=some c->c≠b
 bs:∀ b o,X.base.get? b=some o->X.s₀.heap.get? b=some o/\X.H₀ b=none
 bsz:X.base.objs.size<=X.s₀.heap.objs.size
 noex:∀ b o,X.base.get? b=some o->b ∉ X.ex
 exfs:∀ b∈X.ex,b ∉ X.fs
 funs:X.s₀.heap.FunFrames X.base X.outer
 frf:∀ b∈X.fs,X.H₀ b=none
structure Inv(X:Cx)(pins:List (Addr×Obj))(σ:List (Option V))(H:Hp)(s:Shared):Prop where
 ok:X.Ok
 os:s.os=X.s₀.os
 bare:AllBare s.gens
 base:Un X.fs X.ex X.H₀ H X.s₀.heap s.heap
 loc:∃ m,s.heap.Ns X.env.locals m/\∀ (i:Nat) (x:Str) (v:V),X.N[i]?=some x->σ[i]?=some (some v)->Vis X.env.scope x->∃ u,RelV v u/\Look X.env s.heap m x u
 cell:∀ x c,X.env.cells.lookup x=some c->∃ v,s.heap.IsCell c v
 free:H X.env.locals=none
 freeC:∀ x c,X.env.cells.lookup x=some c->H c=none
 pin:∀ p∈X.pn++pins,s.heap.get? p.1=some p.2/\H p.1=none/\p.1≠X.env.locals/\p.1 ∉ X.fs/\∀ v,p.2.data≠.cell v
 hok:HOk X.prog X.w H s.heap
 len:σ.length=X.N.length
section
variable {X:Cx} {pins:List (Addr×Obj)} {σ:List (Option V)} {H H':Hp} {s:Shared} {h':Heap}
theorem Cx.Ok.nofr(ok:X.Ok){b:Addr}{o:Obj}(e:X.base.get? b=some o):b ∉ X.fs:=fun hb=>by
 have:=(ok.funs.mem hb).1;rw[e] at this;cases this
theorem Inv.bs(I:Inv X pins σ H s):∀ b o,X.base.get? b=some o->s.heap.get? b=some o/\H b=none:=fun b o e =>
 ⟨I.base.keep b o (I.ok.bs b o e).1 (I.ok.bs b o e).2 (I.ok.nofr e) (I.ok.noex b o e),I.base.free b o (I.ok.bs b o e).1 (I.ok.bs b o e).2 (I.ok.noex b o e)⟩
theorem Inv.bk(I:Inv X pins σ H s):∀ b o,X.base.get? b=some o->s.heap.get? b=some o:=fun b o e=>(I.bs b o e).1
theorem Inv.mod(I:Inv X pins σ H s):Mod X.K X.mg X.base:=I.ok.mod
theorem Inv.kIn(I:Inv X pins σ H s):X.K.In s.heap:=I.ok.mod.kin.keeps I.bk
theorem Inv.fr(I:Inv X pins σ H s):∃ m,Fr X.base X.env.locals s.heap m :=
 let ⟨m,hn,_⟩:=I.loc
 ⟨m,hn,I.bk,Nat.le_trans I.ok.bsz I.ok.above⟩
theorem Inv.lt(I:Inv X pins σ H s):X.env.locals < s.heap.objs.size:=let ⟨_,hn,_⟩:=I.loc;hn.lt
theorem Inv.sz(I:Inv X pins σ H s):X.s₀.heap.objs.size<=s.heap.objs.size:=Nat.le_trans I.ok.above (Nat.le_of_lt I.lt)
theorem Inv.nofs(I:Inv X pins σ H s){a:Addr}(h:s.heap.objs.size<=a):a ∉ X.fs:=fun hb=>by
 obtain⟨_,o,ho,_⟩:=I.ok.funs.mem hb;exact absurd (Nat.lt_of_lt_of_le (Heap.lt_size ho) (Nat.le_trans I.sz h)) (Nat.lt_irrefl _)
theorem Inv.cne(I:Inv X pins σ H s):∀ x c,X.env.cells.lookup x=some c->c≠X.env.locals:=fun x c e z=>by
 obtain⟨v,o,ho,hd⟩:=I.cell x c e;obtain⟨m,⟨o',es,ep,ho',hd',_⟩,_⟩:=I.loc;rw[z,ho'] at ho;cases ho;rw[hd'] at hd;cases hd
theorem Inv.funs(I:Inv X pins σ H s):s.heap.FunFrames X.base X.outer:=by
 have all:∀ (l:List Env),(∀ b∈frs l,b∈X.fs)->X.s₀.heap.FunFrames X.base l->s.heap.FunFrames X.base l:=by
   intro l
   induction l with
   | nil=>intro _ _;trivial
   | cons env r ih =>
     intro hs hl;obtain⟨hk,⟨L,o,hf,hn,ho,hd⟩,hr⟩:=hl;have hL:L∈X.fs:=hs L (by unfold frs;rw[List.filterMap_cons,hf];exact List.mem_cons_self);obtain⟨sl,e⟩:=I.base.slot L o ho (I.ok.frf L hL) hL fun z=>I.ok.exfs L z hL;exact⟨hk,⟨L,_,hf,hn,e,hd⟩,ih (fun b hb=>hs b (by unfold frs;rw[List.filterMap_cons,hf];exact List.mem_cons_of_mem _ hb)) hr⟩
 exact all X.outer (fun _ hb=>hb) I.ok.funs
theorem Inv.stack(I:Inv X pins σ H s):s.heap.FunFrames X.base X.stack:=by
 rcases I.ok.stk with e | ⟨e,hf⟩
 . rw[e];exact I.funs
 . rw[e];obtain⟨m,hn,_⟩:=I.loc;refine .cons (by rw[I.ok.kind];decide) hf hn ?_ I.funs;exact Heap.get?_none_of_le (Nat.le_trans I.ok.bsz I.ok.above)
theorem Inv.stkSub(I:Inv X pins σ H s):∀ b∈frs X.stack,b∈X.env.locals::X.fs:=fun b hb=>by
 rcases I.ok.stk with e | ⟨e,hf⟩
 . rw[e] at hb;exact List.mem_cons_of_mem _ hb
 . rw[e] at hb;unfold frs at hb;rw[List.filterMap_cons,hf] at hb;exact hb
theorem Inv.stkFree(I:Inv X pins σ H s):∀ b∈frs X.stack,H b=none:=fun b hb=>by
 rcases List.mem_cons.mp (I.stkSub b hb) with e | hb
 . rw[e];exact I.free
 . obtain⟨_,o,ho,_⟩:=I.ok.funs.mem hb;exact I.base.free b o ho (I.ok.frf b hb) fun z=>I.ok.exfs b z hb
theorem Inv.step{g':Array GenState}{t':Nat}{d':Drawn}{ch:List Addr}(I:Inv X pins σ H s)
   (hch:∀ b∈ch,(b∈X.ex\/X.s₀.heap.objs.size<=b)/\b≠X.env.locals/\(∀ x c,X.env.cells.lookup x=some c->c≠b)/\∀ p∈X.pn++pins,p.1≠b)
   (keep:∀ b o,b≠X.env.locals->b ∉ X.fs->b ∉ ch->s.heap.get? b=some o->H b=none->h'.get? b=some o)
   (slot:∀ b o,b≠X.env.locals->b∈X.fs->b ∉ ch->s.heap.get? b=some o->H b=none->∃ sl,h'.get? b=some { o with slots:=sl }) (free:∀ b o,b ∉ ch->s.heap.get? b=some o->H b=none->H' b=none)
   (there:∀ b o,b ∉ ch->s.heap.get? b=some o->∃ o',h'.get? b=some o')
   (tups:∀ b xs,H b=some (.tup xs)->H' b=some (.tup xs)) (frzs:∀ b o u,H b=some (.frz o u)->H' b=some (.frz o u)) (tbls:∀ b ps,H b=some (.tbl ps)->∃ more,H' b=some (.tbl (ps++more)))
   (ns:∀ m,s.heap.Ns X.env.locals m->h'.Ns X.env.locals m) (hok:HOk X.prog X.w H' h') (hg:AllBare g') :
   Inv X pins σ H' { s with heap:=h',gens:=g',drawn:=d',toks:=t' }:=by
 have neL:∀ b o,X.s₀.heap.get? b=some o->b≠X.env.locals:=fun b o e=>Nat.ne_of_lt (Nat.lt_of_lt_of_le (Heap.lt_size e) I.ok.above);have neC:∀ b o,X.s₀.heap.get? b=some o->b ∉ X.ex->b ∉ ch:=fun b o e hx hb=>by
   rcases (hch b hb).1 with z | z
   . exact hx z
   . exact absurd (Nat.lt_of_lt_of_le (Heap.lt_size e) z) (Nat.lt_irrefl _)
 have cellK:∀ x c,X.env.cells.lookup x=some c->∀ v,s.heap.IsCell c v->h'.IsCell c v:=by
   rintro x c e v ⟨o,ho,hd⟩;have nch:c ∉ ch:=fun z=>(hch c z).2.2.1 x c e rfl
   by_cases hc:c∈X.fs
   . obtain⟨sl,q⟩:=slot c o (I.cne x c e) hc nch ho (I.freeC x c e);exact⟨_,q,hd⟩
   . exact⟨o,keep c o (I.cne x c e) hc nch ho (I.freeC x c e),hd⟩
 refine⟨I.ok,I.os,hg,⟨fun b o e n hb hx=>?_,fun b o e n hb hx=>?_,fun b o e n hx=>?_,fun b o e hx=>?_,fun b xs e=>tups b xs (I.base.tups b xs e),fun b o xs e=>frzs b o xs (I.base.frzs b o xs e),fun b ps e=>?_⟩,?_,fun x c e=>?_,?_,fun x c e=>?_,fun p hp=>?_,hok,I.len⟩
 . exact keep b o (neL b o e) hb (neC b o e hx) (I.base.keep b o e n hb hx) (I.base.free b o e n hx)
 . obtain⟨sl,e1⟩:=I.base.slot b o e n hb hx;obtain⟨sl',e2⟩:=slot b _ (neL b o e) hb (neC b o e hx) e1 (I.base.free b o e n hx);exact⟨sl',e2⟩
 . obtain⟨o',e1⟩:=I.base.there b o e hx;exact free b o' (neC b o e hx) e1 (I.base.free b o e n hx)
 . obtain⟨o',e1⟩:=I.base.there b o e hx;exact there b o' (neC b o e hx) e1
 . obtain⟨m1,e1⟩:=I.base.tbls b ps e;obtain⟨m2,e2⟩:=tbls b _ e1;exact⟨m1++m2,by rw[e2,Array.append_assoc]⟩
 . obtain⟨m,hn,hl⟩:=I.loc;refine⟨m,ns m hn,fun i x v e1 e2 e3=>?_⟩;obtain⟨u,r,l⟩:=hl i x v e1 e2 e3;refine⟨u,r,?_⟩
   rcases l with l | ⟨k,c,e,z⟩
   . exact .inl l
   . exact .inr ⟨k,c,e,cellK x c e _ z⟩
 . obtain⟨v,z⟩:=I.cell x c e;exact⟨v,cellK x c e v z⟩
 . obtain⟨m,⟨o,_,_,ho,_⟩,_⟩:=I.loc;exact free _ o (fun z=>(hch _ z).2.1 rfl) ho I.free
 . obtain⟨v,o,ho,hd⟩:=I.cell x c e;exact free c o (fun z=>(hch c z).2.2.1 x c e rfl) ho (I.freeC x c e)
 . obtain⟨e,n,ne,nf,d⟩:=I.pin p hp;have nch:p.1 ∉ ch:=fun z=>(hch p.1 z).2.2.2 p hp rfl;exact⟨keep p.1 p.2 ne nf nch e n,free p.1 p.2 nch e n,ne,nf,d⟩
theorem Inv.un{t':Nat}(I:Inv X pins σ H s)(u:Un X.fs [] H H' s.heap h')(hok:HOk X.prog X.w H' h'):Inv X pins σ H' { s with heap:=h',toks:=t' }:=by
 obtain⟨m,⟨o,es,ep,ho,r⟩,_⟩:=id I.loc;obtain⟨sl,hL⟩:=u.any ho I.free (by simp);exact I.step (g':=s.gens) (d':=s.drawn) (ch:=[]) (fun _ z=>nomatch z) (fun b o _ hb _ e n=>u.keep b o e n hb (by simp)) (fun b o _ hb _ e n=>u.slot b o e n hb (by simp)) (fun b o _ e n=>u.free b o e n (by simp)) (fun b o _ e=>u.there b o e (by simp)) u.tups u.frzs u.tbls (fun m' hm=>by
   obtain⟨o',es',ep',ho',r'⟩:=hm;rw[ho] at ho';cases ho';exact⟨_,es',ep',hL,r'⟩) hok I.bare
theorem Inv.call{g':Array GenState}{t':Nat}{d':Drawn}{ch:List Addr}(I:Inv X pins σ H s)(u:Un (frs X.stack) ch H H' s.heap h')(hok:HOk X.prog X.w H' h')(hg:AllBare g')
   (hch:∀ b∈ch,(b∈X.ex\/X.s₀.heap.objs.size<=b)/\b≠X.env.locals/\(∀ x c,X.env.cells.lookup x=some c->c≠b)/\∀ p∈X.pn++pins,p.1≠b) :
   Inv X pins σ H' { s with heap:=h',gens:=g',drawn:=d',toks:=t' }:=by
 obtain⟨m,⟨o,es,ep,ho,r⟩,_⟩:=id I.loc;obtain⟨sl,hL⟩:=u.any ho I.free fun z=>(hch _ z).2.1 rfl;exact I.step (ch:=ch) hch (fun b o hL hb hc e n=>u.keep b o e n (fun z=>(List.mem_cons.mp (I.stkSub b z)).elim hL hb) hc) (fun b o _ _ hc e n=>u.any e n hc) (fun b o hc e n=>u.free b o e n hc) (fun b o hc e=>u.there b o e hc) u.tups u.frzs u.tbls (fun m' hm=>by
   obtain⟨o',es',ep',ho',r'⟩:=hm;rw[ho] at ho';cases ho';exact⟨_,es',ep',hL,r'⟩) hok hg
theorem Inv.turned{t':Nat}{it:Addr}(I:Inv X pins σ H s)(k:∀ b o,b≠it->s.heap.get? b=some o->h'.get? b=some o)(hn:H it=none)(hL:it≠X.env.locals)
   (h1:it∈X.ex\/X.s₀.heap.objs.size<=it) (h2:∀ x c,X.env.cells.lookup x=some c->c≠it) (h3:∀ p∈X.pn++pins,p.1≠it):Inv X pins σ H { s with heap:=h',toks:=t' }:=by
 have nit:∀ b u,H b=some u->b≠it:=fun b u e z=>by rw[z,hn] at e;cases e
 refine I.step (g':=s.gens) (d':=s.drawn) (ch:=[it]) (fun b hb=>?_) (fun b o _ _ hc e _=>k b o (fun z=>hc (by simp[z])) e) (fun b o _ _ hc e _=>⟨o.slots,k b o (fun z=>hc (by simp[z])) e⟩) (fun _ _ _ _ n=>n)
   (fun b o hc e=>⟨o,k b o (fun z=>hc (by simp[z])) e⟩) (fun _ _ e=>e) (fun _ _ _ e=>e) (fun b ps e=>⟨#[],by rw[e];simp⟩) (fun m hm=>?_) (fun b u e=>?_) I.bare
 . have e:b=it:=by simpa using hb
   subst e;exact⟨h1,hL,h2,h3⟩
 . obtain⟨o,es,ep,ho,r⟩:=hm;exact⟨o,es,ep,k _ o (Ne.symm hL) ho,r⟩
 . refine (I.hok b u e).stay (fun c v hc q=>k c v ?_ q) (fun _ q=>q) fun _ _ q=>q
   rcases hc with z | z
   . rw[z];exact nit b u e
   . exact nit c _ z
theorem Inv.tok(I:Inv X pins σ H s)(t:Nat):Inv X pins σ H { s with toks:=t }:=I.un (h':=s.heap) (t':=t) Un.refl I.hok
theorem Inv.kept{t':Nat}(I:Inv X pins σ H s)(k:∀ b u,s.heap.get? b=some u->h'.get? b=some u):Inv X pins σ H { s with heap:=h',toks:=t' }:=I.un (Un.kept k) (I.hok.kept k)
theorem Inv.laid{a:Addr}{o:HO}{t':Nat}(I:Inv X pins σ H s)(k:∀ b u,s.heap.get? b=some u->h'.get? b=some u)(hp:s.heap.objs.size<=a)(new:zdc X.prog X.w (upd H a o) h' a o) :
   Inv X pins σ (upd H a o) { s with heap:=h',toks:=t' }:=I.un (Un.laid k hp (I.hok.fresh hp)) (I.hok.laid k hp new)
theorem Inv.write{x e:Addr}{o:HO}{t':Nat}(I:Inv X pins σ H s)(mu:Mut (H x))(he:e=x\/H e=some (.own x))(k:∀ b u,b≠e->s.heap.get? b=some u->h'.get? b=some u)(heo:∃ u,h'.get? e=some u)
   (new:zdc X.prog X.w (upd H x o) h' x o):Inv X pins σ (upd H x o) { s with heap:=h',toks:=t' }:=I.un (Un.write mu he k heo) (I.hok.write mu he k heo new)
theorem Inv.pins_of{pins':List (Addr×Obj)}(I:Inv X pins σ H s)(h:∀ p∈pins',s.heap.get? p.1=some p.2/\H p.1=none/\p.1≠X.env.locals/\p.1 ∉ X.fs/\∀ v,p.2.data≠.cell v):Inv X pins' σ H s :=
 ⟨I.ok,I.os,I.bare,I.base,I.loc,I.cell,I.free,I.freeC,fun p hp=>(List.mem_append.mp hp).elim (fun z=>I.pin p (List.mem_append_left _ z)) (h p),I.hok,I.len⟩
theorem zi5{N:List Str}(hN:N.Nodup){i j:Nat}{x:Str}(a:N[i]?=some x)(b:N[j]?=some x):i=j:=by
 obtain⟨h1,e1⟩:=List.getElem?_eq_some_iff.mp a;obtain⟨h2,e2⟩:=List.getElem?_eq_some_iff.mp b;exact (List.getElem_inj hN).mp (e1.trans e2.symm)
theorem zgX{M:Model}{A:Around}{E:Value->Shared->Prop}{i:Nat}{x:Str}{v:V}{u:Value}{Q:Unit->Shared->Prop}(I:Inv X pins σ H s)(hN:X.N.Nodup)(hi:X.N[i]?=some x)(hx:Loc X.env.scope x)(r:RelV v u)
   (h:∀ s',Inv X pins (σ.set i (some v)) H s'->(∃ a,Heap.SameBut a s.heap s'.heap/\(a=X.env.locals\/X.env.cells.lookup x=some a))->Q () s') (hf:X.fn x=true\/X.env.scope.names.lookup x=some .local:=by first | exact .inl rfl | exact .inr rfl | assumption):wpAny M A (storeName X.env x u) Q E s:=by
 obtain⟨m,hn,hl⟩:=id I.loc;have hcls:(X.env.scope.kind==.class || (X.env.scope.kind==.module&&X.env.locals != X.env.globals))=false:=by rw[I.ok.kind];rfl
 have hiσ:i < σ.length:=by rw[I.len];exact (List.getElem?_eq_some_iff.mp hi).1
 have cne:=I.cne;have tracked:∀ {a:Addr} {h':Heap},(∃ o,s.heap.get? a=some o/\H a=none)->Heap.SameBut a s.heap h'->HOk X.prog X.w H h':=fun {a h'} ha hs b ob e=>by
   obtain⟨_,_,hfree⟩:=ha;refine (I.hok b ob e).stay (fun c w' hc q=>(hs.2 c ?_).trans q) (fun _ q=>q) fun _ _ q=>q;rintro rfl
   rcases hc with rfl | hc
   . rw[hfree] at e;cases e
   . rw[hfree] at hc;cases hc
 rcases hx with hk | hk
 . refine wpAny_storeName_local hk hn (fun h' hn' hs=>?_) hcls;obtain⟨oL,_,_,hoL,_⟩:=id hn;refine h _ ⟨I.ok,I.os,I.bare,⟨fun b o e n hb hx=>?_,fun b o e n hb hx=>?_,I.base.free,fun b o e hx=>?_,I.base.tups,I.base.frzs,I.base.tbls⟩,⟨_,hn',fun j y v' e1 e2 e3=>?_⟩,fun y c e=>?_,I.free,I.freeC,fun p hp=>?_,tracked ⟨oL,hoL,I.free⟩ hs,by simpa using I.len⟩ ⟨_,hs,.inl rfl⟩
   . exact (hs.2 b (Nat.ne_of_lt (Nat.lt_of_lt_of_le (Heap.lt_size e) I.ok.above))).trans (I.base.keep b o e n hb hx)
   . obtain⟨sl,e1⟩:=I.base.slot b o e n hb hx;exact⟨sl,(hs.2 b (Nat.ne_of_lt (Nat.lt_of_lt_of_le (Heap.lt_size e) I.ok.above))).trans e1⟩
   . obtain⟨o',e1⟩:=I.base.there b o e hx;exact⟨o',(hs.2 b (Nat.ne_of_lt (Nat.lt_of_lt_of_le (Heap.lt_size e) I.ok.above))).trans e1⟩
   . by_cases hj:j=i
     . subst hj;rw[hi] at e1;cases e1;rw[List.getElem?_set_self hiσ] at e2;cases e2;exact⟨u,r,.inl ⟨hk,by simp⟩⟩
     . rw[List.getElem?_set_ne (Ne.symm hj)] at e2;obtain⟨u',r',q⟩:=hl j y v' e1 e2 e3;refine⟨u',r',?_⟩
       rcases q with ⟨k,e⟩ | ⟨k,c,e,z⟩
       . refine .inl ⟨k,?_⟩;have:y≠x:=fun e=>hj (zi5 hN e1 (e ▸ hi));simp[this,e]
       . exact .inr ⟨k,c,e,z.sameBut hs (cne y c e)⟩
   . obtain⟨w',z⟩:=I.cell y c e;exact⟨w',z.sameBut hs (cne y c e)⟩
   . obtain⟨e,n,ne,nf,d⟩:=I.pin p hp;exact⟨(hs.2 p.1 ne).trans e,n,ne,nf,d⟩
 . have hfn:X.fn x=true:=by
     rcases hf with z | z
     . exact z
     . rw[z] at hk;cases hk
   obtain⟨c,hc⟩:=I.ok.has x (.inl hk);obtain⟨w',z⟩:=I.cell x c hc;refine wpAny_storeName_cell I.ok.kind hk hc z (fun h' hc' hs=>?_);obtain⟨oc,hoc,hocd⟩:=id z;refine h { s with heap:=h' } ⟨I.ok,I.os,I.bare,⟨fun b o e n hb hx=>?_,fun b o e n hb hx=>?_,I.base.free,fun b o e hx=>?_,I.base.tups,I.base.frzs,I.base.tbls⟩,⟨m,hn.sameBut hs (Ne.symm (cne x c hc)),fun j y v' e1 e2 e3=>?_⟩,fun y c' e=>?_,I.free,I.freeC,fun p hp=>?_,tracked ⟨oc,hoc,I.freeC x c hc⟩ hs,by simpa using I.len⟩ ⟨c,hs,.inr hc⟩
   . exact (hs.2 b (Nat.ne_of_lt (Nat.lt_of_lt_of_le (Heap.lt_size e) (I.ok.cab x c hfn hc)))).trans (I.base.keep b o e n hb hx)
   . obtain⟨sl,e1⟩:=I.base.slot b o e n hb hx;exact⟨sl,(hs.2 b (Nat.ne_of_lt (Nat.lt_of_lt_of_le (Heap.lt_size e) (I.ok.cab x c hfn hc)))).trans e1⟩
   . obtain⟨o',e1⟩:=I.base.there b o e hx;exact⟨o',(hs.2 b (Nat.ne_of_lt (Nat.lt_of_lt_of_le (Heap.lt_size e) (I.ok.cab x c hfn hc)))).trans e1⟩
   . by_cases hj:j=i
     . subst hj;rw[hi] at e1;cases e1;rw[List.getElem?_set_self hiσ] at e2;cases e2;exact⟨u,r,.inr ⟨.inl hk,c,hc,hc'⟩⟩
     . rw[List.getElem?_set_ne (Ne.symm hj)] at e2;obtain⟨u',r',q⟩:=hl j y v' e1 e2 e3;refine⟨u',r',?_⟩
       rcases q with q | ⟨k,c',e,z'⟩
       . exact .inl q
       . refine .inr ⟨k,c',e,z'.sameBut hs ?_⟩;rintro rfl;exact hj (zi5 hN e1 (I.ok.inj _ _ _ e hc ▸ hi))
   . by_cases hcc:c'=c
     . subst hcc;exact⟨_,hc'⟩
     . obtain⟨w2,z2⟩:=I.cell y c' e;exact⟨w2,z2.sameBut hs hcc⟩
   . obtain⟨e,n,ne,nf,d⟩:=I.pin p hp;refine⟨(hs.2 p.1 ?_).trans e,n,ne,nf,d⟩;intro q;rw[q,hoc] at e;have q':oc=p.2:=Option.some.inj e;exact d w' (by rw[<-q'];exact hocd)
theorem zeP{M:Model}{A:Around}{E:Value->Shared->Prop}{i:Nat}{x:Str}{v:V}{u:Value}{Q:Unit->Shared->Prop}(I:Inv X pins σ H s)(hN:X.N.Nodup)(hi:X.N[i]?=some x)(hx:Loc X.env.scope x)(r:RelV v u)
   (h:∀ s',Inv X pins (σ.set i (some v)) H s'->Q () s') (hf:X.fn x=true\/X.env.scope.names.lookup x=some .local:=by first | exact .inl rfl | exact .inr rfl | assumption):wpAny M A (storeName X.env x u) Q E s :=
 zgX I hN hi hx r (fun s' I' _=>h s' I') hf
theorem Inv.call'{s':Shared}{ch:List Addr}(I:Inv X pins σ H s)(ho:s'.os=s.os)(u:Un (frs X.stack) ch H H' s.heap s'.heap)(hok:HOk X.prog X.w H' s'.heap)(hg:AllBare s'.gens)
   (hch:∀ b∈ch,(b∈X.ex\/X.s₀.heap.objs.size<=b)/\b≠X.env.locals/\(∀ x c,X.env.cells.lookup x=some c->c≠b)/\∀ p∈X.pn++pins,p.1≠b):Inv X pins σ H' s':=by
 obtain⟨h',g',d',t',o'⟩:=s';have e:o'=s.os:=ho;subst e;exact I.call (g':=g') (t':=t') (d':=d') u hok hg hch
end
noncomputable abbrev XK:=Value->Option Addr->Hp->Prop
noncomputable abbrev St:=List (Option V)
noncomputable abbrev VK:=V->Hp->Prop
noncomputable abbrev TE:=St->Hp->VK->Prop
noncomputable abbrev TT:=St->Hp->(Bool->Hp->Prop)->Prop
noncomputable abbrev TA:=St->Hp->(List V->Hp->Prop)->Prop
structure Ends where
 nx:St->Hp->Prop
 rt:VK
 bk:St->Hp->Prop:=fun _ _=>False
 ct:St->Hp->Prop:=fun _ _=>False
noncomputable abbrev TS:=Ends->St->Hp->Prop
noncomputable def EP(X:Cx)(pins:List (Addr×Obj))(σ:St)(Q:VK)(u:Value)(s':Shared):Prop:=∃ v H',Inv X pins σ H' s'/\RelV v u/\Q v H'
noncomputable def TP(X:Cx)(pins:List (Addr×Obj))(σ:St)(Q:Bool->Hp->Prop)(b:Bool)(s':Shared):Prop:=∃ H',Inv X pins σ H' s'/\Q b H'
noncomputable def AP(X:Cx)(pins:List (Addr×Obj))(σ:St)(Q:List V->Hp->Prop)(us:List Value)(s':Shared):Prop:=∃ vs H',Inv X pins σ H' s'/\Vals vs us/\Q vs H'
noncomputable def SP(X:Cx)(pins:List (Addr×Obj))(D:Ends)(f:Flow)(s':Shared):Prop :=
 match f with
 | .next=>∃ σ' H',Inv X pins σ' H' s'/\D.nx σ' H'
 | .brk=>∃ σ' H',Inv X pins σ' H' s'/\D.bk σ' H'
 | .cont=>∃ σ' H',Inv X pins σ' H' s'/\D.ct σ' H'
 | .ret u=>∃ v σ' H',Inv X pins σ' H' s'/\RelV v u/\D.rt v H'
noncomputable def PE(X:Cx)(e:Expr)(t:TE):Prop :=
 ∀ (pins:List (Addr×Obj)) (s:Shared) (σ:St) (H:Hp) (Q:VK),Inv X pins σ H s->t σ H Q->wpAny (model X.prog X.w) X.A (eval e X.env) (EP X pins σ Q) X.xe s
noncomputable def PT(X:Cx)(e:Expr)(t:TT):Prop :=
 ∀ (pins:List (Addr×Obj)) (s:Shared) (σ:St) (H:Hp) (Q:Bool->Hp->Prop),Inv X pins σ H s->t σ H Q->wpAny (model X.prog X.w) X.A (isTrue e X.env (eval e X.env)) (TP X pins σ Q) X.xe s
noncomputable def PW(X:Cx)(e:Expr)(t:TT):Prop :=
 ∀ (whole:Sem Value) (pins:List (Addr×Obj)) (s:Shared) (σ:St) (H:Hp) (Q:Bool->Hp->Prop),Inv X pins σ H s->t σ H Q->wpAny (model X.prog X.w) X.A (isTrue e X.env whole) (TP X pins σ Q) X.xe s
theorem PW.pt{X:Cx}{e:Expr}{t:TT}(h:PW X e t):PT X e t:=h _
noncomputable def PA(X:Cx)(es:List Expr)(t:TA):Prop :=
 ∀ (pos:Pos) (pins:List (Addr×Obj)) (s:Shared) (σ:St) (H:Hp) (Q:List V->Hp->Prop),Inv X pins σ H s->t σ H Q->wpAny (model X.prog X.w) X.A (spliced (backTo pos (starEach es X.env))) (AP X pins σ Q) X.xe s
noncomputable def PS(X:Cx)(st:Stmt)(t:TS):Prop :=
 ∀ (pins:List (Addr×Obj)) (s:Shared) (σ:St) (H:Hp) (D:Ends),Inv X pins σ H s->t D σ H->wpAny (model X.prog X.w) X.A (exec st X.env) (SP X pins D) X.xe s
noncomputable def PSs(X:Cx)(st:List Stmt)(t:TS):Prop :=
 ∀ (pins:List (Addr×Obj)) (s:Shared) (σ:St) (H:Hp) (D:Ends),Inv X pins σ H s->t D σ H->wpAny (model X.prog X.w) X.A (execs st X.env) (SP X pins D) X.xe s
theorem thn{α:Type}{t:Sem α}{Q Q':α->Shared->Prop}{M:Model}{A:Around}{E:Value->Shared->Prop}{s:Shared}(h:wpAny M A t Q E s)(hQ:∀ a s,Q a s->Q' a s):wpAny M A t Q' E s:=wpAny_mono h hQ fun _ _ x=>x
end L2
namespace L2
open PySem PySem.Spec PyProof.Rows
section
variable {X:Cx}
noncomputable def tVar(i:Nat):TE:=fun σ H Q=>∃ v,σ[i]?=some (some v)/\Q v H
noncomputable def tC(v:V):TE:=fun _ H Q=>Q v H
theorem zqx{i:Nat}{x:Str}{pos:Pos}(hN:X.N[i]?=some x)(hv:Vis X.env.scope x)(hd:(x==("__debug__":Str))=false:=by decide)(hcd:(x==("__classdict__":Str))=false:=by decide):PE X (.Name x pos) (tVar i):=by
 intro pins s σ H Q I h;obtain⟨v,e,h⟩:=h;obtain⟨m,hn,hl⟩:=I.loc;obtain⟨u,r,l⟩:=hl i x v hN e hv;have fin:EP X pins σ Q u s:=⟨v,H,I,r,h⟩
 rcases l with ⟨hk,hm⟩ | ⟨hk,c,hc,hcell⟩
 . exact wpAny_Name (wpAny_loadName_local I.ok.kind hk hn hm fin) hd
 . rcases hk with hk | hk
   . exact wpAny_Name (wpAny_loadName_cell I.ok.kind hk hc hcell fin) hd
   . exact wpAny_Name (wpAny_loadName_free I.ok.kind hk hc hcell fin hcd) hd
theorem zqE{i j pos}:PE X (.Constant (.int i) j pos) (tC (.int i)):=fun _ _ _ H _ I h=>wpAny_Constant_int ⟨.int i,H,I.tok _,⟨_,rfl⟩,h⟩
theorem zsm{b j pos}:PE X (.Constant (.bool b) j pos) (tC (.bl b)):=fun _ _ _ H _ I h=>Constant_bool ⟨.bl b,H,I,rfl,h⟩
theorem zqC{j pos}:PE X (.Constant .none j pos) (tC .non):=fun _ _ _ H _ I h=>Constant_none ⟨.non,H,I,rfl,h⟩
theorem zqz{x j pos}:PE X (.Constant (.str x) j pos) (tC (.str x)):=fun _ _ _ H _ I h=>Calls.Constant_str ⟨.str x,H,I.tok _,⟨_,rfl⟩,h⟩
noncomputable def Gl(X:Cx)(x:Str):Prop:=X.env.kindOf x=some .globalImplicit
theorem zoY{E:Value->Shared->Prop}{pins:List (Addr×Obj)}{s:Shared}{σ:St}{H:Hp}{x:Str}{u:Value}{pos:Pos}{Q:Value->Shared->Prop}(I:Inv X pins σ H s)(hg:Gl X x)(hm:X.mg x=some u)(h:Q u s)
   (hd:(x==("__debug__":Str))=false:=by decide):wpAny (model X.prog X.w) X.A (eval (.Name x pos) X.env) Q E s :=
 Calls.Name_function_global I.ok.kind hg (Calls.loadGlobal_global (by rw[I.ok.glob];exact I.mod.glob.keeps I.bk) hm h) hd
theorem zhZ{E:Value->Shared->Prop}{pins:List (Addr×Obj)}{s:Shared}{σ:St}{H:Hp}{x:Str}{u:Value}{pos:Pos}{Q:Value->Shared->Prop}(I:Inv X pins σ H s)(hg:Gl X x)(hm:X.mg x=none)(hv:bootBuiltins x=some u)(h:Q u s)
   (hn:x≠"__name__":=by decide) (hd:(x==("__debug__":Str))=false:=by decide):wpAny (model X.prog X.w) X.A (eval (.Name x pos) X.env) Q E s:=by
 obtain⟨mb,h1,h2⟩:=I.mod.blt;exact Calls.Name_function_global I.ok.kind hg (Calls.loadGlobal_builtin (by rw[I.ok.glob];exact I.mod.glob.keeps I.bk) hm (by rw[I.ok.blt];exact h1.keeps I.bk) ((h2 x hn).trans hv) h) hd
theorem zos{x:Str}{v:V}{u:Value}{pos:Pos}(hg:Gl X x)(hm:X.mg x=none)(hv:bootBuiltins x=some u)(r:RelV v u)(hn:x≠"__name__":=by decide)(hd:(x==("__debug__":Str))=false:=by decide):PE X (.Name x pos) (tC v) :=
 fun _ _ _ H _ I h=>zhZ I hg hm hv ⟨v,H,I,r,h⟩ hn hd
variable {a b:Expr} {ta tb:TE} {pos:Pos}
noncomputable def PC(X:Cx)(op:CmpOp)(a b:Expr)(t:TE):Prop :=
 ∀ (pins:List (Addr×Obj)) (s:Shared) (σ:St) (H:Hp) (Q:VK),Inv X pins σ H s->t σ H Q ->
   wpAny (model X.prog X.w) X.A (eval a X.env) (fun v s₁=>wpAny (model X.prog X.w) X.A (eval b X.env) (fun u s₂=>wpAny (model X.prog X.w) X.A (compareOp op v u) (EP X pins σ Q) X.xe s₂) X.xe s₁) X.xe s
noncomputable def tB(t:TE):TT:=fun σ H Q=>t σ H fun x H1=>∃ c,x=.bl c/\Q c H1
theorem zof{op:CmpOp}{t:TE}(h:PC X op a b t)(h1:behindInMarks op b=false:=by first | exact nobehind _ (by decide) (by decide) | rfl):PT X (.Compare a [op] [b] pos) (tB t):=by
 intro pins s σ H Q I hw;refine wpAny_isTrue_Compare1 (thn (h pins s σ H _ I hw) fun v s1 h1=>thn h1 fun u s2 h2=>thn h2 ?_) h1;rintro c s3 ⟨x,H1,I1,r1,q1⟩;obtain⟨d,rfl,q⟩:=q1;cases r1;exact wpAny_truthy_bool ⟨H1,I1,q⟩
variable {tA tB':TT} {rest:List Expr}
noncomputable def tAnd(t u:TT):TT:=fun σ H Q=>t σ H fun c H1=>if c=true then u σ H1 Q else Q false H1
noncomputable def tOr(t u:TT):TT:=fun σ H Q=>t σ H fun c H1=>if c=true then Q true H1 else u σ H1 Q
noncomputable def tNot(t:TT):TT:=fun σ H Q=>t σ H fun c H1=>Q (!c) H1
theorem pw_and1(ha:PT X a tA):PW X (.BoolOp .And [a] pos) tA:=by
 intro wh pins s σ H Q I h;refine isTrue_and (thn (ha pins s σ H Q I h) fun c s1 e=>?_)
 cases c with
 | true=>exact isTrue_and_nil e
 | false=>exact e
theorem pw_or1(ha:PT X a tA):PW X (.BoolOp .Or [a] pos) tA:=by
 intro wh pins s σ H Q I h;refine isTrue_or (thn (ha pins s σ H Q I h) fun c s1 e=>?_)
 cases c with
 | false=>exact isTrue_or_nil e
 | true=>exact e
theorem pw_and(ha:PT X a tA)(hb:PW X (.BoolOp .And (b::rest) pos) tB'):PW X (.BoolOp .And (a::b::rest) pos) (tAnd tA tB'):=by
 intro wh pins s σ H Q I h;refine isTrue_and (thn (ha pins s σ H _ I h) ?_);rintro c s1 ⟨H1,I1,q1⟩
 cases c with
 | true=>exact hb wh pins s1 σ H1 Q I1 q1
 | false=>exact⟨H1,I1,q1⟩
theorem pw_or(ha:PT X a tA)(hb:PW X (.BoolOp .Or (b::rest) pos) tB'):PW X (.BoolOp .Or (a::b::rest) pos) (tOr tA tB'):=by
 intro wh pins s σ H Q I h;refine isTrue_or (thn (ha pins s σ H _ I h) ?_);rintro c s1 ⟨H1,I1,q1⟩
 cases c with
 | true=>exact⟨H1,I1,q1⟩
 | false=>exact hb wh pins s1 σ H1 Q I1 q1
theorem zqn(ha:PT X a tA):PT X (.UnaryOp .Not a pos) (tNot tA):=by
 intro pins s σ H Q I h;exact isTrue_not (ha pins s σ H (fun c H1=>Q (!c) H1) I h)
noncomputable def zsa(ta tb:TE):TE:=fun σ H Q=>ta σ H fun x H1=>∃ c,x=.bl c/\if c=true then tb σ H1 Q else Q (.bl false) H1
noncomputable def zr4(ta:TE):TE:=fun σ H Q=>ta σ H fun x H1=>∃ c,x=.bl c/\Q (.bl (!c)) H1
theorem zqA{op}{t:TE}(h:PE X a t):PE X (.BoolOp op [a] pos) t:=fun pins s σ H Q I hw=>BoolOp_one (h pins s σ H Q I hw)
theorem zqG(ha:PE X a ta)(hb:PE X (.BoolOp .And (b::rest) pos) tb):PE X (.BoolOp .And (a::b::rest) pos) (zsa ta tb):=by
 intro pins s σ H Q I h;refine BoolOp_and (thn (ha pins s σ H _ I h) ?_);rintro v s1 ⟨x,H1,I1,r1,q1⟩;obtain⟨c,rfl,q1⟩:=q1;cases r1;refine wpAny_truthy_bool ?_
 cases c with
 | true=>exact hb pins s1 σ H1 Q I1 q1
 | false=>exact⟨.bl false,H1,I1,rfl,q1⟩
theorem zqB(ha:PE X a ta):PE X (.UnaryOp .Not a pos) (zr4 ta):=by
 intro pins s σ H Q I h;refine UnaryOp_ (thn (ha pins s σ H _ I h) ?_);rintro v s1 ⟨x,H1,I1,r1,q1⟩;obtain⟨c,rfl,q1⟩:=q1;cases r1;exact not_of (wpAny_truthy_bool ⟨.bl (!c),H1,I1,rfl,q1⟩)
noncomputable def tIf(t:TT)(ta tb:TE):TE:=fun σ H Q=>t σ H fun c H1=>if c=true then ta σ H1 Q else tb σ H1 Q
theorem zmq{c:Expr}(hc:PT X c tA)(ha:PE X a ta)(hb:PE X b tb):PE X (.IfExp c a b pos) (tIf tA ta tb):=by
 intro pins s σ H Q I h;refine wpAny_IfExp (thn (hc pins s σ H _ I h) ?_);rintro d s1 ⟨H1,I1,q1⟩
 cases d with
 | true=>exact ha pins s1 σ H1 Q I1 q1
 | false=>exact hb pins s1 σ H1 Q I1 q1
end
end L2
namespace L2
open PySem PySem.Spec PyProof.Rows
noncomputable def SqL(K:PySem.W.Frag)(H:Hp)(a:Addr)(xs:List V):Prop :=
 Rd H a (.lst xs) \/
   ∃ (o:Obj) (its:Array Value) (n:Nat),K.lookup a=some o/\o.cls=.type "list"/\o.dict=none/\o.data=.seq its n/\its.size<=sizeLine/\Vals xs its.toList
noncomputable def SqT(K:PySem.W.Frag)(H:Hp)(a:Addr)(xs:List V):Prop :=
 Rd H a (.tup xs) \/
   ∃ (o:Obj) (its:Array Value) (n:Nat),K.lookup a=some o/\o.cls=.type "tuple"/\o.data=.seq its n/\its.size<=sizeLine/\Vals xs its.toList
noncomputable def absV:Value->Option V
 | .none=>some .non
 | .bool b=>some (.bl b)
 | .int i _=>some (.int i)
 | .str x _=>some (.str x)
 | .bytes b _=>some (.byt b)
 | .float b _=>some (.flt b)
 | .ref a=>some (.ref a)
 | .type n=>some (.ty n)
 | _=>none
theorem RelV.abs{x:V}{u:Value}(r:RelV x u):absV u=some x:=by
 cases x with
 | non=>cases r;rfl
 | bl _=>cases r;rfl
 | int _=>obtain⟨t,rfl⟩:=r;rfl
 | str _=>obtain⟨t,rfl⟩:=r;rfl
 | byt _=>obtain⟨t,rfl⟩:=r;rfl
 | flt _=>obtain⟨t,rfl⟩:=r;rfl
 | ref _=>cases r;rfl
 | ty _=>cases r;rfl
theorem RelV.inj{x y:V}{u:Value}(r:RelV x u)(q:RelV y u):x=y:=Option.some.inj (r.abs.symm.trans q.abs)
theorem Vals.inj:∀ {xs ys:List V} {us:List Value},Vals xs us->Vals ys us->xs=ys
 | _,_,_,.nil,.nil=>rfl
 | _,_,_,.cons r t,.cons r' t'=>by rw[r.inj r',Vals.inj t t']
section
variable {X:Cx} {pins:List (Addr×Obj)} {σ:St} {H:Hp} {s:Shared} {a:Addr} {xs ys:List V}
theorem SqL.of{K:PySem.W.Frag}(h:H a=some (.lst xs)):SqL K H a xs:=.inl (.inl h)
theorem SqT.of{K:PySem.W.Frag}(h:H a=some (.tup xs)):SqT K H a xs:=.inl (.inl h)
theorem Inv.list(I:Inv X pins σ H s)(h:SqL X.K H a xs):∃ its:List Value,Vals xs its/\PlainL s.heap a its.toArray/\xs.length<=sizeLine:=by
 rcases h with h | ⟨o,its,n,hk,hc,hd,hs,hz,r⟩
 . obtain⟨z,its,n,r,e⟩:=h.ok I.hok;exact⟨its,r,⟨_,n,e,rfl,rfl,rfl⟩,z⟩
 . refine⟨its.toList,r,⟨o,n,I.kIn a o hk,hc,hd,by simpa using hs⟩,?_⟩;have e:=r.length;simp only[Array.length_toList] at e;omega
theorem Inv.tuple(I:Inv X pins σ H s)(h:SqT X.K H a xs):∃ its:List Value,Vals xs its/\IsTup s.heap a its.toArray/\xs.length<=sizeLine:=by
 rcases h with h | ⟨o,its,n,hk,hc,hs,hz,r⟩
 . obtain⟨z,its,r,p⟩:=h.ok I.hok;exact⟨its,r,p.t,z⟩
 . refine⟨its.toList,r,⟨o,I.kIn a o hk,hc,n,by simpa using hs⟩,?_⟩;have e:=r.length;simp only[Array.length_toList] at e;omega
theorem Inv.list_inj(I:Inv X pins σ H s)(h:SqL X.K H a xs)(h':SqL X.K H a ys):xs=ys:=by
 obtain⟨its,r,⟨o,n,e,_,_,d⟩,_⟩:=I.list h;obtain⟨its',r',⟨o',n',e',_,_,d'⟩,_⟩:=I.list h';rw[e] at e';cases e';rw[d] at d';injection d' with d1 _
 have:its=its':=by simpa using congrArg Array.toList d1
 subst this;exact r.inj r'
theorem Inv.tuple_inj(I:Inv X pins σ H s)(h:SqT X.K H a xs)(h':SqT X.K H a ys):xs=ys:=by
 obtain⟨its,r,⟨o,e,_,n,d⟩,_⟩:=I.tuple h;obtain⟨its',r',⟨o',e',_,n',d'⟩,_⟩:=I.tuple h';rw[e] at e';cases e';rw[d] at d';injection d' with d1 _
 have:its=its':=by simpa using congrArg Array.toList d1
 subst this;exact r.inj r'
end
noncomputable abbrev Cx.wish (X:Cx) (E:Value->Shared->Prop):Cx:={ X with xe:=E }
noncomputable abbrev Cx.nox (X:Cx):Cx:=X.wish fun _ _=>False
theorem Cx.Ok.wish{X:Cx}(ok:X.Ok)(E:Value->Shared->Prop):(X.wish E).Ok :=
 ⟨ok.mod,ok.kind,ok.glob,ok.blt,ok.above,ok.inj,ok.has,ok.cab,ok.hd,ok.frames,ok.stk,ok.exf,ok.bs,ok.bsz,ok.noex,ok.exfs,ok.funs,ok.frf⟩
theorem Cx.Ok.unwish{X:Cx}{E:Value->Shared->Prop}(ok:(X.wish E).Ok):X.Ok :=
 ⟨ok.mod,ok.kind,ok.glob,ok.blt,ok.above,ok.inj,ok.has,ok.cab,ok.hd,ok.frames,ok.stk,ok.exf,ok.bs,ok.bsz,ok.noex,ok.exfs,ok.funs,ok.frf⟩
section
variable {X:Cx} {pins:List (Addr×Obj)} {σ:St} {H:Hp} {s:Shared} {E:Value->Shared->Prop}
theorem Inv.wish(I:Inv X pins σ H s)(E:Value->Shared->Prop):Inv (X.wish E) pins σ H s:=⟨I.ok.wish E,I.os,I.bare,I.base,I.loc,I.cell,I.free,I.freeC,I.pin,I.hok,I.len⟩
theorem Inv.unwish(I:Inv (X.wish E) pins σ H s):Inv X pins σ H s:=⟨I.ok.unwish,I.os,I.bare,I.base,I.loc,I.cell,I.free,I.freeC,I.pin,I.hok,I.len⟩
theorem SP.unwish{D:Ends}{f:Flow}{s':Shared}(h:SP (X.wish E) pins D f s'):SP X pins D f s':=by
 cases f with
 | next=>obtain⟨σ',H',I,q⟩:=h;exact⟨σ',H',I.unwish,q⟩
 | brk=>obtain⟨σ',H',I,q⟩:=h;exact⟨σ',H',I.unwish,q⟩
 | cont=>obtain⟨σ',H',I,q⟩:=h;exact⟨σ',H',I.unwish,q⟩
 | ret u=>obtain⟨v,σ',H',I,r,q⟩:=h;exact⟨v,σ',H',I.unwish,r,q⟩
theorem PSs.nox{st:List Stmt}{t:TS}(h:PSs X.nox st t):PSs X st t:=fun pins s σ H D I hw =>
 wpAny_mono (h pins s σ H D (I.wish _) hw) (fun _ _ q=>q.unwish) fun _ _ z=>False.elim z
end
section
variable {X:Cx} {st:Stmt} {rest:List Stmt} {t u:TS} {e:Expr} {te:TE} {pos:Pos}
noncomputable def zr5:TS:=fun D σ H=>D.nx σ H
noncomputable def tSeq(t u:TS):TS:=fun D σ H=>t { D with nx:=u D } σ H
theorem zoh:PSs X [] zr5:=fun _ _ σ H _ I h=>wpAny_execs_nil ⟨σ,H,I,h⟩
theorem zme(h1:PS X st t)(h2:PSs X rest u):PSs X (st::rest) (tSeq t u):=by
 intro pins s σ H D I h;refine wpAny_execs_cons (thn (h1 pins s σ H { D with nx:=u D } I h) fun f s1 q=>?_)
 cases f with
 | next =>
   obtain⟨σ',H',I',q⟩:=q;exact h2 pins s1 σ' H' D I' q
 | ret v=>exact q
 | brk=>exact q
 | cont=>exact q
theorem zog(h1:PS X st t):PSs X [st] t:=by
 intro pins s σ H D I h;refine wpAny_execs_cons (thn (h1 pins s σ H D I h) fun f s1 q=>?_)
 cases f with
 | next=>exact wpAny_execs_nil q
 | ret v=>exact q
 | brk=>exact q
 | cont=>exact q
theorem Inv.quiet{pins:List (Addr×Obj)}{σ:St}{H:Hp}{s:Shared}(I:Inv X pins σ H s):interactive X.env=false:=by simp[interactive,I.ok.kind]
noncomputable def zr6(te:TE):TS:=fun D σ H=>te σ H fun _ H1=>D.nx σ H1
theorem zoi(he:PE X e te)(hs:swapsWith e none pos.line X.env=pure false:=by rfl):PS X (.Expr e pos) (zr6 te):=by
 intro pins s σ H D I h;exact wpAny_Expr_any (thn (he pins s σ H _ I h) fun v s1 ⟨x,H1,I1,r1,q1⟩=>⟨σ,H1,I1,q1⟩) I.quiet hs
noncomputable def tRet(te:TE):TS:=fun D σ H=>te σ H D.rt
theorem zqp(he:PE X e te):PS X (.Return (some e) pos) (tRet te):=by
 intro pins s σ H D I h;exact wpAny_Return_some (thn (he pins s σ H _ I h) fun v s1 ⟨x,H1,I1,r1,q1⟩=>⟨x,σ,H1,I1,r1,q1⟩)
noncomputable def tIfS(c:TT)(t u:TS):TS:=fun D σ H=>c σ H fun b H1=>if b=true then t D σ H1 else u D σ H1
theorem zsi{c:Expr}{a b:List Stmt}{tc:TT}(hc:PT X c tc)(ha:PSs X a t)(hb:PSs X b u):PS X (.If c a b pos) (tIfS tc t u):=by
 intro pins s σ H D I h;refine wpAny_If (thn (hc pins s σ H _ I h) ?_);rintro d s1 ⟨H1,I1,q1⟩
 cases d with
 | true=>exact ha pins s1 σ H1 D I1 q1
 | false=>exact hb pins s1 σ H1 D I1 q1
end
noncomputable abbrev TG:=V->St->Hp->(St->Hp->Prop)->Prop
noncomputable abbrev TGs:=List V->St->Hp->(St->Hp->Prop)->Prop
noncomputable def PG(X:Cx)(target:Expr)(t:TG):Prop :=
 ∀ (pins:List (Addr×Obj)) (s:Shared) (σ:St) (H:Hp) (v:V) (u:Value) (Q:St->Hp->Prop),Inv X pins σ H s->RelV v u->t v σ H Q ->
   wpAny (model X.prog X.w) X.A (assign target X.env u) (fun _ s'=>∃ σ' H',Inv X pins σ' H' s'/\Q σ' H') X.xe s
noncomputable def PGs(X:Cx)(ts:List Expr)(t:TGs):Prop :=
 ∀ (pins:List (Addr×Obj)) (s:Shared) (σ:St) (H:Hp) (vs:List V) (us:List Value) (Q:St->Hp->Prop),Inv X pins σ H s->Vals vs us->t vs σ H Q ->
   wpAny (model X.prog X.w) X.A (assignInOrder ((assignEach ts X.env).map (·.2)) us) (fun _ s'=>∃ σ' H',Inv X pins σ' H' s'/\Q σ' H') X.xe s
noncomputable abbrev TSet:=V->V->V->Hp->(Hp->Prop)->Prop
noncomputable def PSet(X:Cx)(t:TSet):Prop :=
 ∀ (pins:List (Addr×Obj)) (s:Shared) (σ:St) (H:Hp) (o i v:V) (ov iv u:Value) (Q:Hp->Prop),Inv X pins σ H s->RelV o ov->RelV i iv->RelV v u->t o i v H Q ->
   wpAny (model X.prog X.w) X.A (setItem ov iv u) (fun _ s'=>∃ H',Inv X pins σ H' s'/\Q H') X.xe s
section
variable {X:Cx} {pos:Pos}
noncomputable def zrN(i:Nat):TG:=fun v σ H Q=>Q (σ.set i (some v)) H
theorem zoo{i:Nat}{x:Str}(hN:X.N.Nodup)(hi:X.N[i]?=some x)(hx:Loc X.env.scope x)(hf:X.fn x=true\/X.env.scope.names.lookup x=some .local:=by first | exact .inl rfl | exact .inr rfl | assumption):PG X (.Name x pos) (zrN i):=by
 intro pins s σ H v u Q I r h;exact wpAny_assign_Name (zeP I hN hi hx r (fun s' I'=>⟨_,H,I',h⟩) hf)
noncomputable def gNil:TGs:=fun vs σ H Q=>vs=[]/\Q σ H
noncomputable def zsF(t:TG)(u:TGs):TGs:=fun vs σ H Q=>∃ v r,vs=v::r/\t v σ H fun σ' H'=>u r σ' H' Q
theorem zon:PGs X [] gNil:=by
 intro pins s σ H vs us Q I r h;obtain⟨e,h⟩:=h;subst e;cases r;exact assignInOrder_nil ⟨σ,H,I,h⟩
theorem zmp{e:Expr}{es:List Expr}{t:TG}{u:TGs}(h1:PG X e t)(h2:PGs X es u)
   (hs:(assignEach (e::es) X.env).map (·.2)=assign e X.env::(assignEach es X.env).map (·.2):=by rfl):PGs X (e::es) (zsF t u):=by
 intro pins s σ H vs us Q I r h;obtain⟨v,vr,e1,h⟩:=h;subst e1
 cases r with
 | cons r rr =>
   rw[hs];refine assignInOrder_cons (thn (h1 pins s σ H _ _ _ I r h) ?_);rintro _ s1 ⟨σ1,H1,I1,q1⟩;exact h2 pins s1 σ1 H1 _ _ Q I1 rr q1
noncomputable def gTup(K:PySem.W.Frag)(n:Nat)(t:TGs):TG:=fun v σ H Q=>∃ a xs,v=.ref a/\SqT K H a xs/\xs.length=n/\t xs σ H Q
theorem zqv{es:List Expr}{k:Nat}{t:TGs}{n:Nat}(hc:X.calm=true)(h:PGs X es t)
   (hn:(assignEach es X.env).length=n:=by rfl) (hst:(assignEach es X.env).findIdx? (·.1)=none:=by rfl):PG X (.Tuple es k pos) (gTup X.K n t):=by
 intro pins s σ H v u Q I r hw;obtain⟨a,xs,e1,hq,hl,hw⟩:=hw;subst e1;cases r;obtain⟨its,rv,ht,hz⟩:=I.tuple hq;refine assign_Tuple_tuple (I.ok.hd hc) ht (by simp[hn,<-hl,rv.length]) hst fun h' hx=>?_;have I1:Inv X pins σ H { s with heap:=h' }:=I.kept (t':=s.toks) fun b o e=>hx b o (Nat.ne_of_lt (Heap.lt_size e)) e;exact h pins _ σ H xs _ Q I1 (by simpa using rv) hw
noncomputable def gSub(to ti:TE)(t:TSet):TG:=fun v σ H Q=>to σ H fun o H1=>ti σ H1 fun i H2=>t o i v H2 fun H3=>Q σ H3
theorem zqw{o i:Expr}{to ti:TE}{t:TSet}(ho:PE X o to)(hi:PE X i ti)(hs:PSet X t)
   (ha:∀ v,assign (.Subscript o i pos) X.env v=(do
     let ov <-holding [v] (eval o X.env)
     let iv <-holding [v,ov] (eval i X.env)
     standAt pos
     holding [v,ov,iv] (setItem ov iv v)
     release [v,ov,iv] []):=by intro _;rfl):PG X (.Subscript o i pos) (gSub to ti t):=by
 intro pins s σ H v u Q I r h;rw[ha];refine wpAny_bind (wpAny_holding (thn (ho pins s σ H _ I h) ?_));rintro ov s1 ⟨x,H1,I1,r1,q1⟩;refine wpAny_bind (wpAny_holding (thn (hi pins s1 σ H1 _ I1 q1) ?_));rintro iv s2 ⟨y,H2,I2,r2,q2⟩;refine wpAny_bind (wpAny_standAt (wpAny_bind (wpAny_holding (thn (hs pins s2 σ H2 x y v ov iv u _ I2 r1 r2 r q2) ?_))));rintro _ s3 ⟨H3,I3,q3⟩;exact wpAny_release ⟨σ,H3,I3,q3⟩
noncomputable def tAsg(te:TE)(g:TG):TS:=fun D σ H=>te σ H fun x H1=>g x σ H1 D.nx
theorem zqs{tg e:Expr}{te:TE}{g:TG}(he:PE X e te)(hg:PG X tg g)(hs:swapsWithSole [tg] e pos.line X.env=pure false:=by rfl)(hw:swappedStores [tg] e X.env=pure none:=by rfl)
   (h1:(assignEach [tg] X.env).map (·.2)=[assign tg X.env]:=by rfl):PS X (.Assign [tg] e pos) (tAsg te g):=by
 intro pins s σ H D I h;refine wpAny_Assign_stores (thn (he pins s σ H _ I h) ?_) hs hw;rintro v s1 ⟨x,H1,I1,r1,q1⟩;rw[h1];exact thn (hg pins s1 σ H1 x v _ I1 r1 q1) fun _ s2 q=>q
theorem zqo{i:Nat}{x:Str}{e:Expr}{te:TE}{pos':Pos}(hN:X.N.Nodup)(hi:X.N[i]?=some x)(hx:Loc X.env.scope x)(he:PE X e te)(hs:swapsWith e (some (.Name x pos')) pos.line X.env=pure false:=by rfl)(hf:X.fn x=true\/X.env.scope.names.lookup x=some .local:=by first | exact .inl rfl | exact .inr rfl | assumption) :
   PS X (.Assign [.Name x pos'] e pos) (tAsg te (zrN i)):=by
 intro pins s σ H D I h;refine wpAny_Assign_Name (thn (he pins s σ H _ I h) ?_) hs;rintro v s1 ⟨y,H1,I1,r1,q1⟩;exact zeP I1 hN hi hx r1 (fun s2 I2=>⟨_,H1,I2,q1⟩) hf
noncomputable def tPar(i j:Nat)(ta:TA):TS:=fun D σ H=>ta σ H fun vs H1=>∃ v w,vs=[v,w]/\D.nx ((σ.set i (some v)).set j (some w)) H1
theorem zqq{i j:Nat}{x y:Str}{a b:Expr}{ta:TA}{px py pt:Pos}{kt k2 pt2}(hc:X.calm=true)(hN:X.N.Nodup)(hi:X.N[i]?=some x)(hj:X.N[j]?=some y)(hij:i≠j)
   (hx:X.env.scope.names.lookup x=some .local) (hy:X.env.scope.names.lookup y=some .local) (ha:PA X [a,b] ta)
   (hw:swappedStores [.Tuple [.Name x px,.Name y py] kt pt] (.Tuple [a,b] k2 pt2) X.env=pure (some [x,y]))
   (hs:swapsWithSole [.Tuple [.Name x px,.Name y py] kt pt] (.Tuple [a,b] k2 pt2) pos.line X.env=pure false:=by rfl) :
   PS X (.Assign [.Tuple [.Name x px,.Name y py] kt pt] (.Tuple [a,b] k2 pt2) pos) (tPar i j ta):=by
 intro pins s σ H D I h;rw[exec_Assign_arm];refine wpAny_bind (wpAny_standAt ?_);rw[hs];refine wpAny_bind (wpAny_pure ?_);rw[if_neg (by decide)];refine wpAny_bind (Tuple_ (thn (ha _ pins s σ H _ I h) ?_));rintro us s1 ⟨vs,H1,I1,r1,q1⟩;obtain⟨v,w,e1,q1⟩:=q1;subst e1;obtain⟨u1,u2,rfl,rv,rw'⟩:∃ u1 u2,us=[u1,u2]/\RelV v u1/\RelV w u2:=by
   cases r1 with
   | cons p q =>
     cases q with
     | cons p' q' =>
       cases q';exact⟨_,_,rfl,p,p'⟩
 refine wpAny_newObj_type ?_ (by show 2<=sizeLine;decide);have I2:Inv X pins σ H1 { s1 with heap:=s1.heap.push { cls:=.type "tuple",data:=.seq [u1,u2].toArray } }:=I1.kept (t':=s1.toks) fun b o e=>Heap.get?_push_of_some _ e;rw[hw];refine wpAny_bind (wpAny_pure ?_);show wpAny (model X.prog X.w) X.A (do rule "assign.swapped-stores";let items <-unpackItems (.ref s1.heap.objs.size) 2 none;assignInOrder [fun v=>bindName X.env y v,fun v=>bindName X.env x v] items.reverse;pure Flow.next) _ _ _;refine wpAny_bind (wpAny_rule (wpAny_bind (unpackItems_tuple (items:=#[u1,u2]) (I.ok.hd hc) (IsTup.new s1.heap _) fun h' hx'=>?_)));have I3:=I2.kept (h':=h') (t':=s1.toks) fun b o e=>hx' b o (Nat.ne_of_lt (Heap.lt_size e)) e;show wpAny _ _ (assignInOrder [fun v=>bindName X.env y v,fun v=>bindName X.env x v] [u2,u1] >>= fun _=>pure Flow.next) _ _ _;refine wpAny_bind (assignInOrder_cons (wpAny_bindName (zeP I3 hN hj (.inl hy) rw' (fun s2 I4=>?_) (.inr hy))));refine assignInOrder_cons (wpAny_bindName (zeP I4 hN hi (.inl hx) rv (fun s3 I5=>assignInOrder_nil (wpAny_pure ?_)) (.inr hx)));rw[List.set_comm _ _ (Ne.symm hij)] at I5;exact⟨_,H1,I5,q1⟩
end
section
variable {X:Cx} {pos:Pos}
noncomputable def zpR(c:TT)(tb:TS):TS:=fun D σ H=>∃ W:Nat->St->Hp->Prop,(∃ m,W m σ H)/\∀ m σ H,W m σ H ->
 c σ H fun b H1=>if b=true then ∃ N:St->Hp->Prop,(∀ σ' H',N σ' H'->∃ m',m' < m/\W m' σ' H')/\tb { D with nx:=N,ct:=N,bk:=D.nx } σ H1 else D.nx σ H1
theorem zmf{c:Expr}{body:List Stmt}{tc:TT}{tb:TS}(hp:PassesOwn (model X.prog X.w) X.A X.env X.xe)(hc:PT X c tc)(hb:PSs X body tb):PS X (.While c body [] pos) (zpR tc tb):=by
 intro pins s σ H D I h;obtain⟨W,⟨m0,w0⟩,turn⟩:=h;refine wpAny_While (codeAny_whileLoop (fun n s'=>∃ σ' H',Inv X pins σ' H' s'/\W n σ' H') ?_ m0 ⟨σ,H,I,w0⟩);rintro n s1 ⟨σ1,H1,I1,w1⟩;refine wpAny_passesOwn hp (thn (hc pins s1 σ1 H1 _ I1 (turn n σ1 H1 w1)) ?_);rintro b s2 ⟨H2,I2,q2⟩
 cases b with
 | true =>
   obtain⟨N,hN,q2⟩:=q2;rw[if_pos rfl];refine wpAny_passesOwn hp (thn (hb pins s2 σ1 H2 _ I2 q2) fun f s3 q3=>?_)
   cases f with
   | next =>
     obtain⟨σ3,H3,I3,n3⟩:=q3;obtain⟨m',hm,w3⟩:=hN σ3 H3 n3;exact⟨m',hm,σ3,H3,I3,w3⟩
   | cont =>
     obtain⟨σ3,H3,I3,n3⟩:=q3;obtain⟨m',hm,w3⟩:=hN σ3 H3 n3;exact⟨m',hm,σ3,H3,I3,w3⟩
   | brk=>exact q3
   | ret v=>exact q3
 | false =>
   rw[if_neg Bool.false_ne_true];exact wpAny_execs_nil ⟨σ1,H2,I2,q2⟩
end
structure It where
 go:Nat->Hp->Prop
 yld:Nat->Hp->V->Hp->Prop
 stop:Nat->Hp->Prop
noncomputable def FpOk(X:Cx)(pins:List (Addr×Obj))(H:Hp)(b:Addr):Prop :=
 H b=none/\b≠X.env.locals/\b ∉ X.fs/\(b∈X.ex\/X.s₀.heap.objs.size<=b)/\(∀ x c,X.env.cells.lookup x=some c->c≠b)/\∀ p∈X.pn++pins,p.1≠b
theorem Inv.fpOk{X:Cx}{pins:List (Addr×Obj)}{σ:St}{H H':Hp}{s:Shared}{b:Addr}(I:Inv X pins σ H s)(hb:s.heap.objs.size<=b)(hn:H' b=none):FpOk X pins H' b:=by
 refine⟨hn,Nat.ne_of_gt (Nat.lt_of_lt_of_le I.lt hb),I.nofs hb,.inr (Nat.le_trans I.sz hb),fun x c e z=>?_,fun p hp z=>?_⟩
 . obtain⟨v,q⟩:=I.cell x c e;exact absurd (Nat.lt_of_lt_of_le q.lt (by rw[z];exact hb)) (Nat.lt_irrefl _)
 . exact absurd (Nat.lt_of_lt_of_le (Heap.lt_size (I.pin p hp).1) (by rw[z];exact hb)) (Nat.lt_irrefl _)
structure Turn(P:Program)(w:World)(K:PySem.W.Frag)(tg:Expr)(J:It)(fp:List Addr)(it:Addr)(tn:Nat->Heap->Prop):Prop where
 mem:it∈fp
 obj:∀ i h,tn i h->∀ b∈fp,∃ o,h.get? b=some o/\∀ v,o.data≠.cell v
 keep:∀ i h h',tn i h->(∀ b∈fp,∀ o,h.get? b=some o->h'.get? b=some o)->tn i h'
 item:∀ (X:Cx),X.prog=P->X.w=w->X.K=K->X.calm=true->∀ (i:Nat) (pins:List (Addr×Obj)) (s:Shared) (σ:St) (H:Hp) (E:Value->Shared->Prop),Inv X pins σ H s->(∀ b∈fp,FpOk X pins H b)->tn i s.heap->J.go i H ->
   wpAny (model P w) X.A (pyNext (.ref it)) (fun r s1=>∃ u,r=some u /\
     wpAny (model P w) X.A (letOwnedTupleGo tg (.ref it) u) (fun _ s2=>∃ x H',Inv X pins σ H' s2/\RelV x u/\J.yld i H x H'/\tn (i+1) s2.heap/\∀ b∈fp,H' b=none) E s1) E s
 done:∀ (X:Cx),X.prog=P->X.w=w->X.K=K->X.calm=true->∀ (i:Nat) (pins:List (Addr×Obj)) (s:Shared) (σ:St) (H:Hp) (E:Value->Shared->Prop),Inv X pins σ H s->(∀ b∈fp,FpOk X pins H b)->tn i s.heap->J.stop i H ->
   wpAny (model P w) X.A (pyNext (.ref it)) (fun r s1=>r=none/\Inv X pins σ H s1) E s
 self:∀ (A:Around) (i:Nat) (s:Shared) (Q:Value->Shared->Prop) (E:Value->Shared->Prop),tn i s.heap->Q (.ref it) s->wpAny (model P w) A (pyIter (.ref it)) Q E s
noncomputable abbrev TI:=St->Hp->(It->Hp->Prop)->Prop
noncomputable def PIE(X:Cx)(pins:List (Addr×Obj))(σ:St)(tg:Expr)(R:It->Hp->Prop)(itv:Value)(s2:Shared):Prop :=
 ∃ (it:Addr) (fp:List Addr) (tn:Nat->Heap->Prop) (J:It) (H':Hp),itv=.ref it/\Inv X pins σ H' s2/\Turn X.prog X.w X.K tg J fp it tn/\tn 0 s2.heap/\(∀ b∈fp,FpOk X pins H' b)/\R J H'
noncomputable def PI(X:Cx)(tg iter:Expr)(wi:TI):Prop :=
 ∀ (pins:List (Addr×Obj)) (s:Shared) (σ:St) (H:Hp) (R:It->Hp->Prop),Inv X pins σ H s->wi σ H R ->
   wpAny (model X.prog X.w) X.A (eval iter X.env) (fun v s1=>wpAny (model X.prog X.w) X.A (pyIter v) (PIE X pins σ tg R) X.xe s1) X.xe s
theorem zpb{M:Model}{A:Around}{E:Value->Shared->Prop}{s:Shared}{tg:Expr}{it:Addr}{u:Value}{o:Obj}{n:String}{vs:Array Value}{Q:Unit->Shared->Prop}(ho:s.heap.get? it=some o)(hc:o.cls=.type n)(hd:o.data=.fields vs)
   (hn:["enumerate","zip","dict_itemiterator","dict_reverseitemiterator","odict_iterator","itertools.zip_longest","itertools.pairwise"].contains n=false) (hQ:Q () s):wpAny M A (letOwnedTupleGo tg (.ref it) u) Q E s:=by
 unfold letOwnedTupleGo
 cases tg <;> first
   | exact wpAny_pure hQ
   | (cases u <;> first
       | exact wpAny_pure hQ
       | (refine wpAny_bind (wpAny_load ho ?_)
          rw[hc,hd];show wpAny M A (if (["enumerate","zip","dict_itemiterator","dict_reverseitemiterator","odict_iterator","itertools.zip_longest","itertools.pairwise"].contains n&&vs[0]?==some (rawInt _))=true then _ else _) Q E s;rw[if_neg (by intro h;rw[hn,Bool.false_and] at h;cases h)];exact wpAny_pure hQ))
noncomputable def Itl(K:PySem.W.Frag)(a:Addr):It :=
 ⟨fun i H=>∃ xs x,SqL K H a xs/\xs[i]?=some x,fun i H x H'=>H'=H/\∀ xs,SqL K H a xs->xs[i]?=some x,fun i H=>∃ xs,SqL K H a xs/\xs.length<=i⟩
noncomputable def Itt(K:PySem.W.Frag)(a:Addr):It :=
 ⟨fun i H=>∃ xs x,SqT K H a xs/\xs[i]?=some x,fun i H x H'=>H'=H/\∀ xs,SqT K H a xs->xs[i]?=some x,fun i H=>∃ xs,SqT K H a xs/\xs.length<=i⟩
noncomputable def Itr(lo:Int)(n:Nat):It:=⟨fun i _=>i < n,fun i H x H'=>H'=H/\x=.int (lo+i),fun i _=>n<=i⟩
theorem zj5{P:Program}{w:World}{K:PySem.W.Frag}{tg:Expr}(a it:Addr):Turn P w K tg (Itl K a) [it] it (fun i h=>h.IsListIter it a i) where
 mem:=by simp
 obj:=fun i h st b hb=>by
   have e:b=it:=by simpa using hb
   subst e;obtain⟨o,e,c,d⟩:=st;exact⟨o,e,fun v z=>by rw[d] at z;cases z⟩
 keep:=fun i h h' st k=>st.at fun o e=>k it (by simp) o e
 item:=by
   intro X hP hw hK hc i pins s σ H E I hf st hg;subst hP hw hK;obtain⟨xs,x,hq,hx⟩:=hg;obtain⟨its,rv,p,hz⟩:=I.list hq;obtain⟨u,hu,ru⟩:=rv.get hx;obtain⟨f0,f1,f2,f3,f4,f5⟩:=hf it (by simp);refine wpAny_pyNext_list_item st p.isList (x:=u) (by simpa using hu) fun h' st' sb=>?_;have I1:Inv X pins σ H { s with heap:=h' }:=I.turned (t':=s.toks) (fun b o hb e=>(sb.2 b hb).trans e) f0 f1 f3 f4 f5;obtain⟨o,e,c,d⟩:=id st';exact⟨u,rfl,zpb (s:={ s with heap:=h' }) e c d (by decide) ⟨x,H,I1,ru,⟨rfl,fun ys hy=>by rw[I.list_inj hy hq];exact hx⟩,st',fun b hb=>(hf b hb).1⟩⟩
 done:=by
   intro X hP hw hK hc i pins s σ H E I hf st hg;subst hP hw hK;obtain⟨xs,hq,hx⟩:=hg;obtain⟨its,rv,p,hz⟩:=I.list hq;obtain⟨f0,f1,f2,f3,f4,f5⟩:=hf it (by simp);have hl:=rv.length;exact wpAny_pyNext_list_end (I.ok.hd hc) st p.isList (by simp;omega) fun h' eb=>⟨rfl,I.turned (t':=s.toks) (fun b o hb e=>eb b o hb e) f0 f1 f3 f4 f5⟩
 self:=fun _ _ _ _ _ st h=>wpAny_pyIter_listiter st h
theorem zij{P:Program}{w:World}{K:PySem.W.Frag}{tg:Expr}(a it:Addr):Turn P w K tg (Itt K a) [it] it (fun i h=>h.IsTupleIter it a i) where
 mem:=by simp
 obj:=fun i h st b hb=>by
   have e:b=it:=by simpa using hb
   subst e;obtain⟨o,e,c,d⟩:=st;exact⟨o,e,fun v z=>by rw[d] at z;cases z⟩
 keep:=fun i h h' st k=>st.at fun o e=>k it (by simp) o e
 item:=by
   intro X hP hw hK hc i pins s σ H E I hf st hg;subst hP hw hK;obtain⟨xs,x,hq,hx⟩:=hg;obtain⟨its,rv,p,hz⟩:=I.tuple hq;obtain⟨u,hu,ru⟩:=rv.get hx;obtain⟨f0,f1,f2,f3,f4,f5⟩:=hf it (by simp);refine wpAny_pyNext_tuple_item st (show s.heap.IsTuple a its.toArray from p) (x:=u) (by simpa using hu) fun h' st' sb=>?_;have I1:Inv X pins σ H { s with heap:=h' }:=I.turned (t':=s.toks) (fun b o hb e=>(sb.2 b hb).trans e) f0 f1 f3 f4 f5;obtain⟨o,e,c,d⟩:=id st';exact⟨u,rfl,zpb (s:={ s with heap:=h' }) e c d (by decide) ⟨x,H,I1,ru,⟨rfl,fun ys hy=>by rw[I.tuple_inj hy hq];exact hx⟩,st',fun b hb=>(hf b hb).1⟩⟩
 done:=by
   intro X hP hw hK hc i pins s σ H E I hf st hg;subst hP hw hK;obtain⟨xs,hq,hx⟩:=hg;obtain⟨its,rv,p,hz⟩:=I.tuple hq;obtain⟨f0,f1,f2,f3,f4,f5⟩:=hf it (by simp);have hl:=rv.length;exact wpAny_pyNext_tuple_end (I.ok.hd hc) st (show s.heap.IsTuple a its.toArray from p) (by simp;omega) fun h' eb=>⟨rfl,I.turned (t':=s.toks) (fun b o hb e=>eb b o hb e) f0 f1 f3 f4 f5⟩
 self:=fun _ _ _ _ _ st h=>wpAny_pyIter_tupleiter st h
theorem zik{P:Program}{w:World}{K:PySem.W.Frag}{tg:Expr}(it:Addr)(lo:Int)(n:Nat):Turn P w K tg (Itr lo n) [it] it (fun i h=>IsRangeIter h it (lo+(i:Nat)*1) ((n:Int) - (i:Nat)) 1) where
 mem:=by simp
 obj:=fun i h st b hb=>by
   have e:b=it:=by simpa using hb
   subst e;exact⟨_,st,fun v z=>by
     have z':Data.fields _=Data.cell v:=z;cases z'⟩
 keep:=fun i h h' st k=>k it (by simp) _ st
 item:=by
   intro X hP hw hK hc i pins s σ H E I hf st hg;subst hP hw hK;obtain⟨f0,f1,f2,f3,f4,f5⟩:=hf it (by simp);have W:=Walks.range (prog:=X.prog) (w:=X.w) (I.ok.hd hc) it lo 1 n;refine W.item i s _ _ hg st fun v h' tk hv st' kk=>?_;obtain⟨t,rfl⟩:=hv;have I1:Inv X pins σ H { s with heap:=h',toks:=tk }:=I.turned (fun b o hb e=>kk b o (by simpa using hb) e) f0 f1 f3 f4 f5;refine⟨_,rfl,zpb (s:={ s with heap:=h',toks:=tk }) (n:="range_iterator") st' rfl rfl (by decide) ⟨.int (lo+i),H,I1,⟨t,?_⟩,⟨rfl,rfl⟩,st',fun b hb=>(hf b hb).1⟩⟩;rw[Int.mul_one]
 done:=by
   intro X hP hw hK hc i pins s σ H E I hf st hg;subst hP hw hK;obtain⟨f0,f1,f2,f3,f4,f5⟩:=hf it (by simp);exact wpAny_pyNext_range_end (I.ok.hd hc) st (by have:n<=i:=hg;omega) fun h' eb=>⟨rfl,I.turned (t':=s.toks) (fun b o hb e=>eb b o hb e) f0 f1 f3 f4 f5⟩
 self:=fun _ _ _ _ _ st h=>wpAny_pyIter_rangeiter st h
end L2
namespace L2
open PySem PySem.Spec PyProof.Rows
section
variable {X:Cx} {tg:Expr}
noncomputable def zsD(K:PySem.W.Frag)(tl:TE):TI:=fun σ H R=>tl σ H fun x H1=>∃ a,x=.ref a/\(∃ xs,SqL K H1 a xs)/\R (Itl K a) H1
noncomputable def iTup(K:PySem.W.Frag)(tl:TE):TI:=fun σ H R=>tl σ H fun x H1=>∃ a,x=.ref a/\(∃ xs,SqT K H1 a xs)/\R (Itt K a) H1
theorem zom{l:Expr}{tl:TE}(hl:PE X l tl):PI X tg l (zsD X.K tl):=by
 intro pins s σ H R I h;refine thn (hl pins s σ H _ I h) ?_;rintro v s1 ⟨x,H1,I1,r1,q1⟩;obtain⟨a,e,⟨xs,hq⟩,q⟩:=q1;subst e;cases r1;obtain⟨its,rv,p,hz⟩:=I1.list hq;refine wpAny_pyIter_list p.isList ?_;refine⟨s1.heap.objs.size,[s1.heap.objs.size],_,_,H1,rfl,I1.kept (t':=s1.toks) fun b o e=>Heap.get?_push_of_some _ e,zj5 a _,⟨_,Heap.get?_push_size _ rfl,rfl,rfl⟩,fun b hb=>?_,q⟩;have e:b=s1.heap.objs.size:=by simpa using hb
 subst e;exact I1.fpOk (Nat.le_refl _) (I1.hok.fresh (Nat.le_refl _))
theorem zqt{l:Expr}{tl:TE}(hl:PE X l tl):PI X tg l (iTup X.K tl):=by
 intro pins s σ H R I h;refine thn (hl pins s σ H _ I h) ?_;rintro v s1 ⟨x,H1,I1,r1,q1⟩;obtain⟨a,e,⟨xs,hq⟩,q⟩:=q1;subst e;cases r1;obtain⟨its,rv,p,hz⟩:=I1.tuple hq;refine wpAny_pyIter_tuple (show s1.heap.IsTuple a its.toArray from p) ?_;refine⟨s1.heap.objs.size,[s1.heap.objs.size],_,_,H1,rfl,I1.kept (t':=s1.toks) fun b o e=>Heap.get?_push_of_some _ e,zij a _,⟨_,Heap.get?_push_size _ rfl,rfl,rfl⟩,fun b hb=>?_,q⟩;have e:b=s1.heap.objs.size:=by simpa using hb
 subst e;exact I1.fpOk (Nat.le_refl _) (I1.hok.fresh (Nat.le_refl _))
theorem zmc{pins:List (Addr×Obj)}{σ:St}{H:Hp}{s:Shared}{R:It->Hp->Prop}{E:Value->Shared->Prop}{lo hi:Int}{t u v:Tok}{tk:Nat}(I:Inv X pins σ H s)(h1:-(2 ^ 62)<=lo)(h2:lo < 2 ^ 62)(h3:-(2 ^ 62)<=hi)(h4:hi < 2 ^ 62)
   (q:R (Itr lo (hi - lo).toNat) H):wpAny (model X.prog X.w) X.A (pyIter (.ref s.heap.objs.size)) (PIE X pins σ tg R) E { s with heap:=s.heap.push { cls:=.type "range",data:=.fields #[.int lo t,.int hi u,.int 1 v] },toks:=tk }:=by
 refine wpAny_pyIter_range (IsRange.new ..) (small_one h1 h2 h3 h4) ?_;have I1:Inv X pins σ H { s with heap:=s.heap.push { cls:=.type "range",data:=.fields #[.int lo t,.int hi u,.int 1 v] },toks:=tk }:=I.kept fun b o e=>Heap.get?_push_of_some _ e;refine⟨(s.heap.push { cls:=.type "range",data:=.fields #[.int lo t,.int hi u,.int 1 v] }).objs.size,[(s.heap.push { cls:=.type "range",data:=.fields #[.int lo t,.int hi u,.int 1 v] }).objs.size],_,_,H,rfl,
   I1.kept (t':=tk) fun b o e=>Heap.get?_push_of_some _ e,zik _ lo (hi - lo).toNat,?_,fun b hb=>?_,q⟩
 . have e1:lo+((0:Nat):Int)*1=lo:=by simp
   have e2:(((hi - lo).toNat:Nat):Int) - ((0:Nat):Int)=Builtin.Range.rangeSize lo hi 1:=by rw[rangeSize_one];split <;> omega
   show IsRangeIter _ _ (lo+((0:Nat):Int)*1) ((((hi - lo).toNat:Nat):Int) - ((0:Nat):Int)) 1;rw[e1,e2];exact Heap.get?_push_size _ rfl
 . have e:b=(s.heap.push { cls:=.type "range",data:=.fields #[.int lo t,.int hi u,.int 1 v] }).objs.size:=by simpa using hb
   subst e;exact I1.fpOk (Nat.le_refl _) (I1.hok.fresh (Nat.le_refl _))
noncomputable def zsC(ta:TA):TI:=fun σ H R=>ta σ H fun vs H1=>∃ j:Int,vs=[.int j]/\-(2 ^ 62)<=j/\j < 2 ^ 62/\R (Itr 0 j.toNat) H1
theorem zkt{a:Expr}{ta:TA}{p pos:Pos}(hg:Gl X "range")(hm:X.mg "range"=none)(ha:PA X [a] ta)(hs:starEach [a] X.env=[(false,eval a X.env)]:=by rfl):PI X tg (.Call (.Name "range" p) [a] [] pos) (zsC ta):=by
 intro pins s σ H R I h;refine Call_ (zhZ I hg hm boot_range (PyProof.Rows.callWith_type1 (thn (ha pos pins s σ H _ I h) ?_) hs rfl));rintro us s1 ⟨vs,H1,I1,r1,q1⟩;obtain⟨j,e,q1,q2,q⟩:=q1;subst e
 cases r1 with
 | cons r rr =>
   cases rr;obtain⟨t,rfl⟩:=r;exact call_range_1 (zmc I1 (by omega) (by omega) q1 q2 (by simpa using q))
noncomputable def tFor(wi:TI)(g:TG)(tb:TS):TS:=fun D σ H=>wi σ H fun J H1=>∃ W:Nat->Nat->St->Hp->Prop,(∃ m,W 0 m σ H1)/\∀ i m σ H,W i m σ H ->
 (J.stop i H/\D.nx σ H)\/(J.go i H/\∃ N:St->Hp->Prop,(∀ σ' H',N σ' H'->∃ m',m' < m/\W (i+1) m' σ' H')/\∀ x H',J.yld i H x H'->g x σ H' fun σ2 H2=>tb { D with nx:=N,ct:=N,bk:=D.nx } σ2 H2)
noncomputable def ziV(fp:List Addr)(h:Heap):List (Addr×Obj):=fp.filterMap fun b=>(h.get? b).map fun o=>(b,o)
theorem zc4{fp:List Addr}{h:Heap}{b:Addr}{o:Obj}(hb:b∈fp)(e:h.get? b=some o):(b,o)∈ziV fp h:=List.mem_filterMap.mpr ⟨b,hb,by rw[e];rfl⟩
theorem zkB{fp:List Addr}{h:Heap}{p:Addr×Obj}(hp:p∈ziV fp h):p.1∈fp/\h.get? p.1=some p.2:=by
 obtain⟨b,hb,e⟩:=List.mem_filterMap.mp hp
 cases q:h.get? b with
 | none=>rw[q] at e;cases e
 | some o =>
   rw[q] at e;have e':(b,o)=p:=Option.some.inj e;subst e';exact⟨hb,q⟩
theorem Inv.pinned{pins:List (Addr×Obj)}{σ:St}{H:Hp}{s:Shared}{fp:List Addr}(I:Inv X pins σ H s)(hf:∀ b∈fp,FpOk X pins H b)(ho:∀ b∈fp,∃ o,s.heap.get? b=some o/\∀ v,o.data≠.cell v):Inv X (pins++ziV fp s.heap) σ H s :=
 I.pins_of fun p hp=>(List.mem_append.mp hp).elim (fun z=>I.pin p (List.mem_append_right _ z)) fun z=>by
   obtain⟨hb,e⟩:=zkB z;obtain⟨f0,f1,f2,_⟩:=hf p.1 hb;obtain⟨o,e',d⟩:=ho p.1 hb;rw[e] at e';cases e';exact⟨e,f0,f1,f2,d⟩
theorem Inv.unpinned{pins pl:List (Addr×Obj)}{σ:St}{H:Hp}{s:Shared}(I:Inv X (pins++pl) σ H s):Inv X pins σ H s:=I.pins_of fun p hp=>I.pin p (List.mem_append_right _ (List.mem_append_left _ hp))
theorem zqr{iter:Expr}{body:List Stmt}{wi:TI}{g:TG}{tb:TS}{pos:Pos}(hp:PassesOwn (model X.prog X.w) X.A X.env X.xe)(hc:X.calm=true)(hi:PI X tg iter wi)(hg:PG X tg g)(hb:PSs X body tb)
   (hs:∀ x,foldedSetIterable iter X.env x=pure x:=by intro _;rfl):PS X (.For tg iter body [] pos) (tFor wi g tb):=by
 intro pins s σ H D I h;refine wpAny_For (thn (hi pins s σ H _ I h) fun v s1 h1=>thn h1 fun itv s2 h2=>?_) hs;obtain⟨it,fp,tn,J,H2,e,I2,T,st2,f2,W,⟨m0,w0⟩,turn⟩:=h2;subst e
 -- what stays true of the iterator's objects through the loop
 have stat:∀ {H':Hp},(∀ b∈fp,H' b=none)->∀ b∈fp,FpOk X pins H' b:=fun hn b hb=>⟨hn b hb,(f2 b hb).2⟩
 refine codeAny_forLoop_any (fun n s'=>∃ i σ' H',Inv X pins σ' H' s'/\tn i s'.heap/\(∀ b∈fp,H' b=none)/\W i n σ' H') ?_ m0 ⟨0,σ,H2,I2,st2,fun b hb=>(f2 b hb).1,w0⟩;rintro n s3 ⟨i,σ3,H3,I3,st3,fr3,w3⟩
 rcases turn i n σ3 H3 w3 with ⟨stop,qn⟩ | ⟨go,N,hN,step⟩
 . refine wpAny_passesOwn hp (thn (T.done X rfl rfl rfl hc i pins s3 σ3 H3 X.xe I3 (stat fr3) st3 stop) ?_);rintro r s4 ⟨hr,I4⟩;subst hr;exact wpAny_execs_nil ⟨σ3,H3,I4,qn⟩
 . refine wpAny_passesOwn hp (thn (T.item X rfl rfl rfl hc i pins s3 σ3 H3 X.xe I3 (stat fr3) st3 go) ?_);rintro r s4 ⟨u,hr,h4⟩;subst hr;refine wpAny_passesOwn hp (thn h4 ?_);rintro _ s5 ⟨x,H5,I5,r5,y5,st5,fr5⟩;have I5':=I5.pinned (stat fr5) (T.obj _ _ st5);refine wpAny_passesOwn hp (thn (hg _ s5 σ3 H5 x u _ I5' r5 (step x H5 y5)) ?_);rintro _ s6 ⟨σ6,H6,I6,q6⟩;refine wpAny_passesOwn hp (thn (hb _ s6 σ6 H6 _ I6 q6) fun f s7 q7=>?_);have again:∀ {σ7:St} {H7:Hp},Inv X (pins++ziV fp s5.heap) σ7 H7 s7->N σ7 H7->∃ m,m < n/\∃ i σ' H',Inv X pins σ' H' s7/\tn i s7.heap/\(∀ b∈fp,H' b=none)/\W i m σ' H':=fun {σ7 H7} I7 n7=>by
     obtain⟨m',hm,w7⟩:=hN σ7 H7 n7;refine⟨m',hm,i+1,σ7,H7,I7.unpinned,T.keep _ _ _ st5 fun b hb o e=>(I7.pin (b,o) (List.mem_append_right _ (List.mem_append_right _ (zc4 hb e)))).1,fun b hb=>?_,w7⟩;obtain⟨o,e,d⟩:=T.obj _ _ st5 b hb;exact (I7.pin (b,o) (List.mem_append_right _ (List.mem_append_right _ (zc4 hb e)))).2.1
   cases f with
   | next=>obtain⟨σ7,H7,I7,n7⟩:=q7;exact again I7 n7
   | cont=>obtain⟨σ7,H7,I7,n7⟩:=q7;exact again I7 n7
   | brk=>obtain⟨σ7,H7,I7,q7⟩:=q7;exact⟨σ7,H7,I7.unpinned,q7⟩
   | ret v=>obtain⟨x7,σ7,H7,I7,r7,q7⟩:=q7;exact⟨x7,σ7,H7,I7.unpinned,r7,q7⟩
end
end L2
namespace L2
open PySem PySem.Spec PyProof.Rows
noncomputable abbrev R2:=V->V->Hp->VK->Prop
noncomputable def OpR(X:Cx)(f:Value->Value->Sem Value)(r:R2):Prop :=
 ∀ (pins:List (Addr×Obj)) (s:Shared) (σ:St) (H:Hp) (x y:V) (v u:Value) (Q:VK),Inv X pins σ H s->RelV x v->RelV y u->r x y H Q ->
   wpAny (model X.prog X.w) X.A (f v u) (EP X pins σ Q) X.xe s
noncomputable def UnR(X:Cx)(f:Value->Sem Value)(r:V->Hp->VK->Prop):Prop :=
 ∀ (pins:List (Addr×Obj)) (s:Shared) (σ:St) (H:Hp) (x:V) (v:Value) (Q:VK),Inv X pins σ H s->RelV x v->r x H Q ->
   wpAny (model X.prog X.w) X.A (f v) (EP X pins σ Q) X.xe s
noncomputable def zj1(X:Cx)(f:Value)(r:List V->Hp->VK->Prop):Prop :=
 ∀ (pins:List (Addr×Obj)) (s:Shared) (σ:St) (H:Hp) (xs:List V) (us:List Value) (Q:VK),Inv X pins σ H s->Vals xs us->r xs H Q ->
   wpAny (model X.prog X.w) X.A (call f us) (EP X pins σ Q) X.xe s
noncomputable def TruR(X:Cx)(r:V->Hp->(Bool->Hp->Prop)->Prop):Prop :=
 ∀ (pins:List (Addr×Obj)) (s:Shared) (σ:St) (H:Hp) (x:V) (v:Value) (Q:Bool->Hp->Prop),Inv X pins σ H s->RelV x v->r x H Q ->
   wpAny (model X.prog X.w) X.A (truthy v) (TP X pins σ Q) X.xe s
noncomputable def tOp(r:R2)(ta tb:TE):TE:=fun σ H Q=>ta σ H fun x H1=>tb σ H1 fun y H2=>r x y H2 Q
noncomputable def tUn(r:V->Hp->VK->Prop)(ta:TE):TE:=fun σ H Q=>ta σ H fun x H1=>r x H1 Q
noncomputable def rI(C:Int->Int->Prop)(g:Int->Int->V):R2:=fun x y H Q=>∃ i j,x=.int i/\y=.int j/\C i j/\Q (g i j) H
noncomputable def rI0(g:Int->Int->V):R2:=fun x y H Q=>∃ i j,x=.int i/\y=.int j/\Q (g i j) H
noncomputable def rU(g:Int->V):V->Hp->VK->Prop:=fun x H Q=>∃ i,x=.int i/\Q (g i) H
section
variable {X:Cx} {a b c:Expr} {ta tb tc:TE} {pos:Pos}
theorem binT(ha:PE X a ta)(hb:PE X b tb){pins:List (Addr×Obj)}{s:Shared}{σ:St}{H:Hp}{R:V->V->Hp->Prop}(I:Inv X pins σ H s)
   (h:ta σ H fun x H1=>tb σ H1 fun y H2=>R x y H2) {Q:Value->Shared->Prop} {f:Value->Value->Sem Value}
   (hf:∀ v u s2 x y H2,Inv X pins σ H2 s2->RelV x v->RelV y u->R x y H2->wpAny (model X.prog X.w) X.A (f v u) Q X.xe s2) :
   wpAny (model X.prog X.w) X.A (eval a X.env) (fun v s₁=>wpAny (model X.prog X.w) X.A (eval b X.env) (fun u s₂=>wpAny (model X.prog X.w) X.A (f v u) Q X.xe s₂) X.xe s₁) X.xe s:=by
 refine thn (ha pins s σ H _ I h) ?_;rintro v s1 ⟨x,H1,I1,r1,q1⟩;refine thn (hb pins s1 σ H1 _ I1 q1) ?_;rintro u s2 ⟨y,H2,I2,r2,q2⟩;exact hf v u s2 x y H2 I2 r1 r2 q2
theorem zsk{op:Operator}{r:R2}(ho:OpR X (binaryOp op) r)(ha:PE X a ta)(hb:PE X b tb):PE X (.BinOp a op b pos) (tOp r ta tb):=by
 intro pins s σ H Q I h;exact wpAny_BinOp (binT ha hb I h fun v u s2 x y H2 I2 rx ry q=>ho pins s2 σ H2 x y v u Q I2 rx ry q)
theorem zsj{op:UnaryOp}{r:V->Hp->VK->Prop}(ho:UnR X (unaryOp op) r)(ha:PE X a ta):PE X (.UnaryOp op a pos) (tUn r ta):=by
 intro pins s σ H Q I h;exact UnaryOp_ (thn (ha pins s σ H _ I h) fun v s1 ⟨x,H1,I1,r1,q1⟩=>ho pins s1 σ H1 x v Q I1 r1 q1)
theorem opI{f:Value->Value->Sem Value}{C:Int->Int->Prop}{g:Int->Int->Int}
   (rule:∀ (i j:Int) (t u:Tok) (s:Shared) (Q:Value->Shared->Prop) (E:Value->Shared->Prop),C i j->Q (.int (g i j) s.toks) { s with toks:=s.toks+1 }->wpAny (model X.prog X.w) X.A (f (.int i t) (.int j u)) Q E s) :
   OpR X f (rI C fun i j=>.int (g i j)):=by
 intro pins s σ H x y v u Q I rx ry h;obtain⟨i,j,rfl,rfl,hc,q⟩:=h;obtain⟨t,rfl⟩:=rx;obtain⟨t',rfl⟩:=ry;exact rule i j t t' s _ _ hc ⟨.int (g i j),H,I.tok _,⟨_,rfl⟩,q⟩
theorem opI0{f:Value->Value->Sem Value}{g:Int->Int->Int}
   (rule:∀ (i j:Int) (t u:Tok) (s:Shared) (Q:Value->Shared->Prop) (E:Value->Shared->Prop),Q (.int (g i j) s.toks) { s with toks:=s.toks+1 }->wpAny (model X.prog X.w) X.A (f (.int i t) (.int j u)) Q E s) :
   OpR X f (rI0 fun i j=>.int (g i j)):=by
 intro pins s σ H x y v u Q I rx ry h;obtain⟨i,j,rfl,rfl,q⟩:=h;obtain⟨t,rfl⟩:=rx;obtain⟨t',rfl⟩:=ry;exact rule i j t t' s _ _ ⟨.int (g i j),H,I.tok _,⟨_,rfl⟩,q⟩
theorem opB0{f:Value->Value->Sem Value}{g:Int->Int->Bool}
   (rule:∀ (i j:Int) (t u:Tok) (s:Shared) (Q:Value->Shared->Prop) (E:Value->Shared->Prop),Q (.bool (g i j)) s->wpAny (model X.prog X.w) X.A (f (.int i t) (.int j u)) Q E s) :
   OpR X f (rI0 fun i j=>.bl (g i j)):=by
 intro pins s σ H x y v u Q I rx ry h;obtain⟨i,j,rfl,rfl,q⟩:=h;obtain⟨t,rfl⟩:=rx;obtain⟨t',rfl⟩:=ry;exact rule i j t t' s _ _ ⟨.bl (g i j),H,I,rfl,q⟩
noncomputable def CMul(i j:Int):Prop:=(-(2 ^ 64) < i/\i < 2 ^ 64)\/(-(2 ^ 64) < j/\j < 2 ^ 64)
theorem CMul.ok{i j:Int}(h:CMul i j):IntMulOk i j:=by
 rcases h with ⟨h1,h2⟩ | ⟨h1,h2⟩
 . exact .of_left (intBits_le_64 h1 h2)
 . exact .of_right (intBits_le_64 h1 h2)
theorem zqQ:OpR X (binaryOp .Add) (rI0 fun i j=>.int (i+j)):=opI0 fun _ _ _ _ _ _ _ q=>add_int q
theorem zqL:OpR X (binaryOp .Sub) (rI0 fun i j=>.int (i - j)):=opI0 fun _ _ _ _ _ _ _ q=>sub_int q
theorem zqM:OpR X (binaryOp .Mult) (rI CMul fun i j=>.int (i*j)):=opI fun _ _ _ _ _ _ _ hc q=>mul_int q hc.ok
theorem zqN:OpR X (binaryOp .Mod) (rI (fun _ j=>0 < j) fun i j=>.int (i % j)):=opI fun i j _ _ _ _ _ hc q=>by
 have h1:(0:Int) < j:=hc;exact mod_int' (by omega) (by rw[Int.fmod_eq_emod_of_nonneg i (by omega)];exact q)
theorem unI{f:Value->Sem Value}{g:Int->Int}
   (rule:∀ (i:Int) (t:Tok) (s:Shared) (Q:Value->Shared->Prop) (E:Value->Shared->Prop),Q (.int (g i) s.toks) { s with toks:=s.toks+1 }->wpAny (model X.prog X.w) X.A (f (.int i t)) Q E s) :
   UnR X f (rU fun i=>.int (g i)):=by
 intro pins s σ H x v Q I rx h;obtain⟨i,rfl,q⟩:=h;obtain⟨t,rfl⟩:=rx;exact rule i t s _ _ ⟨.int (g i),H,I.tok _,⟨_,rfl⟩,q⟩
theorem zpO:UnR X (unaryOp .USub) (rU fun i=>.int (-i)):=unI fun _ _ _ _ _ q=>neg_int q
end
section
variable {X:Cx} {a b c:Expr} {ta tb tc:TE} {pos:Pos}
theorem zm9{pins:List (Addr×Obj)}{σ:St}{H:Hp}{s:Shared}{Q:VK}{k k':Bool}(I:Inv X pins σ H s)(q:Q (.bl k) H)(e:k=k'):EP X pins σ Q (.bool k') s:=by
 subst e;exact⟨.bl k,H,I,rfl,q⟩
theorem zso:OpR X (compareOp .Lt) (rI0 fun i j=>.bl (decide (i < j))):=opB0 fun _ _ _ _ _ _ _ q=>lt_int q
theorem zsp:OpR X (compareOp .LtE) (rI0 fun i j=>.bl (decide (i<=j))):=opB0 fun _ _ _ _ _ _ _ q=>le_int q
theorem zsq:OpR X (compareOp .Gt) (rI0 fun i j=>.bl (decide (j < i))):=opB0 fun _ _ _ _ _ _ _ q=>gt_int q
theorem zsr:OpR X (compareOp .GtE) (rI0 fun i j=>.bl (decide (j<=i))):=opB0 fun _ _ _ _ _ _ _ q=>ge_int q
theorem zkz:OpR X (compareOp .In) (fun x y H Q=>∃ i j,x=.str i/\y=.str j/\Q (.bl (!(Builtin.Str.occurrences j i 0 j.length 1).isEmpty)) H):=by
 intro pins s σ H x y v u Q I rx ry h;obtain⟨i,j,rfl,rfl,q⟩:=h;obtain⟨t,rfl⟩:=rx;obtain⟨t',rfl⟩:=ry;exact in_str (zm9 I q rfl)
theorem zou:OpR X (compareOp .IsNot) (fun x y H Q=>y=.non/\Q (.bl (!decide (x=.non))) H):=by
 intro pins s σ H x y v u Q I rx ry h;obtain⟨rfl,q⟩:=h;cases ry;refine isnot_none_gen (zm9 I q ?_)
 cases x <;> first
   | (cases rx;rfl)
   | (obtain⟨t,rfl⟩:=rx;rfl)
theorem zgB:OpR X (compareOp .NotIn) (fun x y H Q=>∃ i j,x=.str i/\y=.str j/\Q (.bl (!(!(Builtin.Str.occurrences j i 0 j.length 1).isEmpty))) H):=by
 intro pins s σ H x y v u Q I rx ry h;obtain⟨i,j,rfl,rfl,q⟩:=h;obtain⟨t,rfl⟩:=rx;obtain⟨t',rfl⟩:=ry;exact notIn_str (zm9 I q rfl)
theorem zoq{op:CmpOp}{r:R2}(ho:OpR X (compareOp op) r)(ha:PE X a ta)(hb:PE X b tb)(hm:behindInMarks op b=false):PE X (.Compare a [op] [b] pos) (tOp r ta tb):=by
 intro pins s σ H Q I h;exact wpAny_Compare1 (binT ha hb I h fun v u s2 x y H2 I2 rx ry q=>ho pins s2 σ H2 x y v u Q I2 rx ry q) hm
noncomputable def zrA(t:TE):TT:=fun σ H Q=>t σ H fun x H'=>∃ k,x=.bl k/\Q k H'
theorem zoe{op:CmpOp}{r:R2}(ho:OpR X (compareOp op) r)(ha:PE X a ta)(hb:PE X b tb)(hm:behindInMarks op b=false):PT X (.Compare a [op] [b] pos) (zrA (tOp r ta tb)):=by
 intro pins s σ H Q I h;refine wpAny_isTrue_Compare1 (thn (ha pins s σ H _ I h) fun v s1 ⟨x,H1,I1,r1,q1⟩=>thn (hb pins s1 σ H1 _ I1 q1) fun u s2 ⟨y,H2,I2,r2,q2⟩ =>
   thn (ho pins s2 σ H2 x y v u _ I2 r1 r2 q2) fun c s3 ⟨z,H3,I3,r3,k,e,q3⟩=>?_) hm
 subst e;cases r3;exact wpAny_truthy_bool ⟨H3,I3,q3⟩
noncomputable def zlN(r r':R2)(ta tb tc:TE):TE:=fun σ H Q=>ta σ H fun x H1=>tb σ H1 fun y H2=>r x y H2 fun z H3=>∃ k,z=.bl k /\
 (if k=true then tc σ H3 fun w' H4=>r' y w' H4 Q else Q (.bl false) H3)
theorem zmu{op op':CmpOp}{r r':R2}(ho:OpR X (compareOp op) r)(ho':OpR X (compareOp op') r')(ha:PE X a ta)(hb:PE X b tb)(hc:PE X c tc)
   (hm:lastMarks [op,op'] [b,c]=false:=by with_unfolding_all rfl):PE X (.Compare a [op,op'] [b,c] pos) (zlN r r' ta tb tc):=by
 intro pins s σ H Q I h;refine Compare_chain (thn (ha pins s σ H _ I h) fun v s1 ⟨x,H1,I1,r1,q1⟩=>chain_link (thn (hb pins s1 σ H1 _ I1 q1) fun u s2 ⟨y,H2,I2,r2,q2⟩ =>
   thn (ho pins s2 σ H2 x y v u _ I2 r1 r2 q2) fun d s3 ⟨z,H3,I3,r3,k,e,q3⟩=>?_)) hm
 subst e;cases r3;refine wpAny_truthy_bool ?_
 cases k with
 | false=>exact ite_ff ⟨.bl false,H3,I3,rfl,q3⟩
 | true=>exact ite_tt (chain_last (thn (hc pins s3 σ H3 _ I3 q3) fun w' s4 ⟨z',H4,I4,r4,q4⟩=>ho' pins s4 σ H4 y z' u w' Q I4 r2 r4 q4))
theorem zmd{op op':CmpOp}{r r':R2}(ho:OpR X (compareOp op) r)(ho':OpR X (compareOp op') r')(ha:PE X a ta)(hb:PE X b tb)(hc:PE X c tc)
   (hm:lastMarks [op,op'] [b,c]=false:=by with_unfolding_all rfl):PT X (.Compare a [op,op'] [b,c] pos) (zrA (zlN r r' ta tb tc)):=by
 intro pins s σ H Q I h;refine isTrue_chain (thn (ha pins s σ H _ I h) fun v s1 ⟨x,H1,I1,r1,q1⟩=>test_link (thn (hb pins s1 σ H1 _ I1 q1) fun u s2 ⟨y,H2,I2,r2,q2⟩ =>
   thn (ho pins s2 σ H2 x y v u _ I2 r1 r2 q2) fun d s3 ⟨z,H3,I3,r3,k,e,q3⟩=>?_)) hm
 subst e;cases r3;refine wpAny_truthy_bool ?_
 cases k with
 | false =>
   obtain⟨k',e',q'⟩:=q3;cases e';exact ite_ff ⟨H3,I3,q'⟩
 | true =>
   refine ite_tt (test_last (thn (hc pins s3 σ H3 _ I3 q3) fun w' s4 ⟨z',H4,I4,r4,q4⟩=>thn (ho' pins s4 σ H4 y z' u w' _ I4 r2 r4 q4) ?_));rintro d' s5 ⟨z2,H5,I5,r5,k2,e2,q5⟩;subst e2;cases r5;exact wpAny_truthy_bool ⟨H5,I5,q5⟩
noncomputable def TruV(K:PySem.W.Frag)(x:V)(H:Hp)(k:Bool):Prop :=
 match x with
 | .non=>k=false
 | .bl b=>k=b
 | .int i=>k=(i != 0)
 | .str y=>y.length<=sizeLine/\k=((y.length:Int) != 0)
 | .byt y=>y.size<=sizeLine/\k=((y.size:Int) != 0)
 | .ref p=>(∃ xs,SqL K H p xs/\k=!xs.isEmpty)\/(∃ xs,SqT K H p xs/\k=!xs.isEmpty)\/∃ kvs,H p=some (.dK kvs)/\k=!kvs.isEmpty
 | _=>False
theorem zjm{κ:Type}{kvs:List (κ×V)}{vs:List (κ×Value)}(r:KV kvs vs):(!vs.isEmpty)=!kvs.isEmpty:=by
 cases r <;> rfl
theorem zf1{xs:List V}{its:List Value}(r:Vals xs its):(!its.toArray.isEmpty)=!xs.isEmpty:=by
 cases r <;> simp
theorem zgJ:(sizeLine:Nat) < 2 ^ 63:=by rw[sizeLine_eq];decide
theorem zpQ:TruR X (fun x H Q=>∃ k,TruV X.K x H k/\Q k H):=by
 intro pins s σ H x v Q I rx h;obtain⟨k,e,q⟩:=h;have hl:=zgJ;have hs:sizeLine=16777216:=sizeLine_eq
 cases x with
 | non =>
   cases rx;have e':k=false:=e;subst e';exact truthy_none ⟨H,I,q⟩
 | bl b =>
   cases rx;have e':k=b:=e;subst e';exact wpAny_truthy_bool ⟨H,I,q⟩
 | int i =>
   obtain⟨t,rfl⟩:=rx;have e':k=(i != 0):=e;subst e';exact PySem.P.truthy_int ⟨H,I,q⟩
 | str y =>
   obtain⟨t,rfl⟩:=rx;obtain⟨hy,e'⟩:y.length<=sizeLine/\k=((y.length:Int) != 0):=e;subst e';exact PySem.P.truthy_str (by omega) ⟨H,I.tok _,q⟩
 | byt y =>
   obtain⟨t,rfl⟩:=rx;obtain⟨hy,e'⟩:y.size<=sizeLine/\k=((y.size:Int) != 0):=e;subst e';exact PySem.W.truthy_bytes (by omega) ⟨H,I.tok _,q⟩
 | ref p =>
   cases rx;have e':(∃ xs,SqL X.K H p xs/\k=!xs.isEmpty)\/(∃ xs,SqT X.K H p xs/\k=!xs.isEmpty)\/∃ kvs,H p=some (.dK kvs)/\k=!kvs.isEmpty:=e
   rcases e' with ⟨xs,hx,e'⟩ | ⟨xs,hx,e'⟩ | ⟨kvs,hx,e'⟩
   . subst e';obtain⟨its,r,pl,hz⟩:=I.list hx;have hlen:=r.length;exact wpAny_truthy_list pl.isList (by simp only[List.size_toArray];omega) ⟨H,I.tok _,by rw[zf1 r];exact q⟩
   . subst e';obtain⟨its,r,pl,hz⟩:=I.tuple hx;have hlen:=r.length;exact truthy_tuple pl (by simp only[List.size_toArray];omega) ⟨H,I.tok _,by rw[zf1 r];exact q⟩
   . subst e';obtain⟨hz,hS,vs,r,m⟩:kvs.length<=sizeLine/\(p==sysModules)=false/\∃ vs,KV kvs vs/\s.heap.DictOf (zaE X.prog X.w) p vs:=I.hok p _ hx;have hlen:kvs.length=vs.length:=Paired.length r;exact wpAny_truthy_dict hS m (by omega) ⟨H,I.tok _,by rw[zjm r];exact q⟩
 | _=>exact (show False from e).elim
theorem ziT(ha:PE X a ta)(he:∀ whole,isTrue a X.env whole=(do let v <-whole;standAt a.pos;holding [v] (truthy v))) :
   PT X a (fun σ H Q=>ta σ H fun x H'=>∃ k,TruV X.K x H' k/\Q k H'):=by
 intro pins s σ H Q I h;exact isTrue_plain (thn (ha pins s σ H _ I h) fun v s1 ⟨x,H1,I1,r1,q1⟩=>zpQ pins s1 σ H1 x v Q I1 r1 q1) (he _)
theorem zi2:OpR X (binaryOp .Add) (fun x y H Q=>∃ i j,x=.str i/\y=.str j/\i.length+j.length<=sizeLine/\Q (.str (i++j)) H):=by
 intro pins s σ H x y v u Q I rx ry h;obtain⟨i,j,rfl,rfl,hz,q⟩:=h;obtain⟨t,rfl⟩:=rx;obtain⟨t',rfl⟩:=ry;exact add_str (fun t' tk=>⟨.str (i++j),H,I.tok _,⟨_,rfl⟩,q⟩) hz
theorem vals1{x:V}{us:List Value}(r:Vals [x] us):∃ u,us=[u]/\RelV x u:=by
 cases r with
 | cons r1 r2=>cases r2;exact⟨_,rfl,r1⟩
theorem vals2{x y:V}{us:List Value}(r:Vals [x,y] us):∃ u w',us=[u,w']/\RelV x u/\RelV y w':=by
 cases r with
 | cons r1 r2 =>
   cases r2 with
   | cons r3 r4=>cases r4;exact⟨_,_,rfl,r1,r3⟩
theorem zk5(hc:X.calm=true):zj1 X (.builtin "min") (fun xs H Q=>∃ i j,xs=[.int i,.int j]/\Q (.int (if j < i then j else i)) H):=by
 intro pins s σ H xs us Q I r h;obtain⟨i,j,rfl,q⟩:=h;obtain⟨u,w',rfl,⟨t,rfl⟩,⟨t',rfl⟩⟩:=vals2 r;refine min_two_ints (I.ok.hd hc) fun h' tk k=>⟨_,H,I.kept k,?_,q⟩
 by_cases hj:j < i
 . rw[if_pos hj,if_pos hj];exact⟨_,rfl⟩
 . rw[if_neg hj,if_neg hj];exact⟨_,rfl⟩
theorem zhx:zj1 X (.type "int") (fun xs H Q=>(∃ i,xs=[.int i]/\Q (.int i) H)\/∃ k,xs=[.bl k]/\Q (.int (if k then 1 else 0)) H):=by
 intro pins s σ H xs us Q I r h
 rcases h with ⟨i,rfl,q⟩ | ⟨k,rfl,q⟩
 . obtain⟨u,rfl,t,rfl⟩:=vals1 r;exact call_int_int ⟨.int i,H,I,⟨_,rfl⟩,q⟩
 . obtain⟨u,rfl,r1⟩:=vals1 r;cases r1;exact call_int_bool ⟨.int (if k then 1 else 0),H,I.tok _,⟨_,rfl⟩,q⟩
end
end L2
namespace L2
open PySem PySem.Spec PyProof.Rows
theorem RelO.some_of{v:V}{o:Option Value}(r:RelO (some v) o):∃ u,o=some u/\RelV v u:=by
 cases o with
 | none=>exact (show False from r).elim
 | some u=>exact⟨u,rfl,r⟩
end L2
namespace L2
open PySem PySem.Spec PyProof.Rows
structure Room(k:Nat)(A:Around):Prop where
 hd:A.handled=none
 dp:A.depth+3*k+5 < recursionLimit
 un:A.units+16*k+200 < cLine
 gd:A.guards=some []
theorem Room.mono{j k:Nat}{A:Around}(r:Room k A)(h:j<=k):Room j A:=⟨r.hd,by have:=r.dp;omega,by have:=r.un;omega,r.gd⟩
theorem Room.deeper{k:Nat}{A:Around}(r:Room (k+1) A)(env:Env):Room k (A.deeper env) :=
 ⟨r.hd,by have:=r.dp;show A.depth+1+3*k+5 < _;omega,by have:=r.un;show A.units+3+16*k+200 < _;omega,r.gd⟩
theorem Room.depth{k:Nat}{A:Around}(r:Room k A):A.depth < recursionLimit:=by have:=r.dp;omega
theorem Room.units{k:Nat}{A:Around}(r:Room k A):A.units+64 < cLine:=by have:=r.un;omega
noncomputable def tNil:TA:=fun _ H Q=>Q [] H
noncomputable def zr8(ta:TE)(tr:TA):TA:=fun σ H Q=>ta σ H fun x H1=>tr σ H1 fun xs H2=>Q (x::xs) H2
section
variable {X:Cx} {e:Expr} {es:List Expr} {te:TE} {t:TA} {pos:Pos}
theorem zot:PA X [] tNil:=fun _ _ _ _ H Q I h=>Calls.spliced_nil ⟨[],H,I,.nil,h⟩
theorem ziX(ha:PE X e te)(hr:PA X es t)(hs:starEach (e::es) X.env=(false,eval e X.env)::starEach es X.env:=by rfl):PA X (e::es) (zr8 te t):=by
 intro pos pins s σ H Q I h;rw[hs];show wpAny _ _ (spliced ((false,eval e X.env)::backTo pos (starEach es X.env))) _ _ s;refine Calls.spliced_cons (thn (ha pins s σ H _ I h) ?_);rintro u s1 ⟨x,H1,I1,r1,q1⟩;exact thn (hr pos pins s1 σ H1 _ I1 q1) fun us s2 ⟨xs,H2,I2,r2,q2⟩=>⟨x::xs,H2,I2,.cons r1 r2,q2⟩
noncomputable def tTup(t:TA):TE:=fun σ H Q=>t σ H fun xs H1=>xs.length<=sizeLine/\∀ p,H1 p=none->Q (.ref p) (upd H1 p (.tup xs))
noncomputable def tLst(t:TA):TE:=fun σ H Q=>t σ H fun xs H1=>xs.length<=sizeLine/\∀ p,H1 p=none->Q (.ref p) (upd H1 p (.lst xs))
theorem zqy{x1}(h:PA X es t):PE X (.Tuple es x1 pos) (tTup t):=by
 intro pins s σ H Q I hq;refine wpAny_Tuple_spliced (thn (h pos pins s σ H _ I hq) fun us s1 ⟨xs,H1,I1,r,z,q⟩=>⟨by rw[<-r.length];exact z,?_⟩);have hf:H1 s1.heap.objs.size=none:=I1.hok.fresh (Nat.le_refl _);refine⟨.ref s1.heap.objs.size,upd H1 s1.heap.objs.size (.tup xs),I1.laid (t':=s1.toks) (fun b u e=>Heap.get?_push_of_some _ e) (Nat.le_refl _) ?_,rfl,q _ hf⟩;exact⟨z,us,r,⟨_,Heap.get?_push_size _ rfl,rfl,rfl,_,rfl⟩⟩
theorem zqD(h:PA X es t):PE X (.List es pos) (tLst t):=by
 intro pins s σ H Q I hq;refine wpAny_List_spliced (thn (h pos pins s σ H _ I hq) fun us s1 ⟨xs,H1,I1,r,z,q⟩=>⟨by rw[<-r.length];exact z,?_⟩);have hf:H1 s1.heap.objs.size=none:=I1.hok.fresh (Nat.le_refl _);refine⟨.ref s1.heap.objs.size,upd H1 s1.heap.objs.size (.lst xs),I1.laid (t':=s1.toks) (fun b u e=>Heap.get?_push_of_some _ e) (Nat.le_refl _) ?_,rfl,q _ hf⟩;exact⟨z,us,0,r,Heap.get?_push_size _ rfl⟩
end
noncomputable abbrev Sp:=List V->Hp->VK->XK->Prop
noncomputable abbrev CXT:=List Env->Hp->Shared->XK->Value->Shared->Prop
structure Env0(P:Program)(w:World)(K:PySem.W.Frag)(mg:Str->Option Value)(base:Heap)(A:Around)(outer:List Env)(s:Shared)(H:Hp):Prop where
 frames:A.frames=some outer
 mod:Mod K mg base
 bs:∀ b o,base.get? b=some o->s.heap.get? b=some o/\H b=none
 bsz:base.objs.size<=s.heap.objs.size
 funs:s.heap.FunFrames base outer
 frf:∀ b∈frs outer,H b=none
 hok:HOk P w H s.heap
 bare:AllBare s.gens
noncomputable def CE(outer:List Env)(P:Program)(w:World)(H:Hp)(s:Shared)(Q:VK)(u:Value)(s':Shared):Prop :=
 ∃ v H',s'.os=s.os/\AllBare s'.gens/\Un (frs outer) [] H H' s.heap s'.heap/\HOk P w H' s'.heap/\RelV v u/\Q v H'
noncomputable def CR(CX:CXT)(outer:List Env)(P:Program)(w:World)(H:Hp)(s:Shared)(Q:VK)(E:XK)(r:Result)(s':Shared):Prop :=
 match r with
 | .ok (.ret u)=>CE outer P w H s Q u s'
 | .ok _=>False
 | .error e=>CX outer H s E e s'
structure FnOk(P:Program)(w:World)(K:PySem.W.Frag)(mg:Str->Option Value)(base:Heap)(CX:CXT)(k:Nat)(f:Addr)(fd:FuncData)(ps:List Str)(sp:Sp):Prop where
 len:∀ vs H Q E,sp vs H Q E->vs.length=ps.length
 run:∀ (A:Around) (outer:List Env) (s:Shared) (H:Hp) (args:Args) (us:List Value) (vs:List V) (Q:VK) (E:XK),Room k A->Env0 P w K mg base A outer s H->BindsTo s fd args (ps.zip us)->Vals vs us->sp vs H Q E ->
   codeAny (model P w) A (.call (.ref f) args) (CR CX outer P w H s Q E) s
section
variable {X:Cx} {pins:List (Addr×Obj)} {σ:St} {H:Hp} {s s':Shared}
theorem Inv.env0(I:Inv X pins σ H s):Env0 X.prog X.w X.K X.mg X.base X.A X.stack s H :=
 ⟨I.ok.frames,I.ok.mod,I.bs,Nat.le_trans I.ok.bsz I.sz,I.stack,I.stkFree,I.hok,I.bare⟩
theorem Inv.after{Q:VK}{u:Value}(I:Inv X pins σ H s)(h:CE X.stack X.prog X.w H s Q u s'):EP X pins σ Q u s':=by
 obtain⟨v,H',os,bare,un,hok,r,q⟩:=h;obtain⟨hh,g,d,t,os'⟩:=s';obtain rfl:os'=s.os:=os;exact⟨v,H',I.call (h':=hh) (g':=g) (d':=d) (t':=t) (ch:=[]) un hok bare (fun b z=>absurd z (by simp)),r,q⟩
end
noncomputable def zr9(sp:Sp)(dvs:List V)(E:XK)(t:TA):TE:=fun σ H Q=>t σ H fun vs H1=>sp (vs++dvs) H1 Q E
noncomputable def Binds(K:PySem.W.Frag)(fd:FuncData)(ps:List Str)(ds:List Value):Prop :=
 ∀ (s:Shared) (us:List Value),K.In s.heap->(us++ds).length=ps.length->BindsTo s fd ⟨us,[]⟩ (ps.zip (us++ds))
theorem Binds.all{K:PySem.W.Frag}{fd:FuncData}{ps:List Str}(h:∀ us:List Value,us.length=ps.length->bindArgs fd ⟨us,[]⟩=pure (ps.zip us)):Binds K fd ps []:=fun s us _ hl=>by
 rw[List.append_nil] at hl ⊢;exact .of_eq (h us hl)
noncomputable def Passes(CX:CXT)(X:Cx)(E:XK):Prop:=∀ (pins:List (Addr×Obj)) (σ:St) (H:Hp) (s:Shared) (e:Value) (s':Shared),Inv X pins σ H s->CX X.stack H s E e s'->X.xe e s'
section
variable {X:Cx} {CX:CXT} {k:Nat} {f C:Addr} {fd:FuncData} {ps:List Str} {sp:Sp} {dvs:List V} {ds:List Value} {E:XK} {x m:Str} {p pos apos:Pos} {e o:Expr} {es:List Expr} {ta:TE} {t:TA}
theorem zqj{pins:List (Addr×Obj)}{σ:St}{H:Hp}{s:Shared}{Q:VK}{us:List Value}{vs:List V}(F:FnOk X.prog X.w X.K X.mg X.base CX k f fd ps sp)(hr:Room k X.A)(hb:Binds X.K fd ps ds)(hd:Vals dvs ds)(hx:Passes CX X E)
   (I:Inv X pins σ H s) (r:Vals vs us) (h:sp (vs++dvs) H Q E):wpAny (model X.prog X.w) X.A (call (.ref f) us) (EP X pins σ Q) X.xe s:=by
 have r2:Vals (vs++dvs) (us++ds):=r.append hd;have hl:(us++ds).length=ps.length:=by rw[<-r2.length];exact F.len _ _ _ _ h
 refine wpAny_call (codeAny_mono (F.run X.A X.stack s H ⟨us,[]⟩ (us++ds) (vs++dvs) Q E hr I.env0 (hb s us I.kIn hl) r2 h) fun r s' hq=>?_)
 cases r with
 | error e=>exact hx pins σ H s e s' I hq
 | ok fl =>
   cases fl with
   | ret u=>exact I.after hq
   | next=>exact False.elim hq
   | brk=>exact False.elim hq
   | cont=>exact False.elim hq
theorem zor(F:FnOk X.prog X.w X.K X.mg X.base CX k f fd ps sp)(hr:Room k X.A)(hg:Gl X x)(hm:X.mg x=some (.ref f))(hk:PySem.W.keepIn X.K (.ref f)=true)(hb:Binds X.K fd ps ds)(hd:Vals dvs ds)(hx:Passes CX X E)
   (ha:PA X (e::es) t) (hdb:(x==("__debug__":Str))=false:=by decide) (he:starEach (e::es) X.env=(false,eval e X.env)::starEach es X.env:=by rfl) (hpl:(backTo pos (starEach es X.env)).any (·.1)=false:=by rfl) :
   PE X (.Call (.Name x p) (e::es) [] pos) (zr9 sp dvs E t):=by
 intro pins s σ H Q I h;refine wpAny_Call_Name_kw (zoY I hg hm ?_ hdb);refine PySem.W.callWith_K (h₀:=X.base) I.ok.mod.kin hk (thn (ha pos pins s σ H _ I h) fun us s1 ⟨vs,H1,I1,r,q⟩=>⟨I1.kIn,?_⟩) he hpl;exact zqj F hr hb hd hx I1 r q
end
structure FnScope(N P:List Str)(sc:Scope):Prop where
 kind:sc.kind=.function
 co:sc.isCoroutine=false
 gen:sc.isGenerator=false
 nd:N.Nodup
 pre:N.take P.length=P
 par:∀ x∈P,sc.names.lookup x=some .local\/sc.names.lookup x=some .cell
 nofree:∀ y∈sc.names,y.2≠.free
theorem zhy{kindOf:Str->Option NameKind}{x:Str}:∀ {binds:List (Str×Value)} {m:Str->Option Value},(∀ v,(x,v) ∉ binds)->bindL kindOf binds m x=m x
 | [],_,_=>rfl
 | (n,v)::r,m,h=>by
   unfold bindL;rw[zhy fun w hw=>h w (List.mem_cons_of_mem _ hw)]
   split
   . have:x≠n:=by rintro rfl;exact h v List.mem_cons_self
     simp[this]
   . rfl
theorem zhA{kindOf:Str->Option NameKind}{x:Str}:∀ {binds:List (Str×Value)} {m:Str->Option Value},(∀ v,(x,v) ∉ binds)->bindC kindOf binds m x=m x
 | [],_,_=>rfl
 | (n,v)::r,m,h=>by
   unfold bindC;rw[zhA fun w hw=>h w (List.mem_cons_of_mem _ hw)]
   split
   . rfl
   . have:x≠n:=by rintro rfl;exact h v List.mem_cons_self
     simp[this]
theorem zhz{kindOf:Str->Option NameKind}{x:Str}{v:Value}:∀ {P:List Str} {vs:List Value} {i:Nat} {m:Str->Option Value},P.Nodup->P[i]?=some x->vs[i]?=some v->kindOf x=some .local ->
   bindL kindOf (P.zip vs) m x=some v
 | [],_,_,_,_,h,_,_=>by simp at h
 | _::_,[],_,_,_,_,h,_=>by simp at h
 | p::P,w::vs,0,m,nd,h1,h2,hk=>by
   simp at h1 h2;subst h1;subst h2;show bindL kindOf ((p,w)::P.zip vs) m p=_;unfold bindL;rw[zhy fun v hv=>(List.nodup_cons.mp nd).1 (List.of_mem_zip hv).1,if_pos hk];simp
 | p::P,w::vs,i+1,m,nd,h1,h2,hk=>by
   show bindL kindOf ((p,w)::P.zip vs) m x=_;unfold bindL;exact zhz (i:=i) (List.nodup_cons.mp nd).2 (by simpa using h1) (by simpa using h2) hk
theorem zhB{kindOf:Str->Option NameKind}{x:Str}{v:Value}:∀ {P:List Str} {vs:List Value} {i:Nat} {m:Str->Option Value},P.Nodup->P[i]?=some x->vs[i]?=some v->kindOf x≠some .local ->
   bindC kindOf (P.zip vs) m x=some v
 | [],_,_,_,_,h,_,_=>by simp at h
 | _::_,[],_,_,_,_,h,_=>by simp at h
 | p::P,w::vs,0,m,nd,h1,h2,hk=>by
   simp at h1 h2;subst h1;subst h2;show bindC kindOf ((p,w)::P.zip vs) m p=_;unfold bindC;rw[zhA fun v hv=>(List.nodup_cons.mp nd).1 (List.of_mem_zip hv).1,if_neg hk];simp
 | p::P,w::vs,i+1,m,nd,h1,h2,hk=>by
   show bindC kindOf ((p,w)::P.zip vs) m x=_;unfold bindC;exact zhB (i:=i) (List.nodup_cons.mp nd).2 (by simpa using h1) (by simpa using h2) hk
noncomputable def start(N:List Str)(vs:List V):St:=vs.map some++List.replicate (N.length - vs.length) none
noncomputable def cxOf(CX:CXT)(P:Program)(w:World)(K:PySem.W.Frag)(mg:Str->Option Value)(base:Heap)(N:List Str)(qual:Str)(scope:Scope)(f:Addr)(cd:Value)(A:Around)(outer:List Env)(s:Shared)(H:Hp)(E:XK):Cx where
 prog:=P
 w:=w
 K:=K
 mg:=mg
 base:=base
 A:=A.deeper (envOfC qual scope s.heap.objs.size f cd)
 N:=N
 s₀:=s
 H₀:=H
 env:=envOfC qual scope s.heap.objs.size f cd
 outer:=outer
 stack:=envOfC qual scope s.heap.objs.size f cd::outer
 ex:=[]
 calm:=true
 fn:=fun _=>true
 pn:=[]
 xe:=fun e s'=>wpAny (model P w) (A.deeper (envOfC qual scope s.heap.objs.size f cd)) (leaving (envOfC qual scope s.heap.objs.size f cd) e) (fun _ s''=>CX outer H s E e s'') (fun e' s''=>CX outer H s E e' s'') s'
theorem zjJ{sc:Scope}{n:Nat}{x:Str}(h:sc.names.lookup x=some .cell):∃ c,(cellsFrom n sc.names []).lookup x=some c:=by
 have q:=PySem.W.cellsFrom_some sc.names n [] (.inl h);exact Option.isSome_iff_exists.mp q
theorem zkS{CX:CXT}{P:Program}{w:World}{K:PySem.W.Frag}{mg:Str->Option Value}{base:Heap}{N ps:List Str}{qual:Str}{scope:Scope}{f:Addr}{cd:Value}{A:Around}{outer:List Env}{s s1:Shared}{H:Hp}{E:XK}{us:List Value}{vs:List V}
   (S:FnScope N ps scope) (hd:A.handled=none) (e0:Env0 P w K mg base A outer s H) (hl:vs.length=ps.length) (r:Vals vs us)
   (x:InCallC s s.heap.objs.size (bindL (envOfC qual scope s.heap.objs.size f cd).kindOf (ps.zip us) fun _=>none) (cellsFrom (s.heap.objs.size+1) scope.names []) (bindC (envOfC qual scope s.heap.objs.size f cd).kindOf (ps.zip us) fun _=>none) s1) :
   Inv (cxOf CX P w K mg base N qual scope f cd A outer s H E) [] (start N vs) H s1:=by
 have hpl:ps.length<=N.length:=by have:=congrArg List.length S.pre;rw[List.length_take] at this;omega
 obtain⟨h1,tk,rfl,hk⟩:=x.done;have noA:∀ b:Addr,b ∉ (cxOf CX P w K mg base N qual scope f cd A outer s H E).ex:=fun b z=>absurd (show b∈([]:List Addr) from z) (by simp);refine⟨⟨e0.mod,S.kind,rfl,rfl,Nat.le_refl _,fun y z c h1 h2=>?_,fun y hy=>?_,fun y c _ h=>?_,fun _=>hd,Around.frames_deeper e0.frames,.inr ⟨rfl,rfl⟩,fun b z=>absurd z (noA b),e0.bs,e0.bsz,fun b _ _=>noA b,fun b z=>absurd z (noA b),e0.funs,e0.frf⟩,
   rfl,e0.bare,Un.kept hk,⟨_,x.toInCall.ns,fun i y v h1 h2 h3=>?_⟩,fun y c h=>⟨_,x.cell y c h⟩,e0.hok.fresh (Nat.le_refl _),fun y c h=>?_,fun p hp=>absurd (show p∈([]:List (Addr×Obj)) from hp) (by simp),e0.hok.kept hk,?_⟩
 . exact name_of_addr x.apart (PySem.mem_of_lookup h1) (PySem.mem_of_lookup h2)
 . have hy:scope.names.lookup y=some .cell\/scope.names.lookup y=some .free:=hy
   rcases hy with hy | hy
   . exact zjJ hy
   . exact absurd rfl (S.nofree _ (PySem.mem_of_lookup hy))
 . exact Nat.le_of_lt (x.above y c (PySem.mem_of_lookup h))
 . have hi:i < vs.length:=by
     unfold start at h2
     by_cases hi:i < vs.length
     . exact hi
     . rw[List.getElem?_append_right (by simpa using hi)] at h2;rw[List.getElem?_replicate] at h2
       split at h2 <;> cases h2
   have ha:vs[i]?=some v:=by
     unfold start at h2;rw[List.getElem?_append_left (by simpa using hi),List.getElem?_map] at h2
     cases e:vs[i]? with
     | none=>rw[e] at h2;cases h2
     | some a=>rw[e] at h2;cases h2;rfl
   obtain⟨u,hu,rv⟩:=r.get ha;have hp:ps[i]?=some y:=by
     rw[<-S.pre,List.getElem?_take_of_lt (by omega)];exact h1
   have ndP:ps.Nodup:=by rw[<-S.pre];exact S.nd.sublist (List.take_sublist _ _)
   refine⟨u,rv,?_⟩
   rcases S.par y (List.mem_of_getElem? hp) with k | k
   . exact .inl ⟨k,zhz ndP hp hu k⟩
   . obtain⟨c,e⟩:=zjJ (n:=s.heap.objs.size+1) k;refine .inr ⟨.inl k,c,e,?_⟩;have q:=x.cell y c e;rw[zhB ndP hp hu (by show scope.names.lookup y≠_;rw[k];decide)] at q;exact q
 . exact e0.hok.fresh (Nat.le_of_lt (x.above y c (PySem.mem_of_lookup h)))
 . unfold start;show _=N.length;rw[List.length_append,List.length_map,List.length_replicate];omega
theorem zsG{CX:CXT}{P:Program}{w:World}{K:PySem.W.Frag}{mg:Str->Option Value}{base:Heap}{k:Nat}{f:Addr}{name qual:Str}{params:Arguments}{body:List Stmt}{scope:Scope}{dV kV doc pm cdv ct oc:Value}{an od:Option Addr}
   {osl:Array (Option Value)} {N ps:List Str} {sp:Sp} (lk:K.lookup f=some ⟨oc,od,.func (PySem.W.fnOf name qual params body scope dV kV doc pm an cdv ct),osl⟩) (hcd:PySem.W.codeIn K cdv qual=true) (S:FnScope N ps scope)
   (len:∀ vs H Q E,sp vs H Q E->vs.length=ps.length)
   (hbody:∀ (A:Around) (outer:List Env) (s:Shared) (H:Hp) (vs:List V) (Q:VK) (E:XK),Room k (A.deeper (envOfC qual scope s.heap.objs.size f cdv))->sp vs H Q E ->
     ∃ t,PSs (cxOf CX P w K mg base N qual scope f cdv A outer s H E) body t/\t { nx:=fun _ H'=>Q .non H',rt:=Q } (start N vs) H) :
   FnOk P w K mg base CX (k+1) f (PySem.W.fnOf name qual params body scope dV kV doc pm an cdv ct) ps sp:=by
 refine⟨len,fun A outer s H args us vs Q E hr e0 hb r hsp=>?_⟩;have hl:=len _ _ _ _ hsp;have KX:K.In s.heap:=e0.mod.kin.keeps fun b o e=>(e0.bs b o e).1;have lim:s.heap.NoLimit:=e0.mod.nolimit.keeps fun b o e=>(e0.bs b o e).1;have hkind:∀ y∈ps.zip us,scope.names.lookup y.1=some .local\/(scope.names.lookup y.1=some .cell/\((cellsFrom (s.heap.objs.size+1) scope.names []).lookup y.1).isSome=true):=by
   rintro ⟨n,v⟩ hy
   rcases S.par n (List.of_mem_zip hy).1 with q | q
   . exact .inl q
   . exact .inr ⟨q,PySem.W.cellsFrom_some _ _ _ (.inl q)⟩
 refine codeAny_call_function hr.depth (KX _ _ lk) rfl S.co S.gen rfl (PySem.W.codeRec_of KX hcd) (hb _ _ _ _ ?_);refine wpAny_newFunctionEnv_cells S.kind hkind fun env he s1 x=>?_;subst he;refine⟨lim.keeps x.toInCall.keep,codeAny_func ?_⟩;obtain⟨t,ht,hq⟩:=hbody A outer s H vs Q E (hr.deeper _) hsp;have I:Inv (cxOf CX P w K mg base N qual scope f cdv A outer s H E) [] (start N vs) H s1:=zkS S hr.hd e0 hl r x;refine wpAny_mono (ht [] s1 (start N vs) H _ I hq) (fun fl s' hs=>?_) fun e s' hs=>hs;have fin:∀ {σ':St} {H':Hp} {v:V} {u:Value},Inv (cxOf CX P w K mg base N qual scope f cdv A outer s H E) [] σ' H' s'->RelV v u->Q v H'->CE outer P w H s Q u s' :=
   fun {σ' H' v u} J rv q=>⟨v,H',J.os,J.bare,J.base,J.hok,rv,q⟩
 cases fl with
 | ret u =>
   obtain⟨v,σ',H',J,rv,q⟩:=hs;exact fin J rv q
 | next =>
   obtain⟨σ',H',J,q⟩:=hs;exact fin (v:=V.non) (u:=Value.none) J rfl q
 | brk =>
   obtain⟨_,_,_,q⟩:=hs;exact False.elim q
 | cont =>
   obtain⟨_,_,_,q⟩:=hs;exact False.elim q
end L2
namespace L2
open PySem PySem.Spec PyProof.Rows
section
variable {X:Cx} {x:Str} {p pos:Pos} {e:Expr} {es:List Expr} {t:TA} {id T:String} {r:List V->Hp->VK->Prop}
noncomputable def tCB(r:List V->Hp->VK->Prop)(t:TA):TE:=fun σ H Q=>t σ H fun vs H1=>r vs H1 Q
theorem ziW(hc:zj1 X (.builtin id) r)(hg:Gl X x)(hm:X.mg x=none)(hv:bootBuiltins x=some (.builtin id))(ha:PA X (e::es) t)(hn:x≠"__name__":=by decide)(hdb:(x==("__debug__":Str))=false:=by decide)
   (he:starEach (e::es) X.env=(false,eval e X.env)::starEach es X.env:=by rfl) (hpl:(backTo pos (starEach es X.env)).any (·.1)=false:=by rfl):PE X (.Call (.Name x p) (e::es) [] pos) (tCB r t):=by
 intro pins s σ H Q I h;refine wpAny_Call_Name_kw (zhZ I hg hm hv ?_ hn hdb);exact PyProof.Rows.callWith_builtin1 (thn (ha pos pins s σ H _ I h) fun us s1 ⟨vs,H1,I1,r1,q1⟩=>hc pins s1 σ H1 vs us Q I1 r1 q1) he hpl
theorem zku(hc:zj1 X (.type T) r)(hg:Gl X x)(hm:X.mg x=none)(hv:bootBuiltins x=some (.type T))(ha:PA X (e::es) t)(hn:x≠"__name__":=by decide)(hdb:(x==("__debug__":Str))=false:=by decide)
   (he:starEach (e::es) X.env=(false,eval e X.env)::starEach es X.env:=by rfl) (hpl:(backTo pos (starEach es X.env)).any (·.1)=false:=by rfl):PE X (.Call (.Name x p) (e::es) [] pos) (tCB r t):=by
 intro pins s σ H Q I h;refine wpAny_Call_Name_kw (zhZ I hg hm hv ?_ hn hdb);exact PyProof.Rows.callWith_type1 (thn (ha pos pins s σ H _ I h) fun us s1 ⟨vs,H1,I1,r1,q1⟩=>hc pins s1 σ H1 vs us Q I1 r1 q1) he hpl
end
end L2
namespace L2
open PySem PySem.Spec PyProof.Rows
section
variable {κ:Type} [DecidableEq κ]
noncomputable def valV(kvs:List (κ×V))(k:κ):Option V:=(kvs.find? fun kv=>decide (kv.1=k)).map (·.2)
noncomputable def putK(kvs:List (κ×V))(k:κ)(v:V):List (κ×V) :=
 if (kvs.any fun kv=>decide (kv.1=k))=true then kvs.map (fun kv=>if kv.1=k then (kv.1,v) else kv) else kvs++[(k,v)]
theorem zgi{p:κ×V}{r:List (κ×V)}{k:κ}(e:p.1=k):valV (p::r) k=some p.2:=by simp[valV,List.find?_cons,e]
theorem zgj{p:κ×V}{r:List (κ×V)}{k:κ}(e:¬ p.1=k):valV (p::r) k=valV r k:=by simp[valV,List.find?_cons,e]
theorem zih(k:κ):∀ kvs:List (κ×V),(kvs.any fun kv=>decide (kv.1=k))=(valV kvs k).isSome
 | []=>rfl
 | p::r=>by
   rw[List.any_cons]
   by_cases e:p.1=k
   . simp only[zgi e,decide_eq_true e,Bool.true_or,Option.isSome_some]
   . rw[zgj e,decide_eq_false e,Bool.false_or];exact zih k r
theorem zdp(kvs:List (κ×V))(k:κ)(v:V):(putK kvs k v).length<=kvs.length+1:=by
 unfold putK
 split
 . rw[List.length_map];omega
 . rw[List.length_append,List.length_cons,List.length_nil];omega
theorem RelO.isSome_eq{o:Option V}{u:Option Value}(r:RelO o u):o.isSome=u.isSome:=by
 cases o with
 | none=>cases u with
   | none=>rfl
   | some _=>exact (show False from r).elim
 | some _=>cases u with
   | none=>exact (show False from r).elim
   | some _=>rfl
theorem RelO.getD{o:Option V}{u:Option Value}{d:V}{d':Value}(r:RelO o u)(rd:RelV d d'):RelV (o.getD d) (u.getD d'):=by
 cases o with
 | none=>cases u with
   | none=>exact rd
   | some _=>exact (show False from r).elim
 | some _=>cases u with
   | none=>exact (show False from r).elim
   | some _=>exact r
theorem KV.val{kvs:List (κ×V)}{vs:List (κ×Value)}(r:KV kvs vs)(k:κ):RelO (valV kvs k) (valueAt vs k):=by
 unfold KV at r
 induction r with
 | nil=>exact True.intro
 | @cons p q ps qs h t ih =>
   obtain⟨h1,h2⟩:=h
   by_cases e:p.1=k
   . have e':q.1=k:=h1.symm.trans e;have b:valueAt (q::qs) k=some q.2:=by simp[valueAt,List.find?_cons,e']
     rw[zgi e,b];exact h2
   . have e':¬ q.1=k:=fun z=>e (h1.trans z);have b:valueAt (q::qs) k=valueAt qs k:=by simp[valueAt,List.find?_cons,e']
     rw[zgj e,b];exact ih
theorem KV.any{kvs:List (κ×V)}{vs:List (κ×Value)}(r:KV kvs vs)(k:κ):(kvs.any fun kv=>decide (kv.1=k))=vs.any fun kv=>decide (kv.1=k):=by
 unfold KV at r
 induction r with
 | nil=>rfl
 | cons h t ih=>rw[List.any_cons,List.any_cons,ih,h.1]
theorem KV.repl{kvs:List (κ×V)}{vs:List (κ×Value)}(r:KV kvs vs)(k:κ){y:V}{u:Value}(ry:RelV y u) :
   KV (kvs.map fun kv=>if kv.1=k then (kv.1,y) else kv) (vs.map fun kv=>if kv.1=k then (kv.1,u) else kv):=by
 unfold KV at r ⊢
 induction r with
 | nil=>exact .nil
 | @cons p q ps qs h t ih =>
   rw[List.map_cons,List.map_cons];refine .cons ?_ ih;obtain⟨h1,h2⟩:=h
   by_cases e:p.1=k
   . rw[if_pos e,if_pos (h1.symm.trans e)];exact⟨h1,ry⟩
   . rw[if_neg e,if_neg (fun z=>e (h1.trans z))];exact⟨h1,h2⟩
theorem KV.put{kvs:List (κ×V)}{vs:List (κ×Value)}(r:KV kvs vs)(k:κ){y:V}{u:Value}(ry:RelV y u):KV (putK kvs k y) (stored vs k u):=by
 unfold putK stored;rw[r.any k]
 by_cases e:(vs.any fun kv=>decide (kv.1=k))=true
 . rw[if_pos e,if_pos e];exact r.repl k ry
 . rw[if_neg e,if_neg e];exact Paired.snoc r ⟨rfl,ry⟩
theorem KV.length{kvs:List (κ×V)}{vs:List (κ×Value)}(r:KV kvs vs):kvs.length=vs.length:=Paired.length r
end
theorem zm1{P:Program}{w:World}{k:Key}{u:Value}(r:RelV (kV k) u):(zaE P w).is k u=true:=by
 cases k with
 | inl i=>obtain⟨t,e⟩:=(show ∃ t,u=Value.int i t from r);subst e;exact zhY P w i t
 | inr x=>obtain⟨t,e⟩:=(show ∃ t,u=Value.str x t from r);subst e;exact zhX P w x t
theorem zhr{P:Program}{w:World}:∀ {ks:List Key} {us:List Value},Vals (ks.map kV) us->ItemsAre (zaE P w) ks us
 | [],_,r=>by rw[List.map_nil] at r;cases r;exact .nil
 | k::ks,_,r=>by
   rw[List.map_cons] at r
   cases r with
   | cons h t=>exact .cons (zm1 h) (zhr t)
noncomputable abbrev KT (H:Hp):List (List Key×V)->List (List Key×Addr×Value)->Prop:=Paired fun p q=>p.1=q.1/\H q.2.1=some (.tup (p.1.map kV))/\RelV p.2 q.2.2
theorem KT.val{H:Hp}{kvs:List (List Key×V)}{xs:List (List Key×Addr×Value)}(r:KT H kvs xs)(k:List Key):RelO (valV kvs k) ((atKey xs k).map (·.2)):=by
 induction r with
 | nil=>exact True.intro
 | @cons p q ps qs h t ih =>
   obtain⟨h1,_,h2⟩:=h
   by_cases e:p.1=k
   . have e':q.1=k:=h1.symm.trans e;have b:atKey (q::qs) k=some q.2:=by simp[atKey,List.find?_cons,e']
     rw[zgi e,b];exact h2
   . have e':¬ q.1=k:=fun z=>e (h1.trans z);have b:atKey (q::qs) k=atKey qs k:=by simp[atKey,List.find?_cons,e']
     rw[zgj e,b];exact ih
theorem KT.repl{H:Hp}{kvs:List (List Key×V)}{xs:List (List Key×Addr×Value)}(r:KT H kvs xs)(k:List Key){y:V}{u:Value}(ry:RelV y u) :
   KT H (kvs.map fun kv=>if kv.1=k then (kv.1,y) else kv) (xs.map (putAt k u)):=by
 induction r with
 | nil=>exact .nil
 | @cons p q ps qs h t ih =>
   rw[List.map_cons,List.map_cons];refine .cons ?_ ih;obtain⟨h1,h2,h3⟩:=h;unfold putAt
   by_cases e:p.1=k
   . rw[if_pos e,if_pos (h1.symm.trans e)];exact⟨h1,h2,ry⟩
   . rw[if_neg e,if_neg (fun z=>e (h1.trans z))];exact⟨h1,h2,h3⟩
theorem KT.put{H:Hp}{kvs:List (List Key×V)}{xs:List (List Key×Addr×Value)}(r:KT H kvs xs)(k:List Key){b:Addr}{y:V}{u:Value}(hb:H b=some (.tup (k.map kV)))(ry:RelV y u) :
   KT H (putK kvs k y) (storedH xs k b u):=by
 have e:(kvs.any fun kv=>decide (kv.1=k))=(atKey xs k).isSome:=by
   rw[zih,(r.val k).isSome_eq,Option.isSome_map]
 unfold putK storedH;rw[e]
 by_cases q:(atKey xs k).isSome=true
 . rw[if_pos q,if_pos q];exact r.repl k ry
 . rw[if_neg q,if_neg q];exact Paired.snoc r ⟨rfl,hb,ry⟩
theorem KT.keeps{H H':Hp}{kvs:List (List Key×V)}{xs:List (List Key×Addr×Value)}(r:KT H kvs xs)(ht:∀ b ys,H b=some (.tup ys)->H' b=some (.tup ys)):KT H' kvs xs :=
 Paired.mapP r fun _ _ z=>⟨z.1,ht _ _ z.2.1,z.2.2⟩
section
variable {P:Program} {w:World} {H:Hp} {h:Heap} {a:Addr}
theorem zrD{u:HO}(ok:HOk P w H h)(e:Rd H a u):zdc P w H h a u:=e.ok ok
theorem znf{kvs:List (Key×V)}(ok:HOk P w H h)(e:Rd H a (.dK kvs)):kvs.length<=sizeLine/\(a==sysModules)=false/\∃ vs,KV kvs vs/\h.DictOf (zaE P w) a vs :=
 show zdc P w H h a (.dK kvs) from zrD ok e
theorem zsL{kvs:List (Key×V)}(ok:HOk P w H h)(e:H a=some (.dK kvs)):kvs.length<=sizeLine/\(a==sysModules)=false/\∃ vs,KV kvs vs/\h.DictOf (zaE P w) a vs:=znf ok (.inl e)
theorem zf0{ks:List Key}(ok:HOk P w H h)(e:H a=some (.tup (ks.map kV))):(tupleKind (zaE P w)).is h ks a:=by
 obtain⟨_,its,r,o,h1,h2,_,n,h3⟩:=(show zdc P w H h a (.tup (ks.map kV)) from ok a _ e)
 exact⟨o,its.toArray,n,h1,h2,h3,by simpa using zhr r⟩
theorem znc{kvs:List (List Key×V)}(ok:HOk P w H h)(e:Rd H a (.dT kvs)):kvs.length<=sizeLine/\(a==sysModules)=false /\
   ∃ xs,KT H kvs xs/\h.DictOfH (tupleKind (zaE P w)) a xs:=by
 obtain⟨z,y,xs,r,o,es,ep,h1,h2,h3,h4,h5⟩:=(show zdc P w H h a (.dT kvs) from zrD ok e)
 refine⟨z,y,xs,r,o,es,ep,h1,h2,h3,h4,fun x hx=>?_,h5⟩;have all:∀ {l:List (List Key×V)} {m:List (List Key×Addr×Value)},KT H l m->∀ x∈m,(tupleKind (zaE P w)).is h x.1 x.2.1:=by
   intro l m q
   induction q with
   | nil=>intro x hx;exact nomatch hx
   | @cons p q ps qs hq t ih =>
     intro x hx
     rcases List.mem_cons.mp hx with e | hx
     . subst e;exact zf0 ok (by rw[<-hq.1];exact hq.2.1)
     . exact ih x hx
 exact all r x hx
theorem zrQ{kvs:List (List Key×V)}(ok:HOk P w H h)(e:H a=some (.dT kvs)):kvs.length<=sizeLine/\(a==sysModules)=false /\
   ∃ xs,KT H kvs xs/\h.DictOfH (tupleKind (zaE P w)) a xs:=znc ok (.inl e)
end
noncomputable def DGet(H:Hp)(a:Addr)(y:V)(r:Option V):Prop :=
 (∃ kvs k,Rd H a (.dK kvs)/\y=kV k/\r=valV kvs k)\/∃ kvs k b,Rd H a (.dT kvs)/\y=.ref b/\H b=some (.tup (k.map kV))/\r=valV kvs k
noncomputable def DPut(H:Hp)(a:Addr)(y v:V)(H':Hp):Prop :=
 (∃ kvs k,H a=some (.dK kvs)/\y=kV k/\kvs.length < sizeLine/\H'=upd H a (.dK (putK kvs k v))) \/
 ∃ kvs k b,H a=some (.dT kvs)/\y=.ref b/\H b=some (.tup (k.map kV))/\kvs.length < sizeLine/\H'=upd H a (.dT (putK kvs k v))
theorem DGet.k{H:Hp}{a:Addr}{kvs:List (Key×V)}{k:Key}(e:H a=some (.dK kvs)):DGet H a (kV k) (valV kvs k):=.inl ⟨kvs,k,.inl e,rfl,rfl⟩
theorem DGet.t{H:Hp}{a b:Addr}{kvs:List (List Key×V)}{k:List Key}(e:H a=some (.dT kvs))(eb:H b=some (.tup (k.map kV))):DGet H a (.ref b) (valV kvs k):=.inr ⟨kvs,k,b,.inl e,rfl,eb,rfl⟩
theorem DPut.k{H:Hp}{a:Addr}{kvs:List (Key×V)}{k:Key}{v:V}(e:H a=some (.dK kvs))(hl:kvs.length < sizeLine):DPut H a (kV k) v (upd H a (.dK (putK kvs k v))):=.inl ⟨kvs,k,e,rfl,hl,rfl⟩
theorem DPut.t{H:Hp}{a b:Addr}{kvs:List (List Key×V)}{k:List Key}{v:V}(e:H a=some (.dT kvs))(eb:H b=some (.tup (k.map kV)))(hl:kvs.length < sizeLine) :
   DPut H a (.ref b) v (upd H a (.dT (putK kvs k v))):=.inr ⟨kvs,k,b,e,rfl,eb,hl,rfl⟩
section
variable {X:Cx} {pins:List (Addr×Obj)} {σ:St} {H:Hp} {s:Shared} {a:Addr} {y v:V} {u r:Value} {o:Option V} {A:Around} {E:Value->Shared->Prop}
theorem Inv.big(I:Inv X pins σ H s):sysModules < s.heap.objs.size:=by
 have h:mainGlobals < s.heap.objs.size:=(I.mod.glob.keeps I.bk).lt;exact Nat.lt_trans (by decide) h
theorem zk0{Q:Value->Shared->Prop}(hu:A.units+1 < cLine)(I:Inv X pins σ H s)(g:DGet H a y (some v))(ry:RelV y u)(h:∀ w' s',Inv X pins σ H s'->RelV v w'->Q w' s') :
   wpAny (model X.prog X.w) A (getItem (.ref a) u) Q E s:=by
 rcases g with ⟨kvs,k,e,ey,l⟩ | ⟨kvs,k,b,e,ey,eb,l⟩
 . subst ey;obtain⟨z,hd,vs,rel,dd⟩:=znf I.hok e;obtain⟨w',hw,rw'⟩:=RelO.some_of (v:=v) (o:=valueAt vs k) (by rw[l];exact rel.val k);exact wpAny_getItem_of (zm1 ry) dd.mapOf hw (h w' _ (I.tok _) rw')
 . subst ey
   cases (show u=Value.ref b from ry)
   obtain⟨z,hd,xs,rel,dd⟩:=znc I.hok e;obtain⟨w',hw,rw'⟩:=RelO.some_of (v:=v) (o:=(atKey xs k).map (·.2)) (by rw[l];exact rel.val k);obtain⟨p,hp,hp2⟩:=Option.map_eq_some_iff.mp hw;refine wpAny_getItem_heap (tupleKind_room_in1 hu) (zf0 I.hok eb) dd hp ?_;rw[hp2];exact h w' _ (I.tok _) rw'
theorem d_in{Q:Value->Shared->Prop}(hu:A.units+1 < cLine)(I:Inv X pins σ H s)(g:DGet H a y o)(ry:RelV y u)(h:∀ s',Inv X pins σ H s'->Q (.bool o.isSome) s') :
   wpAny (model X.prog X.w) A (compareOp .In u (.ref a)) Q E s:=by
 rcases g with ⟨kvs,k,e,ey,l⟩ | ⟨kvs,k,b,e,ey,eb,l⟩
 . subst ey;obtain⟨z,hd,vs,rel,dd⟩:=znf I.hok e;refine wpAny_in_of (zm1 ry) hd dd.mapOf ?_;rw[<-(rel.val k).isSome_eq,<-l];exact h _ (I.tok _)
 . subst ey
   cases (show u=Value.ref b from ry)
   obtain⟨z,hd,xs,rel,dd⟩:=znc I.hok e;refine wpAny_in_heap (tupleKind_room_in1 hu) (zf0 I.hok eb) hd dd ?_;have q:=(rel.val k).isSome_eq;rw[Option.isSome_map] at q;rw[<-q,<-l];exact h _ (I.tok _)
theorem zpg{Q:Value->Shared->Prop}(hu:A.units+1 < cLine)(I:Inv X pins σ H s)(g:DGet H a y o)(ry:RelV y u)(h:∀ s',Inv X pins σ H s'->Q (.bool (!o.isSome)) s') :
   wpAny (model X.prog X.w) A (compareOp .NotIn u (.ref a)) Q E s:=by
 rcases g with ⟨kvs,k,e,ey,l⟩ | ⟨kvs,k,b,e,ey,eb,l⟩
 . subst ey;obtain⟨z,hd,vs,rel,dd⟩:=znf I.hok e;refine wpAny_notIn_of (zm1 ry) hd dd.mapOf ?_;rw[<-(rel.val k).isSome_eq,<-l];exact h _ (I.tok _)
 . subst ey
   cases (show u=Value.ref b from ry)
   obtain⟨z,hd,xs,rel,dd⟩:=znc I.hok e;refine wpAny_notIn_heap (tupleKind_room_in1 hu) (zf0 I.hok eb) hd dd ?_;have q:=(rel.val k).isSome_eq;rw[Option.isSome_map] at q;rw[<-q,<-l];exact h _ (I.tok _)
theorem zjD{h':Heap}{t':Nat}{ob:HO}(I:Inv X pins σ H s)(mu:Mut (H a))(hs:Heap.SameBut a s.heap h')(he:∃ q,h'.get? a=some q)(new:zdc X.prog X.w (upd H a ob) h' a ob) :
   Inv X pins σ (upd H a ob) { s with heap:=h',toks:=t' } :=
 I.write (x:=a) (e:=a) mu (.inl rfl) (fun b q hb z=>(hs.2 b hb).trans z) he new
theorem zng{P:Program}{w:World}{H':Hp}{h':Heap}{kvs:List (Key×V)}{vs:List (Key×Value)}(z:kvs.length<=sizeLine)(hd:(a==sysModules)=false)(rel:KV kvs vs)(dd:h'.DictOf (zaE P w) a vs) :
   zdc P w H' h' a (.dK kvs):=⟨z,hd,vs,rel,dd⟩
theorem zkZ{H':Hp}{Q:Unit->Shared->Prop}(hu:A.units+1 < cLine)(I:Inv X pins σ H s)(g:DPut H a y v H')(ry:RelV y u)(rv:RelV v r)(h:∀ s',Inv X pins σ H' s'->Q () s') :
   wpAny (model X.prog X.w) A (setItem (.ref a) u r) Q E s:=by
 rcases g with ⟨kvs,k,e,ey,l,eH⟩ | ⟨kvs,k,b,e,ey,eb,l,eH⟩
 . subst ey eH;obtain⟨z,hd,vs,rel,dd⟩:=zsL I.hok e;have hz:vs.length<=sizeLine:=by rw[<-rel.length];exact z
   have hl:(putK kvs k v).length<=sizeLine:=by have:=zdp kvs k v;omega
   refine wpAny_setItem_pairs (hsz:=hz) (zm1 ry) dd fun h' dd' hs=>h _ ?_;have he:∃ q,h'.get? a=some q:=let ⟨q,_,_,hq,_⟩:=dd';⟨q,hq⟩
   exact zjD I (by rw[e];exact True.intro) hs he (zng hl hd (rel.put k rv) dd')
 . subst ey eH
   cases (show u=Value.ref b from ry)
   obtain⟨z,hd,xs,rel,dd⟩:=zrQ I.hok e;have hz:xs.length<=sizeLine:=by rw[<-Paired.length rel];exact z
   have hl:(putK kvs k v).length<=sizeLine:=by have:=zdp kvs k v;omega
   refine wpAny_setItem_heap (hsz:=hz) (tupleKind_room_in1 hu) (zf0 I.hok eb) dd fun h' dd' hs=>h _ ?_;obtain⟨q,es,ep,hq,h2,h3,h4,_,h5⟩:=dd';refine zjD I (by rw[e];exact True.intro) hs ⟨q,hq⟩ ⟨hl,hd,_,(rel.put k eb rv).keeps fun c ys ec=>?_,q,es,ep,hq,h2,h3,h4,h5⟩;rw[zav (zpy ec e (fun z=>nomatch z))];exact ec
end
noncomputable def NoSl(i:Expr):Prop:=∀ ov iv,subscripted i false ov iv=operate [ov,iv] (getItem ov iv)
theorem znO{prog:Program}{w:World}{A:Around}{E:Value->Shared->Prop}{s:Shared}{env:Env}{value slice:Expr}{pos:Pos}{T id:String}{Q:Value->Shared->Prop}
   (hl:typeLookup (.type T) "__getitem__"=pure (some (.builtin id))) (hs:NoSl slice)
   (h:wpAny (model prog w) A (eval value env) (fun o s₁=>wpAny (model prog w) A (eval slice env) (fun i s₂=>s₂.TypeIs o T/\wpAny (model prog w) A (getItem o i) Q E s₂) E s₁) E s) :
   wpAny (model prog w) A (eval (.Subscript value slice pos) env) Q E s:=by
 refine Subscript_ (wpAny_mono h (fun o s₁ h₁=>wpAny_mono h₁ (fun i s₂ h₂=>?_) fun _ _ x=>x) fun _ _ x=>x);obtain⟨hT,h₂⟩:=h₂;unfold subscriptTail;refine wpAny_bind ?_;rw[getitemInPython_of_ne hT.not_modules];refine wpAny_bind (wpAny_specialOf hT hl ?_);have fin:wpAny (model prog w) A (subscripted slice false o i) (fun r s₃=>wpAny (model prog w) A (letTemporaryGo value o r >>= fun _=>pure r) Q E s₃) E s₂:=by
   rw[hs o i];exact wpAny_operating (wpAny_mono h₂ (fun r s₃ h₃=>wpAny_bind (wpAny_letTemporaryGo (wpAny_pure h₃))) fun _ _ x=>x)
 first
   | exact wpAny_pure (wpAny_bind fin)
   | exact wpAny_bind (wpAny_pure (wpAny_bind fin))
   | exact wpAny_bind fin
theorem zh1{X:Cx}{pins:List (Addr×Obj)}{σ:St}{H:Hp}{s:Shared}{a:Addr}{y:V}{o:Option V}(I:Inv X pins σ H s)(g:DGet H a y o):s.TypeIs (.ref a) "dict":=by
 rcases g with ⟨kvs,k,e,_,_⟩ | ⟨kvs,k,b,e,_,_,_⟩
 . obtain⟨_,_,vs,_,dd⟩:=znf I.hok e;exact dd.typeIs
 . obtain⟨_,_,xs,_,dd⟩:=znc I.hok e;exact dd.typeIs
noncomputable def zr7(td ty:TE):TE:=fun σ H Q=>td σ H fun x H1=>ty σ H1 fun y H2=>∃ a v,x=.ref a/\DGet H2 a y (some v)/\Q v H2
noncomputable def tDIn(ty td:TE):TE:=fun σ H Q=>ty σ H fun y H1=>td σ H1 fun x H2=>∃ a o,x=.ref a/\DGet H2 a y o/\Q (.bl o.isSome) H2
noncomputable def znK(ty td:TE):TE:=fun σ H Q=>ty σ H fun y H1=>td σ H1 fun x H2=>∃ a o,x=.ref a/\DGet H2 a y o/\Q (.bl (!o.isSome)) H2
noncomputable def zse(td ty tv:TE):TS:=fun D σ H=>tv σ H fun v H1=>td σ H1 fun x H2=>ty σ H2 fun y H3=>∃ a H4,x=.ref a/\DPut H3 a y v H4/\D.nx σ H4
section
variable {X:Cx} {o i e value:Expr} {pos pos' tpos:Pos} {td ty tv:TE}
theorem zlm(hu:X.A.units+1 < cLine)(ho:PE X o td)(hi:PE X i ty)(hs:NoSl i):PE X (.Subscript o i pos) (zr7 td ty):=by
 intro pins s σ H Q I h;refine znO PySem.F.slot_dict_getitem.lookup hs (thn (ho pins s σ H _ I h) fun u s1 ⟨x,H1,I1,rx,q1⟩=>thn (hi pins s1 σ H1 _ I1 q1) ?_);rintro iv s2 ⟨y,H2,I2,ry,a,v,ex,g,q2⟩;subst ex;obtain rfl:u=Value.ref a:=rx;exact⟨zh1 I2 g,zk0 hu I2 g ry fun w' s3 I3 rw'=>⟨v,H2,I3,rw',q2⟩⟩
theorem zqH(hu:X.A.units+1 < cLine)(hi:PE X i ty)(ho:PE X o td):PC X .In i o (tDIn ty td):=by
 intro pins s σ H Q I h;refine thn (hi pins s σ H _ I h) fun iv s1 ⟨y,H1,I1,ry,q1⟩=>thn (ho pins s1 σ H1 _ I1 q1) ?_;rintro u s2 ⟨x,H2,I2,rx,a,ov,ex,g,q2⟩;subst ex;obtain rfl:u=Value.ref a:=rx;exact d_in hu I2 g ry fun s3 I3=>⟨.bl ov.isSome,H2,I3,rfl,q2⟩
theorem zkv(hu:X.A.units+1 < cLine)(hi:PE X i ty)(ho:PE X o td):PC X .NotIn i o (znK ty td):=by
 intro pins s σ H Q I h;refine thn (hi pins s σ H _ I h) fun iv s1 ⟨y,H1,I1,ry,q1⟩=>thn (ho pins s1 σ H1 _ I1 q1) ?_;rintro u s2 ⟨x,H2,I2,rx,a,ov,ex,g,q2⟩;subst ex;obtain rfl:u=Value.ref a:=rx;exact zpg hu I2 g ry fun s3 I3=>⟨.bl (!ov.isSome),H2,I3,rfl,q2⟩
theorem zoj(hu:X.A.units+1 < cLine)(ho:PE X o td)(hi:PE X i ty)(hv:PE X value tv)(hs:swapsWith value (some (.Subscript o i pos')) pos.line X.env=pure false) :
   PS X (.Assign [.Subscript o i pos'] value pos) (zse td ty tv):=by
 intro pins s σ H D I h;refine wpAny_Assign_Subscript (thn (hv pins s σ H _ I h) fun r s1 ⟨v,H1,I1,rv,q1⟩=>thn (ho pins s1 σ H1 _ I1 q1) fun u s2 ⟨x,H2,I2,rx,q2⟩=>thn (hi pins s2 σ H2 _ I2 q2) ?_) hs;rintro iv s3 ⟨y,H3,I3,ry,a,H4,ex,g,q3⟩;subst ex;obtain rfl:u=Value.ref a:=rx;exact zkZ hu I3 g ry rv fun s4 I4=>⟨σ,H4,I4,q3⟩
end
theorem znd{P:Program}{w:World}{H:Hp}(h:Heap)(hb:sysModules < h.objs.size):zdc P w H (h.push { cls:=.type "dict",data:=.dict #[] }) h.objs.size (.dT []) :=
 ⟨Nat.zero_le _,beq_eq_false_iff_ne.mpr (Ne.symm (Nat.ne_of_lt hb)),[],.nil,_,#[],0,Heap.get?_push_size _ rfl,⟨rfl,rfl,rfl⟩,rfl,rfl,List.nodup_nil⟩
noncomputable def zpT:TE:=fun _ H Q=>∀ p,H p=none->Q (.ref p) (upd H p (.dT []))
section
variable {X:Cx} {pos:Pos}
theorem zms:PE X (.Dict [] [] pos) zpT:=fun pins s σ H Q I h =>
 wpAny_Dict_empty ⟨.ref s.heap.objs.size,_,I.laid (a:=s.heap.objs.size) (o:=.dT []) (t':=s.toks) (fun _ _ q=>Heap.get?_push_of_some _ q) (Nat.le_refl _) (znd s.heap I.big),rfl,h _ (I.hok.fresh (Nat.le_refl _))⟩
end
noncomputable def zeo(kvs more:List (Key×V)):List (Key×V):=more.foldl (fun acc kv=>putK acc kv.1 kv.2) kvs
theorem KV.merge:∀ {more:List (Key×V)} {rs:List (Key×Value)} {kvs:List (Key×V)} {vs:List (Key×Value)},KV more rs->KV kvs vs->KV (zeo kvs more) (merged vs rs):=by
 intro more rs kvs vs r;unfold KV at r
 induction r generalizing kvs vs with
 | nil=>intro q;exact q
 | @cons p q ps qs h t ih =>
   intro r0;have e:KV (putK kvs p.1 p.2) (stored vs q.1 q.2):=by
     have:=r0.put p.1 h.2;rw[<-h.1];exact this
   exact ih e
theorem zcn:∀ (more kvs:List (Key×V)),(zeo kvs more).length<=kvs.length+more.length
 | [],kvs=>by show kvs.length<=kvs.length+0;omega
 | p::r,kvs=>by
   have h1:=zcn r (putK kvs p.1 p.2);have h2:=zdp kvs p.1 p.2;show (zeo (putK kvs p.1 p.2) r).length<=_;rw[List.length_cons];omega
structure M1(X:Cx)(o:Expr)(m:Str)(apos:Pos)(e:Expr)(cpos:Pos):Prop where
 base:attributeBase o m X.env (eval o X.env)=eval o X.env
 few:((backTo cpos (starEach [e] X.env)).all (fun x=>!x.1)&&(backToKw cpos (keywordEach [] X.env)).all (fun x=>x.1.isSome)
  &&decide (([e]:List Expr).length+([]:List Keyword).length+(if ([]:List Keyword).isEmpty then 0 else 1) < 30))=true
 line:(apos.endLine==cpos.line)=true
 trees:backTo cpos (starEach [e] X.env)=[(false,eval e X.env)]
noncomputable def IsD(H:Hp)(a:Addr):Prop:=(∃ kvs,Rd H a (.dK kvs))\/∃ kvs,Rd H a (.dT kvs)
theorem zjo{X:Cx}{pins:List (Addr×Obj)}{σ:St}{H:Hp}{s:Shared}{a:Addr}(I:Inv X pins σ H s)(d:IsD H a) :
   s.TypeIs (.ref a) "dict"/\(∀ b,Value.ref a=.ref b->∃ ob,s.heap.get? b=some ob/\ob.dict=none)/\(a==sysModules)=false:=by
 rcases d with ⟨kvs,e⟩ | ⟨kvs,e⟩
 . obtain⟨_,hd,vs,_,dd⟩:=znf I.hok e;refine⟨dd.typeIs,fun b q=>?_,hd⟩;cases q;obtain⟨ob,_,_,h1,h2,_⟩:=dd;exact⟨ob,h1,h2.2.1⟩
 . obtain⟨_,hd,xs,_,dd⟩:=znc I.hok e;refine⟨dd.typeIs,fun b q=>?_,hd⟩;cases q;obtain⟨ob,_,_,h1,h2,_⟩:=dd;exact⟨ob,h1,h2.2.1⟩
section
variable {X:Cx} {pins:List (Addr×Obj)} {σ:St} {H:Hp} {s:Shared} {a:Addr} {y d:V} {u r:Value} {o:Option V} {A:Around} {E:Value->Shared->Prop}
theorem zrn{Q:Value->Shared->Prop}(hu:A.units+1 < cLine)(I:Inv X pins σ H s)(g:DGet H a y o)(ry:RelV y u)(h:∀ w' s',Inv X pins σ H s'->RelV (o.getD .non) w'->Q w' s') :
   wpAny (model X.prog X.w) A (call (.builtin "dict.get") [.ref a,u]) Q E s:=by
 rcases g with ⟨kvs,k,e,ey,l⟩ | ⟨kvs,k,b,e,ey,eb,l⟩
 . subst ey;obtain⟨z,hd,vs,rel,dd⟩:=znf I.hok e;refine call_meetsIn PySem.F.slot_dict_get dd.typeIs PySem.F.entry_dict_get (PySem.F.args_dict_get_2 _ _) (meets_dict_get (zaE X.prog X.w) a (zm1 ry) hd) ⟨_,dd.mapOf,h _ _ (I.tok _) ?_⟩;rw[l];exact (rel.val k).getD rfl
 . subst ey
   cases (show u=Value.ref b from ry)
   obtain⟨z,hd,xs,rel,dd⟩:=znc I.hok e;refine call_meetsIn PySem.F.slot_dict_get dd.typeIs PySem.F.entry_dict_get (PySem.F.args_dict_get_2 _ _) (meetsH_dict_get (tupleKind (zaE X.prog X.w)) a b hd) ⟨tupleKind_room_in1 hu,k,xs,zf0 I.hok eb,dd,h _ _ (I.tok _) ?_⟩;rw[l];exact (rel.val k).getD rfl
end
noncomputable def zpU(td ty:TE):TE:=fun σ H Q=>td σ H fun x H1=>∃ a,x=.ref a/\IsD H1 a/\ty σ H1 fun y H2=>∃ o,DGet H2 a y o/\Q (o.getD .non) H2
section
variable {X:Cx} {o e f:Expr} {apos cpos:Pos} {td ty tx:TE}
theorem zmt(hu:X.A.units+1 < cLine)(ho:PE X o td)(he:PE X e ty)(m:M1 X o "get" apos e cpos):PE X (.Call (.Attribute o "get" apos) [e] [] cpos) (zpU td ty):=by
 intro pins s σ H Q I h;refine wpAny_Call_method m.base m.few m.line PySem.F.plainAttrs_dict PySem.F.slot_dict_get PySem.F.type_dict_get (thn (ho pins s σ H _ I h) ?_);rintro u s1 ⟨x,H1,I1,rx,a,ex,d,q1⟩;subst ex;obtain rfl:u=Value.ref a:=rx;obtain⟨t1,t2,_⟩:=zjo I1 d;refine⟨t1,t2,?_⟩;rw[m.trees];refine Calls.callWith_builtin rfl (Calls.evalArgs_plain (Calls.spliced_cons (thn (he pins s1 σ H1 _ I1 q1) fun iv s2 ⟨y,H2,I2,ry,ov,g,q2⟩=>Calls.spliced_nil ?_)));exact zrn hu I2 g ry fun w' s3 I3 rw'=>⟨_,H2,I3,rw',q2⟩
end
end L2
namespace HT
open PySem PyProof.Rows
noncomputable def lexLt:List Int->List Int->Bool
 | [],[]=>false
 | [],_::_=>true
 | _::_,[]=>false
 | x::xs,y::ys=>if x=y then lexLt xs ys else decide (x < y)
theorem lexLt_cons(x y:Int)(xs ys:List Int):lexLt (x::xs) (y::ys)=if x=y then lexLt xs ys else decide (x < y):=rfl
theorem lexLt_nil_nil:lexLt [] []=false:=rfl
theorem lexLt_nil_cons(y:Int)(ys:List Int):lexLt [] (y::ys)=true:=rfl
theorem lexLt_cons_nil(x:Int)(xs:List Int):lexLt (x::xs) []=false:=rfl
section
open PySem.SeqAt
open PySem.AutoSeq1 (wpAny_loadPart')
open PySem.MeetsSeq PySem.MeetsSeq2 PySem.MeetsSeq3
end
section
variable {prog:Program} {w:World} {A:Around} {E:Value->Shared->Prop} {s:Shared}
theorem cat_tup{t b:Addr}{vs ws:List Value}{Q:Value->Shared->Prop}(ht:IsTup s.heap t vs.toArray)(hb:IsTup s.heap b ws.toArray)(hv:vs≠[])
   (h1:ws=[]->Q (.ref t) s) (h2:ws≠[]->Q (.ref s.heap.objs.size) { s with heap:=s.heap.push { cls:=.type "tuple",data:=.seq (vs++ws).toArray } })
   (hsz:vs.length+ws.length<=sizeLine):wpAny (model prog w) A (binaryOp .Add (.ref t) (.ref b)) Q E s:=by
 obtain⟨⟨cls,dd,data,sl⟩,ho,hc,n,hd⟩:=id ht;obtain⟨⟨cls2,dd2,data2,sl2⟩,ho2,hc2,n2,hd2⟩:=id hb;simp only at hc hd hc2 hd2;subst hc hd hc2 hd2;have e:vs.toArray++ws.toArray=(vs++ws).toArray:=by simp
 by_cases hw:ws=[]
 . exact concat_meets ⟨_,ho,rfl⟩ ⟨_,ho2,rfl⟩ noFill_tuple_add seq_tuple_add PySem.F.slot_tuple_add PySem.F.entry_tuple_add (PySem.F.args_tuple_add_2 _ _)
     (tuple_addW1 t b vs.toArray ws.toArray n n2 dd dd2 sl sl2 (by simpa using hv) (by simp[hw])) ⟨ho,ho2,h1 hw⟩
 . refine concat_meets ⟨_,ho,rfl⟩ ⟨_,ho2,rfl⟩ noFill_tuple_add seq_tuple_add PySem.F.slot_tuple_add PySem.F.entry_tuple_add (PySem.F.args_tuple_add_2 _ _)
     (tuple_addW2 t b vs.toArray ws.toArray n n2 dd dd2 sl sl2 (by simpa using hv) (by simpa using hw) (by rw[List.size_toArray,List.size_toArray];exact hsz)) ⟨ho,ho2,?_⟩
   rw[e];exact h2 hw
noncomputable def sIx(n d:Nat):Option Int->Nat
 | none=>d
 | some v=>if v < 0 then (v+(n:Int)).toNat else min v.toNat n
theorem zqi(n d:Nat)(hd:d<=n)(o:Option Int):sIx n d o<=n:=by
 cases o with
 | none=>exact hd
 | some v =>
   show (if v < 0 then (v+(n:Int)).toNat else min v.toNat n)<=n
   by_cases hv:v < 0
   . rw[if_pos hv];omega
   . rw[if_neg hv];exact Nat.min_le_right _ _
theorem zlB(v:Int)(n d:Nat):(if v < 0 then max (v+(n:Int)) 0 else min v (n:Int))=((sIx n d (some v):Nat):Int):=by
 show (if v < 0 then max (v+(n:Int)) 0 else min v (n:Int))=(((if v < 0 then (v+(n:Int)).toNat else min v.toNat n):Nat):Int)
 by_cases hv:v < 0
 . simp only[if_pos hv];omega
 . simp only[if_neg hv];omega
theorem zjV(lo hi:Option Int)(n:Nat):Builtin.Slice.sliceAdjust lo hi 1 (n:Int)=(((sIx n 0 lo:Nat):Int),((sIx n n hi:Nat):Int)):=by
 have h1:¬ ((1:Int) < 0):=by omega
 unfold Builtin.Slice.sliceAdjust;simp only[h1,if_false];refine Prod.ext ?_ ?_
 . cases lo with
   | none=>rfl
   | some v=>exact zlB v n 0
 . cases hi with
   | none=>rfl
   | some v=>exact zlB v n n
theorem ziU(i j:Nat):Builtin.Slice.slicePlaces (i:Int) (j:Int) 1=j - i:=by
 unfold Builtin.Slice.slicePlaces;have h1:(1:Int) > 0:=by omega
 simp only[h1,if_true,Int.ediv_one]
 split <;> omega
theorem slicePart_{v:Value}{o:Option Int}{Q:Option Int->Shared->Prop}(p:IsPart v o)(h:Q o s):wpAny (model prog w) A (Builtin.Slice.slicePartIndex v) Q E s:=by
 cases p with
 | none=>exact slicePart_none h
 | int i t=>exact slicePart_int h
theorem zdS{sl:Addr}{vl vu:Value}{lo hi:Option Int}{n:Nat}{Q:Int×Int×Nat->Shared->Prop}(hs:s.heap.IsSliceOf sl vl vu .none)(pl:IsPart vl lo)(pu:IsPart vu hi)
   (h:Q (((sIx n 0 lo:Nat):Int),1,sIx n n hi - sIx n 0 lo) s):wpAny (model prog w) A (Builtin.Slice.sliceApplied (.ref sl) (pure (n:Int))) Q E s:=by
 obtain⟨os,hos,hcs,hds⟩:=id hs;unfold Builtin.Slice.sliceApplied Builtin.Slice.sliceFields;refine wpAny_bind (wpAny_bind (wpAny_field hos hds (x:=vl) rfl (wpAny_bind (wpAny_field hos hds (x:=vu) rfl (wpAny_bind (wpAny_field hos hds (x:=.none) rfl (wpAny_pure ?_)))))));refine wpAny_bind (slicePart_none ?_);show wpAny _ _ (if ((1:Int)==0)=true then _ else _) _ _ s;rw[if_neg (by decide)];refine wpAny_bind (slicePart_ pl (wpAny_bind (slicePart_ pu (wpAny_bind (wpAny_pure ?_)))));show wpAny _ _ (match Builtin.Slice.sliceAdjust lo hi 1 (n:Int) with | (lo,hi)=>pure (lo,(1:Int),Builtin.Slice.slicePlaces lo hi 1)) _ _ s;rw[zjV lo hi n];show wpAny _ _ (pure (((sIx n 0 lo:Nat):Int),(1:Int),Builtin.Slice.slicePlaces ((sIx n 0 lo:Nat):Int) ((sIx n n hi:Nat):Int) 1)) _ _ s;rw[ziU];exact wpAny_pure h
theorem zml(xs:Array Value)(i k:Nat):((List.range k).filterMap fun (m:Nat)=>xs[((i:Int)+(m:Int)*1).toNat]?).toArray=((xs.toList.drop i).take k).toArray:=by
 have e:(fun (m:Nat)=>xs[((i:Int)+(m:Int)*1).toNat]?)=fun m=>xs[i+m]?:=by
   funext m
   have:((i:Int)+(m:Int)*1).toNat=i+m:=by omega
   rw[this]
 rw[e];have:=pick_run xs i k;rw[List.filterMap_map] at this;have e2:((fun x=>xs[x]?) ∘ fun x=>i+x)=fun m=>xs[i+m]?:=rfl;rw[e2] at this;rw[this]
theorem getItem_tuple_cut{t sl:Addr}{items:Array Value}{vl vu:Value}{lo hi:Option Int}{Q:Value->Shared->Prop}(ht:IsTup s.heap t items)(hs:s.heap.IsSliceOf sl vl vu .none)(pl:IsPart vl lo)(pu:IsPart vu hi)
   (hw:¬ (sIx items.size 0 lo=0/\sIx items.size items.size hi=items.size))
   (h:Q (.ref s.heap.objs.size) { s with heap:=s.heap.push { cls:=.type "tuple",data:=.seq ((items.toList.drop (sIx items.size 0 lo)).take (sIx items.size items.size hi - sIx items.size 0 lo)).toArray } })
   (hsz:items.size<=sizeLine):wpAny (model prog w) A (getItem (.ref t) (.ref sl)) Q E s:=by
 have htake:sizeOk (.seq ((items.toList.drop (sIx items.size 0 lo)).take (sIx items.size items.size hi - sIx items.size 0 lo)).toArray):=by
   show ((items.toList.drop (sIx items.size 0 lo)).take (sIx items.size items.size hi - sIx items.size 0 lo)).toArray.size<=sizeLine;rw[List.size_toArray,List.length_take,List.length_drop,Array.length_toList];omega
 have hj:sIx items.size items.size hi<=items.size:=zqi _ _ (Nat.le_refl _) hi;obtain⟨os,hos,hcs,hds⟩:=id hs;have hTs:s.TypeIs (.ref sl) "slice":=⟨os,hos,hcs⟩
 unfold getItem
 try with_reducible refine wpAny_holding ?_
 first | refine wpAny_bind (wpAny_pure ?_) | skip
 refine wpAny_bind (wpAny_sequenceKey ht.typeIs (by decide) ?_);refine wpAny_bind (wpAny_callSpecial?_slot (name:=Str.ofString "__getitem__") ht.typeIs PyProof.Rows.slot_tuple_getitem
   (wpAny_call_entry PyProof.Rows.slot_tuple_getitem ht.typeIs entry_tuple_getitem ?_ (args_tuple_getitem _ _)))
 show wpAny _ _ (Builtin.Tuple.tupleItemsOf (.ref t) >>= _) _ _ s;refine wpAny_bind (tupleItemsOf_ ht ?_);refine wpAny_bind (wpAny_typeOf hTs ?_);rw[if_pos (by decide)];refine wpAny_bind (zdS hs pl pu ?_);have hno:¬ ((((sIx items.size 0 lo:Nat):Int)==0&&(1:Int)==1&&(sIx items.size items.size hi - sIx items.size 0 lo)==items.size)=true):=by
   intro q;rw[Bool.and_eq_true,Bool.and_eq_true] at q;have q1:((sIx items.size 0 lo:Nat):Int)=0:=eq_of_beq q.1.1;have q2:sIx items.size items.size hi - sIx items.size 0 lo=items.size:=eq_of_beq q.2;exact hw ⟨by omega,by omega⟩
 show wpAny _ _ (if (((sIx items.size 0 lo:Nat):Int)==0&&(1:Int)==1&&(sIx items.size items.size hi - sIx items.size 0 lo)==items.size)=true then _ else _) _ _ s;rw[if_neg hno,zml]
 first
   | exact wpAny_bind (m:=Builtin.Tuple.tupleExact _) (wpAny_newObj_type (wpAny_pure ⟨_,rfl,wpAny_pure h⟩) htake)
   | exact wpAny_bind (m:=Builtin.Tuple.tupleExact _) (wpAny_newObj_type (wpAny_bind (wpAny_pure (wpAny_pure ⟨_,rfl,wpAny_pure h⟩))) htake)
   | exact wpAny_bind (wpAny_bind (m:=Builtin.Tuple.tupleExact _) (wpAny_newObj_type (wpAny_pure (wpAny_pure ⟨_,rfl,wpAny_pure h⟩)) htake))
   | exact wpAny_bind (wpAny_bind (m:=Builtin.Tuple.tupleExact _) (wpAny_newObj_type (wpAny_pure ⟨_,rfl,wpAny_pure h⟩) htake))
end
end HT
namespace L2
open PySem PySem.Spec PyProof.Rows
noncomputable abbrev TO:=St->Hp->(Option Int->Hp->Prop)->Prop
noncomputable def PO(X:Cx)(e:Option Expr)(t:TO):Prop :=
 ∀ (pins:List (Addr×Obj)) (s:Shared) (σ:St) (H:Hp) (Q:Option Int->Hp->Prop),Inv X pins σ H s->t σ H Q ->
   wpAny (model X.prog X.w) X.A (evalPart e X.env) (fun u s'=>∃ o H',Inv X pins σ H' s'/\IsPart u o/\Q o H') X.xe s
noncomputable def znJ:TO:=fun _ H Q=>Q none H
noncomputable def zr3(t:TE):TO:=fun σ H Q=>t σ H fun x H1=>∃ i,x=.int i/\Q (some i) H1
section
variable {X:Cx} {e:Expr} {te:TE} {lo hi:Option Expr} {tl th:TO} {pos p2:Pos}
theorem zol:PO X none znJ:=by
 intro pins s σ H Q I h;rw[evalPart_none];exact wpAny_pure ⟨none,H,I,.none,h⟩
theorem zll(h:PE X e te):PO X (some e) (zr3 te):=by
 intro pins s σ H Q I hw;rw[evalPart_some];refine thn (h pins s σ H _ I hw) ?_;rintro u s1 ⟨x,H1,I1,r1,q1⟩;obtain⟨i,rfl,q⟩:=q1;obtain⟨t,rfl⟩:=r1;exact⟨some i,H1,I1,.int i t,q⟩
noncomputable def SlR(X:Cx)(r:V->Option Int->Option Int->Hp->VK->Prop):Prop :=
 ∀ (pins:List (Addr×Obj)) (s:Shared) (σ:St) (H:Hp) (x:V) (v vl vu:Value) (lo hi:Option Int) (sl:Addr) (Q:VK),Inv X pins σ H s->RelV x v->s.heap.IsSliceOf sl vl vu .none->IsPart vl lo->IsPart vu hi->r x lo hi H Q ->
   ∃ T id,typeLookup (.type T) "__getitem__"=pure (some (.builtin id))/\s.TypeIs v T/\wpAny (model X.prog X.w) X.A (getItem v (.ref sl)) (EP X pins σ Q) X.xe s
noncomputable def tSl(r:V->Option Int->Option Int->Hp->VK->Prop)(te:TE)(tl th:TO):TE:=fun σ H Q=>te σ H fun x H1=>tl σ H1 fun l H2=>th σ H2 fun u H3=>r x l u H3 Q
theorem zgz{r:V->Option Int->Option Int->Hp->VK->Prop}(hr:SlR X r)(he:PE X e te)(hl:PO X lo tl)(hu:PO X hi th):PE X (.Subscript e (.Slice lo hi none p2) pos) (tSl r te tl th):=by
 intro pins s σ H Q I h;refine Subscript_ (thn (he pins s σ H _ I h) ?_);rintro v s1 ⟨x,H1,I1,r1,q1⟩;refine wpAny_Slice (thn (hl pins s1 σ H1 _ I1 q1) fun vl s2 ⟨l,H2,I2,pl,q2⟩=>thn (hu pins s2 σ H2 _ I2 q2) ?_);rintro vu s3 ⟨u,H3,I3,pu,q3⟩;rw[evalPart_none];refine wpAny_pure ?_;have I4:Inv X pins σ H3 { s3 with heap:=s3.heap.push { cls:=.type "slice",data:=.fields #[vl,vu,.none] } }:=I3.kept (t':=s3.toks) fun b ob q=>Heap.get?_push_of_some _ q;obtain⟨T,id,hT,ht,hg⟩:=hr pins { s3 with heap:=s3.heap.push { cls:=.type "slice",data:=.fields #[vl,vu,.none] } } σ H3 x v vl vu l u s3.heap.objs.size Q I4 r1 (Heap.IsSliceOf.new ..) pl pu q3;show wpAny (model X.prog X.w) X.A (subscriptTail e (.Slice lo hi none p2) v (.ref s3.heap.objs.size)) (EP X pins σ Q) X.xe { s3 with heap:=s3.heap.push { cls:=.type "slice",data:=.fields #[vl,vu,.none] } };exact tail_any (ops:=[.ref s3.heap.objs.size,v]) ht hT hg (by with_unfolding_all rfl)
noncomputable def cutV(xs:List V)(lo hi:Option Int):List V:=(xs.drop (HT.sIx xs.length 0 lo)).take (HT.sIx xs.length xs.length hi - HT.sIx xs.length 0 lo)
theorem zeH(xs:List V)(lo hi:Option Int):(cutV xs lo hi).length<=xs.length:=by
 unfold cutV;rw[List.length_take,List.length_drop];omega
noncomputable def rSlT(K:PySem.W.Frag):V->Option Int->Option Int->Hp->VK->Prop:=fun x lo hi H Q=>∃ a xs,x=.ref a/\SqT K H a xs /\
 ¬ (HT.sIx xs.length 0 lo=0/\HT.sIx xs.length xs.length hi=xs.length)/\∀ p,H p=none->Q (.ref p) (upd H p (.tup (cutV xs lo hi)))
theorem zpZ:SlR X (rSlT X.K):=by
 intro pins s σ H x v vl vu lo hi sl Q I rx hs pl pu h;obtain⟨a,xs,rfl,hx,hw,q⟩:=h;cases rx;obtain⟨its,r,ht,hz⟩:=I.tuple hx;have hlen:its.toArray.size=xs.length:=by rw[List.size_toArray];exact r.length.symm
 refine⟨"tuple",_,PyProof.Rows.slot_tuple_getitem.lookup,ht.typeIs,?_⟩;refine HT.getItem_tuple_cut ht hs pl pu (by rw[hlen];exact hw) ?_ (by rw[hlen];exact hz);rw[hlen];refine⟨.ref s.heap.objs.size,_,I.laid (t':=s.toks) (o:=.tup (cutV xs lo hi)) (fun b ob q=>Heap.get?_push_of_some _ q) (Nat.le_refl _) ?_,rfl,q _ (I.hok.fresh (Nat.le_refl _))⟩;exact⟨Nat.le_trans (zeH xs lo hi) hz,_,(r.drop (HT.sIx xs.length 0 lo)).take (HT.sIx xs.length xs.length hi - HT.sIx xs.length 0 lo),zcS.new _ _⟩
noncomputable def zsh(K:PySem.W.Frag):R2:=fun x y H Q=>∃ a b xs ys,x=.ref a/\y=.ref b/\SqT K H a xs/\SqT K H b ys/\xs≠[]/\xs.length+ys.length<=sizeLine /\
 (ys=[]->Q (.ref a) H)/\(ys≠[]->∀ p,H p=none->Q (.ref p) (upd H p (.tup (xs++ys))))
theorem Vals.nil_iff{xs:List V}{us:List Value}(r:Vals xs us):us=[] ↔ xs=[]:=by
 cases r with
 | nil=>simp
 | cons _ _=>simp
theorem zoz:OpR X (binaryOp .Add) (zsh X.K):=by
 intro pins s σ H x y v u Q I rx ry h;obtain⟨a,b,xs,ys,rfl,rfl,ha,hb,hx,hz,q1,q2⟩:=h;cases rx;cases ry;obtain⟨its,r1,p1,_⟩:=I.tuple ha;obtain⟨its2,r2,p2,_⟩:=I.tuple hb;refine HT.cat_tup p1 p2 (fun z=>hx (r1.nil_iff.mp z)) (fun z=>⟨.ref a,H,I,rfl,q1 (r2.nil_iff.mp z)⟩) (fun z=>?_) (by rw[<-r1.length,<-r2.length];exact hz);refine⟨.ref s.heap.objs.size,_,I.laid (t':=s.toks) (o:=.tup (xs++ys)) (fun b ob q=>Heap.get?_push_of_some _ q) (Nat.le_refl _) ?_,rfl,q2 (fun w=>z (r2.nil_iff.mpr w)) _ (I.hok.fresh (Nat.le_refl _))⟩;exact⟨by rw[List.length_append];exact hz,_,r1.append r2,zcS.new _ _⟩
end
end L2
namespace L2
open PySem PySem.Spec PyProof.Rows
noncomputable def ixN(n:Nat)(i:Int):Option Nat:=if 0<=i then (if i < n then some i.toNat else none) else if -(n:Int)<=i then some (i+n).toNat else none
noncomputable def atI{α:Type}(xs:List α)(i:Int):Option α:=(ixN xs.length i).bind fun j=>xs[j]?
theorem zlu{n:Nat}{i:Int}{j:Nat}(h:ixN n i=some j):seqIndex? i n=some j/\j < n/\-(n:Int)<=i/\i < n:=by
 unfold ixN at h
 by_cases h0:0<=i
 . rw[if_pos h0] at h
   by_cases h1:i < n
   . rw[if_pos h1] at h;have e:i.toNat=j:=Option.some.inj h;exact⟨by rw[seqIndex_of h0 h1,e],by omega,by omega,h1⟩
   . rw[if_neg h1] at h;cases h
 . rw[if_neg h0] at h
   by_cases h1:-(n:Int)<=i
   . rw[if_pos h1] at h;have e:(i+n).toNat=j:=Option.some.inj h;exact⟨by rw[seqIndex_neg (by omega) h1,e],by omega,h1,by omega⟩
   . rw[if_neg h1] at h;cases h
theorem zjT{α:Type}{xs:List α}{i:Int}{v:α}(h:atI xs i=some v):∃ j,seqIndex? i xs.length=some j/\xs[j]?=some v/\j < xs.length/\-(xs.length:Int)<=i/\i < xs.length:=by
 unfold atI at h
 cases e:ixN xs.length i with
 | none=>rw[e] at h;cases h
 | some j =>
   rw[e] at h;obtain⟨h1,h2,h3,h4⟩:=zlu e;exact⟨j,h1,h,h2,h3,h4⟩
noncomputable def zjX(b:Expr):Prop:=∀ o i,subscripted b false o i=operate [o,i] (getItem o i)
noncomputable def IxR(X:Cx)(r:R2):Prop :=
 ∀ (value slice:Expr) (pins:List (Addr×Obj)) (s:Shared) (σ:St) (H:Hp) (x y:V) (v u:Value) (Q:VK),Inv X pins σ H s->RelV x v->RelV y u->r x y H Q ->
   subscripted slice false v u=operate [v,u] (getItem v u)->wpAny (model X.prog X.w) X.A (subscriptTail value slice v u) (EP X pins σ Q) X.xe s
noncomputable def MtR(X:Cx)(id:String)(r:V->List V->Hp->VK->Prop):Prop :=
 ∀ (pins:List (Addr×Obj)) (s:Shared) (σ:St) (H:Hp) (x:V) (xs:List V) (v:Value) (us:List Value) (Q:VK),Inv X pins σ H s->RelV x v->Vals xs us->r x xs H Q ->
   wpAny (model X.prog X.w) X.A (call (.builtin id) (v::us)) (EP X pins σ Q) X.xe s
section
variable {X:Cx} {a b:Expr} {ta tb:TE} {pos:Pos}
theorem zsl{r:R2}(hr:IxR X r)(ha:PE X a ta)(hb:PE X b tb)(hs:zjX b):PE X (.Subscript a b pos) (tOp r ta tb):=by
 intro pins s σ H Q I h;exact Subscript_ (binT ha hb I h fun v u s2 x y H2 I2 rx ry q=>hr a b pins s2 σ H2 x y v u Q I2 rx ry q (hs _ _))
noncomputable def rIxL(K:PySem.W.Frag):R2:=fun x y H Q=>∃ p xs i v,x=.ref p/\y=.int i/\SqL K H p xs/\atI xs i=some v/\Q v H
noncomputable def rIxT(K:PySem.W.Frag):R2:=fun x y H Q=>∃ p xs i v,x=.ref p/\y=.int i/\SqT K H p xs/\atI xs i=some v/\Q v H
noncomputable def rIxS:R2:=fun x y H Q=>∃ z i c,x=.str z/\y=.int i/\z.length<=sizeLine/\atI z.cps.toList i=some c/\Q (.str ⟨#[c]⟩) H
theorem zlt:IxR X (rIxL X.K):=by
 intro value slice pins s σ H x y v u Q I rx ry h hs;obtain⟨p,xs,i,z,rfl,rfl,hq,he,q⟩:=h;cases rx;obtain⟨t,rfl⟩:=ry;obtain⟨its,r,pl,hz⟩:=I.list hq;obtain⟨j,h1,h2,h3,h4,h5⟩:=zjT he;obtain⟨w,ew,rw'⟩:=r.get h2;have hl:=r.length;have hn:=zgJ;have fin:EP X pins σ Q w s:=⟨z,H,I,rw',q⟩
 by_cases h0:0<=i
 . have hj:i.toNat=j:=by
     rw[seqIndex_of h0 h5] at h1;exact Option.some.inj h1
   exact item_listR pl.isList h0 (by omega) (by rw[hj];simpa using ew) fin hs
 . have hj:(i+(its.toArray.size:Int)).toNat=j:=by
     rw[seqIndex_neg (by omega) h4] at h1;rw[List.size_toArray,<-hl];exact Option.some.inj h1
   exact subscriptTail_builtinR (x:=w) pl.isList.typeIs slot_list_getitem.lookup
     (wpAny_getItem_list_neg (Q:=fun r s'=>r=w/\EP X pins σ Q r s') pl.isList (by omega) (by rw[List.size_toArray] <;> omega) (by omega) (by rw[hj];simpa using ew) ⟨rfl,fin⟩) hs
theorem zaQ:IxR X (rIxT X.K):=by
 intro value slice pins s σ H x y v u Q I rx ry h hs;obtain⟨p,xs,i,z,rfl,rfl,hq,he,q⟩:=h;cases rx;obtain⟨t,rfl⟩:=ry;obtain⟨its,r,pl,hz⟩:=I.tuple hq;obtain⟨j,h1,h2,h3,h4,h5⟩:=zjT he;obtain⟨w,ew,rw'⟩:=r.get h2;have hl:=r.length;have hn:=zgJ;have fin:EP X pins σ Q w s:=⟨z,H,I,rw',q⟩
 exact subscriptTail_builtinR (x:=w) pl.typeIs slot_tuple_getitem.lookup
   (getItem_tuple (j:=j) (Q:=fun r s'=>r=w/\EP X pins σ Q r s') pl (by omega) (by omega) (by rw[List.size_toArray,<-hl];exact h1) (by simpa using ew) ⟨rfl,fin⟩) hs
theorem zjl:IxR X rIxS:=by
 intro value slice pins s σ H x y v u Q I rx ry h hs;obtain⟨z,i,c,rfl,rfl,hz,he,q⟩:=h;obtain⟨t,rfl⟩:=rx;obtain⟨t',rfl⟩:=ry;obtain⟨j,h1,h2,h3,h4,h5⟩:=zjT he;have hl:z.cps.toList.length=z.length:=by simp[Str.length]
 rw[hl] at h1 h4 h5;have hn:=zgJ;exact tail_any (typeIs_str s z t) slot_str_getitem.lookup (getItem_str (c:=c) (by
   have e1:decide (i < -(2 ^ 63:Int))=false:=decide_eq_false (by omega);have e2:decide (i ≥ 2 ^ 63)=false:=decide_eq_false (by omega);rw[e1,e2,Bool.or_false]) (by rw[h1];simpa using h2) ⟨.str ⟨#[c]⟩,H,I.tok _,⟨_,rfl⟩,q⟩) hs
theorem zjd(its:List Value)(n j:Nat)(u:Value):Obj.mapSeq (·.setIfInBounds j u) { cls:=.type "list",data:=.seq its.toArray n }={ cls:=.type "list",data:=.seq (its.set j u).toArray n }:=by
 simp[Obj.mapSeq]
theorem Inv.lst{pins:List (Addr×Obj)}{σ:St}{H:Hp}{s:Shared}{p:Addr}{xs:List V}(I:Inv X pins σ H s)(h:H p=some (.lst xs)) :
   ∃ (its:List Value) (n:Nat),Vals xs its/\s.heap.get? p=some { cls:=.type "list",data:=.seq its.toArray n }/\xs.length<=sizeLine:=by
 obtain⟨z,its,n,r,e⟩:=I.hok p _ h;exact⟨its,n,r,e,z⟩
theorem Inv.lstUpd{pins:List (Addr×Obj)}{σ:St}{H:Hp}{s:Shared}{p:Addr}{xs ys:List V}{its its':List Value}{n n':Nat}{f:Obj->Obj}(I:Inv X pins σ H s)(h:H p=some (.lst xs))
   (ho:s.heap.get? p=some { cls:=.type "list",data:=.seq its.toArray n }) (hf:f { cls:=.type "list",data:=.seq its.toArray n }={ cls:=.type "list",data:=.seq its'.toArray n' }) (r:Vals ys its') (hz:ys.length<=sizeLine) (t:Nat) :
   Inv X pins σ (upd H p (.lst ys)) { s with heap:=s.heap.update p f,toks:=t }:=by
 have e:(s.heap.update p f).get? p=some { cls:=.type "list",data:=.seq its'.toArray n' }:=by
   rw[Heap.get?_update_self f ho (by rw[hf] <;> rfl),hf]
 refine I.write (x:=p) (e:=p) (by rw[h];trivial) (.inl rfl) (fun b u hb q=>(Heap.get?_update_other _ _ (Ne.symm hb)).trans q) ⟨_,e⟩ ?_;exact⟨hz,its',n',r,e⟩
noncomputable def zsg:V->V->V->Hp->(Hp->Prop)->Prop:=fun o i v H Q=>∃ p xs k j,o=.ref p/\i=.int k/\H p=some (.lst xs)/\ixN xs.length k=some j/\Q (upd H p (.lst (xs.set j v)))
theorem set_list:PSet X zsg:=by
 intro pins s σ H o i v ov iv u Q I ro ri rv h;obtain⟨p,xs,k,j,rfl,rfl,hp,hj,q⟩:=h;cases ro;obtain⟨t,rfl⟩:=ri;obtain⟨its,n,r,ho,hz⟩:=I.lst hp;obtain⟨h1,h2,h3,h4⟩:=zlu hj;have hl:=r.length;have hn:=zgJ;have I':Inv X pins σ (upd H p (.lst (xs.set j v))) { s with heap:=s.heap.update p (Obj.mapSeq (·.setIfInBounds j u)) } :=
   I.lstUpd hp ho (zjd its n j u) (r.set rv j) (by rw[List.length_set];exact hz) s.toks
 by_cases h0:0<=k
 . have hk:k.toNat=j:=by
     rw[seqIndex_of h0 h4] at h1;exact Option.some.inj h1
   exact PySem.W.ki_setAt ho h0 (by omega) (by rw[List.size_toArray,<-hl];exact h4) (by rw[hk];exact⟨_,I',q⟩)
 . have hk:(k+(its.toArray.size:Int)).toNat=j:=by
     rw[seqIndex_neg (by omega) h3] at h1;rw[List.size_toArray,<-hl];exact Option.some.inj h1
   exact PySem.W.ki_setBack ho (by omega) (by rw[List.size_toArray,<-hl];exact h3) (by omega) (by rw[hk];exact⟨_,I',q⟩)
theorem zgq(lo hi:Option Int)(n:Nat):(sliceBounds lo hi none n).1=((HT.sIx n 0 lo:Nat):Int)/\(sliceBounds lo hi none n).2.1=((HT.sIx n n hi:Nat):Int)/\(sliceBounds lo hi none n).2.2=1:=by
 refine⟨?_,?_,rfl⟩
 . cases lo with
   | none=>simp[sliceBounds,HT.sIx]
   | some i =>
     simp only[sliceBounds,HT.sIx,Option.getD_none,show (1:Int) > 0 by decide,if_true]
     by_cases h:i < 0
     . simp only[h,if_true] <;> omega
     . simp only[h,if_false] <;> omega
 . cases hi with
   | none=>simp[sliceBounds,HT.sIx]
   | some i =>
     simp only[sliceBounds,HT.sIx,Option.getD_none,show (1:Int) > 0 by decide,if_true]
     by_cases h:i < 0
     . simp only[h,if_true] <;> omega
     . simp only[h,if_false] <;> omega
theorem zfC(its:List Value)(lo hi:Option Int):slicePick its.toArray lo hi none=((its.drop (HT.sIx its.length 0 lo)).take (HT.sIx its.length its.length hi - HT.sIx its.length 0 lo)).toArray:=by
 obtain⟨h1,h2,h3⟩:=zgq lo hi its.toArray.size;unfold slicePick;rw[h1,h2,h3];simp only[sliceRange_one,pick_run,List.size_toArray] <;> rfl
noncomputable def rSlL(K:PySem.W.Frag):V->Option Int->Option Int->Hp->VK->Prop:=fun x lo hi H Q=>∃ a xs,x=.ref a/\SqL K H a xs/\∀ p,H p=none->Q (.ref p) (upd H p (.lst (cutV xs lo hi)))
theorem zld:SlR X (rSlL X.K):=by
 intro pins s σ H x v vl vu lo hi sl Q I rx hs pl pu h;obtain⟨a,xs,rfl,hx,q⟩:=h;cases rx;obtain⟨its,r,ht,hz⟩:=I.list hx;have hlen:=r.length;refine⟨"list",_,slot_list_getitem.lookup,ht.isList.typeIs,?_⟩;refine wpAny_getItem_list_slice ht.isList hs pl pu .none (by simp) ?_ (by rw[List.size_toArray] <;> omega);rw[zfC,<-hlen];refine⟨.ref s.heap.objs.size,_,I.laid (t':=s.toks) (o:=.lst (cutV xs lo hi)) (fun b ob q=>Heap.get?_push_of_some _ q) (Nat.le_refl _) ?_,rfl,q _ (I.hok.fresh (Nat.le_refl _))⟩;exact⟨Nat.le_trans (zeH xs lo hi) hz,_,0,(r.drop (HT.sIx xs.length 0 lo)).take (HT.sIx xs.length xs.length hi - HT.sIx xs.length 0 lo),Heap.get?_push_size _ rfl⟩
theorem zcR:zj1 X (.builtin "len") (fun xs H Q=>∃ p ys,xs=[.ref p]/\(SqL X.K H p ys\/SqT X.K H p ys)/\Q (.int ys.length) H):=by
 intro pins s σ H xs us Q I r h;obtain⟨p,ys,rfl,hq,q⟩:=h;obtain⟨u,rfl,rx⟩:=vals1 r;cases rx;have hn:=zgJ
 rcases hq with hq | hq
 . obtain⟨its,r',pl,hz⟩:=I.list hq;have hlen:=r'.length;exact Calls.call_len_list pl.isList (by simp only[List.size_toArray] <;> omega) ⟨.int ys.length,H,I.tok _,⟨s.toks+1,by rw[List.size_toArray,hlen]⟩,q⟩
 . obtain⟨its,r',pl,hz⟩:=I.tuple hq;have hlen:=r'.length;exact len_tuple pl (by simp only[List.size_toArray] <;> omega) ⟨.int ys.length,H,I.tok _,⟨s.toks+1,by rw[List.size_toArray,hlen]⟩,q⟩
theorem zgP:zj1 X (.builtin "len") (fun xs H Q=>∃ z,xs=[.str z]/\z.length<=sizeLine/\Q (.int z.length) H):=by
 intro pins s σ H xs us Q I r h;obtain⟨z,rfl,hz,q⟩:=h;obtain⟨u,rfl,t,rfl⟩:=vals1 r;have hn:=zgJ;exact len_str (by omega) ⟨.int z.length,H,I.tok _,⟨_,rfl⟩,q⟩
theorem zcQ:zj1 X (.type "list") (fun xs H Q=>∃ p ys,xs=[.ref p]/\(SqL X.K H p ys\/SqT X.K H p ys)/\∀ l,H l=none->Q (.ref l) (upd H l (.lst ys))):=by
 intro pins s σ H xs us Q I r h;obtain⟨p,ys,rfl,hq,q⟩:=h;obtain⟨u,rfl,rx⟩:=vals1 r;cases rx;have fin:∀ (its:List Value),Vals ys its->ys.length<=sizeLine->∀ (h':Heap) (c':Nat),(∀ b o',s.heap.get? b=some o'->h'.get? b=some o') ->
     h'.get? s.heap.objs.size=some { cls:=.type "list",dict:=none,data:=.seq its.toArray c',slots:=#[] }->EP X pins σ Q (.ref s.heap.objs.size) { s with heap:=h' }:=fun its r' hz h' c' kp e =>
   ⟨.ref s.heap.objs.size,_,I.laid (t':=s.toks) kp (Nat.le_refl _) (show zdc X.prog X.w _ h' _ (.lst ys) from ⟨hz,its,c',r',e⟩),rfl,q _ (I.hok.fresh (Nat.le_refl _))⟩
 rcases hq with hq | hq
 . obtain⟨its,r',pl,hz⟩:=I.list hq;have hlen:=r'.length;obtain⟨o,ho,hc,n,hd⟩:=pl.isList;exact call_list_seq p (.inl rfl) ho hc hd (fun h' c' kp e=>fin its r' hz h' c' kp e) (by simp only[List.size_toArray] <;> omega)
 . obtain⟨its,r',pl,hz⟩:=I.tuple hq;have hlen:=r'.length;obtain⟨o,ho,hc,n,hd⟩:=pl;exact call_list_seq p (.inr rfl) ho hc hd (fun h' c' kp e=>fin its r' hz h' c' kp e) (by simp only[List.size_toArray] <;> omega)
theorem zdw:zj1 X (.type "tuple") (fun xs H Q=>∃ p ys,xs=[.ref p]/\((SqL X.K H p ys/\∀ l,H l=none->Q (.ref l) (upd H l (.tup ys)))\/(SqT X.K H p ys/\Q (.ref p) H))):=by
 intro pins s σ H xs us Q I r h;obtain⟨p,ys,rfl,h⟩:=h;obtain⟨u,rfl,rx⟩:=vals1 r;cases rx
 rcases h with ⟨hq,q⟩ | ⟨hq,q⟩
 . obtain⟨its,r',pl,hz⟩:=I.list hq;have hlen:=r'.length;refine call_tuple_list pl.isList (fun h' kp=>?_) (by simp only[List.size_toArray] <;> omega);have I1:Inv X pins σ H { s with heap:=h' }:=I.kept (t':=s.toks) kp;have I2:Inv X pins σ (upd H h'.objs.size (.tup ys)) { s with heap:=h'.push { cls:=.type "tuple",data:=.seq its.toArray } } :=
     I1.laid (t':=s.toks) (fun b o e=>Heap.get?_push_of_some _ e) (Nat.le_refl _) (show zdc X.prog X.w _ _ _ (.tup ys) from ⟨hz,its,r',zcS.new _ _⟩)
   exact⟨.ref h'.objs.size,_,I2,rfl,q _ (I1.hok.fresh (Nat.le_refl _))⟩
 . obtain⟨its,r',pl,hz⟩:=I.tuple hq;exact call_tuple_same pl ⟨.ref p,H,I,rfl,q⟩
noncomputable def tyV(K:PySem.W.Frag)(T:String)(x:V)(H:Hp):Prop:=match x with
 | .str _=>T="str"
 | .int _=>T="int"
 | .ref p=>(T="list"/\∃ xs,SqL K H p xs)\/(T="tuple"/\∃ o,K.lookup p=some o/\o.cls=.type "tuple"/\o.dict=none) \/
     (T="dict"/\((∃ kvs,H p=some (.dK kvs))\/∃ kvs,H p=some (.dT kvs)))\/(T="set"/\∃ S n,H p=some (.set S n))
 | _=>False
theorem znH{pins:List (Addr×Obj)}{σ:St}{H:Hp}{s:Shared}{T:String}{x:V}{v:Value}(I:Inv X pins σ H s)(r:RelV x v)(ty:tyV X.K T x H) :
   s.TypeIs v T/\∀ a,v=.ref a->∃ ob,s.heap.get? a=some ob/\ob.dict=none:=by
 cases x with
 | str z =>
   obtain⟨t,rfl⟩:=r
   cases (show T="str" from ty)
   exact⟨typeIs_str s z t,fun _ e=>nomatch e⟩
 | int i =>
   obtain⟨t,rfl⟩:=r
   cases (show T="int" from ty)
   exact⟨typeIs_int s i t,fun _ e=>nomatch e⟩
 | ref p =>
   cases r
   rcases ty with ⟨rfl,xs,hq⟩ | ⟨rfl,o,hk,hc,hd⟩ | ⟨rfl,hk⟩ | ⟨rfl,S,n,hk⟩
   . obtain⟨its,_,pl,_⟩:=I.list hq;refine⟨pl.isList.typeIs,fun a e=>?_⟩;cases e;obtain⟨o,n,e,c,hd,_⟩:=pl;exact⟨o,e,hd⟩
   . refine⟨⟨o,I.kIn p o hk,hc⟩,fun a e=>?_⟩;cases e;exact⟨o,I.kIn _ o hk,hd⟩
   . have z:∃ o,s.heap.get? p=some o/\o.ExactDict:=by
       rcases hk with ⟨kvs,hk⟩ | ⟨kvs,hk⟩
       . obtain⟨_,_,_,_,o,_,_,e,ex,_⟩:=I.hok p _ hk;exact⟨o,e,ex⟩
       . obtain⟨_,_,_,_,o,_,_,e,ex,_⟩:=I.hok p _ hk;exact⟨o,e,ex⟩
     obtain⟨o,e,ex⟩:=z;refine⟨⟨o,e,ex.1⟩,fun a e2=>?_⟩;cases e2;exact⟨o,e,ex.2.1⟩
   . obtain⟨o,_,_,_,e,ex,_⟩:=I.hok p _ hk;refine⟨⟨o,e,ex.1⟩,fun a e2=>?_⟩;cases e2;exact⟨o,e,ex.2.1⟩
 | _=>exact False.elim ty
noncomputable def tBM0(K:PySem.W.Frag)(T:String)(r:V->List V->Hp->VK->Prop)(to:TE):TE:=fun σ H Q=>to σ H fun x H1=>tyV K T x H1/\r x [] H1 Q
noncomputable def tBM(K:PySem.W.Frag)(T:String)(r:V->List V->Hp->VK->Prop)(to:TE)(t:TA):TE:=fun σ H Q=>to σ H fun x H1=>tyV K T x H1/\t σ H1 fun xs H2=>r x xs H2 Q
variable {o e:Expr} {es:List Expr} {to:TE} {t:TA} {name:Str} {apos cpos:Pos} {T id:String} {r:V->List V->Hp->VK->Prop}
theorem zqF(pa:PlainAttrs T)(slot:Slot T name id)(hty:typeOf (.builtin id)=pure (.type "method_descriptor"))(hm:MtR X id r)(ho:PE X o to)
   (hbase:attributeBase o name X.env (eval o X.env)=eval o X.env:=by rfl) (hline:(apos.endLine==cpos.line)=true:=by rfl):PE X (.Call (.Attribute o name apos) [] [] cpos) (tBM0 X.K T r to):=by
 intro pins s σ H Q I h;refine wpAny_Call_method0_late hbase hline (thn (ho pins s σ H _ I h) ?_);rintro v s1 ⟨x,H1,I1,r1,ty,q1⟩;obtain⟨h1,h2⟩:=znH I1 r1 ty;exact⟨T,id,pa,slot,hty,h1,h2,Calls.callWith_builtin rfl (PySem.evalArgs_none (hm pins s1 σ H1 x [] v [] Q I1 r1 .nil q1))⟩
theorem zrF(pa:PlainAttrs T)(slot:Slot T name id)(hty:typeOf (.builtin id)=pure (.type "method_descriptor"))(hm:MtR X id r)(ho:PE X o to)(ha:PA X (e::es) t)
   (hbase:attributeBase o name X.env (eval o X.env)=eval o X.env:=by rfl)
   (hfew:((backTo cpos (starEach (e::es) X.env)).all (fun x=>!x.1)&&(backToKw cpos (keywordEach [] X.env)).all (fun x=>x.1.isSome)
    &&decide ((e::es).length+([]:List Keyword).length+(if ([]:List Keyword).isEmpty then 0 else 1) < 30))=true:=by rfl)
   (hline:(apos.endLine==cpos.line)=true:=by rfl) (hs:starEach (e::es) X.env=(false,eval e X.env)::starEach es X.env:=by rfl) (hplain:(backTo cpos (starEach es X.env)).any (·.1)=false:=by rfl) :
   PE X (.Call (.Attribute o name apos) (e::es) [] cpos) (tBM X.K T r to t):=by
 intro pins s σ H Q I h;refine wpAny_Call_method_late hbase hfew hline rfl (thn (ho pins s σ H _ I h) ?_);rintro v s1 ⟨x,H1,I1,r1,ty,q1⟩;obtain⟨h1,h2⟩:=znH I1 r1 ty;refine⟨T,id,pa,slot,hty,h1,h2,?_⟩;have hA:=ha cpos pins s1 σ H1 _ I1 q1;rw[hs] at hA ⊢;refine Calls.callWith_builtin (by show (false || (backTo cpos (starEach es X.env)).any (·.1))=false;rw[hplain] <;> rfl) (Calls.evalArgs_plain ?_);exact thn hA fun us s2 ⟨vs,H2,I2,r2,q2⟩=>hm pins s2 σ H2 x vs v us Q I2 r1 r2 q2
end
end L2
namespace L2
open PySem PySem.Spec PyProof.Rows
noncomputable def MtM(X:Cx)(id:String)(r:V->List V->Hp->VK->Prop):Prop :=
 ∀ (pins:List (Addr×Obj)) (s:Shared) (σ:St) (H:Hp) (x:V) (xs:List V) (v:Value) (us:List Value) (Q:VK),Inv X pins σ H s->RelV x v->Vals xs us->r x xs H Q ->
   wpAny (model X.prog X.w) X.A (call (.builtin id) (v::us)) (EP X pins σ Q) X.xe s
theorem Vals.one:∀ {x:V} {us:List Value},Vals [x] us->∃ u,us=[u]/\RelV x u
 | _,_,.cons r .nil=>⟨_,rfl,r⟩
theorem Vals.two{x y:V}{us:List Value}(h:Vals [x,y] us):∃ u v,us=[u,v]/\RelV x u/\RelV y v:=by
 cases h with
 | cons r t =>
   cases t with
   | cons q t =>
     cases t;exact⟨_,_,rfl,r,q⟩
theorem Vals.zero:∀ {us:List Value},Vals [] us->us=[]
 | _,.nil=>rfl
theorem Vals.dropLast{xs:List V}{us:List Value}(h:Vals xs us):Vals xs.dropLast us.dropLast:=by
 induction h with
 | nil=>exact .nil
 | cons r t ih =>
   cases t with
   | nil=>exact .nil
   | cons q t'=>exact .cons r ih
theorem zjA{α:Type}(l:List α):l.eraseIdx (l.length - 1)=l.dropLast:=by
 induction l with
 | nil=>rfl
 | cons a r ih =>
   cases r with
   | nil=>rfl
   | cons b r =>
     have e:(a::b::r).length - 1=((b::r).length - 1)+1:=by
       have h1:(a::b::r).length=r.length+2:=rfl;have h2:(b::r).length=r.length+1:=rfl;omega
     rw[e,List.eraseIdx_cons_succ,ih]
     all_goals rfl
section
variable {X:Cx} {pins:List (Addr×Obj)} {σ:St} {H:Hp} {s:Shared} {l b:Addr} {xs ys zs:List V}
theorem Inv.lset{its its':List Value}{n:Nat}{f:Array Value->Array Value}{t':Nat}(I:Inv X pins σ H s)(hH:H l=some (.lst xs))
   (e:s.heap.get? l=some { cls:=.type "list",data:=.seq its.toArray n }) (hf:f its.toArray=its'.toArray) (hv:Vals ys its') (hz:ys.length<=sizeLine) :
   Inv X pins σ (upd H l (.lst ys)) { s with heap:=s.heap.update l (Obj.mapSeq f),toks:=t' }:=by
 have q:=PySem.IsL.update e f;rw[hf] at q;refine I.write (x:=l) (e:=l) (by rw[hH];exact trivial) (.inl rfl) (fun b' u hb hu=>(Heap.get?_update_other s.heap (Obj.mapSeq f) (Ne.symm hb)).trans hu) ⟨_,q⟩ ?_;exact⟨hz,its',_,hv,q⟩
theorem Inv.lnew{its:List Value}{t':Nat}(I:Inv X pins σ H s)(hv:Vals ys its)(hz:ys.length<=sizeLine) :
   Inv X pins σ (upd H s.heap.objs.size (.lst ys)) { s with heap:=s.heap.push { cls:=.type "list",data:=.seq its.toArray },toks:=t' } :=
 I.laid (fun _ _ q=>Heap.get?_push_of_some _ q) (Nat.le_refl _) ⟨hz,its,0,hv,Heap.get?_push_size _ rfl⟩
theorem Inv.fresh(I:Inv X pins σ H s):H s.heap.objs.size=none:=I.hok.fresh (Nat.le_refl _)
theorem Inv.lstM(I:Inv X pins σ H s)(hH:H l=some (.lst xs)):xs.length<=sizeLine/\∃ (its:List Value) (n:Nat),Vals xs its/\xs.length=its.length/\s.heap.get? l=some { cls:=.type "list",data:=.seq its.toArray n }:=by
 obtain⟨z,its,n,r,e⟩:=I.hok l _ hH;exact⟨z,its,n,r,r.length,e⟩
theorem zmD{n:Nat}(h:n<=sizeLine):Builtin.List.listTooLong n=false:=by
 unfold Builtin.List.listTooLong;exact decide_eq_false (by omega)
end
section
variable {X:Cx}
noncomputable def zod:V->List V->Hp->VK->Prop:=fun x vs H Q=>∃ l xs y,x=.ref l/\vs=[y]/\H l=some (.lst xs)/\xs.length < sizeLine/\Q .non (upd H l (.lst (xs++[y])))
theorem zhh:MtM X "list.append" zod:=by
 intro pins s σ H x vs v us Q I rx rv h;obtain⟨l,xs,y,rfl,rfl,hH,hz,q⟩:=h;cases rx;obtain⟨u,rfl,ru⟩:=rv.one;obtain⟨z,its,n,r,hl,e⟩:=I.lstM hH;refine call_meets F.slot_list_append ⟨_,e,rfl⟩ F.entry_list_append (F.args_list_append_2 _ _) (PySem.list_append l its.toArray n u (by rw[List.size_toArray];omega)) ⟨e,?_⟩;refine⟨.non,_,I.lset (its':=its++[u]) hH e (by simp) (r.append (.cons ru .nil)) ?_,rfl,q⟩;rw[List.length_append,List.length_singleton];omega
noncomputable def zoc:V->List V->Hp->VK->Prop:=fun x vs H Q=>∃ l b xs zs,x=.ref l/\vs=[.ref b]/\H l=some (.lst xs)/\H b=some (.lst zs)/\xs.length+zs.length<=sizeLine/\Q .non (upd H l (.lst (xs++zs)))
theorem zkI:MtM X "list.extend" zoc:=by
 intro pins s σ H x vs v us Q I rx rv h;obtain⟨l,b,xs,zs,rfl,rfl,hH,hB,hz,q⟩:=h;cases rx;obtain⟨u,rfl,ru⟩:=rv.one;cases ru;obtain⟨z,its,n,r,hl,e⟩:=I.lstM hH;obtain⟨z2,its2,n2,r2,hl2,e2⟩:=I.lstM hB;have hsz:its.toArray.size+its2.toArray.size<=sizeLine:=by rw[List.size_toArray,List.size_toArray];omega
 have hlong:¬ (!its.toArray.isEmpty&&Builtin.List.listTooLong (its.toArray.size+its2.toArray.size))=true:=by
   rw[zmD hsz,Bool.and_false];exact Bool.false_ne_true
 refine call_meets F.slot_list_extend ⟨_,e,rfl⟩ F.entry_list_extend (F.args_list_extend_2 _ _)
   (AutoSeq1.list_extend_list_list_0 l its.toArray n b its2.toArray n2 hlong (by rw[List.size_toArray];omega) (by omega)) ⟨e,e2,?_⟩
 refine⟨.non,_,I.lset (its':=its++its2) hH e (by simp) (r.append r2) ?_,rfl,q⟩;rw[List.length_append];omega
noncomputable def rPop:V->List V->Hp->VK->Prop:=fun x vs H Q=>∃ l xs y,x=.ref l/\vs=[]/\H l=some (.lst xs)/\xs[xs.length - 1]?=some y/\Q y (upd H l (.lst xs.dropLast))
theorem zqY:MtM X "list.pop" rPop:=by
 intro pins s σ H x vs v us Q I rx rv h;obtain⟨l,xs,y,rfl,rfl,hH,hy,q⟩:=h;cases rx;have hus:=rv.zero;subst hus;obtain⟨z,its,n,r,hl,e⟩:=I.lstM hH;obtain⟨u,hu,ru⟩:=r.get hy;have hy':its.toArray[its.toArray.size - 1]?=some u:=by
   show its.toArray[its.length - 1]?=some u;rw[<-Array.getElem?_toList,<-hl];exact hu
 refine call_meets F.slot_list_pop ⟨_,e,rfl⟩ F.entry_list_pop (F.args_list_pop_1 _) (MeetsSeq.list_pop_last l its.toArray n u hy' (by rw[List.size_toArray];omega)) ⟨e,?_⟩;refine⟨y,_,I.lset (its':=its.dropLast) hH e ?_ r.dropLast ?_,ru,q⟩
 . show its.toArray.eraseIdxIfInBounds (its.toArray.size - 1)=its.dropLast.toArray;rw[List.size_toArray,List.eraseIdxIfInBounds_toArray,zjA]
 . rw[List.length_dropLast];omega
noncomputable def rCat:R2:=fun x y H Q=>∃ l b xs zs,x=.ref l/\y=.ref b/\H l=some (.lst xs)/\H b=some (.lst zs)/\xs.length+zs.length<=sizeLine/\∀ p,H p=none->Q (.ref p) (upd H p (.lst (xs++zs)))
theorem zqP:OpR X (binaryOp .Add) rCat:=by
 intro pins s σ H x y v u Q I rx ry h;obtain⟨l,b,xs,zs,rfl,rfl,hH,hB,hz,q⟩:=h;cases rx;cases ry;obtain⟨z,its,n,r,hl,e⟩:=I.lstM hH;obtain⟨z2,its2,n2,r2,hl2,e2⟩:=I.lstM hB;refine PySem.P.add_list e e2 ?_ (by rw[List.size_toArray,List.size_toArray];omega);have ea:its.toArray++its2.toArray=(its++its2).toArray:=by simp
 rw[ea];exact⟨.ref _,_,I.lnew (t':=s.toks) (r.append r2) (by rw[List.length_append];omega),rfl,q _ I.fresh⟩
end
section
variable {prog:Program} {w:World} {A:Around} {E:Value->Shared->Prop} {s:Shared}
set_option maxRecDepth 100000 in
end
end L2
namespace Att
open PySem PySem.W PySem.Calls PyProof.Rows
theorem zep{P:Params}{h:Heap}:∀ (ns:List Int) (vs:List Value),WellAll P h vs (ns.map WData.int)->IntsAre vs ns:=by
 intro ns
 induction ns with
 | nil =>
   intro vs w;rw[List.map_nil] at w;cases w;exact .nil
 | cons n ns ih =>
   intro vs w;rw[List.map_cons] at w
   cases w with
   | cons a b =>
     cases a;exact .cons _ _ (ih _ b)
theorem zkl{l:OpenLaw}{n:Nat}(hn:l.most=some n){P:Params}{h:Heap}{args:List WData}{vals:List Value}
   (hpre:l.row.toRowW.claim.pre args=true) (hwl:WellAll P h vals args) :
   ∃ a vs ns,vals=[Value.ref a]/\args=[WData.list (ns.map WData.int)]/\h.get? a=some { cls:=.type "list",data:=.seq vs.toArray }/\IntsAre vs ns/\ns.length<=n:=by
 have hsh:WShape.hasAll [] args [.list .int]=true:=(pre_splitW hpre).1;have hc:l.pre.holds [] { args:=args }=true:=(pre_splitW hpre).2;obtain⟨d,r,rfl,h1,h2⟩:=hasAllW_cons hsh;obtain rfl:=hasAllW_nil h2;obtain⟨xs,rfl,h3⟩:=hasW_list h1;obtain⟨ns,rfl⟩:=items_int h3;have hlen:ns.length<=n:=by
   unfold OpenLaw.pre at hc;have h4:(WTm.not (.lt (.lit (.int (n:Int))) (.len (.arg 0)))).holds [] { args:=[.list (ns.map .int)] }=true:=by
     have h4:=(holds_andW hc).1;rw[hn] at h4;exact h4
   have h5:=condW_of h4 (w_not (w_lt w_lit (w_len_list (w_arg rfl))));rw[List.length_map] at h5;refine Nat.le_of_not_lt fun q=>?_;have q':(n:Int) < ((ns.length:Nat):Int):=by omega
   first
     | (rw[decide_eq_true q'] at h5;exact absurd h5 (by decide))
     | (simp at h5;omega)
 cases hwl with
 | cons w1 w2 =>
   cases w2
   cases w1 with
   | list ho hall=>exact⟨_,_,ns,rfl,rfl,ho,zep ns _ hall,hlen⟩
theorem zkr(l:OpenLaw)(args:List WData):l.row.toRowW.claim.post args (.bool true) args=true :=
 postW_of (r:=l.row.toRowW) (X:=(true==true))
   (show WShape.has [] (.bool true) .bool=true by first | rfl | decide | simp[WShape.has,WShape.arms,WShape.armsAll])
   (show (WTm.eq .res (.lit (.bool true))).value [] { args:=args,res:=some (.bool true),after:=args }=some (.bool (true==true)) from w_eq_bool (w_res rfl) w_lit) rfl
theorem attach_call{l:OpenLaw}{n:Nat}{q:Program}{loose:List Str}{XP:(Str->Option Value)->Heap->Prop}{YP:World->Heap->Prop}{d:DefRec}
   (hn:l.most=some n) (hdf:d.params.defaults=[])
   (call:∀ (w:World) (s₀ s₁:Shared) (mg mb:Str->Option Value) (fa:Addr) (o:Obj) (pm cd doc:Value) (a:Addr) (vs:List Value) (ns:List Int),
     Ground q loose [] XP w s₀ mg mb s₁.heap->YP w s₁.heap ->
     s₁.heap.get? fa=some o->o.data=.func (docDef d.name d.params d.body d.scope pm cd doc)->s₁.heap.CodeRec cd d.name->mg d.name=some (.ref fa) ->
     s₁.heap.get? a=some { cls:=.type "list",data:=.seq vs.toArray }->IntsAre vs ns->ns.length<=n->s₁.gens=#[] ->
     codeAny (model l.prog w) callerA (.call (.ref fa) ⟨[.ref a],[]⟩) (fun r s'=>r=.ok (.ret (.bool true))/\OldK s₁.heap s'.heap/\s'.os=s₁.os/\AllBare s'.gens) s₁) :
   WalkO q loose XP YP l.row.toRowW d [] (fun f vs=>PySem.call f vs):=by
 intro w s₀ s₁ mg mb G Y fa o pm cd doc dV kV ho hd hcd hD hmg hg args vals as hpre hlay hrd hwl hlo;obtain rfl:dV=.none:=Dflts.none hD hdf;obtain rfl:kV=.none:=Dflts.noKw hD;obtain⟨a,vs,ns,rfl,rfl,hobj,hints,hlen⟩:=zkl hn hpre hwl;refine enter_call (codeAny_mono (call w s₀ s₁ mg mb fa o pm cd doc a vs ns G Y ho (fd_plain hd) hcd hmg hobj hints hlen hg) fun r s' hq=>?_);obtain⟨rfl,h2,h3,h4⟩:=hq;exact⟨.inl ⟨.bool true,.bool true,[],rfl,fun _=>rfl,.bool true,zkr l _,fun _=>⟨List.Pairwise.nil,fun _ hm=>(nomatch hm)⟩⟩,h2,h3,h4⟩
end Att
namespace L2
open PySem PySem.Spec PyProof.Rows
theorem zgS:∀ {vs:List Value} {ns:List Int},IntsAre vs ns->Vals (ns.map V.int) vs
 | _,_,.nil=>.nil
 | _,_,.cons n t h=>.cons ⟨t,rfl⟩ (zgS h)
noncomputable def Only(H:Hp):Prop:=∀ b,H b=none\/∃ o xs,H b=some (.frz o (.lst xs))
theorem zmZ{P:Program}{w:World}{K:PySem.W.Frag}{mg mb:Str->Option Value}{CX:CXT}{k:Nat}{fa a:Addr}{fd:FuncData}{x:Str}{sp:Sp}{s₁:Shared}{vs:List Value}{ns:List Int}
   (KX:K.In s₁.heap) (hns:s₁.heap.Ns mainGlobals mg) (hb:s₁.heap.Ns builtinsNs mb) (hbb:∀ x:Str,x≠"__name__"->mb x=bootBuiltins x) (hlim:s₁.heap.NoLimit) (hg:s₁.gens=#[])
   (ha:s₁.heap.get? a=some { cls:=.type "list",data:=.seq vs.toArray }) (hi:IntsAre vs ns) (hl:ns.length<=sizeLine) (hr:Room k callerA)
   (F:∀ base:Heap,K.In base->base.Ns mainGlobals mg->FnOk P w K mg base CX k fa fd [x] sp) (hbind:∀ (s:Shared) (u:Value),BindsTo s fd ⟨[u],[]⟩ [(x,u)])
   (hsp:∀ H:Hp,Only H->SqL K H a (ns.map V.int)->sp [.ref a] H (fun v _=>v=.bl true) fun _ _ _=>False)
   (hCX:∀ H e s',CX [] H s₁ (fun _ _ _=>False) e s'->False) :
   codeAny (model P w) callerA (.call (.ref fa) ⟨[.ref a],[]⟩) (fun r s'=>r=.ok (.ret (.bool true))/\OldK s₁.heap s'.heap/\s'.os=s₁.os/\AllBare s'.gens) s₁:=by
 have rv:=zgS hi;have lenV:=hi.length
 -- from an abstract heap in which nothing but the script may be tracked
 have core:∀ H:Hp,Only H->SqL K H a (ns.map V.int)->HOk P w H s₁.heap->(∀ b,H b≠none->b=a)->(H a≠none->K.lookup a=none) ->
     codeAny (model P w) callerA (.call (.ref fa) ⟨[.ref a],[]⟩) (fun r s'=>r=.ok (.ret (.bool true))/\OldK s₁.heap s'.heap/\s'.os=s₁.os/\AllBare s'.gens) s₁:=by
   intro H hO hS hok hA hK;have base_of:∀ {b:Addr} {o:Obj},s₁.heap.get? b=some o->H b=none->(hidT s₁.heap H).get? b=some o:=fun e n=>zm5 e n;have noA:∀ {b:Addr} {o:Obj} {es:Array DictEntry} {ep:Nat},s₁.heap.get? b=some o->o.data=.dict es ep->H b=none:=fun {b o es ep} e d=>by
     cases q:H b with
     | none=>rfl
     | some u =>
       have e':b=a:=hA b (by rw[q];simp);subst e';rw[ha] at e;cases e;have d':Data.seq vs.toArray _=Data.dict es ep:=d;cases d'
   have nsK:∀ {b:Addr} {m:Str->Option Value},s₁.heap.Ns b m->(hidT s₁.heap H).Ns b m:=fun {b m} ⟨o,es,ep,e,d,r⟩=>⟨o,es,ep,base_of e (noA e d),d,r⟩
   have hKb:K.In (hidT s₁.heap H):=fun b o e=>base_of (KX b o e) (by
     cases q:H b with
     | none=>rfl
     | some u =>
       have e':b=a:=hA b (by rw[q];simp);subst e';rw[hK (by rw[q];simp)] at e;cases e)
   have hM:Mod K mg (hidT s₁.heap H):=⟨hKb,nsK hns,⟨mb,nsK hb,hbb⟩,let ⟨mc,h1,h2⟩:=hlim;⟨mc,nsK h1,h2⟩⟩
   have e0:Env0 P w K mg (hidT s₁.heap H) callerA [] s₁ H:=⟨rfl,hM,fun b o e=>zoC e,Nat.le_of_eq (zkU _ _),trivial,fun b hb=>absurd (show b∈([]:List Addr) from hb) (by simp),hok,.of_eq hg⟩
   refine codeAny_mono ((F _ hKb (nsK hns)).run callerA [] s₁ H ⟨[.ref a],[]⟩ [.ref a] [.ref a] _ _ hr e0 (hbind s₁ (.ref a)) (.cons rfl .nil) (hsp H hO hS)) fun r s' h=>?_
   cases r with
   | error e=>exact (hCX H e s' h).elim
   | ok fl =>
     cases fl with
     | next=>exact False.elim h
     | brk=>exact False.elim h
     | cont=>exact False.elim h
     | ret u =>
       obtain⟨v,H',os,bare,un,hok',r',q⟩:=h;have q':v=.bl true:=q;subst q';obtain rfl:u=Value.bool true:=r';refine⟨rfl,OldK.of_keep fun b o e=>?_,os,bare⟩
       cases q:H b with
       | none=>exact un.keep b o e q (by intro z;exact absurd (show b∈([]:List Addr) from z) (by simp)) (by simp)
       | some u =>
         rcases hO b with z | ⟨ob,xs,z⟩
         . rw[q] at z;cases z
         . have z2:=un.frzs b ob _ z;obtain⟨e1,_⟩:=hok b _ z;obtain⟨e2,_⟩:=hok' b _ z2;rw[e] at e1;cases e1;exact e2
 cases hk:K.lookup a with
 | some o =>
   -- the script is one of the module's own objects
   have e:=KX a o hk;rw[ha] at e;cases e;refine core (fun _=>none) (fun _=>.inl rfl) (.inr ⟨_,vs.toArray,_,hk,rfl,rfl,rfl,by rw[List.size_toArray,lenV];exact hl,by simpa using rv⟩) (fun b u z=>by have z':(none:Option HO)=some u:=z;cases z') (fun b z=>absurd rfl z) fun z=>absurd rfl z
 | none =>
   refine core (fun b=>if b=a then some (.frz { cls:=.type "list",data:=.seq vs.toArray } (.lst (ns.map V.int))) else none) (fun b=>?_) (.inl (.inr ⟨{ cls:=.type "list",data:=.seq vs.toArray },if_pos rfl⟩)) (fun b u z=>?_) (fun b z=>?_) fun _=>hk
   . by_cases hb:b=a
     . exact .inr ⟨_,_,if_pos hb⟩
     . exact .inl (if_neg hb)
   . by_cases hb:b=a
     . have z':=(if_pos hb).symm.trans z;cases z';subst hb;exact⟨ha,by rw[List.length_map];exact hl,vs,_,rv,ha⟩
     . have z':=(if_neg hb).symm.trans z;cases z'
   . by_cases hb:b=a
     . exact hb
     . exact absurd (if_neg hb) z
end L2
namespace L2
open PySem PySem.Spec PyProof.Rows
theorem walk_of{l:PySem.W.OpenLaw}{n k:Nat}{q:Program}{loose:List Str}{XP:(Str->Option Value)->Heap->Prop}{YP:World->Heap->Prop}{d:DefRec}{K:Params->PySem.W.Frag}{CX:World->CXT}{sp:World->Sp}{x:Str}
   (hn:l.most=some n) (hn2:n<=sizeLine) (hdf:d.params.defaults=[]) (hr:Room k callerA)
   (hY:∀ (w:World) (h:Heap),YP w h->(K w.params).In h)
   (F:∀ (w:World) (mg:Str->Option Value) (fa:Addr) (h:Heap),(K w.params).In h->h.Ns mainGlobals mg->mg d.name=some (.ref fa) ->
     ∃ fd:FuncData,(∀ (s:Shared) (u:Value),BindsTo s fd ⟨[u],[]⟩ [(x,u)]) /\
       ∀ base:Heap,(K w.params).In base->base.Ns mainGlobals mg->FnOk l.prog w (K w.params) mg base (CX w) k fa fd [x] (sp w))
   (hsp:∀ (w:World) (H:Hp) (a:Addr) (ns:List Int),ns.length<=n->Only H->SqL (K w.params) H a (ns.map V.int)->sp w [.ref a] H (fun v _=>v=.bl true) fun _ _ _=>False)
   (hCX:∀ (w:World) (H:Hp) (s:Shared) (e:Value) (s':Shared),CX w [] H s (fun _ _ _=>False) e s'->False) :
   PySem.W.WalkO q loose XP YP l.row.toRowW d [] (fun f vs=>PySem.call f vs):=by
 refine Att.attach_call hn hdf fun w s₀ s₁ mg mb fa o pm cd doc a vs ns G Y ho hd hcd hmg hobj hints hlen hg=>?_;have KX:=hY w _ Y;obtain⟨fd,hb,hF⟩:=F w mg fa _ KX G.T.g hmg;exact zmZ KX G.T.g G.T.b G.T.builtins G.T.nolimit hg hobj hints (Nat.le_trans hlen hn2) hr hF hb (fun H hO hS=>hsp w H a ns hlen hO hS) fun H e s'=>hCX w H s₁ e s'
end L2
namespace L2
open PySem PySem.Spec PyProof.Rows
noncomputable def zd6(s:Stmt):Arguments:=match s with
 | .FunctionDef _ a _ _ _ _ _ _ _ _=>a
 | _=>{ posonlyargs:=[],args:=[],vararg:=none,kwonlyargs:=[],kw_defaults:=[],kwarg:=none,defaults:=[] }
noncomputable def zcG(s:Stmt):List Stmt:=match s with
 | .FunctionDef _ _ b _ _ _ _ _ _ _=>b
 | _=>[]
noncomputable def zaq(s:Stmt):Scope:=match s with
 | .FunctionDef _ _ _ _ _ _ sc _ _ _=>sc
 | _=>{ kind:=.function,names:=[],isGenerator:=false,isCoroutine:=false }
noncomputable abbrev CX0:CXT:=fun _ _ _ _ _ _=>False
noncomputable abbrev E0:XK:=fun _ _ _=>False
theorem zsn{X:Cx}:Passes CX0 X E0:=fun _ _ _ _ _ _ _ h=>h.elim
structure Fun(K:PySem.W.Frag)(x qual:Str)(st:Stmt)(f:Addr)(fd:FuncData):Prop where
 ex:∃ (oc:Value) (od:Option Addr) (kV doc pm:Value) (an:Option Addr) (cdv ct:Value) (osl:Array (Option Value)),
   fd=PySem.W.fnOf x qual (zd6 st) (zcG st) (zaq st) .none kV doc pm an cdv ct/\K.lookup f=some ⟨oc,od,.func fd,osl⟩/\PySem.W.codeIn K cdv qual=true
 kp:PySem.W.keepIn K (.ref f)=true
section
variable {P:Program} {w:World} {K:PySem.W.Frag} {mg:Str->Option Value} {base:Heap}
theorem Fun.ok{x qual:Str}{st:Stmt}{f:Addr}{fd:FuncData}{N ps:List Str}{k:Nat}{sp:Sp}(F:Fun K x qual st f fd)(S:FnScope N ps (zaq st))(len:∀ vs H Q E,sp vs H Q E->vs.length=ps.length)
   (hbody:∀ (cdv:Value) (A:Around) (outer:List Env) (s:Shared) (H:Hp) (vs:List V) (Q:VK) (E:XK),Room k (A.deeper (envOfC qual (zaq st) s.heap.objs.size f cdv))->sp vs H Q E ->
     ∃ t,PSs (cxOf CX0 P w K mg base N qual (zaq st) f cdv A outer s H E).nox (zcG st) t/\t { nx:=fun _ H'=>Q .non H',rt:=Q } (start N vs) H):FnOk P w K mg base CX0 (k+1) f fd ps sp:=by
 obtain⟨oc,od,kV,doc,pm,an,cdv,ct,osl,rfl,lk,hcd⟩:=F.ex;refine zsG lk hcd S len fun A outer s H vs Q E hr hsp=>?_;obtain⟨t,h,q⟩:=hbody cdv A outer s H vs Q E hr hsp;exact⟨t,h.nox,q⟩
theorem Fun.binds{x qual:Str}{st:Stmt}{f:Addr}{fd:FuncData}{ps:List Str}(F:Fun K x qual st f fd)
   (h:∀ (kV doc pm:Value) (an:Option Addr) (cdv ct:Value) (us:List Value),us.length=ps.length->bindArgs (PySem.W.fnOf x qual (zd6 st) (zcG st) (zaq st) .none kV doc pm an cdv ct) ⟨us,[]⟩=pure (ps.zip us)):Binds K fd ps []:=by
 obtain⟨oc,od,kV,doc,pm,an,cdv,ct,osl,rfl,lk,hcd⟩:=F.ex;exact .all (h kV doc pm an cdv ct)
theorem zm7{x qual:Str}{st:Stmt}{f:Addr}{oc:Value}{od an:Option Addr}{osl:Array (Option Value)}{kV doc pm cdv ct:Value}(l:K.lookup f=some ⟨oc,od,.func (PySem.W.fnOf x qual (zd6 st) (zcG st) (zaq st) .none kV doc pm an cdv ct),osl⟩)
   (c:PySem.W.codeIn K cdv qual=true) (k:PySem.W.keepIn K (.ref f)=true):Fun K x qual st f (PySem.W.fnOf x qual (zd6 st) (zcG st) (zaq st) .none kV doc pm an cdv ct):=⟨⟨oc,od,kV,doc,pm,an,cdv,ct,osl,rfl,l,c⟩,k⟩
end
theorem zaG{A:Around}{k:Nat}(hr:Room k A):A.units+1 < cLine:=Nat.lt_of_le_of_lt (Nat.add_le_add_left (by decide:1<=64) _) hr.units
end L2
namespace L2
open PySem PySem.Spec PyProof.Rows
end L2
set_option maxHeartbeats 4000000
namespace L2.MP
open PySem PySem.Spec PyProof.Rows
inductive D where
 | non | bl (b:Bool) | int (i:Int) | str (x:Str) | tup (xs:List D) | ref (n:Nat) | kl (xs:List D)
inductive O where
 | lst (xs:List D) | fz (xs:List D) | dk (kvs:List (Key×D)) | dt (kvs:List (List Key×D)) | fk (kvs:List (Key×D)) | ft (kvs:List (List Key×D))
noncomputable abbrev Sto:=List O
noncomputable abbrev Rho:=List (Option D)
structure Kp(H H':Hp):Prop where
 tup:∀ a xs,H a=some (.tup xs)->H' a=some (.tup xs)
 frz:∀ a o u,H a=some (.frz o u)->H' a=some (.frz o u)
noncomputable def SqF(K:PySem.W.Frag)(H:Hp)(a:Addr)(xs:List V):Prop :=
 (∃ o,H a=some (.frz o (.lst xs)))\/∃ (o:Obj) (its:Array Value) (n:Nat),K.lookup a=some o/\o.cls=.type "list"/\o.dict=none/\o.data=.seq its n/\its.size<=sizeLine/\Vals xs its.toList
theorem SqF.sq{K:PySem.W.Frag}{H:Hp}{a:Addr}{xs:List V}(h:SqF K H a xs):SqL K H a xs:=by
 rcases h with h | h
 . exact .inl (.inr h)
 . exact .inr h
theorem SqF.kp{K:PySem.W.Frag}{H H':Hp}{a:Addr}{xs:List V}(T:Kp H H')(h:SqF K H a xs):SqF K H' a xs:=by
 rcases h with ⟨o,h⟩ | h
 . exact .inl ⟨o,T.frz _ _ _ h⟩
 . exact .inr h
mutual
noncomputable def Rep(K:PySem.W.Frag)(H:Hp)(io:List Addr):V->D->Prop
 | v,.non=>v=.non
 | v,.bl b=>v=.bl b
 | v,.int i=>v=.int i
 | v,.str x=>v=.str x
 | v,.tup ds=>∃ a xs,v=.ref a/\H a=some (.tup xs)/\Reps K H io xs ds
 | v,.ref n=>∃ a,v=.ref a/\io[n]?=some a
 | v,.kl ds=>∃ a xs,v=.ref a/\SqF K H a xs/\Reps K H io xs ds
noncomputable def Reps(K:PySem.W.Frag)(H:Hp)(io:List Addr):List V->List D->Prop
 | xs,[]=>xs=[]
 | xs,d::ds=>∃ y ys,xs=y::ys/\Rep K H io y d/\Reps K H io ys ds
end
mutual
theorem Rep.mono{K:PySem.W.Frag}{H H':Hp}{io ka:List Addr}(T:Kp H H'):∀ {v:V} {d:D},Rep K H io v d->Rep K H' (io++ka) v d
 | _,.non,h=>h
 | _,.bl _,h=>h
 | _,.int _,h=>h
 | _,.str _,h=>h
 | _,.tup ds,h=>by
   obtain⟨a,xs,e,q,r⟩:=h;exact⟨a,xs,e,T.tup a xs q,Reps.mono T r⟩
 | _,.ref n,h=>by
   obtain⟨a,e,q⟩:=h;exact⟨a,e,by rw[List.getElem?_append_left (List.getElem?_eq_some_iff.mp q).1];exact q⟩
 | _,.kl ds,h=>by
   obtain⟨a,xs,e,q,r⟩:=h;exact⟨a,xs,e,q.kp T,Reps.mono T r⟩
theorem Reps.mono{K:PySem.W.Frag}{H H':Hp}{io ka:List Addr}(T:Kp H H'):∀ {xs:List V} {ds:List D},Reps K H io xs ds->Reps K H' (io++ka) xs ds
 | _,[],h=>h
 | _,d::ds,h=>by
   obtain⟨y,ys,e,r,rs⟩:=h;exact⟨y,ys,e,Rep.mono T r,Reps.mono T rs⟩
end
section
variable {K:PySem.W.Frag} {H H' H1 H2:Hp} {io ka kb:List Addr} {st st':Sto} {xs ys:List V} {ds es:List D}
theorem Reps.length:∀ {xs:List V} {ds:List D},Reps K H io xs ds->xs.length=ds.length
 | _,[],h=>by rw[show _=[] from h];rfl
 | _,d::ds,h=>by
   obtain⟨y,ys,e,_,rs⟩:=h;rw[e,List.length_cons,List.length_cons,Reps.length rs]
theorem Reps.get:∀ {xs:List V} {ds:List D} {i:Nat} {d:D},Reps K H io xs ds->ds[i]?=some d->∃ v,xs[i]?=some v/\Rep K H io v d
 | _,[],_,_,_,e=>by simp at e
 | _,a::ds,0,d,h,e=>by
   obtain⟨y,ys,rfl,r,_⟩:=h;have e':a=d:=by simpa using e
   subst e';exact⟨y,rfl,r⟩
 | _,a::ds,i+1,d,h,e=>by
   obtain⟨y,ys,rfl,_,rs⟩:=h;exact Reps.get (i:=i) rs (by simpa using e)
theorem Reps.append:∀ {xs ys:List V} {ds es:List D},Reps K H io xs ds->Reps K H io ys es->Reps K H io (xs++ys) (ds++es)
 | _,_,[],_,h,q=>by rw[show _=[] from h];exact q
 | _,_,d::ds,_,h,q=>by
   obtain⟨y,ys,rfl,r,rs⟩:=h;exact⟨y,_,rfl,r,Reps.append rs q⟩
theorem Reps.set:∀ {xs:List V} {ds:List D} {v:V} {d:D} (i:Nat),Reps K H io xs ds->Rep K H io v d->Reps K H io (xs.set i v) (ds.set i d)
 | _,[],_,_,_,h,_=>by rw[show _=[] from h];exact rfl
 | _,a::ds,v,d,0,h,q=>by
   obtain⟨y,ys,rfl,_,rs⟩:=h;exact⟨v,ys,rfl,q,rs⟩
 | _,a::ds,v,d,i+1,h,q=>by
   obtain⟨y,ys,rfl,r,rs⟩:=h;exact⟨y,_,rfl,r,Reps.set i rs q⟩
theorem Reps.take:∀ {xs:List V} {ds:List D} (n:Nat),Reps K H io xs ds->Reps K H io (xs.take n) (ds.take n)
 | _,[],n,h=>by rw[show _=[] from h];simp[Reps]
 | _,_::_,0,_=>by simp[Reps]
 | _,d::ds,n+1,h=>by
   obtain⟨y,ys,rfl,r,rs⟩:=h;exact⟨y,_,rfl,r,Reps.take n rs⟩
theorem Reps.drop:∀ {xs:List V} {ds:List D} (n:Nat),Reps K H io xs ds->Reps K H io (xs.drop n) (ds.drop n)
 | _,[],n,h=>by rw[show _=[] from h];simp[Reps]
 | _,_::_,0,h=>h
 | _,d::ds,n+1,h=>by
   obtain⟨y,ys,rfl,r,rs⟩:=h;exact Reps.drop n rs
theorem Reps.nil:Reps K H io [] []:=rfl
theorem Reps.cons{v:V}{d:D}(r:Rep K H io v d)(rs:Reps K H io xs ds):Reps K H io (v::xs) (d::ds):=⟨v,xs,rfl,r,rs⟩
theorem Reps.one{d:D}(r:Reps K H io xs [d]):∃ v,xs=[v]/\Rep K H io v d:=by
 obtain⟨y,ys,rfl,r,e⟩:=r
 cases (show ys=[] from e)
 exact⟨y,rfl,r⟩
theorem Reps.two{d e:D}(r:Reps K H io xs [d,e]):∃ v u,xs=[v,u]/\Rep K H io v d/\Rep K H io u e:=by
 obtain⟨y,ys,rfl,r,q⟩:=r;obtain⟨v,rfl,q'⟩:=q.one;exact⟨y,v,rfl,r,q'⟩
noncomputable abbrev KR (κ:Type) (K:PySem.W.Frag) (H:Hp) (io:List Addr):List (κ×V)->List (κ×D)->Prop:=Paired fun (p:κ×V) (q:κ×D)=>p.1=q.1/\Rep K H io p.2 q.2
noncomputable def OR(K:PySem.W.Frag)(H:Hp)(io:List Addr)(a:Addr):O->Prop
 | .lst ds=>∃ xs,H a=some (.lst xs)/\Reps K H io xs ds
 | .fz ds=>∃ o xs,H a=some (.frz o (.lst xs))/\Reps K H io xs ds
 | .dk kvs=>∃ ps,H a=some (.dK ps)/\KR Key K H io ps kvs
 | .dt kvs=>∃ ps,H a=some (.dT ps)/\KR (List Key) K H io ps kvs
 | .fk kvs=>∃ o ps,H a=some (.frz o (.dK ps))/\KR Key K H io ps kvs
 | .ft kvs=>∃ o ps,H a=some (.frz o (.dT ps))/\KR (List Key) K H io ps kvs
structure StR(K:PySem.W.Frag)(H:Hp)(io:List Addr)(st:Sto):Prop where
 len:io.length=st.length
 nd:io.Nodup
 ob:∀ (n:Nat) (a:Addr) (o:O),io[n]?=some a->st[n]?=some o->OR K H io a o
structure EnvR(K:PySem.W.Frag)(H:Hp)(io:List Addr)(σ:St)(ρ:Rho):Prop where
 len:σ.length=ρ.length
 at_:∀ (i:Nat) (d:D),ρ[i]?=some (some d)->∃ v,σ[i]?=some (some v)/\Rep K H io v d
structure Ext(io ka:List Addr)(H H':Hp):Prop where
 keep:∀ b o,H b=some o->b ∉ io->H' b=some o
 fresh:∀ b,b∈ka->H b=none
 frz:∀ b o u,H b=some (.frz o u)->H' b=some (.frz o u)
theorem OR.stands{a:Addr}{o:O}(h:OR K H io a o):∃ u,H a=some u/\∀ xs,u≠.tup xs/\∀ ob,u≠.frz ob (.tup xs):=by
 cases o with
 | lst ds=>obtain⟨xs,e,_⟩:=h;exact⟨_,e,fun _=>⟨by simp,by simp⟩⟩
 | fz ds=>obtain⟨ob,xs,e,_⟩:=h;exact⟨_,e,fun _=>⟨by simp,by simp⟩⟩
 | dk kvs=>obtain⟨xs,e,_⟩:=h;exact⟨_,e,fun _=>⟨by simp,by simp⟩⟩
 | dt kvs=>obtain⟨xs,e,_⟩:=h;exact⟨_,e,fun _=>⟨by simp,by simp⟩⟩
 | fk kvs=>obtain⟨ob,xs,e,_⟩:=h;exact⟨_,e,fun _=>⟨by simp,by simp⟩⟩
 | ft kvs=>obtain⟨ob,xs,e,_⟩:=h;exact⟨_,e,fun _=>⟨by simp,by simp⟩⟩
theorem StR.mem(S:StR K H io st){a:Addr}(h:a∈io):∃ u,H a=some u/\∀ xs,u≠.tup xs/\∀ ob,u≠.frz ob (.tup xs):=by
 obtain⟨n,hn,e⟩:=List.getElem_of_mem h;have h1:io[n]?=some a:=by rw[List.getElem?_eq_getElem hn,e]
 have h2:n < st.length:=by rw[<-S.len];exact hn
 exact (S.ob n a _ h1 (List.getElem?_eq_getElem h2)).stands
theorem Ext.sqT(S:StR K H io st)(E:Ext io ka H H'):∀ a xs,H a=some (.tup xs)->H' a=some (.tup xs):=by
 intro a xs h;refine E.keep _ _ h fun m=>?_;obtain⟨u,e,q⟩:=S.mem m;rw[h] at e;exact (q xs).1 (Option.some.inj e).symm
theorem Ext.kp(S:StR K H io st)(E:Ext io ka H H'):Kp H H':=⟨E.sqT S,E.frz⟩
theorem Ext.refl:Ext io [] H H:=⟨fun _ _ h _=>h,fun _ h=>absurd h (by simp),fun _ _ _ h=>h⟩
theorem Ext.trans(S1:StR K H1 (io++ka) st)(E1:Ext io ka H H1)(E2:Ext (io++ka) kb H1 H2):Ext io (ka++kb) H H2 where
 keep:=fun b o h n=>E2.keep b o (E1.keep b o h n) fun m=>by
   rcases List.mem_append.mp m with m | m
   . exact n m
   . rw[E1.fresh b m] at h;cases h
 fresh:=fun b m=>by
   rcases List.mem_append.mp m with m | m
   . exact E1.fresh b m
   . have h1:=E2.fresh b m
     cases e:H b with
     | none=>rfl
     | some o =>
       by_cases hb:b∈io
       . obtain⟨u,e',_⟩:=S1.mem (List.mem_append_left _ hb);rw[e'] at h1;cases h1
       . rw[E1.keep b o e hb] at h1;cases h1
 frz:=fun b o u h=>E2.frz b o u (E1.frz b o u h)
theorem Ext.app(E:Ext io (ka++[]) H H'):Ext io ka H H':=by rw[List.append_nil] at E;exact E
theorem Rep.ext{v:V}{d:D}(S:StR K H io st)(E:Ext io ka H H')(h:Rep K H io v d):Rep K H' (io++ka) v d:=Rep.mono (E.kp S) h
theorem Reps.ext(S:StR K H io st)(E:Ext io ka H H')(h:Reps K H io xs ds):Reps K H' (io++ka) xs ds:=Reps.mono (E.kp S) h
theorem EnvR.ext{σ:St}{ρ:Rho}(h:EnvR K H io σ ρ)(S:StR K H io st)(E:Ext io ka H H'):EnvR K H' (io++ka) σ ρ :=
 ⟨h.len,fun i d e=>let ⟨v,q,r⟩:=h.at_ i d e;⟨v,q,r.ext S E⟩⟩
theorem EnvR.set{σ:St}{ρ:Rho}{v:V}{d:D}(i:Nat)(h:EnvR K H io σ ρ)(r:Rep K H io v d):EnvR K H io (σ.set i (some v)) (ρ.set i (some d)):=by
 refine⟨by rw[List.length_set,List.length_set];exact h.len,fun j e q=>?_⟩
 by_cases hij:i=j
 . subst hij;rw[List.getElem?_set] at q;rw[if_pos rfl] at q
   split at q
   . rename_i hl
     cases (Option.some.inj (Option.some.inj q))
     exact⟨v,by rw[List.getElem?_set,if_pos rfl,if_pos (by rw[h.len];exact hl)],r⟩
   . cases q
 . rw[List.getElem?_set_ne hij] at q;obtain⟨u,q',r'⟩:=h.at_ j e q;exact⟨u,by rw[List.getElem?_set_ne hij];exact q',r'⟩
theorem StR.nil(S:StR K H io st):StR K H (io++[]) st:=by rw[List.append_nil];exact S
theorem KR.mono{κ:Type}{ps:List (κ×V)}{kvs:List (κ×D)}(T:Kp H H')(h:KR κ K H io ps kvs):KR κ K H' (io++ka) ps kvs:=Paired.mapP h fun _ _ z=>⟨z.1,Rep.mono T z.2⟩
theorem OR.mono{a:Addr}{o:O}(T:Kp H H')(e:H' a=H a)(h:OR K H io a o):OR K H' (io++ka) a o:=by
 cases o with
 | lst ds=>obtain⟨xs,q,r⟩:=h;exact⟨xs,e.trans q,Reps.mono T r⟩
 | fz ds=>obtain⟨ob,xs,q,r⟩:=h;exact⟨ob,xs,e.trans q,Reps.mono T r⟩
 | dk kvs=>obtain⟨xs,q,r⟩:=h;exact⟨xs,e.trans q,KR.mono T r⟩
 | dt kvs=>obtain⟨xs,q,r⟩:=h;exact⟨xs,e.trans q,KR.mono T r⟩
 | fk kvs=>obtain⟨ob,xs,q,r⟩:=h;exact⟨ob,xs,e.trans q,KR.mono T r⟩
 | ft kvs=>obtain⟨ob,xs,q,r⟩:=h;exact⟨ob,xs,e.trans q,KR.mono T r⟩
theorem zhf{p:Addr}{o:HO}(S:StR K H io st)(hp:H p=none):Ext io [] H (upd H p o)/\StR K (upd H p o) (io++[]) st:=by
 have E:Ext io [] H (upd H p o):=⟨fun b u h _=>by rw[zav (zau h hp)];exact h,fun _ h=>absurd h (by simp),fun b u v h=>by rw[zav (zau h hp)];exact h⟩
 refine⟨E,?_⟩;refine⟨by rw[List.append_nil];exact S.len,by rw[List.append_nil];exact S.nd,fun n a ob h1 h2=>?_⟩;rw[List.append_nil] at h1;obtain⟨u,hu,_⟩:=(S.ob n a ob h1 h2).stands;exact OR.mono (E.kp S) (zav (zau hu hp)) (S.ob n a ob h1 h2)
theorem zi7{p:Addr}{o:HO}{ob:O}(S:StR K H io st)(hp:H p=none)(new:∀ H',Kp H H'->H' p=some o->OR K H' (io++[p]) p ob):Ext io [p] H (upd H p o)/\StR K (upd H p o) (io++[p]) (st++[ob]):=by
 have E:Ext io [p] H (upd H p o):=⟨fun b u h _=>by rw[zav (zau h hp)];exact h,fun b h=>by rw[List.mem_singleton.mp h];exact hp,fun b u v h=>by rw[zav (zau h hp)];exact h⟩
 have np:p ∉ io:=fun m=>by
   obtain⟨u,hu,_⟩:=S.mem m;rw[hp] at hu;cases hu
 refine⟨E,by simp[S.len],?_,fun n a ob' h1 h2=>?_⟩
 . rw[List.nodup_append];refine⟨S.nd,by simp,fun a ha b hb=>?_⟩;rw[List.mem_singleton.mp hb];rintro rfl;exact np ha
 . by_cases hn:n < io.length
   . rw[List.getElem?_append_left hn] at h1;rw[List.getElem?_append_left (by rw[<-S.len];exact hn)] at h2;obtain⟨u,hu,_⟩:=(S.ob n a ob' h1 h2).stands;exact OR.mono (E.kp S) (zav (zau hu hp)) (S.ob n a ob' h1 h2)
   . have hl:n < (io++[p]).length:=(List.getElem?_eq_some_iff.mp h1).1;rw[List.length_append,List.length_singleton] at hl;have e:n=io.length:=by omega
     subst e;rw[List.getElem?_append_right (Nat.le_refl _),Nat.sub_self] at h1;rw[S.len,List.getElem?_append_right (Nat.le_refl _),Nat.sub_self] at h2
     cases (Option.some.inj h1)
     cases (Option.some.inj h2)
     exact new _ (E.kp S) zbs
theorem zfK{p:Addr}{n:Nat}{o:HO}{ob old:O}(S:StR K H io st)(hn:io[n]?=some p)(ho:st[n]?=some old)(nf:∀ o u,H p≠some (.frz o u))(new:∀ H',Kp H H'->H' p=some o->OR K H' (io++[]) p ob):Ext io [] H (upd H p o)/\StR K (upd H p o) (io++[]) (st.set n ob):=by
 have hp:p∈io:=List.mem_of_getElem? hn;have E:Ext io [] H (upd H p o):=⟨fun b u h nb=>by rw[zav (fun e=>nb (by rw[e];exact hp))];exact h,fun b h=>absurd h (by simp),fun b u v h=>by
   by_cases hb:b=p
   . subst hb;exact absurd h (nf u v)
   . rw[zav hb];exact h⟩
 refine⟨E,by simp[S.len],by rw[List.append_nil];exact S.nd,fun m a ob' h1 h2=>?_⟩;rw[List.append_nil] at h1
 by_cases hm:m=n
 . subst hm;rw[hn] at h1
   cases (Option.some.inj h1)
   rw[List.getElem?_set,if_pos rfl] at h2
   split at h2
   . cases (Option.some.inj h2)
     exact new _ (E.kp S) zbs
   . cases h2
 . rw[List.getElem?_set_ne (fun e=>hm e.symm)] at h2;have hap:a≠p:=fun e=>by
     subst e;exact hm ((List.getElem?_inj (List.getElem?_eq_some_iff.mp h1).1 S.nd).mp (h1.trans hn.symm))
   exact OR.mono (E.kp S) (zav hap) (S.ob m a ob' h1 h2)
end
end L2.MP
set_option maxHeartbeats 4000000
namespace L2.MP
open PySem PySem.Spec PyProof.Rows
noncomputable abbrev ME:=Rho->Sto->Option (D×Sto)
noncomputable abbrev MT:=Rho->Sto->Option (Bool×Sto)
noncomputable abbrev MA:=Rho->Sto->Option (List D×Sto)
inductive Fl where
 | nx (ρ:Rho) | rt (d:D) | bk (ρ:Rho) | ct (ρ:Rho)
noncomputable abbrev MS:=Rho->Sto->Option (Fl×Sto)
noncomputable abbrev MG:=D->Rho->Sto->Option (Rho×Sto)
noncomputable abbrev MGs:=List D->Rho->Sto->Option (Rho×Sto)
noncomputable def Bh(K:PySem.W.Frag)(io:List Addr)(H:Hp)(st':Sto)(d:D)(Q:VK):Prop:=∀ v H' ka,Ext io ka H H'->StR K H' (io++ka) st'->Rep K H' (io++ka) v d->Q v H'
inductive tE (K:PySem.W.Frag) (m:ME) (σ:L2.St) (H:Hp) (Q:VK):Prop
 | mk (ρ:Rho) (st:Sto) (io:List Addr) (d:D) (st':Sto) (h1:EnvR K H io σ ρ) (h2:StR K H io st) (h3:m ρ st=some (d,st')) (h4:Bh K io H st' d Q)
inductive tT (K:PySem.W.Frag) (m:MT) (σ:L2.St) (H:Hp) (Q:Bool->Hp->Prop):Prop
 | mk (ρ:Rho) (st:Sto) (io:List Addr) (b:Bool) (st':Sto) (h1:EnvR K H io σ ρ) (h2:StR K H io st) (h3:m ρ st=some (b,st')) (h4:∀ H' ka,Ext io ka H H'->StR K H' (io++ka) st'->Q b H')
inductive tA (K:PySem.W.Frag) (m:MA) (σ:L2.St) (H:Hp) (Q:List V->Hp->Prop):Prop
 | mk (ρ:Rho) (st:Sto) (io:List Addr) (ds:List D) (st':Sto) (h1:EnvR K H io σ ρ) (h2:StR K H io st) (h3:m ρ st=some (ds,st')) (h4:∀ vs H' ka,Ext io ka H H'->StR K H' (io++ka) st'->Reps K H' (io++ka) vs ds->Q vs H')
noncomputable def tS(K:PySem.W.Frag)(m:MS):TS:=fun N σ H=>∃ ρ st io f st',EnvR K H io σ ρ/\StR K H io st/\m ρ st=some (f,st') /\
 match f with
 | .nx ρ'=>∀ σ' H' ka,Ext io ka H H'->StR K H' (io++ka) st'->EnvR K H' (io++ka) σ' ρ'->N.nx σ' H'
 | .bk ρ'=>∀ σ' H' ka,Ext io ka H H'->StR K H' (io++ka) st'->EnvR K H' (io++ka) σ' ρ'->N.bk σ' H'
 | .ct ρ'=>∀ σ' H' ka,Ext io ka H H'->StR K H' (io++ka) st'->EnvR K H' (io++ka) σ' ρ'->N.ct σ' H'
 | .rt d=>Bh K io H st' d N.rt
inductive tG (K:PySem.W.Frag) (m:MG) (v:V) (σ:L2.St) (H:Hp) (Q:L2.St->Hp->Prop):Prop
 | mk (d:D) (ρ:Rho) (st:Sto) (io:List Addr) (ρ':Rho) (st':Sto) (h0:Rep K H io v d) (h1:EnvR K H io σ ρ) (h2:StR K H io st) (h3:m d ρ st=some (ρ',st')) (h4:∀ σ' H' ka,Ext io ka H H'->StR K H' (io++ka) st'->EnvR K H' (io++ka) σ' ρ'->Q σ' H')
inductive tGs (K:PySem.W.Frag) (m:MGs) (vs:List V) (σ:L2.St) (H:Hp) (Q:L2.St->Hp->Prop):Prop
 | mk (ds:List D) (ρ:Rho) (st:Sto) (io:List Addr) (ρ':Rho) (st':Sto) (h0:Reps K H io vs ds) (h1:EnvR K H io σ ρ) (h2:StR K H io st) (h3:m ds ρ st=some (ρ',st')) (h4:∀ σ' H' ka,Ext io ka H H'->StR K H' (io++ka) st'->EnvR K H' (io++ka) σ' ρ'->Q σ' H')
noncomputable def SE(X:Cx)(e:Expr)(m:ME):Prop:=PE X e (tE X.K m)
noncomputable def SB(X:Cx)(e:Expr)(m:MT):Prop:=PT X e (tT X.K m)
noncomputable def SA(X:Cx)(es:List Expr)(m:MA):Prop:=PA X es (tA X.K m)
noncomputable def SS(X:Cx)(s:Stmt)(m:MS):Prop:=PS X s (tS X.K m)
noncomputable def SSs(X:Cx)(s:List Stmt)(m:MS):Prop:=PSs X s (tS X.K m)
noncomputable def SG(X:Cx)(e:Expr)(m:MG):Prop:=PG X e (tG X.K m)
noncomputable def SGs(X:Cx)(e:List Expr)(m:MGs):Prop:=PGs X e (tGs X.K m)
section
variable {X:Cx} {e a b c:Expr} {es:List Expr} {st1 st2:Stmt} {rest body orelse:List Stmt} {pos:Pos} {m ma mb mc:ME} {mt mu:MT} {mm:MA} {ms mq mr:MS} {mg:MG} {mgs:MGs}
theorem PE.imp{t u:TE}(h:PE X e t)(k:∀ σ H Q,u σ H Q->t σ H Q):PE X e u:=fun pins s σ H Q I q=>h pins s σ H Q I (k σ H Q q)
theorem PT.imp{t u:TT}(h:PT X e t)(k:∀ σ H Q,u σ H Q->t σ H Q):PT X e u:=fun pins s σ H Q I q=>h pins s σ H Q I (k σ H Q q)
theorem PA.imp{t u:TA}(h:PA X es t)(k:∀ σ H Q,u σ H Q->t σ H Q):PA X es u:=fun p pins s σ H Q I q=>h p pins s σ H Q I (k σ H Q q)
theorem PS.imp{t u:TS}(h:PS X st1 t)(k:∀ N σ H,u N σ H->t N σ H):PS X st1 u:=fun pins s σ H N I q=>h pins s σ H N I (k N σ H q)
theorem PSs.imp{t u:TS}(h:PSs X rest t)(k:∀ N σ H,u N σ H->t N σ H):PSs X rest u:=fun pins s σ H N I q=>h pins s σ H N I (k N σ H q)
theorem PG.imp{t u:TG}(h:PG X e t)(k:∀ v σ H Q,u v σ H Q->t v σ H Q):PG X e u:=fun pins s σ H v w Q I r q=>h pins s σ H v w Q I r (k v σ H Q q)
theorem PGs.imp{t u:TGs}(h:PGs X es t)(k:∀ v σ H Q,u v σ H Q->t v σ H Q):PGs X es u:=fun pins s σ H v w Q I r q=>h pins s σ H v w Q I r (k v σ H Q q)
theorem zae{α β:Type}{x:Option α}{f:α->Option β}{y:β}(h:x.bind f=some y):∃ z,x=some z/\f z=some y:=by
 cases x with
 | none=>cases h
 | some z=>exact⟨z,rfl,h⟩
variable {K:PySem.W.Frag} {H H1 H2:Hp} {io ka kb:List Addr} {st st':Sto}
theorem Bh.now{d:D}{Q:VK}{v:V}(h:Bh K io H st d Q)(S:StR K H io st)(r:Rep K H io v d):Q v H:=h v H [] Ext.refl S.nil (by rw[List.append_nil];exact r)
theorem Bh.on{d:D}{Q:VK}(h:Bh K io H st' d Q)(S1:StR K H1 (io++ka) st)(E:Ext io ka H H1):Bh K (io++ka) H1 st' d Q:=fun v H' kb E' S' r =>
 h v H' (ka++kb) (E.trans S1 E') (by rw[<-List.append_assoc];exact S') (by rw[<-List.append_assoc];exact r)
noncomputable def mVar(i:Nat):ME:=fun ρ st=>match ρ[i]? with
 | some (some d)=>some (d,st)
 | _=>none
theorem zab(i:Nat){x:Str}{pos:Pos}(hN:X.N[i]?=some x:=by rfl)(hv:Vis X.env.scope x:=by first | exact Or.inl rfl | exact Or.inr (Or.inl rfl) | exact Or.inr (Or.inr rfl))(hd:(x==("__debug__":Str))=false:=by decide)
   (hcd:(x==("__classdict__":Str))=false:=by decide):SE X (.Name x pos) (mVar i):=PE.imp (zqx hN hv hd hcd) <| by
 rintro σ H Q ⟨ρ,st,io,d,st',E,S,e,k⟩;unfold mVar at e
 split at e
 . rename_i d' he;cases e;obtain⟨v,hv,r⟩:=E.at_ i _ he;exact⟨v,hv,k.now S r⟩
 . cases e
noncomputable def mCon(d:D):ME:=fun _ st=>some (d,st)
theorem zaf{i j pos}:SE X (.Constant (.int i) j pos) (mCon (.int i)):=PE.imp zqE <| by
 rintro σ H Q ⟨ρ,st,io,d,st',E,S,e,k⟩
 cases e;exact k.now S rfl
theorem zl3{b j pos}:SE X (.Constant (.bool b) j pos) (mCon (.bl b)):=PE.imp zsm <| by
 rintro σ H Q ⟨ρ,st,io,d,st',E,S,e,k⟩
 cases e;exact k.now S rfl
theorem zdU{x j pos}:SE X (.Constant (.str x) j pos) (mCon (.str x)):=PE.imp zqz <| by
 rintro σ H Q ⟨ρ,st,io,d,st',E,S,e,k⟩
 cases e;exact k.now S rfl
theorem zqc{j pos}:SE X (.Constant .none j pos) (mCon .non):=PE.imp zqC <| by
 rintro σ H Q ⟨ρ,st,io,d,st',E,S,e,k⟩
 cases e;exact k.now S rfl
noncomputable abbrev G2:=D->D->Sto->Option (D×Sto)
inductive r2M (K:PySem.W.Frag) (g:G2) (x y:V) (H:Hp) (Q:VK):Prop
 | mk (dx dy:D) (st:Sto) (io:List Addr) (d:D) (st':Sto) (h0:Rep K H io x dx) (h1:Rep K H io y dy) (h2:StR K H io st) (h3:g dx dy st=some (d,st')) (h4:Bh K io H st' d Q)
noncomputable def OpM(X:Cx)(f:Value->Value->Sem Value)(g:G2):Prop:=OpR X f (r2M X.K g)
noncomputable def mBin(g:G2)(ma mb:ME):ME:=fun ρ st=>(ma ρ st).bind fun (x,s1)=>(mb ρ s1).bind fun (y,s2)=>g x y s2
theorem zdM{g:G2}{σ:L2.St}{H:Hp}{Q:VK}(h:tE K (mBin g ma mb) σ H Q):tOp (r2M K g) (tE K ma) (tE K mb) σ H Q:=by
 obtain⟨ρ,st,io,d,st',E,S,e,k⟩:=h;obtain⟨⟨x,s1⟩,e1,e⟩:=zae e;obtain⟨⟨y,s2⟩,e2,e3⟩:=zae e;refine⟨ρ,st,io,x,s1,E,S,e1,fun v1 H1 k1 X1 S1 R1=>?_⟩;refine⟨ρ,s1,io++k1,y,s2,E.ext S X1,S1,e2,fun v2 H2 k2 X2 S2 R2=>?_⟩;exact⟨x,y,s2,(io++k1)++k2,d,st',R1.ext S1 X2,R2,S2,e3,(k.on S1 X1).on S2 X2⟩
theorem zat{op:Operator}{g:G2}(ho:OpM X (binaryOp op) g)(ha:SE X a ma)(hb:SE X b mb):SE X (.BinOp a op b pos) (mBin g ma mb):=PE.imp (zsk ho ha hb) fun _ _ _ h=>zdM h
theorem zl1{op:CmpOp}{g:G2}(ho:OpM X (compareOp op) g)(ha:SE X a ma)(hb:SE X b mb)(hm:behindInMarks op b=false):SE X (.Compare a [op] [b] pos) (mBin g ma mb):=PE.imp (zoq ho ha hb hm) fun _ _ _ h=>zdM h
noncomputable def mTst(m:ME):MT:=fun ρ st=>(m ρ st).bind fun (x,s1)=>match x with
 | .bl b=>some (b,s1)
 | _=>none
theorem zj7{ρ:Rho}{b:Bool}(e:mTst m ρ st=some (b,st')):m ρ st=some (.bl b,st'):=by
 obtain⟨⟨x,s1⟩,e1,e⟩:=zae e;dsimp only at e
 split at e
 . cases e;exact e1
 . cases e
theorem zcW{σ:L2.St}{H:Hp}{Q:Bool->Hp->Prop}(h:tT K (mTst m) σ H Q):tE K m σ H fun x H'=>∃ b,x=.bl b/\Q b H':=by
 obtain⟨ρ,st,io,b,st',E,S,e,k⟩:=h;exact⟨ρ,st,io,_,st',E,S,zj7 e,fun v H' ka X' S' R'=>⟨b,R',k H' ka X' S'⟩⟩
theorem zbN{op:CmpOp}{g:G2}(ho:OpM X (compareOp op) g)(ha:SE X a ma)(hb:SE X b mb)(hm:behindInMarks op b=false):SB X (.Compare a [op] [b] pos) (mTst (mBin g ma mb)) :=
 PT.imp (zoe ho ha hb hm) fun σ H Q h=>zdM (zcW h)
theorem zrC(h:SE X a m)(he:∀ whole,isTrue a X.env whole=(do let v <-whole;standAt a.pos;holding [v] (truthy v)):=by intro _;rfl):SB X a (mTst m) :=
 PT.imp (ziT h he) fun σ H Q h=>by
   obtain⟨ρ,st,io,b,st',E,S,e,k⟩:=zcW h;refine⟨ρ,st,io,b,st',E,S,e,fun v H' ka X' S' R'=>?_⟩;obtain⟨c,hc,q⟩:=k v H' ka X' S' R';subst hc;exact⟨c,rfl,q⟩
noncomputable def zpF(m:MT):MT:=fun ρ st=>(m ρ st).map fun (b,s)=>(!b,s)
theorem zqg(h:SB X a mt):SB X (.UnaryOp .Not a pos) (zpF mt):=PT.imp (zqn h) <| by
 rintro σ H Q ⟨ρ,st,io,b,st',E,S,e,k⟩;unfold zpF at e
 cases e1:mt ρ st with
 | none=>rw[e1] at e;cases e
 | some p=>rw[e1] at e;cases e;exact⟨ρ,st,io,_,_,E,S,e1,fun H' ka X' S'=>k H' ka X' S'⟩
noncomputable def zfw(m n:MT):MT:=fun ρ st=>(m ρ st).bind fun (b,s)=>if b=true then n ρ s else some (false,s)
noncomputable def mOrT(m n:MT):MT:=fun ρ st=>(m ρ st).bind fun (b,s)=>if b=true then some (true,s) else n ρ s
noncomputable def SW(X:Cx)(e:Expr)(m:MT):Prop:=PW X e (tT X.K m)
theorem PW.imp{t u:TT}(h:PW X e t)(k:∀ σ H Q,u σ H Q->t σ H Q):PW X e u:=fun w pins s σ H Q I q=>h w pins s σ H Q I (k σ H Q q)
theorem SW.sb(h:SW X a mt):SB X a mt:=PW.pt h
theorem zer(ha:SB X a mt):SW X (.BoolOp .And [a] pos) mt:=pw_and1 ha
theorem znL(ha:SB X a mt):SW X (.BoolOp .Or [a] pos) mt:=pw_or1 ha
theorem zi3{n:MT}{σ:L2.St}{ρ:Rho}{Q:Bool->Hp->Prop}{b:Bool}{s1:Sto}(E:EnvR K H io σ ρ)(S:StR K H io st)(X1:Ext io ka H H1)(S1:StR K H1 (io++ka) s1)(e:n ρ s1=some (b,st'))(k:∀ H' ka,Ext io ka H H'->StR K H' (io++ka) st'->Q b H'):tT K n σ H1 Q :=
 ⟨ρ,s1,io++ka,b,st',E.ext S X1,S1,e,fun H' kb X' S'=>k H' (ka++kb) (X1.trans S1 X') (by rw[<-List.append_assoc];exact S')⟩
theorem zgo{rs:List Expr}(ha:SB X a mt)(hb:SW X (.BoolOp .And (b::rs) pos) mu):SW X (.BoolOp .And (a::b::rs) pos) (zfw mt mu):=PW.imp (pw_and ha hb) <| by
 rintro σ H Q ⟨ρ,st,io,v,st',E,S,e,k⟩;obtain⟨⟨x,s1⟩,e1,e⟩:=zae e;refine⟨ρ,st,io,x,s1,E,S,e1,fun H1 k1 X1 S1=>?_⟩
 cases x with
 | true=>rw[if_pos rfl];exact zi3 E S X1 S1 e k
 | false =>
   rw[if_neg (by decide)];have e':some (false,s1)=some (v,st'):=e;cases e';exact k H1 k1 X1 S1
theorem zrB{rs:List Expr}(ha:SB X a mt)(hb:SW X (.BoolOp .Or (b::rs) pos) mu):SW X (.BoolOp .Or (a::b::rs) pos) (mOrT mt mu):=PW.imp (pw_or ha hb) <| by
 rintro σ H Q ⟨ρ,st,io,v,st',E,S,e,k⟩;obtain⟨⟨x,s1⟩,e1,e⟩:=zae e;refine⟨ρ,st,io,x,s1,E,S,e1,fun H1 k1 X1 S1=>?_⟩
 cases x with
 | false=>rw[if_neg (by decide)];exact zi3 E S X1 S1 e k
 | true =>
   rw[if_pos rfl];have e':some (true,s1)=some (v,st'):=e;cases e';exact k H1 k1 X1 S1
noncomputable def zmT(m n:ME):ME:=fun ρ st=>(mTst m ρ st).bind fun (b,s)=>if b=true then n ρ s else some (.bl false,s)
noncomputable def zpE(m:ME):ME:=fun ρ st=>(mTst m ρ st).map fun (b,s)=>(.bl !b,s)
theorem zmB{n:ME}{σ:L2.St}{ρ:Rho}{Q:VK}{d:D}{s1:Sto}(E:EnvR K H io σ ρ)(S:StR K H io st)(X1:Ext io ka H H1)(S1:StR K H1 (io++ka) s1)(e:n ρ s1=some (d,st'))(k:Bh K io H st' d Q):tE K n σ H1 Q :=
 ⟨ρ,s1,io++ka,d,st',E.ext S X1,S1,e,k.on S1 X1⟩
theorem ziJ(ha:SE X a ma):SE X (.BoolOp .And [a] pos) ma:=zqA ha
theorem ziK{rs:List Expr}(ha:SE X a ma)(hb:SE X (.BoolOp .And (b::rs) pos) mb):SE X (.BoolOp .And (a::b::rs) pos) (zmT ma mb):=PE.imp (zqG ha hb) <| by
 rintro σ H Q ⟨ρ,st,io,v,st',E,S,e,k⟩;obtain⟨⟨x,s1⟩,e1,e⟩:=zae e;refine⟨ρ,st,io,.bl x,s1,E,S,zj7 e1,fun v1 H1 k1 X1 S1 R1=>⟨x,R1,?_⟩⟩
 cases x with
 | true=>rw[if_pos rfl];exact zmB E S X1 S1 e k
 | false =>
   rw[if_neg (by decide)];have e':some (D.bl false,s1)=some (v,st'):=e;cases e';exact k _ H1 k1 X1 S1 rfl
theorem zqb(ha:SE X a ma):SE X (.UnaryOp .Not a pos) (zpE ma):=PE.imp (zqB ha) <| by
 rintro σ H Q ⟨ρ,st,io,v,st',E,S,e,k⟩;unfold zpE at e
 cases e1:mTst ma ρ st with
 | none=>rw[e1] at e;cases e
 | some p =>
   rw[e1] at e;cases e;exact⟨ρ,st,io,_,_,E,S,zj7 e1,fun v1 H1 k1 X1 S1 R1=>⟨_,R1,k _ H1 k1 X1 S1 rfl⟩⟩
noncomputable def mIte(c:MT)(m n:ME):ME:=fun ρ st=>(c ρ st).bind fun (b,s)=>if b=true then m ρ s else n ρ s
theorem zqe(hc:SB X c mt)(ha:SE X a ma)(hb:SE X b mb):SE X (.IfExp c a b pos) (mIte mt ma mb):=PE.imp (zmq hc ha hb) <| by
 rintro σ H Q ⟨ρ,st,io,v,st',E,S,e,k⟩;obtain⟨⟨x,s1⟩,e1,e⟩:=zae e;refine⟨ρ,st,io,x,s1,E,S,e1,fun H1 k1 X1 S1=>?_⟩
 cases x with
 | true=>rw[if_pos rfl];exact zmB E S X1 S1 e k
 | false=>rw[if_neg (by decide)];exact zmB E S X1 S1 e k
end
end L2.MP
set_option maxHeartbeats 4000000
set_option linter.unusedVariables false
namespace L2.MP
open PySem PySem.Spec PyProof.Rows
section
variable {X:Cx} {e a b c:Expr} {es:List Expr} {st1 st2:Stmt} {rest body orelse:List Stmt} {pos:Pos} {m ma mb mc:ME} {mt mu:MT} {mm:MA} {ms mq mr:MS} {mg:MG} {mgs:MGs}
variable {K:PySem.W.Frag} {H H1 H2:Hp} {io ka kb:List Addr} {st st':Sto}
noncomputable def mNil:MA:=fun _ st=>some ([],st)
noncomputable def zad(m:ME)(mm:MA):MA:=fun ρ st=>(m ρ st).bind fun (x,s1)=>(mm ρ s1).bind fun (xs,s2)=>some (x::xs,s2)
theorem zai:SA X [] mNil:=PA.imp zot <| by
 rintro σ H Q ⟨ρ,st,io,ds,st',E,S,e,k⟩
 cases e;exact k [] H [] Ext.refl S.nil Reps.nil
theorem zaa(ha:SE X e m)(hr:SA X es mm)(hs:starEach (e::es) X.env=(false,eval e X.env)::starEach es X.env:=by rfl):SA X (e::es) (zad m mm):=PA.imp (ziX ha hr hs) <| by
 rintro σ H Q ⟨ρ,st,io,ds,st',E,S,e,k⟩;obtain⟨⟨x,s1⟩,e1,e⟩:=zae e;obtain⟨⟨xs,s2⟩,e2,e⟩:=zae e;cases e;refine⟨ρ,st,io,x,s1,E,S,e1,fun v1 H1 k1 X1 S1 R1=>⟨ρ,s1,io++k1,xs,_,E.ext S X1,S1,e2,fun vs H2 k2 X2 S2 R2=>?_⟩⟩;exact k _ H2 (k1++k2) (X1.trans S1 X2) (by rw[<-List.append_assoc];exact S2) (by rw[<-List.append_assoc];exact Reps.cons (R1.ext S1 X2) R2)
noncomputable def fits(n:Nat):Bool:=decide (n<=sizeLine)
noncomputable def mTup(mm:MA):ME:=fun ρ st=>(mm ρ st).bind fun (xs,s)=>if fits xs.length=true then some (.tup xs,s) else none
noncomputable def mLst(mm:MA):ME:=fun ρ st=>(mm ρ st).bind fun (xs,s)=>if fits xs.length=true then some (.ref s.length,s++[.lst xs]) else none
theorem zap{α:Type}{c:Prop}[Decidable c]{x:Option α}{y:α}(h:(if c then x else none)=some y):c/\x=some y:=by
 by_cases hc:c
 . rw[if_pos hc] at h;exact⟨hc,h⟩
 . rw[if_neg hc] at h;cases h
theorem Bh.tup{ds:List D}{vs:List V}{Q:VK}{p:Addr}(k:Bh K io H st (.tup ds) Q)(S:StR K H io st)(R:Reps K H io vs ds)(hp:H p=none):Q (.ref p) (upd H p (.tup vs)):=by
 obtain⟨E,S'⟩:=zhf (o:=.tup vs) S hp;refine k _ _ [] E S' ⟨p,vs,rfl,zbs,R.ext S E⟩
theorem getElem?_len{α:Type}(l:List α)(x:α):(l++[x])[l.length]?=some x:=by
 rw[List.getElem?_append_right (Nat.le_refl _),Nat.sub_self];rfl
theorem Bh.lst{ds:List D}{vs:List V}{Q:VK}{p:Addr}(k:Bh K io H (st++[.lst ds]) (.ref st.length) Q)(S:StR K H io st)(R:Reps K H io vs ds)(hp:H p=none):Q (.ref p) (upd H p (.lst vs)):=by
 obtain⟨E,S'⟩:=zi7 (o:=.lst vs) (ob:=.lst ds) S hp fun H' T e=>⟨vs,e,Reps.mono T R⟩
 exact k _ _ [p] E S' ⟨p,rfl,by rw[<-S.len];exact getElem?_len io p⟩
theorem zbk{x1}(h:SA X es mm):SE X (.Tuple es x1 pos) (mTup mm):=PE.imp (zqy h) <| by
 rintro σ H Q ⟨ρ,st,io,d,st',E,S,e,k⟩;obtain⟨⟨xs,s1⟩,e1,e⟩:=zae e;obtain⟨hf,e⟩:=zap e;cases e;refine⟨ρ,st,io,xs,_,E,S,e1,fun vs H1 k1 X1 S1 R1=>⟨by rw[R1.length];exact of_decide_eq_true hf,fun p hp=>(k.on S1 X1).tup S1 R1 hp⟩⟩
theorem zb7(h:SA X es mm):SE X (.List es pos) (mLst mm):=PE.imp (zqD h) <| by
 rintro σ H Q ⟨ρ,st,io,d,st',E,S,e,k⟩;obtain⟨⟨xs,s1⟩,e1,e⟩:=zae e;obtain⟨hf,e⟩:=zap e;cases e;refine⟨ρ,st,io,xs,_,E,S,e1,fun vs H1 k1 X1 S1 R1=>⟨by rw[R1.length];exact of_decide_eq_true hf,fun p hp=>(k.on S1 X1).lst S1 R1 hp⟩⟩
noncomputable abbrev GN:=List D->Sto->Option (D×Sto)
inductive rNM (K:PySem.W.Frag) (g:GN) (xs:List V) (H:Hp) (Q:VK):Prop
 | mk (ds:List D) (st:Sto) (io:List Addr) (d:D) (st':Sto) (h1:Reps K H io xs ds) (h2:StR K H io st) (h3:g ds st=some (d,st')) (h4:Bh K io H st' d Q)
noncomputable def zdt(X:Cx)(f:Value)(g:GN):Prop:=zj1 X f (rNM X.K g)
noncomputable def zar(g:GN)(mm:MA):ME:=fun ρ st=>(mm ρ st).bind fun (xs,s)=>g xs s
theorem zf3{g:GN}{σ:L2.St}{Q:VK}(h:tE K (zar g mm) σ H Q):tCB (rNM K g) (tA K mm) σ H Q:=by
 obtain⟨ρ,st,io,d,st',E,S,e,k⟩:=h;obtain⟨⟨xs,s1⟩,e1,e⟩:=zae e;exact⟨ρ,st,io,xs,s1,E,S,e1,fun vs H1 k1 X1 S1 R1=>⟨xs,s1,io++k1,d,st',R1,S1,e,k.on S1 X1⟩⟩
theorem zaI{x:Str}{p:Pos}{id:String}{g:GN}(hc:zdt X (.builtin id) g)(hg:Gl X x)(hm:X.mg x=none)(hv:bootBuiltins x=some (.builtin id))(ha:SA X (e::es) mm)(hn:x≠"__name__":=by decide)(hdb:(x==("__debug__":Str))=false:=by decide)
   (he:starEach (e::es) X.env=(false,eval e X.env)::starEach es X.env:=by rfl) (hpl:(backTo pos (starEach es X.env)).any (·.1)=false:=by rfl):SE X (.Call (.Name x p) (e::es) [] pos) (zar g mm) :=
 PE.imp (ziW hc hg hm hv ha hn hdb he hpl) fun _ _ _ h=>zf3 h
theorem zbr{x:Str}{p:Pos}{T:String}{g:GN}(hc:zdt X (.type T) g)(hg:Gl X x)(hm:X.mg x=none)(hv:bootBuiltins x=some (.type T))(ha:SA X (e::es) mm)(hn:x≠"__name__":=by decide)(hdb:(x==("__debug__":Str))=false:=by decide)
   (he:starEach (e::es) X.env=(false,eval e X.env)::starEach es X.env:=by rfl) (hpl:(backTo pos (starEach es X.env)).any (·.1)=false:=by rfl):SE X (.Call (.Name x p) (e::es) [] pos) (zar g mm) :=
 PE.imp (zku hc hg hm hv ha hn hdb he hpl) fun _ _ _ h=>zf3 h
noncomputable def spM(K:PySem.W.Frag)(n:Nat)(g:GN):Sp:=fun vs H Q _=>∃ ds st io d st',vs.length=n/\Reps K H io vs ds/\StR K H io st/\g ds st=some (d,st')/\Bh K io H st' d Q
theorem zn8{x:Str}{p:Pos}{k:Nat}{f:Addr}{fd:FuncData}{ps:List Str}{n:Nat}{g:GN}(F:FnOk X.prog X.w X.K X.mg X.base CX0 k f fd ps (spM X.K n g))(hr:Room k X.A)(hg:Gl X x)(hm:X.mg x=some (.ref f))(hk:PySem.W.keepIn X.K (.ref f)=true)(hb:Binds X.K fd ps [])
   (ha:SA X (e::es) mm) (hdb:(x==("__debug__":Str))=false:=by decide) (he:starEach (e::es) X.env=(false,eval e X.env)::starEach es X.env:=by rfl) (hpl:(backTo pos (starEach es X.env)).any (·.1)=false:=by rfl) (hn:(e::es).length=n:=by rfl)
   (hl:∀ ρ st xs s,mm ρ st=some (xs,s)->xs.length=n) :
   SE X (.Call (.Name x p) (e::es) [] pos) (zar g mm):=PE.imp (zor F hr hg hm hk hb .nil zsn ha hdb he hpl) <| by
 rintro σ H Q ⟨ρ,st,io,d,st',E,S,e,k⟩;obtain⟨⟨xs,s1⟩,e1,e⟩:=zae e;refine⟨ρ,st,io,xs,s1,E,S,e1,fun vs H1 k1 X1 S1 R1=>⟨xs,s1,io++k1,d,st',?_,?_,S1,e,k.on S1 X1⟩⟩
 . rw[List.append_nil,R1.length];exact hl _ _ _ _ e1
 . rw[List.append_nil];exact R1
theorem zmR{ρ:Rho}{st:Sto}{xs:List D}{s:Sto}(h:mNil ρ st=some (xs,s)):xs.length=0:=by cases h;rfl
theorem zkK{ρ:Rho}{st:Sto}{xs:List D}{s:Sto}{n:Nat}(hr:∀ ρ st xs s,mm ρ st=some (xs,s)->xs.length=n)(h:zad m mm ρ st=some (xs,s)):xs.length=n+1:=by
 obtain⟨⟨x,s1⟩,e1,e⟩:=zae h;obtain⟨⟨ys,s2⟩,e2,e⟩:=zae e;cases e;rw[List.length_cons,hr _ _ _ _ e2]
noncomputable def Wn(K:PySem.W.Frag)(io:List Addr)(H:Hp)(st':Sto)(N:Ends):Fl->Prop
 | .nx ρ'=>∀ σ' H' ka,Ext io ka H H'->StR K H' (io++ka) st'->EnvR K H' (io++ka) σ' ρ'->N.nx σ' H'
 | .bk ρ'=>∀ σ' H' ka,Ext io ka H H'->StR K H' (io++ka) st'->EnvR K H' (io++ka) σ' ρ'->N.bk σ' H'
 | .ct ρ'=>∀ σ' H' ka,Ext io ka H H'->StR K H' (io++ka) st'->EnvR K H' (io++ka) σ' ρ'->N.ct σ' H'
 | .rt d=>Bh K io H st' d N.rt
inductive tSi (K:PySem.W.Frag) (m:MS) (N:Ends) (σ:L2.St) (H:Hp):Prop
 | mk (ρ:Rho) (st:Sto) (io:List Addr) (f:Fl) (st':Sto) (h1:EnvR K H io σ ρ) (h2:StR K H io st) (h3:m ρ st=some (f,st')) (h4:Wn K io H st' N f)
theorem zcX{N:Ends}{σ:L2.St}{H:Hp}:tS K ms N σ H ↔ tSi K ms N σ H:=by
 constructor
 . rintro ⟨ρ,st,io,f,st',E,S,e,k⟩;exact⟨ρ,st,io,f,st',E,S,e,by cases f <;> exact k⟩
 . rintro ⟨ρ,st,io,f,st',E,S,e,k⟩;exact⟨ρ,st,io,f,st',E,S,e,by cases f <;> exact k⟩
theorem zfO{P:L2.St->Hp->Prop}{ρ':Rho}(h:∀ σ' H' ka,Ext io ka H H'->StR K H' (io++ka) st'->EnvR K H' (io++ka) σ' ρ'->P σ' H')(X1:Ext io ka H H1)(S1:StR K H1 (io++ka) st) :
   ∀ σ' H' kb,Ext (io++ka) kb H1 H'->StR K H' ((io++ka)++kb) st'->EnvR K H' ((io++ka)++kb) σ' ρ'->P σ' H':=fun σ' H' kb E' S' R' =>
 h σ' H' (ka++kb) (X1.trans S1 E') (by rw[<-List.append_assoc];exact S') (by rw[<-List.append_assoc];exact R')
theorem Wn.on{N:Ends}{f:Fl}(h:Wn K io H st' N f)(X1:Ext io ka H H1)(S1:StR K H1 (io++ka) st):Wn K (io++ka) H1 st' N f:=by
 cases f with
 | nx ρ'=>exact zfO h X1 S1
 | bk ρ'=>exact zfO h X1 S1
 | ct ρ'=>exact zfO h X1 S1
 | rt d=>exact Bh.on h S1 X1
theorem zlK{N:Ends}{σ:L2.St}{ρ:Rho}{f:Fl}(E:EnvR K H io σ ρ)(S:StR K H io st)(e:ms ρ st=some (f,st'))(w:Wn K io H st' N f):tS K ms N σ H:=zcX.mpr ⟨ρ,st,io,f,st',E,S,e,w⟩
theorem zpP{N:Ends}{σ:L2.St}{ρ:Rho}{f:Fl}{s1:Sto}(X1:Ext io ka H H1)(S1:StR K H1 (io++ka) s1)(E:EnvR K H1 (io++ka) σ ρ)(e:ms ρ s1=some (f,st'))(w:Wn K io H st' N f):tS K ms N σ H1 :=
 zlK E S1 e (w.on X1 S1)
noncomputable def zdK:MS:=fun ρ st=>some (.nx ρ,st)
theorem znR:SSs X [] zdK:=PSs.imp zoh fun N σ H h=>by
 obtain⟨ρ,st,io,f,st',E,S,e,w⟩:=zcX.mp h;cases e;exact w σ H [] Ext.refl S.nil (by rw[List.append_nil];exact E)
noncomputable def mSeq(m n:MS):MS:=fun ρ st=>(m ρ st).bind fun (f,s)=>match f with
 | .nx ρ1=>n ρ1 s
 | f=>some (f,s)
theorem zlQ(h1:SS X st1 ms)(h2:SSs X rest mq):SSs X (st1::rest) (mSeq ms mq):=PSs.imp (zme h1 h2) fun N σ H h=>by
 obtain⟨ρ,st,io,f,st',E,S,e,w⟩:=zcX.mp h;obtain⟨⟨f1,s1⟩,e1,e⟩:=zae e;refine zlK E S e1 ?_
 cases f1 with
 | nx ρ1=>exact fun σ' H' ka X' S' R'=>zpP X' S' R' e w
 | bk ρ1=>cases e;exact w
 | ct ρ1=>cases e;exact w
 | rt d=>cases e;exact w
theorem znQ(h1:SS X st1 ms):SSs X [st1] ms:=zog h1
noncomputable def mExp(m:ME):MS:=fun ρ st=>(m ρ st).map fun (_,s)=>(.nx ρ,s)
noncomputable def mRet(m:ME):MS:=fun ρ st=>(m ρ st).map fun (d,s)=>(.rt d,s)
theorem zah{α β:Type}{x:Option α}{f:α->β}{y:β}(h:x.map f=some y):∃ z,x=some z/\f z=y:=by
 cases x with
 | none=>cases h
 | some z=>exact⟨z,rfl,Option.some.inj h⟩
theorem zcE(he:SE X e m)(hs:swapsWith e none pos.line X.env=pure false:=by rfl):SS X (.Expr e pos) (mExp m):=PS.imp (zoi he hs) fun N σ H h=>by
 obtain⟨ρ,st,io,f,st',E,S,e,w⟩:=zcX.mp h;obtain⟨⟨d,s1⟩,e1,e⟩:=zah e;cases e;exact⟨ρ,st,io,d,_,E,S,e1,fun v H' ka X' S' R'=>w σ H' ka X' S' (E.ext S X')⟩
theorem za9(he:SE X e m):SS X (.Return (some e) pos) (mRet m):=PS.imp (zqp he) fun N σ H h=>by
 obtain⟨ρ,st,io,f,st',E,S,e,w⟩:=zcX.mp h;obtain⟨⟨d,s1⟩,e1,e⟩:=zah e;cases e;exact⟨ρ,st,io,d,_,E,S,e1,w⟩
noncomputable def mIf(c:MT)(m n:MS):MS:=fun ρ st=>(c ρ st).bind fun (b,s)=>if b=true then m ρ s else n ρ s
theorem zsb(hc:SB X c mt)(h1:SSs X body ms)(h2:SSs X orelse mq):SS X (.If c body orelse pos) (mIf mt ms mq):=PS.imp (zsi hc h1 h2) fun N σ H h=>by
 obtain⟨ρ,st,io,f,st',E,S,e,w⟩:=zcX.mp h;obtain⟨⟨x,s1⟩,e1,e⟩:=zae e;refine⟨ρ,st,io,x,s1,E,S,e1,fun H1 k1 X1 S1=>?_⟩
 cases x with
 | true=>rw[if_pos rfl];exact zpP X1 S1 (E.ext S X1) e w
 | false=>rw[if_neg (by decide)];exact zpP X1 S1 (E.ext S X1) e w
noncomputable def gNm(i:Nat):MG:=fun d ρ st=>some (ρ.set i (some d),st)
theorem zaD{i:Nat}{x:Str}(hN:X.N.Nodup)(hi:X.N[i]?=some x)(hx:Loc X.env.scope x)(hf:X.fn x=true\/X.env.scope.names.lookup x=some .local:=by first | exact .inl rfl | exact .inr rfl | assumption):SG X (.Name x pos) (gNm i) :=
 PG.imp (zoo hN hi hx hf) <| by
   rintro v σ H Q ⟨d,ρ,st,io,ρ',st',R,E,S,e,k⟩;cases e;exact k _ H [] Ext.refl S.nil (by rw[List.append_nil];exact E.set i R)
noncomputable def gN0:MGs:=fun ds ρ st=>match ds with
 | []=>some (ρ,st)
 | _=>none
noncomputable def gC(g:MG)(h:MGs):MGs:=fun ds ρ st=>match ds with
 | d::r=>(g d ρ st).bind fun (ρ1,s1)=>h r ρ1 s1
 | []=>none
theorem zdT:SGs X [] gN0:=PGs.imp zon <| by
 rintro v σ H Q ⟨ds,ρ,st,io,ρ',st',R,E,S,e,k⟩
 cases ds with
 | nil=>cases e;exact⟨R,k σ H [] Ext.refl S.nil (by rw[List.append_nil];exact E)⟩
 | cons d r=>cases e
theorem zbb(h1:SG X e mg)(h2:SGs X es mgs)(hs:(assignEach (e::es) X.env).map (·.2)=assign e X.env::(assignEach es X.env).map (·.2):=by rfl):SGs X (e::es) (gC mg mgs) :=
 PGs.imp (zmp h1 h2 hs) <| by
   rintro v σ H Q ⟨ds,ρ,st,io,ρ',st',R,E,S,e,k⟩
   cases ds with
   | nil=>cases e
   | cons d r =>
     obtain⟨y,ys,rfl,r1,rs⟩:=R;obtain⟨⟨ρ1,s1⟩,e1,e⟩:=zae e;refine⟨y,ys,rfl,d,ρ,st,io,ρ1,s1,r1,E,S,e1,fun σ1 H1 k1 X1 S1 E1=>?_⟩;exact⟨r,ρ1,s1,io++k1,ρ',st',rs.ext S X1,E1,S1,e,zfO k X1 S1⟩
noncomputable def gTp(n:Nat)(h:MGs):MG:=fun d ρ st=>match d with
 | .tup ds=>if ds.length=n then h ds ρ st else none
 | _=>none
theorem zgr{k:Nat}{n:Nat}(hc:X.calm=true)(h:SGs X es mgs)(hn:(assignEach es X.env).length=n:=by rfl)(hst:(assignEach es X.env).findIdx? (·.1)=none:=by rfl):SG X (.Tuple es k pos) (gTp n mgs) :=
 PG.imp (zqv hc h hn hst) <| by
   rintro v σ H Q ⟨d,ρ,st,io,ρ',st',R,E,S,e,k⟩
   cases d with
   | tup ds =>
     obtain⟨a,xs,rfl,hq,rs⟩:=R;obtain⟨hl,e⟩:=zap e;exact⟨a,xs,rfl,SqT.of hq,by rw[rs.length];exact hl,ds,ρ,st,io,ρ',st',rs,E,S,e,k⟩
   | _=>cases e
noncomputable abbrev G3:=D->D->D->Sto->Option Sto
inductive tSetM (K:PySem.W.Frag) (g:G3) (o i v:V) (H:Hp) (Q:Hp->Prop):Prop
 | mk (d1 d2 d3:D) (st:Sto) (io:List Addr) (st':Sto) (h0:Rep K H io o d1) (h1:Rep K H io i d2) (h2:Rep K H io v d3) (h3:StR K H io st) (h4:g d1 d2 d3 st=some st') (h5:∀ H' ka,Ext io ka H H'->StR K H' (io++ka) st'->Q H')
noncomputable def SetM(X:Cx)(g:G3):Prop:=PSet X (tSetM X.K g)
noncomputable def gSb(g:G3)(mo mi:ME):MG:=fun d ρ st=>(mo ρ st).bind fun (o,s1)=>(mi ρ s1).bind fun (i,s2)=>(g o i d s2).map fun s3=>(ρ,s3)
theorem zp9{o i:Expr}{mo mi:ME}{g:G3}(ho:SE X o mo)(hi:SE X i mi)(hs:SetM X g)
   (ha:∀ v,assign (.Subscript o i pos) X.env v=(do
     let ov <-holding [v] (eval o X.env)
     let iv <-holding [v,ov] (eval i X.env)
     standAt pos
     holding [v,ov,iv] (setItem ov iv v)
     release [v,ov,iv] []):=by intro _;rfl):SG X (.Subscript o i pos) (gSb g mo mi) :=
 PG.imp (zqw ho hi hs ha) <| by
   rintro v σ H Q ⟨d,ρ,st,io,ρ',st',R,E,S,e,k⟩;obtain⟨⟨x,s1⟩,e1,e⟩:=zae e;obtain⟨⟨y,s2⟩,e2,e⟩:=zae e;obtain⟨s3,e3,e⟩:=zah e;cases e;refine⟨ρ,st,io,x,s1,E,S,e1,fun v1 H1 k1 X1 S1 R1=>⟨ρ,s1,io++k1,y,s2,E.ext S X1,S1,e2,fun v2 H2 k2 X2 S2 R2=>?_⟩⟩;have X12:=X1.trans S1 X2;refine⟨x,y,d,s2,(io++k1)++k2,_,R1.ext S1 X2,R2,(R.ext S X1).ext S1 X2,S2,e3,fun H3 k3 X3 S3=>?_⟩;rw[List.append_assoc] at X3 S2;rw[List.append_assoc,List.append_assoc] at S3;refine k σ H3 ((k1++k2)++k3) (X12.trans S2 X3) (by simpa using S3) ?_;have E2:EnvR X.K H2 (io++(k1++k2)) σ ρ:=E.ext S X12;have:=E2.ext S2 X3;simpa using this
noncomputable def mAsg(m:ME)(g:MG):MS:=fun ρ st=>(m ρ st).bind fun (d,s1)=>(g d ρ s1).map fun (ρ',s2)=>(.nx ρ',s2)
theorem zk7{N:Ends}{σ:L2.St}{H:Hp}(h:tS K (mAsg m mg) N σ H):tAsg (tE K m) (tG K mg) N σ H:=by
 obtain⟨ρ,st,io,f,st',E,S,e,w⟩:=zcX.mp h;obtain⟨⟨x,s1⟩,e1,e⟩:=zae e;obtain⟨⟨ρ',s2⟩,e2,e⟩:=zah e;cases e;exact⟨ρ,st,io,x,s1,E,S,e1,fun v1 H1 k1 X1 S1 R1=>⟨x,ρ,s1,io++k1,ρ',_,R1,E.ext S X1,S1,e2,zfO w X1 S1⟩⟩
theorem zlS{tg:Expr}(he:SE X e m)(hg:SG X tg mg)(hs:swapsWithSole [tg] e pos.line X.env=pure false:=by rfl)(hw:swappedStores [tg] e X.env=pure none:=by rfl)
   (h1:(assignEach [tg] X.env).map (·.2)=[assign tg X.env]:=by rfl):SS X (.Assign [tg] e pos) (mAsg m mg):=PS.imp (zqs he hg hs hw h1) fun _ _ _ h=>zk7 h
theorem zaH{i:Nat}{x:Str}{pos':Pos}(hN:X.N.Nodup)(hi:X.N[i]?=some x)(hx:Loc X.env.scope x)(he:SE X e m)(hs:swapsWith e (some (.Name x pos')) pos.line X.env=pure false:=by rfl)(hf:X.fn x=true\/X.env.scope.names.lookup x=some .local:=by first | exact .inl rfl | exact .inr rfl | assumption) :
   SS X (.Assign [.Name x pos'] e pos) (mAsg m (gNm i)):=PS.imp (zqo hN hi hx he hs hf) fun N σ H h=>by
 obtain⟨ρ,st,io,f,st',E,S,e,w⟩:=zcX.mp h;obtain⟨⟨x,s1⟩,e1,e⟩:=zae e;obtain⟨⟨ρ',s2⟩,e2,e⟩:=zah e;cases e;cases e2;exact⟨ρ,st,io,x,_,E,S,e1,fun v1 H1 k1 X1 S1 R1=>w _ H1 k1 X1 S1 ((E.ext S X1).set i R1)⟩
structure Wk where
 ds:List D
 g:List (Nat×List D)
noncomputable def stays(W:Wk)(st:Sto):Prop:=∀ p,p∈W.g->st[p.1]?=some (.lst p.2)\/st[p.1]?=some (.fz p.2)
structure ItOk(K:PySem.W.Frag)(H0:Hp)(io:List Addr)(W:Wk)(J:It):Prop where
 go:∀ i d H ka st,W.ds[i]?=some d->Ext io ka H0 H->StR K H (io++ka) st->stays W st->J.go i H/\∀ x H',J.yld i H x H'->Ext (io++ka) [] H H'/\StR K H' (io++ka) st/\Rep K H' (io++ka) x d
 stop:∀ H ka st,Ext io ka H0 H->StR K H (io++ka) st->stays W st->J.stop W.ds.length H
 stop':∀ H ka st i,W.ds.length<=i->Ext io ka H0 H->StR K H (io++ka) st->stays W st->J.stop i H
noncomputable abbrev MI:=Rho->Sto->Option (Wk×Sto)
inductive tI (K:PySem.W.Frag) (m:MI) (σ:L2.St) (H:Hp) (R:It->Hp->Prop):Prop
 | mk (ρ:Rho) (st:Sto) (io:List Addr) (W:Wk) (st':Sto) (h1:EnvR K H io σ ρ) (h2:StR K H io st) (h3:m ρ st=some (W,st')) (h4:∀ J H' ka,Ext io ka H H'->StR K H' (io++ka) st'->ItOk K H' (io++ka) W J->R J H')
noncomputable def SI(X:Cx)(tg iter:Expr)(m:MI):Prop:=PI X tg iter (tI X.K m)
theorem PI.imp{tg iter:Expr}{t u:TI}(h:PI X tg iter t)(k:∀ σ H R,u σ H R->t σ H R):PI X tg iter u:=fun pins s σ H R I q=>h pins s σ H R I (k σ H R q)
end
end L2.MP
set_option maxHeartbeats 4000000
namespace L2.MP
open PySem PySem.Spec PyProof.Rows
mutual
noncomputable def D.eqb:D->D->Bool
 | .non,.non=>true
 | .bl a,.bl b=>a==b
 | .int a,.int b=>decide (a=b)
 | .str a,.str b=>decide (a=b)
 | .tup a,.tup b=>D.eqbs a b
 | .ref a,.ref b=>decide (a=b)
 | .kl a,.kl b=>D.eqbs a b
 | _,_=>false
noncomputable def D.eqbs:List D->List D->Bool
 | [],[]=>true
 | a::as,b::bs=>D.eqb a b&&D.eqbs as bs
 | _,_=>false
end
mutual
theorem D.eqb_refl:∀ a:D,D.eqb a a=true
 | .non=>rfl
 | .bl a=>by simp[D.eqb]
 | .int a=>by simp[D.eqb]
 | .str a=>by simp[D.eqb]
 | .tup a=>by rw[D.eqb];exact D.eqbs_refl a
 | .ref a=>by simp[D.eqb]
 | .kl a=>by rw[D.eqb];exact D.eqbs_refl a
theorem D.eqbs_refl:∀ a:List D,D.eqbs a a=true
 | []=>rfl
 | a::as=>by rw[D.eqbs,D.eqb_refl a,D.eqbs_refl as];rfl
end
mutual
theorem D.eq_of:∀ {a b:D},D.eqb a b=true->a=b
 | .non,b,h=>by cases b <;> simp[D.eqb] at h ⊢
 | .bl a,b,h=>by cases b <;> simp[D.eqb] at h ⊢;exact h
 | .int a,b,h=>by cases b <;> simp[D.eqb] at h ⊢;exact h
 | .str a,b,h=>by cases b <;> simp[D.eqb] at h ⊢;exact h
 | .tup a,.tup b,h=>by rw[D.eqb] at h;rw[D.eqs_of h]
 | .tup a,.non,h=>by simp[D.eqb] at h
 | .tup a,.bl _,h=>by simp[D.eqb] at h
 | .tup a,.int _,h=>by simp[D.eqb] at h
 | .tup a,.str _,h=>by simp[D.eqb] at h
 | .tup a,.ref _,h=>by simp[D.eqb] at h
 | .tup a,.kl _,h=>by simp[D.eqb] at h
 | .kl a,.kl b,h=>by rw[D.eqb] at h;rw[D.eqs_of h]
 | .kl a,.non,h=>by simp[D.eqb] at h
 | .kl a,.bl _,h=>by simp[D.eqb] at h
 | .kl a,.int _,h=>by simp[D.eqb] at h
 | .kl a,.str _,h=>by simp[D.eqb] at h
 | .kl a,.ref _,h=>by simp[D.eqb] at h
 | .kl a,.tup _,h=>by simp[D.eqb] at h
 | .ref a,b,h=>by cases b <;> simp[D.eqb] at h ⊢;exact h
theorem D.eqs_of:∀ {a b:List D},D.eqbs a b=true->a=b
 | [],[],_=>rfl
 | [],_::_,h=>by simp[D.eqbs] at h
 | _::_,[],h=>by simp[D.eqbs] at h
 | a::as,b::bs,h=>by
   rw[D.eqbs,Bool.and_eq_true] at h;rw[D.eq_of h.1,D.eqs_of h.2]
end
noncomputable instance:DecidableEq D:=fun a b=>if h:D.eqb a b=true then .isTrue (D.eq_of h) else .isFalse fun e=>h (by rw[e];exact D.eqb_refl b)
noncomputable def zjr(st:Sto)(n:Nat)(ds:List D):Bool:=match st[n]? with
 | some (.lst xs)=>D.eqbs xs ds
 | some (.fz xs)=>D.eqbs xs ds
 | _=>false
theorem zkT{st:Sto}{n:Nat}{ds:List D}(h:zjr st n ds=true):st[n]?=some (.lst ds)\/st[n]?=some (.fz ds):=by
 unfold zjr at h
 split at h
 . rename_i xs e;rw[D.eqs_of h] at e;exact .inl e
 . rename_i xs e;rw[D.eqs_of h] at e;exact .inr e
 . cases h
theorem zjq{st:Sto}{n:Nat}{ds:List D}(h:st[n]?=some (.lst ds)):zjr st n ds=true:=by unfold zjr;rw[h];exact D.eqbs_refl ds
section
variable {X:Cx} {e a b c:Expr} {es:List Expr} {st1 st2:Stmt} {rest body orelse:List Stmt} {pos:Pos} {m ma mb mc:ME} {mt mu:MT} {mm:MA} {ms mq mr:MS} {mg:MG} {mgs:MGs} {mi:MI}
variable {K:PySem.W.Frag} {H H1 H2:Hp} {io ka kb:List Addr} {st st':Sto}
noncomputable def walked(W:Wk)(st:Sto):Bool:=W.g.all fun p=>zjr st p.1 p.2
theorem zcV{W:Wk}(h:walked W st=true):stays W st:=fun p hp=>zkT (List.all_eq_true.mp h p hp)
noncomputable def zje(W:Wk)(g:MG)(m:MS):List D->Rho->Sto->Option (Fl×Sto)
 | [],ρ,st=>if walked W st=true then some (.nx ρ,st) else none
 | d::ds,ρ,st=>if walked W st=true then (g d ρ st).bind fun (ρ1,s1)=>(m ρ1 s1).bind fun (f,s2)=>match f with
   | .nx ρ2=>zje W g m ds ρ2 s2
   | .ct ρ2=>zje W g m ds ρ2 s2
   | .bk ρ2=>some (.nx ρ2,s2)
   | .rt d=>some (.rt d,s2) else none
noncomputable def mFor(mi:MI)(g:MG)(m:MS):MS:=fun ρ st=>(mi ρ st).bind fun (W,s)=>zje W g m W.ds ρ s
theorem zpX{tg iter:Expr}(hp:PassesOwn (model X.prog X.w) X.A X.env X.xe)(hc:X.calm=true)(hi:SI X tg iter mi)(hg:SG X tg mg)(hb:SSs X body ms)
   (hs:∀ x,foldedSetIterable iter X.env x=pure x:=by intro _;rfl):SS X (.For tg iter body [] pos) (mFor mi mg ms):=PS.imp (zqr hp hc hi hg hb hs) fun N σ H h=>by
 obtain⟨ρ,st,io,f,st',E,S,e,w⟩:=zcX.mp h;obtain⟨⟨W,s1⟩,e1,e⟩:=zae e;refine⟨ρ,st,io,W,s1,E,S,e1,fun J H1 k1 X1 S1 IO=>?_⟩;refine⟨fun i n σ2 H2=>n=W.ds.length - i/\∃ ρ2 s2 k2,Ext (io++k1) k2 H1 H2/\StR X.K H2 ((io++k1)++k2) s2/\EnvR X.K H2 ((io++k1)++k2) σ2 ρ2/\zje W mg ms (W.ds.drop i) ρ2 s2=some (f,st'),
   ⟨_,rfl,ρ,s1,[],Ext.refl,by rw[List.append_nil];exact S1,by rw[List.append_nil];exact E.ext S X1,by rw[List.drop_zero];exact e⟩,?_⟩
 rintro i n σ2 H2 ⟨rfl,ρ2,s2,k2,X2,S2,E2,e2⟩;have w2:Wn X.K ((io++k1)++k2) H2 st' N f:=(w.on X1 S1).on X2 S2
 cases hd:W.ds[i]? with
 | none =>
   have hl:W.ds.length<=i:=List.getElem?_eq_none_iff.mp hd;rw[List.drop_eq_nil_of_le hl] at e2;obtain⟨hw,e2⟩:=zap e2;cases e2;refine .inl ⟨?_,w2 σ2 H2 [] Ext.refl S2.nil (by rw[List.append_nil];exact E2)⟩
   -- the end may lie behind
   by_cases hi:i=W.ds.length
   . rw[hi];exact IO.stop H2 k2 _ X2 S2 (zcV hw)
   . exact IO.stop' H2 k2 _ i hl X2 S2 (zcV hw)
 | some d =>
   have hl:i < W.ds.length:=(List.getElem?_eq_some_iff.mp hd).1;have hdr:W.ds.drop i=d::W.ds.drop (i+1):=by
     rw[List.drop_eq_getElem_cons hl,(List.getElem?_eq_some_iff.mp hd).2]
   rw[hdr] at e2;obtain⟨hw,e2⟩:=zap e2;obtain⟨⟨ρ3,s3⟩,e3,e2⟩:=zae e2;obtain⟨⟨f4,s4⟩,e4,e2⟩:=zae e2;obtain⟨go,yl⟩:=IO.go i d H2 k2 s2 hd X2 S2 (zcV hw);refine .inr ⟨go,fun σ5 H5=>∃ ρ5 s5 k5,Ext (io++k1) k5 H1 H5/\StR X.K H5 ((io++k1)++k5) s5/\EnvR X.K H5 ((io++k1)++k5) σ5 ρ5/\zje W mg ms (W.ds.drop (i+1)) ρ5 s5=some (f,st'),
     fun σ5 H5 h5=>⟨W.ds.length - (i+1),by omega,rfl,h5⟩,fun x H' y=>?_⟩
   obtain⟨X3,S3,R3⟩:=yl x H' y;have X23:Ext (io++k1) k2 H1 H':=(X2.trans S2 X3).app;refine⟨d,ρ2,s2,(io++k1)++k2,ρ3,s3,R3,?_,S3,e3,fun σ6 H6 k6 X6 S6 E6=>?_⟩
   . have:=E2.ext S2 X3;rw[List.append_nil] at this;exact this
   . refine zlK E6 S6 e4 ?_;have X26:=X23.trans S3 X6;have S6':StR X.K H6 ((io++k1)++(k2++k6)) s3:=by rw[<-List.append_assoc];exact S6
     have fin:∀ {ρ7:Rho},zje W mg ms (W.ds.drop (i+1)) ρ7 s4=some (f,st')->∀ σ7 H7 k7,Ext ((io++k1)++k2++k6) k7 H6 H7->StR X.K H7 ((io++k1)++k2++k6++k7) s4->EnvR X.K H7 ((io++k1)++k2++k6++k7) σ7 ρ7 ->
         ∃ ρ5 s5 k5,Ext (io++k1) k5 H1 H7/\StR X.K H7 ((io++k1)++k5) s5/\EnvR X.K H7 ((io++k1)++k5) σ7 ρ5/\zje W mg ms (W.ds.drop (i+1)) ρ5 s5=some (f,st'):=by
       intro ρ7 e7 σ7 H7 k7 X7 S7 E7;rw[List.append_assoc (io++k1)] at X7;rw[List.append_assoc (io++k1),List.append_assoc (io++k1)] at S7 E7;exact⟨ρ7,s4,(k2++k6)++k7,X26.trans S6' X7,S7,E7,e7⟩
     cases f4 with
     | nx ρ7=>exact fin e2
     | ct ρ7=>exact fin e2
     | bk ρ7 =>
       cases e2;exact ((w.on X1 S1).on X23 S3).on X6 S6
     | rt dd =>
       cases e2;exact ((w.on X1 S1).on X23 S3).on X6 S6
end
end L2.MP
set_option maxHeartbeats 4000000
namespace L2.MP
open PySem PySem.Spec PyProof.Rows
section
variable {X:Cx} {e a b c:Expr} {es:List Expr} {st1 st2:Stmt} {rest body orelse:List Stmt} {pos:Pos} {m ma mb mc:ME} {mt mu:MT} {mm:MA} {ms mq mr:MS} {mg:MG} {mgs:MGs} {mi:MI}
variable {K:PySem.W.Frag} {H H1 H2:Hp} {io ka kb:List Addr} {st st':Sto}
theorem zfk{ρ:Rho}{x:D}{xs:List D}{s s1 s2:Sto}(h1:m ρ s=some (x,s1))(h2:mm ρ s1=some (xs,s2)):zad m mm ρ s=some (x::xs,s2):=by
 unfold zad;rw[h1];show Option.bind (mm ρ s1) _=_;rw[h2];rfl
noncomputable def zbu(st:Sto)(n:Nat):Option (List D):=match st[n]? with
 | some (.lst ds)=>some ds
 | some (.fz ds)=>some ds
 | _=>none
theorem za7{n:Nat}{p:Addr}{ds:List D}(S:StR K H io st)(hn:io[n]?=some p)(h:zbu st n=some ds):∃ xs,SqL K H p xs/\Reps K H io xs ds:=by
 unfold zbu at h
 split at h
 . rename_i o he;cases h;obtain⟨xs,e,r⟩:=S.ob n p _ hn he;exact⟨xs,SqL.of e,r⟩
 . rename_i o he;cases h;obtain⟨ob,xs,e,r⟩:=S.ob n p _ hn he;exact⟨xs,.inl (.inr ⟨ob,e⟩),r⟩
 . cases h
theorem zdo{n:Nat}{ds:List D}{W:Wk}(hm:(n,ds)∈W.g)(h:stays W st):zbu st n=some ds:=by
 unfold zbu
 rcases h _ hm with h | h
 . have h:st[n]?=some (.lst ds):=h;rw[h]
 . have h:st[n]?=some (.fz ds):=h;rw[h]
noncomputable def mWL(m:ME):MI:=fun ρ st=>(m ρ st).bind fun (d,s)=>match d with
 | .ref n=>(zbu s n).map fun ds=>(⟨ds,[(n,ds)]⟩,s)
 | _=>none
noncomputable def mWT(m:ME):MI:=fun ρ st=>(m ρ st).bind fun (d,s)=>match d with
 | .tup ds=>some (⟨ds,[]⟩,s)
 | _=>none
theorem zbl{io ka:List Addr}{n:Nat}{p:Addr}(h:io[n]?=some p):(io++ka)[n]?=some p:=by
 rw[List.getElem?_append_left (List.getElem?_eq_some_iff.mp h).1];exact h
theorem zrd{n:Nat}{p:Addr}{ds:List D}(hn:io[n]?=some p):ItOk K H io ⟨ds,[(n,ds)]⟩ (Itl K p) where
 go:=fun i d H1 k1 s hd X1 S1 hs=>by
   obtain⟨xs,hx,r⟩:=za7 S1 (zbl hn) (zdo List.mem_cons_self hs);obtain⟨v,hv,rv⟩:=r.get hd;refine⟨⟨xs,v,hx,hv⟩,fun x H' y=>?_⟩;obtain⟨rfl,y⟩:=y;have e:=y xs hx;rw[hv] at e;cases e;exact⟨Ext.refl,S1,rv⟩
 stop:=fun H1 k1 s X1 S1 hs=>by
   obtain⟨xs,hx,r⟩:=za7 S1 (zbl hn) (zdo List.mem_cons_self hs);exact⟨xs,hx,by rw[r.length];exact Nat.le_refl _⟩
 stop':=fun H1 k1 s i hi X1 S1 hs=>by
   obtain⟨xs,hx,r⟩:=za7 S1 (zbl hn) (zdo List.mem_cons_self hs);exact⟨xs,hx,by rw[r.length];exact hi⟩
theorem znZ{tg l:Expr}(hl:SE X l m):SI X tg l (mWL m):=PI.imp (zom hl) <| by
 rintro σ H R ⟨ρ,st,io,W,st',E,S,e,k⟩;obtain⟨⟨d,s1⟩,e1,e⟩:=zae e;dsimp only at e
 split at e
 . rename_i n;obtain⟨ds,e2,e⟩:=zah e;cases e;refine⟨ρ,st,io,_,_,E,S,e1,fun v H1 k1 X1 S1 R1=>?_⟩;obtain⟨p,rfl,hn⟩:=R1;obtain⟨xs,hx,r⟩:=za7 S1 hn e2;exact⟨p,rfl,⟨xs,hx⟩,k _ H1 k1 X1 S1 (zrd hn)⟩
 . cases e
theorem zrb{st:Sto}{p:Addr}{xs:List V}{ds:List D}(S:StR K H io st)(hp:H p=some (.tup xs))(r:Reps K H io xs ds):ItOk K H io ⟨ds,[]⟩ (Itt K p) where
 go:=fun i d H1 k1 s hd X1 S1 hs=>by
   obtain⟨v,hv,rv⟩:=(r.ext S X1).get hd;have hx:SqT K H1 p xs:=SqT.of (X1.sqT S p xs hp);refine⟨⟨xs,v,hx,hv⟩,fun x H' y=>?_⟩;obtain⟨rfl,y⟩:=y;have e:=y xs hx;rw[hv] at e;cases e;exact⟨Ext.refl,S1,rv⟩
 stop:=fun H1 k1 s X1 S1 hs=>⟨xs,SqT.of (X1.sqT S p xs hp),by rw[r.length];exact Nat.le_refl _⟩
 stop':=fun H1 k1 s i hi X1 S1 hs=>⟨xs,SqT.of (X1.sqT S p xs hp),by rw[r.length];exact hi⟩
theorem zp7{tg l:Expr}(hl:SE X l m):SI X tg l (mWT m):=PI.imp (zqt hl) <| by
 rintro σ H R ⟨ρ,st,io,W,st',E,S,e,k⟩;obtain⟨⟨d,s1⟩,e1,e⟩:=zae e;dsimp only at e
 split at e
 . rename_i ds;cases e;refine⟨ρ,st,io,_,_,E,S,e1,fun v H1 k1 X1 S1 R1=>?_⟩;obtain⟨p,xs,rfl,hp,r⟩:=R1;exact⟨p,rfl,⟨xs,SqT.of hp⟩,k _ H1 k1 X1 S1 (zrb S1 hp r)⟩
 . cases e
noncomputable def run(lo:Int)(n:Nat):List D:=(List.range n).map fun (k:Nat)=>D.int (lo+(k:Int))
theorem zca(lo:Int)(n:Nat):(run lo n).length=n:=by unfold run;rw[List.length_map,List.length_range]
theorem run_get{lo:Int}{n i:Nat}{d:D}(h:(run lo n)[i]?=some d):i < n/\d=.int (lo+(i:Int)):=by
 have hi:i < n:=by
   have q:=(List.getElem?_eq_some_iff.mp h).1
   rwa [zca] at q
 unfold run at h;rw[List.getElem?_map,List.getElem?_range hi] at h;exact⟨hi,(Option.some.inj h).symm⟩
theorem zrc(lo:Int)(n:Nat):ItOk K H io ⟨run lo n,[]⟩ (Itr lo n) where
 go:=fun i d H1 k1 s hd X1 S1 hs=>by
   obtain⟨hi,rfl⟩:=run_get hd;refine⟨hi,fun x H' y=>?_⟩;obtain⟨rfl,rfl⟩:=y;exact⟨Ext.refl,S1,rfl⟩
 stop:=fun H1 k1 s X1 S1 hs=>by
   show n<=_;rw[zca];exact Nat.le_refl _
 stop':=fun H1 k1 s i hi X1 S1 hs=>by
   show n<=i;have hi:(run lo n).length<=i:=hi
   rwa [zca] at hi
noncomputable def small(j:Int):Bool:=decide (-(2 ^ 62)<=j)&&decide (j < 2 ^ 62)
theorem ziC{j:Int}(h:small j=true):-(2 ^ 62)<=j/\j < 2 ^ 62:=by
 unfold small at h;rw[Bool.and_eq_true] at h;exact⟨of_decide_eq_true h.1,of_decide_eq_true h.2⟩
noncomputable def mR1(m:ME):MI:=fun ρ st=>(m ρ st).bind fun (d,s)=>match d with
 | .int j=>if small j=true then some (⟨run 0 j.toNat,[]⟩,s) else none
 | _=>none
theorem zbe{tg a:Expr}{p pos:Pos}(hg:Gl X "range")(hm:X.mg "range"=none)(ha:SE X a m)(hs:starEach [a] X.env=[(false,eval a X.env)]:=by rfl):SI X tg (.Call (.Name "range" p) [a] [] pos) (mR1 m) :=
 PI.imp (zkt hg hm (zaa ha zai hs) hs) <| by
   rintro σ H R ⟨ρ,st,io,W,st',E,S,e,k⟩;obtain⟨⟨d,s1⟩,e1,e⟩:=zae e;dsimp only at e
   split at e
   . rename_i j;obtain⟨hj,e⟩:=zap e;cases e;refine⟨ρ,st,io,[.int j],_,E,S,(zfk e1 rfl),fun vs H1 k1 X1 S1 R1=>?_⟩;obtain⟨v,rfl,rfl⟩:=R1.one;exact⟨j,rfl,(ziC hj).1,(ziC hj).2,k _ H1 k1 X1 S1 (zrc 0 _)⟩
   . cases e
end
noncomputable def rho(n:Nat)(ds:List D):Rho:=ds.map some++List.replicate (n - ds.length) none
noncomputable def fnM(n:Nat)(m:MS):GN:=fun ds st=>(m (rho n ds) st).bind fun (f,s)=>match f with
 | .rt d=>some (d,s)
 | .nx _=>some (.non,s)
 | _=>none
theorem zkW{K:PySem.W.Frag}{H:Hp}{io:List Addr}{N:List Str}{vs:List V}{ds:List D}(R:Reps K H io vs ds):EnvR K H io (start N vs) (rho N.length ds):=by
 have hl:=R.length;refine⟨by unfold start rho;simp[hl],fun i d h=>?_⟩;unfold rho at h;unfold start
 by_cases hi:i < ds.length
 . rw[List.getElem?_append_left (by simpa using hi),List.getElem?_map] at h
   cases e:ds[i]? with
   | none=>rw[e] at h;cases h
   | some d' =>
     rw[e] at h
     cases (Option.some.inj (Option.some.inj h))
     obtain⟨v,hv,r⟩:=R.get e;exact⟨v,by rw[List.getElem?_append_left (by simpa[hl] using hi),List.getElem?_map,hv];rfl,r⟩
 . rw[List.getElem?_append_right (by simpa using hi),List.getElem?_replicate] at h
   split at h <;> cases h
section
variable {P:Program} {w:World} {K:PySem.W.Frag} {mg:Str->Option Value} {base:Heap}
theorem fn_m{x qual:Str}{st:Stmt}{f:Addr}{fd:FuncData}{N ps:List Str}{k:Nat}{m:MS}(F:Fun K x qual st f fd)(S:FnScope N ps (zaq st))
   (hbody:∀ (cdv:Value) (A:Around) (outer:List Env) (s:Shared) (H:Hp) (E:XK),Room k (A.deeper (envOfC qual (zaq st) s.heap.objs.size f cdv)) ->
     SSs (cxOf CX0 P w K mg base N qual (zaq st) f cdv A outer s H E).nox (zcG st) m):FnOk P w K mg base CX0 (k+1) f fd ps (spM K ps.length (fnM N.length m)):=by
 refine F.ok S (fun vs H Q E ⟨_,_,_,_,_,h,_⟩=>h) fun cdv A outer s H vs Q E hr h=>?_;obtain⟨ds,st0,io,d,st',hl,R,SR,e,k'⟩:=h;refine⟨_,hbody cdv A outer s H E hr,?_⟩;obtain⟨⟨fl,s1⟩,e1,e⟩:=zae e;refine zlK (zkW R) SR e1 ?_
 cases fl with
 | rt dd=>cases e;exact k'
 | nx ρ=>cases e;exact fun σ' H' ka X' S' E'=>k' .non H' ka X' S' rfl
 | bk ρ=>cases e
 | ct ρ=>cases e
end
end L2.MP
set_option maxHeartbeats 4000000
namespace L2.MP
open PySem PySem.Spec PyProof.Rows
noncomputable def clOf(cells:List (Str×Addr)):List (Str×NameKind)->List (Str×Addr)->List (Str×Addr)
 | [],acc=>acc
 | (n,k)::r,acc=>if k==.free then clOf cells r ((n,(cells.lookup n).getD 0)::acc) else clOf cells r acc
theorem zd7{env:Env}(f:Str×NameKind->List (Str×Addr)->Sem (ForInStep (List (Str×Addr))))
   (hf:∀ n k acc,f (n,k) acc=if k==.free then (do let c <-cellOf env n;pure (.yield ((n,c)::acc))) else pure (.yield acc)) :
   ∀ (names:List (Str×NameKind)) (acc:List (Str×Addr)),(∀ n,(n,NameKind.free)∈names->∃ c,env.cells.lookup n=some c)->(forIn names acc f:Sem (List (Str×Addr)))=pure (clOf env.cells names acc)
 | [],acc,_=>by rw[List.forIn_nil];rfl
 | (n,k)::r,acc,h=>by
   rw[List.forIn_cons,hf];unfold clOf
   cases hk:k==NameKind.free with
   | false =>
     rw[if_neg (by simp),if_neg (by simp)];have:=zd7 f hf r acc fun m hm=>h m (List.mem_cons_of_mem _ hm);rw[<-this];rfl
   | true =>
     rw[if_pos rfl,if_pos rfl];have hk':k=NameKind.free:=by simpa using hk
     obtain⟨c,hc⟩:=h n (by rw[hk'];exact List.mem_cons_self);have:=zd7 f hf r ((n,c)::acc) fun m hm=>h m (List.mem_cons_of_mem _ hm);rw[hc,Option.getD_some,<-this];unfold cellOf;rw[hc];rfl
theorem zjG{env:Env}{scope:Scope}(h:∀ n,(n,NameKind.free)∈scope.names->∃ c,env.cells.lookup n=some c):closureFor scope env=pure (clOf env.cells scope.names []):=by
 unfold closureFor;have:=zd7 (env:=env) (fun x acc=>(match x with | (n,k)=>if k==.free then (do let c <-cellOf env n;pure (.yield ((n,c)::acc))) else pure (.yield acc))) (fun _ _ _=>rfl) scope.names [] h;refine Eq.trans ?_ this;simp only[bind_pure]
theorem zgO{cells:List (Str×Addr)}:∀ {names:List (Str×NameKind)} {acc:List (Str×Addr)} {p:Str×Addr},p∈clOf cells names acc->p∈acc\/((p.1,NameKind.free)∈names/\p.2=(cells.lookup p.1).getD 0)
 | [],acc,p,h=>.inl h
 | (n,k)::r,acc,p,h=>by
   unfold clOf at h
   cases hk:k==NameKind.free with
   | false =>
     rw[hk,if_neg (by simp)] at h
     rcases zgO h with h | h
     . exact .inl h
     . exact .inr ⟨List.mem_cons_of_mem _ h.1,h.2⟩
   | true =>
     rw[hk,if_pos rfl] at h;have hk':k=NameKind.free:=by simpa using hk
     rcases zgO h with h | h
     . rcases List.mem_cons.mp h with h | h
       . subst h;exact .inr ⟨by rw[hk'];exact List.mem_cons_self,rfl⟩
       . exact .inl h
     . exact .inr ⟨List.mem_cons_of_mem _ h.1,h.2⟩
theorem zfs{cells:List (Str×Addr)}:∀ {names:List (Str×NameKind)} {acc:List (Str×Addr)} {x:Str},((x,NameKind.free)∈names\/(acc.lookup x).isSome=true)->((clOf cells names acc).lookup x).isSome=true
 | [],acc,x,h=>by
   rcases h with h | h
   . exact absurd h (by simp)
   . exact h
 | (n,k)::r,acc,x,h=>by
   unfold clOf
   cases hk:k==NameKind.free with
   | false =>
     rw[if_neg (by simp)];refine zfs ?_
     rcases h with h | h
     . rcases List.mem_cons.mp h with h | h
       . have:k=NameKind.free:=(Prod.mk.inj h).2.symm;rw[this] at hk;exact absurd hk (by decide)
       . exact .inl h
     . exact .inr h
   | true =>
     rw[if_pos rfl];refine zfs ?_
     by_cases hx:x=n
     . subst hx;exact .inr (by simp)
     . rcases h with h | h
       . rcases List.mem_cons.mp h with h | h
         . exact absurd (Prod.mk.inj h).1 hx
         . exact .inl h
       . refine .inr ?_;rw[List.lookup_cons];have:(x==n)=false:=by simpa using hx
         rw[this];exact h
theorem ze8:∀ {names:List (Str×NameKind)} {n:Nat} {acc:List (Str×Addr)} {p:Str×Addr},p∈cellsFrom n names acc->p∈acc\/n<=p.2
 | [],_,_,_,h=>.inl h
 | (x,k)::r,n,acc,p,h=>by
   unfold cellsFrom at h
   split at h
   . rcases ze8 h with h | h
     . rcases List.mem_cons.mp h with h | h
       . subst h;exact .inr (Nat.le_refl _)
       . exact .inl h
     . exact .inr (Nat.le_of_succ_le h)
   . exact ze8 h
theorem zdr:∀ {names:List (Str×NameKind)} {n:Nat} {acc:List (Str×Addr)},(acc.Pairwise fun x y=>x.2≠y.2)->(∀ p∈acc,p.2 < n)->(cellsFrom n names acc).Pairwise fun x y=>x.2≠y.2
 | [],_,_,h,_=>h
 | (x,k)::r,n,acc,h,hl=>by
   unfold cellsFrom
   split
   . refine zdr (List.pairwise_cons.mpr ⟨fun y hy e=>?_,h⟩) fun p hp=>?_
     . have q:=hl y hy;have e':n=y.2:=e;rw[<-e'] at q;exact Nat.lt_irrefl _ q
     . rcases List.mem_cons.mp hp with rfl | hp
       . exact Nat.lt_succ_self _
       . exact Nat.lt_succ_of_lt (hl p hp)
   . exact zdr h hl
theorem ziY:∀ {names:List (Str×NameKind)} {n:Nat} {acc:List (Str×Addr)} {x:Str},((x,NameKind.cell)∈names\/(acc.lookup x).isSome=true)->((cellsFrom n names acc).lookup x).isSome=true
 | [],n,acc,x,h=>by
   rcases h with h | h
   . exact absurd h (by simp)
   . exact h
 | (m,k)::r,n,acc,x,h=>by
   unfold cellsFrom
   cases hk:k==NameKind.cell with
   | false =>
     rw[if_neg (by simp)];refine ziY ?_
     rcases h with h | h
     . rcases List.mem_cons.mp h with h | h
       . have:k=NameKind.cell:=(Prod.mk.inj h).2.symm;rw[this] at hk;exact absurd hk (by decide)
       . exact .inl h
     . exact .inr h
   | true =>
     rw[if_pos rfl];refine ziY ?_
     by_cases hx:x=m
     . subst hx;exact .inr (by simp)
     . rcases h with h | h
       . rcases List.mem_cons.mp h with h | h
         . exact absurd (Prod.mk.inj h).1 hx
         . exact .inl h
       . refine .inr ?_;rw[List.lookup_cons];have:(x==m)=false:=by simpa using hx
         rw[this];exact h
theorem ze7:∀ {names:List (Str×NameKind)} {n:Nat} {acc:List (Str×Addr)} {x:Str},(x,NameKind.cell) ∉ names->(cellsFrom n names acc).lookup x=acc.lookup x
 | [],_,_,_,_=>rfl
 | (m,k)::r,n,acc,x,h=>by
   unfold cellsFrom
   cases hk:k==NameKind.cell with
   | false=>rw[if_neg (by simp)];exact ze7 fun q=>h (List.mem_cons_of_mem _ q)
   | true =>
     rw[if_pos rfl,ze7 fun q=>h (List.mem_cons_of_mem _ q),List.lookup_cons];have hk':k=NameKind.cell:=by simpa using hk
     have:(x==m)=false:=by
       cases e:x==m with
       | false=>rfl
       | true=>exact absurd (by rw[hk',show x=m by simpa using e];exact List.mem_cons_self) h
     rw[this]
theorem ziZ:∀ {names:List (Str×NameKind)} {n:Nat} {acc:List (Str×Addr)} {x:Str} {c:Addr},(x,NameKind.cell)∈names->(cellsFrom n names acc).lookup x=some c->n<=c
 | [],_,_,_,_,h,_=>absurd h (by simp)
 | (m,k)::r,n,acc,x,c,h,e=>by
   unfold cellsFrom at e
   cases hk:k==NameKind.cell with
   | false =>
     rw[hk,if_neg (by simp)] at e
     rcases List.mem_cons.mp h with h | h
     . have:k=NameKind.cell:=(Prod.mk.inj h).2.symm;rw[this] at hk;exact absurd hk (by decide)
     . exact ziZ h e
   | true =>
     rw[hk,if_pos rfl] at e
     by_cases hr:(x,NameKind.cell)∈r
     . exact Nat.le_of_succ_le (ziZ hr e)
     . rw[ze7 hr] at e
       rcases List.mem_cons.mp h with h | h
       . have hx:x=m:=(Prod.mk.inj h).1;subst hx;rw[List.lookup_cons_self] at e;exact Nat.le_of_eq (Option.some.inj e)
       . exact absurd h hr
theorem ze4:∀ {names:List (Str×NameKind)} {h:Heap} {acc:List (Str×Addr)} {p:Str×Addr},p∈cellsFrom h.objs.size names acc->p∈acc\/(pushCells h names).IsCell p.2 none
 | [],_,_,_,h=>.inl h
 | (x,k)::r,h,acc,p,e=>by
   unfold cellsFrom at e;unfold pushCells
   split at e
   . rename_i hk;rw[if_pos hk];have sz:(h.push { cls:=.type "cell",data:=.cell none }).objs.size=h.objs.size+1:=Heap.size_push ..;rw[<-sz] at e
     rcases ze4 e with q | q
     . rcases List.mem_cons.mp q with q | q
       . subst q;exact .inr ⟨_,pushCells_keeps _ _ _ _ (Heap.get?_push_size _ rfl),rfl⟩
       . exact .inl q
     . exact .inr q
   . rename_i hk;rw[if_neg hk];exact ze4 e
end L2.MP
set_option maxHeartbeats 4000000
namespace L2.MP
open PySem PySem.Spec PyProof.Rows
noncomputable def zc8(X:Cx)(scope:Scope)(N':List Str)(cells:List (Str×Addr))(C:Addr)(s0:Shared)(H0:Hp)(ex:List Addr):Cx :=
 { X with N:=N',s₀:=s0,H₀:=H0,env:=compEnvC scope cells C X.env,outer:=X.stack,ex:=ex,fn:=fun x=>scope.names.any fun p=>p.1==x&&p.2==.cell,pn:=[],xe:=fun _ _=>False }
structure CompS(X:Cx)(scope:Scope)(N':List Str)(nt:Nat)(fr:List Nat):Prop where
 kind:scope.kind=.function
 nd:(scope.names.map (·.1)).Nodup
 len:N'.length=nt+fr.length
 cap:∀ (i j:Nat) (x:Str),fr[i]?=some j->N'[nt+i]?=some x->X.N[j]?=some x/\(x,NameKind.free)∈scope.names
 out:∀ x,(x,NameKind.free)∈scope.names->X.env.kindOf x=some .cell\/X.env.kindOf x=some .free
theorem lookup_mem:∀ {l:List (Str×NameKind)} {x:Str} {k:NameKind},(l.map (·.1)).Nodup->(x,k)∈l->l.lookup x=some k
 | [],_,_,_,h=>absurd h (by simp)
 | (n,j)::r,x,k,nd,h=>by
   rw[List.map_cons,List.nodup_cons] at nd;rw[List.lookup_cons]
   rcases List.mem_cons.mp h with h | h
   . cases h;simp
   . have:x≠n:=fun e=>nd.1 (by rw[<-e];exact List.mem_map.mpr ⟨_,h,rfl⟩);have:(x==n)=false:=by simpa using this
     rw[this];exact lookup_mem nd.2 h
theorem zbO{env:Env}:∀ {l:List (Str×NameKind)} {x:Str} {k:NameKind},(l.map fun (n,k)=>if (k==NameKind.free&&env.scope.kind==.function&&env.kindOf n==some .cell) then (n,NameKind.cell) else (n,k)).lookup x=some k ->
   ∃ k',l.lookup x=some k'/\(k'=k\/k'=.free)
 | [],_,_,h=>by simp at h
 | (n,j)::r,x,k,h=>by
   rw[List.map_cons] at h;dsimp only at h
   by_cases hc:(j==NameKind.free&&env.scope.kind==.function&&env.kindOf n==some .cell)=true
   . rw[if_pos hc,List.lookup_cons] at h;rw[List.lookup_cons]
     cases hx:x==n with
     | true =>
       have:j=.free:=by
         rw[Bool.and_eq_true,Bool.and_eq_true] at hc;simpa using hc.1.1
       exact⟨j,rfl,.inr this⟩
     | false=>rw[hx] at h;exact zbO h
   . rw[if_neg hc,List.lookup_cons] at h;rw[List.lookup_cons]
     cases hx:x==n with
     | true=>rw[hx] at h;cases h;exact⟨j,rfl,.inl rfl⟩
     | false=>rw[hx] at h;exact zbO h
theorem zcL{env:Env}:∀ {l:List (Str×NameKind)} {x:Str},l.lookup x=some .free ->
   (l.map fun (n,k)=>if (k==NameKind.free&&env.scope.kind==.function&&env.kindOf n==some .cell) then (n,NameKind.cell) else (n,k)).lookup x=some .cell \/
   (l.map fun (n,k)=>if (k==NameKind.free&&env.scope.kind==.function&&env.kindOf n==some .cell) then (n,NameKind.cell) else (n,k)).lookup x=some .free
 | [],_,h=>by simp at h
 | (n,j)::r,x,h=>by
   rw[List.map_cons];dsimp only;rw[List.lookup_cons] at h
   by_cases hc:(j==NameKind.free&&env.scope.kind==.function&&env.kindOf n==some .cell)=true
   . rw[if_pos hc,List.lookup_cons]
     cases hx:x==n with
     | true=>exact .inl rfl
     | false=>rw[hx] at h;exact zcL h
   . rw[if_neg hc,List.lookup_cons]
     cases hx:x==n with
     | true=>rw[hx] at h;cases h;exact .inr rfl
     | false=>rw[hx] at h;exact zcL h
section
variable {X:Cx} {scope:Scope} {N':List Str} {nt:Nat} {fr:List Nat} {pins:List (Addr×Obj)} {σ:L2.St} {H:Hp} {s:Shared}
noncomputable abbrev clX (X:Cx) (scope:Scope):List (Str×Addr):=clOf X.env.cells scope.names []
noncomputable abbrev zc9 (X:Cx) (scope:Scope) (C:Nat):List (Str×Addr):=cellsFrom (C+1) scope.names (clX X scope)
theorem zjI(Z:CompS X scope N' nt fr)(ok:X.Ok){p:Str×Addr}(h:p∈clX X scope):(p.1,NameKind.free)∈scope.names/\X.env.cells.lookup p.1=some p.2:=by
 rcases zgO h with h | ⟨h1,h2⟩
 . exact absurd h (by simp)
 . obtain⟨c,hc⟩:=ok.has p.1 (Z.out p.1 h1);rw[hc,Option.getD_some] at h2;exact⟨h1,by rw[hc,h2]⟩
theorem zk2(Z:CompS X scope N' nt fr)(ok:X.Ok){x:Str}(h:(x,NameKind.free)∈scope.names):∃ c,X.env.cells.lookup x=some c/\∀ C,(zc9 X scope C).lookup x=some c:=by
 obtain⟨c,hc⟩:=ok.has x (Z.out x h);refine⟨c,hc,fun C=>?_⟩;have no:(x,NameKind.cell) ∉ scope.names:=fun q=>by
   have a:=lookup_mem Z.nd h;have b:=lookup_mem Z.nd q;rw[a] at b;cases b
 rw[ze7 no];have q:=zfs (cells:=X.env.cells) (acc:=[]) (.inl h);obtain⟨c',e⟩:=Option.isSome_iff_exists.mp q;have:=(zjI Z ok (PySem.mem_of_lookup e)).2;have this:X.env.cells.lookup x=some c':=this;rw[hc] at this;rw[e,this]
theorem znj(Z:CompS X scope N' nt fr)(ok:X.Ok):(clX X scope).Pairwise fun x y=>x.2≠y.2:=by
 have gen:∀ (names:List (Str×NameKind)) (acc:List (Str×Addr)),(∀ n,(n,NameKind.free)∈names->∃ c,X.env.cells.lookup n=some c)->(names.map (·.1)).Nodup->(∀ p∈acc,p.1 ∉ names.map (·.1)/\X.env.cells.lookup p.1=some p.2)->(acc.Pairwise fun x y=>x.2≠y.2) ->
     (clOf X.env.cells names acc).Pairwise fun x y=>x.2≠y.2:=by
   intro names
   induction names with
   | nil=>intro acc _ _ _ h;exact h
   | cons p r ih =>
     intro acc hf nd ha hp;obtain⟨n,k⟩:=p;rw[List.map_cons,List.nodup_cons] at nd;unfold clOf
     cases hk:k==NameKind.free with
     | false =>
       rw[if_neg (by simp)];exact ih acc (fun m hm=>hf m (List.mem_cons_of_mem _ hm)) nd.2 (fun q hq=>⟨fun z=>(ha q hq).1 (by rw[List.map_cons];exact List.mem_cons_of_mem _ z),(ha q hq).2⟩) hp
     | true =>
       rw[if_pos rfl];have hk':k=NameKind.free:=by simpa using hk
       obtain⟨c,hc⟩:=hf n (by rw[hk'];exact List.mem_cons_self);refine ih _ (fun m hm=>hf m (List.mem_cons_of_mem _ hm)) nd.2 (fun q hq=>?_) (List.pairwise_cons.mpr ⟨fun y hy e=>?_,hp⟩)
       . rcases List.mem_cons.mp hq with rfl | hq
         . exact⟨nd.1,by rw[hc];rfl⟩
         . exact⟨fun z=>(ha q hq).1 (by rw[List.map_cons];exact List.mem_cons_of_mem _ z),(ha q hq).2⟩
       . have e1:(X.env.cells.lookup n).getD 0=y.2:=e;rw[hc,Option.getD_some] at e1;have e2:=(ha y hy).2;rw[<-e1] at e2;have:=ok.inj _ _ _ e2 hc;exact (ha y hy).1 (by rw[this,List.map_cons];exact List.mem_cons_self)
 exact gen scope.names [] (fun n hn=>ok.has n (Z.out n hn)) Z.nd (fun p hp=>absurd hp (by simp)) List.Pairwise.nil
theorem zni{M:Model}{A:Around}{E:Value->Shared->Prop}{env:Env}{cl:List (Str×Addr)}{Q:Env->Shared->Prop}
   (h:Q { scope:=scope,locals:=s.heap.objs.size,globals:=env.globals,cells:=cellsFrom (s.heap.objs.size+1) scope.names cl,qual:=env.qual,func:=none,code:=env.code,frame:=env.frame,builtins:=env.builtins }
     { s with heap:=pushCells (s.heap.push { cls:=.type "dict",data:=.dict #[] }) scope.names }) :
   wpAny M A (newFunctionEnv scope env.globals cl [] env.qual none .none (some env)) Q E s:=by
 simp only[newFunctionEnv,Option.isSome_some,if_true];refine wpAny_bind (wpAny_alloc ?_);refine wpAny_bind (wpAny_layCells _ (fun name kind cells=>by cases hkc:kind==NameKind.cell <;> simp[hkc]) _ _ _ _ ?_);rw[show ({ s with heap:=s.heap.push { cls:=.type "dict",data:=.dict #[] } }:Shared).heap.objs.size=s.heap.objs.size+1 from Heap.size_push ..];rw[List.forIn_nil];exact wpAny_bind (wpAny_pure (wpAny_pure h))
noncomputable def zk1(σ:L2.St)(nt:Nat)(fr:List Nat):L2.St:=List.replicate nt none++fr.map fun (j:Nat)=>(σ[j]?).join
theorem zm3{fp:List Addr}(Z:CompS X scope N' nt fr)(I:Inv X pins σ H s)(hf:∀ b∈fp,FpOk X pins H b)(hlt:∀ b∈fp,b < s.heap.objs.size) :
   Inv (zc8 X scope N' (zc9 X scope s.heap.objs.size) s.heap.objs.size s H fp) [] (zk1 σ nt fr) H { s with heap:=pushCells (s.heap.push { cls:=.type "dict",data:=.dict #[] }) scope.names }:=by
 have ok:=I.ok;have kp:∀ b o,s.heap.get? b=some o->(pushCells (s.heap.push { cls:=.type "dict",data:=.dict #[] }) scope.names).get? b=some o:=fun b o e=>pushCells_keeps _ _ b o (Heap.get?_push_of_some _ e);have clt:∀ p∈clX X scope,p.2 < s.heap.objs.size:=fun p hp=>by
   obtain⟨_,e⟩:=zjI Z ok hp;obtain⟨v,q⟩:=I.cell p.1 p.2 e;exact q.lt
 have sz:(s.heap.push { cls:=.type "dict",data:=.dict #[] }).objs.size=s.heap.objs.size+1:=Heap.size_push ..;have cells:∀ x c,(zc9 X scope s.heap.objs.size).lookup x=some c->(X.env.cells.lookup x=some c)\/(s.heap.objs.size+1<=c/\(pushCells (s.heap.push { cls:=.type "dict",data:=.dict #[] }) scope.names).IsCell c none):=fun x c e=>by
   have m:=PySem.mem_of_lookup e
   rcases ze8 m with h | h
   . exact .inl (zjI Z ok h).2
   . refine .inr ⟨h,?_⟩;have m':(x,c)∈cellsFrom (s.heap.push { cls:=.type "dict",data:=.dict #[] }).objs.size scope.names (clX X scope):=by rw[sz];exact m
     rcases ze4 m' with q | q
     . have l:=clt _ q;exact absurd (Nat.lt_of_lt_of_le l (Nat.le_of_succ_le h)) (Nat.lt_irrefl _)
     . exact q
 refine⟨⟨ok.mod,Z.kind,ok.glob,ok.blt,Nat.le_refl _,fun x y c h1 h2=>?_,fun x hx=>?_,fun x c h1 h2=>?_,ok.hd,ok.frames,.inl rfl,fun b hb=>?_,I.bs,Nat.le_trans ok.bsz I.sz,fun b o e hb=>?_,fun b hb=>?_,I.stack,I.stkFree⟩,
   rfl,I.bare,Un.kept kp,⟨fun _=>none,?_,fun i x v h1 h2 h3=>?_⟩,fun x c e=>?_,I.hok.fresh (Nat.le_refl _),fun x c e=>?_,fun p hp=>absurd hp (by simp[zc8]),I.hok.kept kp,?_⟩
 . exact name_of_addr (zdr (znj Z ok) fun p hp=>Nat.lt_succ_of_lt (clt p hp)) (PySem.mem_of_lookup h1) (PySem.mem_of_lookup h2)
 . have hx:(relabel scope X.env).names.lookup x=some .cell\/(relabel scope X.env).names.lookup x=some .free:=hx;have q:(x,NameKind.cell)∈scope.names\/(x,NameKind.free)∈scope.names:=by
     rcases hx with hx | hx
     . obtain⟨k',e,z | z⟩:=zbO hx
       . subst z;exact .inl (PySem.mem_of_lookup e)
       . subst z;exact .inr (PySem.mem_of_lookup e)
     . obtain⟨k',e,z | z⟩:=zbO hx
       . subst z;exact .inr (PySem.mem_of_lookup e)
       . subst z;exact .inr (PySem.mem_of_lookup e)
   refine Option.isSome_iff_exists.mp (ziY (n:=s.heap.objs.size+1) (acc:=clX X scope) ?_)
   rcases q with q | q
   . exact .inl q
   . exact .inr (zfs (.inl q))
 . have h1:(scope.names.any fun p=>p.1==x&&p.2==NameKind.cell)=true:=h1;obtain⟨p,hp,e⟩:=List.any_eq_true.mp h1;rw[Bool.and_eq_true] at e;have e1:p.1=x:=by simpa using e.1
   have e2:p.2=NameKind.cell:=by simpa using e.2
   have hm:(x,NameKind.cell)∈scope.names:=by rw[<-e1,<-e2];exact hp
   exact Nat.le_of_succ_le (ziZ hm h2)
 . refine⟨Nat.ne_of_lt (hlt b hb),fun x c e z=>?_⟩
   rcases cells x c e with q | ⟨q,_⟩
   . exact (hf b hb).2.2.2.2.1 x c q z
   . have l:=hlt b hb;rw[<-z] at l;exact absurd (Nat.lt_of_lt_of_le l (Nat.le_of_succ_le q)) (Nat.lt_irrefl _)
 . rcases (hf b hb).2.2.2.1 with z | z
   . exact ok.noex b o e z
   . exact absurd (Nat.lt_of_lt_of_le (Heap.lt_size e) (Nat.le_trans ok.bsz z)) (Nat.lt_irrefl _)
 . intro hs
   rcases List.mem_cons.mp (I.stkSub b hs) with e | e
   . exact (hf b hb).2.1 e
   . exact (hf b hb).2.2.1 e
 . exact (Heap.Ns.new s.heap (.type "dict")).keeps (pushCells_keeps _ _)
 . -- a captured name
   have hi:nt<=i:=by
     by_cases hi:i < nt
     . unfold zk1 at h2;rw[List.getElem?_append_left (by simpa using hi),List.getElem?_replicate,if_pos hi] at h2;cases h2
     . omega
   obtain⟨i',rfl⟩:∃ i',i=nt+i':=⟨i - nt,by omega⟩
   unfold zk1 at h2;rw[List.getElem?_append_right (by simp),List.length_replicate,Nat.add_sub_cancel_left,List.getElem?_map] at h2
   cases ej:fr[i']? with
   | none=>rw[ej] at h2;cases h2
   | some j =>
     rw[ej] at h2;have h2:(σ[j]?).join=some v:=Option.some.inj h2;have h2:σ[j]?=some (some v):=by
       cases q:σ[j]? with
       | none=>rw[q] at h2;cases h2
       | some w=>rw[q] at h2;cases w with
         | none=>cases h2
         | some w=>cases h2;rfl
     obtain⟨hN,hfree⟩:=Z.cap i' j x ej h1;obtain⟨c,hc,hcc⟩:=zk2 Z ok hfree;have ho:=Z.out x hfree;obtain⟨m,hn,hl⟩:=I.loc;obtain⟨u,r,l⟩:=hl j x v hN h2 (ho.elim (fun z=>.inr (.inl z)) fun z=>.inr (.inr z));refine⟨u,r,.inr ⟨?_,c,hcc _,?_⟩⟩
     . exact zcL (lookup_mem Z.nd hfree)
     . rcases l with ⟨k,_⟩ | ⟨_,c',e',z⟩
       . rcases ho with q | q
         . rw[k] at q;cases q
         . rw[k] at q;cases q
       . rw[hc] at e';cases e';exact z.keeps kp
 . rcases cells x c e with q | ⟨_,q⟩
   . obtain⟨v,z⟩:=I.cell x c q;exact⟨v,z.keeps kp⟩
   . exact⟨none,q⟩
 . rcases cells x c e with q | ⟨q,_⟩
   . exact I.freeC x c q
   . exact I.hok.fresh (Nat.le_of_succ_le q)
 . show _=N'.length;unfold zk1;rw[Z.len,List.length_append,List.length_replicate,List.length_map]
end
end L2.MP
set_option maxHeartbeats 4000000
namespace L2.MP
open PySem PySem.Spec PyProof.Rows
noncomputable abbrev FF:Value->Shared->Prop:=fun _ _=>False
theorem zh2{prog:Program}{w:World}{A:Around}{R:Result->Shared->Prop}{s:Shared}{elt target iter:Expr}{ifs:List Expr}{scope:Scope}{pos:Pos}{it acc:Value}{env:Env}(I:Nat->Shared->Prop)
   (turn:∀ n s,I n s->wpAny (model prog w) A (pyNext it) (fun r s1=>match r with
     | none=>R (.ok .next) s1
     | some v=>wpAny (model prog w) A (letOwnedTupleGo target it v) (fun _ s1=>wpAny (model prog w) A (assign target env v) (fun _ s2 =>
         wpAny (model prog w) A (forIn ifs true fun c r=>if r=true then do let ok <-isTrue c env (eval c env);pure (ForInStep.yield ok) else pure (ForInStep.yield r)) (fun ok s3 =>
           if ok=true then wpAny (model prog w) A (eval elt env) (fun x s4 =>
             wpAny (model prog w) A (call (.builtin "list.append") [acc,x]) (fun _ s5=>∃ m,m < n/\I m s5) FF s4) FF s3
           else ∃ m,m < n/\I m s3) FF s2) FF s1) FF s1) FF s)
   (n:Nat) (h:I n s) :
   codeAny (model prog w) A (.compLoop (.ListComp elt [⟨target,iter,ifs,0⟩] scope pos) 0 it acc env) R s:=by
 refine codeAny_loop rfl I (fun n s hI=>?_) n h;show wpAny _ A ((compTurn (.ListComp elt [⟨target,iter,ifs,0⟩] scope pos) 0 it acc env).onRaise (fun x=>do noteFrame x env;theTreesLotGoes x)) _ _ s;refine wpAny_noted ?_;rw[compTurn_list];refine wpAny_bind (wpAny_standAt (wpAny_bind (wpAny_mono (turn n s hI) (fun r s₁ h₁=>?_) fun _ _ h'=>False.elim h')))
 cases r with
 | none=>exact wpAny_pure h₁
 | some v =>
   refine wpAny_bind (wpAny_mono h₁ (fun _ s₂ h₂=>?_) fun _ _ h'=>False.elim h');refine wpAny_bind (wpAny_mono h₂ (fun _ s₂ h₂=>wpAny_bind (wpAny_mono h₂ (fun ok s₃ h₃=>?_) fun _ _ h'=>False.elim h')) fun _ _ h'=>False.elim h')
   cases ok with
   | false=>exact wpAny_pure ⟨rfl,h₃⟩
   | true =>
     exact wpAny_bind (wpAny_bind (wpAny_mono h₃ (fun x s₄ h₄=>wpAny_bind (wpAny_mono h₄ (fun _ s₅ h₅=>wpAny_pure (wpAny_pure ⟨rfl,h₅⟩)) fun _ _ h'=>False.elim h')) fun _ _ h'=>False.elim h'))
noncomputable def mCI(W:Wk)(g:MG)(c:MT)(m:ME):List D->Rho->Sto->Option (List D×Sto)
 | [],ρ,st=>if walked W st=true then some ([],st) else none
 | d::ds,ρ,st=>if walked W st=true then (g d ρ st).bind fun (ρ1,s1)=>(c ρ1 s1).bind fun (b,s2) =>
     if b=true then (m ρ1 s2).bind fun (x,s3)=>(mCI W g c m ds ρ1 s3).map fun (xs,s4)=>(x::xs,s4) else mCI W g c m ds ρ1 s2 else none
noncomputable def rho0(ρ:Rho)(nt:Nat)(fr:List Nat):Rho:=List.replicate nt none++fr.map fun (j:Nat)=>(ρ[j]?).join
noncomputable def zcO(mi:MI)(nt:Nat)(fr:List Nat)(g:MG)(c:MT)(m:ME):ME:=fun ρ st=>(mi ρ st).bind fun (W,s1)=>(mCI W g c m W.ds (rho0 ρ nt fr) s1).bind fun (xs,s2) =>
 if fits xs.length=true then some (.ref s2.length,s2++[.lst xs]) else none
noncomputable def zck:MT:=fun _ st=>some (true,st)
noncomputable def SC(X:Cx)(ifs:List Expr)(m:MT):Prop:=∀ (pins:List (Addr×Obj)) (s:Shared) (σ:L2.St) (H:Hp) (Q:Bool->Hp->Prop),Inv X pins σ H s->tT X.K m σ H Q ->
 wpAny (model X.prog X.w) X.A (forIn ifs true fun c r=>if r=true then do let ok <-isTrue c X.env (eval c X.env);pure (ForInStep.yield ok) else pure (ForInStep.yield r)) (TP X pins σ Q) X.xe s
theorem ze1{X:Cx}:SC X [] zck:=by
 rintro pins s σ H Q I ⟨ρ,st,io,b,st',E,S,e,k⟩;cases e;rw[List.forIn_nil];exact wpAny_pure ⟨H,I,k H [] Ext.refl S.nil⟩
theorem zl5{X:Cx}{c:Expr}{m:MT}(h:SB X c m):SC X [c] m:=fun pins s σ H Q I q=>PySem.wpAny_tests_one (h pins s σ H Q I q)
section
variable {K:PySem.W.Frag} {H H1:Hp} {io ka:List Addr} {st:Sto} {σ:L2.St} {ρ:Rho}
theorem zna{nt:Nat}{fr:List Nat}(h:EnvR K H io σ ρ):EnvR K H io (zk1 σ nt fr) (rho0 ρ nt fr):=by
 refine⟨by unfold zk1 rho0;simp,fun i d e=>?_⟩;unfold rho0 at e;unfold zk1
 by_cases hi:i < nt
 . rw[List.getElem?_append_left (by simpa using hi),List.getElem?_replicate,if_pos hi] at e;cases e
 . rw[List.getElem?_append_right (by simpa using hi),List.length_replicate,List.getElem?_map] at e ⊢
   cases ej:fr[i - nt]? with
   | none=>rw[ej] at e;cases e
   | some j =>
     rw[ej] at e;have e:(ρ[j]?).join=some d:=Option.some.inj e;have e:ρ[j]?=some (some d):=by
       cases q:ρ[j]? with
       | none=>rw[q] at e;cases e
       | some w=>rw[q] at e;cases w with
         | none=>cases e
         | some w=>cases e;rfl
     obtain⟨v,hv,r⟩:=h.at_ j d e;exact⟨v,by simp[hv],r⟩
theorem adopt{p:Addr}{xs:List V}{ds:List D}(S:StR K H io st)(hp:H p=some (.lst xs))(np:p ∉ io)(R:Reps K H io xs ds):StR K H (io++[p]) (st++[.lst ds]):=by
 refine⟨by simp[S.len],?_,fun n a ob h1 h2=>?_⟩
 . rw[List.nodup_append];refine⟨S.nd,by simp,fun a ha b hb=>?_⟩;rw[List.mem_singleton.mp hb];rintro rfl;exact np ha
 . by_cases hn:n < io.length
   . rw[List.getElem?_append_left hn] at h1;rw[List.getElem?_append_left (by rw[<-S.len];exact hn)] at h2;exact OR.mono ⟨fun _ _ h=>h,fun _ _ _ h=>h⟩ rfl (S.ob n a ob h1 h2)
   . have hl:n < (io++[p]).length:=(List.getElem?_eq_some_iff.mp h1).1;rw[List.length_append,List.length_singleton] at hl;have e:n=io.length:=by omega
     subst e;rw[List.getElem?_append_right (Nat.le_refl _),Nat.sub_self] at h1;rw[S.len,List.getElem?_append_right (Nat.le_refl _),Nat.sub_self] at h2
     cases (Option.some.inj h1)
     cases (Option.some.inj h2)
     exact⟨xs,hp,Reps.mono ⟨fun _ _ h=>h,fun _ _ _ h=>h⟩ R⟩
end
section
variable {X:Cx} {scope:Scope} {N':List Str} {nt:Nat} {fr:List Nat} {elt tg iter:Expr} {ifs:List Expr} {pos:Pos} {mi:MI} {g:MG} {c:MT} {m:ME}
structure CompEnd(X:Cx)(pins:List (Addr×Obj))(σ:L2.St)(H:Hp)(io:List Addr)(d:D)(st':Sto)(Dd C:Addr)(H5:Hp)(s6:Shared):Prop where
 inv:Inv X pins σ H5 s6
 ns:∃ m,s6.heap.Ns C m
 free:H5 C=none
 ne:C≠X.env.locals
 young:X.s₀.heap.objs.size<=C
 cells:∀ x c,X.env.cells.lookup x=some c->c≠C
 pin:∀ p∈X.pn++pins,p.1≠C
 val:∃ ka,Ext io ka H H5/\StR X.K H5 (io++ka) st'/\Rep X.K H5 (io++ka) (.ref Dd) d
inductive CompI (X Y:Cx) (W:Wk) (tn:Nat->Heap->Prop) (fp io:List Addr) (H1:Hp) (Dd:Addr) (g:MG) (c:MT) (m:ME) (t2:Sto) (xs:List D) (n:Nat) (s5:Shared):Prop
 | mk (i:Nat) (σ5:L2.St) (H5:Hp) (ρ5:Rho) (st5:Sto) (k5:List Addr) (ac rs:List D) (h0:n=W.ds.length - i) (h1:Inv Y [] σ5 H5 s5) (h2:tn i s5.heap) (h3:∀ b∈fp,H5 b=none) (h4:Ext io k5 H1 H5) (h5:Dd ∉ k5) (h6:StR X.K H5 (io++k5) st5) (h7:EnvR X.K H5 (io++k5) σ5 ρ5) (h8:∃ vs,H5 Dd=some (.lst vs)/\Reps X.K H5 (io++k5) vs ac) (h9:mCI W g c m (W.ds.drop i) ρ5 st5=some (rs,t2)) (h10:xs=ac++rs)
theorem zjF(hx:X.xe=FF)(hc:X.calm=true)(Z:CompS X scope N' nt fr)(hi:SI X tg iter mi)
   (hg:∀ C s0 H0 fp,SG (zc8 X scope N' (zc9 X scope C) C s0 H0 fp) tg g) (ht:∀ C s0 H0 fp,SC (zc8 X scope N' (zc9 X scope C) C s0 H0 fp) ifs c) (he:∀ C s0 H0 fp,SE (zc8 X scope N' (zc9 X scope C) C s0 H0 fp) elt m)
   (hs:∀ x,foldedSetIterable iter X.env x=pure x) {pins:List (Addr×Obj)} {s:Shared} {σ:L2.St} {H:Hp} {ρ:Rho} {st st':Sto} {io:List Addr} {d:D} {use:Option (Value->Sem Unit)} {Qf:Value->Shared->Prop} {ps:Pos}
   (I:Inv X pins σ H s) (E:EnvR X.K H io σ ρ) (S:StR X.K H io st) (e:zcO mi nt fr g c m ρ st=some (d,st'))
   (kf:∀ Dd C H5 s6,CompEnd X pins σ H io d st' Dd C H5 s6->compPost (model X.prog X.w) X.A X.xe use Qf (.ref Dd) C (.ok .next) s6) :
   wpAny (model X.prog X.w) X.A (comprehension (.ListComp elt [⟨tg,iter,ifs,0⟩] scope pos) scope X.env ps (newList []) false (eval iter X.env) use) Qf X.xe s:=by
 obtain⟨⟨W,t1⟩,e1,e⟩:=zae e;obtain⟨⟨xs,t2⟩,e2,e⟩:=zae e;obtain⟨hfit,e⟩:=zap e;cases e;refine wpAny_comprehension_free (use:=use) rfl hs (zjG fun n hn=>I.ok.has n (Z.out n hn)) Z.kind (fun x hx hl=>by
   obtain⟨n,k⟩:=x
   cases (show k=.local from hl)
   exact lookup_mem Z.nd hx) ?_
 refine thn (hi pins s σ H (fun J H1=>∃ ka,Ext io ka H H1/\StR X.K H1 (io++ka) t1/\ItOk X.K H1 (io++ka) W J) I ⟨ρ,st,io,W,t1,E,S,e1,fun J H' ka X' S' O'=>⟨ka,X',S',O'⟩⟩) fun v sa ha=>?_;refine thn ha ?_;rintro itv s2 ⟨it,fp,tn,J,H1,eit,I1,T,tn0,fpok,k1,X1,S1,IO⟩;subst eit;refine wpAny_newObj_type ?_
 -- the new list
 have hD:H1 s2.heap.objs.size=none:=I1.hok.fresh (Nat.le_refl _);have I3:Inv X pins σ (upd H1 s2.heap.objs.size (.lst [])) { s2 with heap:=s2.heap.push { cls:=.type "list",data:=.seq ([]:List Value).toArray },toks:=s2.toks }:=I1.lnew .nil (Nat.zero_le _);obtain⟨X2,S2a⟩:=zhf (o:=.lst []) S1 hD;rw[List.append_nil] at S2a;have S2:StR X.K (upd H1 s2.heap.objs.size (.lst [])) (io++k1) t1:=S2a;clear S2a;generalize hH3:upd H1 s2.heap.objs.size (.lst [])=H3 at I3 X2 S2;have H3D:H3 s2.heap.objs.size=some (.lst []):=by rw[<-hH3];exact zbs
 generalize hD':s2.heap.objs.size=Dd at hD I3 X2 S2 hH3 H3D ⊢;generalize hs3:({ s2 with heap:=s2.heap.push { cls:=.type "list",data:=.seq ([]:List Value).toArray },toks:=s2.toks }:Shared)=s3 at I3;have fplt:∀ b∈fp,b < s3.heap.objs.size:=fun b hb=>by
   obtain⟨o,ho,_⟩:=T.obj 0 _ tn0 b hb;rw[<-hs3];exact Nat.lt_of_lt_of_le (Heap.lt_size ho) (by show _<=(s2.heap.push _).objs.size;rw[Heap.size_push];exact Nat.le_succ _)
 have fpD:∀ b∈fp,b≠Dd:=fun b hb z=>by
   obtain⟨o,ho,_⟩:=T.obj 0 _ tn0 b hb;have:=Heap.lt_size ho;rw[z,<-hD'] at this;exact Nat.lt_irrefl _ this
 have fp3:∀ b∈fp,FpOk X pins H3 b:=fun b hb=>⟨by rw[<-hH3,zav (fpD b hb)];exact (fpok b hb).1,(fpok b hb).2⟩
 have tn3:tn 0 s3.heap:=T.keep 0 _ _ tn0 fun b _ o ho=>by rw[<-hs3];exact Heap.get?_push_of_some _ ho
 refine zni ?_;have I4:=zm3 (fp:=fp) Z I3 fp3 fplt;have tn4:tn 0 (pushCells (s3.heap.push { cls:=.type "dict",data:=.dict #[] }) scope.names):=T.keep 0 _ _ tn3 fun b _ o ho=>pushCells_keeps _ _ _ _ (Heap.get?_push_of_some _ ho);generalize hs4:({ s3 with heap:=pushCells (s3.heap.push { cls:=.type "dict",data:=.dict #[] }) scope.names }:Shared)=s4 at I4;have tn4:tn 0 s4.heap:=by rw[<-hs4];exact tn4
 show codeAny (model X.prog X.w) X.A (.compStart (.ListComp elt [⟨tg,iter,ifs,0⟩] scope pos) 0 (.ref it) (.ref Dd) (zc8 X scope N' (zc9 X scope s3.heap.objs.size) s3.heap.objs.size s3 H3 fp).env) _ _;generalize hY:zc8 X scope N' (zc9 X scope s3.heap.objs.size) s3.heap.objs.size s3 H3 fp=Y at I4;have yP:Y.prog=X.prog:=by rw[<-hY];rfl
 have yW:Y.w=X.w:=by rw[<-hY];rfl
 have yK:Y.K=X.K:=by rw[<-hY];rfl
 have yC:Y.calm=true:=by rw[<-hY];exact hc
 have yA:Y.A=X.A:=by rw[<-hY];rfl
 have yx:Y.xe=FF:=by rw[<-hY];rfl
 have hg:=hg s3.heap.objs.size s3 H3 fp;have ht:=ht s3.heap.objs.size s3 H3 fp;have he:=he s3.heap.objs.size s3 H3 fp;rw[hY] at hg ht he;have yex:Y.ex=fp:=by rw[<-hY];rfl
 have yfs:∀ b∈fp,b ∉ Y.fs:=fun b hb hs=>by
   rw[<-hY] at hs;have hs:b∈frs X.stack:=hs
   rcases List.mem_cons.mp (I3.stkSub b hs) with z | z
   . exact (fp3 b hb).2.1 z
   . exact (fp3 b hb).2.2.1 z
 have yL:Y.env.locals=s3.heap.objs.size:=by rw[<-hY];rfl
 -- the loop
 have hio:Dd ∉ io++k1:=fun hm=>by
   obtain⟨u,hu,_⟩:=S1.mem hm;rw[hD] at hu;cases hu
 have start:∀ {H':Hp} {sx:Shared} {σ':L2.St},Inv Y [] σ' H' sx->(∀ b∈fp,H' b=none)->∀ b∈fp,FpOk Y [] H' b:=fun {H' sx σ'} I' hn b hb=>by
   refine⟨hn b hb,fun z=>?_,yfs b hb,.inl (by rw[yex];exact hb),fun x cc e z=>?_,fun p hp=>absurd hp (by rw[<-hY];simp[zc8])⟩
   . rw[yL] at z;exact absurd (fplt b hb) (by rw[z];exact Nat.lt_irrefl _)
   . exact (I'.ok.exf b (by rw[yex];exact hb)).2 x cc e z
 have loop:∀ sx:Shared,Inv Y [] (zk1 σ nt fr) H3 sx->tn 0 sx.heap->codeAny (model X.prog X.w) X.A (.compLoop (.ListComp elt [⟨tg,iter,ifs,0⟩] scope pos) 0 (.ref it) (.ref Dd) Y.env) (compPost (model X.prog X.w) X.A X.xe use Qf (.ref Dd) s3.heap.objs.size) sx:=by
   intro sx Ix tnx;refine zh2 (CompI X Y W tn fp (io++k1) H1 Dd g c m t2 xs) ?_ (W.ds.length - 0)
     ⟨0,zk1 σ nt fr,H3,rho0 ρ nt fr,t1,[],[],xs,rfl,Ix,tnx,fun b hb=>(fp3 b hb).1,X2,by simp,S2.nil,by rw[List.append_nil];exact zna (by have:=(E.ext S X1).ext S1 X2;rw[List.append_nil] at this;exact this),⟨[],H3D,rfl⟩,by rw[List.drop_zero];exact e2,rfl⟩
   rintro n s5 ⟨i,σ5,H5,ρ5,st5,k5,ac,rs,rfl,I5,tn5,fr5,X25,nk5,S5,E5,⟨vs,hvs,Rvs⟩,e5,exs⟩;have nD:∀ {kk:List Addr},Dd ∉ kk->Dd ∉ (io++k1)++kk:=fun {kk} hk hm=>(List.mem_append.mp hm).elim hio hk;have nF:∀ {kk jj:List Addr} {Ha Hb:Hp} {vv:List V},Ext jj kk Ha Hb->Ha Dd=some (.lst vv)->Dd ∉ kk:=fun {kk jj Ha Hb vv} Xx hv hm=>by
     have q:=Xx.fresh Dd hm;rw[hv] at q;cases q
   cases hd:W.ds[i]? with
   | none =>
     have hl:W.ds.length<=i:=List.getElem?_eq_none_iff.mp hd;rw[List.drop_eq_nil_of_le hl] at e5;obtain⟨hw,e5⟩:=zap e5;cases e5;have:=T.done Y yP yW yK yC i [] s5 σ5 H5 FF I5 (start I5 fr5) tn5 (IO.stop' H5 k5 _ i hl X25 S5 (zcV hw));rw[yA] at this;refine thn this ?_;rintro r s6 ⟨hr,I6⟩;subst hr;obtain⟨mm,hn,_⟩:=id I6.loc;rw[yL] at hn
     -- back in the frame
     have base:Un (frs X.stack) fp H3 H5 s3.heap s6.heap:=by
       have b:=I6.base;rw[<-hY] at b;exact b
     have os:s6.os=s3.os:=by
       have b:=I6.os;rw[<-hY] at b;exact b
     have free:H5 s3.heap.objs.size=none:=by
       have b:=I6.free;rw[yL] at b;exact b
     have hok:HOk X.prog X.w H5 s6.heap:=by
       have b:=I6.hok;rw[yP,yW] at b;exact b
     have I7:Inv X pins σ H5 s6:=Inv.call' (s':=s6) (ch:=fp) I3 os base hok I6.bare fun b hb=>⟨(fp3 b hb).2.2.2.1,(fp3 b hb).2.1,(fp3 b hb).2.2.2.2.1,(fp3 b hb).2.2.2.2.2⟩
     have np:Dd ∉ (io++k1)++k5:=nD nk5;rw[List.append_nil] at exs;subst exs;have SA:=adopt S5 hvs np Rvs;have X6:Ext io (k1++k5) H H5:=X1.trans S1 X25;have lt3:X.env.locals < s3.heap.objs.size:=I3.lt;refine kf Dd s3.heap.objs.size H5 s6 ⟨I7,⟨mm,hn⟩,free,Nat.ne_of_gt lt3,I3.sz,fun x cc e z=>?_,fun p hp z=>?_,?_⟩
     . obtain⟨vv,q⟩:=I3.cell x cc e;have:=q.lt;rw[z] at this;exact Nat.lt_irrefl _ this
     . have:=Heap.lt_size (I3.pin p hp).1;rw[z] at this;exact Nat.lt_irrefl _ this
     refine⟨(k1++k5)++[Dd],⟨fun b o hb nb=>X6.keep b o hb nb,fun b hb=>?_,X6.frz⟩,(by simpa using SA),⟨Dd,rfl,?_⟩⟩
     . rcases List.mem_append.mp hb with hb | hb
       . exact X6.fresh b hb
       . rw[List.mem_singleton.mp hb]
         cases q:H Dd with
         | none=>rfl
         | some o =>
           by_cases hb:Dd∈io
           . exact absurd (List.mem_append_left _ hb) hio
           . have:=X1.keep Dd o q hb;rw[hD] at this;cases this
     . have:=getElem?_len ((io++k1)++k5) Dd;rw[<-S5.len];simpa using this
   | some dd =>
     have hl:i < W.ds.length:=(List.getElem?_eq_some_iff.mp hd).1;have hdr:W.ds.drop i=dd::W.ds.drop (i+1):=by
       rw[List.drop_eq_getElem_cons hl,(List.getElem?_eq_some_iff.mp hd).2]
     rw[hdr] at e5;obtain⟨hw,e5⟩:=zap e5;obtain⟨⟨ρ6,t6⟩,e6,e5⟩:=zae e5;obtain⟨⟨b7,t7⟩,e7,e5⟩:=zae e5;obtain⟨go,yl⟩:=IO.go i dd H5 k5 st5 hd X25 S5 (zcV hw);have hit:=T.item Y yP yW yK yC i [] s5 σ5 H5 FF I5 (start I5 fr5) tn5 go;rw[yA] at hit;refine thn hit ?_;rintro r s6 ⟨u,hr,h6⟩;subst hr;refine thn h6 ?_;rintro _ s7 ⟨x,H7,I7,r7,y7,tn7,fr7⟩;obtain⟨X7,S7,R7⟩:=yl x H7 y7;have X57:Ext (io++k1) k5 H1 H7:=(X25.trans S5 X7).app;have hv7:H7 Dd=some (.lst vs):=X7.keep _ _ hvs (nD nk5);have E7:EnvR X.K H7 ((io++k1)++k5) σ5 ρ5:=by
       have:=E5.ext S5 X7;rw[List.append_nil] at this;exact this
     have R7v:Reps X.K H7 ((io++k1)++k5) vs ac:=by
       have:=Rvs.ext S5 X7;rw[List.append_nil] at this;exact this
     have I7p:=I7.pinned (start I7 fr7) (T.obj _ _ tn7);rw[<-yA,<-yP,<-yW];rw[<-yx];refine thn (hg _ s7 σ5 H7 x u (fun σ8 H8=>∃ k8,Ext ((io++k1)++k5) k8 H7 H8/\StR X.K H8 (((io++k1)++k5)++k8) t6/\EnvR X.K H8 (((io++k1)++k5)++k8) σ8 ρ6) I7p r7 (by rw[yK];exact⟨dd,ρ5,st5,(io++k1)++k5,ρ6,t6,R7,E7,S7,e6,fun σ8 H8 k8 X8 S8 E8=>⟨k8,X8,S8,E8⟩⟩)) ?_;rintro _ s8 ⟨σ8,H8,I8,k8,X8,S8,E8⟩;have S8':StR X.K H8 ((io++k1)++(k5++k8)) t6:=by rw[<-List.append_assoc];exact S8
     have E8':EnvR X.K H8 ((io++k1)++(k5++k8)) σ8 ρ6:=by rw[<-List.append_assoc];exact E8
     have X38:Ext (io++k1) (k5++k8) H1 H8:=X57.trans S7 X8;have nk8:Dd ∉ k5++k8:=fun hm=>(List.mem_append.mp hm).elim nk5 (nF X8 hv7);refine thn (ht _ s8 σ8 H8 (fun b H9=>b=b7/\∃ k9,Ext ((io++k1)++(k5++k8)) k9 H8 H9/\StR X.K H9 (((io++k1)++(k5++k8))++k9) t7) I8 (by rw[yK];exact⟨ρ6,t6,(io++k1)++(k5++k8),b7,t7,E8',S8',e7,fun H9 k9 X9 S9=>⟨rfl,k9,X9,S9⟩⟩)) ?_;rintro ok s9 ⟨H9,I9,eb,k9,X9,S9⟩;subst eb;have X39:Ext (io++k1) ((k5++k8)++k9) H1 H9:=X38.trans S8' X9;have S9':StR X.K H9 ((io++k1)++((k5++k8)++k9)) t7:=by rw[<-List.append_assoc];exact S9
     have E9:EnvR X.K H9 ((io++k1)++((k5++k8)++k9)) σ8 ρ6:=by
       have:=E8'.ext S8' X9;rw[List.append_assoc] at this;exact this
     have hv8:H8 Dd=some (.lst vs):=X8.keep _ _ hv7 (nD nk5);have hv9:H9 Dd=some (.lst vs):=X9.keep _ _ hv8 (nD nk8);have nk9:Dd ∉ (k5++k8)++k9:=fun hm=>(List.mem_append.mp hm).elim nk8 (nF X9 hv8);have R8v:Reps X.K H8 ((io++k1)++(k5++k8)) vs ac:=by
       have:=R7v.ext S7 X8;rw[List.append_assoc] at this;exact this
     have R9v:Reps X.K H9 ((io++k1)++((k5++k8)++k9)) vs ac:=by
       have:=R8v.ext S8' X9;rw[List.append_assoc] at this;exact this
     have back:∀ {Hx:Hp} {sx:Shared} {σx:L2.St},Inv Y ([]++ziV fp s7.heap) σx Hx sx->Inv Y [] σx Hx sx/\tn (i+1) sx.heap/\∀ b∈fp,Hx b=none:=fun {Hx sx σx} Ix=>by
       refine⟨Ix.unpinned,T.keep _ _ _ tn7 fun b hb o e=>(Ix.pin (b,o) (List.mem_append_right _ (List.mem_append_right _ (zc4 hb e)))).1,fun b hb=>?_⟩;obtain⟨o,e,dn⟩:=T.obj _ _ tn7 b hb;exact (Ix.pin (b,o) (List.mem_append_right _ (List.mem_append_right _ (zc4 hb e)))).2.1
     cases ok with
     | false =>
       rw[if_neg (by decide)];have e5:mCI W g c m (W.ds.drop (i+1)) ρ6 t7=some (rs,t2):=e5;obtain⟨Ib,tnb,frb⟩:=back I9;exact⟨W.ds.length - (i+1),by omega,i+1,σ8,H9,ρ6,t7,(k5++k8)++k9,ac,rs,rfl,Ib,tnb,frb,X39,nk9,S9',E9,⟨vs,hv9,R9v⟩,e5,exs⟩
     | true =>
       rw[if_pos rfl];have e5:((m ρ6 t7).bind fun (x,s3)=>(mCI W g c m (W.ds.drop (i+1)) ρ6 s3).map fun (xs,s4)=>(x::xs,s4))=some (rs,t2):=e5;obtain⟨⟨x10,t10⟩,e10,e5⟩:=zae e5;obtain⟨⟨rs',t11⟩,e11,e5⟩:=zah e5;cases e5;refine thn (he _ s9 σ8 H9 (fun v H10=>∃ k10,Ext ((io++k1)++((k5++k8)++k9)) k10 H9 H10/\StR X.K H10 (((io++k1)++((k5++k8)++k9))++k10) t10/\Rep X.K H10 (((io++k1)++((k5++k8)++k9))++k10) v x10) I9
         (by rw[yK];exact⟨ρ6,t7,(io++k1)++((k5++k8)++k9),x10,t10,E9,S9',e10,fun v H10 k10 X10 S10 R10=>⟨k10,X10,S10,R10⟩⟩)) fun u10 s10 ⟨v10,H10,I10,r10,k10,X10,S10,R10⟩=>?_
       have X310:Ext (io++k1) (((k5++k8)++k9)++k10) H1 H10:=X39.trans S9' X10;have nk10:Dd ∉ ((k5++k8)++k9)++k10:=fun hm=>(List.mem_append.mp hm).elim nk9 (nF X10 hv9);have S10':StR X.K H10 ((io++k1)++(((k5++k8)++k9)++k10)) t10:=by rw[<-List.append_assoc];exact S10
       have hv10:H10 Dd=some (.lst vs):=X10.keep _ _ hv9 (nD nk9);have E10:EnvR X.K H10 ((io++k1)++(((k5++k8)++k9)++k10)) σ8 ρ6:=by
         have:=E9.ext S9' X10;rw[List.append_assoc] at this;exact this
       have R10v:Reps X.K H10 ((io++k1)++(((k5++k8)++k9)++k10)) (vs++[v10]) (ac++[x10]):=by
         have a:=R9v.ext S9' X10;rw[List.append_assoc] at a;rw[List.append_assoc] at R10;exact a.append (Reps.cons R10 Reps.nil)
       have hlen:vs.length < sizeLine:=by
         rw[R9v.length];have:=of_decide_eq_true hfit;rw[exs] at this;simp at this;omega
       refine thn (zhh _ s10 σ8 H10 (.ref Dd) [v10] (.ref Dd) [u10] (fun _ H11=>H11=upd H10 Dd (.lst (vs++[v10]))) I10 rfl (.cons r10 .nil) ⟨Dd,vs,v10,rfl,rfl,hv10,hlen,rfl⟩) ?_;rintro _ s11 ⟨_,H11,I11,_,e11'⟩;subst e11';have nD10:=nD nk10
       -- the new list is written: nothing of the store
       have XU:∀ b o,H10 b=some o->b≠Dd->upd H10 Dd (.lst (vs++[v10])) b=some o:=fun b o hb hn=>by rw[zav hn];exact hb
       have TU:Kp H10 (upd H10 Dd (.lst (vs++[v10]))):=⟨fun a ys hb=>XU a _ hb (zpy hb hv10 (by simp)),fun a o u hb=>XU a _ hb (zpy hb hv10 (by simp))⟩
       have S11:StR X.K (upd H10 Dd (.lst (vs++[v10]))) ((io++k1)++(((k5++k8)++k9)++k10)) t10:=by
         refine⟨S10'.len,S10'.nd,fun n a ob h1 h2=>?_⟩;have hne:a≠Dd:=fun z=>nD10 (by rw[<-z];exact List.mem_of_getElem? h1);have:=OR.mono (ka:=[]) TU (zav hne) (S10'.ob n a ob h1 h2);rw[List.append_nil] at this;exact this
       have mono0:∀ {v:V} {d:D},Rep X.K H10 ((io++k1)++(((k5++k8)++k9)++k10)) v d->Rep X.K (upd H10 Dd (.lst (vs++[v10]))) ((io++k1)++(((k5++k8)++k9)++k10)) v d:=fun {v d} h=>by
         have:=Rep.mono (ka:=[]) TU h;rw[List.append_nil] at this;exact this
       have mono1:∀ {v:List V} {d:List D},Reps X.K H10 ((io++k1)++(((k5++k8)++k9)++k10)) v d->Reps X.K (upd H10 Dd (.lst (vs++[v10]))) ((io++k1)++(((k5++k8)++k9)++k10)) v d:=fun {v d} h=>by
         have:=Reps.mono (ka:=[]) TU h;rw[List.append_nil] at this;exact this
       obtain⟨Ib,tnb,frb⟩:=back I11;refine⟨W.ds.length - (i+1),by omega,i+1,σ8,upd H10 Dd (.lst (vs++[v10])),ρ6,t10,((k5++k8)++k9)++k10,ac++[x10],rs',rfl,Ib,tnb,frb,⟨fun b o hb nb=>XU b o (X310.keep b o hb nb) (fun z=>by rw[z,hD] at hb;cases hb),X310.fresh,fun b o u hb=>XU b _ (X310.frz b o u hb) (fun z=>by rw[z,hD] at hb;cases hb)⟩,nk10,S11,⟨E10.len,fun j dj hj=>?_⟩,⟨_,zbs,mono1 R10v⟩,e11,by rw[exs,List.append_assoc];rfl⟩;obtain⟨v,q,r⟩:=E10.at_ j dj hj;exact⟨v,q,mono0 r⟩
 have l4:=loop s4 I4 tn4;exact codeAny_compStart_list l4 (T.self _ 0 _ _ _ tn4 l4)
theorem zc1(hx:X.xe=FF)(hc:X.calm=true)(Z:CompS X scope N' nt fr)(hi:SI X tg iter mi)
   (hg:∀ C s0 H0 fp,SG (zc8 X scope N' (zc9 X scope C) C s0 H0 fp) tg g) (ht:∀ C s0 H0 fp,SC (zc8 X scope N' (zc9 X scope C) C s0 H0 fp) ifs c) (he:∀ C s0 H0 fp,SE (zc8 X scope N' (zc9 X scope C) C s0 H0 fp) elt m)
   (hs:∀ x,foldedSetIterable iter X.env x=pure x:=by intro _;rfl):SE X (.ListComp elt [⟨tg,iter,ifs,0⟩] scope pos) (zcO mi nt fr g c m):=by
 rintro pins s σ H Q I ⟨ρ,st,io,d,st',E,S,e,k⟩;rw[eval_ListComp];refine zjF (use:=none) hx hc Z hi hg ht he hs I E S e fun Dd C H5 s6 R=>?_;obtain⟨m5,hn⟩:=R.ns;refine⟨m5,hn,fun h' hsb=>?_⟩;obtain⟨ka,X5,S5,R5⟩:=R.val;exact⟨.ref Dd,H5,R.inv.turned (t':=s6.toks) (it:=C) (fun b o hb q=>(hsb.2 b hb).trans q) R.free R.ne (.inr R.young) R.cells R.pin,rfl,k _ _ ka X5 S5 R5⟩
theorem zdi{i:Nat}{x:Str}{pos' spos:Pos}(hx:X.xe=FF)(hc:X.calm=true)(Z:CompS X scope N' nt fr)(hi:SI X tg iter mi)
   (hg:∀ C s0 H0 fp,SG (zc8 X scope N' (zc9 X scope C) C s0 H0 fp) tg g) (ht:∀ C s0 H0 fp,SC (zc8 X scope N' (zc9 X scope C) C s0 H0 fp) ifs c) (he:∀ C s0 H0 fp,SE (zc8 X scope N' (zc9 X scope C) C s0 H0 fp) elt m)
   (hN:X.N.Nodup) (hi':X.N[i]?=some x) (hl:X.env.scope.names.lookup x=some .local)
   (hsw:swapsWith (.ListComp elt [⟨tg,iter,ifs,0⟩] scope pos) (some (.Name x pos')) spos.line X.env=pure true:=by rfl)
   (hs:∀ x,foldedSetIterable iter X.env x=pure x:=by intro _;rfl):SS X (.Assign [.Name x pos'] (.ListComp elt [⟨tg,iter,ifs,0⟩] scope pos) spos) (mAsg (zcO mi nt fr g c m) (gNm i)):=by
 intro pins s σ H N I h;obtain⟨ρ,st,io,f,st',E,S,e,w⟩:=zcX.mp h;obtain⟨⟨d,s1⟩,e1,e⟩:=zae e;obtain⟨⟨ρ',s2⟩,e2,e⟩:=zah e;cases e;cases e2;rw[exec_Assign_Name_used _ _ _ _ hsw];refine wpAny_bind (wpAny_standAt (wpAny_bind ?_));show wpAny _ X.A (do let _ <-comprehension (.ListComp elt [⟨tg,iter,ifs,0⟩] scope pos) scope X.env _ (newList []) false (eval iter X.env) (some (assign (.Name x pos') X.env))) _ _ s;refine wpAny_bind (thn (zjF (use:=some (assign (.Name x pos') X.env)) (Qf:=fun _ s'=>SP X pins N .next s') hx hc Z hi hg ht he hs I E S e1 fun Dd C H5 s6 R=>?_) fun _ s' hq=>wpAny_pure (wpAny_pure hq));obtain⟨m5,hn⟩:=R.ns;obtain⟨ka,X5,S5,R5⟩:=R.val;show wpAny _ _ (assign (.Name x pos') X.env (.ref Dd)) _ _ _;refine wpAny_assign_Name (zgX (v:=.ref Dd) R.inv hN hi' (.inl hl) rfl (?_) (.inr hl));rintro s7 I7 ⟨a,sb,ha⟩;have hCa:C≠a:=fun z=>by
   rcases ha with q | q
   . exact R.ne (z.trans q)
   . exact R.cells _ _ q z.symm
 refine⟨m5,hn.sameBut sb hCa,fun h' hsb=>?_⟩;refine⟨_,H5,I7.turned (t':=s7.toks) (it:=C) (fun b o hb q=>(hsb.2 b hb).trans q) R.free R.ne (.inr R.young) R.cells R.pin,?_⟩;exact w _ _ ka X5 S5 ((E.ext S X5).set i R5)
end
end L2.MP
set_option maxHeartbeats 4000000
namespace L2.MP
open PySem PySem.Spec PyProof.Rows
section
variable {X:Cx} {e a b c:Expr} {es:List Expr} {pos:Pos} {m ma mb mc:ME} {mm:MA}
variable {K:PySem.W.Frag} {H:Hp} {io ka:List Addr} {st st':Sto}
noncomputable def addD:G2
 | .int i,.int j,st=>some (.int (i+j),st)
 | .str a,.str b,st=>if fits (a.length+b.length)=true then some (.str (a++b),st) else none
 | .tup a,.tup b,st=>if (!a.isEmpty&&fits (a.length+b.length))=true then some (.tup (a++b),st) else none
 | .ref a,.ref b,st=>match st[a]?,st[b]? with
   | some (.lst x),some (.lst y)=>if fits (x.length+y.length)=true then some (.ref st.length,st++[.lst (x++y)]) else none
   | _,_=>none
 | _,_,_=>none
theorem zaL:OpM X (binaryOp .Add) addD:=by
 rintro pins s σ H x y v u Q I rx ry ⟨dx,dy,st,io,d,st',Rx,Ry,S,e,k⟩
 cases dx with
 | int i =>
   cases dy with
   | int j=>cases e;exact zqQ pins s σ H x y v u Q I rx ry ⟨i,j,Rx,Ry,k.now S rfl⟩
   | _=>cases e
 | str i =>
   cases dy with
   | str j =>
     obtain⟨hf,e⟩:=zap e
     cases e;exact zi2 pins s σ H x y v u Q I rx ry ⟨i,j,Rx,Ry,of_decide_eq_true hf,k.now S rfl⟩
   | _=>cases e
 | tup i =>
   cases dy with
   | tup j =>
     obtain⟨hf,e⟩:=zap e;cases e;rw[Bool.and_eq_true] at hf;obtain⟨p,xs,ex,hp,r1⟩:=Rx;obtain⟨q,ys,ey,hq,r2⟩:=Ry;refine zoz pins s σ H x y v u Q I rx ry ⟨p,q,xs,ys,ex,ey,SqT.of hp,SqT.of hq,fun z=>?_,by rw[r1.length,r2.length];exact of_decide_eq_true hf.2,fun z=>?_,fun z p hp=>k.tup S (r1.append r2) hp⟩
     . have:=r1.length;rw[z] at this;have:i=[]:=List.eq_nil_of_length_eq_zero this.symm;rw[this] at hf;exact absurd hf.1 (by decide)
     . have:=r2.length;rw[z] at this;have:j=[]:=List.eq_nil_of_length_eq_zero this.symm;subst this;rw[List.append_nil] at k;exact k.now S ⟨p,xs,rfl,hp,r1⟩
   | _=>cases e
 | ref i =>
   cases dy with
   | ref j =>
     unfold addD at e;dsimp only at e
     split at e
     . rename_i l1 l2 e1 e2;obtain⟨hf,e⟩:=zap e;cases e;obtain⟨p,ex,hp⟩:=Rx;obtain⟨q,ey,hq⟩:=Ry;obtain⟨xs,h1,r1⟩:=S.ob i p _ hp e1;obtain⟨ys,h2,r2⟩:=S.ob j q _ hq e2;exact zqP pins s σ H x y v u Q I rx ry ⟨p,q,xs,ys,ex,ey,h1,h2,by rw[r1.length,r2.length];exact of_decide_eq_true hf,fun p hp=>k.lst S (r1.append r2) hp⟩
     . cases e
   | _=>cases e
 | _=>cases e
noncomputable def intD(c:Int->Int->Bool)(g:Int->Int->D):G2
 | .int i,.int j,st=>if c i j=true then some (g i j,st) else none
 | _,_,_=>none
theorem zeC{f:Value->Value->Sem Value}{C:Int->Int->Prop}{c:Int->Int->Bool}{g:Int->Int->Int}(h:OpR X f (rI C fun i j=>.int (g i j)))(hc:∀ i j,c i j=true->C i j):OpM X f (intD c fun i j=>.int (g i j)):=by
 rintro pins s σ H x y v u Q I rx ry ⟨dx,dy,st,io,d,st',Rx,Ry,S,e,k⟩
 cases dx with
 | int i =>
   cases dy with
   | int j =>
     obtain⟨hf,e⟩:=zap e
     cases e;exact h pins s σ H x y v u Q I rx ry ⟨i,j,Rx,Ry,hc i j hf,k.now S rfl⟩
   | _=>cases e
 | _=>cases e
noncomputable def tt2:Int->Int->Bool:=fun _ _=>true
noncomputable def subD:G2:=intD tt2 fun i j=>.int (i - j)
theorem zeA:OpM X (binaryOp .Sub) subD:=zeC (C:=fun _ _=>True) (fun pins s σ H x y v u Q I rx ry ⟨i,j,h1,h2,_,q⟩=>zqL pins s σ H x y v u Q I rx ry ⟨i,j,h1,h2,q⟩) fun _ _ _=>trivial
noncomputable def in64(i:Int):Bool:=decide (-(2 ^ 64) < i)&&decide (i < 2 ^ 64)
noncomputable def mulD:G2:=intD (fun i j=>in64 i || in64 j) fun i j=>.int (i*j)
theorem zov:OpM X (binaryOp .Mult) mulD:=zeC zqM fun i j h=>by
 rw[Bool.or_eq_true] at h;unfold in64 at h;rw[Bool.and_eq_true,Bool.and_eq_true] at h
 rcases h with h | h
 . exact .inl ⟨of_decide_eq_true h.1,of_decide_eq_true h.2⟩
 . exact .inr ⟨of_decide_eq_true h.1,of_decide_eq_true h.2⟩
noncomputable def modD:G2:=intD (fun _ j=>decide (0 < j)) fun i j=>.int (i % j)
theorem zcj:OpM X (binaryOp .Mod) modD:=zeC zqN fun i j h=>of_decide_eq_true h
noncomputable def cmpD(g:Int->Int->Bool):G2
 | .int i,.int j,st=>some (.bl (g i j),st)
 | _,_,_=>none
theorem zhb{f:Value->Value->Sem Value}{g:Int->Int->Bool}(h:OpR X f (rI0 fun i j=>.bl (g i j))):OpM X f (cmpD g):=by
 rintro pins s σ H x y v u Q I rx ry ⟨dx,dy,st,io,d,st',Rx,Ry,S,e,k⟩
 cases dx with
 | int i =>
   cases dy with
   | int j=>cases e;exact h pins s σ H x y v u Q I rx ry ⟨i,j,Rx,Ry,k.now S rfl⟩
   | _=>cases e
 | _=>cases e
noncomputable def ltD:G2:=cmpD fun i j=>decide (i < j)
noncomputable def leD:G2:=cmpD fun i j=>decide (i<=j)
noncomputable def gtD:G2:=cmpD fun i j=>decide (j < i)
noncomputable def geD:G2:=cmpD fun i j=>decide (j<=i)
theorem zow:OpM X (compareOp .Lt) ltD:=zhb zso
theorem zmz:OpM X (compareOp .LtE) leD:=zhb zsp
theorem zoy:OpM X (compareOp .Gt) gtD:=zhb zsq
theorem zkA:OpM X (compareOp .GtE) geD:=zhb zsr
noncomputable def znA:D->Bool
 | .non=>true
 | _=>false
noncomputable def zny:G2:=fun x y st=>match y with
 | .non=>some (.bl !znA x,st)
 | _=>none
theorem zob{v:V}{d:D}(h:Rep K H io v d):decide (v=.non)=znA d:=by
 cases d with
 | non=>cases (show v=.non from h);rfl
 | bl b=>cases (show v=.bl b from h);rfl
 | int b=>cases (show v=.int b from h);rfl
 | str b=>cases (show v=.str b from h);rfl
 | tup b=>obtain⟨a,xs,rfl,_⟩:=h;rfl
 | ref b=>obtain⟨a,rfl,_⟩:=h;rfl
 | kl b=>obtain⟨a,xs,rfl,_⟩:=h;rfl
theorem zmw:OpM X (compareOp .IsNot) zny:=by
 rintro pins s σ H x y v u Q I rx ry ⟨dx,dy,st,io,d,st',Rx,Ry,S,e,k⟩
 cases dy with
 | non =>
   cases e;refine zou pins s σ H x y v u Q I rx ry ⟨Ry,?_⟩;rw[zob Rx];exact k.now S rfl
 | _=>cases e
noncomputable def negD:D->Sto->Option (D×Sto)
 | .int i,st=>some (.int (-i),st)
 | _,_=>none
noncomputable def mNeg(m:ME):ME:=fun ρ st=>(m ρ st).bind fun (x,s)=>negD x s
theorem zqd(ha:SE X a ma):SE X (.UnaryOp .USub a pos) (mNeg ma):=PE.imp (zsj zpO ha) <| by
 rintro σ H Q ⟨ρ,st,io,d,st',E,S,e,k⟩;obtain⟨⟨x,s1⟩,e1,e⟩:=zae e
 cases x with
 | int i =>
   cases e;exact⟨ρ,st,io,.int i,_,E,S,e1,fun v H1 k1 X1 S1 R1=>⟨i,R1,k _ H1 k1 X1 S1 rfl⟩⟩
 | _=>cases e
noncomputable def idxD:G2
 | .tup ds,.int i,st=>(atI ds i).map fun d=>(d,st)
 | .ref n,.int i,st=>(zbu st n).bind fun ds=>(atI ds i).map fun d=>(d,st)
 | .kl ds,.int i,st=>(atI ds i).map fun d=>(d,st)
 | .str z,.int i,st=>if fits z.length=true then (atI z.cps.toList i).map fun c=>(.str ⟨#[c]⟩,st) else none
 | _,_,_=>none
theorem zjS{xs:List V}{ds:List D}{i:Int}{d:D}(r:Reps K H io xs ds)(h:atI ds i=some d):∃ v,atI xs i=some v/\Rep K H io v d:=by
 unfold atI at h ⊢;rw[r.length];obtain⟨j,hj,h⟩:=zae h;obtain⟨v,hv,rv⟩:=r.get h;exact⟨v,by rw[hj];exact hv,rv⟩
theorem ix_M:IxR X (r2M X.K idxD):=by
 rintro value slice pins s σ H x y v u Q I rx ry ⟨dx,dy,st,io,d,st',Rx,Ry,S,e,k⟩ hs
 cases dy with
 | int i =>
   cases dx with
   | tup ds =>
     obtain⟨d',e1,e⟩:=zah e;cases e;obtain⟨p,xs,ex,hp,r⟩:=Rx;obtain⟨w,hw,rw'⟩:=zjS r e1;exact zaQ value slice pins s σ H x y v u Q I rx ry ⟨p,xs,i,w,ex,Ry,SqT.of hp,hw,k.now S rw'⟩ hs
   | ref n =>
     obtain⟨ds,e0,e⟩:=zae e;obtain⟨d',e1,e⟩:=zah e;cases e;obtain⟨p,ex,hp⟩:=Rx;obtain⟨xs,hx,r⟩:=za7 S hp e0;obtain⟨w,hw,rw'⟩:=zjS r e1;exact zlt value slice pins s σ H x y v u Q I rx ry ⟨p,xs,i,w,ex,Ry,hx,hw,k.now S rw'⟩ hs
   | kl ds =>
     obtain⟨d',e1,e⟩:=zah e;cases e;obtain⟨p,xs,ex,hx,r⟩:=Rx;obtain⟨w,hw,rw'⟩:=zjS r e1;exact zlt value slice pins s σ H x y v u Q I rx ry ⟨p,xs,i,w,ex,Ry,hx.sq,hw,k.now S rw'⟩ hs
   | str z =>
     obtain⟨hf,e⟩:=zap e;obtain⟨d',e1,e⟩:=zah e;cases e;exact zjl value slice pins s σ H x y v u Q I rx ry ⟨z,i,d',Rx,Ry,of_decide_eq_true hf,e1,k.now S rfl⟩ hs
   | _=>cases e
 | _=>cases dx <;> cases e
theorem zsd(ha:SE X a ma)(hb:SE X b mb)(hs:zjX b:=by intro _ _;rfl):SE X (.Subscript a b pos) (mBin idxD ma mb):=PE.imp (zsl ix_M ha hb hs) fun _ _ _ h=>zdM h
noncomputable def lenD:GN
 | [.tup ds],st=>some (.int ds.length,st)
 | [.ref n],st=>(zbu st n).map fun ds=>(.int ds.length,st)
 | [.kl ds],st=>some (.int ds.length,st)
 | [.str z],st=>if fits z.length=true then some (.int z.length,st) else none
 | _,_=>none
theorem zbx:zdt X (.builtin "len") lenD:=by
 rintro pins s σ H xs us Q I r ⟨ds,st,io,d,st',R,S,e,k⟩
 cases ds with
 | nil=>cases e
 | cons d0 r0 =>
 cases r0 with
 | cons d1 r1=>cases d0 <;> cases e
 | nil =>
 cases d0 with
 | tup ts =>
   cases e;obtain⟨v,rfl,p,ys,rfl,hp,r1⟩:=R.one;refine zcR pins s σ H _ us Q I r ⟨p,ys,rfl,.inr (SqT.of hp),?_⟩;rw[r1.length];exact k.now S rfl
 | ref n =>
   obtain⟨ts,e0,e⟩:=zah e;cases e;obtain⟨v,rfl,p,rfl,hp⟩:=R.one;obtain⟨ys,hx,r1⟩:=za7 S hp e0;refine zcR pins s σ H _ us Q I r ⟨p,ys,rfl,.inl hx,?_⟩;rw[r1.length];exact k.now S rfl
 | kl ts =>
   cases e;obtain⟨v,rfl,p,ys,rfl,hx,r1⟩:=R.one;refine zcR pins s σ H _ us Q I r ⟨p,ys,rfl,.inl hx.sq,?_⟩;rw[r1.length];exact k.now S rfl
 | str z =>
   obtain⟨hf,e⟩:=zap e;cases e;obtain⟨v,rfl,rfl⟩:=R.one;exact zgP pins s σ H _ us Q I r ⟨z,rfl,of_decide_eq_true hf,k.now S rfl⟩
 | _=>cases e
noncomputable def intC:GN
 | [.int i],st=>some (.int i,st)
 | [.bl b],st=>some (.int (if b then 1 else 0),st)
 | _,_=>none
theorem zk6:zdt X (.type "int") intC:=by
 rintro pins s σ H xs us Q I r ⟨ds,st,io,d,st',R,S,e,k⟩
 cases ds with
 | nil=>cases e
 | cons d0 r0 =>
 cases r0 with
 | cons d1 r1=>cases d0 <;> cases e
 | nil =>
 cases d0 with
 | int i =>
   cases e;obtain⟨v,rfl,rfl⟩:=R.one;exact zhx pins s σ H _ us Q I r (.inl ⟨i,rfl,k.now S rfl⟩)
 | bl b =>
   cases e;obtain⟨v,rfl,rfl⟩:=R.one;exact zhx pins s σ H _ us Q I r (.inr ⟨b,rfl,k.now S rfl⟩)
 | _=>cases e
noncomputable def zoN:GN
 | [.int i,.int j],st=>some (.int (if j < i then j else i),st)
 | _,_=>none
theorem zk4(hc:X.calm=true):zdt X (.builtin "min") zoN:=by
 rintro pins s σ H xs us Q I r ⟨ds,st,io,d,st',R,S,e,k⟩;unfold zoN at e
 split at e
 . rename_i i j;cases e;obtain⟨v,u,rfl,rfl,rfl⟩:=R.two;exact zk5 hc pins s σ H _ us Q I r ⟨i,j,rfl,k.now S rfl⟩
 . cases e
noncomputable def zq3:GN
 | [.tup ds],st=>if fits ds.length=true then some (.ref st.length,st++[.lst ds]) else none
 | [.ref n],st=>(zbu st n).bind fun ds=>if fits ds.length=true then some (.ref st.length,st++[.lst ds]) else none
 | [.kl ds],st=>if fits ds.length=true then some (.ref st.length,st++[.lst ds]) else none
 | _,_=>none
theorem zjL:zdt X (.type "list") zq3:=by
 rintro pins s σ H xs us Q I r ⟨ds,st,io,d,st',R,S,e,k⟩
 cases ds with
 | nil=>cases e
 | cons d0 r0 =>
 cases r0 with
 | cons d1 r1=>cases d0 <;> cases e
 | nil =>
 cases d0 with
 | tup ts =>
   obtain⟨hf,e⟩:=zap e;cases e;obtain⟨v,rfl,p,ys,rfl,hp,r1⟩:=R.one;exact zcQ pins s σ H _ us Q I r ⟨p,ys,rfl,.inr (SqT.of hp),fun l hl=>k.lst S r1 hl⟩
 | ref n =>
   obtain⟨ts,e0,e⟩:=zae e;obtain⟨hf,e⟩:=zap e;cases e;obtain⟨v,rfl,p,rfl,hp⟩:=R.one;obtain⟨ys,hx,r1⟩:=za7 S hp e0;exact zcQ pins s σ H _ us Q I r ⟨p,ys,rfl,.inl hx,fun l hl=>k.lst S r1 hl⟩
 | kl ts =>
   obtain⟨hf,e⟩:=zap e;cases e;obtain⟨v,rfl,p,ys,rfl,hx,r1⟩:=R.one;exact zcQ pins s σ H _ us Q I r ⟨p,ys,rfl,.inl hx.sq,fun l hl=>k.lst S r1 hl⟩
 | _=>cases e
noncomputable def zdN:GN
 | [.tup ds],st=>some (.tup ds,st)
 | [.ref n],st=>(zbu st n).map fun ds=>(.tup ds,st)
 | _,_=>none
theorem zbC:zdt X (.type "tuple") zdN:=by
 rintro pins s σ H xs us Q I r ⟨ds,st,io,d,st',R,S,e,k⟩
 cases ds with
 | nil=>cases e
 | cons d0 r0 =>
 cases r0 with
 | cons d1 r1=>cases d0 <;> cases e
 | nil =>
 cases d0 with
 | tup ts =>
   cases e;obtain⟨v,rfl,p,ys,rfl,hp,r1⟩:=R.one;exact zdw pins s σ H _ us Q I r ⟨p,ys,rfl,.inr ⟨SqT.of hp,k.now S ⟨p,ys,rfl,hp,r1⟩⟩⟩
 | ref n =>
   obtain⟨ts,e0,e⟩:=zah e;cases e;obtain⟨v,rfl,p,rfl,hp⟩:=R.one;obtain⟨ys,hx,r1⟩:=za7 S hp e0;exact zdw pins s σ H _ us Q I r ⟨p,ys,rfl,.inl ⟨hx,fun l hl=>k.tup S r1 hl⟩⟩
 | _=>cases e
end
end L2.MP
set_option maxHeartbeats 4000000
namespace L2.MP
open PySem PySem.Spec PyProof.Rows
noncomputable def toPs(f:D->Option PyData):List D->Option (List PyData)
 | []=>some []
 | d::ds=>(f d).bind fun p=>(toPs f ds).map fun ps=>p::ps
noncomputable def toP:Nat->Sto->D->Option PyData
 | 0,_,_=>none
 | n+1,st,d=>match d with
   | .non=>some .none
   | .bl b=>some (.bool b)
   | .int i=>some (.int i)
   | .str x=>if PyData.strOk x=true then some (.str x) else none
   | .tup ds=>(toPs (toP n st) ds).map .tuple
   | .ref k=>(zbu st k).bind fun ds=>(toPs (toP n st) ds).map .list
   | .kl _=>none
theorem zdq{n:Nat}:∀ {ps:List PyData},(∀ p∈ps,p.depth<=n)->PyData.depthAll ps<=n
 | [],_=>by rw[PyData.depthAll];exact Nat.zero_le _
 | p::ps,h=>by
   rw[PyData.depthAll];exact Nat.max_le.mpr ⟨h p List.mem_cons_self,zdq fun q hq=>h q (List.mem_cons_of_mem _ hq)⟩
theorem zd9{ps:List PyData}:(∀ p∈ps,p.canLay0=true)->PyData.canLayAll0 ps=true:=by
 induction ps with
 | nil=>intro _;simp only[PyData.canLayAll0]
 | cons p ps ih =>
   intro h;simp only[PyData.canLayAll0];rw[h p List.mem_cons_self,ih fun q hq=>h q (List.mem_cons_of_mem _ hq)];rfl
theorem zgm{f:D->Option PyData}:∀ {ds:List D} {ps:List PyData},toPs f ds=some ps->∀ p∈ps,∃ d,f d=some p
 | [],ps,h,p,hp=>by cases h;exact absurd hp (by simp)
 | d::ds,ps,h,p,hp=>by
   obtain⟨q,e1,h⟩:=zae h;obtain⟨qs,e2,h⟩:=zah h;subst h
   rcases List.mem_cons.mp hp with rfl | hp
   . exact⟨d,e1⟩
   . exact zgm e2 p hp
theorem zdO:∀ {n:Nat} {st:Sto} {d:D} {p:PyData},toP n st d=some p->p.canLay0=true/\p.depth<=n
 | 0,_,_,_,h=>by cases h
 | n+1,st,d,p,h=>by
   cases d with
   | non=>cases h;exact⟨by simp only[PyData.canLay0],by simp only[PyData.depth];exact Nat.zero_le _⟩
   | bl b=>cases h;exact⟨by simp only[PyData.canLay0],by simp only[PyData.depth];exact Nat.zero_le _⟩
   | int b=>cases h;exact⟨by simp only[PyData.canLay0],by simp only[PyData.depth];exact Nat.zero_le _⟩
   | str b =>
     obtain⟨hs,h⟩:=zap h
     cases h;exact⟨by simp only[PyData.canLay0];exact hs,by simp only[PyData.depth];exact Nat.zero_le _⟩
   | tup ds =>
     obtain⟨ps,e,h⟩:=zah h;subst h;have q:∀ p∈ps,p.canLay0=true/\p.depth<=n:=fun p hp=>let ⟨d,hd⟩:=zgm e p hp;zdO hd
     exact⟨by simp only[PyData.canLay0];exact zd9 fun p hp=>(q p hp).1,by simp only[PyData.depth];exact Nat.succ_le_succ (zdq fun p hp=>(q p hp).2)⟩
   | kl ds=>cases h
   | ref k =>
     obtain⟨ds,e0,h⟩:=zae h;obtain⟨ps,e,h⟩:=zah h;subst h;have q:∀ p∈ps,p.canLay0=true/\p.depth<=n:=fun p hp=>let ⟨d,hd⟩:=zgm e p hp;zdO hd
     exact⟨by simp only[PyData.canLay0];exact zd9 fun p hp=>(q p hp).1,by simp only[PyData.depth];exact Nat.succ_le_succ (zdq fun p hp=>(q p hp).2)⟩
section
variable {X:Cx} {a b:Expr} {pos:Pos} {ma mb:ME} {pins:List (Addr×Obj)} {σ:L2.St} {H:Hp} {s:Shared} {io:List Addr} {st:Sto}
theorem zdk{f:D->Option PyData}(hf:∀ {v:V} {u:Value} {d:D} {p:PyData},Rep X.K H io v d->RelV v u->f d=some p->∃ as,Reads s.heap u p as) :
   ∀ {xs:List V} {us:List Value} {ds:List D} {ps:List PyData},Reps X.K H io xs ds->Vals xs us->toPs f ds=some ps->∃ as,ReadsAll s.heap us ps as
 | _,_,[],ps,h,r,e=>by
   cases (show _=[] from h)
   cases r;cases e;exact⟨_,.nil⟩
 | _,_,d::ds,ps,h,r,e=>by
   obtain⟨y,ys,rfl,h1,h2⟩:=h
   cases r with
   | cons r1 r2 =>
     obtain⟨q,e1,e⟩:=zae e;obtain⟨qs,e2,e⟩:=zah e;subst e;obtain⟨as,ra⟩:=hf h1 r1 e1;obtain⟨bs,rb⟩:=zdk hf h2 r2 e2;exact⟨_,.cons ra rb⟩
theorem zbQ(I:Inv X pins σ H s)(S:StR X.K H io st):∀ {n:Nat} {v:V} {u:Value} {d:D} {p:PyData},Rep X.K H io v d->RelV v u->toP n st d=some p->∃ as,Reads s.heap u p as
 | 0,_,_,_,_,_,_,h=>by cases h
 | n+1,v,u,d,p,h,r,e=>by
   cases d with
   | non=>cases e;cases (show v=.non from h);cases r;exact⟨_,.none⟩
   | bl b=>cases e;cases (show v=.bl b from h);cases r;exact⟨_,.bool _⟩
   | int b=>cases e;cases (show v=.int b from h);obtain⟨t,rfl⟩:=r;exact⟨_,.int _ _⟩
   | str b =>
     obtain⟨hs,e⟩:=zap e
     cases e;cases (show v=.str b from h);obtain⟨t,rfl⟩:=r;exact⟨_,.str _ _⟩
   | tup ds =>
     obtain⟨ps,e',q⟩:=zah e;subst q;obtain⟨a,xs,rfl,ha,rs⟩:=h;cases r;obtain⟨its,rv,⟨o,ho,hc,k,hd⟩,hz⟩:=I.tuple (SqT.of ha);obtain⟨as,ra⟩:=zdk (f:=toP n st) (fun h r e=>zbQ I S h r e) rs rv e';exact⟨_,.tuple ho hc hd (by simpa using ra)⟩
   | kl ds=>cases e
   | ref k =>
     obtain⟨ds,e0,e⟩:=zae e;obtain⟨ps,e',q⟩:=zah e;subst q;obtain⟨a,rfl,ha⟩:=h;cases r;obtain⟨xs,hx,rs⟩:=za7 S ha e0;obtain⟨its,rv,⟨o,k,ho,hc,_,hd⟩,hz⟩:=I.list hx;obtain⟨as,ra⟩:=zdk (f:=toP n st) (fun h r e=>zbQ I S h r e) rs rv e';exact⟨_,.list ho hc hd (by simpa using ra)⟩
noncomputable def eqD:G2:=fun x y st=>(toP 100 st x).bind fun p=>(toP 100 st y).map fun q=>(.bl (PyData.eqv p q),st)
noncomputable def neD:G2:=fun x y st=>(toP 100 st x).bind fun p=>(toP 100 st y).map fun q=>(.bl !PyData.eqv p q,st)
theorem zfN(hu:X.A.units+100 < cLine):OpM X (compareOp .Eq) eqD:=by
 rintro pins s σ H x y v u Q I rx ry ⟨dx,dy,st,io,d,st',Rx,Ry,S,e,k⟩;obtain⟨p,e1,e⟩:=zae e;obtain⟨q,e2,e⟩:=zah e;cases e;obtain⟨as,ra⟩:=zbQ I S Rx rx e1;obtain⟨bs,rb⟩:=zbQ I S Ry ry e2;have h1:=zdO e1;have h2:=zdO e2;exact PySem.SeqAt.compareEq_reads ra rb h1.1 h2.1 (Nat.lt_of_le_of_lt (Nat.add_le_add_left (Nat.le_trans (Nat.min_le_left _ _) h1.2) _) hu) ⟨.bl _,H,I,rfl,k.now S rfl⟩
theorem zi1(hu:X.A.units+100 < cLine):OpM X (compareOp .NotEq) neD:=by
 rintro pins s σ H x y v u Q I rx ry ⟨dx,dy,st,io,d,st',Rx,Ry,S,e,k⟩;obtain⟨p,e1,e⟩:=zae e;obtain⟨q,e2,e⟩:=zah e;cases e;obtain⟨as,ra⟩:=zbQ I S Rx rx e1;obtain⟨bs,rb⟩:=zbQ I S Ry ry e2;have h1:=zdO e1;have h2:=zdO e2;exact PySem.SeqAt.compareNe_reads ra rb h1.1 h2.1 (Nat.lt_of_le_of_lt (Nat.add_le_add_left (Nat.le_trans (Nat.min_le_left _ _) h1.2) _) hu) ⟨.bl _,H,I,rfl,k.now S rfl⟩
theorem zbt{k:Nat}{A:Around}(hr:Room k A):A.units+100 < cLine:=by have:=hr.un;omega
end
end L2.MP
set_option maxHeartbeats 4000000
namespace L2.MP
open PySem PySem.Spec PyProof.Rows
section
variable {X:Cx} {pins:List (Addr×Obj)} {σ:L2.St} {H:Hp} {s:Shared} {h':Heap}
theorem Inv.turnNew{t':Nat}{fp:List Addr}{p:Addr}{o:HO}(I:Inv X pins σ H s)(hf:∀ b∈fp,FpOk X pins H b)(k:∀ b ob,b ∉ fp->s.heap.get? b=some ob->h'.get? b=some ob)(hp:s.heap.objs.size<=p)
   (hfp:∀ b∈fp,∀ ob,s.heap.get? b=some ob->∃ ob',h'.get? b=some ob') (new:zdc X.prog X.w (upd H p o) h' p o):Inv X pins σ (upd H p o) { s with heap:=h',toks:=t' }:=by
 have hpn:=I.hok.fresh hp;have nlt:∀ b ob,s.heap.get? b=some ob->b≠p:=fun b ob e=>Nat.ne_of_lt (Nat.lt_of_lt_of_le (Heap.lt_size e) hp);refine Inv.step (ch:=fp) (g':=s.gens) (d':=s.drawn) I (fun b hb=>⟨(hf b hb).2.2.2.1,(hf b hb).2.1,(hf b hb).2.2.2.2.1,(hf b hb).2.2.2.2.2⟩) (fun b ob _ _ hc e _=>k b ob hc e) (fun b ob _ _ hc e _=>⟨ob.slots,k b ob hc e⟩)
   (fun b ob hc e n=>by rw[zav (nlt b ob e)];exact n) (fun b ob hc e=>⟨ob,k b ob hc e⟩) (fun b xs e=>by rw[zav (zau e hpn)];exact e) (fun b ob u e=>by rw[zav (zau e hpn)];exact e)
   (fun b ps e=>⟨#[],by rw[zav (zau e hpn),e];simp⟩) (fun m hm=>?_) (fun b u e=>?_) I.bare
 . obtain⟨ob,es,ep,ho,r⟩:=hm;exact⟨ob,es,ep,k _ ob (fun z=>(hf _ z).2.1 rfl) ho,r⟩
 . by_cases hb:b=p
   . subst hb;rw[zbs] at e;cases e;exact new
   . rw[zav hb] at e;refine (I.hok b u e).stay (fun c v hc q=>k c v (fun z=>?_) q) (fun c q=>by rw[zav (zau q hpn)];exact q) fun c xs q=>by rw[zav (zau q hpn)];exact q
     have hz:=(hf c z).1
     rcases hc with rfl | hc
     . rw[hz] at e;cases e
     . rw[hz] at hc;cases hc
theorem Inv.turnAll{t':Nat}{fp:List Addr}(I:Inv X pins σ H s)(hf:∀ b∈fp,FpOk X pins H b)(k:∀ b ob,b ∉ fp->s.heap.get? b=some ob->h'.get? b=some ob):Inv X pins σ H { s with heap:=h',toks:=t' }:=by
 refine Inv.step (ch:=fp) (g':=s.gens) (d':=s.drawn) I (fun b hb=>⟨(hf b hb).2.2.2.1,(hf b hb).2.1,(hf b hb).2.2.2.2.1,(hf b hb).2.2.2.2.2⟩) (fun b ob _ _ hc e _=>k b ob hc e) (fun b ob _ _ hc e _=>⟨ob.slots,k b ob hc e⟩)
   (fun b ob hc e n=>n) (fun b ob hc e=>⟨ob,k b ob hc e⟩) (fun b xs e=>e) (fun b ob u e=>e)
   (fun b ps e=>⟨#[],by rw[e];simp⟩) (fun m hm=>?_) (fun b u e=>?_) I.bare
 . obtain⟨ob,es,ep,ho,r⟩:=hm;exact⟨ob,es,ep,k _ ob (fun z=>(hf _ z).2.1 rfl) ho,r⟩
 . refine (I.hok b u e).stay (fun c v hc q=>k c v (fun z=>?_) q) (fun c q=>q) fun c xs q=>q;have hz:=(hf c z).1
   rcases hc with rfl | hc
   . rw[hz] at e;cases e
   . rw[hz] at hc;cases hc
end
section
variable {X:Cx} {m:ME}
theorem boot_enumerate:bootBuiltins "enumerate"=some (.type "enumerate"):=by decide +kernel
noncomputable def pairs(ds:List D):List D:=(ds.zipIdx).map fun (d,k)=>.tup [.int (k:Nat),d]
theorem zkw{ds:List D}{i:Nat}{d:D}(h:(pairs ds)[i]?=some d):∃ e,ds[i]?=some e/\d=.tup [.int (i:Nat),e]:=by
 unfold pairs at h;rw[List.getElem?_map,List.getElem?_zipIdx] at h
 cases e:ds[i]? with
 | none=>rw[e] at h;cases h
 | some x =>
   rw[e] at h;simp at h;exact⟨x,rfl,h.symm⟩
theorem pairs_len(ds:List D):(pairs ds).length=ds.length:=by unfold pairs;simp
end
end L2.MP
set_option maxHeartbeats 4000000
namespace L2.MP
open PySem PySem.Spec PyProof.Rows
section
variable {κ:Type} [DecidableEq κ] {K:PySem.W.Frag} {H:Hp} {io:List Addr}
noncomputable def valD(kvs:List (κ×D))(k:κ):Option D:=(kvs.find? fun kv=>decide (kv.1=k)).map (·.2)
noncomputable def putD(kvs:List (κ×D))(k:κ)(d:D):List (κ×D) :=
 if (kvs.any fun kv=>decide (kv.1=k))=true then kvs.map (fun kv=>if kv.1=k then (kv.1,d) else kv) else kvs++[(k,d)]
theorem KR.any{ps:List (κ×V)}{kvs:List (κ×D)}(r:KR κ K H io ps kvs)(k:κ):(ps.any fun kv=>decide (kv.1=k))=(kvs.any fun kv=>decide (kv.1=k)):=by
 induction r with
 | nil=>rfl
 | cons z t ih=>rw[List.any_cons,List.any_cons,ih,z.1]
theorem KR.length{ps:List (κ×V)}{kvs:List (κ×D)}(r:KR κ K H io ps kvs):ps.length=kvs.length:=Paired.length r
theorem KR.val{ps:List (κ×V)}{kvs:List (κ×D)}(r:KR κ K H io ps kvs)(k:κ):(valD kvs k=none/\valV ps k=none)\/∃ d v,valD kvs k=some d/\valV ps k=some v/\Rep K H io v d:=by
 induction r with
 | nil=>exact .inl ⟨rfl,rfl⟩
 | @cons p q l1 l2 z t ih =>
   unfold valD valV at *;rw[List.find?_cons,List.find?_cons,z.1]
   by_cases e:q.1=k
   . rw[decide_eq_true e];exact .inr ⟨q.2,p.2,rfl,rfl,z.2⟩
   . rw[decide_eq_false e];exact ih
theorem KR.append{ps qs:List (κ×V)}{kvs lvs:List (κ×D)}(r:KR κ K H io ps kvs)(r':KR κ K H io qs lvs):KR κ K H io (ps++qs) (kvs++lvs):=by
 induction r with
 | nil=>exact r'
 | cons z t ih=>exact .cons z ih
theorem KR.put{ps:List (κ×V)}{kvs:List (κ×D)}(r:KR κ K H io ps kvs)(k:κ){v:V}{d:D}(rv:Rep K H io v d):KR κ K H io (putK ps k v) (putD kvs k d):=by
 unfold putK putD;rw[KR.any r k]
 by_cases e:(kvs.any fun kv=>decide (kv.1=k))=true
 . rw[if_pos e,if_pos e]
   induction r with
   | nil=>exact .nil
   | @cons p q l1 l2 z t ih =>
     rw[List.map_cons,List.map_cons];have hrest:KR κ K H io (l1.map fun kv=>if kv.1=k then (kv.1,v) else kv) (l2.map fun kv=>if kv.1=k then (kv.1,d) else kv):=by
       clear ih e
       induction t with
       | nil=>exact .nil
       | @cons p q l1 l2 z t ih =>
         rw[List.map_cons,List.map_cons];refine .cons ?_ ih;rw[z.1]
         by_cases e:q.1=k
         . rw[if_pos e,if_pos e];exact⟨rfl,rv⟩
         . rw[if_neg e,if_neg e];exact z
     refine .cons ?_ hrest;rw[z.1]
     by_cases e:q.1=k
     . rw[if_pos e,if_pos e];exact⟨rfl,rv⟩
     . rw[if_neg e,if_neg e];exact z
 . rw[if_neg e,if_neg e];exact KR.append r (.cons ⟨rfl,rv⟩ .nil)
end
noncomputable def keyOf:D->Option Key
 | .int i=>some (.inl i)
 | .str x=>some (.inr x)
 | _=>none
noncomputable def keysOf:List D->Option (List Key)
 | []=>some []
 | d::ds=>(keyOf d).bind fun k=>(keysOf ds).map fun ks=>k::ks
section
variable {X:Cx} {K:PySem.W.Frag} {H:Hp} {io:List Addr} {st st':Sto} {a b e:Expr} {es:List Expr} {ma mb m:ME} {mm:MA} {pos:Pos}
theorem zdL{v:V}{d:D}{k:Key}(h:Rep K H io v d)(e:keyOf d=some k):v=kV k:=by
 cases d with
 | int i=>cases e;exact h
 | str i=>cases e;exact h
 | _=>cases e
theorem zcb:∀ {xs:List V} {ds:List D} {ks:List Key},Reps K H io xs ds->keysOf ds=some ks->xs=ks.map kV
 | _,[],ks,h,e=>by cases e;exact h
 | _,d::ds,ks,h,e=>by
   obtain⟨y,ys,rfl,h1,h2⟩:=h;obtain⟨k,e1,e⟩:=zae e;obtain⟨ks',e2,e⟩:=zah e;subst e;rw[zdL h1 e1,zcb h2 e2];rfl
noncomputable def look(st:Sto)(n:Nat)(k:D):Option (Option D):=match st[n]? with
 | some (.dk kvs)=>(keyOf k).map fun q=>valD kvs q
 | some (.dt kvs)=>match k with
   | .tup ds=>(keysOf ds).map fun q=>valD kvs q
   | _=>none
 | _=>none
theorem zgH{n:Nat}{p:Addr}{k:D}{y:V}{r:Option D}(S:StR K H io st)(hp:io[n]?=some p)(ry:Rep K H io y k)(h:look st n k=some r):∃ o,DGet H p y o/\((r=none/\o=none)\/∃ d v,r=some d/\o=some v/\Rep K H io v d):=by
 unfold look at h
 split at h
 . rename_i kvs e;obtain⟨q,e1,h⟩:=zah h;subst h;obtain⟨ps,hH,r⟩:=S.ob n p _ hp e;have ey:=zdL ry e1;subst ey;refine⟨_,DGet.k hH,?_⟩
   rcases KR.val r q with ⟨h1,h2⟩ | ⟨d,v,h1,h2,h3⟩
   . exact .inl ⟨h1,h2⟩
   . exact .inr ⟨d,v,h1,h2,h3⟩
 . rename_i kvs e
   split at h
   . rename_i ds;obtain⟨q,e1,h⟩:=zah h;subst h;obtain⟨ps,hH,r⟩:=S.ob n p _ hp e;obtain⟨b,xs,rfl,hb,rs⟩:=ry;have ex:=zcb rs e1;subst ex;refine⟨_,DGet.t hH hb,?_⟩
     rcases KR.val r q with ⟨h1,h2⟩ | ⟨d,v,h1,h2,h3⟩
     . exact .inl ⟨h1,h2⟩
     . exact .inr ⟨d,v,h1,h2,h3⟩
   . cases h
 . cases h
noncomputable def zrL(md mk:ME):ME:=fun ρ st=>(md ρ st).bind fun (d,s1)=>(mk ρ s1).bind fun (k,s2)=>match d with
 | .ref n=>(look s2 n k).bind fun r=>r.map fun v=>(v,s2)
 | _=>none
theorem zn7{o i:Expr}{md mk:ME}(hu:X.A.units+1 < cLine)(ho:SE X o md)(hi:SE X i mk)(hs:NoSl i:=by intro _ _;rfl):SE X (.Subscript o i pos) (zrL md mk):=PE.imp (zlm hu ho hi hs) <| by
 rintro σ H Q ⟨ρ,st,io,d,st',E,S,e,k⟩;obtain⟨⟨x,s1⟩,e1,e⟩:=zae e;obtain⟨⟨y,s2⟩,e2,e⟩:=zae e
 cases x with
 | ref n =>
   obtain⟨r,e3,e⟩:=zae e;obtain⟨w,e4,e⟩:=zah e;cases e;subst e4;refine⟨ρ,st,io,_,s1,E,S,e1,fun v1 H1 k1 X1 S1 R1=>⟨ρ,s1,io++k1,y,_,E.ext S X1,S1,e2,fun v2 H2 k2 X2 S2 R2=>?_⟩⟩;obtain⟨p,rfl,hp⟩:=R1;obtain⟨o,g,⟨z,_⟩ | ⟨d',v,hd,hv,rv⟩⟩:=zgH S2 (zbl hp) R2 e3
   . cases z
   . cases hd;subst hv;exact⟨p,v,rfl,g,((k.on S1 X1).on S2 X2).now S2 rv⟩
 | _=>cases e
noncomputable def mDIn(neg:Bool)(mk md:ME):ME:=fun ρ st=>(mk ρ st).bind fun (k,s1)=>(md ρ s1).bind fun (d,s2)=>match d with
 | .ref n=>(look s2 n k).map fun r=>(.bl (if neg then !r.isSome else r.isSome),s2)
 | _=>none
theorem zhu{neg:Bool}{mk md:ME}{σ:L2.St}{Q:VK}(h:tE K (mDIn neg mk md) σ H Q):tE K mk σ H fun y H1=>tE K md σ H1 fun x H2=>∃ a o,x=.ref a/\DGet H2 a y o/\Q (.bl (if neg then !o.isSome else o.isSome)) H2:=by
 obtain⟨ρ,st,io,d,st',E,S,e,k⟩:=h;obtain⟨⟨y,s1⟩,e1,e⟩:=zae e;obtain⟨⟨x,s2⟩,e2,e⟩:=zae e
 cases x with
 | ref n =>
   obtain⟨r,e3,e⟩:=zah e;cases e;refine⟨ρ,st,io,y,s1,E,S,e1,fun v1 H1 k1 X1 S1 R1=>⟨ρ,s1,io++k1,_,_,E.ext S X1,S1,e2,fun v2 H2 k2 X2 S2 R2=>?_⟩⟩;obtain⟨p,rfl,hp⟩:=R2;obtain⟨o,g,z⟩:=zgH S2 hp (R1.ext S1 X2) e3;have:o.isSome=r.isSome:=by
     rcases z with ⟨a,b⟩ | ⟨d',v,a,b,_⟩
     . rw[a,b];rfl
     . rw[a,b];rfl
   exact⟨p,o,rfl,g,by rw[this];exact ((k.on S1 X1).on S2 X2).now S2 rfl⟩
 | _=>cases e
end
end L2.MP
set_option maxHeartbeats 4000000
namespace L2.MP
open PySem PySem.Spec PyProof.Rows
section
variable {X:Cx} {K:PySem.W.Frag} {H:Hp} {io:List Addr} {st st':Sto} {a b c e:Expr} {es:List Expr} {ma mb mc m:ME} {mm:MA} {pos:Pos}
theorem zqh{o i:Expr}{md mk:ME}(hu:X.A.units+1 < cLine)(hi:SE X i mk)(ho:SE X o md)(hm:behindInMarks .In o=false:=by rfl):SB X (.Compare i [.In] [o] pos) (mTst (mDIn false mk md)) :=
 PT.imp (zof (zqH hu hi ho) hm) fun σ H Q h=>zhu (zcW h)
theorem zkn{o i:Expr}{md mk:ME}(hu:X.A.units+1 < cLine)(hi:SE X i mk)(ho:SE X o md)(hm:behindInMarks .NotIn o=false:=by rfl):SB X (.Compare i [.NotIn] [o] pos) (mTst (mDIn true mk md)) :=
 PT.imp (zof (zkv hu hi ho) hm) fun σ H Q h=>zhu (zcW h)
noncomputable def dput(st:Sto)(n:Nat)(k d:D):Option Sto:=match st[n]? with
 | some (.dk kvs)=>(keyOf k).bind fun q=>if decide (kvs.length < sizeLine)=true then some (st.set n (.dk (putD kvs q d))) else none
 | some (.dt kvs)=>match k with
   | .tup ds=>(keysOf ds).bind fun q=>if decide (kvs.length < sizeLine)=true then some (st.set n (.dt (putD kvs q d))) else none
   | _=>none
 | _=>none
theorem zne{n:Nat}{p:Addr}{k d:D}{y v:V}(S:StR K H io st)(hp:io[n]?=some p)(ry:Rep K H io y k)(rv:Rep K H io v d)(h:dput st n k d=some st'):∃ H',DPut H p y v H'/\Ext io [] H H'/\StR K H' (io++[]) st':=by
 unfold dput at h
 split at h
 . rename_i kvs e;obtain⟨q,e1,h⟩:=zae h;obtain⟨hl,h⟩:=zap h;cases h;obtain⟨ps,hH,r⟩:=S.ob n p _ hp e;have ey:=zdL ry e1;subst ey;have:=KR.length r;refine⟨_,DPut.k hH (by rw[this];exact of_decide_eq_true hl),?_⟩;exact zfK S hp e (fun o u z=>by rw[hH] at z;cases z) fun H' T e'=>⟨_,e',KR.put (KR.mono T r) q (Rep.mono T rv)⟩
 . rename_i kvs e
   split at h
   . rename_i ds;obtain⟨q,e1,h⟩:=zae h;obtain⟨hl,h⟩:=zap h;cases h;obtain⟨ps,hH,r⟩:=S.ob n p _ hp e;obtain⟨b,xs,rfl,hb,rs⟩:=ry;have ex:=zcb rs e1;subst ex;have:=KR.length r;refine⟨_,DPut.t hH hb (by rw[this];exact of_decide_eq_true hl),?_⟩;exact zfK S hp e (fun o u z=>by rw[hH] at z;cases z) fun H' T e'=>⟨_,e',KR.put (KR.mono T r) q (Rep.mono T rv)⟩
   . cases h
 . cases h
noncomputable def zjZ(md mk mv:ME):MS:=fun ρ st=>(mv ρ st).bind fun (v,s1)=>(md ρ s1).bind fun (d,s2)=>(mk ρ s2).bind fun (k,s3)=>match d with
 | .ref n=>(dput s3 n k v).map fun s4=>(.nx ρ,s4)
 | _=>none
theorem znT{o i value:Expr}{md mk mv:ME}{pos':Pos}(hu:X.A.units+1 < cLine)(ho:SE X o md)(hi:SE X i mk)(hv:SE X value mv)(hs:swapsWith value (some (.Subscript o i pos')) pos.line X.env=pure false:=by rfl) :
   SS X (.Assign [.Subscript o i pos'] value pos) (zjZ md mk mv):=PS.imp (zoj hu ho hi hv hs) fun N σ H h=>by
 obtain⟨ρ,st,io,f,st',E,S,e,w⟩:=zcX.mp h;obtain⟨⟨v,s1⟩,e1,e⟩:=zae e;obtain⟨⟨d,s2⟩,e2,e⟩:=zae e;obtain⟨⟨k,s3⟩,e3,e⟩:=zae e
 cases d with
 | ref n =>
   obtain⟨s4,e4,e⟩:=zah e;cases e;refine⟨ρ,st,io,v,s1,E,S,e1,fun v1 H1 k1 X1 S1 R1=>⟨ρ,s1,io++k1,_,s2,E.ext S X1,S1,e2,fun v2 H2 k2 X2 S2 R2=>⟨ρ,s2,(io++k1)++k2,k,s3,(E.ext S X1).ext S1 X2,S2,e3,fun v3 H3 k3 X3 S3 R3=>?_⟩⟩⟩;obtain⟨p,rfl,hp⟩:=R2;obtain⟨H4,g,X4,S4⟩:=zne S3 (zbl hp) R3 ((R1.ext S1 X2).ext S2 X3) e4;refine⟨p,H4,rfl,g,?_⟩;have w3:∀ σ' H' kb,Ext (((io++k1)++k2)++k3) kb H3 H'->_:=zfO (zfO (zfO w X1 S1) X2 S2) X3 S3;exact w3 σ H4 [] X4 S4 ((((E.ext S X1).ext S1 X2).ext S2 X3).ext S3 X4)
 | _=>cases e
noncomputable def zoR(t:Bool):ME:=fun _ st=>some (.ref st.length,st++[if t then .dt [] else .dk []])
theorem ziH:SE X (.Dict [] [] pos) (zoR true):=PE.imp zms <| by
 rintro σ H Q ⟨ρ,st,io,d,st',E,S,e,k⟩;cases e;intro p hp;obtain⟨E',S'⟩:=zi7 (o:=.dT []) (ob:=.dt []) S hp fun H' T e=>⟨[],e,.nil⟩
 exact k _ _ [p] E' S' ⟨p,rfl,by rw[<-S.len];exact getElem?_len io p⟩
inductive mtM (K:PySem.W.Frag) (g:D->List D->Sto->Option (D×Sto)) (x:V) (xs:List V) (H:Hp) (Q:VK):Prop
 | mk (dx:D) (ds:List D) (st:Sto) (io:List Addr) (d:D) (st':Sto) (h0:Rep K H io x dx) (h1:Reps K H io xs ds) (h2:StR K H io st) (h3:g dx ds st=some (d,st')) (h4:Bh K io H st' d Q)
noncomputable def zbY:D->List D->Sto->Option (D×Sto):=fun x xs st=>match x,xs with
 | .ref n,[d]=>match st[n]? with
   | some (.lst ds)=>if decide (ds.length < sizeLine)=true then some (.non,st.set n (.lst (ds++[d]))) else none
   | _=>none
 | _,_=>none
theorem append_in{n:Nat}{d:D}{ds:List D}{xs:List D}(h:zbY (.ref n) xs st=some (d,st')):∃ ds x,st[n]?=some (.lst ds)/\xs=[x]/\ds.length < sizeLine/\d=.non/\st'=st.set n (.lst (ds++[x])):=by
 unfold zbY at h
 match xs,h with
 | [x],h =>
   dsimp only at h
   split at h
   . rename_i ds e;obtain⟨hl,h⟩:=zap h;cases h;exact⟨ds,x,e,rfl,of_decide_eq_true hl,rfl,rfl⟩
   . cases h
 | [],h=>cases h
 | _::_::_,h=>cases h
theorem zja:MtR X "list.append" (mtM X.K zbY):=by
 rintro pins s σ H x xs v us Q I rx rs ⟨dx,ds,st,io,d,st',Rx,Rs,S,e,k⟩
 cases dx with
 | ref n =>
   obtain⟨l,y,e1,rfl,hl,rfl,rfl⟩:=append_in (ds:=[]) e;obtain⟨p,rfl,hp⟩:=Rx;obtain⟨w,rfl,Rw⟩:=Rs.one;obtain⟨ys,hH,r⟩:=S.ob n p _ hp e1;refine zhh pins s σ H _ _ v us Q I rx rs ⟨p,ys,w,rfl,rfl,hH,by rw[r.length];exact hl,?_⟩;obtain⟨E',S'⟩:=zfK (o:=.lst (ys++[w])) (ob:=.lst (l++[y])) S hp e1 (fun o u z=>by rw[hH] at z;cases z) fun H' T e'=>⟨_,e',(Reps.mono T r).append (Reps.cons (Rep.mono T Rw) Reps.nil)⟩
   exact k _ _ [] E' S' rfl
 | _=>unfold zbY at e;cases ds <;> cases e
theorem zgk{n:Nat}{v:V}{l:List D}(R:Rep K H io v (.ref n))(S:StR K H io st)(h:zbu st n=some l):tyV K "list" v H:=by
 obtain⟨p,rfl,hp⟩:=R;obtain⟨xs,hx,_⟩:=za7 S hp h;exact .inl ⟨rfl,xs,hx⟩
noncomputable def mApp(m:ME)(mm:MA):ME:=fun ρ st=>(m ρ st).bind fun (x,s1)=>match x with
 | .ref n=>(zbu s1 n).bind fun _=>(mm ρ s1).bind fun (xs,s2)=>zbY x xs s2
 | _=>none
theorem zbX{o:Expr}{apos cpos:Pos}(ho:SE X o m)(ha:SA X (e::es) mm)
   (hbase:attributeBase o "append" X.env (eval o X.env)=eval o X.env:=by rfl)
   (hfew:((backTo cpos (starEach (e::es) X.env)).all (fun x=>!x.1)&&(backToKw cpos (keywordEach [] X.env)).all (fun x=>x.1.isSome)
    &&decide ((e::es).length+([]:List Keyword).length+(if ([]:List Keyword).isEmpty then 0 else 1) < 30))=true:=by rfl)
   (hline:(apos.endLine==cpos.line)=true:=by rfl) (hs:starEach (e::es) X.env=(false,eval e X.env)::starEach es X.env:=by rfl) (hplain:(backTo cpos (starEach es X.env)).any (·.1)=false:=by rfl) :
   SE X (.Call (.Attribute o "append" apos) (e::es) [] cpos) (mApp m mm) :=
 PE.imp (zrF PySem.F.plainAttrs_list PySem.F.slot_list_append PySem.F.type_list_append zja ho ha hbase hfew hline hs hplain) <| by
   rintro σ H Q ⟨ρ,st,io,d,st',E,S,e,k⟩;obtain⟨⟨x,s1⟩,e1,e⟩:=zae e
   cases x with
   | ref n =>
     obtain⟨l,e0,e⟩:=zae e;obtain⟨⟨xs,s2⟩,e2,e⟩:=zae e;refine⟨ρ,st,io,_,s1,E,S,e1,fun v1 H1 k1 X1 S1 R1=>⟨zgk R1 S1 e0,ρ,s1,io++k1,xs,s2,E.ext S X1,S1,e2,fun vs H2 k2 X2 S2 R2=>?_⟩⟩;exact⟨_,xs,s2,(io++k1)++k2,d,st',R1.ext S1 X2,R2,S2,e,(k.on S1 X1).on S2 X2⟩
   | _=>cases e
noncomputable abbrev MO:=Rho->Sto->Option (Option Int×Sto)
inductive tOm (K:PySem.W.Frag) (m:MO) (σ:L2.St) (H:Hp) (Q:Option Int->Hp->Prop):Prop
 | mk (ρ:Rho) (st:Sto) (io:List Addr) (d:Option Int) (st':Sto) (h1:EnvR K H io σ ρ) (h2:StR K H io st) (h3:m ρ st=some (d,st')) (h4:∀ H' ka,Ext io ka H H'->StR K H' (io++ka) st'->Q d H')
noncomputable def SO(X:Cx)(e:Option Expr)(m:MO):Prop:=PO X e (tOm X.K m)
noncomputable def zlo:MO:=fun _ st=>some (none,st)
noncomputable def zln(m:ME):MO:=fun ρ st=>(m ρ st).bind fun (d,s)=>match d with
 | .int i=>some (some i,s)
 | _=>none
theorem zg2:SO X none zlo:=fun pins s σ H Q I ⟨ρ,st,io,d,st',E,S,e,k⟩=>zol pins s σ H Q I (by cases e;exact k H [] Ext.refl S.nil)
theorem zg1(h:SE X e m):SO X (some e) (zln m):=fun pins s σ H Q I ⟨ρ,st,io,d,st',E,S,e,k⟩=>zll h pins s σ H Q I (by
 obtain⟨⟨x,s1⟩,e1,e⟩:=zae e
 cases x with
 | int i =>
   cases e;exact⟨ρ,st,io,_,_,E,S,e1,fun v1 H1 k1 X1 S1 R1=>⟨i,R1,k H1 k1 X1 S1⟩⟩
 | _=>cases e)
noncomputable def cutD(xs:List D)(lo hi:Option Int):List D:=(xs.drop (HT.sIx xs.length 0 lo)).take (HT.sIx xs.length xs.length hi - HT.sIx xs.length 0 lo)
theorem zjE{xs:List V}{ds:List D}(r:Reps K H io xs ds)(lo hi:Option Int):Reps K H io (cutV xs lo hi) (cutD ds lo hi):=by
 unfold cutV cutD;rw[r.length];exact (r.drop _).take _
noncomputable def slD:D->Option Int->Option Int->Sto->Option (D×Sto):=fun x lo hi st=>match x with
 | .tup ds=>if (decide (HT.sIx ds.length 0 lo=0)&&decide (HT.sIx ds.length ds.length hi=ds.length))=true then none else some (.tup (cutD ds lo hi),st)
 | .ref n=>(zbu st n).map fun ds=>(.ref st.length,st++[.lst (cutD ds lo hi)])
 | _=>none
noncomputable def mSl(m:ME)(l h:MO):ME:=fun ρ st=>(m ρ st).bind fun (x,s1)=>(l ρ s1).bind fun (lo,s2)=>(h ρ s2).bind fun (hi,s3)=>slD x lo hi s3
noncomputable def rSlM(K:PySem.W.Frag):V->Option Int->Option Int->Hp->VK->Prop:=fun x lo hi H Q=>rSlT K x lo hi H Q\/rSlL K x lo hi H Q
theorem sl_M:SlR X (rSlM X.K):=by
 intro pins s σ H x v vl vu lo hi sl Q I rx hs pl pu h
 rcases h with h | h
 . exact zpZ pins s σ H x v vl vu lo hi sl Q I rx hs pl pu h
 . exact zld pins s σ H x v vl vu lo hi sl Q I rx hs pl pu h
theorem zlZ{lo hi:Option Expr}{ml mh:MO}{p2:Pos}(he:SE X e m)(hl:SO X lo ml)(hu:SO X hi mh):SE X (.Subscript e (.Slice lo hi none p2) pos) (mSl m ml mh):=PE.imp (zgz sl_M he hl hu) <| by
 rintro σ H Q ⟨ρ,st,io,d,st',E,S,e,k⟩;obtain⟨⟨x,s1⟩,e1,e⟩:=zae e;obtain⟨⟨lo',s2⟩,e2,e⟩:=zae e;obtain⟨⟨hi',s3⟩,e3,e⟩:=zae e;refine⟨ρ,st,io,x,s1,E,S,e1,fun v1 H1 k1 X1 S1 R1=>⟨ρ,s1,io++k1,lo',s2,E.ext S X1,S1,e2,fun H2 k2 X2 S2=>⟨ρ,s2,(io++k1)++k2,hi',s3,(E.ext S X1).ext S1 X2,S2,e3,fun H3 k3 X3 S3=>?_⟩⟩⟩;have R3:=(R1.ext S1 X2).ext S2 X3;have k':=((k.on S1 X1).on S2 X2).on S3 X3
 cases x with
 | tup ds =>
   have e:(if (decide (HT.sIx ds.length 0 lo'=0)&&decide (HT.sIx ds.length ds.length hi'=ds.length))=true then none else some (D.tup (cutD ds lo' hi'),s3))=some (d,st'):=e
   by_cases hw:(decide (HT.sIx ds.length 0 lo'=0)&&decide (HT.sIx ds.length ds.length hi'=ds.length))=true
   . rw[if_pos hw] at e;cases e
   . rw[if_neg hw] at e;cases e;obtain⟨p,xs,rfl,hp,r⟩:=R3;refine .inl ⟨p,xs,rfl,SqT.of hp,fun z=>hw ?_,fun q hq=>k'.tup S3 (zjE r _ _) hq⟩;rw[r.length] at z;rw[Bool.and_eq_true];exact⟨decide_eq_true z.1,decide_eq_true z.2⟩
 | ref n =>
   obtain⟨ds,e0,e⟩:=zah e;cases e;obtain⟨p,rfl,hp⟩:=R3;obtain⟨xs,hx,r⟩:=za7 S3 hp e0;exact .inr ⟨p,xs,rfl,hx,fun q hq=>k'.lst S3 (zjE r _ _) hq⟩
 | _=>cases e
noncomputable def zj0:G2:=intD (fun _ j=>decide (0 < j)&&decide (j < 2 ^ 128)) fun i j=>.int (i / j)
theorem zgC:OpM X (binaryOp .FloorDiv) zj0:=zeC (C:=fun i j=>0 < j/\j < 2 ^ 128) (opI fun i j _ _ _ _ _ hc q=>by
 refine floordiv_int (by omega) (by rw[Int.fdiv_eq_ediv_of_nonneg i (by omega)];exact q) (.inl (PyProof.noPylong_of_log2 ?_));have h0:j.natAbs≠0:=by omega
 have h1:j.natAbs < 2 ^ 128:=by omega
 exact Nat.lt_trans ((Nat.log2_lt h0).mpr h1) (by decide)) fun i j h=>by
   rw[Bool.and_eq_true] at h;exact⟨of_decide_eq_true h.1,of_decide_eq_true h.2⟩
noncomputable def powB:G2:=intD (fun i j=>decide (0<=j)&&decide ((Builtin.Int.intBits i:Int)*j<=2 ^ 27)) fun i j=>.int (i ^ j.toNat)
theorem zeB:OpM X (binaryOp .Pow) powB:=zeC (C:=fun i j=>0<=j/\(Builtin.Int.intBits i:Int)*j<=2 ^ 27) (opI fun i j _ _ _ _ _ hc q=>pow_int hc.1 hc.2 q) fun i j h=>by
   rw[Bool.and_eq_true] at h;exact⟨of_decide_eq_true h.1,of_decide_eq_true h.2⟩
end
end L2.MP
set_option maxHeartbeats 4000000
namespace L2.MP
open PySem PySem.Spec PyProof.Rows
noncomputable def subT(t T:String):Bool:=t==T || (t=="bool"&&T=="int")
noncomputable def sorts:List String:=["NoneType","bool","int","str","tuple","list","dict"]
noncomputable def kinds:List String:=["bool","int","str","tuple","list","dict"]
theorem zo0{K:PySem.W.Frag}{t T:String}(ht:t∈sorts)(hT:T∈kinds):PySem.W.kitOne K (.type t) (.type T)=some (subT t T):=by
 have all:∀ t∈sorts,∀ T∈kinds,PySem.W.kitOne K (.type t) (.type T)=some (subT t T):=by
   intro t ht T hT;simp only[sorts,kinds,List.mem_cons,List.not_mem_nil,or_false] at ht hT
   rcases ht with rfl | rfl | rfl | rfl | rfl | rfl | rfl <;> rcases hT with rfl | rfl | rfl | rfl | rfl | rfl <;> rfl
 exact all t ht T hT
noncomputable def tyName(st:Sto):D->Option String
 | .non=>some "NoneType"
 | .bl _=>some "bool"
 | .int _=>some "int"
 | .str _=>some "str"
 | .tup _=>some "tuple"
 | .ref n=>match st[n]? with
   | some (.lst _)=>some "list"
   | some (.fz _)=>some "list"
   | some (.dk _)=>some "dict"
   | some (.dt _)=>some "dict"
   | _=>none
 | .kl _=>none
section
variable {X:Cx} {K:PySem.W.Frag} {H:Hp} {io:List Addr} {st st':Sto} {a:Expr} {m:ME} {pos:Pos} {pins:List (Addr×Obj)} {σ:L2.St} {s:Shared}
theorem zjg{xs:List V}{p:Addr}(I:Inv X pins σ H s)(h:SqL X.K H p xs):PySem.W.KitAt p "list" s.heap:=by
 obtain⟨its,_,⟨o,n,e,c,_,_⟩,_⟩:=I.list h;exact⟨o,e,c⟩
theorem zkP{ps:List (Key×V)}{p:Addr}(I:Inv X pins σ H s)(h:H p=some (.dK ps)):PySem.W.KitAt p "dict" s.heap:=by
 obtain⟨_,_,_,_,o,_,_,e,ex,_⟩:=I.hok p _ h;exact⟨o,e,ex.1⟩
theorem zkO{ps:List (List Key×V)}{p:Addr}(I:Inv X pins σ H s)(h:H p=some (.dT ps)):PySem.W.KitAt p "dict" s.heap:=by
 obtain⟨_,_,_,_,o,_,_,e,ex,_⟩:=I.hok p _ h;exact⟨o,e,ex.1⟩
theorem zo3{d:D}{v:V}{u:Value}{t T:String}{Q:Value->Shared->Prop}{E:Value->Shared->Prop}(I:Inv X pins σ H s)(S:StR X.K H io st)(R:Rep X.K H io v d)(r:RelV v u)(ht:tyName st d=some t)(hT:T∈kinds)
   (q:∀ tk,Q (.bool (subT t T)) { s with toks:=tk }):wpAny (model X.prog X.w) X.A (call (.builtin "isinstance") [u,.type T]) Q E s:=by
 have k:=fun {x:Value} {HH:Heap->Prop} (hs:t∈sorts) (Z:PySem.W.KitX X.K x (.type t) HH) (p:HH s.heap) (hx:x≠.builtin "__main__.__loader__#opaque")=>PySem.W.kia_one (prog:=X.prog) (w:=X.w) (A:=X.A) (E:=E) Z I.kIn p (zo0 hs hT) hx q
 cases d with
 | non=>cases ht;cases (show v=.non from R);cases r;exact k (by decide) PySem.W.kitx_none trivial (by intro e;cases e)
 | bl b=>cases ht;cases (show v=.bl b from R);cases r;exact k (by decide) PySem.W.kitx_bool trivial (by intro e;cases e)
 | int b=>cases ht;cases (show v=.int b from R);obtain⟨t,rfl⟩:=r;exact k (by decide) PySem.W.kitx_int trivial (by intro e;cases e)
 | str b=>cases ht;cases (show v=.str b from R);obtain⟨t,rfl⟩:=r;exact k (by decide) PySem.W.kitx_str trivial (by intro e;cases e)
 | tup ds =>
   cases ht;obtain⟨p,xs,rfl,hp,_⟩:=R;cases r;obtain⟨its,_,⟨o,e,c,_⟩,_⟩:=I.tuple (SqT.of hp);exact k (by decide) PySem.W.kitx_tuple ⟨o,e,c⟩ (by intro e;cases e)
 | ref n =>
   obtain⟨p,rfl,hp⟩:=R;cases r;unfold tyName at ht;dsimp only at ht
   split at ht
   . rename_i o e;cases ht;obtain⟨xs,hH,_⟩:=S.ob n p _ hp e;exact k (by decide) PySem.W.kitx_list (zjg I (SqL.of hH)) (by intro e;cases e)
   . rename_i o e;cases ht;obtain⟨ob,xs,hH,_⟩:=S.ob n p _ hp e;exact k (by decide) PySem.W.kitx_list (zjg I (.inl (.inr ⟨ob,hH⟩))) (by intro e;cases e)
   . rename_i o e;cases ht;obtain⟨xs,hH,_⟩:=S.ob n p _ hp e;exact k (by decide) PySem.W.kitx_dict (zkP I hH) (by intro e;cases e)
   . rename_i o e;cases ht;obtain⟨xs,hH,_⟩:=S.ob n p _ hp e;exact k (by decide) PySem.W.kitx_dict (zkO I hH) (by intro e;cases e)
   . cases ht
 | kl ds=>cases ht
noncomputable def rIsi(K:PySem.W.Frag)(T:String):List V->Hp->VK->Prop:=fun xs H Q=>∃ x d st io t,xs=[x,.ty T]/\Rep K H io x d/\StR K H io st/\tyName st d=some t/\Q (.bl (subT t T)) H
theorem znl{T:String}(hT:T∈kinds):zj1 X (.builtin "isinstance") (rIsi X.K T):=by
 rintro pins s σ H xs us Q I r ⟨x,d,st,io,t,e,R,S,ht,q⟩;subst e;obtain⟨u,w,rfl,ru,rw'⟩:=r.two;cases rw';exact zo3 I S R ru ht hT fun tk=>⟨.bl _,H,I.tok tk,rfl,q⟩
noncomputable def mIsi(T:String)(m:ME):ME:=fun ρ st=>(m ρ st).bind fun (x,s)=>(tyName s x).map fun t=>(.bl (subT t T),s)
theorem zl0{T:String}{x y:Str}{p p2:Pos}(hT:T∈kinds)(hg:Gl X "isinstance")(hm:X.mg "isinstance"=none)(ha:SE X a m)(hgy:Gl X y)(hmy:X.mg y=none)(hvy:bootBuiltins y=some (.type T))(hny:y≠"__name__":=by decide)(hdy:(y==("__debug__":Str))=false:=by decide)
   (hs:starEach [a,.Name y p2] X.env=(false,eval a X.env)::starEach [.Name y p2] X.env:=by rfl) (hs2:starEach [.Name y p2] X.env=[(false,eval (.Name y p2) X.env)]:=by rfl) (hpl:(backTo pos (starEach [.Name y p2] X.env)).any (·.1)=false:=by rfl) :
   SE X (.Call (.Name "isinstance" p) [a,.Name y p2] [] pos) (mIsi T m) :=
 PE.imp (ziW (znl hT) hg hm (by decide +kernel) (ziX ha (ziX (zos (v:=.ty T) hgy hmy hvy rfl hny hdy) zot hs2) hs) (by decide) (by decide) hs hpl) <| by
   rintro σ H Q ⟨ρ,st,io,d,st',E,S,e,k⟩;obtain⟨⟨x,s1⟩,e1,e⟩:=zae e;obtain⟨t,e2,e⟩:=zah e;cases e;exact⟨ρ,st,io,x,_,E,S,e1,fun v1 H1 k1 X1 S1 R1=>⟨v1,x,_,io++k1,t,rfl,R1,S1,e2,k _ H1 k1 X1 S1 rfl⟩⟩
end
end L2.MP
set_option maxHeartbeats 4000000
namespace L2.MP
open PySem PySem.Spec PyProof.Rows
theorem zcZ{α:Type}{le:α->α->Prop}:∀ {l1 l2:List α},l1.Perm l2->l1.Pairwise le->l2.Pairwise le->(∀ a∈l1,∀ b∈l1,le a b->le b a->a=b)->l1=l2
 | [],l2,p,_,_,_=>(List.Perm.nil_eq p)
 | a::l1,[],p,_,_,_=>absurd p.symm (by intro h;have:=h.length_eq;simp at this)
 | a::l1,b::l2,p,h1,h2,an=>by
   obtain⟨ha,h1'⟩:=List.pairwise_cons.mp h1;obtain⟨hb,h2'⟩:=List.pairwise_cons.mp h2;have e:a=b:=by
     have m1:a∈b::l2:=p.mem_iff.mp List.mem_cons_self;have m2:b∈a::l1:=p.mem_iff.mpr List.mem_cons_self
     rcases List.mem_cons.mp m1 with q | q
     . exact q
     . rcases List.mem_cons.mp m2 with r | r
       . exact r.symm
       . exact an a List.mem_cons_self b (List.mem_cons_of_mem _ r) (ha b r) (hb a q)
   subst e;rw[zcZ ((List.perm_cons a).mp p) h1' h2' fun x hx y hy=>an x (List.mem_cons_of_mem _ hx) y (List.mem_cons_of_mem _ hy)]
noncomputable def sle(a b:Str):Bool:=!decide (b.cps.toList < a.cps.toList)
noncomputable def zdu(ss:List Str):List Str:=ss.mergeSort sle
theorem znP{a b:Str}(h:a.cps.toList=b.cps.toList):a=b:=by
 obtain⟨x⟩:=a;obtain⟨y⟩:=b;have:x=y:=by
   have h':x.toList=y.toList:=h;exact Array.toList_inj.mp h'
 rw[this]
theorem zkg(a b:Str):(sle a b || sle b a)=true:=by
 unfold sle;rw[Bool.or_eq_true,Bool.not_eq_true',Bool.not_eq_true',decide_eq_false_iff_not,decide_eq_false_iff_not]
 by_cases h:b.cps.toList < a.cps.toList
 . exact .inr (List.lt_asymm h)
 . exact .inl h
theorem zg3(a b c:Str)(h1:sle a b=true)(h2:sle b c=true):sle a c=true:=by
 unfold sle at *;rw[Bool.not_eq_true',decide_eq_false_iff_not] at *;have h1:a.cps.toList<=b.cps.toList:=h1;have h2:b.cps.toList<=c.cps.toList:=h2;exact List.le_trans h1 h2
theorem zlW{a b:Str}(h1:sle a b=true)(h2:sle b a=true):a=b:=by
 unfold sle at *;rw[Bool.not_eq_true',decide_eq_false_iff_not] at *;exact znP (List.le_antisymm h1 h2)
theorem zex:∀ {ss:List Str} {p:Str},risingS p ss=true->(p::ss).Pairwise fun a b=>sle a b=true
 | [],p,_=>by simp
 | s::ss,p,h=>by
   have h':(!ltCps s.cps.toList p.cps.toList&&risingS s ss)=true:=h;rw[Bool.and_eq_true] at h';have ih:=zex h'.2;have hps:sle p s=true:=by
     have:=h'.1;rw[ltCps_eq] at this;exact this
   refine List.pairwise_cons.mpr ⟨fun x hx=>?_,ih⟩
   rcases List.mem_cons.mp hx with rfl | hx
   . exact hps
   . exact zg3 _ _ _ hps ((List.pairwise_cons.mp ih).1 x hx)
theorem zfz{ss ss':List Str}(p:ss'.Perm ss)(h:sortedS ss'=true):ss'=zdu ss:=by
 have hp:ss'.Pairwise fun a b=>sle a b=true:=by
   cases ss' with
   | nil=>exact List.Pairwise.nil
   | cons x r=>exact zex h
 refine zcZ (p.trans (List.mergeSort_perm ss sle).symm) hp (List.pairwise_mergeSort (fun a b c=>zg3 a b c) zkg ss) fun a _ b _=>zlW
end L2.MP
set_option maxHeartbeats 4000000
namespace L2.MP
open PySem PySem.Spec PyProof.Rows
section
variable {X:Cx} {K:PySem.W.Frag} {H:Hp} {io:List Addr} {st st':Sto} {a b c e:Expr} {es:List Expr} {ma mb mc m:ME} {mm:MA} {pos:Pos} {pins:List (Addr×Obj)} {σ:L2.St} {s:Shared}
noncomputable def strsOf:List D->Option (List Str)
 | []=>some []
 | .str x::r=>(strsOf r).map fun xs=>x::xs
 | _=>none
theorem zhG{d:D}{r:List D}{ss:List Str}(h:strsOf (d::r)=some ss):∃ x xs,d=.str x/\strsOf r=some xs/\ss=x::xs:=by
 cases d with
 | str x =>
   obtain⟨xs,e,h⟩:=zah h;exact⟨x,xs,rfl,e,h.symm⟩
 | _=>cases h
theorem zit(ss:List Str):strsOf (ss.map D.str)=some ss:=by
 induction ss with
 | nil=>rfl
 | cons x r ih=>show (strsOf (r.map D.str)).map _=_;rw[ih];rfl
theorem zis:∀ {xs:List V} {us:List Value} {ds:List D} {ss:List Str},Reps K H io xs ds->Vals xs us->strsOf ds=some ss->StrsAre us ss
 | _,_,[],ss,h,r,e=>by
   cases (show _=[] from h);cases r;cases e;exact .nil
 | _,_,d::ds,ss,h,r,e=>by
   obtain⟨y,ys,rfl,h1,h2⟩:=h;obtain⟨x,rest,rfl,e2,rfl⟩:=zhG e
   cases r with
   | cons r1 r2 =>
     cases (show y=.str x from h1)
     obtain⟨t,rfl⟩:=r1;exact .cons x t (zis h2 r2 e2)
theorem zeO:∀ {us:List Value} {ss:List Str},StrsAre us ss->Vals (ss.map V.str) us
 | _,_,.nil=>.nil
 | _,_,.cons y t r=>.cons ⟨t,rfl⟩ (zeO r)
theorem zj9(ss:List Str):Reps K H io (ss.map V.str) (ss.map D.str):=by
 induction ss with
 | nil=>exact rfl
 | cons x r ih=>exact Reps.cons rfl ih
theorem lt64{n:Nat}(h:n < 64):n<=sizeLine:=Nat.le_trans (Nat.le_of_lt h) (by decide)
noncomputable def zcI:GN
 | [.ref n],st=>(zbu st n).bind fun ds=>(strsOf ds).bind fun ss=>if decide (ss.length < 64)=true then some (.ref st.length,st++[.lst ((zdu ss).map D.str)]) else none
 | _,_=>none
theorem zf6:zdt X (.builtin "sorted") zcI:=by
 rintro pins s σ H xs us Q I r ⟨ds,st,io,d,st',R,S,e,k⟩;unfold zcI at e
 split at e
 . rename_i n;obtain⟨ts,e0,e⟩:=zae e;obtain⟨ss,e1,e⟩:=zae e;obtain⟨hl,e⟩:=zap e;cases e;have hl:=of_decide_eq_true hl;obtain⟨v,rfl,p,rfl,hp⟩:=R.one;obtain⟨u,rfl,ru⟩:=r.one;cases ru;obtain⟨ys,hx,r1⟩:=za7 S hp e0;obtain⟨its,rv,pl,hz⟩:=I.list hx;have hS:=zis r1 rv e1;have hlen:its.length=ss.length:=by
     have h1:=rv.length;have h2:=(zeO hS).length;rw[List.length_map] at h2;omega
   refine sorted_strs pl.isList hS (by omega) fun out ss' a1 a2 a3=>?_;have es:=zfz a2 a3;obtain⟨ep,hat⟩:=sortedAll_at s.heap its out;have hv:=zeO a1;have hfree:H (s.heap.objs.size+1)=none:=I.hok.fresh (Nat.le_succ _);have hlen':(ss'.map V.str).length<=sizeLine:=by rw[List.length_map,a2.length_eq];exact lt64 hl
   refine⟨.ref (s.heap.objs.size+1),upd H (s.heap.objs.size+1) (.lst (ss'.map V.str)),I.laid (t':=s.toks) (a:=s.heap.objs.size+1) (fun b o q=>sortedAll_old q) (Nat.le_succ _) ⟨hlen',out.toList,ep,hv,by simpa using hat⟩,rfl,?_⟩;rw[es] at *;exact k.lst S (zj9 _) hfree
 . cases e
noncomputable def rSlS:V->Option Int->Option Int->Hp->VK->Prop:=fun x lo hi H Q=>∃ z,x=.str z/\z.length<=sizeLine/\Q (.str (Txt.slice z lo hi)) H
theorem zp0:SlR X rSlS:=by
 rintro pins s σ H x v vl vu lo hi sl Q I rx hs pl pu ⟨z,e,hz,q⟩;subst e;obtain⟨t,rfl⟩:=rx;refine⟨"str",_,F.slot_str_getitem.lookup,typeIs_str _ _ _,?_⟩;have fin:∀ t' k,EP X pins σ Q (.str (Txt.slice z lo hi) t') { s with toks:=k }:=fun t' k=>⟨.str _,H,I.tok k,⟨t',rfl⟩,q⟩
 cases pl with
 | none =>
   cases pu with
   | none=>exact wpAny_getItem_str_slice (l:=none) (u:=none) (st:=none) hs rfl (post_val_or_str ⟨Nat.le_trans (Txt.slice_le z _ _) hz,fin⟩)
   | int j tj=>exact wpAny_getItem_str_slice (l:=none) (u:=some (j,tj)) (st:=none) hs rfl (post_val_or_str ⟨Nat.le_trans (Txt.slice_le z _ _) hz,fin⟩)
 | int i ti =>
   cases pu with
   | none=>exact wpAny_getItem_str_slice (l:=some (i,ti)) (u:=none) (st:=none) hs rfl (post_val_or_str ⟨Nat.le_trans (Txt.slice_le z _ _) hz,fin⟩)
   | int j tj=>exact wpAny_getItem_str_slice (l:=some (i,ti)) (u:=some (j,tj)) (st:=none) hs rfl (post_val_or_str ⟨Nat.le_trans (Txt.slice_le z _ _) hz,fin⟩)
noncomputable def slS:D->Option Int->Option Int->Sto->Option (D×Sto):=fun x lo hi st=>match x with
 | .str z=>if fits z.length=true then some (.str (Txt.slice z lo hi),st) else none
 | _=>none
noncomputable def mSlS(m:ME)(l h:MO):ME:=fun ρ st=>(m ρ st).bind fun (x,s1)=>(l ρ s1).bind fun (lo,s2)=>(h ρ s2).bind fun (hi,s3)=>slS x lo hi s3
theorem zki{lo hi:Option Expr}{ml mh:MO}{p2:Pos}(he:SE X e m)(hl:SO X lo ml)(hu:SO X hi mh):SE X (.Subscript e (.Slice lo hi none p2) pos) (mSlS m ml mh):=PE.imp (zgz zp0 he hl hu) <| by
 rintro σ H Q ⟨ρ,st,io,d,st',E,S,e,k⟩;obtain⟨⟨x,s1⟩,e1,e⟩:=zae e;obtain⟨⟨lo',s2⟩,e2,e⟩:=zae e;obtain⟨⟨hi',s3⟩,e3,e⟩:=zae e;refine⟨ρ,st,io,x,s1,E,S,e1,fun v1 H1 k1 X1 S1 R1=>⟨ρ,s1,io++k1,lo',s2,E.ext S X1,S1,e2,fun H2 k2 X2 S2=>⟨ρ,s2,(io++k1)++k2,hi',s3,(E.ext S X1).ext S1 X2,S2,e3,fun H3 k3 X3 S3=>?_⟩⟩⟩;have k':=((k.on S1 X1).on S2 X2).on S3 X3
 cases x with
 | str z =>
   obtain⟨hf,e⟩:=zap e;cases e;exact⟨z,R1,of_decide_eq_true hf,k'.now S3 rfl⟩
 | _=>cases e
noncomputable def repS(x:Str)(n:Int):Str:=if n < 1 then Str.empty else if (n==1 || x.length==0)=true then x else ⟨(List.replicate n.toNat x.cps).foldl (·++·) #[]⟩
noncomputable def zpD:G2
 | .str x,.int n,st=>if (decide (-(2 ^ 62)<=n)&&decide (n < 2 ^ 20)&&decide (x.length*n.toNat<=sizeLine)&&decide ((repS x n).length<=sizeLine))=true then some (.str (repS x n),st) else none
 | _,_,_=>none
theorem zmy:OpM X (binaryOp .Mult) zpD:=by
 rintro pins s σ H x y v u Q I rx ry ⟨dx,dy,st,io,d,st',Rx,Ry,S,e,k⟩;unfold zpD at e
 split at e
 . rename_i z n;obtain⟨hc,e⟩:=zap e;cases e;rw[Bool.and_eq_true,Bool.and_eq_true,Bool.and_eq_true] at hc;obtain⟨⟨⟨h1,h2⟩,h3⟩,h4⟩:=hc;have h1:=of_decide_eq_true h1;have h2:=of_decide_eq_true h2;have h3:=of_decide_eq_true h3;have h4:=of_decide_eq_true h4
   cases (show x=.str z from Rx)
   cases (show y=.int n from Ry)
   obtain⟨t,rfl⟩:=rx;obtain⟨t2,rfl⟩:=ry;have fin:∀ t' k',EP X pins σ Q (.str (repS z n) t') { s with toks:=k' }:=fun t' k'=>⟨.str _,H,I.tok k',⟨t',rfl⟩,k.now S rfl⟩
   refine PySem.P.mul_str (by rw[decide_eq_false (by omega),decide_eq_false (by omega)];rfl) (fun hn _=>?_) (fun hn _=>?_) ?_
   . have hs:sizeLine=16777216:=sizeLine_eq;have hnn:((n.toNat:Nat):Int)=n:=Int.toNat_of_nonneg (by omega);have hm:(z.length:Int)*n<=2 ^ 63 - 1:=by
       rw[<-hnn,<-Int.natCast_mul];omega
     have:=Int.le_ediv_of_mul_le (by omega:0 < n) hm;omega
   . unfold Builtin.Str.tooLong;exact decide_eq_false (by omega)
   . unfold repS at fin h4
     by_cases hn:n < 1
     . rw[if_pos hn] at fin h4 ⊢;exact⟨h4,fin s.toks (s.toks+1)⟩
     . rw[if_neg hn] at fin h4 ⊢;exact post_val_or_str ⟨h4,fin⟩
 . cases e
end
end L2.MP
set_option maxHeartbeats 4000000
namespace L2.MP
open PySem PySem.Spec PyProof.Rows
section
variable {X:Cx} {K:PySem.W.Frag} {H:Hp} {io:List Addr} {st st':Sto} {a b c e:Expr} {es:List Expr} {ma mb mc m:ME} {mm:MA} {pos:Pos} {pins:List (Addr×Obj)} {σ:L2.St} {s:Shared}
noncomputable def memP(p:PyData):PyData->Option Bool
 | .list xs=>some (xs.any fun y=>PyData.eqv y p)
 | .tuple xs=>some (xs.any fun y=>PyData.eqv y p)
 | _=>none
noncomputable def inD(neg:Bool):G2:=fun x y st=>(toP 50 st x).bind fun p=>(toP 50 st y).bind fun q=>(memP p q).map fun b=>(.bl (if neg then !b else b),st)
theorem zeJ{xs:List PyData}(h:(PyData.list xs).canLay0=true):PyData.canLayAll0 xs=true:=by simpa only [PyData.canLay0] using h
theorem zd8{xs:List PyData}(h:(PyData.tuple xs).canLay0=true):PyData.canLayAll0 xs=true:=by simpa only [PyData.canLay0] using h
theorem zqO(hu:X.A.units+100 < cLine):OpM X (compareOp .In) (inD false):=by
 rintro pins s σ H x y v u Q I rx ry ⟨dx,dy,st,io,d,st',Rx,Ry,S,e,k⟩;obtain⟨p,e1,e⟩:=zae e;obtain⟨q,e2,e⟩:=zae e;obtain⟨r,e3,e⟩:=zah e;cases e;obtain⟨as,ra⟩:=zbQ I S Rx rx e1;obtain⟨bs,rb⟩:=zbQ I S Ry ry e2;have h1:=zdO e1;have h2:=zdO e2;have hb:∀ n,X.A.units+1+min n p.depth < cLine:=fun n=>by have:=Nat.min_le_right n p.depth;omega
 cases q with
 | list xs=>cases e3;exact PySem.SeqAt.in_list_reads rb ra (zeJ h2.1) h1.1 (hb _) ⟨.bl _,H,I,rfl,k.now S rfl⟩
 | tuple xs=>cases e3;exact PySem.SeqAt.in_tuple_reads rb ra (zd8 h2.1) h1.1 (hb _) ⟨.bl _,H,I,rfl,k.now S rfl⟩
 | _=>cases e3
theorem zky(hu:X.A.units+100 < cLine):OpM X (compareOp .NotIn) (inD true):=by
 rintro pins s σ H x y v u Q I rx ry ⟨dx,dy,st,io,d,st',Rx,Ry,S,e,k⟩;obtain⟨p,e1,e⟩:=zae e;obtain⟨q,e2,e⟩:=zae e;obtain⟨r,e3,e⟩:=zah e;cases e;obtain⟨as,ra⟩:=zbQ I S Rx rx e1;obtain⟨bs,rb⟩:=zbQ I S Ry ry e2;have h1:=zdO e1;have h2:=zdO e2;have hb:∀ n,X.A.units+1+min n p.depth < cLine:=fun n=>by have:=Nat.min_le_right n p.depth;omega
 cases q with
 | list xs=>cases e3;exact PySem.SeqAt.notIn_list_reads rb ra (zeJ h2.1) h1.1 (hb _) ⟨.bl _,H,I,rfl,k.now S rfl⟩
 | tuple xs=>cases e3;exact PySem.SeqAt.notIn_tuple_reads rb ra (zd8 h2.1) h1.1 (hb _) ⟨.bl _,H,I,rfl,k.now S rfl⟩
 | _=>cases e3
noncomputable def inSD:G2
 | .str i,.str j,st=>some (.bl (!(Builtin.Str.occurrences j i 0 j.length 1).isEmpty),st)
 | _,_,_=>none
theorem zox:OpM X (compareOp .In) inSD:=by
 rintro pins s σ H x y v u Q I rx ry ⟨dx,dy,st,io,d,st',Rx,Ry,S,e,k⟩;unfold inSD at e
 split at e
 . rename_i i j
   cases e;exact zkz pins s σ H x y v u Q I rx ry ⟨i,j,Rx,Ry,k.now S rfl⟩
 . cases e
end
end L2.MP
set_option maxHeartbeats 4000000
namespace Srt
open PySem PySem.W PyProof.Rows
noncomputable def Hd(n:Nat)(r:Nat->Int){α:Type}:KasT α->(α->Prop)->Prop
 | .ret a,Q=>Q a
 | .ask i j k,Q=>(i < n/\j < n)/\Hd n r (k (decide (r i < r j))) Q
section
variable {n:Nat} {r:Nat->Int} {α β:Type}
theorem Hd.bind{f:α->KasT β}{Q:β->Prop}:∀ {t:KasT α},Hd n r t (fun a=>Hd n r (f a) Q)->Hd n r (t.bind f) Q
 | .ret _,h=>h
 | .ask i j k,h=>⟨h.1,Hd.bind (t:=k _) h.2⟩
theorem Hd.mono{P Q:α->Prop}(k:∀ a,P a->Q a):∀ {t:KasT α},Hd n r t P->Hd n r t Q
 | .ret a,h=>k a h
 | .ask i j f,h=>⟨h.1,Hd.mono k (t:=f _) h.2⟩
theorem zjs{c:Prop}[Decidable c]{A B:KasT α}{Q:α->Prop}(hc:c)(h:Hd n r A Q):Hd n r (if decide c=true then A else B) Q:=by
 rw[decide_eq_true hc,if_pos rfl];exact h
theorem zjt{c:Prop}[Decidable c]{A B:KasT α}{Q:α->Prop}(hc:¬ c)(h:Hd n r B Q):Hd n r (if decide c=true then A else B) Q:=by
 rw[decide_eq_false hc,if_neg Bool.false_ne_true];exact h
noncomputable def Bel(n:Nat)(p:Array Nat):Prop:=∀ k,p.getD k 0 < n
noncomputable def R(r:Nat->Int)(p:Array Nat)(k:Nat):Int:=r (p.getD k 0)
noncomputable def Up(r:Nat->Int)(p:Array Nat)(m:Nat):Prop:=∀ i j,i<=j->j < m->R r p i<=R r p j
noncomputable def Dn(r:Nat->Int)(p:Array Nat)(m:Nat):Prop:=∀ i j,i<=j->j < m->R r p j<=R r p i
theorem getD_eq{p q:Array Nat}{i j:Nat}(h:p[i]?=q[j]?):p.getD i 0=q.getD j 0:=by
 rw[Array.getD_eq_getD_getElem?,Array.getD_eq_getD_getElem?,h]
theorem zg6{p:Array Nat}{i j:Nat}(hj:j<=p.size)(k:Nat):(kas_rev p i j).getD k 0=if i<=k/\k < j then p.getD (i+j - 1 - k) 0 else p.getD k 0:=by
 have e:=getElem?_mirror_all (i:=i) hj k;unfold kas_rev
 by_cases h:i<=k/\k < j
 . rw[if_pos h] at e ⊢;exact getD_eq e
 . rw[if_neg h] at e ⊢;exact getD_eq e
theorem zlC{p:Array Nat}{src d:Nat}(hs:src < p.size)(hd:d<=src)(k:Nat):(bubble p src d).getD k 0=if k=src - d then p.getD src 0 else if src - d < k/\k<=src then p.getD (k - 1) 0 else p.getD k 0:=by
 have e:=getElem?_bubble hs d hd k
 by_cases h1:k=src - d
 . rw[if_pos h1] at e ⊢;exact getD_eq e
 . rw[if_neg h1] at e ⊢
   by_cases h2:src - d < k/\k<=src
   . rw[if_pos h2] at e ⊢;exact getD_eq e
   . rw[if_neg h2] at e ⊢;exact getD_eq e
theorem zfI{p:Array Nat}{i j:Nat}(hj:j<=p.size)(h:Bel n p):Bel n (kas_rev p i j):=fun k=>by
 rw[zg6 hj];split
 . exact h _
 . exact h _
theorem zpk{p:Array Nat}{src d:Nat}(hs:src < p.size)(hd:d<=src)(h:Bel n p):Bel n (bubble p src d):=fun k=>by
 rw[zlC hs hd]
 by_cases h1:k=src - d
 . rw[if_pos h1];exact h _
 . rw[if_neg h1]
   by_cases h2:src - d < k/\k<=src
   . rw[if_pos h2];exact h _
   . rw[if_neg h2];exact h _
theorem zmb(p:Array Nat)(i j:Nat):(kas_rev p i j).size=p.size:=mirror_size _ _ _ _
theorem zko(p:Array Nat)(i j:Nat):(kas_rev p i j).Perm p:=mirror_perm _ _ _ _
theorem Up.more{p:Array Nat}{m:Nat}(h:Up r p m)(hl:m=0\/R r p (m - 1)<=R r p m):Up r p (m+1):=fun i j hij hj=>by
 by_cases hm:j < m
 . exact h i j hij hm
 . have e:j=m:=by omega
   subst e
   by_cases hi:i=j
   . rw[hi];exact Int.le_refl _
   . rcases hl with hl | hl
     . omega
     . exact Int.le_trans (h i (j - 1) (by omega) (by omega)) hl
theorem Dn.more{p:Array Nat}{m:Nat}(h:Dn r p m)(hl:m=0\/R r p m<=R r p (m - 1)):Dn r p (m+1):=fun i j hij hj=>by
 by_cases hm:j < m
 . exact h i j hij hm
 . have e:j=m:=by omega
   subst e
   by_cases hi:i=j
   . rw[hi];exact Int.le_refl _
   . rcases hl with hl | hl
     . omega
     . exact Int.le_trans hl (h i (j - 1) (by omega) (by omega))
theorem znp{p:Array Nat}(hb:Bel n p):∀ (f m:Nat),1<=m->Up r p m->Hd n r (kas_asc p f m) fun m'=>m<=m'/\m'<=m+f/\Up r p m'/\(m' < m+f->R r p m' < R r p (m' - 1))
 | 0,m,h1,h=>⟨Nat.le_refl _,Nat.le_refl _,h,fun z=>absurd z (Nat.lt_irrefl _)⟩
 | f+1,m,h1,h=>by
   refine⟨⟨hb _,hb _⟩,?_⟩
   by_cases c:r (p.getD m 0) < r (p.getD (m - 1) 0)
   . refine zjs c ?_;exact⟨Nat.le_refl _,Nat.le_add_right _ _,h,fun _=>c⟩
   . refine zjt c ?_;refine Hd.mono (fun m' h'=>?_) (znp hb f (m+1) (by omega) (h.more (.inr (Int.not_lt.mp c))));exact⟨by omega,by omega,h'.2.2.1,fun z=>h'.2.2.2 (by omega)⟩
noncomputable def Eqs(r:Nat->Int)(p:Array Nat)(i j:Nat):Prop:=∀ k,i<=k->k < j->R r p k=R r p (j - 1)
theorem ziM{p:Array Nat}{i j:Nat}(hj:j<=p.size)(h:Eqs r p i j)(k:Nat):R r (kas_rev p i j) k=R r p k:=by
 unfold R;rw[zg6 hj]
 split
 . rename_i hk;have h1:=h (i+j - 1 - k) (by omega) (by omega);have h2:=h k hk.1 hk.2;exact h1.trans h2.symm
 . rfl
theorem Dn.same{p p':Array Nat}{m:Nat}(h:Dn r p m)(e:∀ k,R r p' k=R r p k):Dn r p' m:=fun i j a b=>by rw[e,e];exact h i j a b
theorem zqk{p:Array Nat}{m:Nat}(hm:m<=p.size)(h:Dn r p m):Up r (kas_rev p 0 m) m:=fun i j hij hj=>by
 unfold R;rw[zg6 hm,zg6 hm,if_pos (by omega),if_pos (by omega)];exact h (0+m - 1 - j) (0+m - 1 - i) (by omega) (by omega)
theorem zhv{N:Nat}:∀ (f:Nat) (p:Array Nat) (m q:Nat),Bel n p->p.size=N->1<=m->m+f<=N->q+1<=m->Dn r p m->Eqs r p (m - (q+1)) m ->
   Hd n r (kas_desc f p m q) fun t=>Bel n t.1/\t.1.Perm p/\m<=t.2.1/\t.2.1<=m+f/\t.2.2+1<=t.2.1/\Dn r t.1 t.2.1/\Eqs r t.1 (t.2.1 - (t.2.2+1)) t.2.1
 | 0,p,m,q,hb,hs,h1,h2,h3,hd,he=>⟨hb,Array.Perm.refl _,Nat.le_refl _,Nat.le_refl _,h3,hd,he⟩
 | f+1,p,m,q,hb,hs,h1,h2,h3,hd,he=>by
   refine⟨⟨hb _,hb _⟩,?_⟩
   by_cases c:r (p.getD m 0) < r (p.getD (m - 1) 0)
   . refine zjs c ?_;have one:∀ p':Array Nat,Eqs r p' (m+1 - (0+1)) (m+1):=fun p' k h1 h2=>by
       have e:k=m+1 - 1:=by omega
       subst e;rfl
     by_cases hq:q > 0
     . rw[if_pos hq];have hz:m<=p.size:=by omega
       have e:=ziM hz he;refine Hd.mono (fun t ht=>?_) (zhv f (kas_rev p (m - (q+1)) m) (m+1) 0 (zfI hz hb) ((zmb _ _ _).trans hs) (by omega) (by omega) (by omega) ((hd.more (.inr (Int.le_of_lt c))).same e) (one _));exact⟨ht.1,ht.2.1.trans (zko _ _ _),by omega,by omega,ht.2.2.2.2⟩
     . rw[if_neg hq];refine Hd.mono (fun t ht=>?_) (zhv f p (m+1) 0 hb hs (by omega) (by omega) (by omega) (hd.more (.inr (Int.le_of_lt c))) (one _));exact⟨ht.1,ht.2.1,by omega,by omega,ht.2.2.2.2⟩
   . refine zjt c ?_;refine⟨⟨hb _,hb _⟩,?_⟩
     by_cases d:r (p.getD (m - 1) 0) < r (p.getD m 0)
     . refine zjs d ?_;exact⟨hb,Array.Perm.refl _,Nat.le_refl _,Nat.le_add_right _ _,h3,hd,he⟩
     . refine zjt d ?_;have eq:R r p m=R r p (m - 1):=Int.le_antisymm (Int.not_lt.mp d) (Int.not_lt.mp c);refine Hd.mono (fun t ht=>?_) (zhv f p (m+1) (q+1) hb hs (by omega) (by omega) (by omega) (hd.more (.inr (Int.not_lt.mp d))) fun k k1 k2=>?_)
       . exact⟨ht.1,ht.2.1,by omega,by omega,ht.2.2.2.2⟩
       . show R r p k=R r p (m+1 - 1)
         by_cases hk:k=m
         . rw[hk];rfl
         . rw[Nat.add_sub_cancel,eq];exact he k (by omega) (by omega)
noncomputable def zrz(n N:Nat)(r:Nat->Int)(p:Array Nat)(t:Nat×Array Nat):Prop:=Bel n t.2/\t.2.Perm p/\1<=t.1/\t.1<=N/\Up r t.2 t.1
theorem zir{N m:Nat}{p:Array Nat}(hb:Bel n p)(hs:p.size=N)(h1:1<=m)(h2:m<=N)(hd:Dn r p m):Hd n r (kas_tail3 m N p) (zrz n N r p):=by
 unfold kas_tail3;have hz:m<=p.size:=by omega
 refine Hd.bind (Hd.mono (fun m' h'=>?_) (znp (zfI hz hb) (N - m) m h1 (zqk hz hd)));exact⟨zfI hz hb,zko _ _ _,by omega,by omega,h'.2.2.1⟩
theorem zeG{N m:Nat}{p:Array Nat}(hb:Bel n p)(hs:p.size=N)(h1:1<=m)(h2:m+1<=N)(hd:Dn r p (m+1)):Hd n r (kas_descPart m N p) (zrz n N r p):=by
 unfold kas_descPart;refine Hd.bind (Hd.mono (fun t ht=>?_) (zhv (N:=N) (N - (m+1)) p (m+1) 0 hb hs (by omega) (by omega) (by omega) hd fun k k1 k2=>by
   have:k=m+1 - 1:=by omega
   rw[this]))
 obtain⟨t1,t2,t3,t4,t5,t6,t7⟩:=ht;have hsz:t.1.size=N:=t2.size_eq.trans hs
 by_cases hq:t.2.2 > 0
 . rw[if_pos hq];have hz:t.2.1<=t.1.size:=by omega
   refine Hd.mono (fun u hu=>?_) (zir (zfI hz t1) ((zmb _ _ _).trans hsz) (by omega) (by omega) (t6.same (ziM hz t7)));exact⟨hu.1,(hu.2.1.trans (zko _ _ _)).trans t2,hu.2.2⟩
 . rw[if_neg hq];refine Hd.mono (fun u hu=>?_) (zir t1 hsz (by omega) (by omega) t6);exact⟨hu.1,hu.2.1.trans t2,hu.2.2⟩
theorem znh{N:Nat}{p:Array Nat}(hb:Bel n p)(hs:p.size=N)(hN:1<=N):Hd n r (kas_count N p) (zrz n N r p):=by
 unfold kas_count;have up1:Up r p 1:=fun i j a b=>by
   have:i=j:=by omega
   rw[this];exact Int.le_refl _
 refine Hd.bind (Hd.mono (fun m hm=>?_) (znp hb (N - 1) 1 (Nat.le_refl _) up1));obtain⟨m1,m2,m3,m4⟩:=hm
 by_cases e:(m==N)=true
 . rw[if_pos e];exact⟨hb,Array.Perm.refl _,m1,by omega,m3⟩
 . rw[if_neg e];have ne:m≠N:=fun z=>e (by simp[z]);have lt:=m4 (by omega)
   by_cases g:m > 1
   . rw[if_pos g];refine⟨⟨hb _,hb _⟩,?_⟩
     by_cases c:r (p.getD 0 0) < r (p.getD (m - 1) 0)
     . refine zjs c ?_;exact⟨hb,Array.Perm.refl _,m1,by omega,m3⟩
     . refine zjt c ?_;have hz:m<=p.size:=by omega
       have all:∀ k,k < m->R r p k=R r p (m - 1):=fun k hk=>Int.le_antisymm (m3 k (m - 1) (by omega) (by omega)) (Int.le_trans (Int.not_lt.mp c) (m3 0 k (by omega) hk));have e:=ziM (i:=0) hz fun k _ hk=>all k hk;have dn:Dn r p m:=fun i j a b=>by rw[all i (by omega),all j b];exact Int.le_refl _
       refine Hd.mono (fun u hu=>?_) (zeG (zfI (i:=0) hz hb) ((zmb _ _ _).trans hs) m1 (by omega) ((dn.more (.inr (Int.le_of_lt lt))).same e));exact⟨hu.1,hu.2.1.trans (zko _ _ _),hu.2.2⟩
   . rw[if_neg g];have m1':m=1:=by omega
     subst m1';have dn:Dn r p 1:=fun i j a b=>by
       have:i=j:=by omega
       rw[this];exact Int.le_refl _
     exact zeG hb hs (Nat.le_refl _) (by omega) (dn.more (.inr (Int.le_of_lt lt)))
theorem zdY{p:Array Nat}{k:Nat}(hb:Bel n p)(hu:Up r p k):∀ (f a b:Nat),a<=b->b<=k->b<=a+f->(∀ x,x < a->R r p x<=R r p k)->(∀ x,b<=x->x < k->R r p k<=R r p x) ->
   Hd n r (kas_place p k f a b) fun l=>l<=k/\(∀ x,x < l->R r p x<=R r p k)/\∀ x,l<=x->x < k->R r p k<=R r p x
 | 0,a,b,h1,h2,h3,hl,hr=>by
   have:a=b:=by omega
   subst this;exact⟨h2,hl,hr⟩
 | f+1,a,b,h1,h2,h3,hl,hr=>by
   unfold kas_place
   by_cases g:a ≥ b
   . rw[if_pos g];have:a=b:=by omega
     subst this;exact⟨h2,hl,hr⟩
   . rw[if_neg g];refine⟨⟨hb _,hb _⟩,?_⟩
     by_cases c:r (p.getD k 0) < r (p.getD ((a+b) / 2) 0)
     . refine zjs c ?_;refine zdY hb hu f a ((a+b) / 2) (by omega) (by omega) (by omega) hl fun x x1 x2=>?_;exact Int.le_trans (Int.le_of_lt c) (hu ((a+b) / 2) x x1 x2)
     . refine zjt c ?_;refine zdY hb hu f ((a+b) / 2+1) b (by omega) h2 (by omega) (fun x hx=>?_) hr;exact Int.le_trans (hu x ((a+b) / 2) (by omega) (by omega)) (Int.not_lt.mp c)
theorem zpq{N:Nat}:∀ (f:Nat) (p:Array Nat) (k:Nat),Bel n p->p.size=N->k+f=N->Up r p k->Hd n r (kas_bin f p k) fun q=>q.Perm p/\Up r q N
 | 0,p,k,hb,hs,hk,hu=>⟨Array.Perm.refl _,by rw[<-hk];exact hu⟩
 | f+1,p,k,hb,hs,hk,hu=>by
   unfold kas_bin;refine Hd.bind (Hd.mono (fun l hl=>?_) (zdY hb hu k 0 k (Nat.zero_le _) (Nat.le_refl _) (by omega) (fun x hx=>absurd hx (Nat.not_lt_zero _)) fun x a b=>absurd (Nat.lt_of_lt_of_le b a) (Nat.lt_irrefl _)));obtain⟨l1,l2,l3⟩:=hl;have hks:k < p.size:=by omega
   refine Hd.mono (fun q hq=>⟨hq.1.trans (bubble_perm _ _ _),hq.2⟩) (zpq f (bubble p k (k - l)) (k+1) (zpk hks (by omega) hb) ((bubble_size _ _ _).trans hs) (by omega) fun i j hij hj=>?_);have g:∀ x,R r (bubble p k (k - l)) x=if x=l then R r p k else if l < x/\x<=k then R r p (x - 1) else R r p x:=fun x=>by
     unfold R;rw[zlC hks (by omega)];have e:k - (k - l)=l:=by omega
     rw[e]
     by_cases a1:x=l
     . rw[if_pos a1,if_pos a1]
     . rw[if_neg a1,if_neg a1]
       by_cases a2:l < x/\x<=k
       . rw[if_pos a2,if_pos a2]
       . rw[if_neg a2,if_neg a2]
   rw[g i,g j]
   by_cases h1:i=l
   . rw[if_pos h1]
     by_cases h2:j=l
     . rw[if_pos h2];exact Int.le_refl _
     . rw[if_neg h2,if_pos (by omega)];exact l3 (j - 1) (by omega) (by omega)
   . rw[if_neg h1]
     by_cases h2:j=l
     . rw[if_pos h2,if_neg (by omega)];exact l2 i (by omega)
     . rw[if_neg h2]
       by_cases h3:l < i/\i<=k
       . rw[if_pos h3,if_pos (by omega)];exact hu (i - 1) (j - 1) (by omega) (by omega)
       . rw[if_neg h3]
         by_cases h4:l < j/\j<=k
         . rw[if_pos h4];exact hu i (j - 1) (by omega) (by omega)
         . rw[if_neg h4];exact hu i j hij (by omega)
theorem zkp{n:Nat}(hn:1<=n):Bel n (List.toArray (List.range n)):=fun k=>by
 rw[Array.getD_eq_getD_getElem?,List.getElem?_toArray]
 by_cases h:k < n
 . rw[List.getElem?_range h];exact h
 . rw[List.getElem?_eq_none_iff.mpr (by rw[List.length_range];omega)];exact hn
theorem sort_ok(hn:1<=n):Hd n r (kas_sort n) fun q=>q.Perm (List.toArray (List.range n))/\Up r q n:=by
 unfold kas_sort;have hs:(List.toArray (List.range n)).size=n:=by simp
 refine Hd.bind (Hd.mono (fun t ht=>?_) (znh (zkp hn) hs hn));obtain⟨t1,t2,t3,t4,t5⟩:=ht
 by_cases h:t.1 < n
 . rw[if_pos h];have e:max t.1 1=t.1:=Nat.max_eq_left t3;rw[e];refine Hd.mono (fun q hq=>⟨hq.1.trans t2,hq.2⟩) (zpq (N:=n) (n - t.1) t.2 t.1 t1 (t2.size_eq.trans hs) (by omega) t5)
 . rw[if_neg h];have e:t.1=n:=by omega
   exact⟨t2,by rw[<-e];exact t5⟩
end
end Srt
set_option maxHeartbeats 4000000
namespace L2.MP
open PySem PySem.Spec PyProof.Rows
theorem zoS:∀ a:List Int,HT.lexLt a a=false
 | []=>rfl
 | x::r=>by rw[HT.lexLt_cons,if_pos rfl];exact zoS r
theorem zlr:∀ {a b:List Int},HT.lexLt a b=false->HT.lexLt b a=false->a=b
 | [],[],_,_=>rfl
 | [],_::_,h,_=>by rw[HT.lexLt_nil_cons] at h;cases h
 | _::_,[],_,h=>by rw[HT.lexLt_nil_cons] at h;cases h
 | x::a,y::b,h1,h2=>by
   rw[HT.lexLt_cons] at h1 h2
   by_cases e:x=y
   . subst e;rw[if_pos rfl] at h1 h2;rw[zlr h1 h2]
   . rw[if_neg e] at h1;rw[if_neg (Ne.symm e)] at h2;have a1:=of_decide_eq_false h1;have a2:=of_decide_eq_false h2;omega
theorem zjf:∀ {a b c:List Int},HT.lexLt b a=false->HT.lexLt c b=false->HT.lexLt c a=false
 | a,[],c,_,h2=>by
   cases c with
   | nil =>
     cases a with
     | nil=>rfl
     | cons x a=>rename_i h1;rw[HT.lexLt_nil_cons] at h1;cases h1
   | cons z c =>
     cases a with
     | nil=>exact HT.lexLt_cons_nil _ _
     | cons x a=>rename_i h1;rw[HT.lexLt_nil_cons] at h1;cases h1
 | a,y::b,[],_,h2=>by rw[HT.lexLt_nil_cons] at h2;cases h2
 | [],y::b,z::c,_,_=>HT.lexLt_cons_nil _ _
 | x::a,y::b,z::c,h1,h2=>by
   rw[HT.lexLt_cons] at h1 h2 ⊢
   by_cases e1:y=x
   . subst e1;rw[if_pos rfl] at h1
     by_cases e2:z=y
     . subst e2;rw[if_pos rfl] at h2 ⊢;exact zjf h1 h2
     . rw[if_neg e2] at h2 ⊢;exact h2
   . rw[if_neg e1] at h1;have a1:=of_decide_eq_false h1
     by_cases e2:z=y
     . subst e2;rw[if_neg e1];exact h1
     . rw[if_neg e2] at h2;have a2:=of_decide_eq_false h2;rw[if_neg (by omega)];exact decide_eq_false (by omega)
theorem zlq{a b:List Int}(h:HT.lexLt a b=true):HT.lexLt b a=false:=by
 cases e:HT.lexLt b a with
 | false=>rfl
 | true =>
   -- b < a and a < b: then not (a < a) breaks
   exfalso;have:∀ {a b:List Int},HT.lexLt a b=true->HT.lexLt b a=true->False:=by
     intro a
     induction a with
     | nil=>intro b h1 h2;cases b with
       | nil=>rw[HT.lexLt_nil_nil] at h1;cases h1
       | cons y b=>rw[HT.lexLt_cons_nil] at h2;cases h2
     | cons x a ih=>intro b h1 h2;cases b with
       | nil=>rw[HT.lexLt_cons_nil] at h1;cases h1
       | cons y b =>
         rw[HT.lexLt_cons] at h1 h2
         by_cases q:x=y
         . subst q;rw[if_pos rfl] at h1 h2;exact ih h1 h2
         . rw[if_neg q] at h1;rw[if_neg (Ne.symm q)] at h2;have a1:=of_decide_eq_true h1;have a2:=of_decide_eq_true h2;omega
   exact this h e
noncomputable def tle(a b:List Int):Bool:=!HT.lexLt b a
noncomputable def zfu(ts:List (List Int)):List (List Int):=ts.mergeSort tle
theorem zdI(a b c:List Int)(h1:tle a b=true)(h2:tle b c=true):tle a c=true:=by
 unfold tle at *;rw[Bool.not_eq_true'] at *;exact zjf h1 h2
theorem zgV(a b:List Int):(tle a b || tle b a)=true:=by
 unfold tle
 cases e:HT.lexLt b a with
 | false=>rfl
 | true=>rw[zlq e];rfl
theorem zim{a b:List Int}(h1:tle a b=true)(h2:tle b a=true):a=b:=by
 unfold tle at *;rw[Bool.not_eq_true'] at *;exact zlr h2 h1
noncomputable def rank(ts:List (List Int))(i:Nat):Int:=((ts.countP fun t=>HT.lexLt t (ts.getD i [])):Nat)
theorem zlf{ts:List (List Int)}{i j:Nat}(hi:i < ts.length):(decide (rank ts i < rank ts j))=HT.lexLt (ts.getD i []) (ts.getD j []):=by
 unfold rank
 cases e:HT.lexLt (ts.getD i []) (ts.getD j []) with
 | true =>
   refine decide_eq_true ?_;have le:ts.countP (fun t=>HT.lexLt t (ts.getD i [])) < ts.countP (fun t=>HT.lexLt t (ts.getD j [])):=by
     have hm:ts.getD i []∈ts:=by rw[List.getD_eq_getElem?_getD,List.getElem?_eq_getElem hi];exact List.getElem_mem hi
     generalize ha:ts.getD i []=a at *;generalize hb:ts.getD j []=b at *;clear ha hb hi;have sub:∀ t,HT.lexLt t a=true->HT.lexLt t b=true:=fun t ht=>by
       cases q:HT.lexLt t b with
       | true=>rfl
       | false =>
         exfalso
         -- b<=t,t < a,a < b
         have h1:HT.lexLt a t=false:=zlq ht;have:HT.lexLt a b=false:=by
           have h2:tle b t=true:=by unfold tle;rw[q];rfl
           have h3:tle t a=true:=by unfold tle;rw[h1];rfl
           have:=zdI b t a h2 h3;unfold tle at this;rw[Bool.not_eq_true'] at this;exact this
         rw[e] at this;cases this
     induction ts with
     | nil=>exact absurd hm (by simp)
     | cons t r ih =>
       rw[List.countP_cons,List.countP_cons]
       rcases List.mem_cons.mp hm with q | q
       . subst q;rw[zoS,e];have:r.countP (fun t=>HT.lexLt t a)<=r.countP (fun t=>HT.lexLt t b):=List.countP_mono_left fun t _ ht=>sub t ht;simp only[Bool.false_eq_true,if_false,if_true];omega
       . have:=ih q
         by_cases c:HT.lexLt t a=true
         . rw[if_pos c,if_pos (sub t c)];omega
         . rw[if_neg c];split <;> omega
   omega
 | false =>
   refine decide_eq_false ?_;have le:ts.countP (fun t=>HT.lexLt t (ts.getD j []))<=ts.countP (fun t=>HT.lexLt t (ts.getD i [])):=List.countP_mono_left fun t _ ht=>by
     cases q:HT.lexLt t (ts.getD i []) with
     | true=>rfl
     | false =>
       exfalso;have h2:tle (ts.getD j []) (ts.getD i [])=true:=by unfold tle;rw[e];rfl
       have h3:tle (ts.getD i []) t=true:=by unfold tle;rw[q];rfl
       have h4:=zdI _ _ _ h2 h3;unfold tle at h4;rw[ht] at h4;cases h4
   omega
end L2.MP
set_option maxHeartbeats 4000000
namespace L2.MP
open PySem PySem.Spec PyProof.Rows
theorem zrg{n:Nat}{r:Nat->Int}{α:Type}{P:α->Prop}{Q:α->Shared->Prop}{s:Shared}{cmp:Nat->Nat->(Bool->Shared->Prop)->Shared->Prop}(hc:∀ i j,i < n->j < n->∀ C:Bool->Shared->Prop,C (decide (r i < r j)) s->cmp i j C s)(hq:∀ a,P a->Q a s) :
   ∀ {t:PySem.W.KasT α},Srt.Hd n r t P->t.kasWp cmp Q s
 | .ret a,h=>hq a h
 | .ask i j k,h=>hc i j h.1.1 h.1.2 _ (zrg hc hq (t:=k _) h.2)
section
variable {prog:Program} {w:World} {A:Around} {E:Value->Shared->Prop} {s:Shared}
theorem zeE{Q:Bool->Shared->Prop}:∀ {xs ys:List Int} {us ws:List Value} (i:Nat),Vals (xs.map V.int) us->Vals (ys.map V.int) ws->Q (HT.lexLt xs ys) s->PySem.W.KatLex prog w A true (decide (us.length < ws.length)) Q (us.zip ws) i s
 | [],[],_,_,i,.nil,.nil,h=>h
 | [],y::ys,_,_,i,.nil,.cons r t,h=>by
   show Q (decide (_ < _)) s;rw[decide_eq_true (by simp)];exact h
 | x::xs,[],_,_,i,.cons r t,.nil,h=>by
   show Q (decide (_ < _)) s;rw[decide_eq_false (by simp)];exact h
 | x::xs,y::ys,_,_,i,.cons r1 t1,.cons r2 t2,h=>by
   obtain⟨a1,rfl⟩:=r1;obtain⟨a2,rfl⟩:=r2;rw[HT.lexLt_cons] at h;refine SeqAt.EqAt.int_int x a1 y a2 prog w _ _ ?_
   by_cases e:x=y
   . subst e;rw[if_pos rfl] at h;rw[beq_self_eq_true,if_pos rfl];have:=zeE (Q:=Q) (i+1) t1 t2 h;rw[List.length_cons,List.length_cons];have e2:∀ a b:Nat,decide (a+1 < b+1)=decide (a < b):=fun a b=>by
       by_cases q:a < b
       . rw[decide_eq_true q,decide_eq_true (by omega)]
       . rw[decide_eq_false q,decide_eq_false (by omega)]
     rw[e2];exact this
   . rw[if_neg e] at h;have hb:(x==y)=false:=by simpa using e
     rw[hb,if_neg Bool.false_ne_true]
     by_cases hi:i=0
     . subst hi;exact oneLt_int h
     . have:(true&&i==0)=false:=by simpa using hi
       rw[this];exact PySem.W.kat_one _ _ (lt_int h)
end
section
variable {X:Cx} {pins:List (Addr×Obj)} {σ:L2.St} {H:Hp} {s:Shared}
noncomputable def zia(H:Hp):List V->List (List Int)->Prop:=Paired fun v t=>∃ a,v=.ref a/\H a=some (.tup (t.map V.int))/\t≠[]
theorem zgl:∀ {xs:List V} {ts:List (List Int)} {i:Nat},zia H xs ts->i < ts.length->∃ a,xs[i]?=some (.ref a)/\H a=some (.tup ((ts.getD i []).map V.int))/\ts.getD i []≠[]
 | _,[],i,_,hi=>absurd hi (by simp)
 | _,t::ts,0,.cons r q,_=>by
   obtain⟨a,rfl,ha,hn⟩:=r;exact⟨a,rfl,ha,hn⟩
 | _,t::ts,i+1,.cons r q,hi=>by
   have:=zgl (i:=i) q (by simpa using hi);simpa using this
theorem zps{A:Around}{xs:List V}{us:List Value}{ts:List (List Int)}{s':Shared}(I:Inv X pins σ H s)(hk:∀ b o,H b≠none->s.heap.get? b=some o->s'.heap.get? b=some o)(T:zia H xs ts)(r:Vals xs us){i j:Nat}(hi:i < ts.length)(hj:j < ts.length)(C:Bool->Shared->Prop)
   (h:C (decide (rank ts i < rank ts j)) s'):PySem.W.kas_ask X.prog X.w A (PyProof.Rows.tuples' true) us i j C s':=by
 rw[zlf hi] at h;obtain⟨a,ea,ha,_⟩:=zgl T hi;obtain⟨b,eb,hb,_⟩:=zgl T hj;obtain⟨u,eu,ru⟩:=r.get ea;obtain⟨u2,eu2,ru2⟩:=r.get eb;cases ru;cases ru2;obtain⟨ia,va,⟨oa,ga,ca,na,da⟩,_⟩:=I.tuple (SqT.of (K:=X.K) ha);obtain⟨ib,vb,⟨ob,gb,cb,nb,db⟩,_⟩:=I.tuple (SqT.of (K:=X.K) hb);unfold PySem.W.kas_ask;rw[List.getD_eq_getElem?_getD,List.getD_eq_getElem?_getD,eu,eu2];refine PySem.W.kat_lt (hk _ _ (by rw[ha];simp) ga) da (hk _ _ (by rw[hb];simp) gb) db ?_;have:=zeE (prog:=X.prog) (w:=X.w) (A:=A) (Q:=C) (s:=s') 0 va vb h;simpa using this
end
end L2.MP
set_option maxHeartbeats 4000000
namespace L2.MP
open PySem PySem.Spec PyProof.Rows
section
variable {X:Cx} {pins:List (Addr×Obj)} {σ:L2.St} {H:Hp} {s:Shared}
theorem zgN{h':Heap}(I:Inv X pins σ H s)(hk:∀ b o,H b≠none->s.heap.get? b=some o->h'.get? b=some o):∀ {xs:List V} {us:List Value} {ts:List (List Int)},zia H xs ts->Vals xs us ->
   ∃ fs:List Value,PySem.W.KatTups h' us fs/\fs.length=us.length/\∀ v∈fs,∃ i t,v=Value.int i t
 | _,_,[],.nil,.nil=>⟨[],PySem.W.KatTups.nil,rfl,fun v hv=>absurd hv (by simp)⟩
 | _,_,t::ts,.cons r q,.cons rv rvs=>by
   obtain⟨a,rfl,ha,hn⟩:=r;cases rv;obtain⟨fs,h1,h2,h3⟩:=zgN I hk q rvs;obtain⟨its,va,⟨o,g,c,n,d⟩,_⟩:=I.tuple (SqT.of (K:=X.K) ha)
   cases t with
   | nil=>exact absurd rfl hn
   | cons x t =>
     cases va with
     | @cons _ u _ us' ru rus =>
       obtain⟨tk,rfl⟩:=ru;refine⟨.int x tk::fs,PySem.W.KatTups.cons (hk _ _ (by rw[ha];simp) g) c d (by simp) h1,by rw[List.length_cons,List.length_cons,h2],fun v hv=>?_⟩
       rcases List.mem_cons.mp hv with rfl | hv
       . exact⟨x,tk,rfl⟩
       . exact h3 v hv
end
end L2.MP
set_option maxHeartbeats 4000000
namespace L2.MP
open PySem PySem.Spec PyProof.Rows
theorem zhc{P:Program}{w:World}{H:Hp}{h:Heap}{a:Addr}{o:HO}(x:zdc P w H h a o):∃ u,h.get? a=some u:=by
 cases o with
 | lst xs=>obtain⟨_,_,_,_,e⟩:=x;exact⟨_,e⟩
 | tup xs=>obtain⟨_,_,_,o,e,_⟩:=x;exact⟨_,e⟩
 | dK kvs=>obtain⟨_,_,_,_,o,_,_,e,_⟩:=x;exact⟨_,e⟩
 | dT kvs=>obtain⟨_,_,_,_,o,_,_,e,_⟩:=x;exact⟨_,e⟩
 | set S n=>obtain⟨o,_,_,_,e,_⟩:=x;exact⟨_,e⟩
 | ins C dx fs=>obtain⟨_,_,_,e,_⟩:=x;exact⟨_,e⟩
 | own y=>exact x
 | xd fs=>obtain⟨_,⟨_,_,_,e,_⟩,_⟩:=x;exact⟨_,e⟩
 | rng lo hi=>obtain⟨_,_,_,e⟩:=x;exact⟨_,e⟩
 | frz ob u=>obtain⟨e,_⟩:=x;exact⟨_,e⟩
 | tbl ps=>exact⟨_,x⟩
 | met f y=>exact⟨_,x⟩
 | ext φ=>obtain⟨_,e,_⟩:=x;exact e
theorem zoD{h:Heap}{a:Addr}{m m':Str->Option Value}(x:h.Ns a m)(y:h.Ns a m'):m=m':=by
 obtain⟨o,es,ep,ho,hd,_,hm⟩:=x;obtain⟨o',es',ep',ho',hd',_,hm'⟩:=y;rw[ho] at ho';cases ho';rw[hd] at hd';cases hd'
 funext n
 rw[<-hm n,hm' n]
section
variable {X:Cx} {pins:List (Addr×Obj)} {σ:L2.St} {H:Hp} {s:Shared}
theorem Inv.laidAt{h':Heap}{m:Str->Option Value}{a:Addr}{o:HO}(I:Inv X pins σ H s)(k:∀ b u,b≠X.env.locals->s.heap.get? b=some u->h'.get? b=some u)(ns:∀ m,s.heap.Ns X.env.locals m->h'.Ns X.env.locals m)(hL:∃ u,h'.get? X.env.locals=some u)
   (ha:s.heap.get? a=none) (hH:H a=none) (haL:a≠X.env.locals) (new:zdc X.prog X.w (upd H a o) h' a o):Inv X pins σ (upd H a o) { s with heap:=h' }:=by
 have na:∀ b u,s.heap.get? b=some u->b≠a:=fun b u e z=>by rw[z,ha] at e;cases e
 refine Inv.step (t':=s.toks) (ch:=[]) (g':=s.gens) (d':=s.drawn) I (fun b hb=>absurd hb (by simp)) (fun b u h1 _ _ e _=>k b u h1 e) (fun b u h1 _ _ e _=>⟨u.slots,k b u h1 e⟩) (fun b u _ e n=>by rw[zav (na b u e)];exact n) (fun b u _ e=>?_)
   (fun b xs e=>by rw[zav (zau e hH)];exact e) (fun b u v e=>by rw[zav (zau e hH)];exact e) (fun b ps e=>⟨#[],by rw[zav (zau e hH),e];simp⟩) ns (fun b u e=>?_) I.bare
 . by_cases hb:b=X.env.locals
   . rw[hb];exact hL
   . exact⟨u,k b u hb e⟩
 . by_cases hb:b=a
   . subst hb;rw[zbs] at e;cases e;exact new
   . rw[zav hb] at e;refine (I.hok b u e).stay (fun c v hc q=>k c v (fun z=>?_) q) (fun c q=>by rw[zav (zau q hH)];exact q) fun c xs q=>by rw[zav (zau q hH)];exact q
     subst z
     rcases hc with rfl | hc
     . rw[I.free] at e;cases e
     . rw[I.free] at hc;cases hc
theorem zhK{xs:List V}{ts:List (List Int)}{l:Addr}{Q:VK}(I:Inv X pins σ H s)(hl:SqL X.K H l xs)(T:zia H xs ts)(h2:2<=ts.length)(h64:ts.length < 64)
   (h:∀ (q:Array Nat) (p:Addr),q.Perm (List.toArray (List.range ts.length))->Srt.Up (rank ts) q ts.length->H p=none->Q (.ref p) (upd H p (.lst (q.toList.map fun i=>xs.getD i .non)))) :
   wpAny (model X.prog X.w) X.A (call (.builtin "sorted") [.ref l]) (EP X pins σ Q) X.xe s:=by
 obtain⟨its,rv,pl,hz⟩:=I.list hl;have hlen:its.length=ts.length:=by
   have a:=rv.length;have b:=Paired.length T;omega
 obtain⟨m,F⟩:=I.fr;have trkL:∀ b,H b≠none->b≠X.env.locals:=fun b hb z=>hb (by rw[z];exact I.free);have trkB:∀ b,H b≠none->X.base.get? b=none:=fun b hb=>by
   cases e:X.base.get? b with
   | none=>rfl
   | some o=>exact absurd (I.bs b o e).2 hb
 refine PySem.W.kat_sorted F (zgG (g:=X.base) (h:=s.heap) (L:=X.env.locals)) pl.isList (by omega) (by omega) fun D e1 h' F' N' hlt=>?_;have keep:∀ {h2:Heap} {o:Obj},Fr X.base X.env.locals h2 m->News X.base X.env.locals h2 ((D,o)::zed X.base s.heap X.env.locals)->∀ b u,b≠X.env.locals->s.heap.get? b=some u->h2.get? b=some u:=fun {h2 o} F2 N2 b u hb e=>by
   cases q:X.base.get? b with
   | some v =>
     have z:=(I.bs b v q).1;rw[e] at z;cases z;exact F2.keep b _ q
   | none=>exact (N2 (b,u) (List.mem_cons_of_mem _ (zdn hb q e))).1
 have hk:∀ b o,H b≠none->s.heap.get? b=some o->h'.get? b=some o:=fun b o hb e=>keep F' N' b o (trkL b hb) e;have hDD:=N' _ List.mem_cons_self;have hsD:s.heap.get? D=none:=by
   cases e:s.heap.get? D with
   | none=>rfl
   | some u=>exact absurd (hlt _ (zdn hDD.2.1 hDD.2.2 e)) (Nat.lt_irrefl _)
 have hHD:H D=none:=by
   cases e:H D with
   | none=>rfl
   | some o =>
     obtain⟨u,hu⟩:=zhc (I.hok D o e);rw[hsD] at hu;cases hu
 obtain⟨fs,k1,k2,k3⟩:=zgN (h':=h') I hk T rv;refine PySem.W.kat_kind (s:={ s with heap:=h' }) (T:=.type "int") k1 (by omega) (fun v hv=>?_) rfl ?_
 . obtain⟨i,t,rfl⟩:=k3 v hv;exact PySem.W.Looks.of_pure rfl
 have ok:=Srt.sort_ok (n:=its.length) (r:=rank ts) (by omega);refine zrg (n:=its.length) (r:=rank ts) (s:={ s with heap:=h' }) (fun i j hi hj C hC=>zps (s':={ s with heap:=h' }) I hk T rv (by omega) (by omega) C hC) (fun q hq=>?_) ok;refine PySem.W.KasFin.intro F' N' (PySem.W.UpdF.head fun p hp=>Nat.ne_of_lt (hlt p hp)) fun h2 c F2 N2=>?_;have hD2:=(N2 _ List.mem_cons_self).1;rw[hlen] at hq;have vals:Vals (q.toList.map fun i=>xs.getD i .non) (q.toList.map fun i=>its.getD i Value.none):=by
   have hmem:∀ i∈q.toList,i < xs.length:=fun i hi=>by
     have:i∈(List.toArray (List.range ts.length)).toList:=(Array.perm_iff_toList_perm.mp hq.1).mem_iff.mp hi;have hr:=rv.length;simp at this;omega
   generalize q.toList=ql at hmem
   induction ql with
   | nil=>exact .nil
   | cons i r ih =>
     refine .cons ?_ (ih fun j hj=>hmem j (List.mem_cons_of_mem _ hj));have hi:=hmem i List.mem_cons_self;obtain⟨u,eu,ru⟩:=rv.get (List.getElem?_eq_getElem hi);show RelV (xs.getD i V.non) (its.getD i Value.none);rw[List.getD_eq_getElem?_getD,List.getD_eq_getElem?_getD,List.getElem?_eq_getElem hi,eu];exact ru
 have hql:q.toList.length=ts.length:=by
   have:=(Array.perm_iff_toList_perm.mp hq.1).length_eq;simpa using this
 have J:Inv X pins σ (upd H D (.lst (q.toList.map fun i=>xs.getD i .non))) { s with heap:=h2 } :=
   Inv.laidAt (m:=m) I (keep F2 N2) (fun m' hm'=>by rw[zoD hm' F.ns];exact F2.ns) (let ⟨o,_,_,e,_⟩:=F2.ns;⟨o,e⟩) hsD hHD hDD.2.1 ⟨by rw[List.length_map,hql];exact lt64 h64,_,c,vals,hD2⟩
 exact⟨.ref D,_,J,rfl,h q D hq.1 hq.2 hHD⟩
end
end L2.MP
set_option maxHeartbeats 4000000
namespace L2.MP
open PySem PySem.Spec PyProof.Rows
theorem zfj{α:Type}(ts:List α)(d:α):(List.range ts.length).map (fun i=>ts.getD i d)=ts:=by
 apply List.ext_getElem
 . simp
 . intro i h1 h2;simp[List.getD_eq_getElem?_getD,List.getElem?_eq_getElem h2]
theorem zey{ts:List (List Int)}{q:Array Nat}(hp:q.Perm (List.toArray (List.range ts.length)))(hu:Srt.Up (rank ts) q ts.length):q.toList.map (fun i=>ts.getD i [])=zfu ts:=by
 have hl:=Array.perm_iff_toList_perm.mp hp;have hl:q.toList.Perm (List.range ts.length):=by simpa using hl
 have hsz:q.toList.length=ts.length:=by rw[hl.length_eq,List.length_range]
 have p1:(q.toList.map fun i=>ts.getD i []).Perm ts:=by
   have:=hl.map fun i=>ts.getD i [];rw[zfj] at this;exact this
 refine zcZ (le:=fun a b=>tle a b=true) (p1.trans (List.mergeSort_perm ts tle).symm) ?_ (List.pairwise_mergeSort (fun a b c=>zdI a b c) zgV ts) fun a _ b _=>zim;rw[List.pairwise_iff_getElem];intro i j hi hj hij;rw[List.getElem_map,List.getElem_map];rw[List.length_map] at hi hj;have hu:=hu i j (Nat.le_of_lt hij) (by omega);have gi:∀ (k:Nat) (hk:k < q.toList.length),q.getD k 0=q.toList[k]:=fun k hk=>by
   rw[Array.getD_eq_getD_getElem?,<-Array.getElem?_toList,List.getElem?_eq_getElem hk];rfl
 unfold Srt.R at hu;rw[gi i hi,gi j hj] at hu;have lt:∀ k∈q.toList,k < ts.length:=fun k hk=>List.mem_range.mp (hl.mem_iff.mp hk);have e:=zlf (ts:=ts) (i:=q.toList[j]) (j:=q.toList[i]) (lt _ (List.getElem_mem hj));rw[decide_eq_false (by omega)] at e;unfold tle;rw[<-e];rfl
end L2.MP
set_option maxHeartbeats 4000000
namespace L2.MP
open PySem PySem.Spec PyProof.Rows
noncomputable def intsOf:List D->Option (List Int)
 | []=>some []
 | .int i::r=>(intsOf r).map fun is=>i::is
 | _=>none
theorem zh0{d:D}{r:List D}{ss:List Int}(h:intsOf (d::r)=some ss):∃ x xs,d=.int x/\intsOf r=some xs/\ss=x::xs:=by
 cases d with
 | int x =>
   obtain⟨xs,e,h⟩:=zah h;exact⟨x,xs,rfl,e,h.symm⟩
 | _=>cases h
noncomputable def rowOf:D->Option (List Int)
 | .tup ds=>(intsOf ds).bind fun t=>if (!t.isEmpty)=true then some t else none
 | _=>none
noncomputable def rowsOf:List D->Option (List (List Int))
 | []=>some []
 | d::r=>(rowOf d).bind fun t=>(rowsOf r).map fun ts=>t::ts
noncomputable def tupD(t:List Int):D:=.tup (t.map D.int)
section
variable {X:Cx} {K:PySem.W.Frag} {H:Hp} {io:List Addr} {st st':Sto}
theorem ints_rep:∀ {xs:List V} {ds:List D} {t:List Int},Reps K H io xs ds->intsOf ds=some t->xs=t.map V.int/\ds=t.map D.int
 | _,[],t,h,e=>by cases e;exact⟨h,rfl⟩
 | _,d::ds,t,h,e=>by
   obtain⟨y,ys,rfl,h1,h2⟩:=h;obtain⟨x,rest,rfl,e2,rfl⟩:=zh0 e;obtain⟨a,b⟩:=ints_rep h2 e2
   cases (show y=.int x from h1)
   rw[a,b];exact⟨rfl,rfl⟩
theorem zg5:∀ {xs:List V} {ds:List D} {ts:List (List Int)},Reps K H io xs ds->rowsOf ds=some ts->zia H xs ts/\ds=ts.map tupD
 | _,[],ts,h,e=>by
   cases e;cases (show _=[] from h);exact⟨.nil,rfl⟩
 | _,d::ds,ts,h,e=>by
   obtain⟨y,ys,rfl,h1,h2⟩:=h;obtain⟨t,e1,e⟩:=zae e;obtain⟨us,e2,e⟩:=zah e;subst e;obtain⟨a,b⟩:=zg5 h2 e2
   cases d with
   | tup zs =>
     obtain⟨t',f1,f2⟩:=zae e1;obtain⟨hn,f2⟩:=zap f2;cases f2;obtain⟨p,vs,rfl,hp,rs⟩:=h1;obtain⟨q1,q2⟩:=ints_rep rs f1;subst q1;refine⟨.cons ⟨p,rfl,hp,fun z=>?_⟩ a,?_⟩
     . rw[z] at hn;exact absurd hn (by decide)
     . rw[b,q2];rfl
   | _=>cases e1
noncomputable def zeT:GN
 | [.ref n],st=>(zbu st n).bind fun ds=>(rowsOf ds).bind fun ts=>if (decide (2<=ts.length)&&decide (ts.length < 64))=true then some (.ref st.length,st++[.lst ((zfu ts).map tupD)]) else none
 | _,_=>none
theorem ze6{xs:List V}{ts:List (List Int)}(r:Reps K H io xs (ts.map tupD)):∀ {q:List Nat},(∀ i∈q,i < ts.length)->Reps K H io (q.map fun i=>xs.getD i .non) ((q.map fun i=>ts.getD i []).map tupD)
 | [],_=>rfl
 | i::q,h=>by
   have hi:=h i List.mem_cons_self;have hg:(ts.map tupD)[i]?=some (tupD (ts.getD i [])):=by
     rw[List.getElem?_map,List.getElem?_eq_getElem hi,List.getD_eq_getElem?_getD,List.getElem?_eq_getElem hi];rfl
   obtain⟨v,hv,rv⟩:=r.get hg;refine⟨_,_,rfl,?_,ze6 r fun j hj=>h j (List.mem_cons_of_mem _ hj)⟩;show Rep K H io (xs.getD i .non) _;rw[List.getD_eq_getElem?_getD,hv];exact rv
theorem zf5:zdt X (.builtin "sorted") zeT:=by
 rintro pins s σ H xs us Q I r ⟨ds,st,io,d,st',R,S,e,k⟩;unfold zeT at e
 split at e
 . rename_i n;obtain⟨zs,e0,e⟩:=zae e;obtain⟨ts,e1,e⟩:=zae e;obtain⟨hl,e⟩:=zap e;cases e;rw[Bool.and_eq_true] at hl;obtain⟨v,rfl,p,rfl,hp⟩:=R.one;obtain⟨u,rfl,ru⟩:=r.one;cases ru;obtain⟨ys,hx,r1⟩:=za7 S hp e0;obtain⟨T,hd⟩:=zg5 r1 e1;subst hd;refine zhK I hx T (of_decide_eq_true hl.1) (of_decide_eq_true hl.2) fun q p' hq hu hf=>?_;have hm:∀ i∈q.toList,i < ts.length:=fun i hi=>by
     have:=(Array.perm_iff_toList_perm.mp hq).mem_iff.mp hi;simpa using this
   have rr:=ze6 r1 hm;rw[zey hq hu] at rr;exact k.lst S rr hf
 . cases e
end
end L2.MP
set_option maxHeartbeats 4000000
namespace L2.MP
open PySem PySem.Spec PyProof.Rows
section
variable {X:Cx} {K:PySem.W.Frag} {H:Hp} {io:List Addr} {st st':Sto} {a b c e:Expr} {es:List Expr} {ma mb mc m:ME} {mm:MA} {pos:Pos} {pins:List (Addr×Obj)} {σ:L2.St} {s:Shared}
noncomputable def orO{α:Type}:Option α->Option α->Option α
 | some x,_=>some x
 | none,y=>y
theorem zce{α:Type}{x y:Option α}{z:α}(h:orO x y=some z):x=some z\/y=some z:=by
 cases x with
 | none=>exact .inr h
 | some w=>exact .inl h
noncomputable def orG(g h:G2):G2:=fun x y st=>orO (g x y st) (h x y st)
noncomputable def orN(g h:GN):GN:=fun xs st=>orO (g xs st) (h xs st)
theorem zmv{f:Value->Value->Sem Value}{g h:G2}(p:OpM X f g)(q:OpM X f h):OpM X f (orG g h):=by
 rintro pins s σ H x y v u Q I rx ry ⟨dx,dy,st,io,d,st',Rx,Ry,S,e,k⟩
 rcases zce e with e | e
 . exact p pins s σ H x y v u Q I rx ry ⟨dx,dy,st,io,d,st',Rx,Ry,S,e,k⟩
 . exact q pins s σ H x y v u Q I rx ry ⟨dx,dy,st,io,d,st',Rx,Ry,S,e,k⟩
theorem zds{f:Value}{g h:GN}(p:zdt X f g)(q:zdt X f h):zdt X f (orN g h):=by
 rintro pins s σ H xs us Q I r ⟨ds,st,io,d,st',R,S,e,k⟩
 rcases zce e with e | e
 . exact p pins s σ H xs us Q I r ⟨ds,st,io,d,st',R,S,e,k⟩
 . exact q pins s σ H xs us Q I r ⟨ds,st,io,d,st',R,S,e,k⟩
theorem zhj{g:G2}{ρ:Rho}{x y:D}{s0 s1 s2:Sto}{r:D×Sto}(h1:ma ρ s0=some (x,s1))(h2:mb ρ s1=some (y,s2))(h3:g x y s2=some r):mBin g ma mb ρ s0=some r:=by
 unfold mBin;rw[h1];show Option.bind (mb ρ s1) _=_;rw[h2];exact h3
theorem zqa{g h:G2}(p:SE X e (mBin g ma mb))(q:SE X e (mBin h ma mb)):SE X e (mBin (orG g h) ma mb):=by
 rintro pins s σ H Q I ⟨ρ,st,io,d,st',E,S,e,k⟩;obtain⟨⟨x,s1⟩,e1,e⟩:=zae e;obtain⟨⟨y,s2⟩,e2,e⟩:=zae e
 rcases zce e with e | e
 . exact p pins s σ H Q I ⟨ρ,st,io,d,st',E,S,zhj e1 e2 e,k⟩
 . exact q pins s σ H Q I ⟨ρ,st,io,d,st',E,S,zhj e1 e2 e,k⟩
theorem zl6{g h:G2}(p:SB X e (mTst (mBin g ma mb)))(q:SB X e (mTst (mBin h ma mb))):SB X e (mTst (mBin (orG g h) ma mb)):=by
 rintro pins s σ H Q I ⟨ρ,st,io,d,st',E,S,e,k⟩;have e:=zj7 e;obtain⟨⟨x,s1⟩,e1,e⟩:=zae e;obtain⟨⟨y,s2⟩,e2,e⟩:=zae e
 rcases zce e with e | e
 . exact p pins s σ H Q I ⟨ρ,st,io,d,st',E,S,by unfold mTst;rw[zhj e1 e2 e];rfl,k⟩
 . exact q pins s σ H Q I ⟨ρ,st,io,d,st',E,S,by unfold mTst;rw[zhj e1 e2 e];rfl,k⟩
noncomputable def zrl:G2:=fun d k st=>match d with
 | .ref n=>(look st n k).bind fun r=>r.map fun v=>(v,st)
 | _=>none
noncomputable def ixA:G2:=orG idxD zrl
theorem zao(hu:X.A.units+1 < cLine)(ha:SE X a ma)(hb:SE X b mb)(hs:zjX b:=by intro _ _;rfl)(hs':NoSl b:=by intro _ _;rfl):SE X (.Subscript a b pos) (mBin ixA ma mb) :=
 zqa (zsd ha hb hs) (show SE X (.Subscript a b pos) (zrL ma mb) from zn7 hu ha hb hs')
noncomputable def dinD(neg:Bool):G2:=fun k d st=>match d with
 | .ref n=>(look st n k).map fun r=>(.bl (if neg then !r.isSome else r.isSome),st)
 | _=>none
noncomputable def inA:G2:=orG (orG (inD false) inSD) (dinD false)
noncomputable def zmE:G2:=orG (inD true) (dinD true)
theorem ziL(hu:X.A.units+100 < cLine)(ha:SE X a ma)(hb:SE X b mb)(hm:behindInMarks .In b=false:=by rfl):SB X (.Compare a [.In] [b] pos) (mTst (mBin inA ma mb)) :=
 zl6 (zbN (zmv (zqO hu) zox) ha hb hm) (show SB X _ (mTst (mDIn false ma mb)) from zqh (by omega) ha hb hm)
theorem zkm(hu:X.A.units+100 < cLine)(ha:SE X a ma)(hb:SE X b mb)(hm:behindInMarks .NotIn b=false:=by rfl):SB X (.Compare a [.NotIn] [b] pos) (mTst (mBin zmE ma mb)) :=
 zl6 (zbN (zky hu) ha hb hm) (show SB X _ (mTst (mDIn true ma mb)) from zkn (by omega) ha hb hm)
noncomputable def slA:D->Option Int->Option Int->Sto->Option (D×Sto):=fun x lo hi st=>orO (slD x lo hi st) (slS x lo hi st)
noncomputable def mSlA(m:ME)(l h:MO):ME:=fun ρ st=>(m ρ st).bind fun (x,s1)=>(l ρ s1).bind fun (lo,s2)=>(h ρ s2).bind fun (hi,s3)=>slA x lo hi s3
theorem zkj{lo hi:Option Expr}{ml mh:MO}{p2:Pos}(he:SE X e m)(hl:SO X lo ml)(hu:SO X hi mh):SE X (.Subscript e (.Slice lo hi none p2) pos) (mSlA m ml mh):=by
 rintro pins s σ H Q I ⟨ρ,st,io,d,st',E,S,e0,k⟩;obtain⟨⟨x,s1⟩,e1,e0⟩:=zae e0;obtain⟨⟨lo',s2⟩,e2,e0⟩:=zae e0;obtain⟨⟨hi',s3⟩,e3,e0⟩:=zae e0
 rcases zce e0 with e0 | e0
 . exact zlZ he hl hu pins s σ H Q I ⟨ρ,st,io,d,st',E,S,by simp only[mSl,e1,e2,e3,Option.bind_some];exact e0,k⟩
 . exact zki he hl hu pins s σ H Q I ⟨ρ,st,io,d,st',E,S,by simp only[mSlS,e1,e2,e3,Option.bind_some];exact e0,k⟩
noncomputable def zie:D->Sto->Option (Wk×Sto)
 | .ref n,s=>(zbu s n).map fun ds=>(⟨ds,[(n,ds)]⟩,s)
 | .tup ds,s=>some (⟨ds,[]⟩,s)
 | _,_=>none
noncomputable def mW(m:ME):MI:=fun ρ st=>(m ρ st).bind fun (d,s)=>zie d s
theorem znY{tg l:Expr}(hl:SE X l m):SI X tg l (mW m):=by
 rintro pins s σ H R I ⟨ρ,st,io,W,st',E,S,e0,k⟩;obtain⟨⟨d,s1⟩,e1,e0⟩:=zae e0
 cases d with
 | ref n=>exact znZ hl pins s σ H R I ⟨ρ,st,io,W,st',E,S,by unfold mWL;rw[e1];exact e0,k⟩
 | tup ds=>exact zp7 hl pins s σ H R I ⟨ρ,st,io,W,st',E,S,by unfold mWT;rw[e1];exact e0,k⟩
 | _=>cases e0
noncomputable def setD:G3:=fun o i v st=>match o,i with
 | .ref n,.int k=>match st[n]? with
   | some (.lst ds)=>(ixN ds.length k).map fun j=>st.set n (.lst (ds.set j v))
   | _=>none
 | _,_=>none
theorem zsc:SetM X setD:=by
 rintro pins s σ H o i v ov iv u Q I ro ri rv ⟨d1,d2,d3,st,io,st',R1,R2,R3,S,e,k⟩
 cases d1 with
 | ref n =>
   cases d2 with
   | int j =>
     unfold setD at e;dsimp only at e
     split at e
     . rename_i ds e0;obtain⟨q,e1,e⟩:=zah e;cases e;obtain⟨p,rfl,hp⟩:=R1;obtain⟨ys,hH,r⟩:=S.ob n p _ hp e0;refine set_list pins s σ H _ _ v ov iv u Q I ro ri rv ⟨p,ys,j,q,rfl,R2,hH,by rw[r.length];exact e1,?_⟩;obtain⟨E',S'⟩:=zfK (o:=.lst (ys.set q v)) (ob:=.lst (ds.set q d3)) S hp e0 (fun o u z=>by rw[hH] at z;cases z) fun H' T e'=>⟨_,e',(Reps.mono T r).set q (Rep.mono T R3)⟩
       exact k _ [] E' S'
     . cases e
   | _=>cases e
 | _=>cases d2 <;> cases e
noncomputable def putA(mo mi mv:ME):MS:=fun ρ st=>orO (mAsg mv (gSb setD mo mi) ρ st) (zjZ mo mi mv ρ st)
theorem zeQ{o i value:Expr}{mo mi mv:ME}{pos':Pos}(hu:X.A.units+1 < cLine)(ho:SE X o mo)(hi:SE X i mi)(hv:SE X value mv)(hs:swapsWith value (some (.Subscript o i pos')) pos.line X.env=pure false:=by rfl)
   (ha:∀ v,assign (.Subscript o i pos') X.env v=(do
     let ov <-holding [v] (eval o X.env)
     let iv <-holding [v,ov] (eval i X.env)
     standAt pos'
     holding [v,ov,iv] (setItem ov iv v)
     release [v,ov,iv] []):=by intro _;rfl)
   (hs2:swapsWithSole [.Subscript o i pos'] value pos.line X.env=pure false:=by rfl) (hw:swappedStores [.Subscript o i pos'] value X.env=pure none:=by rfl)
   (h1:(assignEach [.Subscript o i pos'] X.env).map (·.2)=[assign (.Subscript o i pos') X.env]:=by rfl):SS X (.Assign [.Subscript o i pos'] value pos) (putA mo mi mv):=by
 intro pins s σ H N I h;obtain⟨ρ,st,io,f,st',E,S,e,w⟩:=zcX.mp h
 rcases zce e with e | e
 . exact zlS hv (zp9 ho hi zsc ha) hs2 hw h1 pins s σ H N I (zlK E S e w)
 . exact znT hu ho hi hv hs pins s σ H N I (zlK E S e w)
noncomputable def mPar(i j:Nat)(mm:MA):MS:=fun ρ st=>(mm ρ st).bind fun (xs,s)=>match xs with
 | [x,y]=>some (.nx ((ρ.set i (some x)).set j (some y)),s)
 | _=>none
theorem znS{i j:Nat}{x y:Str}{px py pt:Pos}{kt k2 pt2}(hc:X.calm=true)(hN:X.N.Nodup)(hi:X.N[i]?=some x)(hj:X.N[j]?=some y)(hij:i≠j)
   (hx:X.env.scope.names.lookup x=some .local) (hy:X.env.scope.names.lookup y=some .local) (ha:SA X [a,b] mm)
   (hw:swappedStores [.Tuple [.Name x px,.Name y py] kt pt] (.Tuple [a,b] k2 pt2) X.env=pure (some [x,y]):=by rfl)
   (hs:swapsWithSole [.Tuple [.Name x px,.Name y py] kt pt] (.Tuple [a,b] k2 pt2) pos.line X.env=pure false:=by rfl) :
   SS X (.Assign [.Tuple [.Name x px,.Name y py] kt pt] (.Tuple [a,b] k2 pt2) pos) (mPar i j mm):=PS.imp (zqq hc hN hi hj hij hx hy ha hw hs) fun N σ H h=>by
 obtain⟨ρ,st,io,f,st',E,S,e,w⟩:=zcX.mp h;obtain⟨⟨xs,s1⟩,e1,e⟩:=zae e
 match xs,e,e1 with
 | [u,v],e,e1 =>
   cases e;refine⟨ρ,st,io,_,_,E,S,e1,fun vs H1 k1 X1 S1 R1=>?_⟩;obtain⟨p,q,rfl,r1,r2⟩:=R1.two;exact⟨p,q,rfl,w _ H1 k1 X1 S1 (((E.ext S X1).set i r1).set j r2)⟩
noncomputable def zba(P:Program)(w:World)(K:PySem.W.Frag)(mg:Str->Option Value)(base:Heap)(k:Nat)(x:Str)(n:Nat)(g:GN):Prop :=
 ∃ f fd ps,FnOk P w K mg base CX0 k f fd ps (spM K n g)/\mg x=some (.ref f)/\PySem.W.keepIn K (.ref f)=true/\Binds K fd ps []
noncomputable def zak(n:Nat)(mm:MA):Prop:=∀ ρ st xs s,mm ρ st=some (xs,s)->xs.length=n
theorem zak.nil:zak 0 mNil:=fun _ _ _ _ h=>zmR h
theorem zak.cons{n:Nat}(h:zak n mm):zak (n+1) (zad m mm):=fun _ _ _ _ q=>zkK h q
theorem zaj{x:Str}{p:Pos}{k n:Nat}{g:GN}(F:zba X.prog X.w X.K X.mg X.base k x n g)(hr:Room k X.A)(hg:Gl X x)(ha:SA X (e::es) mm)(hl:zak n mm)(hdb:(x==("__debug__":Str))=false:=by decide)
   (he:starEach (e::es) X.env=(false,eval e X.env)::starEach es X.env:=by rfl) (hpl:(backTo pos (starEach es X.env)).any (·.1)=false:=by rfl) (hn:(e::es).length=n:=by rfl) :
   SE X (.Call (.Name x p) (e::es) [] pos) (zar g mm):=by
 obtain⟨f,fd,ps,F,hm,hk,hb⟩:=F;exact zn8 F hr hg hm hk hb ha hdb he hpl hn hl
noncomputable def Laid(K:PySem.W.Frag)(mg:Str->Option Value)(x:Str)(st:Stmt)(ps:List Str):Prop:=∃ f fd,Fun K x x st f fd/\mg x=some (.ref f)/\Binds K fd ps []
theorem zbB{P:Program}{w:World}{mg:Str->Option Value}{base:Heap}{x:Str}{st:Stmt}{N ps:List Str}{k:Nat}{m:MS}(L:Laid K mg x st ps)(S:FnScope N ps (zaq st))
   (hbody:∀ (f:Addr) (cdv:Value) (A:Around) (outer:List Env) (s:Shared) (H:Hp) (E:XK),Room k (A.deeper (envOfC x (zaq st) s.heap.objs.size f cdv)) ->
     SSs (cxOf CX0 P w K mg base N x (zaq st) f cdv A outer s H E).nox (zcG st) m):zba P w K mg base (k+1) x ps.length (fnM N.length m):=by
 obtain⟨f,fd,F,hm,hb⟩:=L;exact⟨f,fd,ps,fn_m F S (hbody f),hm,F.kp,hb⟩
end
end L2.MP
set_option maxHeartbeats 4000000
namespace L2.MP
open PySem PySem.Spec PyProof.Rows
section
variable {prog:Program} {w:World} {A:Around} {E:Value->Shared->Prop} {s:Shared}
theorem zke{at_:Addr}{v:Value}{k:Nat}{R:PySem.Fin->Shared->Prop}(g0:s.heap.get? at_=some (seqObj "list" #[v] k))(fin:R (.done (.ret .none)) { s with heap:=sortedHeap s.heap at_ [v] #[v] }) :
   wpAny (model prog w) A (Builtin.«list.sort» ⟨[.ref at_],[]⟩) R E s:=by
 have lt0:=Heap.lt_size g0;obtain⟨ep,g1⟩:∃ ep,(s.heap.update at_ (Obj.mapSeq fun _=>(#[]:Array Value))).get? at_=some (seqObj "list" #[] ep):=⟨_,get?_update_seq g0 fun _=>#[]⟩
 have g2:(((s.heap.update at_ (Obj.mapSeq fun _=>(#[]:Array Value))).push (seqObj "tuple" #[v] 0)).push (seqObj "list" #[] 0)).get? at_=some (seqObj "list" #[] ep):=Heap.get?_push_of_some _ (Heap.get?_push_of_some _ g1);rw[list_sort_plain];refine wpAny_bind (listItems_at g0 rfl (wpAny_bind (listUpdate_at g0 rfl (wpAny_bind (seqEpoch_at g1 rfl (wpAny_bind (wpAny_newTuple (wpAny_bind (wpAny_newList (wpAny_holding ?_))))))))));show wpAny (model prog w) A _ R E { s with heap:=((s.heap.update at_ (Obj.mapSeq fun _=>(#[]:Array Value))).push (seqObj "tuple" #[v] 0)).push (seqObj "list" #[] 0) };have two:(#[v]:Array Value).size < 2:=by show 1 < 2;decide
 have same:(arrOf (SortSt.mk' general' ((#[v]:Array Value).zip #[v]) #[] 7 none)).map (·.2)=#[v]:=by
   show (((#[v]:Array Value).zip #[v]).map (·.2))=#[v];simp
 dsimp only;rw[if_pos two,if_pos two];refine wpAny_bind (wpAny_pure ?_);rw[StateT.run_pure];refine wpAny_bind (wpAny_pure ?_);dsimp only;rw[same];refine wpAny_bind (seqEpoch_at g2 rfl (wpAny_bind (listUpdate_at g2 rfl ?_)));simp only[bne_self_eq_false,Bool.false_eq_true,if_false];exact wpAny_pure fin
theorem zhL{l:Addr}{v:Value}{R:Value->Shared->Prop}(hl:s.heap.IsList l [v].toArray)(fin:R (.ref (s.heap.objs.size+1)) { s with heap:=sortedAll s.heap [v] #[v] }) :
   wpAny (model prog w) A (call (.builtin "sorted") [.ref l]) R E s:=by
 have sz:((s.heap.push (seqObj "list" #[] 0)).update s.heap.objs.size (Obj.mapSeq (·++[v].toArray))).objs.size=s.heap.objs.size+1:=(Heap.size_update ..).trans (size_push' ..);have g0:(((s.heap.push (seqObj "list" #[] 0)).update s.heap.objs.size (Obj.mapSeq (·++[v].toArray))).push (seqObj "list" [v].toArray 0)).get? (s.heap.objs.size+1)=some (seqObj "list" [v].toArray 0):=by
   rw[<-sz];exact Heap.get?_push_size _ rfl
 refine Calls.call_function_entry kind_sorted plain_sorted entry_sorted (args_sorted1 _) ?_;unfold Builtin.«sorted»;refine wpAny_bind (m:=checkCount "sorted" 1 1 _) (wpAny_pure (wpAny_bind (collect_list hl (wpAny_bind (wpAny_newList ?_)))));show wpAny _ _ _ _ _ { s with heap:=((s.heap.push (seqObj "list" #[] 0)).update s.heap.objs.size (Obj.mapSeq (·++[v].toArray))).push (seqObj "list" [v].toArray 0) };rw[sz];exact wpAny_bind (wpAny_holding (wpAny_call_entry slot_list_sort ⟨_,g0,rfl⟩ entry_list_sort (zke g0 ⟨_,rfl,wpAny_pure ⟨_,rfl,fin⟩⟩) (args_list_sort _)))
end
section
variable {X:Cx} {K:PySem.W.Frag} {H:Hp} {io:List Addr} {st st':Sto}
noncomputable def zdR:GN
 | [.ref n],st=>(zbu st n).bind fun ds=>if decide (ds.length=1)=true then some (.ref st.length,st++[.lst ds]) else none
 | _,_=>none
theorem zf8:zdt X (.builtin "sorted") zdR:=by
 rintro pins s σ H xs us Q I r ⟨ds,st,io,d,st',R,S,e,k⟩;unfold zdR at e
 split at e
 . rename_i n;obtain⟨zs,e0,e⟩:=zae e;obtain⟨hl,e⟩:=zap e;cases e;obtain⟨y,rfl⟩:=List.length_eq_one_iff.mp (of_decide_eq_true hl);obtain⟨v,rfl,p,rfl,hp⟩:=R.one;obtain⟨u,rfl,ru⟩:=r.one;cases ru;obtain⟨ys,hx,r1⟩:=za7 S hp e0;obtain⟨its,rv,pl,hz⟩:=I.list hx;obtain⟨y',rfl,ry⟩:=r1.one;obtain⟨i,rfl,ri⟩:=rv.one;refine zhL pl.isList ?_;obtain⟨ep,hat⟩:=sortedAll_at s.heap [i] #[i];have hfree:H (s.heap.objs.size+1)=none:=I.hok.fresh (Nat.le_succ _);refine⟨.ref (s.heap.objs.size+1),upd H (s.heap.objs.size+1) (.lst [y']),I.laid (t':=s.toks) (a:=s.heap.objs.size+1) (fun b o q=>sortedAll_old q) (Nat.le_succ _) ⟨by show 1<=sizeLine;decide,[i],ep,rv,by simpa using hat⟩,rfl,?_⟩;exact k.lst S r1 hfree
 . cases e
noncomputable def zci:GN:=orN zcI (orN zdR zeT)
theorem zcP:zdt X (.builtin "sorted") zci:=zds zf6 (zds zf8 zf5)
end
end L2.MP
set_option maxHeartbeats 4000000
namespace L2.MP
open PySem PySem.Spec PyProof.Rows
section
variable {X:Cx} {pins:List (Addr×Obj)} {σ:L2.St} {H:Hp} {s:Shared}
theorem Inv.freeze{d:Addr}{o:Obj}{u:HO}(I:Inv X pins σ H s)(hd:H d=some u)(g:s.heap.get? d=some o)(n1:∀ xs,u≠.tup xs)(n2:∀ x,u≠.own x)(n3:∀ o w,u≠.frz o w)(n4:∀ ps,u≠.tbl ps):Inv X pins σ (upd H d (.frz o u)) s:=by
 have ne:∀ {b:Addr} {v:HO},H b=some v->v≠u->b≠d:=fun {b v} q nv z=>by
   subst z;rw[hd] at q;exact nv (Option.some.inj q).symm
 refine Inv.step (h':=s.heap) (t':=s.toks) (g':=s.gens) (d':=s.drawn) (ch:=[]) I (fun _ z=>nomatch z) (fun b v _ _ _ q _=>q) (fun b v _ _ _ q _=>⟨v.slots,q⟩) (fun b v _ q n=>?_) (fun b v _ q=>⟨v,q⟩) (fun b xs q=>?_) (fun b v w q=>?_) (fun b ps q=>⟨#[],?_⟩) (fun m hm=>hm) (fun b v q=>?_) I.bare
 . have:b≠d:=fun z=>by
     rw[z,hd] at n;cases n
   rw[zav this];exact n
 . rw[zav (ne q (fun z=>n1 xs z.symm))];exact q
 . rw[zav (ne q (fun z=>n3 v w z.symm))];exact q
 . rw[zav (ne q (fun z=>n4 ps z.symm)),q];simp
 . by_cases hb:b=d
   . subst hb;rw[zbs] at q;cases q;refine⟨g,?_⟩;exact (I.hok b u hd).stay (fun c x _ y=>y) (fun c y=>by rw[zav (ne y (fun z=>n2 b z.symm))];exact y) fun c xs y=>by rw[zav (ne y (fun z=>n1 xs z.symm))];exact y
   . rw[zav hb] at q;exact (I.hok b v q).stay (fun c x _ y=>y) (fun c y=>by rw[zav (ne y (fun z=>n2 b z.symm))];exact y) fun c xs y=>by rw[zav (ne y (fun z=>n1 xs z.symm))];exact y
end
end L2.MP
set_option maxHeartbeats 4000000
namespace L2.MP
open PySem PySem.Spec PyProof.Rows
theorem zfr{P:Program}{w:World}{H:Hp}{h:Heap}{d:Addr}{o:Obj}{ps:List (List Key×V)}{es:Array DictEntry}{ep:Nat}(x:zdc P w H h d (.frz o (.dT ps)))(dd:o.data=.dict es ep) :
   h.get? d=some o/\es.size=ps.length/\∀ (i:Nat) (k:List Key) (v:V),ps[i]?=some (k,v)->∃ (en:DictEntry) (b:Addr),es[i]?=some en/\en.key=.ref b/\H b=some (.tup (k.map kV))/\RelV v en.val:=by
 obtain⟨g,z,y,xs,r,o',es',ep',g',ex,dd',et,nd⟩:=x;rw[g] at g';cases g';rw[dd] at dd';cases dd';have hl:es.size=ps.length:=by
   have h1:=congrArg List.length et;have h2:=Paired.length r;simp at h1;omega
 refine⟨g,hl,fun i k v hi=>?_⟩;have get:∀ {l:List (List Key×V)} {m:List (List Key×Addr×Value)} {i:Nat},Paired (fun (p:List Key×V) (q:List Key×Addr×Value)=>p.1=q.1/\H q.2.1=some (.tup (p.1.map kV))/\RelV p.2 q.2.2) l m->l[i]?=some (k,v)->∃ q,m[i]?=some q/\H q.2.1=some (.tup (k.map kV))/\RelV v q.2.2:=by
   intro l m i q
   induction q generalizing i with
   | nil=>intro e;simp at e
   | cons h t ih =>
     cases i with
     | zero =>
       intro e;simp at e;subst e;exact⟨_,rfl,h.2.1,h.2.2⟩
     | succ j=>intro e;exact ih (by simpa using e)
 obtain⟨q,hq,h1,h2⟩:=get r hi;have he:es[i]?=some (entryOfKey (tupleKind (zaE P w)) q):=by
   have:es.toList[i]?=some (entryOfKey (tupleKind (zaE P w)) q):=by rw[et,List.getElem?_map,hq];rfl
   simpa using this
 exact⟨_,q.2.1,he,rfl,h1,h2⟩
section
variable {X:Cx} {K:PySem.W.Frag} {H:Hp} {io:List Addr} {m:ME} {st st':Sto}
noncomputable def keyD:Key->D
 | .inl i=>.int i
 | .inr x=>.str x
theorem zfo:∀ (ks:List Key),Reps K H io (ks.map kV) (ks.map keyD)
 | []=>rfl
 | .inl i::r=>⟨_,_,rfl,rfl,zfo r⟩
 | .inr x::r=>⟨_,_,rfl,rfl,zfo r⟩
end
end L2.MP
set_option maxHeartbeats 4000000
namespace L2.MP
open PySem PySem.Spec PyProof.Rows
inductive Sr where
 | l (a:Addr) | t (a:Addr)
noncomputable def Sr.ad:Sr->Addr
 | .l a=>a
 | .t a=>a
noncomputable def Sr.ob:Sr->Obj
 | .l a=>{ cls:=.type "list_iterator",data:=.fields #[.ref a,.int 0 0] }
 | .t a=>{ cls:=.type "tuple_iterator",data:=.fields #[.ref a,.int 0 0] }
noncomputable def Sr.is(h:Heap)(xs:Array Value):Sr->Prop
 | .l a=>h.IsList a xs
 | .t a=>IsTup h a xs
noncomputable def Sr.at_(h:Heap)(i:Addr)(k:Nat):Sr->Prop
 | .l a=>h.IsListIter i a k
 | .t a=>IsTupIter h i a k
theorem Sr.is_keep{h h':Heap}{xs:Array Value}{x:Sr}(q:x.is h xs)(k:∀ u,h.get? x.ad=some u->h'.get? x.ad=some u):x.is h' xs:=by
 cases x with
 | l a=>exact Heap.IsList.at q k
 | t a=>obtain⟨o,g,c⟩:=q;exact⟨o,k o g,c⟩
theorem Sr.at_keep{h h':Heap}{i:Addr}{n:Nat}{x:Sr}(q:x.at_ h i n)(k:∀ u,h.get? i=some u->h'.get? i=some u):x.at_ h' i n:=by
 cases x with
 | l a=>exact Heap.IsListIter.at q k
 | t a=>obtain⟨o,g,c⟩:=q;exact⟨o,k o g,c⟩
theorem Sr.at_get{h:Heap}{i:Addr}{n:Nat}{x:Sr}(q:x.at_ h i n):∃ o vs,h.get? i=some o/\o.data=.fields vs:=by
 cases x with
 | l a=>obtain⟨o,g,c,d⟩:=q;exact⟨o,_,g,d⟩
 | t a=>obtain⟨o,g,c,d⟩:=q;exact⟨o,_,g,d⟩
section
variable {prog:Program} {w:World} {A:Around} {E:Value->Shared->Prop} {s:Shared}
theorem Sr.iter{x:Sr}{xs:Array Value}{R:Value->Shared->Prop}(h:x.is s.heap xs)(k:R (.ref s.heap.objs.size) { s with heap:=s.heap.push x.ob }):wpAny (model prog w) A (pyIter (.ref x.ad)) R E s:=by
 cases x with
 | l a=>exact wpAny_pyIter_list h k
 | t a=>exact iter_tuple h k
theorem zi6{it a:Addr}{i:Nat}{xs:Array Value}{v:Value}{R:Value->Shared->Prop}(hit:IsTupIter s.heap it a i)(ht:IsTup s.heap a xs)(hx:xs[i]?=some v)
   (k:∀ h',IsTupIter h' it a (i+1)->Heap.SameBut it s.heap h'->R v { s with heap:=h' }):wpAny (model prog w) A (Builtin.SmallTypes.nextOf (.ref it)) R E s:=by
 obtain⟨ro,rg,rc,rd⟩:=id hit;obtain⟨to,tg,_,tn,td⟩:=ht;unfold Builtin.SmallTypes.nextOf;refine wpAny_bind (wpAny_callSpecial?_slot (name:=Str.ofString "__next__") hit.typeIs slot_tupleiter_next (wpAny_call_entry slot_tupleiter_next hit.typeIs entry_tupleiter_next ?_ (args_tupleiter_next _)));show wpAny _ _ (field (.ref it) 0 >>= _) _ _ s;refine wpAny_bind (wpAny_field rg rd (x:=.ref a) rfl ?_);show wpAny _ _ (if (Value.ref a==Value.none)=true then _ else _) _ _ s;rw[if_neg (show ¬ (Value.ref a==Value.none)=true from fun z=>Bool.false_ne_true z)];show wpAny _ _ (field (.ref it) 1 >>= _) _ _ s;refine wpAny_bind (wpAny_field rg rd (x:=.int i 0) rfl ?_);show wpAny _ _ (seqItems? (.ref a) >>= _) _ _ s;refine wpAny_bind (wpAny_seqItems tg td ?_);simp only[Int.toNat_natCast,hx];refine wpAny_bind (wpAny_setField rg rd (by simp) (wpAny_pure ⟨v,rfl,wpAny_pure (k _ ⟨_,Heap.get?_update_self _ rg (Obj.isFreed_of_fields (Obj.data_mapFields rd _)),(Obj.cls_mapFields ..).trans rc,?_⟩ (Heap.SameBut.update ..))⟩));rw[Obj.data_mapFields rd];simp[rawInt]
theorem zfh{it a:Addr}{i:Nat}{xs:Array Value}{R:Value->Shared->Prop}(hh:A.handled=none)(hit:IsTupIter s.heap it a i)(ht:IsTup s.heap a xs)(hx:xs[i]?=none)
   (k:∀ h' e,Heap.ExtBut it s.heap h'->(∃ o,h'.get? e=some o/\o.cls=.type "StopIteration")->E (.ref e) { s with heap:=h' }):wpAny (model prog w) A (Builtin.SmallTypes.nextOf (.ref it)) R E s:=by
 obtain⟨ro,rg,rc,rd⟩:=id hit;obtain⟨to,tg,_,tn,td⟩:=ht;unfold Builtin.SmallTypes.nextOf;refine wpAny_bind (wpAny_callSpecial?_slot (name:=Str.ofString "__next__") hit.typeIs slot_tupleiter_next (wpAny_call_entry slot_tupleiter_next hit.typeIs entry_tupleiter_next ?_ (args_tupleiter_next _)));show wpAny _ _ (field (.ref it) 0 >>= _) _ _ s;refine wpAny_bind (wpAny_field rg rd (x:=.ref a) rfl ?_);show wpAny _ _ (if (Value.ref a==Value.none)=true then _ else _) _ _ s;rw[if_neg (show ¬ (Value.ref a==Value.none)=true from fun z=>Bool.false_ne_true z)];show wpAny _ _ (field (.ref it) 1 >>= _) _ _ s;refine wpAny_bind (wpAny_field rg rd (x:=.int i 0) rfl ?_);show wpAny _ _ (seqItems? (.ref a) >>= _) _ _ s;refine wpAny_bind (wpAny_seqItems tg td ?_);simp only[Int.toNat_natCast,hx];refine wpAny_bind (wpAny_rule (wpAny_bind (wpAny_setField rg rd (by simp) ?_)));show wpAny _ _ (newExc (.type "StopIteration") [] >>= _) _ _ _;simp only[newExc,newTuple];refine wpAny_bind (wpAny_bind (wpAny_newObj_type (wpAny_bind (m:=firstArgMember _ _) (wpAny_of_eq (a:=Value.none) (by first | rfl | (simp only[firstArgMember];rfl)) (wpAny_newObj_type ?_ (by size_fits)))) (by size_fits)));simp only[raiseNew];refine wpAny_bind (wpAny_handled ?_)
 first | rw[show A.in1.handled=none from hh] | rw[hh]
 refine wpAny_bind (wpAny_pure (wpAny_throw ?_));exact k _ _ (((Heap.SameBut.update ..).extBut.push _).push _) ⟨_,Heap.get?_push_size _ rfl,rfl⟩
theorem Sr.next{x:Sr}{it:Addr}{i:Nat}{xs:Array Value}{v:Value}{R:Value->Shared->Prop}(hit:x.at_ s.heap it i)(h:x.is s.heap xs)(hx:xs[i]?=some v)(k:∀ h',x.at_ h' it (i+1)->Heap.SameBut it s.heap h'->R v { s with heap:=h' }) :
   wpAny (model prog w) A (Builtin.SmallTypes.nextOf (.ref it)) R E s:=by
 cases x with
 | l a=>exact wpAny_nextOf_list_item hit h hx k
 | t a=>exact zi6 hit h hx k
theorem Sr.stop{x:Sr}{it:Addr}{i:Nat}{xs:Array Value}{R:Value->Shared->Prop}(hh:A.handled=none)(hit:x.at_ s.heap it i)(h:x.is s.heap xs)(hx:xs[i]?=none)
   (k:∀ h' e,Heap.ExtBut it s.heap h'->(∃ o,h'.get? e=some o/\o.cls=.type "StopIteration")->E (.ref e) { s with heap:=h' }):wpAny (model prog w) A (Builtin.SmallTypes.nextOf (.ref it)) R E s:=by
 cases x with
 | l a=>exact wpAny_nextOf_list_end hh hit h hx k
 | t a=>exact zfh hh hit h hx k
end
theorem Sr.at_new{h:Heap}{x:Sr}{i:Addr}(g:h.get? i=some x.ob):x.at_ h i 0:=by
 cases x with
 | l a=>exact⟨_,g,rfl,rfl⟩
 | t a=>exact⟨_,g,rfl,rfl⟩
noncomputable abbrev zp1 (h:Heap) (x:Sr):Heap:=h.push x.ob
noncomputable abbrev zp2 (h:Heap) (x y:Sr):Heap:=(zp1 h x).push y.ob
noncomputable abbrev zp3 (h:Heap) (x y:Sr):Heap:=(zp2 h x y).push { cls:=.type "tuple",data:=.seq #[.ref h.objs.size,.ref (zp1 h x).objs.size] }
noncomputable abbrev zp4 (h:Heap) (x y:Sr):Heap:=(zp3 h x y).push { cls:=.type "tuple",data:=.seq #[.none,.none] }
noncomputable abbrev zp5 (h:Heap) (x y:Sr):Heap:=(zp4 h x y).push { cls:=.type "zip",data:=.fields #[.none,.bool false,.bool false,.ref (zp2 h x y).objs.size,.ref (zp3 h x y).objs.size] }
theorem zj2(x y:Sr)(xs ys:Array Value):Meets (Builtin.«zip.__new__» ⟨[.type "zip",.ref x.ad,.ref y.ad],[]⟩) (fun _ R s=>x.is s.heap xs/\y.is s.heap ys/\R (.ok (.ret (.ref (zp4 s.heap x y).objs.size))) { s with heap:=zp5 s.heap x y }) :=
 .of_wp fun prog w A R s h=>by
   obtain⟨hp,g,d,tk,os⟩:=s;obtain⟨h1,h2,h⟩:=h;have hsub:=sub_zip;have hx:x.is (Shared.heap ⟨hp,g,d,tk,os⟩) xs:=h1;have hy:y.is (Shared.heap ⟨hp.push x.ob,g,d,tk,os⟩) ys:=Sr.is_keep h2 fun u q=>Heap.get?_push_of_some _ q
   wp_walk using Sr.iter hx,Sr.iter hy
   exact⟨_,rfl,h⟩
end L2.MP
set_option maxHeartbeats 4000000
namespace L2.MP
open PySem PySem.Spec PyProof.Rows
structure Zp(z TI TO i j:Addr):Prop where
 TIz:TI≠z
 TOz:TO≠z
 iz:i≠z
 jz:j≠z
 TIO:TI≠TO
 TIi:TI≠i
 TIj:TI≠j
 TOi:TO≠i
 TOj:TO≠j
 ij:i≠j
theorem neq{a b:Nat}(h:a≠b):(show Addr from a)≠(show Addr from b):=h
theorem Zp.new(n:Nat):Zp (n+4) (n+2) (n+3) n (n+1):=⟨neq (by omega),neq (by omega),neq (by omega),neq (by omega),neq (by omega),neq (by omega),neq (by omega),neq (by omega),neq (by omega),neq (by omega)⟩
section
variable {prog:Program} {w:World} {A:Around} {E:Value->Shared->Prop} {s:Shared}
theorem zk3{x y:Sr}{xs ys:Array Value}{R:Value->Shared->Prop}(hx:x.is s.heap xs)(hy:y.is s.heap ys)
   (k:∀ h',IsZip h' (s.heap.objs.size+4) (s.heap.objs.size+2) (s.heap.objs.size+3) .none->IsPair h' (s.heap.objs.size+2) (.ref s.heap.objs.size) (.ref (s.heap.objs.size+1))->IsPair h' (s.heap.objs.size+3) .none .none ->
     x.at_ h' s.heap.objs.size 0->y.at_ h' (s.heap.objs.size+1) 0->(∀ c u,s.heap.get? c=some u->h'.get? c=some u)->R (.ref (s.heap.objs.size+4)) { s with heap:=h' }):wpAny (model prog w) A (call (.type "zip") [.ref x.ad,.ref y.ad]) R E s:=by
 refine callType_new F.called_zip (by decide) (F.typeCall_zip_2 _ _) (F.newCall_zip_2 _ _) (fun obj=>F.args_object_init_3 obj _ _) F.entry_zip_new (zj2 x y xs ys) ⟨hx,hy,?_⟩;have e1:(zp1 s.heap x).objs.size=s.heap.objs.size+1:=Heap.size_push ..;have e2:(zp2 s.heap x y).objs.size=s.heap.objs.size+2:=(Heap.size_push ..).trans (by rw[e1]);have e3:(zp3 s.heap x y).objs.size=s.heap.objs.size+3:=(Heap.size_push ..).trans (by rw[e2]);have e4:(zp4 s.heap x y).objs.size=s.heap.objs.size+4:=(Heap.size_push ..).trans (by rw[e3]);have up:∀ c u,(zp1 s.heap x).get? c=some u->(zp5 s.heap x y).get? c=some u:=fun c u q=>Heap.get?_push_of_some _ (Heap.get?_push_of_some _ (Heap.get?_push_of_some _ (Heap.get?_push_of_some _ q)));have f5:(zp5 s.heap x y).get? (zp4 s.heap x y).objs.size=some { cls:=.type "zip",data:=.fields #[.none,.bool false,.bool false,.ref (zp2 s.heap x y).objs.size,.ref (zp3 s.heap x y).objs.size] }:=Heap.get?_push_size _ rfl;have f4:(zp5 s.heap x y).get? (zp3 s.heap x y).objs.size=some { cls:=.type "tuple",data:=.seq #[.none,.none] }:=Heap.get?_push_of_some _ (Heap.get?_push_size _ rfl);have f3:(zp5 s.heap x y).get? (zp2 s.heap x y).objs.size=some { cls:=.type "tuple",data:=.seq #[.ref s.heap.objs.size,.ref (zp1 s.heap x).objs.size] }:=Heap.get?_push_of_some _ (Heap.get?_push_of_some _ (Heap.get?_push_size _ rfl));have f2:(zp5 s.heap x y).get? (zp1 s.heap x).objs.size=some y.ob:=Heap.get?_push_of_some _ (Heap.get?_push_of_some _ (Heap.get?_push_of_some _ (Heap.get?_push_size _ (by cases y <;> rfl))));have f1:(zp5 s.heap x y).get? s.heap.objs.size=some x.ob:=up _ _ (Heap.get?_push_size _ (by cases x <;> rfl));rw[e2,e3,e4] at f5;rw[e1,e2] at f3;rw[e3] at f4;rw[e1] at f2;show _/\_;rw[e4];exact⟨⟨_,f5,rfl⟩,k _ f5 f3 f4 (Sr.at_new f1) (Sr.at_new f2) fun c u q=>up c u (Heap.get?_push_of_some _ q)⟩
theorem zlF{z TI TO i j:Addr}{x y:Sr}{n m:Nat}{xs ys:Array Value}{u v a b:Value}{R:Option Value->Shared->Prop}(D:Zp z TI TO i j)(xz:x.ad≠z/\x.ad≠TO/\x.ad≠i/\x.ad≠j)(yz:y.ad≠z/\y.ad≠TO/\y.ad≠i/\y.ad≠j)
   (hz:IsZip s.heap z TI TO .none) (hTI:IsPair s.heap TI (.ref i) (.ref j)) (hTO:IsPair s.heap TO a b) (hi:x.at_ s.heap i n) (hj:y.at_ s.heap j m) (hx:x.is s.heap xs) (hy:y.is s.heap ys) (gx:xs[n]?=some u) (gy:ys[m]?=some v)
   (k:∀ h',IsZip h' z TI TO (rawInt s.heap.objs.size)->IsPair h' TI (.ref i) (.ref j)->IsPair h' TO u v->x.at_ h' i (n+1)->y.at_ h' j (m+1)->IsPair h' s.heap.objs.size u v ->
     (∀ c o,c≠z->c≠TO->c≠i->c≠j->s.heap.get? c=some o->h'.get? c=some o)->R (some (.ref s.heap.objs.size)) { s with heap:=h' }):wpAny (model prog w) A (pyNext (.ref z)) R E s:=by
 have ty:s.TypeIs (.ref z) "zip":=⟨_,hz,rfl⟩
 unfold pyNext;refine wpAny_bind (wpAny_attempt (wpAny_callSpecial?_slot (name:=Str.ofString "__next__") ty F.slot_zip_next (wpAny_call_entry F.slot_zip_next ty F.entry_zip_next ?_ (F.args_zip_next_1 _))));show wpAny _ _ (field (.ref z) 2 >>= _) _ _ _;refine wpAny_bind (wpAny_field hz rfl (x:=.bool false) rfl ?_);show wpAny _ _ (field (.ref z) 3 >>= _) _ _ _;refine wpAny_bind (wpAny_field hz rfl (x:=.ref TI) rfl (wpAny_bind (wpAny_seqItems hTI rfl ?_)));show wpAny _ _ (Builtin.SmallTypes.ownedTupleIsFree (.ref z) >>= _) _ _ _;unfold Builtin.SmallTypes.ownedTupleIsFree;refine wpAny_bind (wpAny_bind (wpAny_field hz rfl (x:=.none) rfl (wpAny_pure ?_)));simp only[if_true];refine wpAny_bind (wpAny_rule (wpAny_bind (wpAny_field hz rfl (x:=.ref TO) rfl (wpAny_bind (wpAny_setField_rec hz (by simp) fun g1 z1 s1=>?_)))))
 replace z1:IsZip g1 z TI TO .ellipsis:=z1
 have k1:∀ c o,c≠z->s.heap.get? c=some o->g1.get? c=some o:=fun c o nc q=>s1.extBut c o nc q;simp only[List.zipIdx_cons,List.zipIdx_nil,List.forIn_cons,List.forIn_nil];refine wpAny_bind (wpAny_bind (wpAny_bind (wpAny_onRaise ?_)));show wpAny _ _ (Builtin.SmallTypes.nextOf (.ref i) >>= _) _ _ _;refine wpAny_bind (Sr.next (Sr.at_keep hi fun o q=>k1 _ o D.iz q) (Sr.is_keep hx fun o q=>k1 _ o xz.1 q) gx fun g2 i2 s2=>wpAny_pure ?_);have k2:∀ c o,c≠z->c≠i->s.heap.get? c=some o->g2.get? c=some o:=fun c o nc ni q=>s2.extBut c o ni (k1 c o nc q);have o2:IsPair g2 TO a b:=k2 _ _ D.TOz D.TOi hTO;refine wpAny_bind (wpAny_seqItems o2 rfl (wpAny_bind (wpAny_updateSeq_pair o2 fun g3 o3 s3=>(wpAny_bind (wpAny_letGo (wpAny_pure ?_))))))
 replace o3:IsPair g3 TO u b:=o3
 have k3:∀ c o,c≠z->c≠i->c≠TO->s.heap.get? c=some o->g3.get? c=some o:=fun c o nc ni nt q=>s3.extBut c o nt (k2 c o nc ni q);refine wpAny_bind (wpAny_bind (wpAny_onRaise ?_));show wpAny _ _ (Builtin.SmallTypes.nextOf (.ref j) >>= _) _ _ _;refine wpAny_bind (Sr.next (Sr.at_keep hj fun o q=>k3 _ o D.jz D.ij.symm D.TOj.symm q) (Sr.is_keep hy fun o q=>k3 _ o yz.1 yz.2.2.1 yz.2.1 q) gy fun g4 j4 s4=>wpAny_pure ?_);have o4:IsPair g4 TO u b:=s4.extBut _ _ D.TOj o3;refine wpAny_bind (wpAny_seqItems o4 rfl (wpAny_bind (wpAny_updateSeq_pair o4 fun g5 o5 s5=>(wpAny_bind (wpAny_letGo (wpAny_pure (wpAny_pure ?_)))))))
 replace o5:IsPair g5 TO u v:=o5
 refine wpAny_bind (wpAny_seqItems o5 rfl (wpAny_bind (wpAny_newTuple ?_)));have sz:g5.objs.size=s.heap.objs.size:=by rw[s5.1,s4.1,s3.1,s2.1,s1.1]
 have z5:IsZip g5 z TI TO .ellipsis:=s5.extBut _ _ D.TOz.symm (s4.extBut _ _ D.jz.symm (s3.extBut _ _ D.TOz.symm (s2.extBut _ _ D.iz.symm z1)));have k5:∀ c o,c≠z->c≠TO->c≠i->c≠j->s.heap.get? c=some o->g5.get? c=some o:=fun c o c1 c2 c3 c4 q=>s5.extBut c o c2 (s4.extBut c o c4 (k3 c o c1 c3 c2 q));have i5:x.at_ g5 i (n+1):=Sr.at_keep i2 fun o q=>s5.extBut _ _ D.TOi.symm (s4.extBut _ _ D.ij (s3.extBut _ _ D.TOi.symm q));have j5:y.at_ g5 j (m+1):=Sr.at_keep j4 fun o q=>s5.extBut _ _ D.TOj.symm q;have lz:z < g5.objs.size:=Heap.lt_size z5;show wpAny _ _ (Builtin.SmallTypes.ownedTupleHandOut (.ref z) (.ref g5.objs.size) >>= _) _ _ _;unfold Builtin.SmallTypes.ownedTupleHandOut;have z6:IsZip (g5.push { cls:=.type "tuple",data:=.seq #[u,v] }) z TI TO .ellipsis:=Heap.get?_push_of_some _ z5;refine wpAny_bind (wpAny_bind (wpAny_setField_rec z6 (by simp) fun g7 z7 s7=>?_))
 replace z7:IsZip g7 z TI TO (rawInt g5.objs.size):=z7
 refine wpAny_setField_rec z7 (by simp) fun g8 z8 s8=>?_
 replace z8:IsZip g8 z TI TO (rawInt g5.objs.size):=z8
 have up:∀ c o,c≠z->g5.get? c=some o->g8.get? c=some o:=fun c o nc q=>s8.extBut c o nc (s7.extBut c o nc (Heap.get?_push_of_some _ q));have t8:IsPair g8 g5.objs.size u v:=s8.extBut _ _ (Nat.ne_of_gt lz) (s7.extBut _ _ (Nat.ne_of_gt lz) (Heap.get?_push_size _ rfl));rw[sz] at z8 t8;refine wpAny_pure ⟨_,rfl,wpAny_pure ?_⟩;show R (some (.ref g5.objs.size)) _;rw[sz];exact k g8 z8 (up _ _ D.TIz (k5 _ _ D.TIz D.TIO D.TIi D.TIj hTI)) (up _ _ D.TOz o5) (Sr.at_keep i5 fun o q=>up _ o D.iz q) (Sr.at_keep j5 fun o q=>up _ o D.jz q) t8 fun c o c1 c2 c3 c4 q=>up c o c1 (k5 c o c1 c2 c3 c4 q)
theorem znC{z TI TO i j:Addr}{x y:Sr}{n m:Nat}{xs ys:Array Value}{a b:Value}{R:Option Value->Shared->Prop}(hh:A.handled=none)(D:Zp z TI TO i j)(xz:x.ad≠z/\x.ad≠TO/\x.ad≠i/\x.ad≠j)(yz:y.ad≠z/\y.ad≠TO/\y.ad≠i/\y.ad≠j)
   (hz:IsZip s.heap z TI TO .none) (hTI:IsPair s.heap TI (.ref i) (.ref j)) (hTO:IsPair s.heap TO a b) (hi:x.at_ s.heap i n) (hj:y.at_ s.heap j m) (hx:x.is s.heap xs) (hy:y.is s.heap ys) (he:xs[n]?=none\/ys[m]?=none)
   (k:∀ h',(∀ c o,c≠z->c≠TO->c≠i->c≠j->s.heap.get? c=some o->h'.get? c=some o)->R none { s with heap:=h' }):wpAny (model prog w) A (pyNext (.ref z)) R E s:=by
 have ty:s.TypeIs (.ref z) "zip":=⟨_,hz,rfl⟩
 have halt:∀ h' e,(∀ c o,c≠z->c≠TO->c≠i->c≠j->s.heap.get? c=some o->h'.get? c=some o)->(∃ o,h'.get? e=some o/\o.cls=.type "StopIteration") ->
     wpAny (model prog w) A (do if <-isInstance (.ref e) (.type "StopIteration") then pure none else throw (Value.ref e)) R E { s with heap:=h' }:=fun h' e q ⟨o,g,c⟩ =>
   wpAny_bind (wpAny_isInstance (T:="StopIteration") (b:=true) ⟨o,g,c⟩ isSubtype_stop (wpAny_pure (k h' q)))
 unfold pyNext;refine wpAny_bind (wpAny_attempt (wpAny_callSpecial?_slot (name:=Str.ofString "__next__") ty F.slot_zip_next (wpAny_call_entry F.slot_zip_next ty F.entry_zip_next ?_ (F.args_zip_next_1 _))));show wpAny _ _ (field (.ref z) 2 >>= _) _ _ _;refine wpAny_bind (wpAny_field hz rfl (x:=.bool false) rfl ?_);show wpAny _ _ (field (.ref z) 3 >>= _) _ _ _;refine wpAny_bind (wpAny_field hz rfl (x:=.ref TI) rfl (wpAny_bind (wpAny_seqItems hTI rfl ?_)));show wpAny _ _ (Builtin.SmallTypes.ownedTupleIsFree (.ref z) >>= _) _ _ _;unfold Builtin.SmallTypes.ownedTupleIsFree;refine wpAny_bind (wpAny_bind (wpAny_field hz rfl (x:=.none) rfl (wpAny_pure ?_)));simp only[if_true];refine wpAny_bind (wpAny_rule (wpAny_bind (wpAny_field hz rfl (x:=.ref TO) rfl (wpAny_bind (wpAny_setField_rec hz (by simp) fun g1 z1 s1=>?_)))))
 replace z1:IsZip g1 z TI TO .ellipsis:=z1
 have k1:∀ c o,c≠z->s.heap.get? c=some o->g1.get? c=some o:=fun c o nc q=>s1.extBut c o nc q;have sep:∀ {g:Heap} {e:Addr} {o:Obj},IsZip g z TI TO .ellipsis->g.get? e=some o->o.cls=.type "StopIteration"->e≠z:=fun {g e o} q h c r=>by
   subst r;rw[q] at h;cases h;simp at c
 simp only[List.zipIdx_cons,List.zipIdx_nil,List.forIn_cons,List.forIn_nil];refine wpAny_bind (wpAny_bind (wpAny_bind (wpAny_onRaise ?_)));show wpAny _ _ (Builtin.SmallTypes.nextOf (.ref i) >>= _) _ _ _
 cases gx:xs[n]? with
 | none =>
   refine wpAny_bind (Sr.stop hh (Sr.at_keep hi fun o q=>k1 _ o D.iz q) (Sr.is_keep hx fun o q=>k1 _ o xz.1 q) gx ?_);rintro g2 e s2 ⟨oe,he,ce⟩;have z2:IsZip g2 z TI TO .ellipsis:=s2 _ _ D.iz.symm z1;exact wpAny_setField_rec z2 (by simp) fun g3 _ s3=>halt g3 e (fun c o c1 _ c3 _ q=>s3.extBut c o c1 (s2 c o c3 (k1 c o c1 q))) ⟨oe,s3.extBut _ _ (sep z2 he ce) he,ce⟩
 | some u =>
   have gy:ys[m]?=none:=he.resolve_left (by rw[gx];simp);refine wpAny_bind (Sr.next (Sr.at_keep hi fun o q=>k1 _ o D.iz q) (Sr.is_keep hx fun o q=>k1 _ o xz.1 q) gx fun g2 i2 s2=>wpAny_pure ?_);have k2:∀ c o,c≠z->c≠i->s.heap.get? c=some o->g2.get? c=some o:=fun c o nc ni q=>s2.extBut c o ni (k1 c o nc q);have o2:IsPair g2 TO a b:=k2 _ _ D.TOz D.TOi hTO;refine wpAny_bind (wpAny_seqItems o2 rfl (wpAny_bind (wpAny_updateSeq_pair o2 fun g3 o3 s3=>(wpAny_bind (wpAny_letGo (wpAny_pure ?_))))));have k3:∀ c o,c≠z->c≠i->c≠TO->s.heap.get? c=some o->g3.get? c=some o:=fun c o nc ni nt q=>s3.extBut c o nt (k2 c o nc ni q);refine wpAny_bind (wpAny_bind (wpAny_onRaise ?_));show wpAny _ _ (Builtin.SmallTypes.nextOf (.ref j) >>= _) _ _ _;refine wpAny_bind (Sr.stop hh (Sr.at_keep hj fun o q=>k3 _ o D.jz D.ij.symm D.TOj.symm q) (Sr.is_keep hy fun o q=>k3 _ o yz.1 yz.2.2.1 yz.2.1 q) gy ?_);rintro g4 e s4 ⟨oe,he,ce⟩;have z4:IsZip g4 z TI TO .ellipsis:=s4 _ _ D.jz.symm (s3.extBut _ _ D.TOz.symm (s2.extBut _ _ D.iz.symm z1));exact wpAny_setField_rec z4 (by simp) fun g5 _ s5=>halt g5 e (fun c o c1 c2 c3 c4 q=>s5.extBut c o c1 (s4 c o c4 (k3 c o c1 c3 c2 q))) ⟨oe,s5.extBut _ _ (sep z4 he ce) he,ce⟩
end
noncomputable def Sr.sq(H:Hp)(xs:List V):Sr->Prop
 | .l a=>H a=some (.lst xs)\/∃ o,H a=some (.frz o (.lst xs))
 | .t a=>H a=some (.tup xs)
theorem Sr.sq_ne{H:Hp}{xs:List V}{x:Sr}{b:Addr}(h:x.sq H xs)(hb:H b=none):x.ad≠b:=by
 cases x with
 | l a=>rcases h with h | ⟨o,h⟩ <;> exact zau h hb
 | t a=>exact zau (show H a=some (.tup xs) from h) hb
theorem Sr.sq_inj{H:Hp}{xs ys:List V}{x:Sr}(h:x.sq H xs)(h':x.sq H ys):xs=ys:=by
 cases x with
 | l a=>rcases h with h | ⟨o,h⟩ <;> rcases h' with h' | ⟨o',h'⟩ <;> rw[h] at h' <;> cases h' <;> rfl
 | t a =>
   have h:H a=some (.tup xs):=h;have h':H a=some (.tup ys):=h';rw[h] at h';cases h';rfl
theorem Sr.sq_is{X:Cx}{pins:List (Addr×Obj)}{σ:L2.St}{H:Hp}{s:Shared}{xs:List V}{x:Sr}(I:Inv X pins σ H s)(h:x.sq H xs):∃ its:List Value,Vals xs its/\x.is s.heap its.toArray:=by
 cases x with
 | l a =>
   obtain⟨its,rv,p,_⟩:=I.list (show SqL X.K H a xs from .inl h);exact⟨its,rv,p.isList⟩
 | t a =>
   obtain⟨its,rv,p,_⟩:=I.tuple (SqT.of (K:=X.K) h);exact⟨its,rv,p⟩
noncomputable def Itz(x y:Sr):It :=
 ⟨fun i H=>∃ xs ys u v,x.sq H xs/\y.sq H ys/\xs[i]?=some u/\ys[i]?=some v,fun i H r H'=>∃ p u v,H p=none/\H'=upd H p (.tup [u,v])/\r=.ref p/\(∀ xs,x.sq H xs->xs[i]?=some u)/\∀ ys,y.sq H ys->ys[i]?=some v,
   fun i H=>∃ xs ys,x.sq H xs/\y.sq H ys/\(xs.length<=i\/ys.length<=i)⟩
theorem zlH{P:Program}{w:World}{K:PySem.W.Frag}{elts:List Expr}{x1}{pos:Pos}(x y:Sr){z TI TO i j:Addr}(D:Zp z TI TO i j) :
   Turn P w K (.Tuple elts x1 pos) (Itz x y) [z,TI,TO,i,j] z (fun n h=>IsZip h z TI TO .none/\IsPair h TI (.ref i) (.ref j)/\(∃ a b,IsPair h TO a b)/\x.at_ h i n/\y.at_ h j n) where
 mem:=by simp
 obj:=fun n h st b hb=>by
   obtain⟨hz,hTI,⟨a,c,hTO⟩,hi,hj⟩:=st;simp only[List.mem_cons,List.not_mem_nil,or_false] at hb
   rcases hb with rfl | rfl | rfl | rfl | rfl
   . exact⟨_,hz,fun v q=>by cases q⟩
   . exact⟨_,hTI,fun v q=>by cases q⟩
   . exact⟨_,hTO,fun v q=>by cases q⟩
   . obtain⟨o,vs,g,d⟩:=Sr.at_get hi;exact⟨o,g,fun v q=>by rw[d] at q;cases q⟩
   . obtain⟨o,vs,g,d⟩:=Sr.at_get hj;exact⟨o,g,fun v q=>by rw[d] at q;cases q⟩
 keep:=fun n h h' st k=>by
   obtain⟨hz,hTI,⟨a,c,hTO⟩,hi,hj⟩:=st;exact⟨k z (by simp) _ hz,k TI (by simp) _ hTI,⟨a,c,k TO (by simp) _ hTO⟩,Sr.at_keep hi fun o q=>k i (by simp) o q,Sr.at_keep hj fun o q=>k j (by simp) o q⟩
 item:=by
   intro X hP hw hK hc n pins s σ H E I hf st hg;subst hP hw hK;obtain⟨xs,ys,u,v,hx,hy,gu,gv⟩:=hg;obtain⟨hz,hTI,⟨a,c,hTO⟩,hi,hj⟩:=st;obtain⟨its,rx,ix⟩:=Sr.sq_is I hx;obtain⟨jts,ry,iy⟩:=Sr.sq_is I hy;obtain⟨u',gu',ru⟩:=rx.get gu;obtain⟨v',gv',rv⟩:=ry.get gv;have fz:=(hf z (by simp)).1;have fTO:=(hf TO (by simp)).1;have fi:=(hf i (by simp)).1;have fj:=(hf j (by simp)).1;refine zlF D ⟨Sr.sq_ne hx fz,Sr.sq_ne hx fTO,Sr.sq_ne hx fi,Sr.sq_ne hx fj⟩ ⟨Sr.sq_ne hy fz,Sr.sq_ne hy fTO,Sr.sq_ne hy fi,Sr.sq_ne hy fj⟩ hz hTI hTO hi hj ix iy (u:=u') (v:=v') (by simpa using gu') (by simpa using gv') fun h1 z1 ti1 to1 i1 j1 t1 k1=>?_;refine⟨_,rfl,wpAny_letOwnedTupleGo_zip (s:={ s with heap:=h1 }) z1 fun h2 z2 b2=>?_⟩;have up:∀ b o,b≠z->h1.get? b=some o->h2.get? b=some o:=fun b o nb q=>(b2.2 b nb).trans q;have k2:∀ b o,b ∉ [z,TI,TO,i,j]->s.heap.get? b=some o->h2.get? b=some o:=fun b o hb q=>by
     simp only[List.mem_cons,List.not_mem_nil,or_false,not_or] at hb;exact up b o hb.1 (k1 b o hb.1 hb.2.2.1 hb.2.2.2.1 hb.2.2.2.2 q)
   have lt:∀ b∈[z,TI,TO,i,j],b < s.heap.objs.size:=fun b hb=>by
     simp only[List.mem_cons,List.not_mem_nil,or_false] at hb
     rcases hb with rfl | rfl | rfl | rfl | rfl
     . exact Heap.lt_size hz
     . exact Heap.lt_size hTI
     . exact Heap.lt_size hTO
     . obtain⟨o,vs,g,d⟩:=Sr.at_get hi;exact Heap.lt_size g
     . obtain⟨o,vs,g,d⟩:=Sr.at_get hj;exact Heap.lt_size g
   have t2:h2.get? s.heap.objs.size=some { cls:=.type "tuple",data:=.seq #[u',v'] }:=up _ _ (Nat.ne_of_gt (lt z (by simp))) t1;have st2:IsZip h2 z TI TO .none/\IsPair h2 TI (.ref i) (.ref j)/\(∃ a b,IsPair h2 TO a b)/\x.at_ h2 i (n+1)/\y.at_ h2 j (n+1) :=
     ⟨z2,up _ _ D.TIz ti1,⟨_,_,up _ _ D.TOz to1⟩,Sr.at_keep i1 fun o q=>up _ o D.iz q,Sr.at_keep j1 fun o q=>up _ o D.jz q⟩
   refine⟨.ref s.heap.objs.size,upd H s.heap.objs.size (.tup [u,v]),?_,rfl,⟨_,u,v,I.hok.fresh (Nat.le_refl _),rfl,rfl,fun zs h=>by rw[Sr.sq_inj h hx];exact gu,fun zs h=>by rw[Sr.sq_inj h hy];exact gv⟩,st2,fun b hb=>?_⟩
   . refine Inv.turnNew (s:=s) (h':=h2) (t':=s.toks) I hf k2 (Nat.le_refl _) (fun b hb ob q=>?_) ⟨by show 2<=sizeLine;decide,[u',v'],.cons ru (.cons rv .nil),⟨_,t2,rfl,rfl,_,rfl⟩⟩;simp only[List.mem_cons,List.not_mem_nil,or_false] at hb
     rcases hb with rfl | rfl | rfl | rfl | rfl
     . exact⟨_,z2⟩
     . exact⟨_,st2.2.1⟩
     . obtain⟨_,_,q⟩:=st2.2.2.1;exact⟨_,q⟩
     . obtain⟨o,vs,g,d⟩:=Sr.at_get st2.2.2.2.1;exact⟨o,g⟩
     . obtain⟨o,vs,g,d⟩:=Sr.at_get st2.2.2.2.2;exact⟨o,g⟩
   . rw[zav (Nat.ne_of_lt (lt b hb))];exact (hf b hb).1
 done:=by
   intro X hP hw hK hc n pins s σ H E I hf st hg;subst hP hw hK;obtain⟨xs,ys,hx,hy,he⟩:=hg;obtain⟨hz,hTI,⟨a,c,hTO⟩,hi,hj⟩:=st;obtain⟨its,rx,ix⟩:=Sr.sq_is I hx;obtain⟨jts,ry,iy⟩:=Sr.sq_is I hy;have fz:=(hf z (by simp)).1;have fTO:=(hf TO (by simp)).1;have fi:=(hf i (by simp)).1;have fj:=(hf j (by simp)).1;have l1:=rx.length;have l2:=ry.length;exact znC (I.ok.hd hc) D ⟨Sr.sq_ne hx fz,Sr.sq_ne hx fTO,Sr.sq_ne hx fi,Sr.sq_ne hx fj⟩ ⟨Sr.sq_ne hy fz,Sr.sq_ne hy fTO,Sr.sq_ne hy fi,Sr.sq_ne hy fj⟩ hz hTI hTO hi hj ix iy (by
     rcases he with h | h
     . exact .inl (by simp;omega)
     . exact .inr (by simp;omega)) fun h' k=>⟨rfl,Inv.turnAll (t':=s.toks) I hf fun b o hb q=>by
       simp only[List.mem_cons,List.not_mem_nil,or_false,not_or] at hb;exact k b o hb.1 hb.2.2.1 hb.2.2.2.1 hb.2.2.2.2 q⟩
 self:=fun _ _ _ _ _ st h=>wpAny_pyIter_zip st.1 h
section
variable {X:Cx} {K:PySem.W.Frag} {H:Hp} {io:List Addr} {ma mb:ME} {st st':Sto}
noncomputable def seqD(s:Sto):D->Option (List D×List (Nat×List D))
 | .ref n=>(zbu s n).map fun ds=>(ds,[(n,ds)])
 | .tup ds=>some (ds,[])
 | _=>none
noncomputable def pairD(a b:List D):List D:=(a.zip b).map fun p=>.tup [p.1,p.2]
noncomputable def zipW(x y:D)(s:Sto):Option (Wk×Sto):=(seqD s x).bind fun (a,f)=>(seqD s y).map fun (b,g)=>(⟨pairD a b,f++g⟩,s)
noncomputable def mZip(ma mb:ME):MI:=fun ρ st=>(ma ρ st).bind fun (x,s1)=>(mb ρ s1).bind fun (y,s2)=>zipW x y s2
theorem ziF{d:D}{v:V}{ds:List D}{g:List (Nat×List D)}(S:StR K H io st)(R:Rep K H io v d)(h:seqD st d=some (ds,g)):∃ x:Sr,v=.ref x.ad/\(∃ xs,x.sq H xs) /\
   ∀ H1 ka s1,Ext io ka H H1->StR K H1 (io++ka) s1->(∀ p,p∈g->s1[p.1]?=some (.lst p.2)\/s1[p.1]?=some (.fz p.2))->∃ xs,x.sq H1 xs/\Reps K H1 (io++ka) xs ds:=by
 cases d with
 | ref n =>
   obtain⟨l,e,q⟩:=zah h;cases q;obtain⟨p,rfl,hp⟩:=R;refine⟨.l p,rfl,?_,fun H1 ka s1 X1 S1 hs=>?_⟩
   . unfold zbu at e
     split at e
     . rename_i o he;cases e;obtain⟨xs,q,_⟩:=S.ob n p _ hp he;exact⟨xs,.inl q⟩
     . rename_i o he;cases e;obtain⟨ob,xs,q,_⟩:=S.ob n p _ hp he;exact⟨xs,.inr ⟨ob,q⟩⟩
     . cases e
   . rcases hs (n,ds) List.mem_cons_self with q | q
     . obtain⟨xs,q',r⟩:=S1.ob n p _ (zbl hp) q;exact⟨xs,.inl q',r⟩
     . obtain⟨ob,xs,q',r⟩:=S1.ob n p _ (zbl hp) q;exact⟨xs,.inr ⟨ob,q'⟩,r⟩
 | tup ts =>
   cases h;obtain⟨p,xs,rfl,hp,r⟩:=R;exact⟨.t p,rfl,⟨xs,hp⟩,fun H1 ka s1 X1 S1 _=>⟨xs,X1.sqT S p xs hp,r.ext S X1⟩⟩
 | _=>cases h
theorem zkx{a b:List D}{i:Nat}{d:D}(h:(pairD a b)[i]?=some d):∃ x y,a[i]?=some x/\b[i]?=some y/\d=.tup [x,y]:=by
 unfold pairD at h;rw[List.getElem?_map] at h;obtain⟨⟨x,y⟩,e,q⟩:=zah h;rw[List.getElem?_zip_eq_some] at e;exact⟨x,y,e.1,e.2,q.symm⟩
theorem boot_zip:bootBuiltins "zip"=some (.type "zip"):=by decide +kernel
theorem zp6{elts:List Expr}{x1}{tp:Pos}{a b:Expr}{p pos:Pos}(hg:Gl X "zip")(hm:X.mg "zip"=none)(ha:SE X a ma)(hb:SE X b mb)(hs:starEach [a,b] X.env=[(false,eval a X.env),(false,eval b X.env)]:=by rfl)
   (hs2:starEach [b] X.env=[(false,eval b X.env)]:=by rfl) (hpl:(backTo pos (starEach [b] X.env)).any (·.1)=false:=by rfl):SI X (.Tuple elts x1 tp) (.Call (.Name "zip" p) [a,b] [] pos) (mZip ma mb):=by
 rintro pins s σ H R I ⟨ρ,st,io,W,st',E,S,e,k⟩;obtain⟨⟨x,s1⟩,e1,e⟩:=zae e;obtain⟨⟨y,s2⟩,e2,e⟩:=zae e;obtain⟨⟨as,f⟩,e3,e⟩:=zae e;obtain⟨⟨bs,g⟩,e4,e⟩:=zah e;cases e;have hs1:starEach [a,b] X.env=(false,eval a X.env)::starEach [b] X.env:=by rw[hs,hs2]
 refine Call_ (zhZ I hg hm boot_zip (PyProof.Rows.callWith_type1 (thn (zaa ha (zaa hb zai hs2) hs1 pos pins s σ H (fun vs H'=>∃ ka,Ext io ka H H'/\StR X.K H' (io++ka) st'/\Reps X.K H' (io++ka) vs [x,y]) I ⟨ρ,st,io,[x,y],st',E,S,zfk e1 (zfk e2 rfl),fun vs H1 k1 X1 S1 R1=>⟨k1,X1,S1,R1⟩⟩) ?_) hs1 hpl));rintro us t1 ⟨vs,H1,I1,r1,k1,X1,S1,R1⟩;obtain⟨v,u,rfl,Rx,Ry⟩:=R1.two;obtain⟨v',u',rfl,rv,ru⟩:=r1.two;obtain⟨xx,rfl,⟨xs,hx⟩,kx⟩:=ziF S1 Rx e3;obtain⟨yy,rfl,⟨ys,hy⟩,ky⟩:=ziF S1 Ry e4;cases rv;cases ru;obtain⟨its,vx,ix⟩:=Sr.sq_is I1 hx;obtain⟨jts,vy,iy⟩:=Sr.sq_is I1 hy;refine zk3 ix iy fun h' hz hTI hTO hi hj kk=>wpAny_pyIter_zip hz ?_;refine⟨_,_,_,_,H1,rfl,I1.kept (t':=t1.toks) kk,zlH xx yy (Zp.new t1.heap.objs.size),⟨hz,hTI,⟨_,_,hTO⟩,hi,hj⟩,fun b hb=>?_,?_⟩
 . have hle:t1.heap.objs.size<=b:=by
     simp only[List.mem_cons,List.not_mem_nil,or_false] at hb
     rcases hb with rfl | rfl | rfl | rfl | rfl
     . exact Nat.le_add_right _ 4
     . exact Nat.le_add_right _ 2
     . exact Nat.le_add_right _ 3
     . exact Nat.le_refl _
     . exact Nat.le_add_right _ 1
   exact I1.fpOk hle (I1.hok.fresh hle)
 . refine k _ H1 k1 X1 S1 ?_;have st1:∀ {s3:Sto},stays ⟨pairD as bs,f++g⟩ s3->(∀ p,p∈f->s3[p.1]?=some (.lst p.2)\/s3[p.1]?=some (.fz p.2))/\∀ p,p∈g->s3[p.1]?=some (.lst p.2)\/s3[p.1]?=some (.fz p.2):=fun {s3} h=>⟨fun p hp=>h p (List.mem_append_left _ hp),fun p hp=>h p (List.mem_append_right _ hp)⟩
   have len:∀ {a b:List D},(pairD a b).length=min a.length b.length:=fun {a b}=>by unfold pairD;rw[List.length_map,List.length_zip]
   refine⟨fun i d H2 k2 s3 hd X2 S2 hs=>?_,fun H2 k2 s3 X2 S2 hs=>?_,fun H2 k2 s3 i hi X2 S2 hs=>?_⟩
   . obtain⟨xs2,qx,rx⟩:=kx H2 k2 s3 X2 S2 (st1 hs).1;obtain⟨ys2,qy,ry⟩:=ky H2 k2 s3 X2 S2 (st1 hs).2;obtain⟨dx,dy,g1,g2,rfl⟩:=zkx hd;obtain⟨u1,gu,ru⟩:=rx.get g1;obtain⟨v1,gv,rv⟩:=ry.get g2;refine⟨⟨xs2,ys2,u1,v1,qx,qy,gu,gv⟩,fun r H' yl=>?_⟩;obtain⟨q,u2,v2,hq,rfl,rfl,yu,yv⟩:=yl;have e5:=yu xs2 qx;have e6:=yv ys2 qy;rw[gu] at e5;rw[gv] at e6;cases e5;cases e6;obtain⟨E',S'⟩:=zhf (o:=.tup [u1,v1]) S2 hq;rw[List.append_nil] at S';refine⟨E',S',⟨q,_,rfl,zbs,?_⟩⟩;have r2:=ru.ext S2 E';have r3:=rv.ext S2 E';rw[List.append_nil] at r2 r3;exact Reps.cons r2 (Reps.cons r3 Reps.nil)
   . obtain⟨xs2,qx,rx⟩:=kx H2 k2 s3 X2 S2 (st1 hs).1;obtain⟨ys2,qy,ry⟩:=ky H2 k2 s3 X2 S2 (st1 hs).2;refine⟨xs2,ys2,qx,qy,?_⟩;show xs2.length<=(pairD as bs).length\/ys2.length<=(pairD as bs).length;rw[len,rx.length,ry.length];omega
   . obtain⟨xs2,qx,rx⟩:=kx H2 k2 s3 X2 S2 (st1 hs).1;obtain⟨ys2,qy,ry⟩:=ky H2 k2 s3 X2 S2 (st1 hs).2;refine⟨xs2,ys2,qx,qy,?_⟩;have hi:(pairD as bs).length<=i:=hi;rw[len] at hi;rw[rx.length,ry.length];omega
end
end L2.MP
set_option maxHeartbeats 4000000
namespace L2.MP
open PySem PySem.Spec PyProof.Rows
noncomputable def Caps(X:Cx)(fs:List Str):List Nat->List Str->Prop
 | [],[]=>True
 | j::js,x::xs=>(X.N[j]?=some x/\x∈fs)/\Caps X fs js xs
 | _,_=>False
noncomputable def Outs(X:Cx):List Str->Prop
 | []=>True
 | x::xs=>(X.env.kindOf x=some .cell\/X.env.kindOf x=some .free)/\Outs X xs
theorem Outs.get{X:Cx}:∀ {fs:List Str} {x:Str},Outs X fs->x∈fs->X.env.kindOf x=some .cell\/X.env.kindOf x=some .free
 | [],_,_,m=>nomatch m
 | y::ys,x,h,m=>by
   rcases List.mem_cons.mp m with rfl | m
   . exact h.1
   . exact Outs.get h.2 m
theorem Caps.get{X:Cx}{fs:List Str}:∀ {fr:List Nat} {xs:List Str} {i j:Nat} {x:Str},Caps X fs fr xs->fr[i]?=some j->xs[i]?=some x->X.N[j]?=some x/\x∈fs
 | [],[],i,j,x,_,h,_=>by simp at h
 | [],_::_,i,j,x,h,_,_=>h.elim
 | _::_,[],i,j,x,h,_,_=>h.elim
 | k::ks,y::ys,0,j,x,h,h1,h2=>by
   simp at h1 h2;subst h1 h2;exact h.1
 | k::ks,y::ys,i+1,j,x,h,h1,h2=>Caps.get (i:=i) h.2 (by simpa using h1) (by simpa using h2)
theorem zbK{X:Cx}{scope:Scope}{N':List Str}{nt:Nat}{fr:List Nat}(fs:List Str)(kind:scope.kind=.function)(nd:(scope.names.map (·.1)).Nodup)(hf:scope.names.all (fun p=>!(p.2==NameKind.free) || fs.contains p.1)=true)
   (hb:fs.all (fun x=>scope.names.contains (x,NameKind.free))=true) (len:N'.length=nt+fr.length) (cap:Caps X fs fr (N'.drop nt)) (out:Outs X fs):CompS X scope N' nt fr:=by
 refine⟨kind,nd,len,fun i j x h1 h2=>?_,fun x hx=>?_⟩
 . have h2':(N'.drop nt)[i]?=some x:=by rw[List.getElem?_drop];exact h2
   obtain⟨a,b⟩:=cap.get h1 h2';refine⟨a,?_⟩;have:=List.all_eq_true.mp hb x b;simpa using this
 . have:=List.all_eq_true.mp hf _ hx;have hm:x∈fs:=by simpa using this
   exact out.get hm
theorem zeb:bootBuiltins "len"=some (.builtin "len"):=by decide +kernel
theorem zrq:bootBuiltins "min"=some (.builtin "min"):=by decide +kernel
theorem zda:bootBuiltins "sorted"=some (.builtin "sorted"):=by decide +kernel
theorem zpn:bootBuiltins "int"=some (.type "int"):=by decide +kernel
theorem zpo:bootBuiltins "bool"=some (.type "bool"):=by decide +kernel
theorem zpm:bootBuiltins "list"=some (.type "list"):=by decide +kernel
theorem zcp:bootBuiltins "tuple"=some (.type "tuple"):=by decide +kernel
theorem zjQ:bootBuiltins "dict"=some (.type "dict"):=by decide +kernel
noncomputable def mulA:G2:=orG mulD zpD
theorem zcm{X:Cx}:OpM X (binaryOp .Mult) mulA:=zmv zov zmy
end L2.MP
namespace L2.MP
open PySem PySem.Spec PyProof.Rows
theorem zlw{K:PySem.W.Frag}{H:Hp}{io:List Addr}:∀ (ns:List Int),Reps K H io (ns.map V.int) (ns.map D.int)
 | []=>rfl
 | n::ns=>⟨_,_,rfl,rfl,zlw ns⟩
theorem zlT{K:PySem.W.Frag}{H:Hp}{a:Addr}{ns:List Int}{g:GN}{st:Sto}{E:XK}(hO:Only H)(hS:SqL K H a (ns.map V.int))(e:g [.kl (ns.map D.int)] []=some (.bl true,st)):spM K 1 g [.ref a] H (fun v _=>v=.bl true) E:=by
 have hF:SqF K H a (ns.map V.int):=by
   rcases hS with (h | h) | h
   . rcases hO a with z | ⟨o,xs,z⟩
     . rw[z] at h;cases h
     . rw[z] at h;cases h
   . exact .inl h
   . exact .inr h
 refine⟨_,[],[],_,_,rfl,Reps.cons (show Rep K H [] (.ref a) (.kl (ns.map D.int)) from ⟨a,_,rfl,hF,zlw ns⟩) Reps.nil,⟨rfl,List.nodup_nil,fun n b o h=>by simp at h⟩,e,fun v H' ka E' S' R'=>R'⟩
end L2.MP
set_option maxHeartbeats 1000000
namespace L2.MP
structure Y3(a b c:Prop):Prop where
 h1:a
 h2:b
 h3:c
structure Y4(a b c d:Prop):Prop where
 h1:a
 h2:b
 h3:c
 h4:d
structure Y5(a b c d e:Prop):Prop where
 h1:a
 h2:b
 h3:c
 h4:d
 h5:e
structure Y6(a b c d e f:Prop):Prop where
 h1:a
 h2:b
 h3:c
 h4:d
 h5:e
 h6:f
structure Y7(a b c d e f g:Prop):Prop where
 h1:a
 h2:b
 h3:c
 h4:d
 h5:e
 h6:f
 h7:g
structure Y8(a b c d e f g h:Prop):Prop where
 h1:a
 h2:b
 h3:c
 h4:d
 h5:e
 h6:f
 h7:g
 h8:h
open PySem
structure Gr(st st':Sto):Prop where
 len:st.length<=st'.length
 old:∀ k,k < st.length->st'[k]?=st[k]?
structure Fr(n:Nat)(st st':Sto):Prop where
 len:st.length<=st'.length
 old:∀ k,k < st.length->k≠n->st'[k]?=st[k]?
theorem Gr.refl(st:Sto):Gr st st:=⟨Nat.le_refl _,fun _ _=>rfl⟩
theorem Fr.refl(n:Nat)(st:Sto):Fr n st st:=⟨Nat.le_refl _,fun _ _ _=>rfl⟩
theorem Gr.fr{st st':Sto}(h:Gr st st')(n:Nat):Fr n st st':=⟨h.len,fun k hk _=>h.old k hk⟩
theorem Gr.trans{a b c:Sto}(h:Gr a b)(h':Gr b c):Gr a c:=⟨Nat.le_trans h.len h'.len,fun k hk=>(h'.old k (Nat.lt_of_lt_of_le hk h.len)).trans (h.old k hk)⟩
theorem Fr.trans{n:Nat}{a b c:Sto}(h:Fr n a b)(h':Fr n b c):Fr n a c:=⟨Nat.le_trans h.len h'.len,fun k hk nk=>(h'.old k (Nat.lt_of_lt_of_le hk h.len) nk).trans (h.old k hk nk)⟩
theorem Gr.app(st:Sto)(l:List O):Gr st (st++l):=⟨by simp,fun k hk=>List.getElem?_append_left hk⟩
theorem Fr.app(n:Nat)(st:Sto)(l:List O):Fr n st (st++l):=(Gr.app st l).fr n
theorem Fr.set(n:Nat)(st:Sto)(o:O):Fr n st (st.set n o):=⟨by simp,fun k _ hk=>by rw[List.getElem?_set_ne (fun h=>hk h.symm)]⟩
theorem getElem?_lt{α:Type}{l:List α}{n:Nat}{x:α}(h:l[n]?=some x):n < l.length:=(List.getElem?_eq_some_iff.mp h).1
theorem zaR(st:Sto)(o:O):(st++[o])[st.length]?=some o:=getElem?_len st o
theorem zbR{W:Wk}{g:MG}{m:MS}:∀ {ds:List D} {Inv:Nat->Rho->Sto->Prop} {ρ:Rho} {st:Sto},Inv 0 ρ st->(∀ k ρ s,k<=ds.length->Inv k ρ s->walked W s=true) ->
   (∀ k d ρ s,ds[k]?=some d->Inv k ρ s->∃ ρ1 s1 ρ2 s2,g d ρ s=some (ρ1,s1)/\m ρ1 s1=some (.nx ρ2,s2)/\Inv (k+1) ρ2 s2)->∃ ρ' s',zje W g m ds ρ st=some (.nx ρ',s')/\Inv ds.length ρ' s'
 | [],Inv,ρ,st,h0,wk,step=>⟨ρ,st,by unfold zje;rw[if_pos (wk 0 ρ st (Nat.le_refl _) h0)],h0⟩
 | d::ds,Inv,ρ,st,h0,wk,step=>by
   obtain⟨ρ1,s1,ρ2,s2,e1,e2,h1⟩:=step 0 d ρ st rfl h0;obtain⟨ρ',s',e,h⟩:=zbR (W:=W) (g:=g) (m:=m) (ds:=ds) (Inv:=fun k=>Inv (k+1)) h1 (fun k ρ s hk h=>wk (k+1) ρ s (Nat.succ_le_succ hk) h) (fun k d ρ s hd h=>step (k+1) d ρ s (by simpa using hd) h);refine⟨ρ',s',?_,h⟩;unfold zje;rw[if_pos (wk 0 ρ st (Nat.zero_le _) h0),e1];simp only[Option.bind_some,e2];exact e
theorem znk{W:Wk}{g:MG}{c:MT}{m:ME}:∀ {ds:List D} {Inv:Nat->List D->Rho->Sto->Prop} {acc:List D} {ρ:Rho} {st:Sto},Inv 0 acc ρ st->(∀ k a ρ s,k<=ds.length->Inv k a ρ s->walked W s=true) ->
   (∀ k d a ρ s,ds[k]?=some d->Inv k a ρ s->∃ ρ1 s1 b s2,g d ρ s=some (ρ1,s1)/\c ρ1 s1=some (b,s2)/\((b=true/\∃ x s3,m ρ1 s2=some (x,s3)/\Inv (k+1) (a++[x]) ρ1 s3)\/(b=false/\Inv (k+1) a ρ1 s2))) ->
   ∃ xs ρ' s',mCI W g c m ds ρ st=some (xs,s')/\Inv ds.length (acc++xs) ρ' s'
 | [],Inv,acc,ρ,st,h0,wk,step=>⟨[],ρ,st,by unfold mCI;rw[if_pos (wk 0 acc ρ st (Nat.le_refl _) h0)],by rw[List.append_nil];exact h0⟩
 | d::ds,Inv,acc,ρ,st,h0,wk,step=>by
   obtain⟨ρ1,s1,b,s2,e1,e2,h1⟩:=step 0 d acc ρ st rfl h0;have wk':∀ k a ρ s,k<=ds.length->Inv (k+1) a ρ s->walked W s=true:=fun k a ρ s hk h=>wk (k+1) a ρ s (Nat.succ_le_succ hk) h;have st':∀ k d a ρ s,ds[k]?=some d->Inv (k+1) a ρ s->∃ ρ1 s1 b s2,g d ρ s=some (ρ1,s1)/\c ρ1 s1=some (b,s2)/\((b=true/\∃ x s3,m ρ1 s2=some (x,s3)/\Inv (k+1+1) (a++[x]) ρ1 s3)\/(b=false/\Inv (k+1+1) a ρ1 s2)):=fun k d a ρ s hd h=>step (k+1) d a ρ s (by simpa using hd) h
   rcases h1 with ⟨rfl,x,s3,e3,h1⟩ | ⟨rfl,h1⟩
   . obtain⟨xs,ρ',s',e,h⟩:=znk (W:=W) (g:=g) (c:=c) (m:=m) (ds:=ds) (Inv:=fun k=>Inv (k+1)) h1 wk' st';refine⟨x::xs,ρ',s',?_,by simpa using h⟩;unfold mCI;rw[if_pos (wk 0 acc ρ st (Nat.zero_le _) h0),e1];simp only[Option.bind_some,e2,if_true,e3,e,Option.map_some]
   . obtain⟨xs,ρ',s',e,h⟩:=znk (W:=W) (g:=g) (c:=c) (m:=m) (ds:=ds) (Inv:=fun k=>Inv (k+1)) h1 wk' st';refine⟨xs,ρ',s',?_,h⟩;unfold mCI;rw[if_pos (wk 0 acc ρ st (Nat.zero_le _) h0),e1];simp only[Option.bind_some,e2,Bool.false_eq_true,if_false,e]
theorem zh3{W:Wk}{g:MG}{c:MT}{m:ME}{α:Type}{f h:α->D}{R:Rho->Prop}:∀ {as:List α} {ρ:Rho} {st:Sto},R ρ->walked W st=true->(∀ a∈as,∀ ρ,R ρ->∃ ρ1,g (f a) ρ st=some (ρ1,st)/\c ρ1 st=some (true,st)/\m ρ1 st=some (h a,st)/\R ρ1) ->
   mCI W g c m (as.map f) ρ st=some (as.map h,st)
 | [],ρ,st,r,wk,_=>by unfold mCI;rw[List.map_nil];simp only[wk,if_true,List.map_nil]
 | a::as,ρ,st,r,wk,hs=>by
   obtain⟨ρ1,e1,e2,e3,r1⟩:=hs a List.mem_cons_self ρ r;have e:=zh3 (W:=W) (g:=g) (c:=c) (m:=m) (f:=f) (h:=h) (R:=R) (as:=as) r1 wk fun b hb=>hs b (List.mem_cons_of_mem _ hb);rw[List.map_cons];unfold mCI;rw[if_pos wk,e1];simp only[Option.bind_some,e2,if_true,e3,e,Option.map_some,List.map_cons]
theorem zcl{ds xs:List D}{n:Nat}{s:Sto}(h:s[n]?=some (.lst xs)):walked ⟨ds,[(n,xs)]⟩ s=true:=by
 unfold walked;simp only[List.all_cons,List.all_nil,Bool.and_true];exact zjq h
theorem zaw{n:Nat}(h:n<=10000):fits n=true:=by
 unfold fits;exact decide_eq_true (Nat.le_trans h (by decide))
end L2.MP
namespace L2.MP
@[simp] theorem zgA{α:Type}(x:α)(y:Option α):orO (some x) y=some x:=rfl
@[simp] theorem zfv{α:Type}(y:Option α):orO none y=y:=rfl
end L2.MP
namespace L2.MP.Hn
open PySem L2.MP
end L2.MP.Hn
namespace L2.MP
open PySem
section
variable {ρ ρ1:Rho} {st s1:Sto} {m n ma mb:ME} {mm:MA} {ms mq:MS} {mt mu:MT} {g:G2} {gn:GN} {d:D} {i j:Nat} {ds:List D} {mg:MG} {mgs:MGs} {ml mh:MO}
@[simp] theorem znq:mVar i ρ st=match ρ[i]? with
 | some (some d)=>some (d,st)
 | _=>none:=rfl
@[simp] theorem zns:mCon d ρ st=some (d,st):=rfl
@[simp] theorem zh9:mBin g ma mb ρ st=(ma ρ st).bind fun p=>(mb ρ p.2).bind fun q=>g p.1 q.1 q.2:=rfl
@[simp] theorem zrs:mTst m ρ st=(m ρ st).bind fun p=>match p.1 with
 | .bl b=>some (b,p.2)
 | _=>none:=rfl
@[simp] theorem zrV:zpF mt ρ st=(mt ρ st).map fun p=>(!p.1,p.2):=rfl
@[simp] theorem zrY:zfw mt mu ρ st=(mt ρ st).bind fun p=>if p.1=true then mu ρ p.2 else some (false,p.2):=rfl
@[simp] theorem zsR:mOrT mt mu ρ st=(mt ρ st).bind fun p=>if p.1=true then some (true,p.2) else mu ρ p.2:=rfl
@[simp] theorem zrX:zmT m n ρ st=(mTst m ρ st).bind fun p=>if p.1=true then n ρ p.2 else some (.bl false,p.2):=rfl
@[simp] theorem zrU:zpE m ρ st=(mTst m ρ st).map fun p=>(.bl !p.1,p.2):=rfl
@[simp] theorem zpv:zar gn mm ρ st=(mm ρ st).bind fun p=>gn p.1 p.2:=rfl
@[simp] theorem zpu:zad m mm ρ st=(m ρ st).bind fun p=>(mm ρ p.2).bind fun q=>some (p.1::q.1,q.2):=rfl
@[simp] theorem zrt:mNil ρ st=some ([],st):=rfl
@[simp] theorem zsN:mTup mm ρ st=(mm ρ st).bind fun p=>if fits p.1.length=true then some (.tup p.1,p.2) else none:=rfl
@[simp] theorem zsT:mLst mm ρ st=(mm ρ st).bind fun p=>if fits p.1.length=true then some (.ref p.2.length,p.2++[.lst p.1]) else none:=rfl
@[simp] theorem zsP:mRet m ρ st=(m ρ st).map fun p=>(.rt p.1,p.2):=rfl
@[simp] theorem zrv:mExp m ρ st=(m ρ st).map fun p=>(.nx ρ,p.2):=rfl
@[simp] theorem zgb:mAsg m mg ρ st=(m ρ st).bind fun p=>(mg p.1 ρ p.2).map fun q=>(.nx q.1,q.2):=rfl
@[simp] theorem zth:gNm i d ρ st=some (ρ.set i (some d),st):=rfl
@[simp] theorem zrT:zdK ρ st=some (.nx ρ,st):=rfl
@[simp] theorem zsS:mNeg m ρ st=(m ρ st).bind fun p=>negD p.1 p.2:=rfl
@[simp] theorem zk8:mIf mt ms mq ρ st=(mt ρ st).bind fun p=>if p.1=true then ms ρ p.2 else mq ρ p.2:=rfl
@[simp] theorem zgQ:putA ma mb m ρ st=orO (mAsg m (gSb setD ma mb) ρ st) (zjZ ma mb m ρ st):=rfl
@[simp] theorem zte{g3:G3}:gSb g3 ma mb d ρ st=(ma ρ st).bind fun p=>(mb ρ p.2).bind fun q=>(g3 p.1 q.1 d q.2).map fun s=>(ρ,s):=rfl
@[simp] theorem ztd:gTp i mgs d ρ st=match d with
 | .tup ds=>if ds.length=i then mgs ds ρ st else none
 | _=>none:=rfl
@[simp] theorem zsV:gN0 [] ρ st=some (ρ,st):=rfl
@[simp] theorem zti:gC mg mgs (d::ds) ρ st=(mg d ρ st).bind fun p=>mgs ds p.1 p.2:=rfl
@[simp] theorem zrS:mR1 m ρ st=(m ρ st).bind fun p=>match p.1 with
 | .int j=>if small j=true then some (⟨run 0 j.toNat,[]⟩,p.2) else none
 | _=>none:=rfl
@[simp] theorem zrR:zck ρ st=some (true,st):=rfl
theorem zaW{mi:MI}{k:Nat}{fr:List Nat}:zcO mi k fr mg mt m ρ st=(mi ρ st).bind fun p=>(mCI p.1 mg mt m p.1.ds (rho0 ρ k fr) p.2).bind fun q=>if fits q.1.length=true then some (.ref q.2.length,q.2++[.lst q.1]) else none:=rfl
@[simp] theorem zdb{mi:MI}:mFor mi mg ms ρ st=(mi ρ st).bind fun p=>zje p.1 mg ms p.1.ds ρ p.2:=rfl
@[simp] theorem ztg:zlo ρ st=some (none,st):=rfl
@[simp] theorem ztf:zln m ρ st=(m ρ st).bind fun p=>match p.1 with
 | .int i=>some (some i,p.2)
 | _=>none:=rfl
@[simp] theorem zsU{T:String}:mIsi T m ρ st=(m ρ st).bind fun p=>(tyName p.2 p.1).map fun t=>(.bl (subT t T),p.2):=rfl
@[simp] theorem zsW:mApp m mm ρ st=(m ρ st).bind fun p=>match p.1 with
 | .ref n=>(zbu p.2 n).bind fun _=>(mm ρ p.2).bind fun q=>zbY p.1 q.1 q.2
 | _=>none:=rfl
@[simp] theorem zsQ:mPar i j mm ρ st=(mm ρ st).bind fun p=>match p.1 with
 | [x,y]=>some (.nx ((ρ.set i (some x)).set j (some y)),p.2)
 | _=>none:=rfl
@[simp] theorem zrr:mZip ma mb ρ st=(ma ρ st).bind fun p=>(mb ρ p.2).bind fun q=>zipW p.1 q.1 q.2:=rfl
@[simp] theorem zrw:zoR true ρ st=some (.ref st.length,st++[.dt []]):=rfl
@[simp] theorem zrx:zoR false ρ st=some (.ref st.length,st++[.dk []]):=rfl
theorem zan{r:Option (Fl×Sto)}(h:ms ρ st=some (.nx ρ1,s1))(k:mq ρ1 s1=r):mSeq ms mq ρ st=r:=by
 unfold mSeq;rw[h];exact k
theorem ziG{s:Sto}(h:ms ρ st=some (.rt d,s)):mSeq ms mq ρ st=some (.rt d,s):=by
 unfold mSeq;rw[h];rfl
theorem zcy{N:Nat}{s:Sto}(h:ms (rho N ds) st=some (.rt d,s)):fnM N ms ds st=some (d,s):=by
 unfold fnM;rw[h];rfl
theorem zcf{k:Nat}(h:k<=10000:=by decide):fits k=true:=zaw h
@[simp] theorem zs5:fits 0=true:=zcf
@[simp] theorem zs4:fits 1=true:=zcf
@[simp] theorem zs3:fits 2=true:=zcf
@[simp] theorem zs2:fits 3=true:=zcf
@[simp] theorem zs1:fits 4=true:=zcf
@[simp] theorem zs0:fits 5=true:=zcf
@[simp] theorem zsZ:fits 6=true:=zcf
@[simp] theorem zsY:fits 7=true:=zcf
@[simp] theorem zsX:fits 8=true:=zcf
theorem zcx{k:Int}(h0:0<=k)(h1:k<=1000000):small k=true:=by
 unfold small;simp;omega
theorem zco{n:Nat}{ds:List D}{k:Int}{x:D}(h:st[n]?=some (.lst ds))(h0:0<=k)(hx:ds[k.toNat]?=some x):ixA (.ref n) (.int k) st=some (x,st):=by
 have hl:=getElem?_lt hx;have h1:k < ds.length:=by omega
 simp[ixA,orG,idxD,zbu,h,atI,ixN,h0,h1,zgA];exact (List.getElem?_eq_some_iff.mp hx).2
theorem zaQ{ds:List D}{k:Int}{x:D}(h0:0<=k)(hx:ds[k.toNat]?=some x):ixA (.tup ds) (.int k) st=some (x,st):=by
 have hl:=getElem?_lt hx;have h1:k < ds.length:=by omega
 simp[ixA,orG,idxD,atI,ixN,h0,h1,zgA];exact (List.getElem?_eq_some_iff.mp hx).2
theorem zsA{ds:List D}{k:Int}{x:D}(h0:0<=k)(hx:ds[k.toNat]?=some x):ixA (.kl ds) (.int k) st=some (x,st):=by
 have hl:=getElem?_lt hx;have h1:k < ds.length:=by omega
 simp[ixA,orG,idxD,atI,ixN,h0,h1,zgA];exact (List.getElem?_eq_some_iff.mp hx).2
theorem zjl{z:Str}{k:Int}{c:Nat}(hz:z.length<=10000)(h0:0<=k)(hx:z.cps[k.toNat]?=some c):ixA (.str z) (.int k) st=some (.str ⟨#[c]⟩,st):=by
 have hl:k.toNat < z.cps.size:=(Array.getElem?_eq_some_iff.mp hx).1;have h1:k < z.cps.size:=by omega
 have hf:fits z.length=true:=zaw hz;simp[ixA,orG,idxD,atI,ixN,h0,h1,zgA,hf];exact (Array.getElem?_eq_some_iff.mp hx).2
theorem zhl{n:Nat}(h:st[n]?=some (.lst ds)):lenD [.ref n] st=some (.int ds.length,st):=by simp[lenD,zbu,h]
theorem zfZ:lenD [.tup ds] st=some (.int ds.length,st):=rfl
theorem zmX:lenD [.kl ds] st=some (.int ds.length,st):=rfl
theorem zbW{n:Nat}(h:st[n]?=some (.lst ds)):zdN [.ref n] st=some (.tup ds,st):=by simp[zdN,zbu,h]
@[simp] theorem add_int(a b:Int):addD (.int a) (.int b) st=some (.int (a+b),st):=rfl
@[simp] theorem sub_int(a b:Int):subD (.int a) (.int b) st=some (.int (a - b),st):=rfl
theorem mul_int{a b:Int}(h:-1000000<=a/\a<=1000000):mulA (.int a) (.int b) st=some (.int (a*b),st):=by
 have:in64 a=true:=by unfold in64;simp;omega
 simp[mulA,orG,mulD,intD,this,zgA]
theorem zhD{a b:List D}(ha:a≠[])(h:a.length+b.length<=10000):addD (.tup a) (.tup b) st=some (.tup (a++b),st):=by
 have:fits (a.length+b.length)=true:=zaw h
 cases a with
 | nil=>exact absurd rfl ha
 | cons x a=>simp[addD,this] at *
theorem zpx{a b:Nat}{x y:List D}(ha:st[a]?=some (.lst x))(hb:st[b]?=some (.lst y))(h:x.length+y.length<=10000):addD (.ref a) (.ref b) st=some (.ref st.length,st++[.lst (x++y)]):=by
 have:fits (x.length+y.length)=true:=zaw h;simp[addD,ha,hb,this]
theorem append_at{n:Nat}{x:D}(h:st[n]?=some (.lst ds))(hl:ds.length<=10000):zbY (.ref n) [x] st=some (.non,st.set n (.lst (ds++[x]))):=by
 have:ds.length < sizeLine:=Nat.lt_of_le_of_lt hl (by decide);simp[zbY,h,this]
end
end L2.MP
set_option linter.unusedSimpArgs false
set_option maxHeartbeats 2000000
namespace L2.MP.Hn
open PySem L2.MP
end L2.MP.Hn
namespace L2.MP.Hn
open PySem L2.MP
end L2.MP.Hn
namespace L2.MP
open PySem PySem.Builtin PySem.Builtin.Str
theorem len_list(a:Str):a.length=a.cps.toList.length:=rfl
end L2.MP
set_option maxHeartbeats 2000000
namespace L2.MP
open PySem
theorem zgU{n:Nat}{st:Sto}{x:Str}(h:PyData.strOk x=true):toP (n+1) st (.str x)=some (.str x):=by
 rw[toP];simp[h]
theorem eq_int(a b:Int)(st:Sto):eqD (.int a) (.int b) st=some (.bl (a==b),st):=by
 unfold eqD;rw[toP,toP];simp[PyData.eqv]
end L2.MP
namespace L2.MP.Hn
open PySem L2.MP
noncomputable abbrev zaO:Str:="abcdefghijklmnopqrstuvwxyz"
theorem zc5:∀ k:Nat,k < 26->zaO.cps[k]?=some (97+k):=by decide +kernel
end L2.MP.Hn
set_option maxHeartbeats 2000000
namespace L2.MP.Hn
open PySem L2.MP
end L2.MP.Hn
set_option maxHeartbeats 2000000
namespace L2.MP
open PySem
noncomputable def zbM(p:Str×Int):D:=.tup [.str p.1,.int p.2]
noncomputable def zb8(k:List Str):D:=.tup (k.map D.str)
end L2.MP
namespace L2.MP.Hn
open PySem L2.MP
end L2.MP.Hn
set_option maxHeartbeats 2000000
namespace L2.MP.Hn
open PySem L2.MP
theorem zeR{st:Sto}{l:Nat}{ss:List Str}(hl:st[l]?=some (.lst (ss.map D.str)))(h:ss.length < 64):zci [.ref l] st=some (.ref st.length,st++[.lst ((zdu ss).map D.str)]):=by
 simp[zci,orN,zcI,zbu,hl,zit,h,zgA]
end L2.MP.Hn
set_option maxHeartbeats 2000000
namespace L2.MP
open PySem
theorem zf2:∀ t:List Int,intsOf (t.map D.int)=some t
 | []=>rfl
 | x::t=>by rw[List.map_cons,intsOf,zf2 t];rfl
theorem zc2:∀ {rows:List (List Int)},(∀ r∈rows,r≠[])->rowsOf (rows.map tupD)=some rows
 | [],_=>rfl
 | r::rows,h=>by
   have hr:rowOf (tupD r)=some r:=by
     unfold rowOf tupD;simp only[zf2,Option.bind_some];have:r.isEmpty=false:=by
       cases r with
       | nil=>exact absurd rfl (h [] List.mem_cons_self)
       | cons a b=>rfl
     simp[this]
   rw[List.map_cons,rowsOf,hr,Option.bind_some,zc2 fun q hq=>h q (List.mem_cons_of_mem _ hq)];rfl
theorem ziy{st:Sto}{l:Nat}{rows:List (List Int)}(hl:st[l]?=some (.lst (rows.map tupD)))(h:∀ r∈rows,r≠[])(h64:rows.length < 64):zci [.ref l] st=some (.ref st.length,st++[.lst ((zfu rows).map tupD)]):=by
 match rows,hl,h,h64 with
 | [],hl,h,h64=>simp[zci,orN,zcI,zbu,hl,strsOf,zdu,zfu,zgA]
 | [r],hl,h,h64 =>
   have e:strsOf [tupD r]=none:=rfl;simp[zci,orN,zcI,zdR,zbu,hl,e,zfu,zgA,zfv]
 | r::q::rows,hl,h,h64 =>
   have e:strsOf (tupD r::tupD q::rows.map tupD)=none:=rfl;have e2:=zc2 h;simp only[List.map_cons] at e2;simp at h64;have h2:rows.length+1+1 < 64:=by omega
   simp[zci,orN,zcI,zdR,zeT,zbu,hl,e,e2,zgA,zfv,h2]
theorem zc0(rows:List (List Int)):(zfu rows).Perm rows:=List.mergeSort_perm _ _
theorem zg0(rows:List (List Int)):(zfu rows).Pairwise fun a b=>tle a b=true:=List.pairwise_mergeSort (fun a b c=>zdI a b c) zgV rows
theorem zlV{a b:List (List Int)}(h:a.Perm b)(hs:b.Pairwise fun x y=>tle x y=true):zfu a=b :=
 zcZ ((zc0 a).trans h) (zg0 a) hs fun x _ y _=>zim
noncomputable abbrev Tl:=Int×Int×Int
noncomputable def kvOf(t:Tl):List Key×D:=([Sum.inl t.1,Sum.inl t.2.1],.int t.2.2)
noncomputable def rowT(t:Tl):List Int:=[t.1,t.2.1,t.2.2]
noncomputable def zbw(a b:Tl):Bool:=decide (a.1=b.1)&&decide (a.2.1=b.2.1)
noncomputable def putT(l:List Tl)(t:Tl):List Tl:=if l.any (fun u=>zbw u t)=true then l.map (fun u=>if zbw u t=true then t else u) else l++[t]
theorem zji(u t:Tl):decide ((kvOf u).1=(kvOf t).1)=zbw u t:=by
 unfold kvOf zbw
 by_cases h1:u.1=t.1 <;> by_cases h2:u.2.1=t.2.1 <;> simp[h1,h2]
theorem zlh(l:List Tl)(t:Tl):putD (l.map kvOf) (kvOf t).1 (kvOf t).2=(putT l t).map kvOf:=by
 unfold putD putT;have e:((l.map kvOf).any fun kv=>decide (kv.1=(kvOf t).1))=l.any fun u=>zbw u t:=by
   rw[List.any_map]
   congr 1
   funext u
   exact zji u t
 rw[e]
 split
 . rw[List.map_map,List.map_map];apply List.map_congr_left;intro u _;show (if (kvOf u).1=(kvOf t).1 then _ else _)=kvOf (if zbw u t=true then t else u)
   by_cases h:zbw u t=true
   . have h':(kvOf u).1=(kvOf t).1:=of_decide_eq_true ((zji u t).trans h);rw[if_pos h',if_pos h,h']
   . have h':¬ (kvOf u).1=(kvOf t).1:=fun z=>h ((zji u t).symm.trans (decide_eq_true z));rw[if_neg h',if_neg h]
 . rw[List.map_append];rfl
noncomputable def PlNd(l:List Tl):Prop:=l.Pairwise fun a b=>zbw a b=false
theorem zeu(a b:Tl):zbw a b=zbw b a:=by
 unfold zbw
 by_cases h1:a.1=b.1 <;> by_cases h2:a.2.1=b.2.1 <;> simp[h1,h2,eq_comm]
theorem zlg{l:List Tl}{t:Tl}(h:PlNd l):PlNd (putT l t):=by
 unfold putT
 split
 . unfold PlNd at *;rw[List.pairwise_map];refine h.imp fun {a b} hab=>?_;have eqp:∀ {a b c:Tl},zbw a b=true->zbw a c=zbw b c:=fun {a b c} q=>by
     unfold zbw at *;simp at q;rw[q.1,q.2]
   by_cases ha:zbw a t=true
   . by_cases hb:zbw b t=true
     . have h1:zbw a b=zbw t b:=eqp ha;rw[zeu] at hb;rw[h1,hb] at hab;cases hab
     . rw[if_pos ha,if_neg hb,zeu];simpa using hb
   . by_cases hb:zbw b t=true
     . rw[if_neg ha,if_pos hb];simpa using ha
     . rw[if_neg ha,if_neg hb];exact hab
 . rename_i hn;unfold PlNd at *;rw[List.pairwise_append];refine⟨h,List.pairwise_singleton _ _,fun a ha b hb=>?_⟩;rw[List.mem_singleton.mp hb]
   cases e:zbw a t with
   | false=>rfl
   | true=>exact absurd (List.any_eq_true.mpr ⟨a,ha,e⟩) hn
theorem ziS{P:Tl->Prop}{l:List Tl}{t:Tl}(h:∀ u∈l,P u)(ht:P t):∀ u∈putT l t,P u:=by
 unfold putT
 split
 . intro u hu;obtain⟨v,hv,rfl⟩:=List.mem_map.mp hu
   split
   . exact ht
   . exact h v hv
 . intro u hu
   rcases List.mem_append.mp hu with hu | hu
   . exact h u hu
   . rw[List.mem_singleton.mp hu];exact ht
theorem zgx(l:List Tl)(t:Tl):(putT l t).length<=l.length+1:=by
 unfold putT
 split
 . rw[List.length_map];omega
 . simp
theorem zd5{st:Sto}{t:Nat}{l:List Tl}{x y k:Int}(h:st[t]?=some (.dt (l.map kvOf)))(hl:l.length<=1000):dput st t (.tup [.int x,.int y]) (.int k)=some (st.set t (.dt ((putT l (x,y,k)).map kvOf))):=by
 have h1:(l.map kvOf).length < sizeLine:=Nat.lt_of_le_of_lt (by rw[List.length_map];exact hl) (by decide);have e:=zlh l (x,y,k);have e1:keysOf [.int x,.int y]=some (kvOf (x,y,k)).1:=rfl;have e2:D.int k=(kvOf (x,y,k)).2:=rfl;unfold dput;simp only[h,e1,Option.bind_some];rw[e2,e,if_pos (decide_eq_true h1)]
end L2.MP
set_option maxHeartbeats 2000000
namespace L2.MP.Hn
open PySem L2.MP
noncomputable def zas(ts:List Tl):D:=.tup (ts.map fun t=>tupD (rowT t))
end L2.MP.Hn
set_option maxHeartbeats 2000000
namespace L2.MP.Hn
open PySem L2.MP
end L2.MP.Hn
set_option maxHeartbeats 2000000
namespace L2.MP.Hn
open PySem L2.MP
noncomputable def zpL(r:List Int):Tl:=(r.getD 0 0,r.getD 1 0,r.getD 2 0)
noncomputable def srtT(l:List Tl):List Tl:=(zfu (l.map rowT)).map zpL
theorem zaz(l:List Tl):(srtT l).Perm l:=by
 have:=(zc0 (l.map rowT)).map zpL;rw[List.map_map] at this;have e:zpL ∘ rowT=id:=by funext t;rfl
 rw[e,List.map_id] at this;exact this
theorem zbq(l:List Tl):(srtT l).map rowT=zfu (l.map rowT):=by
 unfold srtT;rw[List.map_map]
 conv=>rhs;rw[<-List.map_id (zfu (l.map rowT))]
 apply List.map_congr_left;intro r hr;obtain⟨t,_,rfl⟩:=List.mem_map.mp ((zc0 _).mem_iff.mp hr);rfl
theorem znU{a b:List Tl}(h:a.Perm b)(hs:(b.map rowT).Pairwise fun x y=>tle x y=true):srtT a=b:=by
 unfold srtT;rw[zlV (h.map rowT) hs,List.map_map];have e:zpL ∘ rowT=id:=by funext t;rfl
 rw[e,List.map_id]
theorem zaA{st:Sto}{l:Nat}{ts:List Tl}(hl:st[l]?=some (.lst (ts.map fun t=>tupD (rowT t))))(h64:ts.length < 64):zci [.ref l] st=some (.ref st.length,st++[.lst ((srtT ts).map fun t=>tupD (rowT t))]):=by
 have hl':st[l]?=some (.lst ((ts.map rowT).map tupD)):=by rw[List.map_map];exact hl
 have e:=ziy hl' (fun r hr=>by obtain⟨t,_,rfl⟩:=List.mem_map.mp hr;simp[rowT]) (by rw[List.length_map];exact h64);rw[<-zbq,List.map_map] at e;exact e
end L2.MP.Hn
set_option maxHeartbeats 4000000
namespace L2.MP
open PySem PySem.Spec PyProof.Rows
section
variable {X:Cx} {K:PySem.W.Frag} {H:Hp} {io:List Addr} {st st':Sto} {a b c e:Expr} {es:List Expr} {ma mb mc m:ME} {mm:MA} {pos:Pos}
noncomputable def zdv:D->List D->Sto->Option (D×Sto):=fun x xs st=>match x,xs with
 | .ref n,[.ref k]=>match st[n]?,st[k]? with
   | some (.lst ds),some (.lst zs)=>if fits (ds.length+zs.length)=true then some (.non,st.set n (.lst (ds++zs))) else none
   | _,_=>none
 | _,_=>none
theorem extend_in{x:D}{xs:List D}{d:D}(h:zdv x xs st=some (d,st')):∃ n k ds zs,x=.ref n/\xs=[.ref k]/\st[n]?=some (.lst ds)/\st[k]?=some (.lst zs)/\ds.length+zs.length<=sizeLine/\d=.non/\st'=st.set n (.lst (ds++zs)):=by
 unfold zdv at h
 split at h
 . rename_i n k
   split at h
   . rename_i ds zs e1 e2;obtain⟨hf,h⟩:=zap h;cases h;exact⟨n,k,ds,zs,rfl,rfl,e1,e2,of_decide_eq_true hf,rfl,rfl⟩
   . cases h
 . cases h
theorem zi9:MtR X "list.extend" (mtM X.K zdv):=by
 rintro pins s σ H x xs v us Q I rx rs ⟨dx,ds,st,io,d,st',Rx,Rs,S,e,k⟩;obtain⟨n,j,l,zs,rfl,rfl,e1,e2,hl,rfl,rfl⟩:=extend_in e;obtain⟨p,rfl,hp⟩:=Rx;obtain⟨w,rfl,Rw⟩:=Rs.one;obtain⟨q,rfl,hq⟩:=Rw;obtain⟨ys,hH,r⟩:=S.ob n p _ hp e1;obtain⟨ws,hB,r2⟩:=S.ob j q _ hq e2;refine zkI pins s σ H _ _ v us Q I rx rs ⟨p,q,ys,ws,rfl,rfl,hH,hB,by rw[r.length,r2.length];exact hl,?_⟩;obtain⟨E',S'⟩:=zfK (o:=.lst (ys++ws)) (ob:=.lst (l++zs)) S hp e1 (fun o u z=>by rw[hH] at z;cases z) fun H' T e'=>⟨_,e',(Reps.mono T r).append (Reps.mono T r2)⟩
 exact k _ _ [] E' S' rfl
noncomputable def mExt(m:ME)(mm:MA):ME:=fun ρ st=>(m ρ st).bind fun (x,s1)=>match x with
 | .ref n=>(zbu s1 n).bind fun _=>(mm ρ s1).bind fun (xs,s2)=>zdv x xs s2
 | _=>none
theorem zkk{o:Expr}{apos cpos:Pos}(ho:SE X o m)(ha:SA X (e::es) mm)
   (hbase:attributeBase o "extend" X.env (eval o X.env)=eval o X.env:=by rfl)
   (hfew:((backTo cpos (starEach (e::es) X.env)).all (fun x=>!x.1)&&(backToKw cpos (keywordEach [] X.env)).all (fun x=>x.1.isSome)
    &&decide ((e::es).length+([]:List Keyword).length+(if ([]:List Keyword).isEmpty then 0 else 1) < 30))=true:=by rfl)
   (hline:(apos.endLine==cpos.line)=true:=by rfl) (hs:starEach (e::es) X.env=(false,eval e X.env)::starEach es X.env:=by rfl) (hplain:(backTo cpos (starEach es X.env)).any (·.1)=false:=by rfl) :
   SE X (.Call (.Attribute o "extend" apos) (e::es) [] cpos) (mExt m mm) :=
 PE.imp (zrF PySem.F.plainAttrs_list PySem.F.slot_list_extend PySem.F.type_list_extend zi9 ho ha hbase hfew hline hs hplain) <| by
   rintro σ H Q ⟨ρ,st,io,d,st',E,S,e,k⟩;obtain⟨⟨x,s1⟩,e1,e⟩:=zae e
   cases x with
   | ref n =>
     obtain⟨l,e0,e⟩:=zae e;obtain⟨⟨xs,s2⟩,e2,e⟩:=zae e;refine⟨ρ,st,io,_,s1,E,S,e1,fun v1 H1 k1 X1 S1 R1=>⟨zgk R1 S1 e0,ρ,s1,io++k1,xs,s2,E.ext S X1,S1,e2,fun vs H2 k2 X2 S2 R2=>?_⟩⟩;exact⟨_,xs,s2,(io++k1)++k2,d,st',R1.ext S1 X2,R2,S2,e,(k.on S1 X1).on S2 X2⟩
   | _=>cases e
theorem zru{ρ:Rho}:mExt m mm ρ st=(m ρ st).bind fun p=>match p.1 with
 | .ref n=>(zbu p.2 n).bind fun _=>(mm ρ p.2).bind fun q=>zdv p.1 q.1 q.2
 | _=>none:=rfl
end
end L2.MP
set_option maxHeartbeats 2000000
namespace L2.MP
open PySem
theorem zft{W:Wk}{g:MG}{c:MT}{m:ME}{α:Type}{f h:α->D}{p:α->Bool}{R:Rho->Prop}:∀ {as:List α} {ρ:Rho} {st:Sto},R ρ->walked W st=true->(∀ a∈as,∀ ρ,R ρ->∃ ρ1,g (f a) ρ st=some (ρ1,st)/\c ρ1 st=some (p a,st)/\(p a=true->m ρ1 st=some (h a,st))/\R ρ1) ->
   mCI W g c m (as.map f) ρ st=some ((as.filter p).map h,st)
 | [],ρ,st,r,wk,_=>by unfold mCI;rw[List.map_nil];simp only[wk,if_true,List.filter_nil,List.map_nil]
 | a::as,ρ,st,r,wk,hs=>by
   obtain⟨ρ1,e1,e2,e3,r1⟩:=hs a List.mem_cons_self ρ r;have e:=zft (W:=W) (g:=g) (c:=c) (m:=m) (f:=f) (h:=h) (p:=p) (R:=R) (as:=as) r1 wk fun b hb=>hs b (List.mem_cons_of_mem _ hb);rw[List.map_cons];unfold mCI;rw[if_pos wk,e1]
   cases hp:p a with
   | true =>
     rw[hp] at e2;simp only[Option.bind_some,e2,if_true,e3 hp,e,Option.map_some,List.filter_cons,hp,List.map_cons]
   | false =>
     rw[hp] at e2;simp only[Option.bind_some,e2,Bool.false_eq_true,if_false,e,List.filter_cons,hp]
end L2.MP
namespace L2.MP.Hn
open PySem L2.MP
theorem zbj{a b:List Tl}(h:a.Perm b):srtT a=srtT b:=by
 refine znU (h.trans (zaz b).symm) ?_;rw[zbq];exact zg0 _
theorem zfp{st:Sto}{n k:Nat}{ds zs:List D}(h:st[n]?=some (.lst ds))(h':st[k]?=some (.lst zs))(hl:ds.length+zs.length<=10000):zdv (.ref n) [.ref k] st=some (.non,st.set n (.lst (ds++zs))):=by
 have:fits (ds.length+zs.length)=true:=zaw hl;simp[zdv,h,h',this]
end L2.MP.Hn
set_option maxHeartbeats 4000000
namespace L2.MP
open PySem PySem.Spec PyProof.Rows
section
set_option maxRecDepth 100000
theorem zjB(x:Sr)(o:Obj)(xs:Array Value):Meets (Builtin.«enumerate.__new__» ⟨[.type "enumerate",.ref x.ad],[]⟩) (fun _ R s=>s.heap.get? x.ad=some o/\x.is s.heap xs /\
     R (.ok (.ret (.ref (s.heap.push x.ob).objs.size))) { s with heap:=(s.heap.push x.ob).push { cls:=.type "enumerate",data:=.fields #[.none,.bool false,.ref s.heap.objs.size,rawInt 0,.none,.none] } }) :=
 .of_wp fun prog w A R s h=>by
   obtain⟨hp,g,d,tk,os⟩:=s;obtain⟨h1,h2,h⟩:=h;have hsub:=sub_enumerate;have hx:x.is (Shared.heap ⟨hp,g,d,tk,os⟩) xs:=h2
   wp_walk using AutoSeq1.wpAny_loadPart' h1
   refine wpAny_stack_any fun sk=>wpAny_pure ?_
   split
   . rename_i c _ _ _ _ _
     cases (c==Value.type "enumerate")
     . wp_walk using AutoSeq1.wpAny_loadPart' h1,Sr.iter hx
       exact⟨_,rfl,h⟩
     . wp_walk using AutoSeq1.wpAny_loadPart' h1,Sr.iter hx
       exact⟨_,rfl,h⟩
   . wp_walk using AutoSeq1.wpAny_loadPart' h1,Sr.iter hx
     exact⟨_,rfl,h⟩
end
section
variable {prog:Program} {w:World} {A:Around} {E:Value->Shared->Prop} {s:Shared}
theorem Sr.is_get{h:Heap}{xs:Array Value}{x:Sr}(q:x.is h xs):∃ o,h.get? x.ad=some o:=by
 cases x with
 | l a=>obtain⟨o,g,_⟩:=q;exact⟨o,g⟩
 | t a=>obtain⟨o,g,_⟩:=q;exact⟨o,g⟩
theorem zjO{x:Sr}{xs:Array Value}{R:Value->Shared->Prop}(hx:x.is s.heap xs)(k:∀ h',IsEnum h' (s.heap.objs.size+1) s.heap.objs.size 0 .none->x.at_ h' s.heap.objs.size 0->(∀ c u,s.heap.get? c=some u->h'.get? c=some u)->R (.ref (s.heap.objs.size+1)) { s with heap:=h' }) :
   wpAny (model prog w) A (call (.type "enumerate") [.ref x.ad]) R E s:=by
 obtain⟨o,g⟩:=Sr.is_get hx;refine callType_new F.called_enumerate (by decide) (F.typeCall_enumerate_1 _) (F.newCall_enumerate_1 _) (fun obj=>F.args_object_init_2 obj _) F.entry_enumerate_new (zjB x o xs) ⟨g,hx,?_⟩;have z1:(s.heap.push x.ob).objs.size=s.heap.objs.size+1:=Heap.size_push ..;have f2:((s.heap.push x.ob).push { cls:=.type "enumerate",data:=.fields #[.none,.bool false,.ref s.heap.objs.size,rawInt 0,.none,.none] }).get? (s.heap.push x.ob).objs.size=some { cls:=.type "enumerate",data:=.fields #[.none,.bool false,.ref s.heap.objs.size,rawInt 0,.none,.none] }:=Heap.get?_push_size _ rfl;have f1:((s.heap.push x.ob).push { cls:=.type "enumerate",data:=.fields #[.none,.bool false,.ref s.heap.objs.size,rawInt 0,.none,.none] }).get? s.heap.objs.size=some x.ob:=Heap.get?_push_of_some _ (Heap.get?_push_size _ (by cases x <;> rfl));show _/\_;rw[z1] at f2 ⊢;exact⟨⟨_,f2,rfl⟩,k _ f2 (Sr.at_new f1) fun c u q=>Heap.get?_push_of_some _ (Heap.get?_push_of_some _ q)⟩
end
theorem Sr.draws{prog:Program}{w:World}{A:Around}(hh:A.handled=none)(it:Addr)(x:Sr)(hne:x.ad≠it)(items:Array Value):Draws prog w A it [it,x.ad] items.size (fun i v=>items[i]?=some v) (fun i h=>x.at_ h it i/\x.is h items) where
 live:=fun _ _ q=>let ⟨o,_,g,_⟩:=Sr.at_get q.1;⟨o,g⟩
 frame:=fun _ _ _ q k=>⟨Sr.at_keep q.1 fun o e=>k it (by simp) o e,Sr.is_keep q.2 fun o e=>k x.ad (by simp) o e⟩
 item:=fun i s Q E hi q k=>by
   refine Sr.next q.1 q.2 (v:=items[i]) (by simp[hi]) fun h' a b=>?_;exact k _ h' s.toks (by simp[hi]) ⟨a,Sr.is_keep q.2 fun o e=>b.extBut _ _ hne e⟩ b
 done:=fun s Q E q k=>Sr.stop hh q.1 q.2 (by simp) k
theorem Sr.drawsEnd{prog:Program}{w:World}{A:Around}(hh:A.handled=none)(it:Addr)(x:Sr)(items:Array Value)(n:Nat)(hn:items[n]?=none):Draws prog w A it [it,x.ad] n (fun _ _=>True) (fun j h=>j=n/\x.at_ h it n/\x.is h items) where
 live:=fun _ _ q=>let ⟨o,_,g,_⟩:=Sr.at_get q.2.1;⟨o,g⟩
 frame:=fun _ _ _ q k=>⟨q.1,Sr.at_keep q.2.1 fun o e=>k it (by simp) o e,Sr.is_keep q.2.2 fun o e=>k x.ad (by simp) o e⟩
 item:=fun i s Q E hi q k=>absurd q.1 (Nat.ne_of_lt hi)
 done:=fun s Q E q k=>Sr.stop hh q.2.1 q.2.2 hn k
noncomputable def Itn(x:Sr):It :=
 ⟨fun i H=>∃ xs v,x.sq H xs/\xs[i]?=some v,fun i H r H'=>∃ p v,H p=none/\H'=upd H p (.tup [.int (i:Nat),v])/\r=.ref p/\∀ xs,x.sq H xs->xs[i]?=some v,fun i H=>∃ xs,x.sq H xs/\xs.length<=i⟩
theorem zil{P:Program}{w:World}{K:PySem.W.Frag}{elts:List Expr}{x1}{pos:Pos}(x:Sr)(it e:Addr)(hne:e≠it) :
   Turn P w K (.Tuple elts x1 pos) (Itn x) [e,it] e (fun i h=>(∃ old,IsEnum h e it (i:Nat) old)/\x.at_ h it i) where
 mem:=by simp
 obj:=fun i h st b hb=>by
   obtain⟨⟨old,he⟩,hi⟩:=st
   rcases List.mem_cons.mp hb with rfl | hb
   . exact⟨_,he,fun v z=>by cases z⟩
   . rw[List.mem_singleton.mp hb];obtain⟨o,vs,g,d⟩:=Sr.at_get hi;exact⟨o,g,fun v z=>by rw[d] at z;cases z⟩
 keep:=fun i h h' st k=>by
   obtain⟨⟨old,he⟩,hi⟩:=st;exact⟨⟨old,k e (by simp) _ he⟩,Sr.at_keep hi fun o q=>k it (by simp) o q⟩
 item := by
   intro X hP hw hK hc i pins s σ H E I hf st hg;subst hP hw hK;obtain⟨xs,v,hx,hv⟩:=hg;obtain⟨⟨old,he⟩,hi⟩:=st;obtain⟨its,rx,ix⟩:=Sr.sq_is I hx;obtain⟨v',gv,rv⟩:=rx.get hv;have fit:=(hf it (by simp)).1;have fe:=(hf e (by simp)).1;have hlt:i < its.toArray.size:=by have:=(List.getElem?_eq_some_iff.mp gv).1;simpa using this
   refine wpAny_pyNext_enum_itemD (Sr.draws (A:=X.A.in1) (I.ok.hd hc) it x (Sr.sq_ne hx fit) its.toArray) he ⟨hi,ix⟩ hlt hne (by
     simp only[List.mem_cons,List.not_mem_nil,or_false,not_or];exact⟨hne,fun z=>Sr.sq_ne hx fe z.symm⟩) fun y h1 tk hy he1 st1 t1 z1 k1=>?_
   have ey:y=v':=by
     have:its[i]?=some y:=by simpa using hy
     rw[gv] at this;exact (Option.some.inj this).symm
   subst ey;refine⟨_,rfl,wpAny_letOwnedTupleGo_enum (s:={ s with heap:=h1,toks:=tk+1 }) he1 fun h2 he2 hb2=>?_⟩;have k2:∀ b o,b ∉ [e,it]->s.heap.get? b=some o->h2.get? b=some o:=fun b o hb q=>by
     have n1:b≠e:=fun z=>hb (by simp[z]);have n2:b≠it:=fun z=>hb (by simp[z]);exact (hb2.2 b n1).trans (k1 b o n1 n2 q)
   have hsz:e≠s.heap.objs.size:=Nat.ne_of_lt (Heap.lt_size he);have t2:h2.get? s.heap.objs.size=some { cls:=.type "tuple",data:=.seq #[.int i tk,y] }:=(hb2.2 _ hsz.symm).trans t1;have hi2:x.at_ h2 it (i+1):=Sr.at_keep st1.1 fun o q=>(hb2.2 it hne.symm).trans q;refine⟨.ref s.heap.objs.size,upd H s.heap.objs.size (.tup [.int (i:Nat),v]),?_,rfl,⟨_,v,I.hok.fresh (Nat.le_refl _),rfl,rfl,fun ys hy=>by rw[Sr.sq_inj hy hx];exact hv⟩,⟨⟨_,by exact_mod_cast he2⟩,hi2⟩,fun b hb=>?_⟩
   . exact Inv.turnNew (s:=s) (h':=h2) (t':=tk+1) I hf k2 (Nat.le_refl _) (fun b hb ob q=>by
       rcases List.mem_cons.mp hb with rfl | hb
       . exact⟨_,he2⟩
       . rw[List.mem_singleton.mp hb];obtain⟨o,vs,g,d⟩:=Sr.at_get hi2;exact⟨o,g⟩) ⟨by show 2<=sizeLine;decide,[.int i tk,y],.cons ⟨_,rfl⟩ (.cons rv .nil),⟨_,t2,rfl,rfl,_,rfl⟩⟩
   . rw[zav (fun z=>?_)]
     . exact (hf b hb).1
     . rcases List.mem_cons.mp hb with q | hb
       . exact hsz (q.symm.trans z)
       . have q:=List.mem_singleton.mp hb;obtain⟨o,vs,g,d⟩:=Sr.at_get hi;exact (Nat.ne_of_lt (Heap.lt_size g)) (q.symm.trans z)
 done:=by
   intro X hP hw hK hc i pins s σ H E I hf st hg;subst hP hw hK;obtain⟨xs,hx,hl⟩:=hg;obtain⟨⟨old,he⟩,hi⟩:=st;obtain⟨its,rx,ix⟩:=Sr.sq_is I hx;have l1:=rx.length;exact wpAny_pyNext_enum_endD (Sr.drawsEnd (A:=X.A.in1) (I.ok.hd hc) it x its.toArray i (by simp;omega)) he ⟨rfl,hi,ix⟩ fun h' eb=>⟨rfl,Inv.turnAll (t':=s.toks) I hf fun b o hb q=>eb b o (fun z=>hb (by simp[z])) q⟩
 self:=fun _ _ _ _ _ st h=>by
   obtain⟨⟨old,he⟩,_⟩:=st;exact wpAny_pyIter_enum he h
section
variable {X:Cx} {K:PySem.W.Frag} {H:Hp} {io:List Addr} {m:ME} {st st':Sto}
noncomputable def zrP(x:D)(s:Sto):Option (Wk×Sto):=(seqD s x).map fun (a,f)=>(⟨pairs a,f⟩,s)
noncomputable def zoQ(m:ME):MI:=fun ρ st=>(m ρ st).bind fun (x,s1)=>zrP x s1
theorem zn0{elts:List Expr}{x1}{tp:Pos}{a:Expr}{p pos:Pos}(hg:Gl X "enumerate")(hm:X.mg "enumerate"=none)(ha:SE X a m)(hs:starEach [a] X.env=[(false,eval a X.env)]:=by rfl) :
   SI X (.Tuple elts x1 tp) (.Call (.Name "enumerate" p) [a] [] pos) (zoQ m):=by
 rintro pins s σ H R I ⟨ρ,st,io,W,st',E,S,e,k⟩;obtain⟨⟨x,s1⟩,e1,e⟩:=zae e;obtain⟨⟨as,f⟩,e3,e⟩:=zah e;cases e;refine Call_ (zhZ I hg hm boot_enumerate (PyProof.Rows.callWith_type1 (thn (zaa ha zai hs pos pins s σ H (fun vs H'=>∃ ka,Ext io ka H H'/\StR X.K H' (io++ka) st'/\Reps X.K H' (io++ka) vs [x]) I ⟨ρ,st,io,[x],st',E,S,zfk e1 rfl,fun vs H1 k1 X1 S1 R1=>⟨k1,X1,S1,R1⟩⟩) ?_) hs rfl));rintro us t1 ⟨vs,H1,I1,r1,k1,X1,S1,R1⟩;obtain⟨v,rfl,Rx⟩:=R1.one;obtain⟨v',rfl,rv⟩:=r1.one;obtain⟨xx,rfl,⟨xs,hx⟩,kx⟩:=ziF S1 Rx e3;cases rv;obtain⟨its,vx,ix⟩:=Sr.sq_is I1 hx;refine zjO ix fun h' he hi kk=>wpAny_pyIter_enum he ?_;refine⟨_,_,_,_,H1,rfl,I1.kept (t':=t1.toks) kk,zil xx t1.heap.objs.size (t1.heap.objs.size+1) (Nat.succ_ne_self _),⟨⟨_,he⟩,hi⟩,fun b hb=>?_,?_⟩
 . have hle:t1.heap.objs.size<=b:=by
     rcases List.mem_cons.mp hb with q | hb
     . rw[q];exact Nat.le_succ _
     . rw[List.mem_singleton.mp hb];exact Nat.le_refl _
   exact I1.fpOk hle (I1.hok.fresh hle)
 . refine k _ H1 k1 X1 S1 ?_;refine⟨fun i d H2 k2 s3 hd X2 S2 hs=>?_,fun H2 k2 s3 X2 S2 hs=>?_,fun H2 k2 s3 i hi X2 S2 hs=>?_⟩
   . obtain⟨xs2,qx,rx⟩:=kx H2 k2 s3 X2 S2 hs;obtain⟨dx,g1,rfl⟩:=zkw hd;obtain⟨u1,gu,ru⟩:=rx.get g1;refine⟨⟨xs2,u1,qx,gu⟩,fun r H' yl=>?_⟩;obtain⟨q,u2,hq,rfl,rfl,yu⟩:=yl;have e5:=yu xs2 qx;rw[gu] at e5;cases e5;obtain⟨E',S'⟩:=zhf (o:=.tup [.int (i:Nat),u1]) S2 hq;rw[List.append_nil] at S';refine⟨E',S',⟨q,_,rfl,zbs,?_⟩⟩;have r2:=ru.ext S2 E';rw[List.append_nil] at r2;exact Reps.cons rfl (Reps.cons r2 Reps.nil)
   . obtain⟨xs2,qx,rx⟩:=kx H2 k2 s3 X2 S2 hs;exact⟨xs2,qx,by show xs2.length<=(pairs as).length;rw[pairs_len,rx.length];exact Nat.le_refl _⟩
   . obtain⟨xs2,qx,rx⟩:=kx H2 k2 s3 X2 S2 hs;have hi:(pairs as).length<=i:=hi;rw[pairs_len] at hi;exact⟨xs2,qx,by rw[rx.length];exact hi⟩
end
end L2.MP
set_option maxHeartbeats 4000000
namespace L2.MP
open PySem PySem.Spec PyProof.Rows
section
variable {X:Cx} {K:PySem.W.Frag} {H:Hp} {io:List Addr} {m:ME} {st st':Sto}
@[simp] theorem zrW{ρ:Rho}:zoQ m ρ st=(m ρ st).bind fun p=>zrP p.1 p.2:=rfl
end
end L2.MP
set_option maxHeartbeats 4000000
namespace L2.MP
open PySem PySem.Spec PyProof.Rows
section
variable {X:Cx} {K:PySem.W.Frag} {H:Hp} {io:List Addr} {m ma mb mc:ME} {st st':Sto} {a b c:Expr} {pos:Pos}
noncomputable def zfX(g g':G2)(ma mb mc:ME):ME:=fun ρ st=>(ma ρ st).bind fun (x,s1)=>(mb ρ s1).bind fun (y,s2)=>(g x y s2).bind fun (z,s3)=>match z with
 | .bl q=>if q=true then (mc ρ s3).bind fun (w,s4)=>g' y w s4 else some (.bl false,s3)
 | _=>none
theorem zeI{g g':G2}{σ:L2.St}{H:Hp}{Q:VK}(h:tE K (zfX g g' ma mb mc) σ H Q):zlN (r2M K g) (r2M K g') (tE K ma) (tE K mb) (tE K mc) σ H Q:=by
 obtain⟨ρ,st,io,d,st',E,S,e,k⟩:=h;obtain⟨⟨x,s1⟩,e1,e⟩:=zae e;obtain⟨⟨y,s2⟩,e2,e⟩:=zae e;obtain⟨⟨z,s3⟩,e3,e⟩:=zae e;refine⟨ρ,st,io,x,s1,E,S,e1,fun v1 H1 k1 X1 S1 R1=>?_⟩;refine⟨ρ,s1,io++k1,y,s2,E.ext S X1,S1,e2,fun v2 H2 k2 X2 S2 R2=>?_⟩;refine⟨x,y,s2,(io++k1)++k2,z,s3,R1.ext S1 X2,R2,S2,e3,fun v3 H3 k3 X3 S3 R3=>?_⟩;have k':=((k.on S1 X1).on S2 X2).on S3 X3;dsimp only at e
 split at e
 . rename_i q;refine⟨q,R3,?_⟩
   cases q with
   | true =>
     rw[if_pos rfl] at e ⊢;obtain⟨⟨w,s4⟩,e4,e5⟩:=zae e;refine⟨ρ,s3,((io++k1)++k2)++k3,w,s4,((E.ext S X1).ext S1 X2).ext S2 X3,S3,e4,fun v4 H4 k4 X4 S4 R4=>?_⟩;exact⟨y,w,s4,(((io++k1)++k2)++k3)++k4,d,st',(R2.ext S2 X3).ext S3 X4,R4,S4,e5,k'.on S4 X4⟩
   | false =>
     rw[if_neg Bool.false_ne_true] at e ⊢;cases e;exact Bh.now k' S3 rfl
 . cases e
theorem zl2{op op':CmpOp}{g g':G2}(ho:OpM X (compareOp op) g)(ho':OpM X (compareOp op') g')(ha:SE X a ma)(hb:SE X b mb)(hc:SE X c mc)(hm:lastMarks [op,op'] [b,c]=false:=by with_unfolding_all rfl) :
   SE X (.Compare a [op,op'] [b,c] pos) (zfX g g' ma mb mc):=PE.imp (zmu ho ho' ha hb hc hm) fun _ _ _ h=>zeI h
theorem zl7{op op':CmpOp}{g g':G2}(ho:OpM X (compareOp op) g)(ho':OpM X (compareOp op') g')(ha:SE X a ma)(hb:SE X b mb)(hc:SE X c mc)(hm:lastMarks [op,op'] [b,c]=false:=by with_unfolding_all rfl) :
   SB X (.Compare a [op,op'] [b,c] pos) (mTst (zfX g g' ma mb mc)):=PT.imp (zmd ho ho' ha hb hc hm) fun _ _ _ h=>zeI (zcW h)
end
end L2.MP
set_option maxHeartbeats 4000000
namespace L2.MP
open PySem PySem.Spec PyProof.Rows
end L2.MP
set_option maxHeartbeats 4000000
namespace L2.MP
open PySem PySem.Spec PyProof.Rows
section
variable {X:Cx} {K:PySem.W.Frag} {H:Hp} {io:List Addr} {m mk:ME} {st st':Sto} {e se:Expr} {te:TE} {ts:TO} {p2 pos:Pos}
theorem zgR{x:V}{u:Value}:∀ {xs:List V} {us:List Value},Vals xs us->RelV x u->Vals (xs++[x]) (us++[u])
 | [],_,.nil,r=>.cons r .nil
 | y::xs,_,.cons z t,r=>.cons z (zgR t r)
theorem zif:∀ {xs:List V} {us:List Value},Vals xs us->Vals xs.reverse us.reverse
 | [],_,.nil=>.nil
 | x::xs,_,.cons r t=>by
   rw[List.reverse_cons,List.reverse_cons];exact zgR (zif t) r
theorem zg7:∀ {xs:List V} {ds:List D} {x:V} {d:D},Reps K H io xs ds->Rep K H io x d->Reps K H io (xs++[x]) (ds++[d])
 | _,[],x,d,h,r=>by
   cases (show _=[] from h)
   exact⟨x,[],rfl,r,rfl⟩
 | _,e::ds,x,d,h,r=>by
   obtain⟨y,ys,rfl,h1,h2⟩:=h;exact⟨y,ys++[x],rfl,h1,zg7 h2 r⟩
theorem ziN:∀ {ds:List D} {xs:List V},Reps K H io xs ds->Reps K H io xs.reverse ds.reverse
 | [],xs,h=>by
   cases (show xs=[] from h)
   exact rfl
 | d::ds,xs,h=>by
   obtain⟨y,ys,rfl,h1,h2⟩:=h;rw[List.reverse_cons,List.reverse_cons];exact zg7 (ziN h2) h1
end
end L2.MP
set_option maxHeartbeats 4000000
set_option maxRecDepth 100000
namespace L2.MP
open PySem PySem.Spec PyProof.Rows
theorem zgI:typeLookup (.type "list") "keys"=pure none:=by rw[typeLookup_type,builtinLookup_eq_fast];kernel_rfl
theorem zcz:entryFor table "dict.update.loop"=some Builtin.«dict.update.loop»:=entryFor_of_fast (by kernel_rfl)
theorem zbf:plainId "dict.update.loop"=true:=by decide +kernel
section
variable {prog:Program} {w:World} {A:Around} {E:Value->Shared->Prop} {s:Shared} {a:Addr}
theorem zhp{Q:Option Value->Shared->Prop}{xs:Array Value}{k:Nat}{sl:Array (Option Value)}(hx:s.heap.get? a=some { cls:=.type "list",dict:=none,data:=.seq xs k,slots:=sl })(hA:A.handled=none)
   (h:∀ h' tk,(∀ b u,s.heap.get? b=some u->h'.get? b=some u)->Q none { s with heap:=h',toks:=tk }):wpAny (model prog w) A (getAttr? (.ref a) "keys") Q E s:=by
 obtain⟨hp,g,d,tk,os⟩:=s;have hT:∀ tk',(⟨hp,g,d,tk',os⟩:Shared).TypeIs (.ref a) "list":=fun _=>⟨_,hx,rfl⟩
 have f1:=sub_AttributeError;have f3:=F.slot_list_getattribute.lookup;have f4:=F.slot_list_getattribute.bind (.ref a);have f5:=am_list_getattr_none;unfold getAttr? getAttrBy? getAttrBy
 repeat (any_goals (first | assumption | exact hT _ | ((with_reducible show wpAny _ _ (call (Value.builtin "list.__getattribute__") _ _) _ _ _);refine call_meets F.slot_list_getattribute (hT _) am_entry_list_getattribute (F.args_list_getattribute_2 _ _) (meets_getattribute_miss_list a xs k sl _ _ zgI (by decide +kernel)) ⟨hx,hA,fun h' tk' e hx'=>?_⟩) | wp_step))
 obtain⟨t',u',he⟩:=hx'.there;show wpAny _ _ (getattributeRaised _ _ _ _ _ _ _) _ _ _;unfold getattributeRaised
 repeat (any_goals (first | assumption | wp_step))
 exact h _ _ hx'.keeps
noncomputable def zgc(prog:Program)(w:World)(h:Heap)(v:Value)(kv:Key×Value):Prop:=∃ p kx,v=.ref p/\IsTup h p #[kx,kv.2]/\(zaE prog w).is kv.1 kx=true
theorem zgc.keep{h h':Heap}{v:Value}{kv:Key×Value}(q:zgc prog w h v kv)(k:∀ b o,v=.ref b->h.get? b=some o->h'.get? b=some o):zgc prog w h' v kv:=by
 obtain⟨p,kx,rfl,⟨o,g,c⟩,i⟩:=q;exact⟨p,kx,rfl,⟨o,k p o rfl g,c⟩,i⟩
theorem zd0{p:Addr}{xs:Array Value}{Q:List Value->Shared->Prop}(ht:IsTup s.heap p xs)(h:Q xs.toList s):wpAny (model prog w) A (Builtin.Dict.pairItems (.ref p)) Q E s:=by
 obtain⟨hp,g,d,tk,os⟩:=s;obtain⟨o,g0,c,n,dd⟩:=ht;have hT:(⟨hp,g,d,tk,os⟩:Shared).TypeIs (.ref p) "tuple":=⟨_,g0,c⟩
 unfold Builtin.Dict.pairItems seqItems?
 repeat (any_goals (first | assumption | wp_step))
 rw[dd];exact wpAny_pure (wpAny_pure h)
end
end L2.MP
set_option maxHeartbeats 4000000
set_option maxRecDepth 100000
namespace L2.MP
open PySem PySem.Spec PyProof.Rows
section
variable {prog:Program} {w:World} {A:Around} {E:Value->Shared->Prop} {s:Shared} {a:Addr}
theorem ziu{K:Type}[DecidableEq K](kvs:List (K×Value))(k:K)(v:Value):(stored kvs k v).length<=kvs.length+1:=by
 unfold stored
 split <;> simp
theorem zd2{K:Type}[DecidableEq K]:∀ (more kvs:List (K×Value)),(merged kvs more).length<=kvs.length+more.length
 | [],kvs=>by show kvs.length<=kvs.length+0;omega
 | p::r,kvs=>by
   have h1:=zd2 r (stored kvs p.1 p.2);have h2:=ziu kvs p.1 p.2;show (merged (stored kvs p.1 p.2) r).length<=_;rw[List.length_cons];omega
theorem zsK{R:Result->Shared->Prop}{D I l:Addr}{its:List Value}{kvs:List (Key×Value)}{h0:Heap}(hh:A.in1.handled=none)(hl:its.length=kvs.length)(hz:kvs.length<=sizeLine)(hDI:D≠I)(hlD:l≠D)(hlI:l≠I) :
   ∀ (k i:Nat) (s:Shared),kvs.length - i=k->i<=kvs.length->s.heap.IsListIter I l i->s.heap.IsList l its.toArray->s.heap.DictOf (zaE prog w) D (merged [] (kvs.take i)) ->
   (∀ (j:Nat) (v:Value) (kv:Key×Value),its[j]?=some v->kvs[j]?=some kv->zgc prog w s.heap v kv/\v≠.ref D/\v≠.ref I)->(∀ b o,b≠D->b≠I->h0.get? b=some o->s.heap.get? b=some o) ->
   (∀ h' tk,h'.DictOf (zaE prog w) D (merged [] kvs)->(∀ b o,b≠D->b≠I->h0.get? b=some o->h'.get? b=some o)->R (.ok (.ret .none)) { s with heap:=h',toks:=tk }) ->
   codeAny (model prog w) A (.builtin "dict.update.loop" ⟨[.ref D,.ref I,rawInt i,.none],[]⟩) R s:=by
 intro k
 induction k with
 | zero =>
   intro i s hk hi hit hlist hd hp h0k hR;have hin:i=kvs.length:=by omega
   subst hin;refine codeAny_builtin zcz ?_;rw[Around.under_plainId zbf _];show wpAny _ A.in1 (pyNext (.ref I) >>= _) _ _ s;refine wpAny_bind (wpAny_pyNext_list_end hh hit hlist (by simp[hl]) fun h' hx=>?_);show wpAny _ A.in1 (Builtin.Dict.addKeywords D [] >>= fun _=>ret .none) _ _ _;refine wpAny_bind (wpAny_pure (wpAny_pure ?_));rw[List.take_length] at hd;refine hR h' s.toks ?_ fun b o h1 h2 e=>hx b o h2 (h0k b o h1 h2 e);obtain⟨o,es,ep,ho,r⟩:=hd;exact⟨o,es,ep,hx D o hDI ho,r⟩
 | succ k ih =>
   intro i s hk hi hit hlist hd hp h0k hR;have hlt:i < kvs.length:=by omega
   have hlt':i < its.length:=by omega
   refine codeAny_builtin zcz ?_;rw[Around.under_plainId zbf _];show wpAny _ A.in1 (pyNext (.ref I) >>= _) _ _ s;have hv:its[i]?=some its[i]:=List.getElem?_eq_getElem hlt';have hkv:kvs[i]?=some kvs[i]:=List.getElem?_eq_getElem hlt;refine wpAny_bind (wpAny_pyNext_list_item (x:=its[i]) hit hlist (by simp[hlt']) fun h' hit' hx=>?_);obtain⟨pa,nD,nI⟩:=hp i _ _ hv hkv;have pa':zgc prog w h' its[i] kvs[i]:=pa.keep fun b o e g=>hx.extBut b o (fun z=>nI (by rw[e,z])) g;obtain⟨p,kx,ep,tp,ik⟩:=pa';have hd':h'.DictOf (zaE prog w) D (merged [] (kvs.take i)):=by
     obtain⟨o,es,ep,ho,r⟩:=hd;exact⟨o,es,ep,hx.extBut D o hDI ho,r⟩
   have hlen:(merged [] (kvs.take i)).length<=sizeLine:=by
     have:=zd2 (kvs.take i) [];rw[List.length_take,List.length_nil] at this;omega
   rw[ep];refine wpAny_bind (wpAny_holding (wpAny_bind (wpAny_tryCatch (zd0 (s:={ s with heap:=h' }) tp ?_))));refine wpAny_holding (wpAny_dictSet_pairs (s:={ s with heap:=h' }) ik hd' (fun h2 hd2 hs2=>?_) hlen);have hI2:∀ b o,b≠D->h'.get? b=some o->h2.get? b=some o:=fun b o hb e=>hs2.extBut b o hb e;have e1:stored (merged [] (kvs.take i)) kvs[i].1 kvs[i].2=merged [] (kvs.take (i+1)):=(merged_take_succ [] kvs i _ hkv).symm;refine wpAny_pure ⟨plainId_quiet zbf _,?_⟩;refine ih (i+1) { s with heap:=h2,toks:=s.toks+1 } (by omega) (by omega) ?_ ?_ (by rw[<-e1];exact hd2) (fun j v kv h1 h2'=>?_) (fun b o b1 b2 e=>hI2 b o b1 (hx.extBut b o b2 (h0k b o b1 b2 e))) fun h3 tk3 d3 k3=>hR h3 tk3 d3 k3
   . exact Heap.IsListIter.at hit' fun u e=>hI2 I u (Ne.symm hDI) e
   . exact Heap.IsList.at (Heap.IsList.at hlist fun u e=>hx.extBut l u hlI e) fun u e=>hI2 l u hlD e
   . obtain⟨q,q1,q2⟩:=hp j v kv h1 h2';exact⟨(q.keep fun b o e g=>hx.extBut b o (fun z=>q2 (by rw[e,z])) g).keep fun b o e g=>hI2 b o (fun z=>q1 (by rw[e,z])) g,q1,q2⟩
theorem zf9{l:Addr}{its:List Value}{kvs:List (Key×Value)}{Q:Value->Shared->Prop}(hh:A.handled=none)(hpl:PlainL s.heap l its.toArray)(hl:its.length=kvs.length)(hz:kvs.length<=sizeLine)
   (hp:∀ (j:Nat) (v:Value) (kv:Key×Value),its[j]?=some v->kvs[j]?=some kv->zgc prog w s.heap v kv)
   (h:∀ h' tk,h'.DictOf (zaE prog w) s.heap.objs.size (merged [] kvs)->(∀ b o,s.heap.get? b=some o->h'.get? b=some o)->Q (.ref s.heap.objs.size) { s with heap:=h',toks:=tk }) :
   wpAny (model prog w) A (call (.type "dict") [.ref l]) Q E s:=by
 refine callType_codes (Q₁:=fun obj s₁=>obj=.ref s.heap.objs.size/\s₁={ s with heap:=s.heap.push { cls:=.type "dict",data:=.dict #[] } }) F.kt_called_dict (F.kt_typeCall_dict_1 _) F.entry_dict_init (kt_code_dict_new _ ⟨rfl,rfl⟩) ?_;rintro obj s₁ ⟨rfl,rfl⟩;have hnew:(s.heap.push { cls:=.type "dict",data:=.dict #[] }).DictOf (zaE prog w) s.heap.objs.size []:=Heap.DictOf.new s.heap;have k1:∀ b o,s.heap.get? b=some o->(s.heap.push { cls:=.type "dict",data:=.dict #[] }).get? b=some o:=fun b o e=>Heap.get?_push_of_some _ e;have hpl1:=hpl.keeps k1;obtain⟨⟨cl,di,da,sl⟩,n,g1,c1,c2,c3⟩:=id hpl1;simp only at c1 c2 c3;subst c1 c2 c3;have hlt:∀ b o,s.heap.get? b=some o->b < s.heap.objs.size:=fun b o e=>Heap.lt_size e;have hll:l < s.heap.objs.size:=by obtain⟨o,_,g,_⟩:=hpl;exact hlt l o g
 refine⟨hnew.typeIs,F.args_dict_init_2 _ _,?_⟩;unfold Builtin.«dict.__init__»;refine wpAny_bind ?_;unfold Builtin.Dict.selfAndRest;refine wpAny_bind (wpAny_notOrdered_dict hnew.typeIs ?_);show wpAny _ _ (pure (s.heap.objs.size,[Value.ref l])) _ _ _;refine wpAny_pure ?_;show wpAny _ _ (Builtin.Dict.updateFrom "dict.__init__" s.heap.objs.size (.ref l) [] .none) _ _ _;unfold Builtin.Dict.updateFrom;refine wpAny_bind (wpAny_typeOf (show Shared.TypeIs { s with heap:=s.heap.push { cls:=.type "dict",data:=.dict #[] } } (.ref l) "list" from ⟨_,g1,rfl⟩) ?_);rw[if_pos (by decide)];refine wpAny_bind (zhp g1 hh fun h2 tk2 k2=>?_);have hpl2:=hpl1.keeps k2;have hd2:h2.DictOf (zaE prog w) s.heap.objs.size []:=by
   obtain⟨o,es,ep,ho,r⟩:=hnew;exact⟨o,es,ep,k2 _ o ho,r⟩
 have hsz:s.heap.objs.size < h2.objs.size:=by
   obtain⟨o,es,ep,ho,r⟩:=hd2;exact Heap.lt_size ho
 simp only[Option.isNone_none,if_true];refine wpAny_bind (wpAny_rule ?_);refine wpAny_bind (Sr.iter (x:=.l l) (s:={ s with heap:=h2,toks:=tk2 }) (xs:=its.toArray) hpl2.isList ?_);have k3:∀ b o,h2.get? b=some o->(h2.push (Sr.ob (.l l))).get? b=some o:=fun b o e=>Heap.get?_push_of_some _ e;refine wpAny_pure ⟨plainId_quiet zbf _,?_⟩;have n1:s.heap.objs.size≠h2.objs.size:=Nat.ne_of_lt hsz;have n2:l≠s.heap.objs.size:=Nat.ne_of_lt hll;have n3:l≠h2.objs.size:=Nat.ne_of_lt (Nat.lt_trans hll hsz);show codeAny (model prog w) A.in1 (.builtin "dict.update.loop" ⟨[.ref s.heap.objs.size,.ref h2.objs.size,rawInt (0:Nat),.none],[]⟩) _ { s with heap:=h2.push (Sr.ob (.l l)),toks:=tk2 };refine zsK (A:=A.in1) (h0:=s.heap) (l:=l) (its:=its) (kvs:=kvs) (D:=s.heap.objs.size) (I:=h2.objs.size) hh hl hz n1 n2 n3 kvs.length 0 { s with heap:=h2.push (Sr.ob (.l l)),toks:=tk2 } rfl (Nat.zero_le _) ?_ (hpl2.keeps k3).isList ?_ (fun j v kv e1 e2=>?_) (fun b o _ _ e=>k3 b o (k2 b o (k1 b o e))) (fun h' tk d' k'=>?_)
 . exact Sr.at_new (x:=.l l) (Heap.get?_push_size _ rfl)
 . obtain⟨o,es,ep,ho,r⟩:=hd2;exact⟨o,es,ep,k3 _ o ho,r⟩
 . have q:=hp j v kv e1 e2;have nn:∀ b,v=.ref b->b < s.heap.objs.size:=fun b e=>by
     obtain⟨p,kx,rfl,⟨o,g,_⟩,_⟩:=q;cases e;exact hlt _ o g
   refine⟨q.keep fun b o _ g=>k3 b o (k2 b o (k1 b o g)),fun e=>?_,fun e=>?_⟩
   . exact absurd (nn _ e) (Nat.lt_irrefl _)
   . exact absurd (nn _ e) (Nat.not_lt_of_lt hsz)
 . exact⟨rfl,h h' tk d' fun b o e=>k' b o (Nat.ne_of_lt (hlt b o e)) (Nat.ne_of_lt (Nat.lt_trans (hlt b o e) hsz)) e⟩
end
end L2.MP
set_option maxHeartbeats 4000000
namespace L2.MP
open PySem PySem.Spec PyProof.Rows
noncomputable def prOf:D->Option (Key×D)
 | .tup [k,v]=>(keyOf k).map fun q=>(q,v)
 | _=>none
noncomputable def znx:List D->Option (List (Key×D))
 | []=>some []
 | d::r=>(prOf d).bind fun t=>(znx r).map fun ts=>t::ts
noncomputable def zfW(kvs more:List (Key×D)):List (Key×D):=more.foldl (fun acc kv=>putD acc kv.1 kv.2) kvs
section
variable {X:Cx} {K:PySem.W.Frag} {H:Hp} {io:List Addr} {st st':Sto} {pins:List (Addr×Obj)} {σ:L2.St} {s:Shared}
theorem zjc:∀ {more:List (Key×V)} {mds:List (Key×D)} {kvs:List (Key×V)} {kds:List (Key×D)},KR Key K H io more mds->KR Key K H io kvs kds->KR Key K H io (zeo kvs more) (zfW kds mds):=by
 intro more mds kvs kds r;unfold KR at r
 induction r generalizing kvs kds with
 | nil=>intro q;exact q
 | @cons p q ps qs h t ih =>
   intro r0;have e:KR Key K H io (putK kvs p.1 p.2) (putD kds q.1 q.2):=by
     rw[<-h.1];exact KR.put r0 p.1 h.2
   exact ih e
theorem zmg(I:Inv X pins σ H s):∀ {ys:List V} {ds:List D} {kds:List (Key×D)} {its:List Value},Reps X.K H io ys ds->znx ds=some kds->Vals ys its ->
   ∃ (kvV:List (Key×V)) (kvs:List (Key×Value)),KR Key X.K H io kvV kds/\KV kvV kvs/\its.length=kvs.length/\kvs.length=kds.length/\∀ (j:Nat) (v:Value) (kv:Key×Value),its[j]?=some v->kvs[j]?=some kv->zgc X.prog X.w s.heap v kv
 | _,[],kds,_,h,e,r=>by
   cases e
   cases (show _=[] from h)
   cases r;exact⟨[],[],.nil,.nil,rfl,rfl,fun j v kv h=>by simp at h⟩
 | _,d::ds,kds,_,h,e,r=>by
   obtain⟨y,ys,rfl,h1,h2⟩:=h;obtain⟨t,e1,e⟩:=zae e;obtain⟨ts,e2,e⟩:=zah e;subst e
   cases r with
   | @cons _ u _ us ru rus =>
     obtain⟨kvV,kvs,a1,a2,a3,a4,a5⟩:=zmg I h2 e2 rus;unfold prOf at e1
     split at e1
     . rename_i k v;obtain⟨q,eq1,e1⟩:=zah e1;subst e1;obtain⟨p,vs,rfl,hp,rs⟩:=h1;obtain⟨v1,w1,rfl,q1,rs⟩:=rs;obtain⟨v2,w2,rfl,q2,rs⟩:=rs
       cases (show w2=[] from rs)
       have ek:=zdL q1 eq1;subst ek;cases ru;obtain⟨ia,va,ht,_⟩:=I.tuple (SqT.of (K:=X.K) hp)
       cases va with
       | cons r1 t1 =>
         cases t1 with
         | cons r2 t2 =>
           cases t2;rename_i u1 u2;refine⟨(q,v2)::kvV,(q,u2)::kvs,.cons ⟨rfl,q2⟩ a1,.cons ⟨rfl,r2⟩ a2,by rw[List.length_cons,List.length_cons,a3],by rw[List.length_cons,List.length_cons,a4],fun j v kv e1 e2=>?_⟩
           cases j with
           | zero =>
             cases e1;cases e2;exact⟨p,u1,rfl,ht,zm1 r1⟩
           | succ j=>exact a5 j v kv e1 e2
     . cases e1
noncomputable def zpK:GN
 | [.ref n],st=>(zbu st n).bind fun ds=>(znx ds).bind fun kds=>if fits kds.length=true then some (.ref st.length,st++[.dk (zfW [] kds)]) else none
 | _,_=>none
theorem zjP(hc:X.calm=true):zdt X (.type "dict") zpK:=by
 rintro pins s σ H xs us Q I r ⟨ds,st,io,d,st',R,S,e,k⟩;unfold zpK at e
 split at e
 . rename_i n;obtain⟨zs,e0,e⟩:=zae e;obtain⟨kds,e1,e⟩:=zae e;obtain⟨hf,e⟩:=zap e;cases e;obtain⟨v,rfl,p,rfl,hp⟩:=R.one;obtain⟨u,rfl,ru⟩:=r.one;cases ru;obtain⟨ys,hx,r1⟩:=za7 S hp e0;obtain⟨its,rv,pl,hz⟩:=I.list hx;obtain⟨kvV,kvs,a1,a2,a3,a4,a5⟩:=zmg I r1 e1 rv;have hzk:kvs.length<=sizeLine:=by
     rw[a4];exact of_decide_eq_true hf
   refine zf9 (I.ok.hd hc) pl a3 hzk a5 fun h' tk d' kk=>?_;have hlV:kvV.length=kvs.length:=Paired.length a2;have hm:(zeo [] kvV).length<=sizeLine:=by
     have:=zcn kvV [];rw[List.length_nil] at this;omega
   have hd:(s.heap.objs.size==sysModules)=false:=beq_eq_false_iff_ne.mpr (Ne.symm (Nat.ne_of_lt I.big));refine⟨.ref s.heap.objs.size,_,I.laid (a:=s.heap.objs.size) (o:=.dK (zeo [] kvV)) (t':=tk) kk (Nat.le_refl _) (zng hm hd (a2.merge .nil) d'),rfl,?_⟩;obtain⟨E',S'⟩:=zi7 (o:=.dK (zeo [] kvV)) (ob:=.dk (zfW [] kds)) S (I.hok.fresh (Nat.le_refl _)) fun H' T e=>⟨_,e,zjc (KR.mono T a1) .nil⟩
   exact k _ _ [s.heap.objs.size] E' S' ⟨s.heap.objs.size,rfl,by rw[<-S.len];exact getElem?_len io _⟩
 . cases e
end
end L2.MP
set_option maxHeartbeats 4000000
namespace L2.MP
open PySem PySem.Spec PyProof.Rows
noncomputable def Itw(n:Nat)(f:Nat->Option V):It:=⟨fun i _=>i < n,fun i H v H'=>H'=H/\f i=some v,fun i _=>n<=i⟩
noncomputable def zjj:List String:=["enumerate","zip","dict_itemiterator","dict_reverseitemiterator","odict_iterator","itertools.zip_longest","itertools.pairwise"]
theorem zii{P:Program}{w:World}{K:PySem.W.Frag}{tg:Expr}(it:Addr)(n:Nat)(f:Nat->Option V){R:Nat->Value->Prop}{T:Nat->Heap->Prop}(W:∀ A:Around,A.handled=none->Walks P w A it [it] [it] n R T)
   (hr:∀ i v,R i v->∃ x,f i=some x/\RelV x v) (hob:∀ i h,T i h->∃ o nm vs,h.get? it=some o/\o.cls=.type nm/\o.data=.fields vs/\zjj.contains nm=false)
   (hself:∀ (A:Around) (i:Nat) (s:Shared) (Q:Value->Shared->Prop) (E:Value->Shared->Prop),T i s.heap->Q (.ref it) s->wpAny (model P w) A (pyIter (.ref it)) Q E s) :
   Turn P w K tg (Itw n f) [it] it (fun i h=>i<=n/\T i h) where
 mem:=by simp
 obj:=fun i h st b hb=>by
   have e:b=it:=by simpa using hb
   subst e;obtain⟨o,nm,vs,e,c,d,_⟩:=hob i h st.2;exact⟨o,e,fun v z=>by rw[d] at z;cases z⟩
 keep:=fun i h h' st k=>⟨st.1,(W {} rfl).frame i h h' st.2 k⟩
 item:=by
   intro X hP hw hK hc i pins s σ H E I hf st hg;subst hP hw hK;obtain⟨f0,f1,f2,f3,f4,f5⟩:=hf it (by simp);refine (W X.A (I.ok.hd hc)).item i s _ _ hg st.2 fun v h' tk hv st' kk=>?_;obtain⟨x,hx,rx⟩:=hr i v hv;have I1:Inv X pins σ H { s with heap:=h',toks:=tk }:=I.turned (fun b o hb e=>kk b o (by simpa using hb) e) f0 f1 f3 f4 f5;obtain⟨o,nm,vs,e,c,d,hn⟩:=hob (i+1) h' st';exact⟨_,rfl,zpb (s:={ s with heap:=h',toks:=tk }) e c d hn ⟨x,H,I1,rx,⟨rfl,hx⟩,⟨hg,st'⟩,fun b hb=>(hf b hb).1⟩⟩
 done:=by
   intro X hP hw hK hc i pins s σ H E I hf st hg;subst hP hw hK;obtain⟨f0,f1,f2,f3,f4,f5⟩:=hf it (by simp);have e:i=n:=Nat.le_antisymm st.1 hg;subst e;exact (W X.A (I.ok.hd hc)).done s _ _ st.2 fun h' tk kk=>⟨rfl,I.turned (fun b o hb e=>kk b o (by simpa using hb) e) f0 f1 f3 f4 f5⟩
 self:=fun A i s Q E st h=>hself A i s Q E st.2 h
theorem zra{K:PySem.W.Frag}{H:Hp}{io:List Addr}{ds:List D}{n:Nat}{f:Nat->Option V}(hn:n=ds.length)(hf:∀ i d,ds[i]?=some d->∃ v,f i=some v/\∀ H io,Rep K H io v d):ItOk K H io ⟨ds,[]⟩ (Itw n f) where
 go:=fun i d H1 k1 s hd X1 S1 hs=>by
   have hi:i < ds.length:=(List.getElem?_eq_some_iff.mp hd).1;refine⟨by show i < n;omega,fun x H' y=>?_⟩;obtain⟨rfl,y⟩:=y;obtain⟨v,hv,rv⟩:=hf i d hd;rw[hv] at y;cases y;exact⟨Ext.refl,S1,rv _ _⟩
 stop:=fun H1 k1 s X1 S1 hs=>by show n<=ds.length;omega
 stop':=fun H1 k1 s i hi X1 S1 hs=>by
   show n<=i;have hi:ds.length<=i:=hi;omega
section
variable {X:Cx} {K:PySem.W.Frag} {H:Hp} {io:List Addr} {st st':Sto} {a b c e:Expr} {es:List Expr} {ma mb mc m:ME} {mm:MA} {mt:MT} {ms:MS} {pos:Pos} {tg:Expr} {body:List Stmt}
noncomputable def signs(z:Str):List D:=z.cps.toList.map fun c=>D.str ⟨#[c]⟩
noncomputable def znw(z:Str)(i:Nat):Option V:=z.cps[i]?.map fun c=>V.str ⟨#[c]⟩
theorem zj3{P:Program}{w:World}{A:Around}(hh:A.handled=none)(I:Addr)(x:Str)(t:Tok):Walks P w A I [I] [I] x.cps.size (SignAt x) (fun i h=>h.IsStrIter I (strIterType x) x t i):=by
 unfold strIterType
 cases x.cps.all (· < 128)
 . exact Walks.strWide hh I x t
 . exact Walks.strAscii hh I x t
theorem zlI{P:Program}{w:World}{K:PySem.W.Frag}{tg:Expr}(it:Addr)(x:Str)(t:Tok):Turn P w K tg (Itw x.cps.size (znw x)) [it] it (fun i h=>i<=x.cps.size/\h.IsStrIter it (strIterType x) x t i) :=
 zii it x.cps.size (znw x) (fun A hA=>zj3 hA it x t) (fun i v ⟨c,u,hc,hv⟩=>⟨.str ⟨#[c]⟩,by unfold znw;rw[hc];rfl,u,hv⟩)
   (fun i h ⟨o,e,c,d⟩=>⟨o,_,_,e,c,d,by unfold strIterType;split <;> decide⟩) fun A i s Q E st h=>by
     unfold strIterType at st
     split at st
     . exact wpAny_pyIter_striter_ascii st h
     . exact wpAny_pyIter_striter_wide st h
noncomputable def iStr(tl:TE):TI:=fun σ H R=>tl σ H fun x H1=>∃ z,x=.str z/\R (Itw z.cps.size (znw z)) H1
theorem zqu{l:Expr}{tl:TE}(hl:PE X l tl):PI X tg l (iStr tl):=by
 intro pins s σ H R I h;refine thn (hl pins s σ H _ I h) ?_;rintro v s1 ⟨x,H1,I1,r1,q1⟩;obtain⟨z,e,q⟩:=q1;subst e;obtain⟨t,rfl⟩:=r1;refine wpAny_pyIter_strU ?_;refine⟨s1.heap.objs.size,[s1.heap.objs.size],_,_,H1,rfl,I1.kept (t':=s1.toks) fun b o e=>Heap.get?_push_of_some _ e,zlI _ z t,⟨Nat.zero_le _,_,Heap.get?_push_size _ rfl,rfl,rfl⟩,fun b hb=>?_,q⟩;have e:b=s1.heap.objs.size:=by simpa using hb
 subst e;exact I1.fpOk (Nat.le_refl _) (I1.hok.fresh (Nat.le_refl _))
theorem signs_get{z:Str}{i:Nat}{d:D}(h:(signs z)[i]?=some d):∃ v,znw z i=some v/\∀ H io,Rep K H io v d:=by
 unfold signs at h;rw[List.getElem?_map] at h;obtain⟨c,hc,e⟩:=zah h;subst e;refine⟨.str ⟨#[c]⟩,?_,fun H io=>rfl⟩;unfold znw;rw[Array.getElem?_toList] at hc;rw[hc];rfl
theorem zkh(z:Str):z.cps.size=(signs z).length:=by unfold signs;rw[List.length_map,Array.length_toList]
noncomputable def mWS(m:ME):MI:=fun ρ st=>(m ρ st).bind fun (d,s)=>match d with
 | .str z=>some (⟨signs z,[]⟩,s)
 | _=>none
theorem zp8{l:Expr}(hl:SE X l m):SI X tg l (mWS m):=PI.imp (zqu hl) <| by
 rintro σ H R ⟨ρ,st,io,W,st',E,S,e,k⟩;obtain⟨⟨d,s1⟩,e1,e⟩:=zae e;dsimp only at e
 split at e
 . rename_i z;cases e;refine⟨ρ,st,io,_,_,E,S,e1,fun v H1 k1 X1 S1 R1=>?_⟩;exact⟨z,R1,k _ H1 k1 X1 S1 (zra (zkh z) fun i d h=>signs_get h)⟩
 . cases e
noncomputable def mWA(m:ME):MI:=fun ρ st=>(m ρ st).bind fun (d,s)=>orO (zie d s) (match d with | .str z=>some (⟨signs z,[]⟩,s) | _=>none)
theorem zcd{l:Expr}(hl:SE X l m):SI X tg l (mWA m):=by
 rintro pins s σ H R I ⟨ρ,st,io,W,st',E,S,e0,k⟩;obtain⟨⟨d,s1⟩,e1,e0⟩:=zae e0
 rcases zce e0 with e0 | e0
 . exact znY hl pins s σ H R I ⟨ρ,st,io,W,st',E,S,by unfold mW;rw[e1];exact e0,k⟩
 . exact zp8 hl pins s σ H R I ⟨ρ,st,io,W,st',E,S,by unfold mWS;rw[e1];exact e0,k⟩
end
end L2.MP
set_option maxHeartbeats 4000000
namespace L2.MP
open PySem PySem.Spec PyProof.Rows
section
variable {X:Cx} {K:PySem.W.Frag} {H:Hp} {io:List Addr} {st st':Sto} {a b c e:Expr} {es:List Expr} {ma mb mc m:ME} {mm:MA} {mt:MT} {ms:MS} {pos:Pos} {tg:Expr} {body:List Stmt}
noncomputable def mWhF(c:MT)(m:MS):Nat->MS
 | 0=>fun _ _=>none
 | n+1=>fun ρ st=>(c ρ st).bind fun (b,s)=>if b=true then (m ρ s).bind fun (f,s2)=>match f with
     | .nx ρ2=>mWhF c m n ρ2 s2
     | .ct ρ2=>mWhF c m n ρ2 s2
     | .bk ρ2=>some (.nx ρ2,s2)
     | .rt d=>some (.rt d,s2)
   else some (.nx ρ,s)
theorem zlR{n:Nat}{c:Expr}(hp:PassesOwn (model X.prog X.w) X.A X.env X.xe)(hc:SB X c mt)(hb:SSs X body ms):SS X (.While c body [] pos) (mWhF mt ms n):=PS.imp (zmf hp hc hb) fun N σ H h=>by
 obtain⟨ρ,st,io,f,st',E,S,e,w⟩:=zcX.mp h;refine⟨fun k σ2 H2=>∃ ρ2 s2 k2,Ext io k2 H H2/\StR X.K H2 (io++k2) s2/\EnvR X.K H2 (io++k2) σ2 ρ2/\mWhF mt ms k ρ2 s2=some (f,st'),⟨n,ρ,st,[],Ext.refl,S.nil,by rw[List.append_nil];exact E,e⟩,?_⟩;rintro k σ2 H2 ⟨ρ2,s2,k2,X2,S2,E2,e2⟩;have w2:Wn X.K (io++k2) H2 st' N f:=w.on X2 S2
 cases k with
 | zero=>cases e2
 | succ k =>
   obtain⟨⟨b,s3⟩,e3,e2⟩:=zae e2;refine⟨ρ2,s2,io++k2,b,s3,E2,S2,e3,fun H3 k3 X3 S3=>?_⟩;have X23:=X2.trans S2 X3;have S3':StR X.K H3 (io++(k2++k3)) s3:=by rw[<-List.append_assoc];exact S3
   dsimp only
   cases b with
   | false =>
     rw[if_neg (by decide)];have e2:some (Fl.nx ρ2,s3)=some (f,st'):=e2;cases e2;exact w2 σ2 H3 k3 X3 S3 (E2.ext S2 X3)
   | true =>
     rw[if_pos rfl];obtain⟨⟨f4,s4⟩,e4,e2⟩:=zae (show (ms ρ2 s3).bind _=some (f,st') from e2);refine⟨fun σ5 H5=>∃ ρ5 s5 k5,Ext io k5 H H5/\StR X.K H5 (io++k5) s5/\EnvR X.K H5 (io++k5) σ5 ρ5/\mWhF mt ms k ρ5 s5=some (f,st'),fun σ5 H5 h5=>⟨k,Nat.lt_succ_self k,h5⟩,?_⟩;refine zlK (E2.ext S2 X3) S3 e4 ?_;have fin:∀ {ρ7:Rho},mWhF mt ms k ρ7 s4=some (f,st')->∀ σ7 H7 k7,Ext (io++k2++k3) k7 H3 H7->StR X.K H7 (io++k2++k3++k7) s4->EnvR X.K H7 (io++k2++k3++k7) σ7 ρ7 ->
         ∃ ρ5 s5 k5,Ext io k5 H H7/\StR X.K H7 (io++k5) s5/\EnvR X.K H7 (io++k5) σ7 ρ5/\mWhF mt ms k ρ5 s5=some (f,st'):=by
       intro ρ7 e7 σ7 H7 k7 X7 S7 E7;rw[List.append_assoc io] at X7;rw[List.append_assoc io,List.append_assoc io] at S7 E7;exact⟨ρ7,s4,(k2++k3)++k7,X23.trans S3' X7,S7,E7,e7⟩
     cases f4 with
     | nx ρ7=>exact fin e2
     | ct ρ7=>exact fin e2
     | bk ρ7 =>
       cases e2;exact w2.on X3 S3
     | rt dd =>
       cases e2;exact w2.on X3 S3
noncomputable def zkM:GN
 | [.str z],st=>if fits z.cps.size=true then some (.ref st.length,st++[.lst (signs z)]) else none
 | _,_=>none
theorem ziD{z:Str}{acc:Array Value}(h:ItemsOf (SignAt z) acc z.cps.size):Vals (z.cps.toList.map fun c=>V.str ⟨#[c]⟩) acc.toList:=by
 have aux:∀ (l:List Nat) (vs:List Value),vs.length=l.length->(∀ (j:Nat) (v:Value),vs[j]?=some v->∃ (c:Nat) (u:Tok),l[j]?=some c/\v=Value.str ⟨#[c]⟩ u)->Vals (l.map fun c=>V.str ⟨#[c]⟩) vs:=by
   intro l
   induction l with
   | nil=>intro vs hl _;cases (List.eq_nil_of_length_eq_zero hl);exact .nil
   | cons c l ih =>
     intro vs hl hv
     cases vs with
     | nil=>simp at hl
     | cons v vs =>
       obtain⟨c',u,hc,rfl⟩:=hv 0 v rfl
       cases (show c=c' by simpa using hc)
       exact .cons ⟨u,rfl⟩ (ih vs (by simpa using hl) fun j v h=>by simpa using hv (j+1) v (by simpa using h))
 refine aux _ _ (by rw[Array.length_toList,h.1,Array.length_toList]) fun j v hj=>?_;obtain⟨c,u,hc,hv⟩:=h.2 j v (by rw[<-Array.getElem?_toList];exact hj);exact⟨c,u,by rw[Array.getElem?_toList];exact hc,hv⟩
theorem ziE(z:Str):Reps K H io (z.cps.toList.map fun c=>V.str ⟨#[c]⟩) (signs z):=by
 unfold signs;generalize z.cps.toList=l
 induction l with
 | nil=>exact rfl
 | cons c l ih=>exact Reps.cons rfl ih
theorem zh4(hc:X.calm=true):zdt X (.type "list") zkM:=by
 rintro pins s σ H xs us Q I r ⟨ds,st,io,d,st',R,S,e,k⟩;unfold zkM at e
 split at e
 . rename_i z;obtain⟨hf,e⟩:=zap e;cases e;obtain⟨v,rfl,rfl⟩:=R.one;obtain⟨u,rfl,ru⟩:=r.one;obtain⟨t,rfl⟩:=ru;have hz:z.cps.size<=sizeLine:=of_decide_eq_true hf;refine call_list_str (hn:=hz) (I.ok.hd hc) z t fun h' tk acc c' hk hat hacc=>?_;refine⟨.ref s.heap.objs.size,upd H s.heap.objs.size (.lst (z.cps.toList.map fun c=>V.str ⟨#[c]⟩)),I.laid (t':=tk) (fun b o q=>hk b o q) (Nat.le_refl _) ⟨by rw[List.length_map,Array.length_toList];exact hz,acc.toList,c',ziD hacc,by simpa using hat⟩,rfl,?_⟩;exact k.lst S (ziE z) (I.hok.fresh (Nat.le_refl _))
 . cases e
noncomputable def zpI:GN:=orN zq3 zkM
theorem zjN(hc:X.calm=true):zdt X (.type "list") zpI:=zds zjL (zh4 hc)
noncomputable def slK:D->Option Int->Option Int->Sto->Option (D×Sto):=fun x lo hi st=>match x with
 | .kl ds=>some (.ref st.length,st++[.lst (cutD ds lo hi)])
 | _=>none
noncomputable def slB:D->Option Int->Option Int->Sto->Option (D×Sto):=fun x lo hi st=>orO (slA x lo hi st) (slK x lo hi st)
noncomputable def mSlB(m:ME)(l h:MO):ME:=fun ρ st=>(m ρ st).bind fun (x,s1)=>(l ρ s1).bind fun (lo,s2)=>(h ρ s2).bind fun (hi,s3)=>slB x lo hi s3
theorem zdJ{lo hi:Option Expr}{ml mh:MO}{p2:Pos}(he:SE X e m)(hl:SO X lo ml)(hu:SO X hi mh):SE X (.Subscript e (.Slice lo hi none p2) pos) (mSlB m ml mh):=by
 rintro pins s σ H Q I ⟨ρ,st,io,d,st',E,S,e0,k⟩;obtain⟨⟨x,s1⟩,e1,e0⟩:=zae e0;obtain⟨⟨lo',s2⟩,e2,e0⟩:=zae e0;obtain⟨⟨hi',s3⟩,e3,e0⟩:=zae e0
 rcases zce e0 with e0 | e0
 . exact zkj he hl hu pins s σ H Q I ⟨ρ,st,io,d,st',E,S,by simp only[mSlA,e1,e2,e3,Option.bind_some];exact e0,k⟩
 . refine zgz zld he hl hu pins s σ H Q I ?_;refine⟨ρ,st,io,x,s1,E,S,e1,fun v1 H1 k1 X1 S1 R1=>⟨ρ,s1,io++k1,lo',s2,E.ext S X1,S1,e2,fun H2 k2 X2 S2=>⟨ρ,s2,(io++k1)++k2,hi',s3,(E.ext S X1).ext S1 X2,S2,e3,fun H3 k3 X3 S3=>?_⟩⟩⟩;have R3:=(R1.ext S1 X2).ext S2 X3;have k':=((k.on S1 X1).on S2 X2).on S3 X3
   cases x with
   | kl ds =>
     cases e0;obtain⟨p,xs,rfl,hx,r⟩:=R3;exact⟨p,xs,rfl,hx.sq,fun q hq=>k'.lst S3 (zjE r _ _) hq⟩
   | _=>cases e0
noncomputable def zlp:G2
 | .str i,.str j,st=>some (.bl (!(!(Builtin.Str.occurrences j i 0 j.length 1).isEmpty)),st)
 | _,_,_=>none
theorem zi0:OpM X (compareOp .NotIn) zlp:=by
 rintro pins s σ H x y v u Q I rx ry ⟨dx,dy,st,io,d,st',Rx,Ry,S,e,k⟩
 cases dx with
 | str i =>
   cases dy with
   | str j=>cases e;exact zgB pins s σ H x y v u Q I rx ry ⟨i,j,Rx,Ry,k.now S rfl⟩
   | _=>cases e
 | _=>cases e
noncomputable def zen:G2:=orG zmE zlp
theorem zg4(hu:X.A.units+100 < cLine)(ha:SE X a ma)(hb:SE X b mb)(hm:behindInMarks .NotIn b=false:=by rfl):SB X (.Compare a [.NotIn] [b] pos) (mTst (mBin zen ma mb)) :=
 zl6 (zkm hu ha hb hm) (zbN zi0 ha hb hm)
end
end L2.MP
set_option maxHeartbeats 4000000
set_option maxRecDepth 100000
namespace PySem.F
end PySem.F
set_option maxHeartbeats 4000000
set_option maxRecDepth 100000
namespace PySem
open Builtin
end PySem
namespace L2.MP
open PySem PySem.Spec PyProof.Rows
end L2.MP
set_option maxHeartbeats 4000000
namespace L2.MP
open PySem PySem.Spec PyProof.Rows
section
variable {ρ ρ1:Rho} {st s1:Sto} {m n o ma mb:ME} {mm:MA} {ms mq:MS} {mt mu:MT} {d:D} {ml mh:MO}
@[simp] theorem ztc:mWA m ρ st=(m ρ st).bind fun p=>orO (zie p.1 p.2) (match p.1 with | .str z=>some (⟨signs z,[]⟩,p.2) | _=>none):=rfl
@[simp] theorem zsO:mSlB m ml mh ρ st=(m ρ st).bind fun p=>(ml ρ p.2).bind fun q=>(mh ρ q.2).bind fun r=>slB p.1 q.1 r.1 r.2:=rfl
end
end L2.MP
set_option maxHeartbeats 4000000
namespace L2.MP
open PySem PySem.Spec PyProof.Rows
theorem zpl:bootBuiltins "sum"=some (.builtin "sum"):=by decide +kernel
theorem zeL:bootBuiltins "repr"=some (.builtin "repr"):=by decide +kernel
section
variable {X:Cx} {K:PySem.W.Frag} {H:Hp} {io:List Addr} {st st':Sto} {a b c e:Expr} {es:List Expr} {ma mb mc m:ME} {mm:MA} {pos:Pos} {pins:List (Addr×Obj)} {σ:L2.St} {s:Shared}
noncomputable def zo4:List D->Option (List Int)
 | []=>some []
 | .int i::r=>(zo4 r).map fun is=>i::is
 | _=>none
theorem zjp:∀ {ys:List V} {its:List Value} {ds:List D} {ns:List Int},Reps K H io ys ds->Vals ys its->zo4 ds=some ns->its.length=ns.length/\∀ (j:Nat) (v:Value),its[j]?=some v->∃ t,v=Value.int (ns.getD j 0) t
 | _,_,[],ns,h,r,e=>by
   cases e
   cases (show _=[] from h)
   cases r;exact⟨rfl,fun j v h=>by simp at h⟩
 | _,_,d::ds,ns,h,r,e=>by
   obtain⟨y,ys,rfl,h1,h2⟩:=h
   cases d with
   | int i =>
     obtain⟨is,e2,e⟩:=zah e;subst e
     cases r with
     | cons r1 r2 =>
       cases (show y=.int i from h1)
       obtain⟨t,rfl⟩:=r1;obtain⟨l,q⟩:=zjp h2 r2 e2;refine⟨by simp[l],fun j v hj=>?_⟩
       cases j with
       | zero=>cases hj;exact⟨t,rfl⟩
       | succ j=>simpa using q j v (by simpa using hj)
   | _=>cases e
noncomputable def zfB(i:Int):Bool:=decide (-1000000<=i)&&decide (i<=1000000)
noncomputable def sumC:GN
 | [.ref n],st=>(zbu st n).bind fun ds=>(zo4 ds).bind fun ns=>if (ns.all zfB&&decide (ns.length<=100000))=true then some (.int ns.sum,st) else none
 | _,_=>none
theorem ze5:∀ (ns:List Int) (j:Nat),j<=ns.length->preSum (fun i=>ns.getD i 0) j=(ns.take j).sum
 | ns,0,_=>by simp[preSum]
 | ns,j+1,h=>by
   have hj:j < ns.length:=h;have e1:(ns.take (j+1)).sum=(ns.take j).sum+ns[j]:=by
     rw[List.take_add_one,List.getElem?_eq_getElem hj];simp only[Option.toList_some,List.sum_append,List.sum_cons,List.sum_nil,Int.add_zero]
   rw[preSum,ze5 ns j (by omega),e1];simp only[List.getD_eq_getElem?_getD,List.getElem?_eq_getElem hj,Option.getD_some]
theorem zgW:∀ {ns:List Int},ns.all zfB=true->-1000000*(ns.length:Int)<=ns.sum/\ns.sum<=1000000*(ns.length:Int)
 | [],_=>by simp
 | i::ns,h=>by
   rw[List.all_cons,Bool.and_eq_true] at h;obtain⟨h1,h2⟩:=h;unfold zfB at h1;rw[Bool.and_eq_true] at h1;have a1:=of_decide_eq_true h1.1;have a2:=of_decide_eq_true h1.2;have ih:=zgW h2;rw[List.sum_cons,List.length_cons]
   push_cast
   omega
theorem zhw(hc:X.calm=true):zdt X (.builtin "sum") sumC:=by
 rintro pins s σ H xs us Q I r ⟨ds,st,io,d,st',R,S,e,k⟩;unfold sumC at e
 split at e
 . rename_i n;obtain⟨ts,e0,e⟩:=zae e;obtain⟨ns,e1,e⟩:=zae e;obtain⟨hf,e⟩:=zap e;cases e;rw[Bool.and_eq_true] at hf;have hall:=hf.1;have hlen:=of_decide_eq_true hf.2;obtain⟨v,rfl,p,rfl,hp⟩:=R.one;obtain⟨u,rfl,ru⟩:=r.one;cases ru;obtain⟨ys,hx,r1⟩:=za7 S hp e0;obtain⟨its,rv,pl,hz⟩:=I.list hx;obtain⟨hl,hval⟩:=zjp r1 rv e1;refine call_sum_walk (wpAny_pyIter_list pl.isList ?_);have hlt:p < s.heap.objs.size:=by
     obtain⟨o,_,e,_⟩:=pl;exact Heap.lt_size e
   refine⟨_,_,_,_,_,_,fun i=>ns.getD i 0,rfl,Walks.list (A:=X.A.in1) (I.ok.hd hc) s.heap.objs.size p (Nat.ne_of_lt hlt) its.toArray,⟨⟨_,Heap.get?_push_size _ rfl,rfl,rfl⟩,?_⟩,?_,?_,?_,fun h' tk t' hk=>?_⟩
   . obtain⟨o,nn,e,c,dd,sq⟩:=pl;exact⟨o,Heap.get?_push_of_some _ e,c,nn,sq⟩
   . intro b hb;rw[Heap.size_push];simp at hb
     rcases hb with hb | hb
     . rw[hb];exact Nat.lt_succ_self _
     . rw[hb];exact Nat.lt_succ_of_lt hlt
   . intro i v hv;exact hval i v (by simpa using hv)
   . intro j hj;have hj:j < ns.length:=by simpa[hl] using hj
     have b1:zfB (ns.getD j 0)=true:=by
       rw[List.getD_eq_getElem?_getD,List.getElem?_eq_getElem hj];exact List.all_eq_true.mp hall _ (List.getElem_mem hj)
     have b2:(ns.take (j+1)).all zfB=true:=List.all_eq_true.mpr fun x hx=>List.all_eq_true.mp hall x (List.mem_of_mem_take hx);have b3:=zgW b2;rw[ze5 ns (j+1) hj];unfold zfB at b1;rw[Bool.and_eq_true] at b1;have a1:=of_decide_eq_true b1.1;have a2:=of_decide_eq_true b1.2;have hl2:(ns.take (j+1)).length<=100000:=by rw[List.length_take];omega
     unfold InLong;dsimp only;omega
   . refine⟨.int _,H,I.kept (t':=tk) fun b o q=>hk b o ?_ (Heap.get?_push_of_some _ q),⟨t',rfl⟩,?_⟩
     . simp;exact Nat.ne_of_lt (Heap.lt_size q)
     . have e2:preSum (fun i=>ns.getD i 0) its.toArray.size=ns.sum:=by
         rw[List.size_toArray,hl,ze5 ns ns.length (Nat.le_refl _),List.take_length]
       rw[e2];exact k.now S rfl
 . cases e
noncomputable def ziO:GN
 | [x],st=>(toP 100 st x).bind fun p=>if (PyData.showable p&&!p.hasDict&&fits p.shown.length)=true then some (.str p.shown,st) else none
 | _,_=>none
theorem zcc(hg:X.A.guards=some [])(hu:X.A.units+110 < cLine):zdt X (.builtin "repr") ziO:=by
 rintro pins s σ H xs us Q I r ⟨ds,st,io,d,st',R,S,e,k⟩;unfold ziO at e
 split at e
 . rename_i x;obtain⟨p,e1,e⟩:=zae e;obtain⟨hf,e⟩:=zap e;cases e;rw[Bool.and_eq_true,Bool.and_eq_true] at hf;obtain⟨⟨h1,h2⟩,h3⟩:=hf;have hz:p.shown.length<=sizeLine:=of_decide_eq_true h3;have hnd:p.hasDict=false:=by simpa using h2
   obtain⟨v,rfl,rx⟩:=R.one;obtain⟨u,rfl,ru⟩:=r.one;have hdep:=(zdO e1).2;obtain⟨as,rd⟩:=zbQ I S rx ru e1;have fin:∀ h' u tk,(∀ b o,s.heap.get? b=some o->h'.get? b=some o)->EP X pins σ Q (.str p.shown u) { s with heap:=h',toks:=tk }:=fun h' u tk hk=>⟨.str p.shown,H,I.kept (t':=tk) fun b o q=>hk b o q,⟨u,rfl⟩,k.now S rfl⟩
   cases u with
   | ref a=>exact repr_of_reads' rd h1 (fun z=>by rw[hnd] at z;cases z) hg (by omega) (fun b o q=>q) fin hz
   | int i t =>
     cases rd;exact PySem.P.repr_of_int (by simpa[PyData.showable] using h1) (fin s.heap s.toks _ fun b o q=>q)
   | str z t =>
     cases rd;exact PySem.P.repr_of_str (fin s.heap s.toks _ fun b o q=>q) (by simpa[PyData.shown] using hz)
   | bool b =>
     cases rd;exact PySem.P.repr_of_bool (fin s.heap s.toks _ fun b o q=>q)
   | none =>
     cases rd;exact PySem.P.repr_of_none (fin s.heap s.toks _ fun b o q=>q)
   | _=>cases rd
 . cases e
end
end L2.MP
set_option maxHeartbeats 4000000
namespace L2.MP
open PySem PySem.Spec PyProof.Rows
section
variable {prog:Program} {w:World} {A:Around} {E:Value->Shared->Prop} {s:Shared}
theorem zhq{d:Addr}{o:Obj}{es:Array DictEntry}{ep:Nat}{R:Value->Shared->Prop}(ty:s.TypeIs (.ref d) "dict")(hd:(d==sysModules)=false)(g:s.heap.get? d=some o)(dd:o.data=.dict es ep)
   (k:R (.ref s.heap.objs.size) { s with heap:=s.heap.push { cls:=.type "dict_keyiterator",data:=.fields #[.ref d,.int 0 0,.int es.size 0,.int ep 0] } }):wpAny (model prog w) A (pyIter (.ref d)) R E s:=by
 refine wpAny_pyIter_slot ty F.slot_dict_iter (wpAny_call_entry F.slot_dict_iter ty F.entry_dict_iter ?go (F.args_dict_iter_1 _));unfold Builtin.«dict.__iter__»;refine wpAny_bind ?_;unfold Builtin.Dict.dictSlotNone;refine wpAny_bind (wpAny_notOrdered_dict ty ?_);show wpAny _ _ (pure (Value.ref d)) _ _ s;refine wpAny_pure ?_;show wpAny _ _ (Builtin.Dict.showsAll d >>= _) _ _ s;unfold Builtin.Dict.showsAll;rw[if_neg (by rw[hd];exact Bool.false_ne_true)];refine wpAny_bind (wpAny_pure (wpAny_bind (wpAny_dictEntries g dd (wpAny_bind (wpAny_dictEpoch g dd ?_)))));refine wpAny_bind (wpAny_newObj_type (wpAny_pure ⟨_,rfl,"dict_keyiterator",_,⟨_,Heap.get?_push_size _ rfl,rfl⟩,F.slot_dict_keyiterator_next.lookup,?_⟩));simpa[rawInt] using k
theorem zho{it d:Addr}{i ep:Nat}{o:Obj}{es:Array DictEntry}{en:DictEntry}{R:Option Value->Shared->Prop}(hit:s.heap.IsKeyIter it d i es.size ep)(g:s.heap.get? d=some o)(dd:o.data=.dict es ep)(hx:es[i]?=some en)
   (k:∀ h',h'.IsKeyIter it d (i+1) es.size ep->Heap.SameBut it s.heap h'->R (some en.key) { s with heap:=h' }):wpAny (model prog w) A (pyNext (.ref it)) R E s:=by
 obtain⟨io,ig,ic,idt⟩:=id hit;have own:Builtin.Dict_items.ownsTuple "dict_keyiterator"=false:=by decide
 unfold pyNext;refine wpAny_bind (wpAny_attempt (wpAny_callSpecial?_slot (name:=Str.ofString "__next__") hit.typeIs F.slot_dict_keyiterator_next (wpAny_call_entry F.slot_dict_keyiterator_next hit.typeIs F.entry_dict_keyiterator_next ?_ (F.args_dict_keyiterator_next_1 _))));refine wpAny_bind (wpAny_pure (wpAny_bind (wpAny_bind ?_)));refine wpAny_bind (wpAny_typeNameOfWhole_keyiter hit.typeIs (wpAny_pure (wpAny_bind (wpAny_fieldsOf ig idt ?_))));simp only[own,Bool.false_eq_true,if_false];show wpAny _ _ (if (Value.ref d==Value.none)=true then _ else _) _ _ s;rw[if_neg (show ¬ (Value.ref d==Value.none)=true from fun z=>Bool.false_ne_true z)];refine wpAny_bind (wpAny_pure (wpAny_bind (wpAny_dictEntries g dd ?_)));rw[if_neg (by simp)];refine wpAny_bind (wpAny_pure (wpAny_bind (wpAny_dictEpoch g dd ?_)));rw[if_neg (by simp)];refine wpAny_pure ?_;have ni:¬ ((i:Int) < 0):=by omega
 simp only[ni,if_false,Int.toNat_natCast,hx];refine wpAny_bind (wpAny_bind (wpAny_typeNameOfWhole_keyiter hit.typeIs (wpAny_pure (wpAny_bind (wpAny_isOneOf_keyiter hit.typeIs ?_)))));show wpAny _ _ (setField (.ref it) 1 (rawInt ((i:Int)+1)) >>= _) _ _ s;refine wpAny_bind (wpAny_setField ig idt (by simp) ?_);have h2:(s.heap.update it (Obj.mapFields (·.setIfInBounds 1 (rawInt ((i:Int)+1))))).IsKeyIter it d (i+1) es.size ep:=⟨_,Heap.get?_update_self _ ig (Obj.isFreed_of_fields (Obj.data_mapFields idt _)),(Obj.cls_mapFields ..).trans ic,by rw[Obj.data_mapFields idt];simp[rawInt]⟩
 refine wpAny_bind (wpAny_holding (wpAny_bind (wpAny_isOneOf_keyiter (s:={ s with heap:=s.heap.update it (Obj.mapFields (·.setIfInBounds 1 (rawInt ((i:Int)+1)))) }) h2.typeIs ?_)));show wpAny _ _ (pure en.key) _ _ _;exact wpAny_pure (wpAny_pure ⟨_,rfl,wpAny_pure (k _ h2 (Heap.SameBut.update ..))⟩)
theorem zhn{it d:Addr}{i ep:Nat}{o:Obj}{es:Array DictEntry}{R:Option Value->Shared->Prop}(hh:A.handled=none)(hit:s.heap.IsKeyIter it d i es.size ep)(g:s.heap.get? d=some o)(dd:o.data=.dict es ep)(hx:es[i]?=none)
   (k:∀ h',Heap.ExtBut it s.heap h'->R none { s with heap:=h' }):wpAny (model prog w) A (pyNext (.ref it)) R E s:=by
 obtain⟨io,ig,ic,idt⟩:=id hit;have own:Builtin.Dict_items.ownsTuple "dict_keyiterator"=false:=by decide
 unfold pyNext;refine wpAny_bind (wpAny_attempt (wpAny_callSpecial?_slot (name:=Str.ofString "__next__") hit.typeIs F.slot_dict_keyiterator_next (wpAny_call_entry F.slot_dict_keyiterator_next hit.typeIs F.entry_dict_keyiterator_next ?_ (F.args_dict_keyiterator_next_1 _))));refine wpAny_bind (wpAny_pure (wpAny_bind (wpAny_bind ?_)));refine wpAny_bind (wpAny_typeNameOfWhole_keyiter hit.typeIs (wpAny_pure (wpAny_bind (wpAny_fieldsOf ig idt ?_))));simp only[own,Bool.false_eq_true,if_false];show wpAny _ _ (if (Value.ref d==Value.none)=true then _ else _) _ _ s;rw[if_neg (show ¬ (Value.ref d==Value.none)=true from fun z=>Bool.false_ne_true z)];refine wpAny_bind (wpAny_pure (wpAny_bind (wpAny_dictEntries g dd ?_)));rw[if_neg (by simp)];refine wpAny_bind (wpAny_pure (wpAny_bind (wpAny_dictEpoch g dd ?_)));rw[if_neg (by simp)];refine wpAny_pure ?_;have ni:¬ ((i:Int) < 0):=by omega
 simp only[ni,if_false,Int.toNat_natCast,hx];refine wpAny_bind (wpAny_bind (wpAny_typeNameOfWhole_keyiter hit.typeIs (wpAny_pure ?_)));show wpAny _ _ (setField (.ref it) 0 .none >>= _) _ _ s;refine wpAny_bind (wpAny_setField ig idt (by simp) ?_);show wpAny _ _ (newExc (.type "StopIteration") [] >>= _) _ _ _;simp only[newExc,newTuple];refine wpAny_bind (wpAny_bind (wpAny_newObj_type (wpAny_bind (m:=firstArgMember _ _) (wpAny_of_eq (a:=Value.none) (by first | rfl | (simp only[firstArgMember];rfl)) (wpAny_newObj_type ?_ (by size_fits)))) (by size_fits)));simp only[raiseNew];refine wpAny_bind (wpAny_handled ?_);rw[show A.in1.handled=none from hh];refine wpAny_bind (wpAny_pure (wpAny_throw ?_));refine wpAny_bind (wpAny_isInstance (T:="StopIteration") (b:=true) ⟨_,Heap.get?_push_size _ rfl,rfl⟩ isSubtype_stop (wpAny_pure ?_));exact k _ (((Heap.SameBut.update ..).extBut.push _).push _)
end
noncomputable def Itk(o:Obj)(d:Addr):It :=
 ⟨fun i H=>∃ ps p,H d=some (.frz o (.dT ps))/\ps[i]?=some p,fun i H x H'=>∃ b ps k v,H'=H/\x=.ref b/\H d=some (.frz o (.dT ps))/\ps[i]?=some (k,v)/\H b=some (.tup (k.map kV)),
   fun i H=>∃ ps,H d=some (.frz o (.dT ps))/\ps.length<=i⟩
theorem zj6{P:Program}{w:World}{K:PySem.W.Frag}{tg:Expr}{o:Obj}{es:Array DictEntry}{ep:Nat}(d it:Addr)(dd:o.data=.dict es ep) :
   Turn P w K tg (Itk o d) [it] it (fun i h=>h.IsKeyIter it d i es.size ep) where
 mem:=by simp
 obj:=fun i h st b hb=>by
   obtain⟨ob,e,c,dt⟩:=st;rw[List.mem_singleton.mp hb];exact⟨_,e,fun v z=>by rw[dt] at z;cases z⟩
 keep:=fun i h h' st k=>st.at fun ob e=>k it (by simp) ob e
 item:=by
   intro X hP hw hK hc i pins s σ H E I hf st hg;subst hP hw hK;obtain⟨ps,⟨k,v⟩,hq,hx⟩:=hg;obtain⟨g,hl,ent⟩:=zfr (I.hok d _ hq) dd;obtain⟨en,b,he,hkey,hb,hv⟩:=ent i k v hx;obtain⟨f0,f1,f2,f3,f4,f5⟩:=hf it (by simp);refine zho st g dd he fun h' st' sb=>?_;have I1:Inv X pins σ H { s with heap:=h' }:=I.turned (t':=s.toks) (fun b o hb e=>(sb.2 b hb).trans e) f0 f1 f3 f4 f5;obtain⟨ob,e,c,dt⟩:=id st';exact⟨en.key,rfl,zpb (s:={ s with heap:=h' }) e c dt (by decide) ⟨.ref b,H,I1,by rw[hkey];rfl,⟨b,ps,k,v,rfl,rfl,hq,hx,hb⟩,st',fun b hb=>(hf b hb).1⟩⟩
 done:=by
   intro X hP hw hK hc i pins s σ H E I hf st hg;subst hP hw hK;obtain⟨ps,hq,hx⟩:=hg;obtain⟨g,hl,_⟩:=zfr (I.hok d _ hq) dd;obtain⟨f0,f1,f2,f3,f4,f5⟩:=hf it (by simp);exact zhn (I.ok.hd hc) st g dd (by simp;omega) fun h' eb=>⟨rfl,I.turned (t':=s.toks) (fun b o hb e=>eb b o hb e) f0 f1 f3 f4 f5⟩
 self:=fun _ _ _ _ _ st h=>wpAny_pyIter_keyiter st h
section
variable {X:Cx} {K:PySem.W.Frag} {H:Hp} {io:List Addr} {m:ME} {st st':Sto} {tg:Expr}
noncomputable def zcU(kvs:List (List Key×D)):List D:=kvs.map fun p=>.tup (p.1.map keyD)
noncomputable def znv:D->Sto->Option (Wk×Sto)
 | .ref n,s=>match s[n]? with
   | some (.dt kvs)=>some (⟨zcU kvs,[]⟩,s.set n (.ft kvs))
   | _=>none
 | _,_=>none
theorem zre{n:Nat}{p:Addr}{o:Obj}{ps:List (List Key×V)}{kvs:List (List Key×D)}(S:StR K H io st)(hn:io[n]?=some p)(hp:H p=some (.frz o (.dT ps)))(r:KR (List Key) K H io ps kvs):ItOk K H io ⟨zcU kvs,[]⟩ (Itk o p) where
 go := fun i d H1 k1 s hd X1 S1 hs=>by
   have h1:=X1.frz _ _ _ hp;have hd:(zcU kvs)[i]?=some d:=hd;unfold zcU at hd;rw[List.getElem?_map] at hd;obtain⟨⟨k,y⟩,hk,rfl⟩:=zah hd;have get:∀ {l:List (List Key×V)} {m:List (List Key×D)} {i:Nat},KR (List Key) K H io l m->m[i]?=some (k,y)->∃ v,l[i]?=some (k,v):=by
     intro l m i q
     induction q generalizing i with
     | nil=>intro e;simp at e
     | @cons a b _ _ h t ih =>
       cases i with
       | zero =>
         intro e;simp at e;subst e;obtain⟨a1,a2⟩:=a;have z:a1=k:=h.1;subst z;exact⟨a2,rfl⟩
       | succ j=>intro e;exact ih (by simpa using e)
   obtain⟨v,hv⟩:=get r hk;refine⟨⟨ps,_,h1,hv⟩,fun x H' y'=>?_⟩;obtain⟨b,ps',k',v',rfl,rfl,h1',hv',hb⟩:=y';rw[h1] at h1';cases h1';rw[hv] at hv';cases hv';exact⟨Ext.refl,S1,⟨b,_,rfl,hb,zfo k⟩⟩
 stop:=fun H1 k1 s X1 S1 hs=>⟨ps,X1.frz _ _ _ hp,by show ps.length<=(zcU kvs).length;unfold zcU;rw[List.length_map,KR.length r];exact Nat.le_refl _⟩
 stop':=fun H1 k1 s i hi X1 S1 hs=>⟨ps,X1.frz _ _ _ hp,by have hi:(zcU kvs).length<=i:=hi;unfold zcU at hi;rw[List.length_map,<-KR.length r] at hi;exact hi⟩
noncomputable def mWK(m:ME):MI:=fun ρ st=>(m ρ st).bind fun (d,s)=>znv d s
theorem zle{o:Expr}(ho:SE X o m):SI X tg o (mWK m):=by
 rintro pins s σ H R I ⟨ρ,st,io,W,st',E,S,e,k⟩;obtain⟨⟨d,s1⟩,e1,e⟩:=zae e
 cases d with
 | ref n =>
   unfold znv at e;dsimp only at e
   split at e
   . rename_i kvs en;cases e;refine thn (ho pins s σ H (fun v H'=>∃ ka,Ext io ka H H'/\StR X.K H' (io++ka) s1/\Rep X.K H' (io++ka) v (.ref n)) I ⟨ρ,st,io,_,s1,E,S,e1,fun v1 H1 k1 X1 S1 R1=>⟨k1,X1,S1,R1⟩⟩) ?_;rintro v s2 ⟨x,H1,I1,r1,k1,X1,S1,R1⟩;obtain⟨p,rfl,hp⟩:=R1;cases r1;obtain⟨ps,hH,r⟩:=S1.ob n p _ hp en;obtain⟨t1,t2,hs⟩:=zjo I1 (.inr ⟨ps,.inl hH⟩);obtain⟨_,_,xs,_,o,es,ep,g,_,dd,_,_⟩:=I1.hok p _ hH;refine zhq (o:=o) (es:=es) (ep:=ep) t1 hs g dd ?_;have J:=I1.kept (t':=s2.toks) (h':=s2.heap.push { cls:=.type "dict_keyiterator",data:=.fields #[.ref p,.int 0 0,.int es.size 0,.int ep 0] }) fun b u q=>Heap.get?_push_of_some _ q;have J2:=Inv.freeze J hH (Heap.get?_push_of_some _ g) (by simp) (by simp) (by simp) (by simp);obtain⟨X2,S2⟩:=zfK (o:=.frz o (.dT ps)) (ob:=.ft kvs) S1 hp en (fun o u z=>by rw[hH] at z;cases z) fun H' T e'=>⟨o,ps,e',KR.mono T r⟩
     refine⟨_,[_],_,_,_,rfl,J2,zj6 p _ dd,⟨_,Heap.get?_push_size _ rfl,rfl,rfl⟩,fun b hb=>?_,?_⟩
     . rw[List.mem_singleton.mp hb];refine I1.fpOk (Nat.le_refl _) ?_;rw[zav (Ne.symm (Nat.ne_of_lt (Heap.lt_size g)))];exact I1.hok.fresh (Nat.le_refl _)
     . have hn':((io++k1)++[])[n]?=some p:=by rw[List.append_nil];exact hp
       have r2:=KR.mono (ka:=[]) (X2.kp S1) r;have ok:=zre S2 hn' zbs r2;refine k _ _ (k1++[]) (X1.trans S1 X2) (by rw[<-List.append_assoc];exact S2) (by rw[<-List.append_assoc];exact ok)
   . cases e
 | _=>cases e
noncomputable def zmV(st:Sto)(n:Nat)(k:D):Option (Option D):=match st[n]? with
 | some (.ft kvs)=>match k with
   | .tup ds=>(keysOf ds).map fun q=>valD kvs q
   | _=>none
 | _=>none
theorem zhk{n:Nat}{p:Addr}{k:D}{y:V}{r:Option D}(S:StR K H io st)(hp:io[n]?=some p)(ry:Rep K H io y k)(h:zmV st n k=some r):∃ o,DGet H p y o/\((r=none/\o=none)\/∃ d v,r=some d/\o=some v/\Rep K H io v d):=by
 unfold zmV at h
 split at h
 . rename_i kvs e
   split at h
   . rename_i ds;obtain⟨q,e1,h⟩:=zah h;subst h;obtain⟨ob,ps,hH,r⟩:=S.ob n p _ hp e;obtain⟨b,xs,rfl,hb,rs⟩:=ry;have ex:=zcb rs e1;subst ex;refine⟨_,.inr ⟨ps,q,b,.inr ⟨ob,hH⟩,rfl,hb,rfl⟩,?_⟩
     rcases KR.val r q with ⟨h1,h2⟩ | ⟨d,v,h1,h2,h3⟩
     . exact .inl ⟨h1,h2⟩
     . exact .inr ⟨d,v,h1,h2,h3⟩
   . cases h
 . cases h
end
end L2.MP
set_option maxHeartbeats 4000000
namespace L2.MP
open PySem PySem.Spec PyProof.Rows
section
variable {prog:Program} {w:World} {A:Around} {E:Value->Shared->Prop} {s:Shared}
theorem zh8{sl:Addr}{t:Tok}{n:Nat}{Q:Int×Int×Nat->Shared->Prop}(hs:s.heap.IsSliceOf sl .none .none (.int (-1) t))(h:Q ((n:Int) - 1,-1,n) s):wpAny (model prog w) A (Builtin.Slice.sliceApplied (.ref sl) (pure (n:Int))) Q E s:=by
 obtain⟨os,hos,hcs,hds⟩:=id hs;unfold Builtin.Slice.sliceApplied Builtin.Slice.sliceFields;refine wpAny_bind (wpAny_bind (wpAny_field hos hds (x:=.none) rfl (wpAny_bind (wpAny_field hos hds (x:=.none) rfl (wpAny_bind (wpAny_field hos hds (x:=.int (-1) t) rfl (wpAny_pure ?_)))))));refine wpAny_bind (HT.slicePart_ (.int (-1) t) ?_);show wpAny _ _ (if ((-1:Int)==0)=true then _ else _) _ _ s;rw[if_neg (by decide)];refine wpAny_bind (HT.slicePart_ .none (wpAny_bind (HT.slicePart_ .none (wpAny_bind (wpAny_pure ?_)))));have e1:Builtin.Slice.sliceAdjust none none (-1) (n:Int)=((n:Int) - 1,-1):=by
   unfold Builtin.Slice.sliceAdjust;simp
 have e2:Builtin.Slice.slicePlaces ((n:Int) - 1) (-1) (-1)=n:=by
   unfold Builtin.Slice.slicePlaces;have h1:¬ ((-1:Int) > 0):=by decide
   simp only[h1,if_false]
   by_cases hn:(-1:Int) < (n:Int) - 1
   . simp[hn]
   . simp[hn];omega
 show wpAny _ _ (match Builtin.Slice.sliceAdjust none none (-1) (n:Int) with | (lo,hi)=>pure (lo,(-1:Int),Builtin.Slice.slicePlaces lo hi (-1))) _ _ s;rw[e1];show wpAny _ _ (pure ((n:Int) - 1,(-1:Int),Builtin.Slice.slicePlaces ((n:Int) - 1) (-1) (-1))) _ _ s;rw[e2];exact wpAny_pure h
theorem zjz{α β:Type}{f g:α->Option β}:∀ {l:List α},(∀ x∈l,f x=g x)->l.filterMap f=l.filterMap g
 | [],_=>rfl
 | a::l,h=>by
   rw[List.filterMap_cons,List.filterMap_cons,h a List.mem_cons_self,zjz fun x hx=>h x (List.mem_cons_of_mem _ hx)]
theorem zmk(xs:Array Value):((List.range xs.size).filterMap fun (m:Nat)=>xs[(((xs.size:Int) - 1)+(m:Int)*-1).toNat]?).toArray=xs.toList.reverse.toArray:=by
 congr 1
 have e:∀ m∈List.range xs.size,xs[(((xs.size:Int) - 1)+(m:Int)*-1).toNat]?=xs[xs.size - 1 - m]?:=fun m hm=>by
   have:=List.mem_range.mp hm;have:(((xs.size:Int) - 1)+(m:Int)*-1).toNat=xs.size - 1 - m:=by omega
   rw[this]
 rw[zjz e];have h2:(List.range xs.size).filterMap (fun m=>xs[xs.size - 1 - m]?)=((List.range xs.size).map fun k=>xs.size - 1 - k).filterMap (xs[·]?):=by
   rw[List.filterMap_map];rfl
 rw[h2,PySem.W.krv_range,List.filterMap_reverse,PySem.W.krv_all]
theorem zdG{t sl:Addr}{items:Array Value}{tk:Tok}{Q:Value->Shared->Prop}(ht:IsTup s.heap t items)(hs:s.heap.IsSliceOf sl .none .none (.int (-1) tk))
   (h:Q (.ref s.heap.objs.size) { s with heap:=s.heap.push { cls:=.type "tuple",data:=.seq items.toList.reverse.toArray } }) (hsz:items.size<=sizeLine):wpAny (model prog w) A (getItem (.ref t) (.ref sl)) Q E s:=by
 have htake:sizeOk (.seq items.toList.reverse.toArray):=by
   show items.toList.reverse.toArray.size<=sizeLine;rw[List.size_toArray,List.length_reverse,Array.length_toList];exact hsz
 obtain⟨os,hos,hcs,hds⟩:=id hs;have hTs:s.TypeIs (.ref sl) "slice":=⟨os,hos,hcs⟩
 unfold getItem
 try with_reducible refine wpAny_holding ?_
 first | refine wpAny_bind (wpAny_pure ?_) | skip
 refine wpAny_bind (wpAny_sequenceKey ht.typeIs (by decide) ?_);refine wpAny_bind (wpAny_callSpecial?_slot (name:=Str.ofString "__getitem__") ht.typeIs PyProof.Rows.slot_tuple_getitem (wpAny_call_entry PyProof.Rows.slot_tuple_getitem ht.typeIs entry_tuple_getitem ?_ (args_tuple_getitem _ _)));show wpAny _ _ (Builtin.Tuple.tupleItemsOf (.ref t) >>= _) _ _ s;refine wpAny_bind (tupleItemsOf_ ht ?_);refine wpAny_bind (wpAny_typeOf hTs ?_);rw[if_pos (by decide)];refine wpAny_bind (zh8 hs ?_);have hno:¬ ((((items.size:Int) - 1)==0&&(-1:Int)==1&&items.size==items.size)=true):=by
   intro q;rw[Bool.and_eq_true,Bool.and_eq_true] at q;exact absurd q.1.2 (by decide)
 show wpAny _ _ (if (((items.size:Int) - 1)==0&&(-1:Int)==1&&items.size==items.size)=true then _ else _) _ _ s;rw[if_neg hno,zmk]
 first
   | exact wpAny_bind (m:=Builtin.Tuple.tupleExact _) (wpAny_newObj_type (wpAny_pure ⟨_,rfl,wpAny_pure h⟩) htake)
   | exact wpAny_bind (m:=Builtin.Tuple.tupleExact _) (wpAny_newObj_type (wpAny_bind (wpAny_pure (wpAny_pure ⟨_,rfl,wpAny_pure h⟩))) htake)
   | exact wpAny_bind (wpAny_bind (m:=Builtin.Tuple.tupleExact _) (wpAny_newObj_type (wpAny_pure (wpAny_pure ⟨_,rfl,wpAny_pure h⟩)) htake))
   | exact wpAny_bind (wpAny_bind (m:=Builtin.Tuple.tupleExact _) (wpAny_newObj_type (wpAny_pure ⟨_,rfl,wpAny_pure h⟩) htake))
end
section
variable {X:Cx} {K:PySem.W.Frag} {H:Hp} {io:List Addr} {st st':Sto} {a b c e:Expr} {es:List Expr} {ma mb mc m mk:ME} {mm:MA} {pos:Pos} {pins:List (Addr×Obj)} {σ:L2.St} {s:Shared}
noncomputable def zpG(st:Sto)(n:Nat)(k:D):Option (Option D):=orO (look st n k) (zmV st n k)
theorem zkL{n:Nat}{p:Addr}{k:D}{y:V}{r:Option D}(S:StR K H io st)(hp:io[n]?=some p)(ry:Rep K H io y k)(h:zpG st n k=some r):∃ o,DGet H p y o/\((r=none/\o=none)\/∃ d v,r=some d/\o=some v/\Rep K H io v d):=by
 rcases zce h with h | h
 . exact zgH S hp ry h
 . exact zhk S hp ry h
noncomputable def zm2(st:Sto)(n:Nat):Bool:=match st[n]? with
 | some (.dk _)=>true
 | some (.dt _)=>true
 | some (.fk _)=>true
 | some (.ft _)=>true
 | _=>false
theorem zjn{n:Nat}{p:Addr}(S:StR K H io st)(hp:io[n]?=some p)(h:zm2 st n=true):IsD H p:=by
 unfold zm2 at h
 split at h
 . rename_i kvs e;obtain⟨ps,q,_⟩:=S.ob n p _ hp e;exact .inl ⟨ps,.inl q⟩
 . rename_i kvs e;obtain⟨ps,q,_⟩:=S.ob n p _ hp e;exact .inr ⟨ps,.inl q⟩
 . rename_i kvs e;obtain⟨o,ps,q,_⟩:=S.ob n p _ hp e;exact .inl ⟨ps,.inr ⟨o,q⟩⟩
 . rename_i kvs e;obtain⟨o,ps,q,_⟩:=S.ob n p _ hp e;exact .inr ⟨ps,.inr ⟨o,q⟩⟩
 . cases h
noncomputable def zmS(md mk:ME):ME:=fun ρ st=>(md ρ st).bind fun (d,s1)=>match d with
 | .ref n=>if zm2 s1 n=true then (mk ρ s1).bind fun (k,s2)=>(zpG s2 n k).map fun r=>(r.getD .non,s2) else none
 | _=>none
theorem zn6{o:Expr}{md:ME}{apos cpos:Pos}(hu:X.A.units+1 < cLine)(ho:SE X o md)(he:SE X e mk)(mm:M1 X o "get" apos e cpos:=by exact⟨rfl,rfl,rfl,rfl⟩):SE X (.Call (.Attribute o "get" apos) [e] [] cpos) (zmS md mk) :=
 PE.imp (zmt hu ho he mm) <| by
   rintro σ H Q ⟨ρ,st,io,d,st',E,S,e,k⟩;obtain⟨⟨x,s1⟩,e1,e⟩:=zae e
   cases x with
   | ref n =>
     obtain⟨hd,e⟩:=zap e;obtain⟨⟨y,s2⟩,e2,e⟩:=zae e;obtain⟨r,e3,e⟩:=zah e;cases e;refine⟨ρ,st,io,_,s1,E,S,e1,fun v1 H1 k1 X1 S1 R1=>?_⟩;obtain⟨p,rfl,hp⟩:=R1;refine⟨p,rfl,zjn S1 hp hd,ρ,s1,io++k1,y,_,E.ext S X1,S1,e2,fun v2 H2 k2 X2 S2 R2=>?_⟩;obtain⟨o,g,z⟩:=zkL S2 (zbl hp) R2 e3;refine⟨o,g,?_⟩
     rcases z with ⟨rfl,rfl⟩ | ⟨d',v,rfl,rfl,rv⟩
     . exact ((k.on S1 X1).on S2 X2).now S2 rfl
     . exact ((k.on S1 X1).on S2 X2).now S2 rv
   | _=>cases e
noncomputable def zkY:G2:=fun d k st=>match d with
 | .ref n=>(zmV st n k).bind fun r=>r.map fun v=>(v,st)
 | _=>none
theorem ziI{o i:Expr}{md mk:ME}(hu:X.A.units+1 < cLine)(ho:SE X o md)(hi:SE X i mk)(hs:NoSl i:=by intro _ _;rfl):SE X (.Subscript o i pos) (mBin zkY md mk):=PE.imp (zlm hu ho hi hs) <| by
 rintro σ H Q ⟨ρ,st,io,d,st',E,S,e,k⟩;obtain⟨⟨x,s1⟩,e1,e⟩:=zae e;obtain⟨⟨y,s2⟩,e2,e⟩:=zae e
 cases x with
 | ref n =>
   obtain⟨r,e3,e⟩:=zae (show (zmV s2 n y).bind _=some (d,st') from e);obtain⟨w,e4,e⟩:=zah e;cases e;subst e4;refine⟨ρ,st,io,_,s1,E,S,e1,fun v1 H1 k1 X1 S1 R1=>⟨ρ,s1,io++k1,y,_,E.ext S X1,S1,e2,fun v2 H2 k2 X2 S2 R2=>?_⟩⟩;obtain⟨p,rfl,hp⟩:=R1;obtain⟨o,g,⟨z,_⟩ | ⟨d',v,hd,hv,rv⟩⟩:=zhk S2 (zbl hp) R2 e3
   . cases z
   . cases hd;subst hv;exact⟨p,v,rfl,g,((k.on S1 X1).on S2 X2).now S2 rv⟩
 | _=>cases e
noncomputable def zr2(K:PySem.W.Frag)(te:TE)(ts:TO):TE:=fun σ H Q=>te σ H fun x H1=>ts σ H1 fun k H2=>k=some (-1)/\∃ a xs,x=.ref a/\H2 a=some (.tup xs)/\∀ p,H2 p=none->Q (.ref p) (upd H2 p (.tup xs.reverse))
theorem zop{te:TE}{ts:TO}{p2:Pos}{se:Expr}(he:PE X e te)(hs:PO X (some se) ts):PE X (.Subscript e (.Slice none none (some se) p2) pos) (zr2 X.K te ts):=by
 intro pins s σ H Q I h;refine Subscript_ (thn (he pins s σ H _ I h) ?_);rintro v s1 ⟨x,H1,I1,r1,q1⟩;refine wpAny_Slice ?_;rw[evalPart_none];refine wpAny_pure (wpAny_pure ?_);refine thn (hs pins s1 σ H1 _ I1 q1) ?_;rintro vs s3 ⟨k,H3,I3,pk,hk,a,xs,hx,hq,q3⟩;subst hk;subst hx;cases r1;have I4:Inv X pins σ H3 { s3 with heap:=s3.heap.push { cls:=.type "slice",data:=.fields #[.none,.none,vs] } }:=I3.kept (t':=s3.toks) fun b ob q=>Heap.get?_push_of_some _ q;obtain⟨its,r,ht,hz⟩:=I4.tuple (SqT.of (K:=X.K) hq);have hlen:=r.length;show wpAny (model X.prog X.w) X.A (subscriptTail e (.Slice none none (some se) p2) (.ref a) (.ref s3.heap.objs.size)) (EP X pins σ Q) X.xe { s3 with heap:=s3.heap.push { cls:=.type "slice",data:=.fields #[.none,.none,vs] } }
 cases pk with
 | int i ti =>
 refine tail_any (ops:=[.ref a,.ref s3.heap.objs.size]) ht.typeIs PyProof.Rows.slot_tuple_getitem.lookup ?_ (by with_unfolding_all rfl);refine zdG ht (Heap.IsSliceOf.new ..) ?_ (by rw[List.size_toArray];omega);refine⟨.ref (s3.heap.push { cls:=.type "slice",data:=.fields #[.none,.none,.int (-1) ti] }).objs.size,_,I4.laid (t':=s3.toks) (o:=.tup xs.reverse) (fun b ob q=>Heap.get?_push_of_some _ q) (Nat.le_refl _) ?_,rfl,q3 _ (I4.hok.fresh (Nat.le_refl _))⟩;exact⟨by rw[List.length_reverse];exact hz,_,zif r,zcS.new _ _⟩
noncomputable def zq1(m mk:ME):ME:=fun ρ st=>(m ρ st).bind fun (x,s1)=>(mk ρ s1).bind fun (k,s2)=>match x,k with
 | .tup ds,.int i=>if (decide (i=-1))=true then some (.tup ds.reverse,s2) else none
 | _,_=>none
theorem zn3{p2:Pos}{se:Expr}(he:SE X e m)(hk:SE X se mk):SE X (.Subscript e (.Slice none none (some se) p2) pos) (zq1 m mk) :=
 PE.imp (zop he (zll hk)) <| by
   rintro σ H Q ⟨ρ,st,io,d,st',E,S,e,k⟩;obtain⟨⟨x,s1⟩,e1,e⟩:=zae e;obtain⟨⟨y,s2⟩,e2,e⟩:=zae e;refine⟨ρ,st,io,x,s1,E,S,e1,fun v1 H1 k1 X1 S1 R1=>?_⟩;refine⟨ρ,s1,io++k1,y,s2,E.ext S X1,S1,e2,fun v2 H2 k2 X2 S2 R2=>?_⟩
   cases x with
   | tup ds =>
     cases y with
     | int i =>
       obtain⟨hi,e⟩:=zap e;cases e;have hi1:=of_decide_eq_true hi;subst hi1;obtain⟨p,xs,rfl,hp,r⟩:=R1.ext S1 X2;exact⟨_,R2,rfl,p,xs,rfl,hp,fun l hl=>((k.on S1 X1).on S2 X2).tup S2 (ziN r) hl⟩
     | _=>cases e
   | _=>cases e
end
end L2.MP
set_option maxHeartbeats 4000000
set_option maxRecDepth 100000
namespace L2.MP
open PySem PySem.Spec PyProof.Rows
theorem zfY:typeLookup (.type "tuple") "keys"=pure none:=by rw[typeLookup_type,builtinLookup_eq_fast];kernel_rfl
structure Fill(prog:Program)(w:World)(A:Around)(D I:Addr)(n:Nat)(key val:Nat->Value)(T:Nat->Heap->Prop):Prop where
 keep:∀ i h h',T i h->(∀ b o,b≠I->h.get? b=some o->h'.get? b=some o)->T i h'
 step:∀ i (s:Shared) (Q:Unit->Shared->Prop) (E:Value->Shared->Prop),i < n->T i s.heap->(∀ h' tk,T (i+1) h'->Heap.SameBut D s.heap h'->Q () { s with heap:=h',toks:=tk })->wpAny (model prog w) A (dictSet D (key i) (val i)) Q E s
section
variable {prog:Program} {w:World} {A:Around} {E:Value->Shared->Prop} {s:Shared} {a:Addr}
theorem zjh{Q:Option Value->Shared->Prop}{xs:Array Value}{k:Nat}{sl:Array (Option Value)}(hx:s.heap.get? a=some { cls:=.type "tuple",dict:=none,data:=.seq xs k,slots:=sl })(hA:A.handled=none)
   (h:∀ h' tk,(∀ b u,s.heap.get? b=some u->h'.get? b=some u)->Q none { s with heap:=h',toks:=tk }):wpAny (model prog w) A (getAttr? (.ref a) "keys") Q E s:=by
 obtain⟨hp,g,d,tk,os⟩:=s;have hT:∀ tk',(⟨hp,g,d,tk',os⟩:Shared).TypeIs (.ref a) "tuple":=fun _=>⟨_,hx,rfl⟩
 have f1:=sub_AttributeError;have f3:=F.slot_tuple_getattribute.lookup;have f4:=F.slot_tuple_getattribute.bind (.ref a);have f5:=am_tuple_getattr_none;unfold getAttr? getAttrBy? getAttrBy
 repeat (any_goals (first | assumption | exact hT _ | ((with_reducible show wpAny _ _ (call (Value.builtin "tuple.__getattribute__") _ _) _ _ _);refine call_meets F.slot_tuple_getattribute (hT _) am_entry_tuple_getattribute (F.args_tuple_getattribute_2 _ _) (meets_getattribute_miss_tuple a xs k sl _ _ zfY (by decide +kernel)) ⟨hx,hA,fun h' tk' e hx'=>?_⟩) | wp_step))
 obtain⟨t',u',he⟩:=hx'.there;show wpAny _ _ (getattributeRaised _ _ _ _ _ _ _) _ _ _;unfold getattributeRaised
 repeat (any_goals (first | assumption | wp_step))
 exact h _ _ hx'.keeps
theorem Sr.nextN{x:Sr}{it:Addr}{i:Nat}{xs:Array Value}{v:Value}{R:Option Value->Shared->Prop}(hit:x.at_ s.heap it i)(h:x.is s.heap xs)(hx:xs[i]?=some v)(k:∀ h',x.at_ h' it (i+1)->Heap.SameBut it s.heap h'->R (some v) { s with heap:=h' }) :
   wpAny (model prog w) A (pyNext (.ref it)) R E s:=by
 cases x with
 | l a=>exact wpAny_pyNext_list_item hit h hx k
 | t a=>exact wpAny_pyNext_tuple_item (show s.heap.IsTupleIter it a i from hit) (show s.heap.IsTuple a xs from h) hx k
theorem Sr.stopN{x:Sr}{it:Addr}{i:Nat}{xs:Array Value}{R:Option Value->Shared->Prop}(hh:A.handled=none)(hit:x.at_ s.heap it i)(h:x.is s.heap xs)(hx:xs[i]?=none)(k:∀ h',Heap.ExtBut it s.heap h'->R none { s with heap:=h' }) :
   wpAny (model prog w) A (pyNext (.ref it)) R E s:=by
 cases x with
 | l a=>exact wpAny_pyNext_list_end hh hit h hx k
 | t a=>exact wpAny_pyNext_tuple_end hh (show s.heap.IsTupleIter it a i from hit) (show s.heap.IsTuple a xs from h) hx k
theorem zsE{R:Result->Shared->Prop}{D I:Addr}{x:Sr}{its:List Value}{n:Nat}{key val:Nat->Value}{T:Nat->Heap->Prop}{h0:Heap}(F:Fill prog w A.in1 D I n key val T)(hh:A.in1.handled=none)(hl:its.length=n)(hDI:D≠I)(hxD:x.ad≠D)(hxI:x.ad≠I) :
   ∀ (k i:Nat) (s:Shared),n - i=k->i<=n->x.at_ s.heap I i->x.is s.heap its.toArray->T i s.heap ->
   (∀ (j:Nat) (v:Value),its[j]?=some v->∃ p,v=.ref p/\IsTup s.heap p #[key j,val j]/\p≠D/\p≠I)->(∀ b o,b≠D->b≠I->h0.get? b=some o->s.heap.get? b=some o) ->
   (∀ h' tk,T n h'->(∀ b o,b≠D->b≠I->h0.get? b=some o->h'.get? b=some o)->R (.ok (.ret .none)) { s with heap:=h',toks:=tk }) ->
   codeAny (model prog w) A (.builtin "dict.update.loop" ⟨[.ref D,.ref I,rawInt i,.none],[]⟩) R s:=by
 intro k
 induction k with
 | zero =>
   intro i s hk hi hit hlist hd hp h0k hR;have hin:i=n:=by omega
   subst hin;refine codeAny_builtin zcz ?_;rw[Around.under_plainId zbf _];show wpAny _ A.in1 (pyNext (.ref I) >>= _) _ _ s;refine wpAny_bind (Sr.stopN hh hit hlist (by simp[hl]) fun h' hx=>?_);show wpAny _ A.in1 (Builtin.Dict.addKeywords D [] >>= fun _=>ret .none) _ _ _;exact wpAny_bind (wpAny_pure (wpAny_pure (hR h' s.toks (F.keep _ _ _ hd fun b o hb e=>hx b o hb e) fun b o h1 h2 e=>hx b o h2 (h0k b o h1 h2 e))))
 | succ k ih =>
   intro i s hk hi hit hlist hd hp h0k hR;have hlt:i < n:=by omega
   have hlt':i < its.length:=by omega
   refine codeAny_builtin zcz ?_;rw[Around.under_plainId zbf _];show wpAny _ A.in1 (pyNext (.ref I) >>= _) _ _ s;have hv:its[i]?=some its[i]:=List.getElem?_eq_getElem hlt';refine wpAny_bind (Sr.nextN (v:=its[i]) hit hlist (by simp[hlt']) fun h' hit' hx=>?_);obtain⟨p,ep,tp,nD,nI⟩:=hp i _ hv;have tp':IsTup h' p #[key i,val i]:=by
     obtain⟨o,g,c⟩:=tp;exact⟨o,hx.extBut p o nI g,c⟩
   have hd':T i h':=F.keep _ _ _ hd fun b o hb e=>hx.extBut b o hb e;rw[ep];refine wpAny_bind (wpAny_holding (wpAny_bind (wpAny_tryCatch (zd0 (s:={ s with heap:=h' }) tp' ?_))));refine wpAny_holding (F.step i { s with heap:=h' } _ _ hlt hd' fun h2 tk2 hd2 hs2=>?_);have hI2:∀ b o,b≠D->h'.get? b=some o->h2.get? b=some o:=fun b o hb e=>hs2.extBut b o hb e;refine wpAny_pure ⟨plainId_quiet zbf _,?_⟩;refine ih (i+1) { s with heap:=h2,toks:=tk2 } (by omega) (by omega) ?_ ?_ hd2 (fun j v h1=>?_) (fun b o b1 b2 e=>hI2 b o b1 (hx.extBut b o b2 (h0k b o b1 b2 e))) fun h3 tk3 d3 k3=>hR h3 tk3 d3 k3
   . exact Sr.at_keep hit' fun u e=>hI2 I u (Ne.symm hDI) e
   . exact Sr.is_keep (Sr.is_keep hlist fun u e=>hx.extBut _ u hxI e) fun u e=>hI2 _ u hxD e
   . obtain⟨q,e,⟨o,g,c⟩,q1,q2⟩:=hp j v h1;exact⟨q,e,⟨o,hI2 q o q1 (hx.extBut q o q2 g),c⟩,q1,q2⟩
noncomputable def Sr.pl(h:Heap)(xs:Array Value):Sr->Prop
 | .l a=>PlainL h a xs
 | .t a=>zcS h a xs
theorem Sr.pl_is{h:Heap}{xs:Array Value}{x:Sr}(q:x.pl h xs):x.is h xs:=by
 cases x with
 | l a=>exact PlainL.isList q
 | t a=>exact zcS.t q
theorem Sr.pl_keep{h h':Heap}{xs:Array Value}{x:Sr}(q:x.pl h xs)(k:∀ b u,h.get? b=some u->h'.get? b=some u):x.pl h' xs:=by
 cases x with
 | l a=>exact PlainL.keeps q k
 | t a=>exact zcS.keeps q k
theorem zdx{x:Sr}{its:List Value}{n:Nat}{key val:Nat->Value}{T:Nat->Heap->Prop}{Q:Value->Shared->Prop}(hh:A.handled=none)(hpl:x.pl s.heap its.toArray)(hl:its.length=n)
   (hF:∀ I:Addr,s.heap.objs.size < I->Fill prog w A.in1.in1 s.heap.objs.size I n key val T) (h0:T 0 (s.heap.push { cls:=.type "dict",data:=.dict #[] }))
   (hp:∀ (j:Nat) (v:Value),its[j]?=some v->∃ p,v=.ref p/\IsTup s.heap p #[key j,val j])
   (h:∀ h' tk,T n h'->(∀ b o,s.heap.get? b=some o->h'.get? b=some o)->Q (.ref s.heap.objs.size) { s with heap:=h',toks:=tk }) :
   wpAny (model prog w) A (call (.type "dict") [.ref x.ad]) Q E s:=by
 refine callType_codes (Q₁:=fun obj s₁=>obj=.ref s.heap.objs.size/\s₁={ s with heap:=s.heap.push { cls:=.type "dict",data:=.dict #[] } }) F.kt_called_dict (F.kt_typeCall_dict_1 _) F.entry_dict_init (kt_code_dict_new _ ⟨rfl,rfl⟩) ?_;rintro obj s₁ ⟨rfl,rfl⟩;have hnt:Shared.TypeIs { s with heap:=s.heap.push { cls:=.type "dict",data:=.dict #[] } } (.ref s.heap.objs.size) "dict":=⟨_,Heap.get?_push_size _ rfl,rfl⟩
 have k1:∀ b o,s.heap.get? b=some o->(s.heap.push { cls:=.type "dict",data:=.dict #[] }).get? b=some o:=fun b o e=>Heap.get?_push_of_some _ e;have hpl1:=Sr.pl_keep hpl k1;have hlt:∀ b o,s.heap.get? b=some o->b < s.heap.objs.size:=fun b o e=>Heap.lt_size e;have hll:x.ad < s.heap.objs.size:=by obtain⟨o,g⟩:=Sr.is_get (Sr.pl_is hpl);exact hlt _ o g
 refine⟨hnt,F.args_dict_init_2 _ _,?_⟩;unfold Builtin.«dict.__init__»;refine wpAny_bind ?_;unfold Builtin.Dict.selfAndRest;refine wpAny_bind (wpAny_notOrdered_dict hnt ?_);show wpAny _ _ (pure (s.heap.objs.size,[Value.ref x.ad])) _ _ _;refine wpAny_pure ?_;show wpAny _ _ (Builtin.Dict.updateFrom "dict.__init__" s.heap.objs.size (.ref x.ad) [] .none) _ _ _;unfold Builtin.Dict.updateFrom;have rest:∀ (h2:Heap) (tk2:Nat),(∀ b u,(s.heap.push { cls:=.type "dict",data:=.dict #[] }).get? b=some u->h2.get? b=some u) ->
     codeAny (model prog w) A.in1 (.builtin "dict.update.loop" ⟨[.ref s.heap.objs.size,.ref h2.objs.size,rawInt (0:Nat),.none],[]⟩) (wants (fun r s₂=>r=.none/\Q (.ref s.heap.objs.size) s₂) E) { s with heap:=h2.push x.ob,toks:=tk2 }:=by
   intro h2 tk2 k2;have hpl2:=Sr.pl_keep hpl1 k2;have hsz:s.heap.objs.size < h2.objs.size:=by
     obtain⟨o,ho,_⟩:=hnt;exact Heap.lt_size (k2 _ o ho)
   have k3:∀ b o,h2.get? b=some o->(h2.push x.ob).get? b=some o:=fun b o e=>Heap.get?_push_of_some _ e;have n1:s.heap.objs.size≠h2.objs.size:=Nat.ne_of_lt hsz;have n2:x.ad≠s.heap.objs.size:=Nat.ne_of_lt hll;have n3:x.ad≠h2.objs.size:=Nat.ne_of_lt (Nat.lt_trans hll hsz);have FF:=hF h2.objs.size hsz;refine zsE (A:=A.in1) (h0:=s.heap) (x:=x) (its:=its) FF hh hl n1 n2 n3 n 0 { s with heap:=h2.push x.ob,toks:=tk2 } rfl (Nat.zero_le _) ?_ (Sr.pl_is (Sr.pl_keep hpl2 k3)) ?_ (fun j v e1=>?_) (fun b o _ _ e=>k3 b o (k2 b o (k1 b o e))) (fun h' tk d' k'=>?_)
   . exact Sr.at_new (Heap.get?_push_size _ (by cases x <;> rfl))
   . exact FF.keep _ _ _ h0 fun b o _ e=>k3 b o (k2 b o e)
   . obtain⟨p,e,⟨o,g,c⟩⟩:=hp j v e1;exact⟨p,e,⟨o,k3 p o (k2 p o (k1 p o g)),c⟩,Nat.ne_of_lt (hlt p o g),Nat.ne_of_lt (Nat.lt_trans (hlt p o g) hsz)⟩
   . exact⟨rfl,h h' tk d' fun b o e=>k' b o (Nat.ne_of_lt (hlt b o e)) (Nat.ne_of_lt (Nat.lt_trans (hlt b o e) hsz)) e⟩
 cases x with
 | l a =>
   obtain⟨⟨cl,di,da,sl⟩,nn,g1,c1,c2,c3⟩:=id hpl1;simp only at c1 c2 c3;subst c1 c2 c3;refine wpAny_bind (wpAny_typeOf (show Shared.TypeIs { s with heap:=s.heap.push { cls:=.type "dict",data:=.dict #[] } } (.ref a) "list" from ⟨_,g1,rfl⟩) ?_);rw[if_pos (by decide)];refine wpAny_bind (zhp g1 hh fun h2 tk2 k2=>?_);simp only[Option.isNone_none,if_true];refine wpAny_bind (wpAny_rule ?_);refine wpAny_bind (Sr.iter (x:=.l a) (s:={ s with heap:=h2,toks:=tk2 }) (xs:=its.toArray) (Sr.pl_is (x:=.l a) (Sr.pl_keep (x:=.l a) hpl1 k2)) ?_);exact wpAny_pure ⟨plainId_quiet zbf _,rest h2 tk2 k2⟩
 | t a =>
   obtain⟨⟨cl,di,da,sl⟩,g1,c1,c2,nn,c3⟩:=id hpl1;simp only at c1 c2 c3;subst c1 c2 c3;refine wpAny_bind (wpAny_typeOf (show Shared.TypeIs { s with heap:=s.heap.push { cls:=.type "dict",data:=.dict #[] } } (.ref a) "tuple" from ⟨_,g1,rfl⟩) ?_);rw[if_pos (by decide)];refine wpAny_bind (zjh g1 hh fun h2 tk2 k2=>?_);simp only[Option.isNone_none,if_true];refine wpAny_bind (wpAny_rule ?_);refine wpAny_bind (Sr.iter (x:=.t a) (s:={ s with heap:=h2,toks:=tk2 }) (xs:=its.toArray) (Sr.pl_is (x:=.t a) (Sr.pl_keep (x:=.t a) hpl1 k2)) ?_);exact wpAny_pure ⟨plainId_quiet zbf _,rest h2 tk2 k2⟩
end
end L2.MP
set_option maxHeartbeats 4000000
set_option maxRecDepth 100000
namespace L2.MP
open PySem PySem.Spec PyProof.Rows
noncomputable abbrev TE3:=List Key×Addr×Value
noncomputable def ziR(acc xs:List TE3):List TE3:=xs.foldl (fun acc x=>storedH acc x.1 x.2.1 x.2.2) acc
theorem zhH{acc:List TE3}{k:List Key}{a:Addr}{v:Value}{x:TE3}(h:x∈storedH acc k a v):(∃ y∈acc,y.1=x.1/\y.2.1=x.2.1)\/(x.1=k/\x.2.1=a):=by
 unfold storedH at h
 split at h
 . obtain⟨y,hy,e⟩:=List.mem_map.mp h;refine .inl ⟨y,hy,?_⟩;rw[<-e];unfold putAt
   split <;> exact⟨rfl,rfl⟩
 . rcases List.mem_append.mp h with h | h
   . exact .inl ⟨x,h,rfl,rfl⟩
   . rw[List.mem_singleton.mp h];exact .inr ⟨rfl,rfl⟩
theorem zg9:∀ {xs acc:List TE3} {x:TE3},x∈ziR acc xs->(∃ y∈acc,y.1=x.1/\y.2.1=x.2.1)\/∃ y∈xs,y.1=x.1/\y.2.1=x.2.1
 | [],acc,x,h=>.inl ⟨x,h,rfl,rfl⟩
 | z::zs,acc,x,h=>by
   rcases zg9 (xs:=zs) (acc:=storedH acc z.1 z.2.1 z.2.2) h with ⟨y,hy,e1,e2⟩ | ⟨y,hy,e⟩
   . rcases zhH hy with ⟨u,hu,f1,f2⟩ | ⟨f1,f2⟩
     . exact .inl ⟨u,hu,f1.trans e1,f2.trans e2⟩
     . exact .inr ⟨z,List.mem_cons_self,f1.symm.trans e1,f2.symm.trans e2⟩
   . exact .inr ⟨y,List.mem_cons_of_mem _ hy,e⟩
theorem zhI(acc:List TE3)(k:List Key)(a:Addr)(v:Value):(storedH acc k a v).length<=acc.length+1:=by
 unfold storedH
 split <;> simp
theorem ze3:∀ (xs acc:List TE3),(ziR acc xs).length<=acc.length+xs.length
 | [],acc=>by show acc.length<=acc.length+0;omega
 | z::zs,acc=>by
   have h1:=ze3 zs (storedH acc z.1 z.2.1 z.2.2);have h2:=zhI acc z.1 z.2.1 z.2.2;show (ziR (storedH acc z.1 z.2.1 z.2.2) zs).length<=_;rw[List.length_cons];omega
theorem ziQ{xs:List TE3}{i:Nat}{x:TE3}(e:xs[i]?=some x):ziR [] (xs.take (i+1))=storedH (ziR [] (xs.take i)) x.1 x.2.1 x.2.2:=by
 rw[List.take_add_one,e];unfold ziR;rw[List.foldl_append];rfl
noncomputable def kAt(xs:List TE3)(i:Nat):Value:=match xs[i]? with | some x=>.ref x.2.1 | none=>.none
noncomputable def vAt(xs:List TE3)(i:Nat):Value:=match xs[i]? with | some x=>x.2.2 | none=>.none
section
variable {prog:Program} {w:World} {A:Around} {E:Value->Shared->Prop} {s:Shared} {a:Addr}
noncomputable def FT(prog:Program)(w:World)(D:Addr)(xs:List TE3)(i:Nat)(h:Heap):Prop :=
 h.DictOfH (tupleKind (zaE prog w)) D (ziR [] (xs.take i))/\∀ x∈xs,(tupleKind (zaE prog w)).is h x.1 x.2.1
theorem zgM{h h':Heap}{k:List Key}{b:Addr}(q:(tupleKind (zaE prog w)).is h k b)(kk:∀ o,h.get? b=some o->h'.get? b=some o):(tupleKind (zaE prog w)).is h' k b:=by
 obtain⟨o,its,n,h1,r⟩:=q;exact⟨o,its,n,kk o h1,r⟩
theorem zsH{D I:Addr}{xs:List TE3}(hu:A.units < cLine)(hDI:D≠I)(hI:∀ x∈xs,x.2.1≠I)(hD:∀ x∈xs,x.2.1≠D)(hz:xs.length<=sizeLine):Fill prog w A D I xs.length (kAt xs) (vAt xs) (FT prog w D xs) where
 keep:=by
   rintro i h h' ⟨⟨o,es,ep,ho,hc,hd,he,his,hn⟩,hk⟩ k;have all:∀ x∈xs,(tupleKind (zaE prog w)).is h' x.1 x.2.1:=fun x hx=>zgM (hk x hx) fun o e=>k _ o (hI x hx) e;refine⟨⟨o,es,ep,k _ o hDI ho,hc,hd,he,fun x hx=>?_,hn⟩,all⟩
   rcases zg9 hx with ⟨y,hy,_⟩ | ⟨y,hy,e1,e2⟩
   . exact nomatch hy
   . have:=all y (List.mem_of_mem_take hy);rw[e1,e2] at this;exact this
 step:=by
   rintro i s Q E hi ⟨hd,hk⟩ h;have e:xs[i]?=some xs[i]:=List.getElem?_eq_getElem hi;have ek:kAt xs i=.ref xs[i].2.1:=by unfold kAt;rw[e]
   have ev:vAt xs i=xs[i].2.2:=by unfold vAt;rw[e]
   rw[ek,ev];have hl:(ziR [] (xs.take i)).length<=sizeLine:=by
     have:=ze3 (xs.take i) [];rw[List.length_take,List.length_nil] at this;omega
   refine wpAny_dictSet_heap (hsz:=hl) hu (hk _ (List.getElem_mem hi)) hd fun h' hd' hs=>h h' _ ⟨?_,fun x hx=>?_⟩ hs
   . rw[ziQ e];exact hd'
   . exact zgM (hk x hx) fun o g=>hs.extBut _ o (hD x hx) g
end
noncomputable def zfU{κ:Type}[DecidableEq κ](kvs more:List (κ×V)):List (κ×V):=more.foldl (fun acc kv=>putK acc kv.1 kv.2) kvs
noncomputable def zfV(kvs more:List (List Key×D)):List (List Key×D):=more.foldl (fun acc kv=>putD acc kv.1 kv.2) kvs
noncomputable def zrE:D->Option (List Key×D)
 | .tup [.tup ks,v]=>(keysOf ks).map fun q=>(q,v)
 | _=>none
noncomputable def zgy:List D->Option (List (List Key×D))
 | []=>some []
 | d::r=>(zrE d).bind fun t=>(zgy r).map fun ts=>t::ts
section
variable {X:Cx} {K:PySem.W.Frag} {H:Hp} {io:List Addr} {st st':Sto} {pins:List (Addr×Obj)} {σ:L2.St} {s:Shared}
theorem zmN:∀ {more:List (List Key×V)} {mx:List TE3} {kvs:List (List Key×V)} {xs:List TE3},KT H more mx->KT H kvs xs->KT H (zfU kvs more) (ziR xs mx):=by
 intro more mx kvs xs r
 induction r generalizing kvs xs with
 | nil=>intro q;exact q
 | @cons p q ps qs h t ih =>
   intro r0;have e:KT H (putK kvs p.1 p.2) (storedH xs q.1 q.2.1 q.2.2):=by
     rw[<-h.1];exact KT.put r0 p.1 h.2.1 h.2.2
   exact ih e
theorem zkJ:∀ {more:List (List Key×V)} {mds:List (List Key×D)} {kvs:List (List Key×V)} {kds:List (List Key×D)},KR (List Key) K H io more mds->KR (List Key) K H io kvs kds->KR (List Key) K H io (zfU kvs more) (zfV kds mds):=by
 intro more mds kvs kds r;unfold KR at r
 induction r generalizing kvs kds with
 | nil=>intro q;exact q
 | @cons p q ps qs h t ih =>
   intro r0;have e:KR (List Key) K H io (putK kvs p.1 p.2) (putD kds q.1 q.2):=by
     rw[<-h.1];exact KR.put r0 p.1 h.2
   exact ih e
theorem zli(I:Inv X pins σ H s):∀ {ys:List V} {ds:List D} {kds:List (List Key×D)} {its:List Value},Reps X.K H io ys ds->zgy ds=some kds->Vals ys its ->
   ∃ (kvV:List (List Key×V)) (xs:List TE3),KR (List Key) X.K H io kvV kds/\KT H kvV xs/\its.length=xs.length/\xs.length=kds.length/\∀ (j:Nat) (v:Value) (x:TE3),its[j]?=some v->xs[j]?=some x->∃ p,v=.ref p/\IsTup s.heap p #[.ref x.2.1,x.2.2]
 | _,[],kds,_,h,e,r=>by
   cases e
   cases (show _=[] from h)
   cases r;exact⟨[],[],.nil,.nil,rfl,rfl,fun j v kv h=>by simp at h⟩
 | _,d::ds,kds,_,h,e,r=>by
   obtain⟨y,ys,rfl,h1,h2⟩:=h;obtain⟨t,e1,e⟩:=zae e;obtain⟨ts,e2,e⟩:=zah e;subst e
   cases r with
   | @cons _ u _ us ru rus =>
     obtain⟨kvV,xs,a1,a2,a3,a4,a5⟩:=zli I h2 e2 rus;unfold zrE at e1
     split at e1
     . rename_i ks v;obtain⟨q,eq1,e1⟩:=zah e1;subst e1;obtain⟨p,vs,rfl,hp,rs⟩:=h1;obtain⟨v1,w1,rfl,q1,rs⟩:=rs;obtain⟨v2,w2,rfl,q2,rs⟩:=rs
       cases (show w2=[] from rs)
       obtain⟨b,zs,rfl,hb,rz⟩:=q1;have ek:=zcb rz eq1;subst ek;cases ru;obtain⟨ia,va,ht,_⟩:=I.tuple (SqT.of (K:=X.K) hp)
       cases va with
       | cons r1 t1 =>
         cases t1 with
         | cons r2 t2 =>
           cases t2;rename_i u1 u2
           cases (show u1=Value.ref b from r1)
           refine⟨(q,v2)::kvV,(q,b,u2)::xs,.cons ⟨rfl,q2⟩ a1,.cons ⟨rfl,hb,r2⟩ a2,by rw[List.length_cons,List.length_cons,a3],by rw[List.length_cons,List.length_cons,a4],fun j v kv e1 e2=>?_⟩
           cases j with
           | zero =>
             cases e1;cases e2;exact⟨p,rfl,ht⟩
           | succ j=>exact a5 j v kv e1 e2
     . cases e1
theorem zsf{k:Nat}{A:Around}(hr:Room k A):A.units+2 < cLine:=by have:=hr.un;omega
noncomputable def zpe:GN
 | [.ref n],st=>(zbu st n).bind fun ds=>(zgy ds).bind fun kds=>if fits kds.length=true then some (.ref st.length,st++[.dt (zfV [] kds)]) else none
 | [.tup ds],st=>(zgy ds).bind fun kds=>if fits kds.length=true then some (.ref st.length,st++[.dt (zfV [] kds)]) else none
 | _,_=>none
theorem zjC{x:Sr}{ys:List V}{ds:List D}{kds:List (List Key×D)}{its:List Value}{A:Around}{Q:Value->Shared->Prop}{E:Value->Shared->Prop}(I:Inv X pins σ H s)(hh:A.handled=none)(hu:A.units+2 < cLine)(pl:x.pl s.heap its.toArray)(rv:Vals ys its)(r1:Reps X.K H io ys ds)(e1:zgy ds=some kds)(hf:kds.length<=sizeLine)
   (h:∀ s' kvV,Inv X pins σ (upd H s.heap.objs.size (.dT (zfU [] kvV))) s'->KR (List Key) X.K H io kvV kds->Q (.ref s.heap.objs.size) s'):wpAny (model X.prog X.w) A (call (.type "dict") [.ref x.ad]) Q E s:=by
 obtain⟨kvV,xs,a1,a2,a3,a4,a5⟩:=zli I r1 e1 rv;have hz:xs.length<=sizeLine:=by rw[a4];exact hf
 have hkey:∀ y∈xs,(tupleKind (zaE X.prog X.w)).is s.heap y.1 y.2.1:=by
   clear a5 a4 a3 hz a1
   induction a2 with
   | nil=>intro y hy;exact nomatch hy
   | @cons p q ps qs hq t ih =>
     intro y hy
     rcases List.mem_cons.mp hy with e | hy
     . subst e;exact zf0 I.hok (by rw[<-hq.1];exact hq.2.1)
     . exact ih y hy
 have hlt:∀ y∈xs,y.2.1 < s.heap.objs.size:=fun y hy=>by
   obtain⟨o,_,_,g,_⟩:=hkey y hy;exact Heap.lt_size g
 refine zdx (T:=FT X.prog X.w s.heap.objs.size xs) (key:=kAt xs) (val:=vAt xs) hh pl a3 (fun i hi=>zsH hu (Nat.ne_of_lt hi) (fun y hy=>Nat.ne_of_lt (Nat.lt_trans (hlt y hy) hi)) (fun y hy=>Nat.ne_of_lt (hlt y hy)) hz) ⟨Heap.DictOfH.new s.heap,fun y hy=>zgM (hkey y hy) fun o g=>Heap.get?_push_of_some _ g⟩ (fun j v e=>?_) fun h' tk d' kk=>?_
 . have hj:j < xs.length:=by
     rw[<-a3];exact (List.getElem?_eq_some_iff.mp e).1
   have ex:xs[j]?=some xs[j]:=List.getElem?_eq_getElem hj;obtain⟨p,ep,tp⟩:=a5 j v _ e ex;refine⟨p,ep,?_⟩;unfold kAt vAt;rw[ex];exact tp
 . have hlV:kvV.length=xs.length:=Paired.length a2;obtain⟨⟨o,es,ep,ho,hc,hdd,he,his,hn⟩,_⟩:=d';rw[List.take_length] at he his hn;have km:KT H (zfU [] kvV) (ziR [] xs):=zmN a2 .nil;have hm:(zfU [] kvV).length<=sizeLine:=by
     have:=ze3 xs [];rw[Paired.length km];rw[List.length_nil] at this;omega
   have hd:(s.heap.objs.size==sysModules)=false:=beq_eq_false_iff_ne.mpr (Ne.symm (Nat.ne_of_lt I.big));refine h _ kvV (I.laid (a:=s.heap.objs.size) (o:=.dT (zfU [] kvV)) (t':=tk) kk (Nat.le_refl _) ⟨hm,hd,ziR [] xs,?_,o,es,ep,ho,hc,hdd,he,hn⟩) a1;exact KT.keeps km fun b ys e=>by
     rw[zav (zau e (I.hok.fresh (Nat.le_refl _)))];exact e
theorem zh6(hc:X.calm=true)(hu:X.A.units+2 < cLine):zdt X (.type "dict") zpe:=by
 rintro pins s σ H xs us Q I r ⟨ds,st,io,d,st',R,S,e,k⟩;have fin:∀ (kds:List (List Key×D)),(d,st')=(D.ref st.length,st++[O.dt (zfV [] kds)])->∀ s' kvV,Inv X pins σ (upd H s.heap.objs.size (.dT (zfU [] kvV))) s'->KR (List Key) X.K H io kvV kds->∃ v H',Inv X pins σ H' s'/\RelV v (.ref s.heap.objs.size)/\Q v H':=fun kds ed s' kvV I' a1=>by
   cases ed;obtain⟨E',S'⟩:=zi7 (o:=.dT (zfU [] kvV)) (ob:=.dt (zfV [] kds)) S (I.hok.fresh (Nat.le_refl _)) fun H' T e=>⟨_,e,zkJ (KR.mono T a1) .nil⟩
   exact⟨.ref s.heap.objs.size,_,I',rfl,k _ _ [s.heap.objs.size] E' S' ⟨s.heap.objs.size,rfl,by rw[<-S.len];exact getElem?_len io _⟩⟩
 unfold zpe at e
 split at e
 . rename_i n;obtain⟨zs,e0,e⟩:=zae e;obtain⟨kds,e1,e⟩:=zae e;obtain⟨hf,e⟩:=zap e;obtain⟨v,rfl,p,rfl,hp⟩:=R.one;obtain⟨u,rfl,ru⟩:=r.one;cases ru;obtain⟨ys,hx,r1⟩:=za7 S hp e0;obtain⟨its,rv,pl,hz⟩:=I.list hx;exact zjC (x:=.l p) I (I.ok.hd hc) hu pl rv r1 e1 (of_decide_eq_true hf) (fin kds (by cases e;rfl))
 . rename_i zs;obtain⟨kds,e1,e⟩:=zae e;obtain⟨hf,e⟩:=zap e;obtain⟨v,rfl,p,ys,rfl,hp,r1⟩:=R.one;obtain⟨u,rfl,ru⟩:=r.one;cases ru;obtain⟨hz,its,rv,pl⟩:=(show zdc X.prog X.w H s.heap p (.tup ys) from I.hok p _ hp)
   exact zjC (x:=.t p) I (I.ok.hd hc) hu pl rv r1 e1 (of_decide_eq_true hf) (fin kds (by cases e;rfl))
 . cases e
end
end L2.MP
set_option maxHeartbeats 4000000
set_option maxRecDepth 100000
namespace L2.MP
open PySem PySem.Spec PyProof.Rows
theorem zew{k:Nat}{A:Around}(hr:Room k A):A.units+110 < cLine:=by have:=hr.un;omega
section
variable {X:Cx}
noncomputable def mulB:G2:=intD (fun i j=>decide (Builtin.Int.intBits i<=2 ^ 20)&&decide (Builtin.Int.intBits j<=2 ^ 20)) fun i j=>.int (i*j)
theorem zfM:OpM X (binaryOp .Mult) mulB:=zeC (C:=fun i j=>Builtin.Int.intBits i<=2 ^ 20/\Builtin.Int.intBits j<=2 ^ 20) (opI fun i j _ _ _ _ _ hc q=>PyProof.Rows.mul_int q (IntMulOk.of_bits hc.1 hc.2)) fun i j h=>by
   rw[Bool.and_eq_true] at h;exact⟨of_decide_eq_true h.1,of_decide_eq_true h.2⟩
noncomputable def neS:G2
 | .str x,.str y,st=>some (.bl (x != y),st)
 | _,_,_=>none
theorem zmx:OpM X (compareOp .NotEq) neS:=by
 rintro pins s σ H x y v u Q I rx ry ⟨dx,dy,st,io,d,st',Rx,Ry,S,e,k⟩;unfold neS at e
 split at e
 . cases e
   cases (show x=_ from Rx)
   cases (show y=_ from Ry)
   obtain⟨t,rfl⟩:=rx;obtain⟨t',rfl⟩:=ry;exact PyProof.Rows.ne_str ⟨.bl _,H,I,rfl,k.now S rfl⟩
 . cases e
end
section
variable {prog:Program} {w:World} {A:Around} {E:Value->Shared->Prop} {s:Shared} {a:Addr}
noncomputable def FK(prog:Program)(w:World)(D:Addr)(kvs:List (Key×Value))(i:Nat)(h:Heap):Prop:=h.DictOf (zaE prog w) D (merged [] (kvs.take i))
noncomputable def xAt(xs:List Value)(i:Nat):Value:=match xs[i]? with | some x=>x | none=>.none
noncomputable def wAt(xs:List (Key×Value))(i:Nat):Value:=match xs[i]? with | some x=>x.2 | none=>.none
theorem zsI{D I:Addr}{kvs:List (Key×Value)}{kxs:List Value}(hDI:D≠I)(hz:kvs.length<=sizeLine)(hk:∀ (j:Nat) (kv:Key×Value),kvs[j]?=some kv->(zaE prog w).is kv.1 (xAt kxs j)=true):Fill prog w A D I kvs.length (xAt kxs) (wAt kvs) (FK prog w D kvs) where
 keep:=fun i h h' ⟨o,es,ep,ho,r⟩ k=>⟨o,es,ep,k D o hDI ho,r⟩
 step:=fun i s Q E hi hd h=>by
   have e:kvs[i]?=some kvs[i]:=List.getElem?_eq_getElem hi;have ev:wAt kvs i=kvs[i].2:=by unfold wAt;rw[e]
   rw[ev];have hl:(merged [] (kvs.take i)).length<=sizeLine:=by
     have:=zd2 (kvs.take i) [];rw[List.length_take,List.length_nil] at this;omega
   refine wpAny_dictSet_pairs (hk i _ e) hd (fun h' hd' hs=>h h' _ ?_ hs) hl;have e1:stored (merged [] (kvs.take i)) kvs[i].1 kvs[i].2=merged [] (kvs.take (i+1)):=(merged_take_succ [] kvs i _ e).symm;unfold FK;rw[<-e1];exact hd'
theorem zha{h:Heap}:∀ {its:List Value} {kvs:List (Key×Value)},its.length=kvs.length->(∀ (j:Nat) (v:Value) (kv:Key×Value),its[j]?=some v->kvs[j]?=some kv->zgc prog w h v kv) ->
   ∃ kxs:List Value,∀ (j:Nat) (v:Value) (kv:Key×Value),its[j]?=some v->kvs[j]?=some kv->∃ p,v=.ref p/\IsTup h p #[xAt kxs j,kv.2]/\(zaE prog w).is kv.1 (xAt kxs j)=true
 | [],kvs,_,_=>⟨[],fun j v kv e=>by simp at e⟩
 | v::its,[],e,_=>by cases e
 | v::its,kv::kvs,e,hp=>by
   obtain⟨kxs,hk⟩:=zha (its:=its) (kvs:=kvs) (by simpa using e) fun j u q e1 e2=>hp (j+1) u q e1 e2;obtain⟨p,kx,e1,e2,e3⟩:=hp 0 v kv rfl rfl;refine⟨kx::kxs,fun j u q f1 f2=>?_⟩
   cases j with
   | zero =>
     cases f1;cases f2;exact⟨p,e1,e2,e3⟩
   | succ j=>exact hk j u q f1 f2
end
section
variable {X:Cx} {K:PySem.W.Frag} {H:Hp} {io:List Addr} {st st':Sto} {pins:List (Addr×Obj)} {σ:L2.St} {s:Shared}
noncomputable def zpJ:GN
 | [.tup ds],st=>(znx ds).bind fun kds=>if fits kds.length=true then some (.ref st.length,st++[.dk (zfW [] kds)]) else none
 | _,_=>none
theorem zh7(hc:X.calm=true):zdt X (.type "dict") zpJ:=by
 rintro pins s σ H xs us Q I r ⟨ds,st,io,d,st',R,S,e,k⟩;unfold zpJ at e
 split at e
 . rename_i zs;obtain⟨kds,e1,e⟩:=zae e;obtain⟨hf,e⟩:=zap e;cases e;obtain⟨v,rfl,p,ys,rfl,hp,r1⟩:=R.one;obtain⟨u,rfl,ru⟩:=r.one;cases ru;obtain⟨hz,its,rv,pl⟩:=(show zdc X.prog X.w H s.heap p (.tup ys) from I.hok p _ hp)
   obtain⟨kvV,kvs,a1,a2,a3,a4,a5⟩:=zmg I r1 e1 rv;have hzk:kvs.length<=sizeLine:=by
     rw[a4];exact of_decide_eq_true hf
   obtain⟨kxs,hk⟩:=zha a3 a5;have hkk:∀ (j:Nat) (kv:Key×Value),kvs[j]?=some kv->(zaE X.prog X.w).is kv.1 (xAt kxs j)=true:=fun j kv e=>by
     have hj:j < its.length:=by rw[a3];exact (List.getElem?_eq_some_iff.mp e).1
     obtain⟨_,_,_,q⟩:=hk j _ kv (List.getElem?_eq_getElem hj) e;exact q
   refine zdx (x:=.t p) (T:=FK X.prog X.w s.heap.objs.size kvs) (key:=xAt kxs) (val:=wAt kvs) (I.ok.hd hc) pl a3 (fun i hi=>zsI (Nat.ne_of_lt hi) hzk hkk) (Heap.DictOf.new s.heap) (fun j v e=>?_) fun h' tk d' kk=>?_
   . have hj:j < kvs.length:=by
       rw[<-a3];exact (List.getElem?_eq_some_iff.mp e).1
     have ex:kvs[j]?=some kvs[j]:=List.getElem?_eq_getElem hj;obtain⟨p',ep,tp,_⟩:=hk j v _ e ex;refine⟨p',ep,?_⟩;unfold wAt;rw[ex];exact tp
   . have d':h'.DictOf (zaE X.prog X.w) s.heap.objs.size (merged [] kvs):=by
       have:FK X.prog X.w s.heap.objs.size kvs kvs.length h':=d';unfold FK at this
       rwa [List.take_length] at this
     have hlV:kvV.length=kvs.length:=Paired.length a2;have hm:(zeo [] kvV).length<=sizeLine:=by
       have:=zcn kvV [];rw[List.length_nil] at this;omega
     have hd:(s.heap.objs.size==sysModules)=false:=beq_eq_false_iff_ne.mpr (Ne.symm (Nat.ne_of_lt I.big));refine⟨.ref s.heap.objs.size,_,I.laid (a:=s.heap.objs.size) (o:=.dK (zeo [] kvV)) (t':=tk) kk (Nat.le_refl _) (zng hm hd (a2.merge .nil) d'),rfl,?_⟩;obtain⟨E',S'⟩:=zi7 (o:=.dK (zeo [] kvV)) (ob:=.dk (zfW [] kds)) S (I.hok.fresh (Nat.le_refl _)) fun H' T e=>⟨_,e,zjc (KR.mono T a1) .nil⟩
     exact k _ _ [s.heap.objs.size] E' S' ⟨s.heap.objs.size,rfl,by rw[<-S.len];exact getElem?_len io _⟩
 . cases e
noncomputable def zpf:GN:=orN zpK zpJ
theorem zeK(hc:X.calm=true):zdt X (.type "dict") zpf:=zds (zjP hc) (zh7 hc)
end
end L2.MP
set_option maxHeartbeats 4000000
set_option maxRecDepth 100000
namespace L2.MP
open PySem PySem.Spec PyProof.Rows
end L2.MP
set_option maxHeartbeats 4000000
set_option maxRecDepth 100000
namespace L2.MP
open PySem PySem.Spec PyProof.Rows
noncomputable def zdH{κ α:Type}[DecidableEq κ](kvs:List (κ×α))(q:κ):List (κ×α):=kvs.eraseIdx (kvs.findIdx fun kv=>decide (kv.1=q))
theorem zdZ{α β:Type}{R:α->β->Prop}:∀ {l:List α} {m:List β} (j:Nat),Paired R l m->Paired R (l.eraseIdx j) (m.eraseIdx j):=by
 intro l m j h
 induction h generalizing j with
 | nil=>exact .nil
 | cons z t ih =>
   cases j with
   | zero=>exact t
   | succ j=>exact .cons z (ih j)
theorem zfL{κ α β:Type}[DecidableEq κ]{R:κ×α->κ×β->Prop}(hR:∀ p q,R p q->p.1=q.1){l:List (κ×α)}{m:List (κ×β)}(q:κ)(h:Paired R l m):(l.findIdx fun kv=>decide (kv.1=q))=m.findIdx fun kv=>decide (kv.1=q):=by
 induction h with
 | nil=>rfl
 | @cons a b l m z t ih=>rw[List.findIdx_cons,List.findIdx_cons,hR _ _ z,ih]
theorem zd4{α β:Type}(f:α->β):∀ (l:List α) (k:Nat),(l.map f).eraseIdx k=(l.eraseIdx k).map f
 | [],_=>rfl
 | _::_,0=>rfl
 | a::l,k+1=>by
   show f a::(l.map f).eraseIdx k=f a::(l.eraseIdx k).map f;rw[zd4 f l k]
theorem zo5{κ α:Type}[DecidableEq κ]{k:κ}{p:α}:∀ {xs:List (κ×α)} {j:Nat},(xs.map (·.1)).Nodup->xs[j]?=some (k,p)->(xs.findIdx fun kv=>decide (kv.1=k))=j
 | [],j,_,h=>by simp at h
 | x::xs,0,_,h=>by
   have h:x=(k,p):=by simpa using h
   rw[List.findIdx_cons,h,decide_eq_true rfl];rfl
 | x::xs,j+1,hn,h=>by
   have h:xs[j]?=some (k,p):=by simpa using h
   rw[List.map_cons,List.nodup_cons] at hn;have hne:¬ x.1=k:=fun e=>hn.1 (List.mem_map.mpr ⟨(k,p),List.mem_of_getElem? h,e.symm⟩);rw[List.findIdx_cons,decide_eq_false hne,zo5 hn.2 h];rfl
section
variable {prog:Program} {w:World} {A:Around} {E:Value->Shared->Prop} {s:Shared} {K:Type} [DecidableEq K] {knd:HeapKind prog w K}
theorem zr1{d a:Addr}{xs:List (K×Addr×Value)}{k:K}{Q:Option DictEntry->Shared->Prop}(hu:knd.room A)(hkey:knd.is s.heap k a)(hm:s.heap.DictOfH knd d xs)(hz:xs.length<=sizeLine)(hin:∃ (j:Nat) (p:Addr×Value),xs[j]?=some (k,p))
   (hQ:∀ (j:Nat) (p:Addr×Value) h',xs[j]?=some (k,p)->h'.DictOfH knd d (xs.eraseIdx j)->Heap.SameBut d s.heap h'->Q (some ⟨knd.hash k,.ref p.1,p.2⟩) { s with heap:=h',toks:=s.toks+knd.draws k }) :
   wpAny (model prog w) A (Builtin.Dict.takeOut d (.ref a)) Q E s:=by
 obtain⟨o,es,ep,ho,hc,hd,he,his,hn⟩:=hm;have hes:es.size<=sizeLine:=by have e:=size_of_entries he;omega
 unfold Builtin.Dict.takeOut
 try with_reducible refine wpAny_holding ?_
 refine wpAny_bind (knd.pyHash hu hkey (wpAny_bind (wpAny_dictFind_heap (s:={ s with toks:=s.toks+knd.draws k }) hu hkey ho hd he his hn (fun hno=>?_) fun j p hj=>?_)))
 . obtain⟨j,p,hj⟩:=hin;exact absurd hj (hno j p)
 . refine wpAny_bind (wpAny_dictEntries (s:={ s with toks:=s.toks+knd.draws k }) ho hd ?_);rw[entry_at he j,hj];refine wpAny_bind (wpAny_updateDictKeys (hz:=hes) (s:={ s with toks:=s.toks+knd.draws k }) ho hd (wpAny_pure (hQ j p _ hj ⟨_,_,ep+1,Heap.get?_update_self _ ho (Obj.isFreed_of_dict (Obj.data_mapDictKeys hd _)),hc.mapDictKeys _,Obj.data_mapDictKeys hd _,?_,?_,?_⟩ (Heap.SameBut.update ..))))
   . have e1:(es.eraseIdxIfInBounds j).toList=es.toList.eraseIdx j:=by obtain⟨l⟩:=es;simp
     rw[e1,he,zd4]
   . intro x hx;exact knd.keeps (his x (List.mem_of_mem_eraseIdx hx)) ho hd (Heap.SameBut.update ..)
   . rw[<-zd4];exact hn.sublist (List.eraseIdx_sublist _ _)
theorem zmO(d a:Addr):MeetsIn prog w (Builtin.«dict.pop» ⟨[.ref d,.ref a],[]⟩) (fun A R s=>knd.room A.in1/\∃ k xs,knd.is s.heap k a/\s.heap.DictOfH knd d xs/\xs.length<=sizeLine/\(∃ (j:Nat) (p:Addr×Value),xs[j]?=some (k,p)) /\
   ∀ (j:Nat) (p:Addr×Value) h' tk,xs[j]?=some (k,p)->h'.DictOfH knd d (xs.eraseIdx j)->Heap.SameBut d s.heap h'->R (.ok (.ret p.2)) { s with heap:=h',toks:=tk }) :=
 .of_wp <| by
   rintro A R s ⟨hu,k,xs,hkey,hm,hz,hin,h⟩;unfold Builtin.«dict.pop»;refine wpAny_bind ?_;unfold Builtin.Dict.keyAndDefault;refine wpAny_bind (wpAny_notOrdered_dict hm.typeIs (wpAny_pure ?_));have hp:(keyPart (Value.ref a)).isSome=false:=rfl;obtain⟨o,es,ep,ho,hc,hd,he,his,hn⟩:=id hm;have hne:es.isEmpty=false:=by
     obtain⟨j,p,hj⟩:=hin;have h1:=size_of_entries he;have h2:j < xs.length:=(List.getElem?_eq_some_iff.mp hj).1;rw[Array.isEmpty_eq_false_iff];intro e;rw[e] at h1;simp at h1;omega
   simp only[hp,Bool.false_eq_true,if_false];refine wpAny_bind (wpAny_dictEntries ho hd (wpAny_bind (wpAny_pure ?_)));simp only[hne,Bool.false_eq_true,if_false];refine wpAny_bind (zr1 hu hkey hm hz hin fun j p h' hj hd' hs=>?_);rw[show (some (⟨knd.hash k,.ref p.1,p.2⟩:DictEntry)).isNone=false from rfl];refine wpAny_bind (wpAny_letGo (wpAny_pure ⟨p.2,rfl,?_⟩));exact h j p h' _ hj hd' hs
end
section
variable {X:Cx} {K:PySem.W.Frag} {H:Hp} {io:List Addr} {st st':Sto} {pins:List (Addr×Obj)} {σ:L2.St} {s:Shared} {m mk:ME} {e:Expr} {pos:Pos}
theorem znG{kvs:List (List Key×V)}{xs:List (List Key×Addr×Value)}{k:List Key}{v:V}(r:KT H kvs xs)(l:valV kvs k=some v):∃ (j:Nat) (p:Addr×Value),xs[j]?=some (k,p):=by
 have h:=r.val k;rw[l] at h
 cases ha:atKey xs k with
 | none=>rw[ha] at h;exact h.elim
 | some p =>
   unfold atKey at ha;obtain⟨x,hx,hp⟩:=zah ha;have hk:x.1=k:=by have h0:=List.find?_some hx;simpa using h0
   obtain⟨j,hj,e⟩:=List.getElem_of_mem (List.mem_of_find?_eq_some hx);exact⟨j,x.2,by rw[List.getElem?_eq_getElem hj,e,<-hk]⟩
theorem zrm{A:Around}{E:Value->Shared->Prop}{a b:Addr}{kvs:List (List Key×V)}{k:List Key}{v:V}{Q:Value->Shared->Prop}(hu:A.units+1 < cLine)(I:Inv X pins σ H s)(e:H a=some (.dT kvs))(eb:H b=some (.tup (k.map kV)))(l:valV kvs k=some v)
   (h:∀ w' s',Inv X pins σ (upd H a (.dT (zdH kvs k))) s'->RelV v w'->Q w' s'):wpAny (model X.prog X.w) A (call (.builtin "dict.pop") [.ref a,.ref b]) Q E s:=by
 obtain⟨z,hd,xs,rel,dd⟩:=zrQ I.hok e;have hz:xs.length<=sizeLine:=by rw[<-Paired.length rel];exact z
 refine call_meetsIn PySem.F.slot_dict_pop dd.typeIs PySem.F.entry_dict_pop (PySem.F.args_dict_pop_2 _ _) (zmO (knd:=tupleKind (zaE X.prog X.w)) a b) ⟨tupleKind_room_in1 hu,k,xs,zf0 I.hok eb,dd,hz,znG rel l,fun j p h' tk hj dd' hs=>h _ _ ?_ ?_⟩
 . obtain⟨q,es,ep,hq,h2,h3,h4,_,h5⟩:=dd';have hn:(xs.map (·.1)).Nodup:=by obtain⟨_,_,_,_,_,_,_,_,hn⟩:=dd;exact hn
   have hi:(kvs.findIdx fun kv=>decide (kv.1=k))=j:=(zfL (fun p q z=>z.1) k rel).trans (zo5 hn hj);have hl:(zdH kvs k).length<=sizeLine:=Nat.le_trans (List.length_eraseIdx_le _ _) z;have rel':KT H (zdH kvs k) (xs.eraseIdx j):=by
     unfold zdH;rw[hi];exact zdZ j rel
   refine zjD I (by rw[e];exact True.intro) hs ⟨q,hq⟩ ⟨hl,hd,_,rel'.keeps fun c ys ec=>?_,q,es,ep,hq,h2,h3,h4,h5⟩;rw[zav (zpy ec e (fun z=>nomatch z))];exact ec
 . have hn:(xs.map (·.1)).Nodup:=by obtain⟨_,_,_,_,_,_,_,_,hn⟩:=dd;exact hn
   have h1:=rel.val k;rw[l,atKey_of_get hn hj] at h1;exact h1
noncomputable def zpS(td ty:TE):TE:=fun σ H Q=>td σ H fun x H1=>∃ a,x=.ref a/\IsD H1 a/\ty σ H1 fun y H2=>∃ kvs k b v,H2 a=some (.dT kvs)/\y=.ref b/\H2 b=some (.tup (k.map kV))/\valV kvs k=some v/\Q v (upd H2 a (.dT (zdH kvs k)))
theorem zmr{o:Expr}{apos cpos:Pos}{td ty:TE}(hu:X.A.units+1 < cLine)(ho:PE X o td)(he:PE X e ty)(m:M1 X o "pop" apos e cpos):PE X (.Call (.Attribute o "pop" apos) [e] [] cpos) (zpS td ty):=by
 intro pins s σ H Q I h;refine wpAny_Call_method m.base m.few m.line PySem.F.plainAttrs_dict PySem.F.slot_dict_pop PySem.F.type_dict_pop (thn (ho pins s σ H _ I h) ?_);rintro u s1 ⟨x,H1,I1,rx,a,ex,d,q1⟩;subst ex;obtain rfl:u=Value.ref a:=rx;obtain⟨t1,t2,_⟩:=zjo I1 d;refine⟨t1,t2,?_⟩;rw[m.trees];refine Calls.callWith_builtin rfl (Calls.evalArgs_plain (Calls.spliced_cons (thn (he pins s1 σ H1 _ I1 q1) fun iv s2 ⟨y,H2,I2,ry,kvs,k,b,v,ea,ey,eb,l,q2⟩=>Calls.spliced_nil ?_)));subst ey;obtain rfl:iv=Value.ref b:=ry;exact zrm hu I2 ea eb l fun w' s3 I3 rw'=>⟨v,_,I3,rw',q2⟩
noncomputable def zoP(md mk:ME):ME:=fun ρ st=>(md ρ st).bind fun (d,s1)=>match d with
 | .ref n=>if zm2 s1 n=true then (mk ρ s1).bind fun (k,s2)=>match k,s2[n]? with
     | .tup ds,some (.dt kvs)=>(keysOf ds).bind fun q=>(valD kvs q).map fun v=>(v,s2.set n (.dt (zdH kvs q)))
     | _,_=>none
   else none
 | _=>none
theorem zn4{o:Expr}{md:ME}{apos cpos:Pos}(hu:X.A.units+1 < cLine)(ho:SE X o md)(he:SE X e mk)(mm:M1 X o "pop" apos e cpos:=by exact⟨rfl,rfl,rfl,rfl⟩):SE X (.Call (.Attribute o "pop" apos) [e] [] cpos) (zoP md mk) :=
 PE.imp (zmr hu ho he mm) <| by
   rintro σ H Q ⟨ρ,st,io,d,st',E,S,e,k⟩;obtain⟨⟨x,s1⟩,e1,e⟩:=zae e
   cases x with
   | ref n =>
     obtain⟨hd,e⟩:=zap e;obtain⟨⟨y,s2⟩,e2,e⟩:=zae e;refine⟨ρ,st,io,_,s1,E,S,e1,fun v1 H1 k1 X1 S1 R1=>?_⟩;obtain⟨p,rfl,hp⟩:=R1;refine⟨p,rfl,zjn S1 hp hd,ρ,s1,io++k1,y,_,E.ext S X1,S1,e2,fun v2 H2 k2 X2 S2 R2=>?_⟩;dsimp only at e
     split at e
     . rename_i ds kvs ek;obtain⟨q,eq1,e⟩:=zae e;obtain⟨v,ev,e⟩:=zah e;cases e;have hp2:=zbl (ka:=k2) hp;obtain⟨ps,hH,r⟩:=S2.ob n p _ hp2 ek;obtain⟨b,xs,rfl,hb,rs⟩:=R2;have ex:=zcb rs eq1;subst ex
       rcases KR.val r q with ⟨z,_⟩ | ⟨d',v',hd',hv',rv⟩
       . rw[ev] at z;cases z
       . rw[ev] at hd';cases hd';refine⟨ps,q,b,v',hH,rfl,hb,hv',?_⟩;obtain⟨E',S'⟩:=zfK (o:=.dT (zdH ps q)) (ob:=.dt (zdH kvs q)) S2 hp2 ek (fun o u z=>by rw[hH] at z;cases z) fun H' T e'=>⟨_,e',by
           have hi:=zfL (fun p q z=>z.1) q (KR.mono (ka:=[]) T r);unfold zdH;rw[hi];exact zdZ _ (KR.mono T r)⟩
         exact ((k.on S1 X1).on S2 X2) _ _ [] E' S' (by
           have:=Rep.ext S2 E' rv;exact this)
     . cases e
   | _=>cases e
end
end L2.MP
set_option maxHeartbeats 4000000
namespace L2.MP
open PySem PySem.Spec PyProof.Rows
end L2.MP
set_option maxHeartbeats 4000000
namespace L2.MP
open PySem PySem.Spec PyProof.Rows
end L2.MP
set_option maxHeartbeats 4000000
namespace L2.MP
section
open PySem PySem.Spec PyProof.Rows PySem.Builtin PySem.Builtin.Str
variable {prog:Program} {w:World} {A:Around} {E:Value->Shared->Prop} {s:Shared} {z y:Str} {t u:Tok} {Q:Value->Shared->Prop}
end
section
open PySem PySem.Spec PyProof.Rows
variable {X:Cx} {K:PySem.W.Frag} {H:Hp} {io:List Addr} {st st':Sto} {a b c e:Expr} {es:List Expr} {ma mb mc m:ME} {mm:MA} {pos:Pos}
end
end L2.MP
namespace L2.MP
open PySem
theorem znr{c:MT}{m n:ME}{ρ:Rho}{st:Sto}:mIte c m n ρ st=(c ρ st).bind fun p=>if p.1=true then m ρ p.2 else n ρ p.2:=rfl
end L2.MP
set_option maxHeartbeats 4000000
namespace L2.MP
open PySem PySem.Spec PyProof.Rows
end L2.MP
set_option maxHeartbeats 4000000
namespace L2.MP
open PySem PySem.Spec PyProof.Rows
end L2.MP
set_option maxHeartbeats 4000000
namespace L2.MP
open PySem PySem.Spec PyProof.Rows
@[irreducible] noncomputable def JSs (X:Cx) (s:List Stmt) (m:MS):Prop:=SSs X s m
@[irreducible] noncomputable def JS (X:Cx) (s:Stmt) (m:MS):Prop:=SS X s m
@[irreducible] noncomputable def JA (X:Cx) (es:List Expr) (m:MA):Prop:=SA X es m
section
variable {X:Cx} {e a b c:Expr} {es:List Expr} {st1 st2:Stmt} {rest body orelse:List Stmt} {pos:Pos} {m ma mb mc:ME} {mt mu:MT} {mm:MA} {ms mq mr:MS} {mg:MG} {mi:MI}
theorem JSs.out(h:JSs X body ms):SSs X body ms:=by unfold JSs at h;exact h
theorem JSs.mk(h:SSs X body ms):JSs X body ms:=by unfold JSs;exact h
theorem JS.out(h:JS X st1 ms):SS X st1 ms:=by unfold JS at h;exact h
theorem JS.mk(h:SS X st1 ms):JS X st1 ms:=by unfold JS;exact h
theorem JA.out(h:JA X es mm):SA X es mm:=by unfold JA at h;exact h
theorem JA.mk(h:SA X es mm):JA X es mm:=by unfold JA;exact h
theorem zbL:JSs X [] zdK:=.mk znR
theorem zam(h:JS X st1 ms):JSs X [st1] ms:=.mk (znQ h.out)
theorem zag(h:JS X st1 ms)(h2:JSs X rest mq):JSs X (st1::rest) (mSeq ms mq):=.mk (zlQ h.out h2.out)
theorem zfx(hc:SB X c mt)(h1:JSs X body ms)(h2:JSs X orelse mq):JS X (.If c body orelse pos) (mIf mt ms mq):=.mk (zsb hc h1.out h2.out)
theorem zc6{tg iter:Expr}(hp:PassesOwn (model X.prog X.w) X.A X.env X.xe)(hc:X.calm=true)(hi:SI X tg iter mi)(hg:SG X tg mg)(hb:JSs X body ms)(hs:∀ x,foldedSetIterable iter X.env x=pure x:=by intro _;rfl):JS X (.For tg iter body [] pos) (mFor mi mg ms):=.mk (zpX hp hc hi hg hb.out hs)
theorem zjk{n:Nat}(hp:PassesOwn (model X.prog X.w) X.A X.env X.xe)(hc:SB X c mt)(hb:JSs X body ms):JS X (.While c body [] pos) (mWhF mt ms n):=.mk (zlR hp hc hb.out)
theorem zcD:JA X [] mNil:=.mk zai
theorem zal(ha:SE X e m)(hr:JA X es mm)(hs:∀ q,starEach (e::q) X.env=(false,eval e X.env)::starEach q X.env:=by intro _;rfl):JA X (e::es) (zad m mm):=.mk (zaa ha hr.out (hs _))
end
end L2.MP
set_option maxHeartbeats 4000000
namespace L2.MP
open PySem PySem.Spec PyProof.Rows
section
variable {X:Cx} {K:PySem.W.Frag} {H:Hp} {io:List Addr} {st st':Sto} {a b c e o:Expr} {es:List Expr} {ma mb mc m:ME} {mm:MA} {pos apos cpos:Pos}
noncomputable def zlk:D->List D->Sto->Option (D×Sto):=fun x xs st=>match x,xs with
 | .ref n,[]=>match st[n]? with
   | some (.lst ds)=>(ds[ds.length - 1]?).map fun d=>(d,st.set n (.lst ds.dropLast))
   | _=>none
 | _,_=>none
theorem Reps.dropLast:∀ {xs:List V} {ds:List D},Reps K H io xs ds->Reps K H io xs.dropLast ds.dropLast:=by
 intro xs ds r;rw[List.dropLast_eq_take,List.dropLast_eq_take,r.length];exact r.take _
theorem zmL:MtR X "list.pop" (mtM X.K zlk):=by
 rintro pins s σ H x xs v us Q I rx rs ⟨dx,ds,st,io,d,st',Rx,Rs,S,e,k⟩;unfold zlk at e
 split at e
 . rename_i n
   split at e
   . rename_i l e1;obtain⟨y,e2,e⟩:=zah e;cases e;obtain⟨p,rfl,hp⟩:=Rx
     cases (show xs=[] from Rs)
     obtain⟨ys,hH,r⟩:=S.ob n p _ hp e1;obtain⟨w,hw,rw'⟩:=r.get e2;refine zqY pins s σ H _ _ v us Q I rx rs ⟨p,ys,w,rfl,rfl,hH,by rw[r.length];exact hw,?_⟩;obtain⟨E',S'⟩:=zfK (o:=.lst ys.dropLast) (ob:=.lst l.dropLast) S hp e1 (fun o u z=>by rw[hH] at z;cases z) fun H' T e'=>⟨_,e',by rw[List.append_nil] at *;exact (Reps.mono (ka:=[]) T r.dropLast) |> fun q=>by rw[List.append_nil] at q;exact q⟩
     exact k _ _ [] E' S' (rw'.ext S E')
   . cases e
 . cases e
noncomputable def zq2(m:ME):ME:=fun ρ st=>(m ρ st).bind fun (x,s1)=>match x with
 | .ref n=>(zbu s1 n).bind fun _=>zlk x [] s1
 | _=>none
theorem zn5(ho:SE X o m)(hbase:attributeBase o "pop" X.env (eval o X.env)=eval o X.env:=by rfl)(hline:(apos.endLine==cpos.line)=true:=by rfl):SE X (.Call (.Attribute o "pop" apos) [] [] cpos) (zq2 m) :=
 PE.imp (zqF PySem.F.plainAttrs_list PySem.F.slot_list_pop PySem.F.type_list_pop zmL ho hbase hline) <| by
   rintro σ H Q ⟨ρ,st,io,d,st',E,S,e,k⟩;obtain⟨⟨x,s1⟩,e1,e⟩:=zae e
   cases x with
   | ref n =>
     obtain⟨l,e0,e⟩:=zae e;refine⟨ρ,st,io,_,s1,E,S,e1,fun v1 H1 k1 X1 S1 R1=>⟨zgk R1 S1 e0,?_⟩⟩;exact⟨_,[],s1,io++k1,d,st',R1,rfl,S1,e,k.on S1 X1⟩
   | _=>cases e
theorem zlD{ρ:Rho}:zq2 m ρ st=(m ρ st).bind fun p=>match p.1 with
 | .ref n=>(zbu p.2 n).bind fun _=>zlk p.1 [] p.2
 | _=>none:=rfl
noncomputable def truD:D->Sto->Option Bool
 | .bl b,_=>some b
 | .non,_=>some false
 | .int i,_=>some (i != 0)
 | .tup ds,_=>some (!ds.isEmpty)
 | .ref n,st=>(zbu st n).map fun ds=>!ds.isEmpty
 | _,_=>none
noncomputable def mTru(m:ME):MT:=fun ρ st=>(m ρ st).bind fun (x,s1)=>(truD x s1).map fun b=>(b,s1)
theorem zfJ{xs:List V}{ds:List D}(r:Reps K H io xs ds):(!xs.isEmpty)=!ds.isEmpty:=by
 have:=r.length
 cases xs <;> cases ds <;> simp_all
theorem zn9(h:SE X a m)(he:∀ whole,isTrue a X.env whole=(do let v <-whole;standAt a.pos;holding [v] (truthy v)):=by intro _;rfl):SB X a (mTru m) :=
 PT.imp (ziT h he) <| by
   rintro σ H Q ⟨ρ,st,io,b,st',E,S,e,k⟩;obtain⟨⟨x,s1⟩,e1,e⟩:=zae e;obtain⟨b',e2,e⟩:=zah e;cases e;refine⟨ρ,st,io,x,st',E,S,e1,fun v H' ka X' S' R'=>⟨b,?_,k H' ka X' S'⟩⟩;unfold truD at e2
   split at e2
   . cases e2
     cases (show v=_ from R')
     exact rfl
   . cases e2
     cases (show v=_ from R')
     exact rfl
   . cases e2
     cases (show v=_ from R')
     exact rfl
   . cases e2;obtain⟨p,xs,rfl,hH,r⟩:=R';exact .inr (.inl ⟨xs,.inl (.inl hH),(zfJ r).symm⟩)
   . obtain⟨ds,e3,e2⟩:=zah e2;cases e2;obtain⟨p,rfl,hp⟩:=R';obtain⟨ys,hx,r1⟩:=za7 S' hp e3;exact .inl ⟨ys,hx,(zfJ r1).symm⟩
   . cases e2
theorem zpt{ρ:Rho}:mTru m ρ st=(m ρ st).bind fun p=>(truD p.1 p.2).map fun b=>(b,p.2):=rfl
end
end L2.MP
set_option maxHeartbeats 4000000
namespace L2.MP
open PySem PySem.Spec PyProof.Rows
section
variable {prog:Program} {w:World} {A:Around}
theorem zid(hh:A.handled=none)(it d:Addr)(hne:d≠it){o:Obj}{es:Array DictEntry}{ep:Nat}(dd:o.data=.dict es ep) :
   Walks prog w A it [it,d] [it] es.size (fun i v=>∃ en,es[i]?=some en/\v=en.key) (fun i h=>h.IsKeyIter it d i es.size ep/\h.get? d=some o) where
 sub:=fun b hb=>by simp at hb;simp[hb]
 frame:=fun _ _ _ st hk=>⟨st.1.at fun o e=>hk it (by simp) o e,hk d (by simp) o st.2⟩
 item:=fun i s Q E hi st hQ=>by
   have hx:es[i]?=some es[i]:=Array.getElem?_eq_getElem hi;refine zho st.1 st.2 dd hx fun h' st' sb=>?_;exact hQ _ h' s.toks ⟨_,hx,rfl⟩ ⟨st',(sb.2 d hne).trans st.2⟩ fun b ob hb e=>(sb.2 b (fun z=>hb (by simp[z]))).trans e
 done:=fun s Q E st hQ=>zhn hh st.1 st.2 dd (by simp) fun h' eb=>hQ h' s.toks fun b ob hb e=>eb b ob (fun z=>hb (by simp[z])) e
 self:=fun _ _ _ _ st hQ=>wpAny_pyIter_keyiter st.1 hQ
theorem zix{d:Addr}{o:Obj}{es:Array DictEntry}{ep:Nat}(dd:o.data=.dict es ep)(hd:(d==sysModules)=false)(ty:∀ s:Shared,s.heap.get? d=some o->s.TypeIs (.ref d) "dict") :
   PySem.W.KdlSrc prog w "dict" d d es.size (fun i v=>∃ en,es[i]?=some en/\v=en.key) (fun h=>h.get? d=some o) where
 type:=ty
 there:=fun _ g=>⟨Heap.lt_size g,Heap.lt_size g⟩
 keep:=fun _ _ g hk=>hk d (.inl rfl) o g
 notList:=by decide
 notTuple:=by decide
 hint:=fun _ _ s _ g hq=>PySem.W.kdl_hint_dict (ty s g) hq
 iter:=fun A' s hh g=>⟨_,_,fun _ _ hq=>zhq (ty s g) hd g dd hq,zid hh _ d (Nat.ne_of_lt (Heap.lt_size g)) dd,⟨⟨_,Heap.get?_push_size _ rfl,rfl,rfl⟩,Heap.get?_push_of_some _ g⟩⟩
end
section
variable {X:Cx} {K:PySem.W.Frag} {H:Hp} {io:List Addr} {st st':Sto}
theorem zfn{K:PySem.W.Frag}{H:Hp}{io:List Addr}:∀ {vs:List Value} {ps:List (List Key×V)} {kvs:List (List Key×D)},KR (List Key) K H io ps kvs->vs.length=ps.length->(∀ (j:Nat) (v:Value) (p:List Key×V),vs[j]?=some v->ps[j]?=some p->∃ b,v=.ref b/\H b=some (.tup (p.1.map kV)))->∃ ys,Vals ys vs/\Reps K H io ys (zcU kvs)
 | [],_,_,.nil,_,_=>⟨[],.nil,rfl⟩
 | [],_::_,_,.cons _ _,hl,_=>by simp at hl
 | v::vs,_,_,.nil,hl,_=>by simp at hl
 | v::vs,p::ps,q::kvs,.cons h t,hl,hv=>by
   obtain⟨b,rfl,hb⟩:=hv 0 v p rfl rfl;obtain⟨ys,r1,r2⟩:=zfn (vs:=vs) t (by simpa using hl) fun j v p e1 e2=>hv (j+1) v p (by simpa using e1) (by simpa using e2);refine⟨.ref b::ys,.cons rfl r1,Reps.cons ⟨b,_,rfl,hb,?_⟩ r2⟩;rw[h.1];exact zfo _
noncomputable def zkN:GN
 | [.ref n],st=>match st[n]? with
   | some (.dt kvs)=>if fits kvs.length=true then some (.ref st.length,st++[.lst (zcU kvs)]) else none
   | _=>none
 | _,_=>none
theorem zh5(hc:X.calm=true):zdt X (.type "list") zkN:=by
 rintro pins s σ H xs us Q I r ⟨ds,st,io,d,st',R,S,e,k⟩;unfold zkN at e
 split at e
 . rename_i n
   split at e
   . rename_i kvs en;obtain⟨hf,e⟩:=zap e;cases e;obtain⟨v,rfl,p,rfl,hp⟩:=R.one;obtain⟨u,rfl,ru⟩:=r.one;cases ru;obtain⟨ps,hH,rk⟩:=S.ob n p _ hp en;obtain⟨t1,t2,hs⟩:=zjo I (.inr ⟨ps,.inl hH⟩);obtain⟨z,y,xs,r0,o,es,ep,g,ex,dd,et,nd⟩:=I.hok p _ hH;have x:=I.hok p _ hH;have fz:zdc X.prog X.w H s.heap p (.frz o (.dT ps)):=⟨g,x⟩
     obtain⟨g',hl,ent⟩:=zfr fz dd;have hsz:es.size<=sizeLine:=by
       rw[hl,KR.length rk];exact of_decide_eq_true hf
     refine PySem.W.kdl_call (zix (prog:=X.prog) (w:=X.w) dd hs (fun s' g'=>?_)) (I.ok.hd hc) g hsz fun h' tk acc c' hk hat hacc=>?_
     . obtain⟨o',ho',hc'⟩:=t1;rw[g] at ho';cases ho';exact⟨o,g',hc'⟩
     . obtain⟨ys,rv,rr⟩:=zfn (vs:=acc.toList) rk (by rw[Array.length_toList,hacc.1,hl]) fun j v q e1 e2=>by
         obtain⟨en',h1,h2⟩:=hacc.2 j v (by rw[<-Array.getElem?_toList];exact e1);obtain⟨en2,b,h3,h4,h5,_⟩:=ent j q.1 q.2 e2;rw[h1] at h3;cases h3;exact⟨b,by rw[h2,h4],h5⟩
       have hyl:ys.length<=sizeLine:=by rw[rv.length,Array.length_toList,hacc.1];exact hsz
       refine⟨.ref s.heap.objs.size,upd H s.heap.objs.size (.lst ys),I.laid (t':=tk) (fun b o q=>hk b o q) (Nat.le_refl _) ⟨hyl,acc.toList,c',rv,by simpa using hat⟩,rfl,?_⟩;exact k.lst S rr (I.hok.fresh (Nat.le_refl _))
   . cases e
 . cases e
noncomputable def zpH:GN:=orN zpI zkN
theorem zjM(hc:X.calm=true):zdt X (.type "list") zpH:=zds (zjN hc) (zh5 hc)
end
end L2.MP
set_option maxHeartbeats 4000000
namespace L2.MP
open PySem PySem.Spec PyProof.Rows
end L2.MP
set_option maxHeartbeats 4000000
namespace L2.MP
open PySem PySem.Spec PyProof.Rows
structure Kl(H H':Hp):Prop where
 tup:∀ a xs,H a=some (.tup xs)->H' a=some (.tup xs)
 lst:∀ a o xs,H a=some (.frz o (.lst xs))->H' a=some (.frz o (.lst xs))
section
variable {K:PySem.W.Frag} {H H':Hp} {io:List Addr}
theorem SqF.kl{a:Addr}{xs:List V}(T:Kl H H')(h:SqF K H a xs):SqF K H' a xs:=by
 rcases h with ⟨o,h⟩ | h
 . exact .inl ⟨o,T.lst _ _ _ h⟩
 . exact .inr h
mutual
theorem Rep.thawn{K:PySem.W.Frag}{H H':Hp}{io:List Addr}(T:Kl H H'):∀ {v:V} {d:D},Rep K H io v d->Rep K H' io v d
 | _,.non,h=>h
 | _,.bl _,h=>h
 | _,.int _,h=>h
 | _,.str _,h=>h
 | _,.tup ds,h=>by
   obtain⟨a,xs,e,q,r⟩:=h;exact⟨a,xs,e,T.tup a xs q,Reps.thawn T r⟩
 | _,.ref n,h=>h
 | _,.kl ds,h=>by
   obtain⟨a,xs,e,q,r⟩:=h;exact⟨a,xs,e,q.kl T,Reps.thawn T r⟩
theorem Reps.thawn{K:PySem.W.Frag}{H H':Hp}{io:List Addr}(T:Kl H H'):∀ {xs:List V} {ds:List D},Reps K H io xs ds->Reps K H' io xs ds
 | _,[],h=>h
 | _,d::ds,h=>by
   obtain⟨y,ys,e,r,rs⟩:=h;exact⟨y,ys,e,Rep.thawn T r,Reps.thawn T rs⟩
end
theorem KR.thawn{κ:Type}{ps:List (κ×V)}{kvs:List (κ×D)}(T:Kl H H')(h:KR κ K H io ps kvs):KR κ K H' io ps kvs:=Paired.mapP h fun _ _ z=>⟨z.1,Rep.thawn T z.2⟩
theorem OR.thawn{a:Addr}{o:O}(T:Kl H H')(e:H' a=H a)(h:OR K H io a o):OR K H' io a o:=by
 cases o with
 | lst ds=>obtain⟨xs,q,r⟩:=h;exact⟨xs,e.trans q,Reps.thawn T r⟩
 | fz ds=>obtain⟨ob,xs,q,r⟩:=h;exact⟨ob,xs,e.trans q,Reps.thawn T r⟩
 | dk kvs=>obtain⟨xs,q,r⟩:=h;exact⟨xs,e.trans q,KR.thawn T r⟩
 | dt kvs=>obtain⟨xs,q,r⟩:=h;exact⟨xs,e.trans q,KR.thawn T r⟩
 | fk kvs=>obtain⟨ob,xs,q,r⟩:=h;exact⟨ob,xs,e.trans q,KR.thawn T r⟩
 | ft kvs=>obtain⟨ob,xs,q,r⟩:=h;exact⟨ob,xs,e.trans q,KR.thawn T r⟩
end
section
variable {X:Cx} {pins:List (Addr×Obj)} {σ:List (Option V)} {H:Hp} {s:Shared}
theorem Inv.thaw{d:Addr}{o:Obj}{ps:List (List Key×V)}(I:Inv X pins σ H s)(hd:H d=some (.frz o (.dT ps)))(n0:∀ o u,X.H₀ d≠some (.frz o u)):Inv X pins σ (upd H d (.dT ps)) s:=by
 have ne:∀ {b:Addr} {v:HO},H b=some v->v≠.frz o (.dT ps)->b≠d:=fun {b v} q nv z=>by
   subst z;rw[hd] at q;exact nv (Option.some.inj q).symm
 have nn:∀ {b:Addr},H b=none->b≠d:=fun {b} q z=>by
   rw[z,hd] at q;cases q
 refine⟨I.ok,I.os,I.bare,⟨I.base.keep,I.base.slot,fun b v q n hx=>?_,I.base.there,fun b xs q=>?_,fun b v u q=>?_,fun b xs q=>?_⟩,I.loc,I.cell,?_,fun x c q=>?_,fun p hp=>?_,fun b v q=>?_,I.len⟩
 . have:=I.base.free b v q n hx;rw[zav (nn this)];exact this
 . have:=I.base.tups b xs q;rw[zav (ne this (by simp))];exact this
 . have h:=I.base.frzs b v u q;have:b≠d:=fun z=>n0 v u (by rw[<-z];exact q);rw[zav this];exact h
 . obtain⟨m,h⟩:=I.base.tbls b xs q;exact⟨m,by rw[zav (ne h (by simp))];exact h⟩
 . rw[zav (nn I.free)];exact I.free
 . rw[zav (nn (I.freeC x c q))];exact I.freeC x c q
 . obtain⟨a,b,c⟩:=I.pin p hp;exact⟨a,by rw[zav (nn b)];exact b,c⟩
 . by_cases hb:b=d
   . subst hb;rw[zbs] at q;cases q;exact (I.hok b _ hd).2.stay (fun c x _ y=>y) (fun c y=>by rw[zav (ne y (by simp))];exact y) fun c xs y=>by rw[zav (ne y (by simp))];exact y
   . rw[zav hb] at q;exact (I.hok b v q).stay (fun c x _ y=>y) (fun c y=>by rw[zav (ne y (by simp))];exact y) fun c xs y=>by rw[zav (ne y (by simp))];exact y
end
noncomputable def zlM(n:Nat)(st0 st:Sto):Option Sto:=match st0[n]? with
 | some (.dt _)=>match st[n]? with
   | some (.ft kvs)=>some (st.set n (.dt kvs))
   | _=>none
 | _=>none
noncomputable def zoO(i:Nat)(m:ME):ME:=fun ρ st=>match ρ[i]? with
 | some (some (.ref n))=>(m ρ st).bind fun (d,s)=>(zlM n st s).map fun t=>(d,t)
 | _=>none
section
variable {X:Cx} {e:Expr} {m:ME} {i:Nat}
theorem znI{K:PySem.W.Frag}{H H1:Hp}{io ka:List Addr}{st s1:Sto}{n:Nat}{p:Addr}{o:Obj}{ps ps0:List (List Key×V)}{kvs:List (List Key×D)}(S:StR K H io st)(X1:Ext io ka H H1)(S1:StR K H1 (io++ka) s1)
   (hn:io[n]?=some p) (h0:H p=some (.dT ps0)) (en:s1[n]?=some (.ft kvs)) (hp:H1 p=some (.frz o (.dT ps))) (r:KR (List Key) K H1 (io++ka) ps kvs) :
   Kl H1 (upd H1 p (.dT ps))/\Ext io ka H (upd H1 p (.dT ps))/\StR K (upd H1 p (.dT ps)) (io++ka) (s1.set n (.dt kvs)):=by
 have ne:∀ {b:Addr} {v:HO},H1 b=some v->v≠.frz o (.dT ps)->b≠p:=fun {b v} q nv z=>by
   subst z;rw[hp] at q;exact nv (Option.some.inj q).symm
 have T:Kl H1 (upd H1 p (.dT ps)):=⟨fun a xs q=>by rw[zav (ne q (by simp))];exact q,fun a v xs q=>by rw[zav (ne q (by simp))];exact q⟩
 have hn':(io++ka)[n]?=some p:=by rw[List.getElem?_append_left (List.getElem?_eq_some_iff.mp hn).1];exact hn
 refine⟨T,⟨fun b u h nb=>?_,X1.fresh,fun b v u h=>?_⟩,by rw[List.length_set];exact S1.len,S1.nd,fun k a ob h1 h2=>?_⟩
 . rw[zav (fun z=>nb (by rw[z];exact List.mem_of_getElem? hn))];exact X1.keep b u h nb
 . have:b≠p:=fun z=>by
     rw[z,h0] at h;cases h
   rw[zav this];exact X1.frz b v u h
 . by_cases hk:k=n
   . subst hk;rw[hn'] at h1
     cases (Option.some.inj h1)
     rw[List.getElem?_set,if_pos rfl] at h2
     split at h2
     . cases (Option.some.inj h2)
       exact⟨ps,zbs,KR.thawn T r⟩
     . cases h2
   . rw[List.getElem?_set_ne (fun z=>hk z.symm)] at h2;have hap:a≠p:=fun z=>by
       subst z;exact hk ((List.getElem?_inj (List.getElem?_eq_some_iff.mp h1).1 S1.nd).mp (h1.trans hn'.symm))
     exact OR.thawn T (zav hap) (S1.ob k a ob h1 h2)
theorem zn2(h:SE X e m):SE X e (zoO i m):=by
 rintro pins s σ H Q I ⟨ρ,st,io,d,st',E,S,e0,k⟩;unfold zoO at e0
 split at e0
 . rename_i n _;obtain⟨⟨d1,s1⟩,e1,e0⟩:=zae e0;obtain⟨t,e2,e0⟩:=zah e0;cases e0;unfold zlM at e2
   split at e2
   . rename_i kvs0 en0
     split at e2
     . rename_i kvs en;cases e2;refine thn (h pins s σ H (fun v H'=>∃ ka,Ext io ka H H'/\StR X.K H' (io++ka) s1/\Rep X.K H' (io++ka) v d) I ⟨ρ,st,io,d,s1,E,S,e1,fun v1 H1 k1 X1 S1 R1=>⟨k1,X1,S1,R1⟩⟩) ?_;rintro v s2 ⟨x,H1,I1,r1,k1,X1,S1,R1⟩;have hl:n < io.length:=by rw[S.len];exact (List.getElem?_eq_some_iff.mp en0).1
       obtain⟨ps0,h0,_⟩:=S.ob n _ _ (List.getElem?_eq_getElem hl) en0;have hn':(io++k1)[n]?=some io[n]:=by rw[List.getElem?_append_left hl];exact List.getElem?_eq_getElem hl
       obtain⟨o,ps,hp,r⟩:=S1.ob n _ _ hn' en;obtain⟨T,X2,S2⟩:=znI S X1 S1 (List.getElem?_eq_getElem hl) h0 en hp r;refine⟨x,_,Inv.thaw I1 hp (fun o u z=>?_),r1,k _ _ _ X2 S2 (Rep.thawn T R1)⟩;have:=I.base.frzs _ _ _ z;rw[h0] at this;cases this
     . cases e2
   . cases e2
 . cases e0
end
end L2.MP
set_option maxHeartbeats 4000000
namespace L2.MP
open PySem PySem.Spec PyProof.Rows
section
variable {prog:Program} {w:World} {A:Around} {E:Value->Shared->Prop} {s:Shared}
theorem zgZ{l:Addr}{vs:List Value}{R:Value->Shared->Prop}(ht:IsTup s.heap l vs.toArray)(hz:vs.length<=sizeLine)
   (go:∀ D h',(∀ b o,s.heap.get? b=some o->h'.get? b=some o)->s.heap.get? D=none->h'.get? D=some (seqObj "list" vs.toArray 0)->wpAny (model prog w) A.in1.in1 (Builtin.«list.sort» ⟨[.ref D],[]⟩) (fun f s'=>f=.done (.ret .none)/\R (.ref D) s') (fun _ _=>False) { s with heap:=h' }) :
   wpAny (model prog w) A (call (.builtin "sorted") [.ref l]) R E s:=by
 obtain⟨o,g,c,n,d⟩:=ht;refine Calls.call_function_entry kind_sorted plain_sorted entry_sorted (args_sorted1 _) ?_;unfold Builtin.«sorted»;refine wpAny_bind (m:=checkCount "sorted" 1 1 _) (wpAny_pure (wpAny_bind (PySem.wpAny_collect_seq l (.inr rfl) g c d (fun h1 k1=>wpAny_bind (wpAny_newList ?_ (by simpa using hz))) (by simpa using hz))));have g0:(h1.push (seqObj "list" vs.toArray 0)).get? h1.objs.size=some (seqObj "list" vs.toArray 0):=Heap.get?_push_size _ rfl;have fr:s.heap.get? h1.objs.size=none:=by
   cases e:s.heap.get? h1.objs.size with
   | none=>rfl
   | some u=>exact absurd (Heap.lt_size (k1 _ _ e)) (Nat.lt_irrefl _)
 refine wpAny_bind (wpAny_holding (wpAny_call_entry slot_list_sort ⟨_,g0,rfl⟩ entry_list_sort (wpAny_mono (go _ _ (fun b u e=>Heap.get?_push_of_some _ (k1 b u e)) fr g0) (fun f s' ⟨e,r⟩=>?_) fun _ _ x=>x.elim) (args_list_sort _)));subst e;exact⟨_,rfl,wpAny_pure ⟨_,rfl,r⟩⟩
theorem zlU{at_:Addr}{vs:List Value}{k:Nat}{R:PySem.Fin->Shared->Prop}(hv:vs.length < 2)(g0:s.heap.get? at_=some (seqObj "list" vs.toArray k))(fin:R (.done (.ret .none)) { s with heap:=sortedHeap s.heap at_ vs vs.toArray }) :
   wpAny (model prog w) A (Builtin.«list.sort» ⟨[.ref at_],[]⟩) R E s:=by
 have lt0:=Heap.lt_size g0;have hz:vs.length<=sizeLine:=Nat.le_trans (Nat.le_of_lt hv) (by decide);obtain⟨ep,g1⟩:∃ ep,(s.heap.update at_ (Obj.mapSeq fun _=>(#[]:Array Value))).get? at_=some (seqObj "list" #[] ep):=⟨_,get?_update_seq g0 fun _=>#[]⟩
 have g2:(((s.heap.update at_ (Obj.mapSeq fun _=>(#[]:Array Value))).push (seqObj "tuple" vs.toArray 0)).push (seqObj "list" #[] 0)).get? at_=some (seqObj "list" #[] ep):=Heap.get?_push_of_some _ (Heap.get?_push_of_some _ g1);rw[list_sort_plain];refine wpAny_bind (listItems_at g0 rfl (wpAny_bind (listUpdate_at g0 rfl (wpAny_bind (seqEpoch_at g1 rfl (wpAny_bind (wpAny_newTuple (wpAny_bind (wpAny_newList (wpAny_holding ?_))) (by simpa using hz))))) (by simpa using hz))));show wpAny (model prog w) A _ R E { s with heap:=((s.heap.update at_ (Obj.mapSeq fun _=>(#[]:Array Value))).push (seqObj "tuple" vs.toArray 0)).push (seqObj "list" #[] 0) };have two:vs.toArray.size < 2:=by simpa using hv
 have same:(arrOf (SortSt.mk' general' (vs.toArray.zip vs.toArray) #[] 7 none)).map (·.2)=vs.toArray:=by
   show ((vs.toArray.zip vs.toArray).map (·.2))=vs.toArray;simp;clear two g2 g1 g0 hz fin hv
   induction vs with
   | nil=>rfl
   | cons a r ih=>simpa using ih
 dsimp only;rw[if_pos two,if_pos two];refine wpAny_bind (wpAny_pure ?_);rw[StateT.run_pure];refine wpAny_bind (wpAny_pure ?_);dsimp only;rw[same];refine wpAny_bind (seqEpoch_at g2 rfl (wpAny_bind (listUpdate_at g2 rfl ?_ (hsz2:=by simp;omega))));simp only[bne_self_eq_false,Bool.false_eq_true,if_false];exact wpAny_pure fin
end
section
variable {X:Cx} {pins:List (Addr×Obj)} {σ:L2.St} {H:Hp} {s:Shared}
theorem Inv.notL(I:Inv X pins σ H s){D:Addr}(h:s.heap.get? D=none):D≠X.env.locals/\X.base.get? D=none/\H D=none:=by
 refine⟨fun z=>?_,?_,?_⟩
 . obtain⟨m,⟨o,_,_,e,_⟩,_⟩:=I.loc;rw[<-z,h] at e;cases e
 . cases e:X.base.get? D with
   | none=>rfl
   | some u=>rw[(I.bs D u e).1] at h;cases h
 . cases e:H D with
   | none=>rfl
   | some o =>
     obtain⟨u,hu⟩:=zhc (I.hok D o e);rw[h] at hu;cases hu
theorem ziB{xs:List V}{its:List Value}{D:Addr}{h':Heap}{Q:VK}(I:Inv X pins σ H s)(rv:Vals xs its)(h2:xs.length < 2)(k:∀ b o,s.heap.get? b=some o->h'.get? b=some o)(hD:s.heap.get? D=none)(gD:h'.get? D=some (seqObj "list" its.toArray 0))(h:∀ p,H p=none->Q (.ref p) (upd H p (.lst xs))) :
   wpAny (model X.prog X.w) X.A.in1.in1 (Builtin.«list.sort» ⟨[.ref D],[]⟩) (fun f s'=>f=.done (.ret .none)/\EP X pins σ Q (.ref D) s') (fun _ _=>False) { s with heap:=h' }:=by
 have hlen:=rv.length;have hz:xs.length<=sizeLine:=Nat.le_trans (Nat.le_of_lt h2) (by decide);refine zlU (by omega) gD ⟨rfl,?_⟩;obtain⟨n1,n2,n3⟩:=Inv.notL I hD;obtain⟨ep,e⟩:=sortedHeap_at (out:=its.toArray) gD;have kk:∀ b u,s.heap.get? b=some u->(sortedHeap h' D its its.toArray).get? b=some u:=fun b u q=>by
   have hb:b≠D:=fun z=>by rw[z,hD] at q;cases q
   rw[sortedHeap_old hb (Heap.lt_size (k b u q))];exact k b u q
 have J:Inv X pins σ (upd H D (.lst xs)) { s with heap:=sortedHeap h' D its its.toArray }:=by
   obtain⟨m,F⟩:=I.fr;refine Inv.laidAt (m:=m) I (fun b u _=>kk b u) (fun m' ⟨o,a1,a2,q,a3⟩=>⟨o,a1,a2,kk _ _ q,a3⟩) (let ⟨m',⟨o,_,_,q,_⟩,_⟩:=I.loc;⟨o,kk _ _ q⟩) hD n3 n1 ⟨hz,its,ep,rv,e⟩
 exact⟨.ref D,_,J,rfl,h D n3⟩
theorem ziA{xs:List V}{its:List Value}{ts:List (List Int)}{D:Addr}{h0:Heap}{Q:VK}(I:Inv X pins σ H s)(rv:Vals xs its)(T:zia H xs ts)(h2:2<=ts.length)(h64:ts.length < 64)(k0:∀ b o,s.heap.get? b=some o->h0.get? b=some o)(hsD:s.heap.get? D=none)(gD:h0.get? D=some (seqObj "list" its.toArray 0))
   (h:∀ (q:Array Nat) (p:Addr),q.Perm (List.toArray (List.range ts.length))->Srt.Up (rank ts) q ts.length->H p=none->Q (.ref p) (upd H p (.lst (q.toList.map fun i=>xs.getD i .non)))) :
   wpAny (model X.prog X.w) X.A.in1.in1 (Builtin.«list.sort» ⟨[.ref D],[]⟩) (fun f s'=>f=.done (.ret .none)/\EP X pins σ Q (.ref D) s') (fun _ _=>False) { s with heap:=h0 }:=by
 have hlen:its.length=ts.length:=by
   have a:=rv.length;have b:=Paired.length T;omega
 obtain⟨m,F⟩:=I.fr;have trkL:∀ b,H b≠none->b≠X.env.locals:=fun b hb z=>hb (by rw[z];exact I.free);obtain⟨n1,n2,hHD⟩:=Inv.notL I hsD;have nD:∀ p∈zed X.base s.heap X.env.locals,p.1≠D:=fun p hp z=>by
   have q:=(zgG (g:=X.base) (h:=s.heap) (L:=X.env.locals) p hp).1;rw[z,hsD] at q;cases q
 refine PySem.W.kat_list_sort (s:={ s with heap:=h0 }) (news:=zed X.base s.heap X.env.locals) (F.kept k0) ((zgG (g:=X.base) (h:=s.heap) (L:=X.env.locals)).grown k0) gD n1 n2 nD (by omega) (by omega) fun e1 h' F' N'=>?_;have keep:∀ {h2:Heap} {o:Obj},PyProof.Rows.Fr X.base X.env.locals h2 m->News X.base X.env.locals h2 ((D,o)::zed X.base s.heap X.env.locals)->∀ b u,b≠X.env.locals->s.heap.get? b=some u->h2.get? b=some u:=fun {h2 o} F2 N2 b u hb e=>by
   cases q:X.base.get? b with
   | some v =>
     have z:=(I.bs b v q).1;rw[e] at z;cases z;exact F2.keep b _ q
   | none=>exact (N2 (b,u) (List.mem_cons_of_mem _ (zdn hb q e))).1
 have hk:∀ b o,H b≠none->s.heap.get? b=some o->h'.get? b=some o:=fun b o hb e=>keep F' N' b o (trkL b hb) e;obtain⟨fs,k1,k2,k3⟩:=zgN (h':=h') I hk T rv;refine PySem.W.kat_kind (s:={ s with heap:=h' }) (T:=.type "int") k1 (by omega) (fun v hv=>?_) rfl ?_
 . obtain⟨i,t,rfl⟩:=k3 v hv;exact PySem.W.Looks.of_pure rfl
 have ok:=Srt.sort_ok (n:=its.length) (r:=rank ts) (by omega);refine zrg (n:=its.length) (r:=rank ts) (s:={ s with heap:=h' }) (fun i j hi hj C hC=>zps (s':={ s with heap:=h' }) I hk T rv (by omega) (by omega) C hC) (fun q hq=>?_) ok;refine PySem.W.KasFin.intro F' N' (PySem.W.UpdF.head nD) fun h2 c F2 N2=>⟨rfl,?_⟩
 have hD2:=(N2 _ List.mem_cons_self).1;rw[hlen] at hq;have vals:Vals (q.toList.map fun i=>xs.getD i .non) (q.toList.map fun i=>its.getD i Value.none):=by
   have hmem:∀ i∈q.toList,i < xs.length:=fun i hi=>by
     have:i∈(List.toArray (List.range ts.length)).toList:=(Array.perm_iff_toList_perm.mp hq.1).mem_iff.mp hi;have hr:=rv.length;simp at this;omega
   generalize q.toList=ql at hmem
   induction ql with
   | nil=>exact .nil
   | cons i r ih =>
     refine .cons ?_ (ih fun j hj=>hmem j (List.mem_cons_of_mem _ hj));have hi:=hmem i List.mem_cons_self;obtain⟨u,eu,ru⟩:=rv.get (List.getElem?_eq_getElem hi);show RelV (xs.getD i V.non) (its.getD i Value.none);rw[List.getD_eq_getElem?_getD,List.getD_eq_getElem?_getD,List.getElem?_eq_getElem hi,eu];exact ru
 have hql:q.toList.length=ts.length:=by
   have:=(Array.perm_iff_toList_perm.mp hq.1).length_eq;simpa using this
 have J:Inv X pins σ (upd H D (.lst (q.toList.map fun i=>xs.getD i .non))) { s with heap:=h2 } :=
   Inv.laidAt (m:=m) I (keep F2 N2) (fun m' hm'=>by rw[zoD hm' F.ns];exact F2.ns) (let ⟨o,_,_,e,_⟩:=F2.ns;⟨o,e⟩) hsD hHD n1 ⟨by rw[List.length_map,hql];exact lt64 h64,_,c,vals,hD2⟩
 exact⟨.ref D,_,J,rfl,h q D hq.1 hq.2 hHD⟩
end
section
variable {X:Cx} {K:PySem.W.Frag} {H:Hp} {io:List Addr} {st st':Sto}
theorem zes{Q:VK}{xs:List V}{ts:List (List Int)}{p:Addr}{q:Array Nat}(S:StR K H io st)(r1:Reps K H io xs (ts.map tupD))(hq:q.Perm (List.toArray (List.range ts.length)))(hu:Srt.Up (rank ts) q ts.length)(hf:H p=none)(k:Bh K io H (st++[.lst ((zfu ts).map tupD)]) (.ref st.length) Q):Q (.ref p) (upd H p (.lst (q.toList.map fun i=>xs.getD i .non))):=by
 have hm:∀ i∈q.toList,i < ts.length:=fun i hi=>by
   have:=(Array.perm_iff_toList_perm.mp hq).mem_iff.mp hi;simpa using this
 have rr:=ze6 r1 hm;rw[zey hq hu] at rr;exact k.lst S rr hf
noncomputable def zeS:GN
 | [.tup ds],st=>if decide (ds.length < 2)=true then some (.ref st.length,st++[.lst ds]) else (rowsOf ds).bind fun ts=>if (decide (2<=ts.length)&&decide (ts.length < 64))=true then some (.ref st.length,st++[.lst ((zfu ts).map tupD)]) else none
 | _,_=>none
theorem zf4:zdt X (.builtin "sorted") zeS:=by
 rintro pins s σ H xs us Q I r ⟨ds,st,io,d,st',R,S,e,k⟩;unfold zeS at e
 split at e
 . rename_i zs;obtain⟨v,rfl,p,ys,rfl,hp,r1⟩:=R.one;obtain⟨u,rfl,ru⟩:=r.one;cases ru;have hx:SqT X.K H p ys:=.inl (.inl hp)
   split at e
   . rename_i hl;cases e;have e2:=r1.length;obtain⟨its,rv,pl,hz⟩:=I.tuple hx;exact zgZ pl (by have:=rv.length;omega) fun D h' k0 hD gD=>ziB I rv (by rw[e2];exact of_decide_eq_true hl) k0 hD gD fun q hf=>k.lst S r1 hf
   . obtain⟨ts,e1,e⟩:=zae e;obtain⟨hl,e⟩:=zap e;cases e;rw[Bool.and_eq_true] at hl;obtain⟨T,hd⟩:=zg5 r1 e1;subst hd;obtain⟨its,rv,pl,hz⟩:=I.tuple hx;refine zgZ pl (by have:=rv.length;omega) fun D h' k0 hD gD=>ziA I rv T (of_decide_eq_true hl.1) (of_decide_eq_true hl.2) k0 hD gD fun q p' hq hu hf=>zes S r1 hq hu hf k
 . cases e
noncomputable def zdQ:GN:=orN zci zeS
theorem zea:zdt X (.builtin "sorted") zdQ:=zds zcP zf4
noncomputable def zpM:G2
 | .tup a,.tup b,st=>if (a.isEmpty&&fits b.length)=true then some (.tup b,st) else none
 | _,_,_=>none
theorem zmA:OpM X (binaryOp .Add) zpM:=by
 rintro pins s σ H x y v u Q I rx ry ⟨dx,dy,st,io,d,st',Rx,Ry,S,e,k⟩;unfold zpM at e
 split at e
 . rename_i i j;obtain⟨hf,e⟩:=zap e;cases e;rw[Bool.and_eq_true] at hf;obtain⟨p,xs,rfl,hp,r1⟩:=Rx;obtain⟨q,ys,rfl,hq,r2⟩:=id Ry;cases rx;cases ry;obtain⟨m,F⟩:=I.fr;obtain⟨its,w1,p1,_⟩:=I.tuple (SqT.of hp);obtain⟨its2,w2,p2,_⟩:=I.tuple (SqT.of hq);have e0:its=[]:=by
     have a:=r1.length;have b:=w1.length;have c:i=[]:=by simpa using hf.1
     rw[c] at a;exact List.eq_nil_of_length_eq_zero (by have a':xs.length=0:=a;omega)
   have hz:its2.length<=sizeLine:=by
     have a:=r2.length;have b:=w2.length;have c:=of_decide_eq_true hf.2;omega
   exact PyProof.Rows.add_tuples F (news:=[]) (fun p hp=>nomatch hp) p1 p2 (fun _=>⟨.ref q,H,I,rfl,k.now S Ry⟩) (fun z _=>absurd e0 z) (fun z _=>absurd e0 z) (by rw[e0];simpa using hz)
 . cases e
noncomputable def addE:G2:=orG addD zpM
theorem zoA:OpM X (binaryOp .Add) addE:=zmv zaL zmA
end
end L2.MP
set_option maxHeartbeats 4000000
namespace L2.MP
open PySem PySem.Spec PyProof.Rows PySem.SeqAt PySem.MeetsSeq PySem.MeetsSeq2 PySem.MeetsSeq3
end L2.MP
namespace L2.MP
open PySem L2 PySem.Spec PyProof.Rows
section
variable {K:PySem.W.Frag} {x:Str} {st:Stmt} {f:Addr}
structure FdIn(K:PySem.W.Frag)(x:Str)(st:Stmt)(f:Addr):Prop where
 ex:∃ (oc:Value) (od:Option Addr) (kV dc pm:Value) (an:Option Addr) (cd ct:Value) (sl:Array (Option Value)),K.lookup f=some ⟨oc,od,.func (PySem.W.fnOf x x (zd6 st) (zcG st) (zaq st) .none kV dc pm an cd ct),sl⟩/\PySem.W.codeIn K cd x=true
 ns:PySem.W.nsIn K mainGlobals x=some (some (.ref f))
 kp:PySem.W.keepIn K (.ref f)=true
theorem zc7{oc kV dc pm cd ct:Value}{od an:Option Addr}{sl:Array (Option Value)}(a:PySem.W.nsIn K mainGlobals x=some (some (.ref f)))(l:K.lookup f=some ⟨oc,od,.func (PySem.W.fnOf x x (zd6 st) (zcG st) (zaq st) .none kV dc pm an cd ct),sl⟩)(c:PySem.W.codeIn K cd x=true)(k:PySem.W.keepIn K (.ref f)=true):FdIn K x st f :=
 ⟨⟨oc,od,kV,dc,pm,an,cd,ct,sl,l,c⟩,a,k⟩
theorem zaU{h:Heap}{mg:Str->Option Value}{ps:List Str}(F:FdIn K x st f)(X:K.In h)(G:h.Ns mainGlobals mg)(b:∀ (kV doc pm:Value) (an:Option Addr) (cdv ct:Value) (us:List Value),us.length=ps.length->bindArgs (PySem.W.fnOf x x (zd6 st) (zcG st) (zaq st) .none kV doc pm an cdv ct) ⟨us,[]⟩=pure (ps.zip us)):Laid K mg x st ps:=by
 obtain⟨⟨oc,od,kV,dc,pm,an,cd,ct,sl,l,c⟩,a,k⟩:=F;exact⟨_,_,zm7 l c k,PySem.W.mg_of X G a,(zm7 l c k).binds b⟩
end
theorem len1{α:Type}{P:List α->Prop}(h:∀ a,P [a])(l:List α)(e:l.length=1):P l:=by
 rcases l with _ | ⟨a,_ | ⟨b,l⟩⟩
 . cases e
 . exact h a
 . cases e
theorem len2{α:Type}{P:List α->Prop}(h:∀ a b,P [a,b])(l:List α)(e:l.length=2):P l:=by
 rcases l with _ | ⟨a,l⟩
 . cases e
 . exact len1 (P:=fun l=>P (a::l)) (h a) l (Nat.succ.inj e)
theorem len3{α:Type}{P:List α->Prop}(h:∀ a b c,P [a,b,c])(l:List α)(e:l.length=3):P l:=by
 rcases l with _ | ⟨a,l⟩
 . cases e
 . exact len2 (P:=fun l=>P (a::l)) (h a) l (Nat.succ.inj e)
theorem len4{α:Type}{P:List α->Prop}(h:∀ a b c d,P [a,b,c,d])(l:List α)(e:l.length=4):P l:=by
 rcases l with _ | ⟨a,l⟩
 . cases e
 . exact len3 (P:=fun l=>P (a::l)) (h a) l (Nat.succ.inj e)
end L2.MP
set_option maxHeartbeats 4000000
namespace L2.MP
open PySem PySem.Spec PyProof.Rows
section
variable {prog:Program} {w:World} {A:Around} {E:Value->Shared->Prop} {s:Shared}
theorem zkd{T:String}{r d:Addr}{n:Nat}{P:Nat->Value->Prop}{OK:Heap->Prop}{R:Value->Shared->Prop}(K:PySem.W.KdlSrc prog w T r d n P OK)(hh:A.handled=none)(hok:OK s.heap)(hz:n<=sizeLine)
   (go:∀ (D:Addr) (h':Heap) (tk:Nat) (vs:List Value),(∀ b o,s.heap.get? b=some o->h'.get? b=some o)->s.heap.get? D=none->h'.get? D=some (seqObj "list" vs.toArray 0)->vs.length=n->(∀ (j:Nat) (v:Value),vs[j]?=some v->P j v)->wpAny (model prog w) A.in1.in1 (Builtin.«list.sort» ⟨[.ref D],[]⟩) (fun f s'=>f=.done (.ret .none)/\R (.ref D) s') (fun _ _=>False) { s with heap:=h',toks:=tk }) :
   wpAny (model prog w) A (call (.builtin "sorted") [.ref r]) R E s:=by
 refine Calls.call_function_entry kind_sorted plain_sorted entry_sorted (args_sorted1 _) ?_;unfold Builtin.«sorted»;refine wpAny_bind (m:=checkCount "sorted" 1 1 _) (wpAny_pure (wpAny_bind (PySem.W.kdu_collect (A:=A.in1) K hh hok hz fun h1 tk acc k1 hacc=>wpAny_bind (wpAny_newList ?_ (by rw[Array.length_toList,hacc.1];exact hz)))));have g0:(h1.push (seqObj "list" acc.toList.toArray 0)).get? h1.objs.size=some (seqObj "list" acc.toList.toArray 0):=Heap.get?_push_size _ rfl;have fr:s.heap.get? h1.objs.size=none:=by
   cases e:s.heap.get? h1.objs.size with
   | none=>rfl
   | some u=>exact absurd (Heap.lt_size (k1 _ _ e)) (Nat.lt_irrefl _)
 refine wpAny_bind (wpAny_holding (wpAny_call_entry slot_list_sort ⟨_,g0,rfl⟩ entry_list_sort (wpAny_mono (go _ _ tk acc.toList (fun b u e=>Heap.get?_push_of_some _ (k1 b u e)) fr g0 (by rw[Array.length_toList,hacc.1]) fun j v e=>hacc.2 j v (by rw[<-Array.getElem?_toList];exact e)) (fun f s' ⟨e,r⟩=>?_) fun _ _ x=>x.elim) (args_list_sort _)));subst e;exact⟨_,rfl,wpAny_pure ⟨_,rfl,r⟩⟩
end
section
variable {X:Cx} {K:PySem.W.Frag} {H:Hp} {io:List Addr} {st st':Sto}
noncomputable def zdj:GN
 | [.ref n],st=>match st[n]? with
   | some (.dt kvs)=>if fits kvs.length=true then (if decide ((zcU kvs).length < 2)=true then some (.ref st.length,st++[.lst (zcU kvs)]) else (rowsOf (zcU kvs)).bind fun ts=>if (decide (2<=ts.length)&&decide (ts.length < 64))=true then some (.ref st.length,st++[.lst ((zfu ts).map tupD)]) else none) else none
   | _=>none
 | _,_=>none
theorem Inv.tk{pins:List (Addr×Obj)}{σ:L2.St}{s:Shared}(I:Inv X pins σ H s)(t':Nat):Inv X pins σ H { s with toks:=t' }:=Inv.step (t':=t') (ch:=[]) (g':=s.gens) (d':=s.drawn) I (fun b hb=>absurd hb (by simp)) (fun b u _ _ _ e _=>e) (fun b u _ _ _ e _=>⟨u.slots,e⟩) (fun b u _ e n=>n) (fun b u _ e=>⟨u,e⟩)
   (fun b xs e=>e) (fun b u v e=>e) (fun b ps e=>⟨#[],by rw[e];simp⟩) (fun m h=>h) (fun b u e=>I.hok b u e) I.bare
theorem zf7(hc:X.calm=true):zdt X (.builtin "sorted") zdj:=by
 rintro pins s σ H xs us Q I r ⟨ds,st,io,d,st',R,S,e,k⟩;unfold zdj at e
 split at e
 . rename_i n
   split at e
   . rename_i kvs en;obtain⟨hf,e⟩:=zap e;obtain⟨v,rfl,p,rfl,hp⟩:=R.one;obtain⟨u,rfl,ru⟩:=r.one;cases ru;obtain⟨ps,hH,rk⟩:=S.ob n p _ hp en;obtain⟨t1,t2,hs⟩:=zjo I (.inr ⟨ps,.inl hH⟩);obtain⟨z,y,xs,r0,o,es,ep,g,ex,dd,et,nd⟩:=I.hok p _ hH;have x:=I.hok p _ hH;have fz:zdc X.prog X.w H s.heap p (.frz o (.dT ps)):=⟨g,x⟩
     obtain⟨g',hl,ent⟩:=zfr fz dd;have hsz:es.size<=sizeLine:=by
       rw[hl,KR.length rk];exact of_decide_eq_true hf
     refine zkd (zix (prog:=X.prog) (w:=X.w) dd hs (fun s' g'=>?_)) (I.ok.hd hc) g hsz fun D h' tk vs hk hD gD hvl hvs=>?_
     . obtain⟨o',ho',hc'⟩:=t1;rw[g] at ho';cases ho';exact⟨o,g',hc'⟩
     . obtain⟨ys,rv,rr⟩:=zfn (vs:=vs) rk (by rw[hvl,hl]) fun j v q e1 e2=>by
         obtain⟨en',h1,h2⟩:=hvs j v e1;obtain⟨en2,b,h3,h4,h5,_⟩:=ent j q.1 q.2 e2;rw[h1] at h3;cases h3;exact⟨b,by rw[h2,h4],h5⟩
       have hyl:ys.length=(zcU kvs).length:=rr.length
       split at e
       . rename_i h2;cases e;exact ziB (s:={ s with toks:=tk }) (Inv.tk I tk) rv (by rw[hyl];exact of_decide_eq_true h2) hk hD gD fun q hf=>k.lst S rr hf
       . obtain⟨ts,e1,e⟩:=zae e;obtain⟨h2,e⟩:=zap e;cases e;rw[Bool.and_eq_true] at h2;obtain⟨T,hd⟩:=zg5 rr e1;rw[hd] at rr;exact ziA (s:={ s with toks:=tk }) (Inv.tk I tk) rv T (of_decide_eq_true h2.1) (of_decide_eq_true h2.2) hk hD gD fun q p' hq hu hf=>zes S rr hq hu hf k
   . cases e
 . cases e
end
end L2.MP
namespace L2.MP.Hb
open PySem L2.MP
end L2.MP.Hb
set_option maxHeartbeats 2000000
namespace L2.MP
open PySem
theorem zgT{f:D->Option PyData}(hf:∀ x:Int,f (.int x)=some (.int x)):∀ as:List Int,toPs f (as.map D.int)=some (as.map PyData.int)
 | []=>rfl
 | x::as=>by
   rw[List.map_cons,toPs,hf x,Option.bind_some,zgT hf as];rfl
theorem zdh{n:Nat}{st:Sto}{k:Nat}{as:List Int}(hk:st[k]?=some (.lst (as.map D.int))):toP (n+2) st (.ref k)=some (.list (as.map PyData.int)):=by
 rw[toP];simp only[zbu,hk,Option.bind_some];rw[zgT (fun x=>by rw[toP])];rfl
end L2.MP
namespace L2.MP.Hb
open PySem L2.MP
end L2.MP.Hb
set_option maxHeartbeats 2000000
namespace L2.MP.Hb
open PySem L2.MP
end L2.MP.Hb
set_option maxHeartbeats 2000000
namespace L2.MP.Hb
open PySem L2.MP
noncomputable abbrev sgD (c:Nat):D:=.str ⟨#[c]⟩
end L2.MP.Hb
set_option maxHeartbeats 2000000
namespace L2.MP.Hb
open PySem L2.MP
theorem zjK(c:Nat):∀ (k:Nat) (a:Array Nat),((List.replicate k #[c]).foldl (·++·) a).toList=a.toList++List.replicate k c
 | 0,a=>by simp
 | k+1,a=>by
   rw[List.replicate_succ,List.foldl_cons,zjK c k (a++#[c])];simp[List.replicate_succ]
theorem zg8{c:Nat}{n:Int}(h1:1<=n):(repS ⟨#[c]⟩ n).cps.toList=List.replicate n.toNat c:=by
 unfold repS;rw[if_neg (by omega)]
 by_cases hn:n=1
 . subst hn;rfl
 . rw[if_neg]
   . exact zjK c n.toNat #[]
   . simp[hn];show ¬ ((⟨#[c]⟩:Str).length=0);show ¬ (1=0)
     decide
theorem zdm{c:Nat}{n:Int}{st:Sto}(h1:1<=n)(h2:n<=1000):mulA (sgD c) (.int n) st=some (.str (repS ⟨#[c]⟩ n),st):=by
 have hl:(repS ⟨#[c]⟩ n).length=n.toNat:=by rw[len_list,zg8 h1,List.length_replicate]
 have e1:(⟨#[c]⟩:Str).length=1:=rfl;have hz:sizeLine=16777216:=sizeLine_eq;have:(decide (-(2 ^ 62)<=n)&&decide (n < 2 ^ 20)&&decide ((⟨#[c]⟩:Str).length*n.toNat<=sizeLine)&&decide ((repS ⟨#[c]⟩ n).length<=sizeLine))=true:=by
   rw[hl,e1,hz];rw[decide_eq_true (show -(2 ^ 62)<=n by omega),decide_eq_true (show n < 2 ^ 20 by omega),decide_eq_true (show 1*n.toNat<=16777216 by omega),decide_eq_true (show n.toNat<=16777216 by omega)];rfl
 show mulA (.str ⟨#[c]⟩) (.int n) st=_;unfold mulA orG mulD intD;dsimp only;rw[zfv];unfold zpD;dsimp only;rw[if_pos this]
end L2.MP.Hb
set_option maxHeartbeats 2000000
namespace L2.MP.Hb
open PySem L2.MP
end L2.MP.Hb
set_option maxHeartbeats 2000000
namespace L2.MP.Hb
open PySem L2.MP
end L2.MP.Hb
set_option maxHeartbeats 2000000
namespace L2.MP.Hb
open PySem L2.MP
end L2.MP.Hb
set_option maxHeartbeats 4000000
namespace L2.MP.Hb
open PySem L2.MP
end L2.MP.Hb
namespace L2.MP.Hd
open PySem L2.MP
noncomputable def zcH:MS:=mSeq (mAsg (mBin ixA (mVar 0) (mCon (.int 0))) (gNm 1)) (mSeq (mAsg (mBin ixA (mVar 0) (mCon (.int 1))) (gNm 2)) (mRet (mTup (zad (mTup (zad (mVar 1) (zad (mBin addD (mVar 2) (mCon (.int 1))) (mNil)))) (zad (mTup (zad (mBin addD (mVar 1) (mCon (.int 1))) (zad (mVar 2) (mNil)))) (zad (mTup (zad (mVar 1) (zad (mBin subD (mVar 2) (mCon (.int 1))) (mNil)))) (zad (mTup (zad (mBin subD (mVar 1) (mCon (.int 1))) (zad (mVar 2) (mNil)))) (mNil))))))))
noncomputable def zay:GN:=fnM 3 zcH
noncomputable def zee:MS:=mSeq (mAsg (mBin ixA (mBin ixA (mVar 0) (mCon (.int 0))) (mCon (.int 2))) (gNm 2)) (mSeq (mIf (mTst (zfX leD ltD (mCon (.int 0)) (mVar 1) (zar lenD (zad (mVar 2) (mNil))))) (mRet (mSlB (mBin ixA (mVar 2) (mVar 1)) (zln (mCon (.int 1))) (zlo))) (zdK)) (mRet (mTup (zad (mCon (.str "")) (zad (mCon (.str "")) (zad (mCon (.str "")) (zad (mCon (.str "")) (mNil))))))))
noncomputable def zbH:GN:=fnM 3 zee
noncomputable def zbh:MS:=putA (mVar 1) (mTup (zad (mVar 2) (zad (mVar 3) (mNil)))) (mVar 4)
noncomputable def zcw:MS:=mSeq (mAsg (zoR true) (gNm 1)) (mSeq (mFor (mWA (mVar 0)) (gTp 3 (gC (gNm 2) (gC (gNm 3) (gC (gNm 4) (gN0))))) (zbh)) (mRet (mVar 1)))
noncomputable def zbd:GN:=fnM 5 zcw
noncomputable def zaM:MS:=mIf (mTst (mBin inA (mVar 5) (mVar 1))) (mExp (mApp (mVar 3) (zad (mBin ixA (zar zbH (zad (mVar 0) (zad (mBin ixA (mVar 1) (mVar 5)) (mNil)))) (mBin modD (mBin addD (mVar 4) (mCon (.int 2))) (mCon (.int 4)))) (mNil)))) (mExp (mApp (mVar 3) (zad (mCon (.str "")) (mNil))))
noncomputable def zdg:MS:=mSeq (mAsg (mLst (mNil)) (gNm 3)) (mSeq (mFor (zoQ (zar zay (zad (mVar 2) (mNil)))) (gTp 2 (gC (gNm 4) (gC (gNm 5) (gN0)))) (zaM)) (mRet (mVar 3)))
noncomputable def zbA:GN:=fnM 6 zdg
noncomputable def zaK:ME:=mBin ixA (mVar 2) (mVar 0)
noncomputable def zaJ:MT:=zfw (mTst (mBin eqD (mVar 0) (mVar 1))) (mTst (mBin neD (mVar 0) (mCon (.str ""))))
noncomputable def zb5:MS:=mRet (zar sumC (zad (zcO (mZip (mVar 1) (mVar 2)) 2 [0] (gTp 2 (gC (gNm 0) (gC (gNm 1) (gN0)))) (zaJ) (zaK)) (mNil)))
noncomputable def zaP:GN:=fnM 3 zb5
noncomputable def zcv:MS:=mSeq (mAsg (mIte (mTst (mBin ltD (mVar 1) (zar lenD (zad (mVar 0) (mNil))))) (mBin ixA (mVar 0) (mVar 1)) (mCon (.int 0))) (gNm 2)) (mSeq (mAsg (mBin mulB (mBin mulB (mBin mulB (mBin mulB (mBin powB (mCon (.int 10)) (mCon (.int 60))) (mBin powB (mCon (.int 10)) (mCon (.int 60)))) (mBin powB (mCon (.int 10)) (mCon (.int 60)))) (mBin powB (mCon (.int 10)) (mCon (.int 60)))) (mBin powB (mCon (.int 10)) (mCon (.int 60)))) (gNm 3)) (mSeq (mAsg (mBin mulB (mBin modD (mVar 2) (mVar 3)) (zar intC (zad (mBin geD (mVar 2) (mBin powB (mCon (.int 10)) (mCon (.int 18)))) (mNil)))) (gNm 4)) (mRet (mLst (zad (mVar 4) (zad (mBin modD (mBin addD (mBin modD (mVar 2) (mCon (.int 2305843009213693951))) (mBin mulA (mCon (.int 7919)) (mVar 1))) (mCon (.int 2305843009213693951))) (zad (mCon (.int 0)) (mNil))))))))
noncomputable def zb3:GN:=fnM 5 zcv
noncomputable def zbV:MS:=mSeq (mIf (mTst (mBin gtD (mBin ixA (mVar 0) (mCon (.int 0))) (mCon (.int 0)))) (mSeq (mAsg (mBin modD (mBin ixA (mVar 0) (mCon (.int 0))) (mVar 1)) (gNm 2)) (mSeq (putA (mVar 0) (mCon (.int 0)) (mBin zj0 (mBin ixA (mVar 0) (mCon (.int 0))) (mVar 1))) (mRet (mVar 2)))) (zdK)) (mSeq (putA (mVar 0) (mCon (.int 2)) (mBin addD (mBin ixA (mVar 0) (mCon (.int 2))) (mCon (.int 1)))) (mSeq (mAsg (mBin modD (mBin mulA (mBin addD (mBin addD (mBin ixA (mVar 0) (mCon (.int 1))) (mBin mulA (mBin mulA (mCon (.int 104729)) (mBin ixA (mVar 0) (mCon (.int 2)))) (mBin ixA (mVar 0) (mCon (.int 2))))) (mBin mulA (mCon (.int 31)) (mBin ixA (mVar 0) (mCon (.int 2))))) (mCon (.int 48271))) (mCon (.int 2305843009213693921))) (gNm 3)) (mSeq (mAsg (mBin modD (mBin mulA (mVar 3) (mBin addD (mBin modD (mVar 3) (mCon (.int 1000003))) (mBin mulA (mCon (.int 39373)) (mBin ixA (mVar 0) (mCon (.int 2)))))) (mCon (.int 2305843009213693907))) (gNm 3)) (mRet (mBin modD (mBin addD (mBin zj0 (mVar 3) (mCon (.int 65537))) (mBin zj0 (mVar 3) (mCon (.int 1000033)))) (mVar 1))))))
noncomputable def zac:GN:=fnM 4 zbV
noncomputable def za5:ME:=mBin mulA (mBin ixA (mVar 1) (mVar 2)) (mBin addD (mVar 0) (mCon (.int 1)))
noncomputable def za4:ME:=mBin mulA (mBin ixA (mVar 1) (mBin modD (mBin addD (mVar 2) (mBin mulA (mVar 3) (mVar 0))) (mCon (.int 26)))) (mBin addD (mCon (.int 1)) (mBin modD (mBin addD (mBin mulA (mVar 0) (mVar 0)) (mVar 2)) (mCon (.int 8))))
noncomputable def zct:MS:=mSeq (mAsg (mCon (.str "abcdefghijklmnopqrstuvwxyz")) (gNm 2)) (mSeq (mAsg (mTup (zad (zar zac (zad (mVar 0) (zad (mCon (.int 26)) (mNil)))) (zad (mBin ixA (mLst (zad (mCon (.int 1)) (zad (mCon (.int 3)) (zad (mCon (.int 5)) (zad (mCon (.int 7)) (zad (mCon (.int 9)) (zad (mCon (.int 11)) (mNil)))))))) (zar zac (zad (mVar 0) (zad (mCon (.int 6)) (mNil))))) (mNil)))) (gTp 2 (gC (gNm 3) (gC (gNm 4) (gN0))))) (mSeq (mIf (mTst (mBin eqD (zar zac (zad (mVar 0) (zad (mCon (.int 3)) (mNil)))) (mCon (.int 0)))) (mRet (zcO (mR1 (mVar 1)) 1 [2,3] (gNm 0) (zck) (za5))) (zdK)) (mRet (zar zci (zad (zcO (mR1 (mVar 1)) 1 [2,3,4] (gNm 0) (zck) (za4)) (mNil))))))
noncomputable def zb1:GN:=fnM 5 zct
noncomputable def za3:ME:=mBin ixA (mBin addD (mLst (zad (mCon (.str "")) (mNil))) (mVar 1)) (zar zac (zad (mVar 2) (zad (mBin addD (zar lenD (zad (mVar 1) (mNil))) (mCon (.int 1))) (mNil))))
noncomputable def zeh:MS:=mSeq (mAsg (mBin ixA (mLst (zad (mCon (.str "")) (zad (mBin ixA (mCon (.str "abcdefghijklmnopqrstuvwxyz0123456789")) (zar zac (zad (mVar 0) (zad (mCon (.int 36)) (mNil))))) (mNil)))) (zar zac (zad (mVar 0) (zad (mCon (.int 2)) (mNil))))) (gNm 2)) (mSeq (mAsg (zcO (mR1 (mCon (.int 4))) 1 [1,0] (gNm 0) (zck) (za3)) (gNm 3)) (mRet (mTup (zad (mVar 2) (zad (mBin ixA (mVar 3) (mCon (.int 0))) (zad (mBin ixA (mVar 3) (mCon (.int 1))) (zad (mBin ixA (mVar 3) (mCon (.int 2))) (zad (mBin ixA (mVar 3) (mCon (.int 3))) (mNil)))))))))
noncomputable def zcg:GN:=fnM 4 zeh
noncomputable def za6:ME:=mTup (zad (mVar 0) (zad (mBin ixA (mLst (zad (mCon (.int 1)) (zad (mCon (.int 2)) (zad (mCon (.int 1)) (zad (mBin addD (mCon (.int 1)) (zar zac (zad (mVar 1) (zad (mCon (.int 4)) (mNil))))) (mNil)))))) (zar zac (zad (mVar 1) (zad (mCon (.int 4)) (mNil))))) (mNil)))
noncomputable def zbo:ME:=zar zcg (zad (mVar 1) (zad (mVar 2) (mNil)))
noncomputable def zcu:MS:=mSeq (mAsg (zar zb1 (zad (mVar 0) (zad (mBin addD (mCon (.int 1)) (zar zac (zad (mVar 0) (zad (mCon (.int 4)) (mNil))))) (mNil)))) (gNm 1)) (mSeq (mAsg (mBin ixA (mLst (zad (mCon (.int 1)) (zad (mCon (.int 1)) (zad (mCon (.int 2)) (zad (mCon (.int 2)) (zad (mCon (.int 1)) (zad (mCon (.int 3)) (zad (mCon (.int 4)) (zad (mCon (.int 2)) (mNil)))))))))) (zar zac (zad (mVar 0) (zad (mCon (.int 8)) (mNil))))) (gNm 2)) (mSeq (mAsg (zar zdN (zad (zcO (mWA (mVar 1)) 1 [0] (gNm 0) (zck) (za6)) (mNil))) (gNm 3)) (mSeq (mAsg (zcO (mR1 (mBin addD (mCon (.int 1)) (zar zac (zad (mVar 0) (zad (mBin ixA (mLst (zad (mCon (.int 3)) (zad (mCon (.int 5)) (zad (mCon (.int 5)) (zad (mCon (.int 12)) (mNil)))))) (zar zac (zad (mVar 0) (zad (mCon (.int 4)) (mNil))))) (mNil)))))) 1 [0,1] (gNm 0) (zck) (zbo)) (gNm 4)) (mSeq (mIf (mTst (mBin eqD (zar zac (zad (mVar 0) (zad (mCon (.int 6)) (mNil)))) (mCon (.int 0)))) (mExp (mApp (mVar 4) (zad (mBin ixA (mVar 4) (zar zac (zad (mVar 0) (zad (zar lenD (zad (mVar 4) (mNil))) (mNil))))) (mNil)))) (zdK)) (mRet (mTup (zad (mVar 2) (zad (mVar 3) (zad (zar zdN (zad (mVar 4) (mNil))) (mNil))))))))))
noncomputable def zb2:GN:=fnM 5 zcu
noncomputable def zaX:MS:=mSeq (mAsg (mTup (zad (zar zac (zad (mVar 0) (zad (mBin ixA (mVar 2) (mCon (.int 0))) (mNil)))) (zad (zar zac (zad (mVar 0) (zad (mBin ixA (mVar 2) (mCon (.int 1))) (mNil)))) (mNil)))) (gNm 6)) (putA (mVar 4) (mVar 6) (zar zac (zad (mVar 0) (zad (zar lenD (zad (mBin ixA (mVar 1) (mCon (.int 2))) (mNil))) (mNil)))))
noncomputable def zaY:ME:=mBin addD (mVar 0) (mTup (zad (mBin zkY (mVar 1) (mVar 0)) (mNil)))
noncomputable def zcs:MS:=mSeq (mAsg (zoR true) (gNm 4)) (mSeq (mFor (mR1 (zar zac (zad (mVar 0) (zad (mBin addD (mVar 3) (mCon (.int 1))) (mNil))))) (gNm 5) (zaX)) (mRet (zar zdN (zad (zar zci (zad (zcO (mWK (mVar 4)) 1 [4] (gNm 0) (zck) (zaY)) (mNil))) (mNil)))))
noncomputable def zax:GN:=fnM 7 zcs
noncomputable def zcC:MS:=mSeq (mAsg (zar zb2 (zad (mVar 0) (mNil))) (gNm 1)) (mSeq (mAsg (mTup (zad (mBin addD (mCon (.int 1)) (zar zac (zad (mVar 0) (zad (mCon (.int 5)) (mNil))))) (zad (mBin addD (mCon (.int 1)) (zar zac (zad (mVar 0) (zad (mBin ixA (mLst (zad (mCon (.int 5)) (zad (mCon (.int 5)) (zad (mCon (.int 5)) (zad (mCon (.int 12)) (mNil)))))) (zar zac (zad (mVar 0) (zad (mCon (.int 4)) (mNil))))) (mNil))))) (mNil)))) (gNm 2)) (mSeq (mIf (mTst (mBin eqD (zar zac (zad (mVar 0) (zad (mCon (.int 2)) (mNil)))) (mCon (.int 0)))) (mAsg (zq1 (mVar 2) (mNeg (mCon (.int 1)))) (gNm 2)) (zdK)) (mRet (mTup (zad (mVar 1) (zad (mVar 2) (zad (zar zax (zad (mVar 0) (zad (mVar 1) (zad (mVar 2) (zad (mBin ixA (mLst (zad (mCon (.int 1)) (zad (mCon (.int 2)) (zad (mCon (.int 6)) (mNil))))) (zar zac (zad (mVar 0) (zad (mCon (.int 3)) (mNil))))) (mNil)))))) (mNil))))))))
noncomputable def zcB:GN:=fnM 3 zcC
noncomputable def zbn:ME:=mTup (zad (mTup (zad (mVar 0) (zad (mVar 1) (mNil)))) (zad (mVar 2) (mNil)))
noncomputable def zdA:MS:=mRet (zar zpe (zad (zcO (mWA (mVar 0)) 3 [] (gTp 3 (gC (gNm 0) (gC (gNm 1) (gC (gNm 2) (gN0))))) (zck) (zbn)) (mNil)))
noncomputable def za0:GN:=fnM 1 zdA
noncomputable def zeg:MS:=mSeq (mAsg (mVar 0) (gTp 2 (gC (gNm 2) (gC (gNm 3) (gN0))))) (mRet (mBin ixA (mLst (zad (mTup (zad (mVar 2) (zad (mBin addD (mVar 3) (mCon (.int 1))) (mNil)))) (zad (mTup (zad (mBin addD (mVar 2) (mCon (.int 1))) (zad (mVar 3) (mNil)))) (zad (mTup (zad (mVar 2) (zad (mBin subD (mVar 3) (mCon (.int 1))) (mNil)))) (zad (mTup (zad (mBin subD (mVar 2) (mCon (.int 1))) (zad (mVar 3) (mNil)))) (mNil)))))) (mVar 1)))
noncomputable def zaN:GN:=fnM 4 zeg
noncomputable def zaT:MS:=mSeq (mAsg (zmS (mVar 1) (zar zaN (zad (mVar 2) (zad (mVar 6) (mNil))))) (gNm 7)) (mSeq (mAsg (mBin ixA (mBin ixA (mVar 4) (mVar 3)) (mBin addD (mVar 6) (mCon (.int 1)))) (gNm 8)) (mIf (zfw (mTst (mBin zny (mVar 7) (mCon .non))) (zfw (mTst (mBin neD (mVar 8) (mCon (.str "")))) (mTst (mBin eqD (mBin ixA (mBin ixA (mVar 4) (mVar 7)) (mBin addD (mBin modD (mBin addD (mVar 6) (mCon (.int 2))) (mCon (.int 4))) (mCon (.int 1)))) (mVar 8))))) (mExp (mApp (mVar 5) (zad (mVar 6) (mNil)))) (zdK)))
noncomputable def zdz:MS:=mSeq (mPar 4 5 (zad (mBin ixA (mBin ixA (mVar 0) (mCon (.int 0))) (mCon (.int 2))) (zad (mLst (mNil)) (mNil)))) (mSeq (mFor (mR1 (mCon (.int 4))) (gNm 6) (zaT)) (mRet (mVar 5)))
noncomputable def zb0:GN:=fnM 9 zdz
noncomputable def zbU:ME:=mBin ixA (mVar 1) (mBin ixA (mBin ixA (mBin ixA (mBin ixA (mVar 2) (mCon (.int 0))) (mCon (.int 2))) (mVar 3)) (mBin addD (mVar 0) (mCon (.int 1))))
noncomputable def zei:MS:=mSeq (mAsg (zar zb0 (zad (mVar 0) (zad (mVar 1) (zad (mVar 2) (zad (mVar 3) (mNil)))))) (gNm 4)) (mSeq (mIf (mTst (mBin eqD (mVar 4) (mLst (mNil)))) (mRet (mCon (.int 0))) (zdK)) (mSeq (mAsg (zar zpf (zad (mBin ixA (mBin ixA (mVar 0) (mCon (.int 0))) (mCon (.int 1))) (mNil))) (gNm 5)) (mRet (zar sumC (zad (zcO (mWA (mVar 4)) 1 [5,0,3] (gNm 0) (zck) (zbU)) (mNil))))))
noncomputable def zbc:GN:=fnM 6 zei
end L2.MP.Hd
namespace L2.MP
open PySem
@[simp] theorem zsJ(n:Nat)(ds:List D):rho n ds=ds.map some++List.replicate (n - ds.length) none:=rfl
@[simp] theorem zrO(ρ:Rho)(n:Nat)(l:List Nat):rho0 ρ n l=List.replicate n none++l.map fun (j:Nat)=>(ρ[j]?).join:=rfl
@[simp] theorem zs6{a b:Int}{st:Sto}:ltD (.int a) (.int b) st=some (.bl (decide (a < b)),st):=rfl
@[simp] theorem zs7{a b:Int}{st:Sto}:leD (.int a) (.int b) st=some (.bl (decide (a<=b)),st):=rfl
@[simp] theorem zta{a b:Int}{st:Sto}:gtD (.int a) (.int b) st=some (.bl (decide (b < a)),st):=rfl
@[simp] theorem ztb{a b:Int}{st:Sto}:geD (.int a) (.int b) st=some (.bl (decide (b<=a)),st):=rfl
@[simp] theorem zs9{a:Int}{st:Sto}:intC [.int a] st=some (.int a,st):=rfl
@[simp] theorem zs8{b:Bool}{st:Sto}:intC [.bl b] st=some (.int (if b then 1 else 0),st):=rfl
end L2.MP
set_option maxHeartbeats 4000000
namespace L2.MP.Hd
open PySem L2.MP
noncomputable def PotD(n m:Nat)(st:Sto):Prop:=∃ a b c:Int,st[n]?=some (.lst [.int a,.int b,.int c])/\0<=a/\0<=b/\b < 2305843009213693951/\0<=c/\c<=(m:Int)
theorem PotD.lt{n m:Nat}{st:Sto}(h:PotD n m st):n < st.length:=by
 obtain⟨a,b,c,e,_⟩:=h;exact getElem?_lt e
theorem PotD.ne{n m:Nat}{st:Sto}(h:PotD n m st):st.length≠n:=Nat.ne_of_gt h.lt
theorem PotD.gr{n m:Nat}{st st':Sto}(h:PotD n m st)(g:Gr st st'):PotD n m st':=by
 obtain⟨a,b,c,e,r⟩:=h;exact⟨a,b,c,(g.old n (getElem?_lt e)).trans e,r⟩
theorem PotD.up{n m k:Nat}{st:Sto}(h:PotD n m st)(hk:m<=k):PotD n k st:=by
 obtain⟨a,b,c,e,h1,h2,h3,h4,h5⟩:=h;exact⟨a,b,c,e,h1,h2,h3,h4,by omega⟩
theorem PotD.set{n m l:Nat}{st:Sto}{o:O}(h:PotD n m st)(hl:l≠n):PotD n m (st.set l o):=by
 obtain⟨a,b,c,e,r⟩:=h;exact⟨a,b,c,by rw[List.getElem?_set_ne hl];exact e,r⟩
theorem zrK{a b:Int}{st:Sto}(h:in64 a=true):mulA (.int a) (.int b) st=some (.int (a*b),st):=by simp[mulA,orG,mulD,intD,h,zgA]
theorem mul_r{a b:Int}{st:Sto}(h:in64 b=true):mulA (.int a) (.int b) st=some (.int (a*b),st):=by simp[mulA,orG,mulD,intD,h,zgA]
theorem zib{a b:Int}{st:Sto}(h:0 < b):modD (.int a) (.int b) st=some (.int (a % b),st):=by simp[modD,intD,h]
theorem zrk{a b:Int}{st:Sto}(h:0 < b)(h2:b < 340282366920938463463374607431768211456):zj0 (.int a) (.int b) st=some (.int (a / b),st):=by simp[zj0,intD,h,h2]
theorem zqI{n:Nat}{a b c many:Int}{st s1:Sto}(i0:ixA (.ref n) (.int 0) st=some (.int a,st))(ha:0 < a)(e1:modD (.int a) (.int many) st=some (.int b,st))(e2:zj0 (.int a) (.int many) st=some (.int c,st))(hs:setD (.ref n) (.int 0) (.int c) st=some s1):zbV [some (.ref n),some (.int many),none,none] st=some (.rt (.int b),s1):=by
 unfold zbV;refine ziG ?_;have et:mTst (mBin gtD (mBin ixA (mVar 0) (mCon (.int 0))) (mCon (.int 0))) [some (.ref n),some (.int many),none,none] st=some (true,st):=by simp[zaW,i0,ha]
 rw[zk8,et];refine zan (ρ1:=[some (.ref n),some (.int many),some (.int b),none]) (s1:=st) (by simp[zaW,i0,e1]) ?_;refine zan (ρ1:=[some (.ref n),some (.int many),some (.int b),none]) (s1:=s1) (by simp[zaW,i0,e2,hs]) ?_;simp[zaW]
theorem zqZ{n:Nat}{a b c d m1 m2 x1 x2 x3 x4 x5 x6 x7 x8 r many:Int}{st s1:Sto}(i0:ixA (.ref n) (.int 0) st=some (.int a,st))(ha:¬ 0 < a)(i2:ixA (.ref n) (.int 2) st=some (.int c,st))(hd:c+1=d)(hs:setD (.ref n) (.int 2) (.int d) st=some s1)
   (j1:ixA (.ref n) (.int 1) s1=some (.int b,s1)) (j2:ixA (.ref n) (.int 2) s1=some (.int d,s1))
   (e1:mulA (.int 104729) (.int d) s1=some (.int x1,s1)) (e2:mulA (.int x1) (.int d) s1=some (.int x2,s1)) (e3:mulA (.int 31) (.int d) s1=some (.int x3,s1)) (e4:mulA (.int (b+x2+x3)) (.int 48271) s1=some (.int x4,s1)) (e5:modD (.int x4) (.int 2305843009213693921) s1=some (.int m1,s1))
   (e6:modD (.int m1) (.int 1000003) s1=some (.int x5,s1)) (e7:mulA (.int 39373) (.int d) s1=some (.int x6,s1)) (e8:mulA (.int m1) (.int (x5+x6)) s1=some (.int x7,s1)) (e9:modD (.int x7) (.int 2305843009213693907) s1=some (.int m2,s1))
   (e10:zj0 (.int m2) (.int 65537) s1=some (.int x8,s1)) {x9:Int} (e11:zj0 (.int m2) (.int 1000033) s1=some (.int x9,s1)) (e12:modD (.int (x8+x9)) (.int many) s1=some (.int r,s1)) :
   zbV [some (.ref n),some (.int many),none,none] st=some (.rt (.int r),s1):=by
 unfold zbV;have et:mTst (mBin gtD (mBin ixA (mVar 0) (mCon (.int 0))) (mCon (.int 0))) [some (.ref n),some (.int many),none,none] st=some (false,st):=by simp[zaW,i0,ha]
 refine zan (ρ1:=[some (.ref n),some (.int many),none,none]) (s1:=st) (by rw[zk8,et];rfl) ?_;refine zan (ρ1:=[some (.ref n),some (.int many),none,none]) (s1:=s1) (by simp[zaW,i2,hd,hs]) ?_;refine zan (ρ1:=[some (.ref n),some (.int many),none,some (.int m1)]) (s1:=s1) (by simp[zaW,j1,j2,e1,e2,e3,e4,e5]) ?_;refine zan (ρ1:=[some (.ref n),some (.int many),none,some (.int m2)]) (s1:=s1) (by simp[zaW,j2,e6,e7,e8,e9]) ?_;simp[zaW,e10,e11,e12]
theorem zaV{n m:Nat}{st:Sto}{many:Int}(h:PotD n m st)(hm:m<=1000000)(h1:0 < many)(h2:many < 18446744073709551616):∃ (r:Int) (st':Sto),Y5 (zac [.ref n,.int many] st=some (.int r,st')) (0<=r) (r < many) (PotD n (m+1) st') (Fr n st st'):=by
 obtain⟨a,b,c,e,ha,hb,hb2,hc,hc2⟩:=h;have hn:=getElem?_lt e;have i0:ixA (.ref n) (.int 0) st=some (.int a,st):=zco e (by decide) rfl
 by_cases h0:0 < a
 . have hs:setD (.ref n) (.int 0) (.int (a / many)) st=some (st.set n (.lst [.int (a / many),.int b,.int c])):=by simp[setD,e,ixN]
   have ed:zj0 (.int a) (.int many) st=some (.int (a / many),st):=zrk h1 (by omega);exact⟨a % many,_,zcy (zqI i0 h0 (zib h1) ed hs),Int.emod_nonneg _ (by omega),Int.emod_lt_of_pos _ h1,⟨a / many,b,c,by simp[hn],Int.ediv_nonneg ha (by omega),hb,hb2,hc,by omega⟩,Fr.set _ _ _⟩
 . have i2:ixA (.ref n) (.int 2) st=some (.int c,st):=zco e (by decide) rfl;obtain⟨d,hd⟩:∃ d,c+1=d:=⟨_,rfl⟩
   have hs:setD (.ref n) (.int 2) (.int d) st=some (st.set n (.lst [.int a,.int b,.int d])):=by simp[setD,e,ixN]
   have e':(st.set n (.lst [.int a,.int b,.int d]))[n]?=some (.lst [.int a,.int b,.int d]):=by simp[hn]
   have f:Fr n st (st.set n (.lst [.int a,.int b,.int d])):=Fr.set _ _ _;generalize st.set n (.lst [.int a,.int b,.int d])=s1 at hs e' f;have j1:ixA (.ref n) (.int 1) s1=some (.int b,s1):=zco e' (by decide) rfl;have j2:ixA (.ref n) (.int 2) s1=some (.int d,s1):=zco e' (by decide) rfl;have k1:in64 d=true:=by unfold in64;simp;omega
   have k2:in64 48271=true:=by decide
   have k3:∀ x:Int,in64 (x % 2305843009213693921)=true:=fun x=>by
     have h1:=Int.emod_nonneg x (show (2305843009213693921:Int)≠0 by decide);have h2:=Int.emod_lt_of_pos x (show (0:Int) < 2305843009213693921 by decide);unfold in64;simp;omega
   refine⟨_,s1,zcy (zqZ i0 h0 i2 hd hs j1 j2 (mul_r k1) (mul_r k1) (mul_r k1) (mul_r k2) (zib (by decide)) (zib (by decide)) (mul_r k1) (zrK (k3 _)) (zib (by decide)) (zrk (by decide) (by decide)) (zrk (by decide) (by decide)) (zib h1)),Int.emod_nonneg _ (by omega),Int.emod_lt_of_pos _ h1,⟨a,b,d,e',ha,hb,hb2,by omega,by omega⟩,f⟩
theorem zrj(st:Sto):∃ F:Int,Y3 (0 < F) (F.natAbs < 2 ^ 1100) (∀ ρ:Rho,mBin mulB (mBin mulB (mBin mulB (mBin mulB (mBin powB (mCon (.int 10)) (mCon (.int 60))) (mBin powB (mCon (.int 10)) (mCon (.int 60)))) (mBin powB (mCon (.int 10)) (mCon (.int 60)))) (mBin powB (mCon (.int 10)) (mCon (.int 60)))) (mBin powB (mCon (.int 10)) (mCon (.int 60))) ρ st=some (.int F,st)) :=
 ⟨10 ^ 300,by decide +kernel,by decide +kernel,fun ρ=>by
   have e0:mBin powB (mCon (.int 10)) (mCon (.int 60)) ρ st=some (.int (10 ^ 60),st):=by
     rw[zh9];simp only[zns,Option.bind_some];have:(decide ((0:Int)<=60)&&decide ((Builtin.Int.intBits 10:Int)*60<=2 ^ 27))=true:=by decide +kernel
     unfold powB intD;dsimp only;rw[if_pos this];rfl
   have e1:∀ (i j k:Nat),i+j=k->(decide (Builtin.Int.intBits ((10:Int) ^ i)<=2 ^ 20)&&decide (Builtin.Int.intBits ((10:Int) ^ j)<=2 ^ 20))=true->mulB (.int (10 ^ i)) (.int (10 ^ j)) st=some (.int (10 ^ k),st):=fun i j k hk h=>by
     unfold mulB intD;dsimp only;rw[if_pos h,<-hk,Int.pow_add]
   have q1:=e1 60 60 120 rfl (by decide +kernel);have q2:=e1 120 60 180 rfl (by decide +kernel);have q3:=e1 180 60 240 rfl (by decide +kernel);have q4:=e1 240 60 300 rfl (by decide +kernel);have h0:=e0;generalize (10:Int) ^ 60=a1 at *;generalize (10:Int) ^ 120=a2 at *;generalize (10:Int) ^ 180=a3 at *;generalize (10:Int) ^ 240=a4 at *;generalize (10:Int) ^ 300=a5 at *;simp only[zh9,zns,Option.bind_some] at e0;simp only[zh9,zns,Option.bind_some,e0,q1,q2,q3,q4]⟩
theorem zr0(ρ:Rho)(st:Sto):mBin powB (mCon (.int 10)) (mCon (.int 18)) ρ st=some (.int 1000000000000000000,st):=rfl
theorem zmK{a b:Int}{st:Sto}(ha:Builtin.Int.intBits a<=2 ^ 20)(hb:b=0\/b=1):mulB (.int a) (.int b) st=some (.int (a*b),st):=by
 have h1:Builtin.Int.intBits b<=2 ^ 20:=by rcases hb with rfl | rfl <;> decide +kernel
 unfold mulB intD;dsimp only;rw[if_pos];rw[decide_eq_true ha,decide_eq_true h1];rfl
theorem zpp{a F:Int}(h0:0<=a)(h1:a < F)(hF:F.natAbs < 2 ^ 1100):Builtin.Int.intBits a<=2 ^ 20:=by
 have h2:a.natAbs < F.natAbs:=by omega
 exact Nat.le_trans (PyProof.Rows.intBits_le (Nat.lt_trans h2 hF)) (by decide)
theorem znr{c:MT}{m n:ME}{ρ:Rho}{st:Sto}:mIte c m n ρ st=(c ρ st).bind fun p=>if p.1=true then m ρ p.2 else n ρ p.2:=rfl
theorem znm{ds:List D}{k cell F own b x2 x3:Int}{st:Sto}
   (e0:mIte (mTst (mBin ltD (mVar 1) (zar lenD (zad (mVar 0) (mNil))))) (mBin ixA (mVar 0) (mVar 1)) (mCon (.int 0)) [some (.kl ds),some (.int k),none,none,none] st=some (.int cell,st))
   (e1:mBin mulB (mBin mulB (mBin mulB (mBin mulB (mBin powB (mCon (.int 10)) (mCon (.int 60))) (mBin powB (mCon (.int 10)) (mCon (.int 60)))) (mBin powB (mCon (.int 10)) (mCon (.int 60)))) (mBin powB (mCon (.int 10)) (mCon (.int 60)))) (mBin powB (mCon (.int 10)) (mCon (.int 60))) [some (.kl ds),some (.int k),some (.int cell),none,none] st=some (.int F,st))
   (e2:mBin mulB (mBin modD (mVar 2) (mVar 3)) (zar intC (zad (mBin geD (mVar 2) (mBin powB (mCon (.int 10)) (mCon (.int 18)))) (mNil))) [some (.kl ds),some (.int k),some (.int cell),some (.int F),none] st=some (.int own,st))
   (e3:modD (.int cell) (.int 2305843009213693951) st=some (.int x2,st)) (e4:mulA (.int 7919) (.int k) st=some (.int x3,st)) (e5:modD (.int (x2+x3)) (.int 2305843009213693951) st=some (.int b,st)) :
   zcv [some (.kl ds),some (.int k),none,none,none] st=some (.rt (.ref st.length),st++[.lst [.int own,.int b,.int 0]]):=by
 unfold zcv;refine zan (ρ1:=[some (.kl ds),some (.int k),some (.int cell),none,none]) (s1:=st) (by rw[zgb,e0];rfl) ?_;refine zan (ρ1:=[some (.kl ds),some (.int k),some (.int cell),some (.int F),none]) (s1:=st) (by rw[zgb,e1];rfl) ?_;refine zan (ρ1:=[some (.kl ds),some (.int k),some (.int cell),some (.int F),some (.int own)]) (s1:=st) (by rw[zgb,e2];rfl) ?_;simp[zaW,e3,e4,e5]
theorem zqJ{ds:List D}{k cell F:Int}{st:Sto}(h0:0 < F)(hF:F.natAbs < 2 ^ 1100):∃ own:Int,0<=own/\mBin mulB (mBin modD (mVar 2) (mVar 3)) (zar intC (zad (mBin geD (mVar 2) (mBin powB (mCon (.int 10)) (mCon (.int 18)))) (mNil))) [some (.kl ds),some (.int k),some (.int cell),some (.int F),none] st=some (.int own,st):=by
 have m0:=Int.emod_nonneg cell (show F≠0 by omega);have m1:=Int.emod_lt_of_pos cell h0;have e1:=zib (a:=cell) (st:=st) h0;generalize cell % F=x at m0 m1 e1;have hb:=zpp m0 m1 hF;have e18:=zr0 [some (.kl ds),some (.int k),some (.int cell),some (.int F),none] st;have ei:∃ j:Int,(j=0\/j=1)/\zar intC (zad (mBin geD (mVar 2) (mBin powB (mCon (.int 10)) (mCon (.int 18)))) (mNil)) [some (.kl ds),some (.int k),some (.int cell),some (.int F),none] st=some (.int j,st):=by
   generalize mBin powB (mCon (.int 10)) (mCon (.int 18))=P18 at e18;refine⟨if decide (1000000000000000000<=cell)=true then 1 else 0,by split <;> simp,?_⟩;rw[zpv,zpu,zh9];simp only[znq,List.getElem?_cons_succ,List.getElem?_cons_zero,Option.bind_some,e18,geD,cmpD,zrt];rfl
 obtain⟨j,hj,ej⟩:=ei;refine⟨x*j,by rcases hj with rfl | rfl <;> omega,?_⟩;have em:=zmK (a:=x) (b:=j) (st:=st) hb hj;rw[zh9,zh9];simp only[znq,List.getElem?_cons_succ,List.getElem?_cons_zero,Option.bind_some,e1];rw[ej];simp only[Option.bind_some];exact em
theorem znn{ns:List Int}{k:Int}{st:Sto}(h0:0<=k)(h1:k<=1000):∃ st',Y3 (zb3 [.kl (ns.map D.int),.int k] st=some (.ref st.length,st')) (PotD st.length 0 st') (Gr st st'):=by
 obtain⟨F,F0,F1,eF⟩:=zrj st;have ec:∃ cell:Int,mIte (mTst (mBin ltD (mVar 1) (zar lenD (zad (mVar 0) (mNil))))) (mBin ixA (mVar 0) (mVar 1)) (mCon (.int 0)) [some (.kl (ns.map D.int)),some (.int k),none,none,none] st=some (.int cell,st):=by
   by_cases hk:k < (ns.length:Int)
   . have hk':k.toNat < ns.length:=by omega
     have ex:ixA (.kl (ns.map D.int)) (.int k) st=some (.int ns[k.toNat],st):=zsA h0 (by rw[List.getElem?_map,List.getElem?_eq_getElem hk'];rfl);exact⟨ns[k.toNat],by rw[znr];simp[zaW,zmX,hk,ex]⟩
   . exact⟨0,by rw[znr];simp[zaW,zmX,hk]⟩
 obtain⟨cell,ec⟩:=ec;obtain⟨own,o0,eo⟩:=zqJ (ds:=ns.map D.int) (k:=k) (cell:=cell) (st:=st) F0 F1;have b0:=Int.emod_nonneg (cell % 2305843009213693951+7919*k) (show (2305843009213693951:Int)≠0 by decide);have b1:=Int.emod_lt_of_pos (cell % 2305843009213693951+7919*k) (show (0:Int) < 2305843009213693951 by decide);exact⟨_,zcy (znm ec (eF _) eo (zib (by decide)) (zrK (by decide)) (zib (by decide))),⟨own,_,0,zaR _ _,o0,b0,b1,by decide,by decide⟩,Gr.app _ _⟩
end L2.MP.Hd
set_option maxHeartbeats 4000000
namespace L2.MP.Hd
open PySem L2.MP
open L2.MP.Hb (zdm zg8 sgD)
noncomputable abbrev zaO:Str:=Hn.zaO
theorem zc5:∀ k:Nat,k < 26->zaO.cps[k]?=some (97+k):=Hn.zc5
structure NmOk(x:Str):Prop where
 len:x.cps.toList.length<=8
 ab:∀ c∈x.cps.toList,48<=c/\c<=122
theorem zk9{x:Str}(h:∀ c∈x.cps.toList,48<=c/\c<=122):PyData.strOk x=true:=by
 unfold PyData.strOk;rw[Array.all_eq_true'];intro c hc;have:=h c (by simpa using hc);simp;omega
theorem zdl:NmOk "":=⟨by decide,by decide⟩
theorem zoG{c:Nat}{k:Int}(h1:1<=k)(h8:k<=8)(c1:48<=c)(c2:c<=122):NmOk (repS ⟨#[c]⟩ k):=by
 refine⟨by rw[zg8 h1,List.length_replicate];omega,fun x hx=>?_⟩;rw[zg8 h1] at hx;rw[List.eq_of_mem_replicate hx];exact⟨c1,c2⟩
theorem ziP{m:ME}{ρ:Rho}{st:Sto}{k:Nat}(e:m ρ st=some (.int (k:Int),st))(hk:k<=1000):mR1 m ρ st=some (⟨run 0 k,[]⟩,st):=by
 have sm:small (k:Int)=true:=zcx (by omega) (by omega);rw[zrS,e,Option.bind_some];simp only[sm,if_true];rw[Int.toNat_natCast]
theorem zkq{m:ME}{ρ:Rho}{st s1:Sto}{k:Nat}{M:Int}(hM:M=(k:Int))(e:m ρ st=some (.int M,s1))(hk:k<=1000):mR1 m ρ st=some (⟨run 0 k,[]⟩,s1):=by
 have sm:small M=true:=zcx (by omega) (by omega);rw[zrS,e,Option.bind_some];simp only[sm,if_true];rw[hM,Int.toNat_natCast]
theorem run_map(k:Nat):run 0 k=(List.range k).map fun (i:Nat)=>D.int (i:Int):=by
 unfold run;apply List.map_congr_left;intro i _;rw[Int.zero_add]
theorem zdW{j k:Nat}{d:D}(h:(run 0 j)[k]?=some d):k < j/\d=.int (k:Int):=by
 have hk:=getElem?_lt h;rw[zca] at hk;rw[run_map,List.getElem?_map,List.getElem?_range hk] at h;exact⟨hk,by cases h;rfl⟩
theorem zkG{x r1:Int}{c:Nat}{st:Sto}{y:D}(ix1:∀ s:Sto,ixA (.str zaO) (.int r1) s=some (sgD c,s))(em:mulA (sgD c) (.int (x+1)) st=some (y,st)):za5 [some (.int x),some (.str zaO),some (.int r1)] st=some (y,st):=by
 unfold za5;simp[ix1,em]
theorem zkH{m:Nat}{r1:Int}{st:Sto}(hm:m<=8)(r10:0<=r1)(r11:r1 < 26):∃ ts:List Str,Y3 (ts.length=m) ((∀ x∈ts,NmOk x)) (mCI ⟨run 0 m,[]⟩ (gNm 0) zck za5 (run 0 m) [none,some (.str zaO),some (.int r1)] st=some (ts.map D.str,st)):=by
 have ix1:∀ s:Sto,ixA (.str zaO) (.int r1) s=some (sgD (97+r1.toNat),s):=fun s=>zjl (by decide) r10 (zc5 _ (by omega));have c1:48<=97+r1.toNat:=by omega
 have c2:97+r1.toNat<=122:=by omega
 generalize 97+r1.toNat=c at ix1 c1 c2;refine⟨(List.range m).map fun (i:Nat)=>repS ⟨#[c]⟩ ((i:Int)+1),by simp,fun x hx=>?_,?_⟩
 . obtain⟨i,hi,rfl⟩:=List.mem_map.mp hx;have:=List.mem_range.mp hi;exact zoG (by omega) (by omega) c1 c2
 have:∀ W:Wk,walked W st=true->mCI W (gNm 0) zck za5 (run 0 m) [none,some (.str zaO),some (.int r1)] st=some (((List.range m).map fun (i:Nat)=>repS ⟨#[c]⟩ ((i:Int)+1)).map D.str,st):=by
   intro W hW;rw[run_map,List.map_map];refine zh3 (R:=fun ρ=>∃ x,ρ=[x,some (.str zaO),some (.int r1)]) ⟨none,rfl⟩ hW fun i hi ρ hρ=>?_;obtain⟨x,rfl⟩:=hρ;have hi:=List.mem_range.mp hi;have em:=zdm (c:=c) (n:=(i:Int)+1) (st:=st) (by omega) (by omega);exact⟨[some (.int (i:Int)),some (.str zaO),some (.int r1)],by simp,rfl,zkG ix1 em,⟨_,rfl⟩⟩
 exact this _ rfl
theorem zkE{x r1 w p1 p2 q1 q2:Int}{c:Nat}{st:Sto}{y:D}(e1:mulA (.int w) (.int x) st=some (.int p1,st))(e2:modD (.int (r1+p1)) (.int 26) st=some (.int p2,st))(ex:ixA (.str zaO) (.int p2) st=some (sgD c,st))(e3:mulA (.int x) (.int x) st=some (.int q1,st))(e4:modD (.int (q1+r1)) (.int 8) st=some (.int q2,st))(em:mulA (sgD c) (.int (1+q2)) st=some (y,st)):za4 [some (.int x),some (.str zaO),some (.int r1),some (.int w)] st=some (y,st):=by
 unfold za4;simp[e1,e2,ex,e3,e4,em]
theorem zkF{m:Nat}{r1 w:Int}{st:Sto}(hm:m<=8)(hw0:0<=w)(hw1:w<=11):∃ ts:List Str,Y3 (ts.length=m) ((∀ x∈ts,NmOk x)) (mCI ⟨run 0 m,[]⟩ (gNm 0) zck za4 (run 0 m) [none,some (.str zaO),some (.int r1),some (.int w)] st=some (ts.map D.str,st)):=by
 have key:=znk (W:=⟨run 0 m,[]⟩) (g:=gNm 0) (c:=zck) (m:=za4) (ds:=run 0 m) (acc:=[]) (st:=st) (ρ:=[none,some (.str zaO),some (.int r1),some (.int w)])
   (Inv:=fun k a ρ s=>Y3 ((∃ x,ρ=[x,some (.str zaO),some (.int r1),some (.int w)])) ((∃ ts:List Str,a=ts.map D.str/\ts.length=k/\∀ x∈ts,NmOk x)) (s=st))
   ⟨⟨none,rfl⟩,⟨[],rfl,rfl,by simp⟩,rfl⟩ (fun _ _ _ _ _ _=>rfl) (fun k d a ρ s hd hI=>by
     obtain⟨⟨x,rfl⟩,⟨ts,rfl,hl,hn⟩,rfl⟩:=hI;obtain⟨hk,rfl⟩:=zdW hd;have e1:mulA (.int w) (.int (k:Int)) s=some (.int (w*(k:Int)),s):=mul_int (by omega);have e2:modD (.int (r1+w*(k:Int))) (.int 26) s=some (.int ((r1+w*(k:Int)) % 26),s):=zib (by decide);have h1:=Int.emod_lt_of_pos (r1+w*(k:Int)) (show (0:Int) < 26 by decide);have h2:=Int.emod_nonneg (r1+w*(k:Int)) (show (26:Int)≠0 by decide);have e3:mulA (.int (k:Int)) (.int (k:Int)) s=some (.int ((k:Int)*(k:Int)),s):=mul_int (by omega);have e4:modD (.int ((k:Int)*(k:Int)+r1)) (.int 8) s=some (.int (((k:Int)*(k:Int)+r1) % 8),s):=zib (by decide);have h3:=Int.emod_lt_of_pos ((k:Int)*(k:Int)+r1) (show (0:Int) < 8 by decide);have h4:=Int.emod_nonneg ((k:Int)*(k:Int)+r1) (show (8:Int)≠0 by decide);generalize (r1+w*(k:Int)) % 26=p2 at e2 h1 h2;generalize ((k:Int)*(k:Int)+r1) % 8=q2 at e4 h3 h4;have ex:ixA (.str zaO) (.int p2) s=some (sgD (97+p2.toNat),s):=zjl (by decide) h2 (zc5 _ (by omega));have em:=zdm (c:=97+p2.toNat) (n:=1+q2) (st:=s) (by omega) (by omega);refine⟨[some (.int (k:Int)),some (.str zaO),some (.int r1),some (.int w)],s,true,s,rfl,rfl,.inl ⟨rfl,.str (repS ⟨#[97+p2.toNat]⟩ (1+q2)),s,zkE e1 e2 ex e3 e4 em,⟨_,rfl⟩,⟨ts++[repS ⟨#[97+p2.toNat]⟩ (1+q2)],by simp,by simp[hl],fun x hx=>?_⟩,rfl⟩⟩
     rcases List.mem_append.mp hx with hx | hx
     . exact hn x hx
     . rw[List.mem_singleton.mp hx];exact zoG (by omega) (by omega) (by omega) (by omega))
 obtain⟨xs,ρ',s',ec,_,⟨ts,hx,hl,hn⟩,rfl⟩:=key;rw[List.nil_append] at hx;subst hx;exact⟨ts,by rw[hl,zca],hn,ec⟩
theorem zmJ{n m k:Nat}{st:Sto}{M:Int}(hM:M=(k:Int))(h:PotD n m st)(h1:k<=8)(hm:m<=900000):∃ (ss:List Str) (l:Nat) (st':Sto),Y7 (zb1 [.ref n,.int M] st=some (.ref l,st')) (st'[l]?=some (.lst (ss.map D.str))) (ss.length=k) ((∀ x∈ss,NmOk x)) (l≠n) (PotD n (m+3) st') (Fr n st st'):=by
 obtain⟨r1,s1,e1,r10,r11,p1,f1⟩:=zaV (many:=26) h (by omega) (by decide) (by decide);have p2:=p1.gr (Gr.app s1 [.lst [.int 1,.int 3,.int 5,.int 7,.int 9,.int 11]]);have f2:=Fr.app n s1 [.lst [.int 1,.int 3,.int 5,.int 7,.int 9,.int 11]];have a2:=zaR s1 (.lst [.int 1,.int 3,.int 5,.int 7,.int 9,.int 11]);have hn2:=p1.ne;generalize hs2:s1++[O.lst [.int 1,.int 3,.int 5,.int 7,.int 9,.int 11]]=s2 at p2 f2 a2;obtain⟨r3,s3,e3,r30,r31,p3,f3⟩:=zaV (many:=6) p2 (by omega) (by decide) (by decide);have a3:=(f3.old _ (getElem?_lt a2) hn2).trans a2;obtain⟨w,hw,hw0,hw1⟩:∃ w:Int,[D.int 1,.int 3,.int 5,.int 7,.int 9,.int 11][r3.toNat]?=some (.int w)/\0<=w/\w<=11:=by
   have:r3=0\/r3=1\/r3=2\/r3=3\/r3=4\/r3=5:=by omega
   rcases this with rfl | rfl | rfl | rfl | rfl | rfl <;> exact⟨_,rfl,by decide,by decide⟩
 have i3:ixA (.ref s1.length) (.int r3) s3=some (.int w,s3):=zco a3 r30 hw;obtain⟨r4,s4,e4,r40,r41,p4,f4⟩:=zaV (many:=3) p3 (by omega) (by decide) (by decide);have f14:Fr n st s4:=((f1.trans f2).trans f3).trans f4;have g1:mAsg (mTup (zad (zar zac (zad (mVar 0) (zad (mCon (.int 26)) (mNil)))) (zad (mBin ixA (mLst (zad (mCon (.int 1)) (zad (mCon (.int 3)) (zad (mCon (.int 5)) (zad (mCon (.int 7)) (zad (mCon (.int 9)) (zad (mCon (.int 11)) (mNil)))))))) (zar zac (zad (mVar 0) (zad (mCon (.int 6)) (mNil))))) (mNil)))) (gTp 2 (gC (gNm 3) (gC (gNm 4) (gN0))))
     [some (.ref n),some (.int M),some (.str zaO),none,none] st=some (.nx [some (.ref n),some (.int M),some (.str zaO),some (.int r1),some (.int w)],s3):=by
   simp[e1,hs2,e3,i3]
 by_cases hr:r4=0
 . subst hr;obtain⟨ts,ht,hn,ec⟩:=zkH (st:=s4) h1 r10 r11;have fl:fits (ts.map D.str).length=true:=zaw (by simp;omega);refine⟨ts,s4.length,s4++[.lst (ts.map D.str)],zcy ?_,zaR _ _,ht,hn,p4.ne,p4.gr (Gr.app _ _),f14.trans (Fr.app _ _ _)⟩;generalize ts.map D.str=A at ec fl;unfold zct;refine zan (ρ1:=[some (.ref n),some (.int M),some (.str zaO),none,none]) (s1:=st) (by simp) ?_;refine zan g1 (ziG ?_);have ecm:zcO (mR1 (mVar 1)) 1 [2,3] (gNm 0) (zck) (za5) [some (.ref n),some (.int M),some (.str zaO),some (.int r1),some (.int w)] s4=some (.ref s4.length,s4++[.lst A]):=by
     rw[zaW,zkq (s1:=s4) (k:=k) hM (by simp) (by omega)];simp only[Option.bind_some];rw[show rho0 [some (.ref n),some (.int M),some (.str zaO),some (.int r1),some (.int w)] 1 [2,3]=[none,some (.str zaO),some (.int r1)] from rfl,ec];simp only[Option.bind_some,fl,if_true]
   simp[e4,eq_int,ecm]
 . obtain⟨ts,ht,hn,ec⟩:=zkF (r1:=r1) (st:=s4) h1 hw0 hw1;have fl:fits (ts.map D.str).length=true:=zaw (by simp;omega);have p5:=p4.gr (Gr.app s4 [.lst (ts.map D.str)]);have es:=Hn.zeR (zaR s4 (.lst (ts.map D.str))) (by omega);have f5:=Fr.app n s4 [.lst (ts.map D.str)];have hp:(zdu ts).Perm ts:=List.mergeSort_perm _ _;generalize hs5:s4++[O.lst (ts.map D.str)]=s5 at p5 es f5;refine⟨zdu ts,s5.length,s5++[.lst ((zdu ts).map D.str)],zcy ?_,zaR _ _,by rw[<-ht];exact hp.length_eq,fun x hx=>hn x (hp.mem_iff.mp hx),p5.ne,p5.gr (Gr.app _ _),(f14.trans f5).trans (Fr.app _ _ _)⟩;generalize (zdu ts).map D.str=B at es;generalize ts.map D.str=A at ec fl hs5;unfold zct;refine zan (ρ1:=[some (.ref n),some (.int M),some (.str zaO),none,none]) (s1:=st) (by simp) ?_;refine zan g1 ?_;refine zan (ρ1:=[some (.ref n),some (.int M),some (.str zaO),some (.int r1),some (.int w)]) (s1:=s4) (by simp[e4,eq_int,hr]) ?_;have ecm:zcO (mR1 (mVar 1)) 1 [2,3,4] (gNm 0) (zck) (za4) [some (.ref n),some (.int M),some (.str zaO),some (.int r1),some (.int w)] s4=some (.ref s4.length,s5):=by
     rw[zaW,zkq (s1:=s4) (k:=k) hM (by simp) (by omega)];simp only[Option.bind_some];rw[show rho0 [some (.ref n),some (.int M),some (.str zaO),some (.int r1),some (.int w)] 1 [2,3,4]=[none,some (.str zaO),some (.int r1),some (.int w)] from rfl,ec];simp only[Option.bind_some,fl,if_true,hs5]
   simp[ecm,es]
end L2.MP.Hd
set_option maxHeartbeats 4000000
namespace L2.MP.Hd
open PySem L2.MP
open L2.MP.Hb (sgD)
noncomputable abbrev sg36:Str:="abcdefghijklmnopqrstuvwxyz0123456789"
theorem zn1:∀ k:Nat,k < 36->∃ c,sg36.cps[k]?=some c/\48<=c/\c<=122:=by
 have:∀ k:Nat,k < 36->(match sg36.cps[k]? with | some c=>decide (48<=c/\c<=122) | none=>false)=true:=by decide +kernel
 intro k hk;have:=this k hk
 split at this
 . rename_i c e;exact⟨c,e,of_decide_eq_true this⟩
 . cases this
structure KdOk(ss:List Str)(k:List Str):Prop where
 ex:∃ f ds,k=f::ds/\NmOk f/\ds.length=4/\∀ x∈ds,NmOk x/\(x=""\/x∈ss)
theorem znX{lN a:Nat}{r c:Int}{s s1 s2 s3:Sto}{v:Option D}{n:Nat}{y:D}(hs1:s++[.lst [.str ""]]=s1)(ea:addD (.ref s.length) (.ref lN) s1=some (.ref a,s2))(el:lenD [.ref lN] s2=some (.int c,s2))(en:zac [.ref n,.int (c+1)] s2=some (.int r,s3))(ex:ixA (.ref a) (.int r) s3=some (y,s3)) :
   za3 [v,some (.ref lN),some (.ref n)] s=some (y,s3):=by
 unfold za3;simp[hs1,ea,el,en,ex]
theorem zlY{n m lN:Nat}{ss:List Str}{st:Sto}(h:PotD n m st)(hN:st[lN]?=some (.lst (ss.map D.str)))(h1:lN≠n)(hl:ss.length<=100)(hn:∀ x∈ss,NmOk x)(hm:m<=800000) :
   ∃ (ds:List Str) (st':Sto),Y5 (mCI ⟨run 0 4,[]⟩ (gNm 0) zck za3 (run 0 4) [none,some (.ref lN),some (.ref n)] st=some (ds.map D.str,st')) (ds.length=4) ((∀ x∈ds,NmOk x/\(x=""\/x∈ss))) (PotD n (m+4) st') (Fr n st st'):=by
 have key:=znk (W:=⟨run 0 4,[]⟩) (g:=gNm 0) (c:=zck) (m:=za3) (ds:=run 0 4) (acc:=[]) (st:=st) (ρ:=[none,some (.ref lN),some (.ref n)])
   (Inv:=fun k a ρ s=>Y4 ((∃ x,ρ=[x,some (.ref lN),some (.ref n)])) ((∃ ds:List Str,a=ds.map D.str/\ds.length=k/\∀ x∈ds,NmOk x/\(x=""\/x∈ss))) (PotD n (m+k) s) (Fr n st s))
   ⟨⟨_,rfl⟩,⟨[],rfl,rfl,by simp⟩,h,Fr.refl _ _⟩ (fun _ _ _ _ _ _=>rfl) (fun k d a ρ s hd hI=>by
     obtain⟨⟨x,rfl⟩,⟨ds,rfl,hlen,hok⟩,hp,hf⟩:=hI;have hk4:=(zdW hd).1;have hN0:s[lN]?=some (.lst (ss.map D.str)):=(hf.old _ (getElem?_lt hN) h1).trans hN;have a1:=zaR s (.lst [.str ""]);have hN1:(s++[O.lst [D.str ""]])[lN]?=some (.lst (ss.map D.str)):=by rw[List.getElem?_append_left (getElem?_lt hN0)];exact hN0
     have p1:=hp.gr (Gr.app s [.lst [.str ""]]);have f1:=Fr.app n s [.lst [.str ""]];generalize hs1:s++[O.lst [D.str ""]]=s1 at a1 hN1 p1 f1;have ea:=zpx a1 hN1 (by simp;omega);have a2:=zaR s1 (.lst ([.str ""]++ss.map D.str));have hN2:(s1++[O.lst ([.str ""]++ss.map D.str)])[lN]?=some (.lst (ss.map D.str)):=by rw[List.getElem?_append_left (getElem?_lt hN1)];exact hN1
     have p2:=p1.gr (Gr.app s1 [.lst ([.str ""]++ss.map D.str)]);have f2:=Fr.app n s1 [.lst ([.str ""]++ss.map D.str)];have hn1:=p1.ne;generalize hs2:s1++[O.lst ([.str ""]++ss.map D.str)]=s2 at a2 hN2 p2 f2 ea;have el:=zhl hN2;rw[List.length_map] at el;obtain⟨r,s3,e3,r0,r1,p3,f3⟩:=zaV (many:=(ss.length:Int)+1) p2 (by omega) (by omega) (by omega);have a3:=(f3.old _ (getElem?_lt a2) hn1).trans a2;have hr:r.toNat < ((("":Str))::ss).length:=by simp;omega
     have hm:[D.str ""]++ss.map D.str=((("":Str))::ss).map D.str:=rfl;rw[hm] at a3;have ex:=zco (x:=.str ((("":Str))::ss)[r.toNat]) a3 r0 (by rw[List.getElem?_map,List.getElem?_eq_getElem hr];rfl);have hmem:((("":Str))::ss)[r.toNat]∈("":Str)::ss:=List.getElem_mem hr;generalize ((("":Str))::ss)[r.toNat]=y at ex hmem;have hy:NmOk y/\(y=""\/y∈ss):=by
       rcases List.mem_cons.mp hmem with rfl | h
       . exact⟨zdl,.inl rfl⟩
       . exact⟨hn y h,.inr h⟩
     refine⟨[some d,some (.ref lN),some (.ref n)],s,true,s,by simp,rfl,.inl ⟨rfl,.str y,s3,znX hs1 ea el e3 ex,⟨_,rfl⟩,⟨ds++[y],by simp,by simp[hlen],fun x hx=>?_⟩,p3,((hf.trans f1).trans f2).trans f3⟩⟩
     rcases List.mem_append.mp hx with hx | hx
     . exact hok x hx
     . rw[List.mem_singleton.mp hx];exact hy)
 obtain⟨xs,ρ',s',ec,_,⟨ds,hx,hlen,hok⟩,hp,hf⟩:=key;rw[List.nil_append] at hx;subst hx;rw[zca] at hlen hp;exact⟨ds,s',ec,hlen,hok,hp,hf⟩
theorem zo1{n m lN:Nat}{ss:List Str}{st:Sto}(h:PotD n m st)(hN:st[lN]?=some (.lst (ss.map D.str)))(h1:lN≠n)(hl:ss.length<=100)(hn:∀ x∈ss,NmOk x)(hm:m<=700000) :
   ∃ (k:List Str) (st':Sto),Y4 (zcg [.ref n,.ref lN] st=some (zb8 k,st')) (KdOk ss k) (PotD n (m+6) st') (Fr n st st'):=by
 obtain⟨r1,s1,e1,r10,r11,p1,f1⟩:=zaV (many:=36) h (by omega) (by decide) (by decide);obtain⟨c1,g1,c10,c11⟩:=zn1 r1.toNat (by omega);have i1:ixA (.str sg36) (.int r1) s1=some (sgD c1,s1):=zjl (by decide) r10 g1;have a2:=zaR s1 (.lst [.str "",sgD c1]);have p2:=p1.gr (Gr.app s1 [.lst [.str "",sgD c1]]);have f2:=Fr.app n s1 [.lst [.str "",sgD c1]];have hn2:=p1.ne;generalize hs2:s1++[O.lst [D.str "",sgD c1]]=s2 at a2 p2 f2;obtain⟨r3,s3,e3,r30,r31,p3,f3⟩:=zaV (many:=2) p2 (by omega) (by decide) (by decide);have a3:=(f3.old _ (getElem?_lt a2) hn2).trans a2;obtain⟨x,hx,fx⟩:∃ x:Str,[D.str "",sgD c1][r3.toNat]?=some (.str x)/\NmOk x:=by
   have:r3=0\/r3=1:=by omega
   rcases this with rfl | rfl
   . exact⟨"",rfl,zdl⟩
   . exact⟨⟨#[c1]⟩,rfl,⟨by simp,by simp;omega⟩⟩
 have i3:ixA (.ref s1.length) (.int r3) s3=some (.str x,s3):=zco a3 r30 hx;have f13:Fr n st s3:=(f1.trans f2).trans f3;have hN3:=(f13.old _ (getElem?_lt hN) h1).trans hN;obtain⟨ds,s4,e4,hds,hok,p4,f4⟩:=zlY p3 hN3 h1 hl hn (by omega);have fd:fits (ds.map D.str).length=true:=zaw (by simp;omega)
 match ds,hds,hok,e4,fd with
 | [a,b,c,d],_,hok,e4,fd =>
   have a5:=zaR s4 (.lst [.str a,.str b,.str c,.str d]);have p5:=p4.gr (Gr.app s4 [.lst [.str a,.str b,.str c,.str d]]);have f5:=Fr.app n s4 [.lst [.str a,.str b,.str c,.str d]];have e4:mCI ⟨run 0 4,[]⟩ (gNm 0) zck za3 (run 0 4) [none,some (.ref lN),some (.ref n)] s3=some ([.str a,.str b,.str c,.str d],s4):=e4;generalize hs5:s4++[O.lst [.str a,.str b,.str c,.str d]]=s5 at a5 p5 f5;have j0:ixA (.ref s4.length) (.int 0) s5=some (.str a,s5):=zco a5 (by decide) rfl;have j1:ixA (.ref s4.length) (.int 1) s5=some (.str b,s5):=zco a5 (by decide) rfl;have j2:ixA (.ref s4.length) (.int 2) s5=some (.str c,s5):=zco a5 (by decide) rfl;have j3:ixA (.ref s4.length) (.int 3) s5=some (.str d,s5):=zco a5 (by decide) rfl;refine⟨[x,a,b,c,d],s5,zcy ?_,⟨x,[a,b,c,d],rfl,fx,rfl,hok⟩,p5.up (by omega),(f13.trans f4).trans f5⟩;unfold zeh;refine zan (ρ1:=[some (.ref n),some (.ref lN),some (.str x),none]) (s1:=s3) (by simp[e1,i1,hs2,e3,i3]) ?_;have ecm:zcO (mR1 (mCon (.int 4))) 1 [1,0] (gNm 0) (zck) (za3) [some (.ref n),some (.ref lN),some (.str x),none] s3=some (.ref s4.length,s5):=by
     rw[zaW,ziP (k:=4) rfl (by decide)];simp only[Option.bind_some];rw[show rho0 [some (.ref n),some (.ref lN),some (.str x),none] 1 [1,0]=[none,some (.ref lN),some (.ref n)] from rfl,e4];simp only[Option.bind_some,List.length_cons,List.length_nil,hs5];rfl
   refine zan (ρ1:=[some (.ref n),some (.ref lN),some (.str x),some (.ref s4.length)]) (s1:=s5) (by rw[zgb,ecm];rfl) ?_;simp[j0,j1,j2,j3,zb8]
noncomputable def zeq(e:Int)(stk:List (Str×Int))(ks:List (List Str)):D:=.tup [.int e,.tup (stk.map zbM),.tup (ks.map zb8)]
structure HsOk(e:Int)(stk:List (Str×Int))(ks:List (List Str)):Prop where
 e0:1<=e
 e1:e<=4
 sl:stk.length<=8
 nm:∀ p∈stk,NmOk p.1/\1<=p.2/\p.2<=4
 lo:1<=ks.length
 hi:ks.length<=13
 kd:∀ k∈ks,KdOk (stk.map (·.1)) k
theorem zlO{n a:Nat}{nm:D}{r r2 y:Int}{s s1 s2 s3:Sto}(e1:zac [.ref n,.int 4] s=some (.int r,s1))(hs2:s1++[.lst [.int 1,.int 2,.int 1,.int (1+r)]]=s2)(e2:zac [.ref n,.int 4] s2=some (.int r2,s3))(ex:ixA (.ref s1.length) (.int r2) s3=some (.int y,s3)):za6 [some nm,some (.ref n)] s=some (.tup [nm,.int y],s3):=by
 unfold za6;simp[e1,hs2,e2,ex]
theorem zka{n m lN:Nat}{ss:List Str}{st:Sto}(h:PotD n m st)(hN:st[lN]?=some (.lst (ss.map D.str)))(h1:lN≠n)(hl:ss.length<=8)(hn:∀ x∈ss,NmOk x)(hm:m<=800000) :
   ∃ (stk:List (Str×Int)) (st':Sto),Y5 (mCI ⟨ss.map D.str,[(lN,ss.map D.str)]⟩ (gNm 0) zck za6 (ss.map D.str) [none,some (.ref n)] st=some (stk.map zbM,st')) (stk.map (·.1)=ss) ((∀ p∈stk,NmOk p.1/\1<=p.2/\p.2<=4)) (PotD n (m+16) st') (Fr n st st'):=by
 have key:=znk (W:=⟨ss.map D.str,[(lN,ss.map D.str)]⟩) (g:=gNm 0) (c:=zck) (m:=za6) (ds:=ss.map D.str) (acc:=[]) (st:=st) (ρ:=[none,some (.ref n)])
   (Inv:=fun k a ρ s=>Y4 ((∃ x,ρ=[x,some (.ref n)])) ((∃ stk:List (Str×Int),a=stk.map zbM/\stk.map (·.1)=ss.take k/\∀ p∈stk,NmOk p.1/\1<=p.2/\p.2<=4)) (PotD n (m+2*k) s) (Fr n st s))
   ⟨⟨_,rfl⟩,⟨[],rfl,by simp,by simp⟩,h,Fr.refl _ _⟩ (fun k a ρ s _ hI=>zcl ((hI.h4.old _ (getElem?_lt hN) h1).trans hN)) (fun k d a ρ s hd hI=>by
     obtain⟨⟨x,rfl⟩,⟨stk,rfl,htk,hok⟩,hp,hf⟩:=hI;rw[List.getElem?_map] at hd;obtain⟨nm,hnm,rfl⟩:=zah hd;have hk:=getElem?_lt hnm;obtain⟨r,s1,e1,r0,r1,p1,f1⟩:=zaV (many:=4) hp (by omega) (by decide) (by decide);have a2:=zaR s1 (.lst [.int 1,.int 2,.int 1,.int (1+r)]);have p2:=p1.gr (Gr.app s1 [.lst [.int 1,.int 2,.int 1,.int (1+r)]]);have f2:=Fr.app n s1 [.lst [.int 1,.int 2,.int 1,.int (1+r)]];have hn2:=p1.ne;generalize hs2:s1++[O.lst [.int 1,.int 2,.int 1,.int (1+r)]]=s2 at a2 p2 f2;obtain⟨r2,s3,e3,r20,r21,p3,f3⟩:=zaV (many:=4) p2 (by omega) (by decide) (by decide);have a3:=(f3.old _ (getElem?_lt a2) hn2).trans a2;obtain⟨y,hy,y0,y1⟩:∃ y:Int,[D.int 1,.int 2,.int 1,.int (1+r)][r2.toNat]?=some (.int y)/\1<=y/\y<=4:=by
       have:r2=0\/r2=1\/r2=2\/r2=3:=by omega
       rcases this with rfl | rfl | rfl | rfl
       . exact⟨1,rfl,by decide,by decide⟩
       . exact⟨2,rfl,by decide,by decide⟩
       . exact⟨1,rfl,by decide,by decide⟩
       . exact⟨1+r,rfl,by omega,by omega⟩
     have ex:ixA (.ref s1.length) (.int r2) s3=some (.int y,s3):=zco a3 r20 hy;refine⟨[some (.str nm),some (.ref n)],s,true,s,rfl,rfl,.inl ⟨rfl,zbM (nm,y),s3,zlO (a:=0) e1 hs2 e3 ex,⟨_,rfl⟩,⟨stk++[(nm,y)],by simp,?_,fun p hp=>?_⟩,p3.up (by omega),((hf.trans f1).trans f2).trans f3⟩⟩
     . rw[List.map_append,htk,List.take_add_one,hnm];rfl
     . rcases List.mem_append.mp hp with hp | hp
       . exact hok p hp
       . rw[List.mem_singleton.mp hp];exact⟨hn nm (List.mem_of_getElem? hnm),y0,y1⟩)
 obtain⟨xs,ρ',s',ec,_,⟨stk,hx,htk,hok⟩,hp,hf⟩:=key;rw[List.nil_append] at hx;subst hx;rw[List.length_map] at htk hp;rw[List.take_length] at htk;exact⟨stk,s',ec,htk,hok,hp.up (by omega),hf⟩
theorem zm0{n m lN j:Nat}{ss:List Str}{st:Sto}(h:PotD n m st)(hN:st[lN]?=some (.lst (ss.map D.str)))(h1:lN≠n)(hl:ss.length<=8)(hn:∀ x∈ss,NmOk x)(hm:m<=600000)(hj:j<=12) :
   ∃ (ks:List (List Str)) (st':Sto),Y5 (mCI ⟨run 0 j,[]⟩ (gNm 0) zck zbo (run 0 j) [none,some (.ref n),some (.ref lN)] st=some (ks.map zb8,st')) (ks.length=j) ((∀ k∈ks,KdOk ss k)) (PotD n (m+72) st') (Fr n st st'):=by
 have key:=znk (W:=⟨run 0 j,[]⟩) (g:=gNm 0) (c:=zck) (m:=zbo) (ds:=run 0 j) (acc:=[]) (st:=st) (ρ:=[none,some (.ref n),some (.ref lN)])
   (Inv:=fun i a ρ s=>Y4 ((∃ x,ρ=[x,some (.ref n),some (.ref lN)])) ((∃ ks:List (List Str),a=ks.map zb8/\ks.length=i/\∀ k∈ks,KdOk ss k)) (PotD n (m+6*i) s) (Fr n st s))
   ⟨⟨_,rfl⟩,⟨[],rfl,rfl,by simp⟩,h,Fr.refl _ _⟩ (fun _ _ _ _ _ _=>rfl) (fun i d a ρ s hd hI=>by
     obtain⟨⟨x,rfl⟩,⟨ks,rfl,hlen,hok⟩,hp,hf⟩:=hI;have hi:=(zdW hd).1;obtain⟨k,s1,e1,hk,p1,f1⟩:=zo1 hp ((hf.old _ (getElem?_lt hN) h1).trans hN) h1 (by omega) hn (by omega);refine⟨[some d,some (.ref n),some (.ref lN)],s,true,s,rfl,rfl,.inl ⟨rfl,zb8 k,s1,?_,⟨_,rfl⟩,⟨ks++[k],by simp,by simp[hlen],fun y hy=>?_⟩,p1.up (by omega),hf.trans f1⟩⟩
     . unfold zbo;simp[e1]
     . rcases List.mem_append.mp hy with hy | hy
       . exact hok y hy
       . rw[List.mem_singleton.mp hy];exact hk)
 obtain⟨xs,ρ',s',ec,_,⟨ks,hx,hlen,hok⟩,hp,hf⟩:=key;rw[List.nil_append] at hx;subst hx;rw[zca] at hlen hp;exact⟨ks,s',ec,hlen,hok,hp.up (by omega),hf⟩
theorem zez{n m:Nat}{st:Sto}{xs:List Int}{lo hi:Int}(h:PotD n m st)(hm:m<=900000)(hx:1<=xs.length)(hx2:xs.length<=100)(hb:∀ x∈xs,lo<=x/\x<=hi):∃ (r y:Int) (st':Sto),Y6 (zac [.ref n,.int (xs.length:Int)] (st++[.lst (xs.map D.int)])=some (.int r,st')) (ixA (.ref st.length) (.int r) st'=some (.int y,st')) (lo<=y) (y<=hi) (PotD n (m+1) st') (Fr n st st'):=by
 have a1:=zaR st (.lst (xs.map D.int));have p1:=h.gr (Gr.app st [.lst (xs.map D.int)]);have f1:=Fr.app n st [.lst (xs.map D.int)];have hn:=h.ne;generalize st++[O.lst (xs.map D.int)]=s1 at a1 p1 f1;obtain⟨r,s2,e2,r0,r1,p2,f2⟩:=zaV (many:=(xs.length:Int)) p1 (by omega) (by omega) (by omega);have a2:=(f2.old _ (getElem?_lt a1) hn).trans a1;have hr:r.toNat < xs.length:=by omega
 have hy:=hb _ (List.getElem_mem hr);exact⟨r,xs[r.toNat],s2,e2,zco a2 r0 (by rw[List.getElem?_map,List.getElem?_eq_getElem hr];rfl),hy.1,hy.2,p2,f1.trans f2⟩
theorem zm4{n m:Nat}{st:Sto}(h:PotD n m st)(hm:m<=100000):∃ (e:Int) (stk:List (Str×Int)) (ks:List (List Str)) (st':Sto),Y4 (zb2 [.ref n] st=some (zeq e stk ks,st')) (HsOk e stk ks) (PotD n (m+200) st') (Fr n st st'):=by
 obtain⟨r1,s1,e1,r10,r11,p1,f1⟩:=zaV (many:=4) h (by omega) (by decide) (by decide);obtain⟨ss,lN,s2,e2,at2,hss,hnm,n1,p2,f2⟩:=zmJ (k:=(1+r1).toNat) (M:=1+r1) (by omega) p1 (by omega) (by omega);obtain⟨r3,y3,s3,e3,x3,y30,y31,p3,f3⟩:=zez (xs:=[1,1,2,2,1,3,4,2]) (lo:=1) (hi:=4) p2 (by omega) (by decide) (by decide) (by decide);have nm3:=(f3.old _ (getElem?_lt at2) n1).trans at2;obtain⟨stk,s4,e4,hstk,hsok,p4,f4⟩:=zka p3 nm3 n1 (by omega) hnm (by omega);have lstk:stk.length=ss.length:=by rw[<-hstk,List.length_map]
 have a5:=zaR s4 (.lst (stk.map zbM));have p5:=p4.gr (Gr.app s4 [.lst (stk.map zbM)]);have f5:=Fr.app n s4 [.lst (stk.map zbM)];have fs:fits (stk.map zbM).length=true:=zaw (by rw[List.length_map];omega);generalize hs5:s4++[O.lst (stk.map zbM)]=s5 at a5 p5 f5;have et:=zbW a5;obtain⟨r6,y6,s6,e6,x6,y60,y61,p6,f6⟩:=zez (xs:=[3,5,5,12]) (lo:=3) (hi:=12) p5 (by omega) (by decide) (by decide) (by decide);obtain⟨r7,s7,e7,r70,r71,p7,f7⟩:=zaV (many:=y6) p6 (by omega) (by omega) (by omega);have nm7:=(((f4.trans f5).trans (f6.trans f7)).old _ (getElem?_lt nm3) n1).trans nm3;obtain⟨ks,s8,e8,hks,hkok,p8,f8⟩:=zm0 (j:=(1+r7).toNat) p7 nm7 n1 (by omega) hnm (by omega) (by omega);have a9:=zaR s8 (.lst (ks.map zb8));have p9:=p8.gr (Gr.app s8 [.lst (ks.map zb8)]);have f9:=Fr.app n s8 [.lst (ks.map zb8)];have fk:fits (ks.map zb8).length=true:=zaw (by rw[List.length_map];omega);have hn9:=p8.ne;generalize hs9:s8++[O.lst (ks.map zb8)]=s9 at a9 p9 f9;obtain⟨r10',s10,e10,r100,r101,p10,f10⟩:=zaV (many:=6) p9 (by omega) (by decide) (by decide);have a10:=(f10.old _ (getElem?_lt a9) hn9).trans a9;have f110:Fr n st s10:=((f1.trans f2).trans (f3.trans f4)).trans (((f5.trans f6).trans (f7.trans f8)).trans (f9.trans f10));have sm:small (1+r7)=true:=zcx (by omega) (by omega);have ecm1:zcO (mWA (mVar 1)) 1 [0] (gNm 0) (zck) (za6) [some (.ref n),some (.ref lN),some (.int y3),none,none] s3=some (.ref s4.length,s5):=by
   have:mWA (mVar 1) [some (.ref n),some (.ref lN),some (.int y3),none,none] s3=some (⟨ss.map D.str,[(lN,ss.map D.str)]⟩,s3):=by simp[zie,zbu,nm3]
   rw[zaW,this];simp only[Option.bind_some];rw[show rho0 [some (.ref n),some (.ref lN),some (.int y3),none,none] 1 [0]=[none,some (.ref n)] from rfl,e4];simp only[Option.bind_some,fs,if_true,hs5]
 have ecm2:zcO (mR1 (mBin addD (mCon (.int 1)) (zar zac (zad (mVar 0) (zad (mBin ixA (mLst (zad (mCon (.int 3)) (zad (mCon (.int 5)) (zad (mCon (.int 5)) (zad (mCon (.int 12)) (mNil)))))) (zar zac (zad (mVar 0) (zad (mCon (.int 4)) (mNil))))) (mNil)))))) 1 [0,1] (gNm 0) (zck) (zbo) [some (.ref n),some (.ref lN),some (.int y3),some (.tup (stk.map zbM)),none] s5=some (.ref s8.length,s9):=by
   have e6':zac [.ref n,.int 4] (s5++[.lst [.int 3,.int 5,.int 5,.int 12]])=some (.int r6,s6):=e6;have:mR1 (mBin addD (mCon (.int 1)) (zar zac (zad (mVar 0) (zad (mBin ixA (mLst (zad (mCon (.int 3)) (zad (mCon (.int 5)) (zad (mCon (.int 5)) (zad (mCon (.int 12)) (mNil)))))) (zar zac (zad (mVar 0) (zad (mCon (.int 4)) (mNil))))) (mNil))))) [some (.ref n),some (.ref lN),some (.int y3),some (.tup (stk.map zbM)),none] s5=some (⟨run 0 (1+r7).toNat,[]⟩,s7):=by simp[e6',x6,e7,sm]
   rw[zaW,this];simp only[Option.bind_some];rw[show rho0 [some (.ref n),some (.ref lN),some (.int y3),some (.tup (stk.map zbM)),none] 1 [0,1]=[none,some (.ref n),some (.ref lN)] from rfl,e8];simp only[Option.bind_some,fk,if_true,hs9]
 have e3':zac [.ref n,.int 8] (s2++[.lst [.int 1,.int 1,.int 2,.int 2,.int 1,.int 3,.int 4,.int 2]])=some (.int r3,s3):=e3;have pre:∀ {R:Option (Fl×Sto)},mSeq (mIf (mTst (mBin eqD (zar zac (zad (mVar 0) (zad (mCon (.int 6)) (mNil)))) (mCon (.int 0)))) (mExp (mApp (mVar 4) (zad (mBin ixA (mVar 4) (zar zac (zad (mVar 0) (zad (zar lenD (zad (mVar 4) (mNil))) (mNil))))) (mNil)))) (zdK)) (mRet (mTup (zad (mVar 2) (zad (mVar 3) (zad (zar zdN (zad (mVar 4) (mNil))) (mNil))))))
     [some (.ref n),some (.ref lN),some (.int y3),some (.tup (stk.map zbM)),some (.ref s8.length)] s9=R->zcu (rho 5 [.ref n]) st=R:=fun hR=>by
   unfold zcu;refine zan (ρ1:=[some (.ref n),some (.ref lN),none,none,none]) (s1:=s2) (by simp[e1,e2]) ?_;refine zan (ρ1:=[some (.ref n),some (.ref lN),some (.int y3),none,none]) (s1:=s3) (by simp[e3',x3]) ?_;refine zan (ρ1:=[some (.ref n),some (.ref lN),some (.int y3),some (.tup (stk.map zbM)),none]) (s1:=s5) (by simp[ecm1,et]) ?_;exact zan (ρ1:=[some (.ref n),some (.ref lN),some (.int y3),some (.tup (stk.map zbM)),some (.ref s8.length)]) (s1:=s9) (by rw[zgb,ecm2];rfl) hR
 have kd':∀ k∈ks,KdOk (stk.map (·.1)) k:=by rw[hstk];exact hkok
 by_cases hr:r10'=0
 . subst hr;have el:=zhl a10;rw[List.length_map] at el;obtain⟨r11',s11,e11,r110,r111,p11,f11⟩:=zaV (many:=(ks.length:Int)) p10 (by omega) (by omega) (by omega);have a11:=(f11.old _ (getElem?_lt a10) hn9).trans a10;have hlt:r11'.toNat < ks.length:=by omega
   have ex:ixA (.ref s8.length) (.int r11') s11=some (zb8 ks[r11'.toNat],s11):=zco a11 r110 (by rw[List.getElem?_map,List.getElem?_eq_getElem hlt];rfl);have hmem:ks[r11'.toNat]∈ks:=List.getElem_mem hlt;generalize ks[r11'.toNat]=k0 at ex hmem;have ea:=append_at (x:=zb8 k0) a11 (by rw[List.length_map];omega);have a12:(s11.set s8.length (.lst (ks.map zb8++[zb8 k0])))[s8.length]?=some (.lst (ks.map zb8++[zb8 k0])):=by simp[getElem?_lt a11]
   have et2:=zbW a12;have hlen8:st.length<=s8.length:=(((f1.trans f2).trans (f3.trans f4)).trans ((f5.trans f6).trans (f7.trans f8))).len;refine⟨y3,stk,ks++[k0],s11.set s8.length (.lst (ks.map zb8++[zb8 k0])),zcy (pre ?_),⟨y30,y31,by omega,hsok,by simp,by simp;omega,fun k hk=>?_⟩,(p11.set hn9).up (by omega),?_⟩
   . generalize s11.set s8.length (.lst (ks.map zb8++[zb8 k0]))=s12 at *;refine zan (ρ1:=[some (.ref n),some (.ref lN),some (.int y3),some (.tup (stk.map zbM)),some (.ref s8.length)]) (s1:=s12) (by simp[e10,eq_int,el,e11,ex,ea,zbu,a10]) ?_;simp[et2,zeq]
   . rcases List.mem_append.mp hk with hk | hk
     . exact kd' k hk
     . rw[List.mem_singleton.mp hk];exact kd' k0 hmem
   . have f:=f110.trans f11;exact⟨by rw[List.length_set];exact f.len,fun k hk hkn=>by rw[List.getElem?_set_ne (by omega)];exact f.old k hk hkn⟩
 . have et2:=zbW a10;refine⟨y3,stk,ks,s10,zcy (pre ?_),⟨y30,y31,by omega,hsok,by omega,by omega,kd'⟩,p10.up (by omega),f110⟩;refine zan (ρ1:=[some (.ref n),some (.ref lN),some (.int y3),some (.tup (stk.map zbM)),some (.ref s8.length)]) (s1:=s10) (by simp[e10,eq_int,hr]) ?_;simp[et2,zeq]
end L2.MP.Hd
set_option maxHeartbeats 4000000
namespace L2.MP.Hd
open PySem L2.MP
open L2.MP.Hn (zas zaA srtT zaz)
noncomputable def za8(w h kn:Int)(t:Tl):Prop:=0<=t.1/\t.1 < w/\0<=t.2.1/\t.2.1 < h/\0<=t.2.2/\t.2.2 < kn
theorem zig:∀ {l:List Tl} {t:Tl},PlNd l->t∈l->valD (l.map kvOf) (kvOf t).1=some (.int t.2.2)
 | [],t,_,h=>by cases h
 | u::l,t,nd,h=>by
   have nd':(∀ b∈l,zbw u b=false)/\PlNd l:=List.pairwise_cons.mp nd;unfold valD;rw[List.map_cons,List.find?_cons,zji]
   rcases List.mem_cons.mp h with rfl | h
   . have:zbw t t=true:=by unfold zbw;simp
     rw[this];rfl
   . rw[nd'.1 t h];exact zig nd'.2 h
structure SInv(n t m:Nat)(w h kn:Int)(st0:Sto)(l:List Tl)(s:Sto):Prop where
 at_:s[t]?=some (.dt (l.map kvOf))
 ok:∀ u∈l,za8 w h kn u
 nd:PlNd l
 pot:PotD n m s
 fr:Fr n st0 s
noncomputable abbrev srho (n:Nat) (hd:D) (w h most:Int) (t:Nat) (v u:Option D):Rho:=[some (.ref n),some hd,some (.tup [.int w,.int h]),some (.int most),some (.ref t),v,u]
theorem zql{n t:Nat}{w h most x y k K:Int}{hd KK:D}{s s1 s2 s3 s4:Sto}{v u:Option D}(ew:ixA (.tup [.int w,.int h]) (.int 0) s=some (.int w,s))(e1:zac [.ref n,.int w] s=some (.int x,s1))(eh:ixA (.tup [.int w,.int h]) (.int 1) s1=some (.int h,s1))(e2:zac [.ref n,.int h] s1=some (.int y,s2))(e3:ixA hd (.int 2) s2=some (KK,s2))(e4:lenD [KK] s2=some (.int K,s2))(e5:zac [.ref n,.int K] s2=some (.int k,s3))(ed:dput s3 t (.tup [.int x,.int y]) (.int k)=some s4) :
   zaX (srho n hd w h most t v u) s=some (.nx (srho n hd w h most t v (some (.tup [.int x,.int y]))),s4):=by
 unfold zaX;refine zan (ρ1:=srho n hd w h most t v (some (.tup [.int x,.int y]))) (s1:=s2) (by simp[srho,zaW,ew,e1,eh,e2]) ?_;rw[zgQ];have c1:mAsg (zar zac (zad (mVar 0) (zad (zar lenD (zad (mBin ixA (mVar 1) (mCon (.int 2))) (mNil))) (mNil)))) (gSb setD (mVar 4) (mVar 6)) (srho n hd w h most t v (some (.tup [.int x,.int y]))) s2=none:=by
   simp[srho,zaW,e3,e4,e5,setD]
 rw[c1,zfv];unfold zjZ;simp[srho,zaW,e3,e4,e5,ed]
theorem ziv{n t m:Nat}{w h most:Int}{a b:D}{ks:List D}{st0 s:Sto}{l:List Tl}{v u:Option D}(q:SInv n t m w h ks.length st0 l s)(ht:t≠n)(ht0:st0.length<=t)(hw:0 < w)(hw2:w<=1000)(hh:0 < h)(hh2:h<=1000)(hk:0 < ks.length)(hk2:ks.length < 100000)(hl:l.length<=1000)(hm:m<=900000) :
   ∃ (l':List Tl) (u':Option D) (s':Sto),Y3 (zaX (srho n (.tup [a,b,.tup ks]) w h most t v u) s=some (.nx (srho n (.tup [a,b,.tup ks]) w h most t v u'),s')) (SInv n t (m+3) w h ks.length st0 l' s') (l'.length<=l.length+1):=by
 obtain⟨x,s1,e1,x0,x1,p1,f1⟩:=zaV (many:=w) q.pot (by omega) hw (by omega);obtain⟨y,s2,e2,y0,y1,p2,f2⟩:=zaV (many:=h) p1 (by omega) hh (by omega);obtain⟨k,s3,e3,k0,k1,p3,f3⟩:=zaV (many:=ks.length) p2 (by omega) (by omega) (by omega);have f13:=(f1.trans f2).trans f3;have at3:=(f13.old _ (getElem?_lt q.at_) ht).trans q.at_;have ed:=zd5 (x:=x) (y:=y) (k:=k) at3 hl;have hlt:=getElem?_lt at3;have fr3:=q.fr.trans f13;refine⟨putT l (x,y,k),_,s3.set t (.dt ((putT l (x,y,k)).map kvOf)),zql (zaQ (by decide) rfl) e1 (zaQ (by decide) rfl) e2 (zaQ (by decide) rfl) zfZ e3 ed,⟨by simp[hlt],ziS q.ok ⟨x0,x1,y0,y1,k0,k1⟩,zlg q.nd,p3.set ht,⟨by have:=fr3.len;simpa using this,fun j hj nj=>by rw[List.getElem?_set_ne (by omega)];exact fr3.old j hj nj⟩⟩,zgx _ _⟩
theorem zmi{x y k:Int}{t:Nat}{s:Sto}(hk:zkY (.ref t) (.tup [.int x,.int y]) s=some (.int k,s)):zaY [some (.tup [.int x,.int y]),some (.ref t)] s=some (.tup [.int x,.int y,.int k],s):=by
 have ea:addD (.tup [.int x,.int y]) (.tup [.int k]) s=some (.tup [.int x,.int y,.int k],s):=zhD (by simp) (by simp);unfold zaY;simp[hk,ea]
theorem zdP{n m:Nat}{w h most:Int}{a b:D}{ks:List D}{st:Sto}(hp:PotD n m st)(hw:0 < w)(hw2:w<=1000)(hh:0 < h)(hh2:h<=1000)(hk:0 < ks.length)(hk2:ks.length < 100000)(hm:0<=most)(hm2:most < 60)(hmm:m<=800000) :
   ∃ (ts:List Tl) (st':Sto),Y6 (zax [.ref n,.tup [a,b,.tup ks],.tup [.int w,.int h],.int most] st=some (zas ts,st')) ((∀ t∈ts,za8 w h ks.length t)) ((∃ l:List Tl,ts=srtT l/\PlNd l)) ((ts.length:Int)<=most) (PotD n (m+181) st') (Fr n st st'):=by
 have ht:st.length≠n:=hp.ne;have p0:=hp.gr (Gr.app st [.dt []]);obtain⟨r,s1,e1,r0,r1,p1,f1⟩:=zaV (many:=most+1) p0 (by omega) (by omega) (by omega);have at1:s1[st.length]?=some (.dt (([]:List Tl).map kvOf)):=(f1.old _ (by simp) ht).trans (zaR st _);have key:=zbR (W:=⟨run 0 r.toNat,[]⟩) (g:=gNm 5) (m:=zaX) (ds:=run 0 r.toNat) (ρ:=srho n (.tup [a,b,.tup ks]) w h most st.length none none) (st:=s1)
   (Inv:=fun k ρ s=>∃ (l:List Tl) (v u:Option D),Y3 (ρ=srho n (.tup [a,b,.tup ks]) w h most st.length v u) (l.length<=k) (SInv n st.length (m+1+3*k) w h ks.length st l s))
   ⟨[],none,none,rfl,Nat.le_refl _,⟨at1,by simp,List.Pairwise.nil,p1,(Fr.app _ _ _).trans f1⟩⟩ (fun _ _ _ _ _=>rfl) (fun k d ρ s hd hI=>by
     obtain⟨l,v,u,rfl,hl,q⟩:=hI;have hkl:=(zdW hd).1;obtain⟨l',u',s',e,q',hl'⟩:=ziv (most:=most) (a:=a) (b:=b) (v:=some d) (u:=u) q ht (Nat.le_refl _) hw hw2 hh hh2 hk hk2 (by omega) (by omega);exact⟨_,s,_,s',rfl,e,l',some d,u',rfl,by omega,q'⟩)
 obtain⟨ρ',s2,e2,l,v,u,rfl,hl,q⟩:=key;rw[zca] at hl q;have hlt:=getElem?_lt q.at_;have ewk:znv (.ref st.length) s2=some (⟨zcU (l.map kvOf),[]⟩,s2.set st.length (.ft (l.map kvOf))):=by
   unfold znv;simp only[q.at_]
 have a3:(s2.set st.length (.ft (l.map kvOf)))[st.length]?=some (.ft (l.map kvOf)):=by simp[hlt]
 have fr3:Fr n st (s2.set st.length (.ft (l.map kvOf))):=⟨by have:=q.fr.len;simpa using this,fun j hj nj=>by rw[List.getElem?_set_ne (by omega)];exact q.fr.old j hj nj⟩
 have p3:PotD n (m+1+3*r.toNat) (s2.set st.length (.ft (l.map kvOf))):=q.pot.set ht;generalize hs3:s2.set st.length (.ft (l.map kvOf))=s3 at ewk a3 fr3 p3;have eit:zcU (l.map kvOf)=l.map fun t=>D.tup [.int t.1,.int t.2.1]:=by
   unfold zcU;rw[List.map_map];rfl
 have ec:mCI ⟨zcU (l.map kvOf),[]⟩ (gNm 0) zck zaY (zcU (l.map kvOf)) [none,some (.ref st.length)] s3=some (l.map fun t=>tupD (rowT t),s3):=by
   rw[eit];refine zh3 (R:=fun ρ=>∃ x,ρ=[x,some (.ref st.length)]) ⟨none,rfl⟩ rfl fun t ht ρ hρ=>?_;obtain⟨x,rfl⟩:=hρ;have hv:=zig q.nd ht;have hk:zkY (.ref st.length) (.tup [.int t.1,.int t.2.1]) s3=some (.int t.2.2,s3):=by
     have e1:keysOf [.int t.1,.int t.2.1]=some (kvOf t).1:=rfl;simp only[zkY,zmV,a3,e1,Option.map_some,Option.bind_some,hv]
   exact⟨[some (.tup [.int t.1,.int t.2.1]),some (.ref st.length)],rfl,rfl,zmi hk,⟨_,rfl⟩⟩
 have fl:fits (l.map fun t=>tupD (rowT t)).length=true:=zaw (by rw[List.length_map];omega);have a4:=zaR s3 (.lst (l.map fun t=>tupD (rowT t)));have es:=zaA a4 (by omega);have p4:=p3.gr (Gr.app s3 [.lst (l.map fun t=>tupD (rowT t))]);have f4:=Fr.app n s3 [.lst (l.map fun t=>tupD (rowT t))];have hperm:=zaz l;generalize hs4:s3++[O.lst (l.map fun t=>tupD (rowT t))]=s4 at es p4 f4;have et:=zbW (zaR s4 (.lst ((srtT l).map fun t=>tupD (rowT t))));refine⟨srtT l,s4++[.lst ((srtT l).map fun t=>tupD (rowT t))],zcy ?_,fun t ht=>q.ok t (hperm.mem_iff.mp ht),⟨l,rfl,q.nd⟩,by rw[hperm.length_eq];omega,(p4.gr (Gr.app _ _)).up (by omega),(fr3.trans f4).trans (Fr.app _ _ _)⟩;have sm:small r=true:=zcx r0 (by omega);unfold zcs zas;generalize ((srtT l).map fun t=>tupD (rowT t))=B at es et;generalize (l.map fun t=>tupD (rowT t))=A at ec fl hs4;generalize zcU (l.map kvOf)=KD at ec ewk;refine zan (ρ1:=srho n (.tup [a,b,.tup ks]) w h most st.length none none) (s1:=st++[.dt []]) (by simp[srho,]) ?_;refine zan (ρ1:=srho n (.tup [a,b,.tup ks]) w h most st.length v u) (s1:=s2) (by
   have:mR1 (zar zac (zad (mVar 0) (zad (mBin addD (mVar 3) (mCon (.int 1))) (mNil)))) (srho n (.tup [a,b,.tup ks]) w h most st.length none none) (st++[.dt []])=some (⟨run 0 r.toNat,[]⟩,s1):=by simp[srho,e1,sm]
   rw[zdb,this];exact e2) ?_
 have ecm:zcO (mWK (mVar 4)) 1 [4] (gNm 0) (zck) (zaY) (srho n (.tup [a,b,.tup ks]) w h most st.length v u) s2=some (.ref s3.length,s4):=by
   have:mWK (mVar 4) (srho n (.tup [a,b,.tup ks]) w h most st.length v u) s2=some (⟨KD,[]⟩,s3):=ewk;rw[zaW,this];simp only[Option.bind_some];rw[show rho0 (srho n (.tup [a,b,.tup ks]) w h most st.length v u) 1 [4]=[none,some (.ref st.length)] from rfl,ec];simp only[Option.bind_some,fl,if_true,hs4]
 simp[ecm,es,et]
structure FlOk(w h:Int):Prop where
 w0:1<=w
 w1:w<=12
 h0:1<=h
 h1:h<=12
noncomputable def bedD(e:Int)(stk:List (Str×Int))(ks:List (List Str))(w h:Int)(sd:List Tl):D:=.tup [zeq e stk ks,.tup [.int w,.int h],zas sd]
theorem zpr{n m:Nat}{st:Sto}(hp:PotD n m st)(hm:m<=100000):∃ (e:Int) (stk:List (Str×Int)) (ks:List (List Str)) (w h:Int) (sd:List Tl) (st':Sto),Y8 (zcB [.ref n] st=some (bedD e stk ks w h sd,st')) (HsOk e stk ks) (FlOk w h) ((∀ t∈sd,za8 w h ks.length t)) ((∃ l:List Tl,sd=srtT l/\PlNd l)) (sd.length<=6) (PotD n (m+400) st') (Fr n st st'):=by
 obtain⟨e,stk,ks,s1,e1,hs,p1,f1⟩:=zm4 hp hm;obtain⟨r2,s2,e2,r20,r21,p2,f2⟩:=zaV (many:=5) p1 (by omega) (by decide) (by decide);obtain⟨r3,y3,s3,e3,x3,y30,y31,p3,f3⟩:=zez (xs:=[5,5,5,12]) (lo:=5) (hi:=12) p2 (by omega) (by decide) (by decide) (by decide);obtain⟨r4,s4,e4,r40,r41,p4,f4⟩:=zaV (many:=y3) p3 (by omega) (by omega) (by omega);obtain⟨r5,s5,e5,r50,r51,p5,f5⟩:=zaV (many:=2) p4 (by omega) (by decide) (by decide);obtain⟨r6,y6,s6,e6,x6,y60,y61,p6,f6⟩:=zez (xs:=[1,2,6]) (lo:=1) (hi:=6) p5 (by omega) (by decide) (by decide) (by decide);have e3':zac [.ref n,.int 4] (s2++[.lst [.int 5,.int 5,.int 5,.int 12]])=some (.int r3,s3):=e3;have e6':zac [.ref n,.int 3] (s5++[.lst [.int 1,.int 2,.int 6]])=some (.int r6,s6):=e6;have k1:=hs.lo;have k2:=hs.hi;have f16:Fr n st s6:=((f1.trans f2).trans (f3.trans f4)).trans (f5.trans f6);obtain⟨w,h,hwh,hfl⟩:∃ w h:Int,(∀ R:Option (Fl×Sto),mRet (mTup (zad (mVar 1) (zad (mVar 2) (zad (zar zax (zad (mVar 0) (zad (mVar 1) (zad (mVar 2) (zad (mBin ixA (mLst (zad (mCon (.int 1)) (zad (mCon (.int 2)) (zad (mCon (.int 6)) (mNil))))) (zar zac (zad (mVar 0) (zad (mCon (.int 3)) (mNil))))) (mNil)))))) (mNil))))) [some (.ref n),some (zeq e stk ks),some (.tup [.int w,.int h])] s5=R->zcC (rho 3 [.ref n]) st=R)/\FlOk w h:=by
   generalize zeq e stk ks=hd at *
   by_cases hr:r5=0
   . subst hr;refine⟨1+r4,1+r2,fun R hR=>?_,by omega,by omega,by omega,by omega⟩;unfold zcC;refine zan (ρ1:=[some (.ref n),some hd,none]) (s1:=s1) (by simp[e1]) ?_;refine zan (ρ1:=[some (.ref n),some hd,some (.tup [.int (1+r2),.int (1+r4)])]) (s1:=s4) (by simp[e2,e3',x3,e4]) ?_;refine zan (ρ1:=[some (.ref n),some hd,some (.tup [.int (1+r4),.int (1+r2)])]) (s1:=s5) ?_ hR;have er:∀ s:Sto,zq1 (mVar 2) (mNeg (mCon (.int 1))) [some (.ref n),some hd,some (.tup [.int (1+r2),.int (1+r4)])] s=some (.tup [.int (1+r4),.int (1+r2)],s):=fun s=>rfl;simp[e5,eq_int,er]
   . refine⟨1+r2,1+r4,fun R hR=>?_,by omega,by omega,by omega,by omega⟩;unfold zcC;refine zan (ρ1:=[some (.ref n),some hd,none]) (s1:=s1) (by simp[e1]) ?_;refine zan (ρ1:=[some (.ref n),some hd,some (.tup [.int (1+r2),.int (1+r4)])]) (s1:=s4) (by simp[e2,e3',x3,e4]) ?_;refine zan (ρ1:=[some (.ref n),some hd,some (.tup [.int (1+r2),.int (1+r4)])]) (s1:=s5) (by simp[e5,eq_int,hr]) hR
 have:=hfl.w0;have:=hfl.w1;have:=hfl.h0;have:=hfl.h1;obtain⟨sd,s7,e7,hsd,hso,hsl,p7,f7⟩:=zdP (w:=w) (h:=h) (most:=y6) (a:=.int e) (b:=.tup (stk.map zbM)) (ks:=ks.map zb8) p6 (by omega) (by omega) (by omega) (by omega) (by rw[List.length_map];omega) (by rw[List.length_map];omega) (by omega) (by omega) (by omega);have e7:zax [.ref n,zeq e stk ks,.tup [.int w,.int h],.int y6] s6=some (zas sd,s7):=e7;rw[List.length_map] at hsd;refine⟨e,stk,ks,w,h,sd,s7,zcy (hwh _ ?_),hs,hfl,hsd,hso,by omega,p7.up (by omega),f16.trans f7⟩;unfold bedD;generalize zeq e stk ks=hd at *;simp[e6',x6,e7]
end L2.MP.Hd
set_option maxHeartbeats 4000000
namespace L2.MP.Hd
open PySem L2.MP
open L2.MP.Hn (zas)
theorem znB{x y:Int}{d:Nat}{kvs:List (List Key×D)}{st:Sto}(h:st[d]?=some (.dt kvs)):inA (.tup [.int x,.int y]) (.ref d) st=some (.bl (valD kvs [.inl x,.inl y]).isSome,st):=by
 have e0:toP 50 st (.ref d)=none:=by rw[toP];simp[zbu,h]
 have e1:inD false (.tup [.int x,.int y]) (.ref d) st=none:=by
   unfold inD;rw[e0]
   cases toP 50 st (.tup [.int x,.int y]) <;> rfl
 have e2:inSD (.tup [.int x,.int y]) (.ref d) st=none:=rfl;unfold inA orG;rw[show orO (inD false (.tup [.int x,.int y]) (.ref d) st) (inSD (.tup [.int x,.int y]) (.ref d) st)=none by rw[e1,e2];rfl,zfv];simp[dinD,look,h,keysOf,keyOf]
theorem zq9{x y:Int}{d:Nat}{kvs:List (List Key×D)}{v:D}{st:Sto}(h:st[d]?=some (.dt kvs))(hv:valD kvs [.inl x,.inl y]=some v):ixA (.ref d) (.tup [.int x,.int y]) st=some (v,st):=by
 have e1:idxD (.ref d) (.tup [.int x,.int y]) st=none:=by simp[idxD,zbu,h]
 unfold ixA orG;rw[e1,zfv];simp[zrl,look,h,keysOf,keyOf,hv]
theorem eq_str{a b:Str}{st:Sto}(ha:PyData.strOk a=true)(hb:PyData.strOk b=true):eqD (.str a) (.str b) st=some (.bl (a==b),st):=by
 unfold eqD;rw[zgU ha,zgU hb];simp[PyData.eqv]
theorem ne_str{a b:Str}{st:Sto}(ha:PyData.strOk a=true)(hb:PyData.strOk b=true):neD (.str a) (.str b) st=some (.bl (a != b),st):=by
 unfold neD;rw[zgU ha,zgU hb];simp[PyData.eqv,bne]
noncomputable def byPl(ts:List Tl):List Tl:=ts.foldl putT []
theorem zjb:∀ (ts acc:List Tl),zfV (acc.map kvOf) (ts.map kvOf)=(ts.foldl putT acc).map kvOf
 | [],acc=>rfl
 | t::ts,acc=>by
   show zfV (putD (acc.map kvOf) (kvOf t).1 (kvOf t).2) (ts.map kvOf)=_;rw[zlh];exact zjb ts (putT acc t)
theorem zjy:∀ (ts acc:List Tl),(ts.foldl putT acc).length<=acc.length+ts.length
 | [],acc=>by simp
 | t::ts,acc=>by
   have h1:=zjy ts (putT acc t);have h2:=zgx acc t;simp only[List.foldl_cons,List.length_cons];omega
noncomputable def fnd(P:List Tl)(x y:Int):Option Int:=(P.find? fun t=>decide (t.1=x)&&decide (t.2.1=y)).map fun t=>t.2.2
theorem zch(x y:Int):∀ P:List Tl,valD (P.map kvOf) [.inl x,.inl y]=(fnd P x y).map D.int
 | []=>rfl
 | t::P=>by
   have ih:=zch x y P;have hk:decide ((kvOf t).1=[Sum.inl x,Sum.inl y])=(decide (t.1=x)&&decide (t.2.1=y)):=zji t (x,y,0);unfold valD fnd at *;rw[List.map_cons,List.find?_cons,List.find?_cons,hk]
   cases decide (t.1=x)&&decide (t.2.1=y) with
   | true=>rfl
   | false=>exact ih
theorem zd3{P:List Tl}{x y k:Int}(h:fnd P x y=some k):∃ t∈P,t.2.2=k:=by
 unfold fnd at h;obtain⟨t,e,h⟩:=zah h;exact⟨t,List.mem_of_find?_eq_some e,h⟩
theorem zq4{t:Tl}{s:Sto}:zbn [some (.int t.1),some (.int t.2.1),some (.int t.2.2)] s=some (.tup [.tup [.int t.1,.int t.2.1],.int t.2.2],s):=rfl
theorem zok:∀ ts:List Tl,zgy (ts.map fun t=>.tup [.tup [.int t.1,.int t.2.1],.int t.2.2])=some (ts.map kvOf)
 | []=>rfl
 | t::ts=>by
   have ih:=zok ts;rw[List.map_cons,zgy,ih];rfl
theorem zlL{t:Tl}{a b c:Option D}{st:Sto}{r:Rho}:gTp 3 (gC (gNm 0) (gC (gNm 1) (gC (gNm 2) (gN0)))) (tupD (rowT t)) (a::b::c::r) st=some (some (.int t.1)::some (.int t.2.1)::some (.int t.2.2)::r,st):=rfl
theorem zfl{ts:List Tl}{st:Sto}(hl:ts.length<=1000):∃ (l:Nat) (st':Sto),Y4 (za0 [zas ts] st=some (.ref l,st')) (st'[l]?=some (.dt ((byPl ts).map kvOf))) (st.length<=l) (Gr st st'):=by
 have ec:mCI ⟨ts.map fun t=>tupD (rowT t),[]⟩ (gTp 3 (gC (gNm 0) (gC (gNm 1) (gC (gNm 2) (gN0))))) zck zbn (ts.map fun t=>tupD (rowT t)) [none,none,none] st=some (ts.map fun t=>.tup [.tup [.int t.1,.int t.2.1],.int t.2.2],st):=by
   have:∀ W:Wk,walked W st=true->mCI W (gTp 3 (gC (gNm 0) (gC (gNm 1) (gC (gNm 2) (gN0))))) zck zbn (ts.map fun t=>tupD (rowT t)) [none,none,none] st=some (ts.map fun t=>.tup [.tup [.int t.1,.int t.2.1],.int t.2.2],st):=by
     intro W hW;refine zh3 (R:=fun ρ=>∃ x y z,ρ=[x,y,z]) ⟨none,none,none,rfl⟩ hW fun t ht ρ hρ=>?_;obtain⟨x,y,z,rfl⟩:=hρ;exact⟨_,zlL,rfl,zq4,_,_,_,rfl⟩
   exact this _ rfl
 have fl:fits (ts.map fun t=>D.tup [.tup [.int t.1,.int t.2.1],.int t.2.2]).length=true:=zaw (by rw[List.length_map];omega);have a1:=zaR st (.lst (ts.map fun t=>.tup [.tup [.int t.1,.int t.2.1],.int t.2.2]));have fk:fits (ts.map kvOf).length=true:=zaw (by rw[List.length_map];omega);have g1:=Gr.app st [.lst (ts.map fun t=>.tup [.tup [.int t.1,.int t.2.1],.int t.2.2])];generalize hs1:st++[O.lst (ts.map fun t=>.tup [.tup [.int t.1,.int t.2.1],.int t.2.2])]=s1 at a1 g1;have ed:zpe [.ref st.length] s1=some (.ref s1.length,s1++[.dt ((byPl ts).map kvOf)]):=by
   unfold zpe;have hm:zfV [] (ts.map kvOf)=(byPl ts).map kvOf:=zjb ts [];simp only[zbu,a1,Option.bind_some,zok,fk,if_true,hm]
 refine⟨s1.length,s1++[.dt ((byPl ts).map kvOf)],zcy ?_,zaR _ _,g1.len,g1.trans (Gr.app _ _)⟩;unfold zdA zas;generalize (ts.map fun t=>tupD (rowT t))=T at *;generalize (ts.map fun t=>D.tup [.tup [.int t.1,.int t.2.1],.int t.2.2])=A at *;have ecm:zcO (mWA (mVar 0)) 3 [] (gTp 3 (gC (gNm 0) (gC (gNm 1) (gC (gNm 2) (gN0))))) (zck) (zbn) (rho 1 [.tup T]) st=some (.ref st.length,s1):=by
   have:mWA (mVar 0) (rho 1 [.tup T]) st=some (⟨T,[]⟩,st):=by simp[zie]
   rw[zaW,this];simp only[Option.bind_some];rw[show rho0 (rho 1 [.tup T]) 3 []=[none,none,none] from rfl,ec];simp only[Option.bind_some,fl,if_true,hs1]
 simp at ecm ⊢;simp[ecm,ed]
theorem zqm{n:Nat}{x y k:Int}{T:D}{s s':Sto}(ed:dput s n (.tup [.int x,.int y]) (.int k)=some s'):zbh [some T,some (.ref n),some (.int x),some (.int y),some (.int k)] s=some (.nx [some T,some (.ref n),some (.int x),some (.int y),some (.int k)],s'):=by
 unfold zbh;rw[zgQ];have c1:mAsg (mVar 4) (gSb setD (mVar 1) (mTup (zad (mVar 2) (zad (mVar 3) (mNil))))) [some T,some (.ref n),some (.int x),some (.int y),some (.int k)] s=none:=by
   simp[setD]
 rw[c1,zfv];unfold zjZ;simp[ed]
theorem zo2{ts:List Tl}{st:Sto}(hl:ts.length<=500):∃ (st':Sto),Y3 (zbd [zas ts] st=some (.ref st.length,st')) (st'[st.length]?=some (.dt ((byPl ts).map kvOf))) (Gr st st'):=by
 have key:=zbR (W:=⟨ts.map fun t=>tupD (rowT t),[]⟩) (g:=gTp 3 (gC (gNm 2) (gC (gNm 3) (gC (gNm 4) (gN0))))) (m:=zbh) (ds:=ts.map fun t=>tupD (rowT t)) (ρ:=[some (zas ts),some (.ref st.length),none,none,none]) (st:=st++[.dt []])
   (Inv:=fun k ρ s=>Y3 ((∃ a b c,ρ=[some (zas ts),some (.ref st.length),a,b,c])) (s[st.length]?=some (.dt (((ts.take k).foldl putT []).map kvOf))) (Gr st s))
   ⟨⟨_,_,_,rfl⟩,zaR _ _,Gr.app _ _⟩ (fun _ _ _ _ _=>rfl) (fun k d ρ s hd hI=>by
     obtain⟨⟨a,b,c,rfl⟩,hat,hg⟩:=hI;rw[List.getElem?_map] at hd;obtain⟨t,ht,rfl⟩:=zah hd;have hl2:((ts.take k).foldl putT []).length<=1000:=by
       have:=zjy (ts.take k) [];rw[List.length_take,List.length_nil] at this;omega
     have ed:=zd5 (x:=t.1) (y:=t.2.1) (k:=t.2.2) hat hl2;refine⟨[some (zas ts),some (.ref st.length),some (.int t.1),some (.int t.2.1),some (.int t.2.2)],s,_,_,rfl,zqm ed,⟨_,_,_,rfl⟩,?_,?_⟩
     . rw[List.getElem?_set_self (getElem?_lt hat),List.take_add_one,ht,List.foldl_append];rfl
     . exact⟨by rw[List.length_set];exact hg.len,fun j hj=>by rw[List.getElem?_set_ne (by omega)];exact hg.old j hj⟩)
 obtain⟨ρ',s',el,⟨a,b,c,rfl⟩,hat,hg⟩:=key;rw[List.length_map,List.take_length] at hat;refine⟨s',zcy ?_,hat,hg⟩;unfold zcw;refine zan (ρ1:=[some (zas ts),some (.ref st.length),none,none,none]) (s1:=st++[.dt []]) (by simp) ?_;refine zan (ρ1:=[some (zas ts),some (.ref st.length),a,b,c]) (s1:=s') (by
   have:mWA (mVar 0) [some (zas ts),some (.ref st.length),none,none,none] (st++[.dt []])=some (⟨ts.map fun t=>tupD (rowT t),[]⟩,st++[.dt []]):=by unfold zas;simp[zie]
   rw[zdb,this];exact el) ?_
 simp
end L2.MP.Hd
set_option maxHeartbeats 4000000
namespace L2.MP.Hd
open PySem L2.MP
open L2.MP.Hn (zas)
noncomputable def sds(ks:List (List Str))(k:Int):List Str:=(ks.getD k.toNat []).tail
structure BedAt(bed:D)(stk:List (Str×Int))(ks:List (List Str)):Prop where
 h:∃ hs:D,(∀ s:Sto,ixA bed (.int 0) s=some (hs,s))/\(∀ s:Sto,ixA hs (.int 1) s=some (.tup (stk.map zbM),s))/\∀ s:Sto,ixA hs (.int 2) s=some (.tup (ks.map zb8),s)
structure KsOk(ss:List Str)(ks:List (List Str)):Prop where
 hi:ks.length<=100
 kd:∀ k∈ks,KdOk ss k
theorem zcF{ss:List Str}{ks:List (List Str)}{k:Int}(h:KsOk ss ks)(h0:0<=k)(h1:k < (ks.length:Int)):∃ f a b c d:Str,Y3 (ks[k.toNat]?=some [f,a,b,c,d]) (sds ks k=[a,b,c,d]) (∀ x∈[a,b,c,d],NmOk x/\(x=""\/x∈ss)):=by
 have hk:k.toNat < ks.length:=by omega
 obtain⟨f,ds,e,hf,hl,hok⟩:=(h.kd _ (List.getElem_mem hk)).ex;have e':ks[k.toNat]?=some (f::ds):=by rw[List.getElem?_eq_getElem hk,e]
 have es:sds ks k=ds:=by
   unfold sds;rw[List.getD_eq_getElem?_getD,e'];rfl
 match ds,hl,hok,e',es with
 | [a,b,c,d],_,hok,e',es=>exact⟨f,a,b,c,d,e',es,hok⟩
theorem zlX{bed hs KK kd sl:D}{k K:Int}{st:Sto}(i0:ixA bed (.int 0) st=some (hs,st))(i2:ixA hs (.int 2) st=some (KK,st))(el:lenD [KK] st=some (.int K,st))(h0:0<=k)(h1:k < K)(ik:ixA KK (.int k) st=some (kd,st))(es:slB kd (some 1) none st=some (sl,st)):zee [some bed,some (.int k),none] st=some (.rt sl,st):=by
 unfold zee;refine zan (ρ1:=[some bed,some (.int k),some KK]) (s1:=st) (by simp[i0,i2]) (ziG ?_);have et:mTst (zfX leD ltD (mCon (.int 0)) (mVar 1) (zar lenD (zad (mVar 2) (mNil)))) [some bed,some (.int k),some KK] st=some (true,st):=by
   rw[zrs];unfold zfX;simp[el,h0,h1]
 rw[zk8,et];simp[ik,es]
theorem zet{bed:D}{stk:List (Str×Int)}{ss:List Str}{ks:List (List Str)}{k:Int}{st:Sto}(hb:BedAt bed stk ks)(h:KsOk ss ks)(h0:0<=k)(h1:k < (ks.length:Int)):zbH [bed,.int k] st=some (.tup ((sds ks k).map D.str),st):=by
 obtain⟨hs,i0,_,i2⟩:=hb.h;obtain⟨f,a,b,c,d,e,es,_⟩:=zcF h h0 h1;rw[es];refine zcy (zlX (i0 st) (i2 st) zfZ h0 (by rw[List.length_map];exact h1) (zaQ h0 (by rw[List.getElem?_map,e];rfl)) ?_);rfl
theorem zhC{x y:Int}{st:Sto}:zay [.tup [.int x,.int y]] st=some (.tup [.tup [.int x,.int (y+1)],.tup [.int (x+1),.int y],.tup [.int x,.int (y - 1)],.tup [.int (x - 1),.int y]],st):=by
 have i0:ixA (.tup [.int x,.int y]) (.int 0) st=some (.int x,st):=zaQ (by decide) rfl;have i1:ixA (.tup [.int x,.int y]) (.int 1) st=some (.int y,st):=zaQ (by decide) rfl;refine zcy ?_;unfold zcH;refine zan (ρ1:=[some (.tup [.int x,.int y]),some (.int x),none]) (s1:=st) (by simp[i0]) ?_;refine zan (ρ1:=[some (.tup [.int x,.int y]),some (.int x),some (.int y)]) (s1:=st) (by simp[i1]) ?_;simp
noncomputable def nmF(ks:List (List Str))(P:List Tl)(p:Int×Int)(j:Nat):Str:=match fnd P p.1 p.2 with
 | some k=>(sds ks k).getD j ""
 | none=>""
theorem zsB{bed pl nr L0:D}{d l:Nat}{J I k:Int}{s:Sto}{L:List D}{y:D}{sl:D}(h1:inA nr (.ref d) s=some (.bl true,s))(hl:s[l]?=some (.lst L))(hx:ixA (.ref d) nr s=some (.int k,s))(hs:zbH [bed,.int k] s=some (sl,s))(hm:modD (.int (J+2)) (.int 4) s=some (.int I,s))(hy:ixA sl (.int I) s=some (y,s))(ha:zbY (.ref l) [y] s=some (.non,s.set l (.lst (L++[y])))) :
   zaM [some bed,some (.ref d),some pl,some (.ref l),some (.int J),some nr] s=some (.nx [some bed,some (.ref d),some pl,some (.ref l),some (.int J),some nr],s.set l (.lst (L++[y]))):=by
 unfold zaM;simp[h1,zbu,hl,hx,hs,hm,hy,ha]
theorem zqK{bed pl nr:D}{d l:Nat}{J:Int}{s:Sto}{L:List D}(h1:inA nr (.ref d) s=some (.bl false,s))(hl:s[l]?=some (.lst L))(ha:zbY (.ref l) [.str ""] s=some (.non,s.set l (.lst (L++[.str ""])))) :
   zaM [some bed,some (.ref d),some pl,some (.ref l),some (.int J),some nr] s=some (.nx [some bed,some (.ref d),some pl,some (.ref l),some (.int J),some nr],s.set l (.lst (L++[.str ""]))):=by
 unfold zaM;simp[h1,zbu,hl,ha]
theorem zhe{bed pl:D}{stk:List (Str×Int)}{ss:List Str}{ks:List (List Str)}{P:List Tl}{d l:Nat}{J I a b:Int}{j:Nat}{s:Sto}{L:List D}(hb:BedAt bed stk ks)(h:KsOk ss ks)(hP:∀ t∈P,0<=t.2.2/\t.2.2 < (ks.length:Int))(hd:s[d]?=some (.dt (P.map kvOf)))(hl:s[l]?=some (.lst L))(hL:L.length<=10)(hI:(J+2) % 4=I)(hj:I=(j:Int))(hj4:j < 4) :
   zaM [some bed,some (.ref d),some pl,some (.ref l),some (.int J),some (.tup [.int a,.int b])] s=some (.nx [some bed,some (.ref d),some pl,some (.ref l),some (.int J),some (.tup [.int a,.int b])],s.set l (.lst (L++[.str (nmF ks P (a,b) j)]))):=by
 have hin:=znB (x:=a) (y:=b) hd;have hv:=zch a b P;unfold nmF
 cases hf:fnd P a b with
 | none =>
   rw[hf] at hv;rw[hv] at hin;exact zqK hin hl (append_at hl (by omega))
 | some k =>
   rw[hf] at hv;have hv:valD (P.map kvOf) [.inl a,.inl b]=some (.int k):=hv;rw[hv] at hin;obtain⟨t,ht,rfl⟩:=zd3 hf;obtain⟨k0,k1⟩:=hP t ht;obtain⟨f,x0,x1,x2,x3,e,es,_⟩:=zcF h k0 k1;refine zsB (L0:=.non) hin hl (zq9 hd hv) (zet hb h k0 k1) (by rw[zib (by decide),hI]) (zaQ (by omega) ?_) (append_at hl (by omega));show ((sds ks t.2.2).map D.str)[I.toNat]?=some (D.str ((sds ks t.2.2).getD j ""));rw[es,hj,Int.toNat_natCast]
   match j,hj4 with
   | 0,_=>rfl
   | 1,_=>rfl
   | 2,_=>rfl
   | 3,_=>rfl
noncomputable def names4(ks:List (List Str))(P:List Tl)(x y:Int):List Str:=[nmF ks P (x,y+1) 2,nmF ks P (x+1,y) 3,nmF ks P (x,y - 1) 0,nmF ks P (x - 1,y) 1]
theorem znb{e:ME}{ρ:Rho}{st s:Sto}{ds:List D}(h:e ρ st=some (.tup ds,s)):zoQ e ρ st=some (⟨pairs ds,[]⟩,s):=by
 unfold zoQ;rw[h];rfl
theorem zkV{bed:D}{stk:List (Str×Int)}{ss:List Str}{ks:List (List Str)}{P:List Tl}{d:Nat}{x y:Int}{st:Sto}(hb:BedAt bed stk ks)(h:KsOk ss ks)(hP:∀ t∈P,0<=t.2.2/\t.2.2 < (ks.length:Int))(hd:st[d]?=some (.dt (P.map kvOf))) :
   ∃ st',Y3 (zbA [bed,.ref d,.tup [.int x,.int y]] st=some (.ref st.length,st')) (st'[st.length]?=some (.lst ((names4 ks P x y).map D.str))) (Gr st st'):=by
 have hdl:=getElem?_lt hd;have key:=zbR (W:=⟨pairs [.tup [.int x,.int (y+1)],.tup [.int (x+1),.int y],.tup [.int x,.int (y - 1)],.tup [.int (x - 1),.int y]],[]⟩) (g:=gTp 2 (gC (gNm 4) (gC (gNm 5) (gN0)))) (m:=zaM) (ds:=[D.tup [.int 0,.tup [.int x,.int (y+1)]],.tup [.int 1,.tup [.int (x+1),.int y]],.tup [.int 2,.tup [.int x,.int (y - 1)]],.tup [.int 3,.tup [.int (x - 1),.int y]]]) (ρ:=[some bed,some (.ref d),some (.tup [.int x,.int y]),some (.ref st.length),none,none]) (st:=st++[.lst []])
   (Inv:=fun k ρ s=>Y3 ((∃ a b,ρ=[some bed,some (.ref d),some (.tup [.int x,.int y]),some (.ref st.length),a,b])) (s[st.length]?=some (.lst (((names4 ks P x y).take k).map D.str))) (Gr st s))
   ⟨⟨_,_,rfl⟩,zaR _ _,Gr.app _ _⟩ (fun _ _ _ _ _=>rfl) (fun k dd ρ s hdd hI=>by
     obtain⟨⟨u,v,rfl⟩,hat,hg⟩:=hI;have hd':=(hg.old _ hdl).trans hd;have hL:(((names4 ks P x y).take k).map D.str).length<=10:=by rw[List.length_map,List.length_take];simp[names4];omega
     have gr:∀ o:O,Gr st (s.set st.length o):=fun o=>⟨by rw[List.length_set];exact hg.len,fun j hj=>by rw[List.getElem?_set_ne (by omega)];exact hg.old j hj⟩
     have at':∀ o:O,(s.set st.length o)[st.length]?=some o:=fun o=>List.getElem?_set_self (getElem?_lt hat)
     match k,hdd with
     | 0,hdd =>
       cases hdd;exact⟨_,s,_,_,rfl,zhe (pl:=.tup [.int x,.int y]) (I:=2) (j:=2) hb h hP hd' hat hL (by decide) rfl (by decide),⟨_,_,rfl⟩,at' _,gr _⟩
     | 1,hdd =>
       cases hdd;exact⟨_,s,_,_,rfl,zhe (pl:=.tup [.int x,.int y]) (I:=3) (j:=3) hb h hP hd' hat hL (by decide) rfl (by decide),⟨_,_,rfl⟩,at' _,gr _⟩
     | 2,hdd =>
       cases hdd;exact⟨_,s,_,_,rfl,zhe (pl:=.tup [.int x,.int y]) (I:=0) (j:=0) hb h hP hd' hat hL (by decide) rfl (by decide),⟨_,_,rfl⟩,at' _,gr _⟩
     | 3,hdd =>
       cases hdd;exact⟨_,s,_,_,rfl,zhe (pl:=.tup [.int x,.int y]) (I:=1) (j:=1) hb h hP hd' hat hL (by decide) rfl (by decide),⟨_,_,rfl⟩,at' _,gr _⟩
     | k+4,hdd=>exact absurd hdd (by simp))
 obtain⟨ρ',s',el,⟨u,v,rfl⟩,hat,hg⟩:=key;refine⟨s',zcy ?_,hat,hg⟩;unfold zdg;refine zan (ρ1:=[some bed,some (.ref d),some (.tup [.int x,.int y]),some (.ref st.length),none,none]) (s1:=st++[.lst []]) (by simp) ?_;refine zan (ρ1:=[some bed,some (.ref d),some (.tup [.int x,.int y]),some (.ref st.length),u,v]) (s1:=s') (by
   have ec:zar zay (zad (mVar 2) (mNil)) [some bed,some (.ref d),some (.tup [.int x,.int y]),some (.ref st.length),none,none] (st++[.lst []])=some (.tup [.tup [.int x,.int (y+1)],.tup [.int (x+1),.int y],.tup [.int x,.int (y - 1)],.tup [.int (x - 1),.int y]],st++[.lst []]):=by
     have:=zhC (x:=x) (y:=y) (st:=st++[.lst []]);simp[this]
   rw[zdb,znb ec];exact el) ?_
 simp
noncomputable def okJ(S N:List Str)(j:Nat):Bool:=S.getD j "" != ""&&S.getD j ""==N.getD j ""
noncomputable def alike(S N:List Str):List Nat:=(List.range 4).filter (okJ S N)
theorem zfq:PyData.strOk ("":Str)=true:=by decide +kernel
theorem nm_F{ss:List Str}{ks:List (List Str)}{P:List Tl}(h:KsOk ss ks)(hP:∀ t∈P,0<=t.2.2/\t.2.2 < (ks.length:Int))(p:Int×Int)(j:Nat):NmOk (nmF ks P p j):=by
 unfold nmF
 split
 . rename_i k hf;obtain⟨t,ht,rfl⟩:=zd3 hf;obtain⟨k0,k1⟩:=hP t ht;obtain⟨f,a,b,c,d,e,es,hok⟩:=zcF h k0 k1;rw[es,List.getD_eq_getElem?_getD]
   cases hg:[a,b,c,d][j]? with
   | none=>exact zdl
   | some x=>exact (hok x (List.mem_of_getElem? hg)).1
 . exact zdl
end L2.MP.Hd
set_option maxHeartbeats 4000000
namespace L2.MP.Hd
open PySem L2.MP
open L2.MP.Hn (zas)
noncomputable def kvS(p:Str×Int):Key×D:=(.inr p.1,.int p.2)
noncomputable def stD(stk:List (Str×Int)):List (Key×D):=zfW [] (stk.map kvS)
theorem znF{κ:Type}[DecidableEq κ]:∀ (kvs:List (κ×D)) (k q:κ) (d:D),valD (putD kvs k d) q=if q=k then some d else valD kvs q:=by
 intro kvs k q d;unfold putD
 by_cases h:(kvs.any fun kv=>decide (kv.1=k))=true
 . rw[if_pos h]
   induction kvs with
   | nil=>simp at h
   | cons p r ih =>
     unfold valD at *;rw[List.map_cons,List.find?_cons,List.find?_cons]
     by_cases hp:p.1=k
     . simp only[hp,if_true]
       by_cases hq:q=k
       . simp[hq]
       . have:¬ k=q:=fun e=>hq e.symm;simp only[this,decide_false,hq,if_false];clear h ih
         induction r with
         | nil=>rfl
         | cons u r ih2 =>
           rw[List.map_cons,List.find?_cons,List.find?_cons]
           by_cases hu:u.1=k
           . simp only[hu,if_true,this,decide_false];exact ih2
           . simp only[hu,if_false]
             by_cases huq:u.1=q
             . simp[huq]
             . simp only[huq,decide_false];exact ih2
     . simp only[hp,if_false]
       by_cases hpq:p.1=q
       . have:¬ q=k:=fun e=>hp (hpq.trans e);simp[hpq,this]
       . simp only[hpq,decide_false];refine ih ?_;rw[List.any_cons] at h;simpa[hp] using h
 . rw[if_neg h];unfold valD;rw[List.find?_append]
   by_cases hq:q=k
   . subst hq;have:kvs.find? (fun kv=>decide (kv.1=q))=none:=by
       rw[List.find?_eq_none];intro x hx hx2;exact h (List.any_eq_true.mpr ⟨x,hx,hx2⟩)
     simp[this]
   . have:¬ k=q:=fun e=>hq e.symm;simp[hq,this]
noncomputable def okV(d:Option D):Prop:=∃ v:Int,d=some (.int v)/\1<=v/\v<=4
theorem zhi{q:Str}:∀ {more:List (Str×Int)} {acc:List (Key×D)},(∀ p∈more,1<=p.2/\p.2<=4)->(okV (valD acc (.inr q))\/q∈more.map (·.1))->okV (valD (zfW acc (more.map kvS)) (.inr q))
 | [],acc,_,h=>by
   rcases h with h | h
   . exact h
   . cases h
 | p::r,acc,hv,h=>by
   show okV (valD (zfW (putD acc (.inr p.1) (.int p.2)) (r.map kvS)) (.inr q));refine zhi (fun u hu=>hv u (List.mem_cons_of_mem _ hu)) ?_;rw[znF]
   by_cases e:q=p.1
   . subst e;rw[if_pos rfl];have:=hv p List.mem_cons_self;exact .inl ⟨p.2,rfl,this.1,this.2⟩
   . have e':¬ (Sum.inr q:Key)=.inr p.1:=fun z=>e (by injection z);rw[if_neg e']
     rcases h with h | h
     . exact .inl h
     . rcases List.mem_cons.mp h with h | h
       . exact absurd h e
       . exact .inr h
noncomputable def sv(stk:List (Str×Int))(a:Str):Int:=match valD (stD stk) (.inr a) with | some (.int v)=>v | _=>0
theorem znM{stk:List (Str×Int)}{a:Str}(h:∀ p∈stk,1<=p.2/\p.2<=4)(ha:a∈stk.map (·.1)):valD (stD stk) (.inr a)=some (.int (sv stk a))/\1<=sv stk a/\sv stk a<=4:=by
 obtain⟨v,e,h1,h2⟩:=zhi (acc:=[]) h (.inr ha);have e:valD (stD stk) (.inr a)=some (.int v):=e;have:sv stk a=v:=by unfold sv;rw[e]
 rw[this];exact⟨e,h1,h2⟩
theorem zlj:∀ stk:List (Str×Int),znx (stk.map zbM)=some (stk.map kvS)
 | []=>rfl
 | p::r=>by
   have ih:=zlj r;rw[List.map_cons,znx,ih];rfl
theorem zlA{stk:List (Str×Int)}{st:Sto}(hl:stk.length<=1000):zpf [.tup (stk.map zbM)] st=some (.ref st.length,st++[.dk (stD stk)]):=by
 have fk:fits (stk.map kvS).length=true:=zaw (by rw[List.length_map];omega);have e1:zpK [.tup (stk.map zbM)] st=none:=rfl;unfold zpf orN;rw[e1,zfv];unfold zpJ;simp only[zlj,Option.bind_some,fk,if_true];rfl
theorem zrM{d:Nat}{kvs:List (Key×D)}{a:Str}{v:D}{st:Sto}(h:st[d]?=some (.dk kvs))(hv:valD kvs (.inr a)=some v):ixA (.ref d) (.str a) st=some (v,st):=by
 have e1:idxD (.ref d) (.str a) st=none:=by simp[idxD,zbu,h]
 unfold ixA orG;rw[e1,zfv];simp[zrl,look,h,keyOf,hv]
theorem zlv:∀ ns:List Int,zo4 (ns.map D.int)=some ns
 | []=>rfl
 | n::r=>by
   have ih:=zlv r;rw[List.map_cons,zo4,ih];rfl
theorem znN{ns:List Int}{l:Nat}{st:Sto}(hl:st[l]?=some (.lst (ns.map D.int)))(h:∀ n∈ns,0<=n/\n<=100)(hn:ns.length<=100):sumC [.ref l] st=some (.int ns.sum,st):=by
 have h1:(ns.all zfB&&decide (ns.length<=100000))=true:=by
   rw[Bool.and_eq_true];refine⟨List.all_eq_true.mpr fun n hn=>?_,decide_eq_true (by omega)⟩;have:=h n hn;unfold zfB;simp;omega
 unfold sumC;simp only[zbu,hl,Option.bind_some,zlv,h1,if_true]
theorem zpN{a b:Str}{K:Option D}{s:Sto}(ha:PyData.strOk a=true)(hb:PyData.strOk b=true):zaJ [some (.str a),some (.str b),K] s=some (a==b&&a != "",s):=by
 have e1:=eq_str (st:=s) ha hb;have e2:=ne_str (st:=s) ha zfq;unfold zaJ
 cases h:a==b with
 | true=>simp[e1,e2,h]
 | false=>simp[e1,e2,h]
theorem zpW{a b:Str}{d:Nat}{v:D}{s:Sto}(h:ixA (.ref d) (.str a) s=some (v,s)):zaK [some (.str a),some (.str b),some (.ref d)] s=some (v,s):=by
 unfold zaK;simp[h]
noncomputable def togs(S N:List Str):List (Str×Str):=(S.zip N).filter fun p=>p.1==p.2&&p.1 != ""
theorem zhF{stk:List (Str×Int)}{S N:List Str}{d l:Nat}{st:Sto}(hstk:∀ p∈stk,1<=p.2/\p.2<=4)(hS:S.length<=4)(oS:∀ x∈S,NmOk x/\(x=""\/x∈stk.map (·.1)))(oN:∀ x∈N,PyData.strOk x=true)(hd:st[d]?=some (.dk (stD stk)))(hl:st[l]?=some (.lst (N.map D.str))) :
   ∃ st',zaP [.ref d,.tup (S.map D.str),.ref l] st=some (.int ((togs S N).map fun p=>sv stk p.1).sum,st')/\Gr st st':=by
 have hz:pairD (S.map D.str) (N.map D.str)=(S.zip N).map fun p=>D.tup [.str p.1,.str p.2]:=by
   unfold pairD;rw[List.zip_map,List.map_map];rfl
 have hmem:∀ p∈S.zip N,p.1∈S/\p.2∈N:=fun p hp=>by
   obtain⟨a,b⟩:=p;exact List.of_mem_zip hp
 have hw:walked ⟨(S.zip N).map fun p=>D.tup [.str p.1,.str p.2],[(l,N.map D.str)]⟩ st=true:=zcl hl;have ec:mCI ⟨(S.zip N).map fun p=>D.tup [.str p.1,.str p.2],[(l,N.map D.str)]⟩ (gTp 2 (gC (gNm 0) (gC (gNm 1) (gN0)))) zaJ zaK ((S.zip N).map fun p=>D.tup [.str p.1,.str p.2]) [none,none,some (.ref d)] st=some ((togs S N).map fun p=>D.int (sv stk p.1),st):=by
   refine zft (R:=fun ρ=>∃ x y,ρ=[x,y,some (.ref d)]) ⟨none,none,rfl⟩ hw fun p hp ρ hρ=>?_;obtain⟨x,y,rfl⟩:=hρ;obtain⟨h1,h2⟩:=hmem p hp;refine⟨[some (.str p.1),some (.str p.2),some (.ref d)],rfl,zpN (zk9 (oS _ h1).1.ab) (oN _ h2),fun hc=>?_,_,_,rfl⟩;have hne:p.1≠"":=by
     rw[Bool.and_eq_true] at hc;simpa using hc.2
   have hin:p.1∈stk.map (·.1):=by
     rcases (oS _ h1).2 with h | h
     . exact absurd h hne
     . exact h
   exact zpW (zrM hd (znM hstk hin).1)
 have hm:((togs S N).map fun p=>D.int (sv stk p.1))=((togs S N).map fun p=>sv stk p.1).map D.int:=by rw[List.map_map];rfl
 rw[hm] at ec;have hlen:(togs S N).length<=4:=by
   refine Nat.le_trans (List.length_filter_le _ _) ?_;rw[List.length_zip];omega
 have hall:∀ n∈(togs S N).map (fun p=>sv stk p.1),0<=n/\n<=100:=fun n hn=>by
   obtain⟨p,hp,rfl⟩:=List.mem_map.mp hn;obtain⟨hp1,hc⟩:=List.mem_filter.mp hp;obtain⟨h1,h2⟩:=hmem p hp1;have hne:p.1≠"":=by
     rw[Bool.and_eq_true] at hc;simpa using hc.2
   have hin:p.1∈stk.map (·.1):=by
     rcases (oS _ h1).2 with h | h
     . exact absurd h hne
     . exact h
   have:=znM hstk hin;omega
 have es:=znN (zaR st (.lst (((togs S N).map fun p=>sv stk p.1).map D.int))) hall (by rw[List.length_map];omega);have fl:fits (((togs S N).map fun p=>sv stk p.1).map D.int).length=true:=zaw (by rw[List.length_map,List.length_map];omega);generalize ((togs S N).map fun p=>sv stk p.1).sum=R at *;generalize ((togs S N).map fun p=>sv stk p.1).map D.int=A at *;refine⟨st++[.lst A],zcy ?_,Gr.app _ _⟩;rw[<-hz] at ec;generalize S.map D.str=SS at *;generalize hNN:N.map D.str=NN at *;unfold zb5;have ecm:zcO (mZip (mVar 1) (mVar 2)) 2 [0] (gTp 2 (gC (gNm 0) (gC (gNm 1) (gN0)))) (zaJ) (zaK) [some (.ref d),some (.tup SS),some (.ref l)] st=some (.ref st.length,st++[.lst A]):=by
   have:mZip (mVar 1) (mVar 2) [some (.ref d),some (.tup SS),some (.ref l)] st=some (⟨pairD SS NN,[(l,NN)]⟩,st):=by
     rw[zrr];simp[znq,zipW,seqD,zbu,hl]
   rw[zaW,this];simp only[Option.bind_some];rw[show rho0 [some (.ref d),some (.tup SS),some (.ref l)] 2 [0]=[none,none,some (.ref d)] from rfl,ec];simp only[Option.bind_some,fl,if_true]
 simp[ecm,es]
end L2.MP.Hd
set_option maxHeartbeats 4000000
namespace L2.MP.Hd
open PySem L2.MP
open L2.MP.Hn (zas)
theorem zlc{x y J a b:Int}{s:Sto}(h0:0<=J)(h:[D.tup [.int x,.int (y+1)],.tup [.int (x+1),.int y],.tup [.int x,.int (y - 1)],.tup [.int (x - 1),.int y]][J.toNat]?=some (.tup [.int a,.int b])):∃ s',zaN [.tup [.int x,.int y],.int J] s=some (.tup [.int a,.int b],s')/\Gr s s':=by
 have ex:=zco (zaR s (.lst [.tup [.int x,.int (y+1)],.tup [.int (x+1),.int y],.tup [.int x,.int (y - 1)],.tup [.int (x - 1),.int y]])) h0 h;refine⟨s++[.lst [.tup [.int x,.int (y+1)],.tup [.int (x+1),.int y],.tup [.int x,.int (y - 1)],.tup [.int (x - 1),.int y]]],zcy ?_,Gr.app _ _⟩;unfold zeg;refine zan (ρ1:=[some (.tup [.int x,.int y]),some (.int J),some (.int x),some (.int y)]) (s1:=s) (by simp) ?_;simp[ex]
theorem zrh{d:Nat}{kvs:List (List Key×D)}{a b:Int}{mk:ME}{ρ:Rho}{s s1:Sto}{md:ME}(hm:md ρ s=some (.ref d,s))(h:s[d]?=some (.dt kvs))(hk:mk ρ s=some (.tup [.int a,.int b],s1))(h1:s1[d]?=some (.dt kvs)):zmS md mk ρ s=some ((valD kvs [.inl a,.inl b]).getD .non,s1):=by
 have e1:zm2 s d=true:=by unfold zm2;rw[h]
 have e2:zpG s1 d (.tup [.int a,.int b])=some (valD kvs [.inl a,.inl b]):=by
   unfold zpG;have:look s1 d (.tup [.int a,.int b])=some (valD kvs [.inl a,.inl b]):=by
     unfold look;simp only[h1];rfl
   rw[this,zgA]
 unfold zmS;rw[hm];simp only[Option.bind_some,e1,if_true];rw[hk];simp only[Option.bind_some,e2,Option.map_some]
section
variable {bed KK pl kd mineD:D} {d l n:Nat} {k J I:Int} {s s1:Sto} {a7 a8:Option D} {L:List D} {mine:Str}
theorem zoE(hg:zmS (mVar 1) (zar zaN (zad (mVar 2) (zad (mVar 6) (mNil)))) [some bed,some (.ref d),some pl,some (.int k),some KK,some (.ref l),some (.int J),a7,a8] s=some (.non,s1))
   (hk:ixA KK (.int k) s1=some (kd,s1)) (hm:ixA kd (.int (J+1)) s1=some (.str mine,s1)) :
   zaT [some bed,some (.ref d),some pl,some (.int k),some KK,some (.ref l),some (.int J),a7,a8] s=some (.nx [some bed,some (.ref d),some pl,some (.int k),some KK,some (.ref l),some (.int J),some .non,some (.str mine)],s1):=by
 unfold zaT;refine zan (ρ1:=[some bed,some (.ref d),some pl,some (.int k),some KK,some (.ref l),some (.int J),some .non,a8]) (s1:=s1) (by rw[zgb,hg];rfl) ?_;refine zan (ρ1:=[some bed,some (.ref d),some pl,some (.int k),some KK,some (.ref l),some (.int J),some .non,some (.str mine)]) (s1:=s1) (by simp[hk,hm]) ?_;simp[zny,znA]
theorem znW{o:Int}{od:D}{os:Str}(hg:zmS (mVar 1) (zar zaN (zad (mVar 2) (zad (mVar 6) (mNil)))) [some bed,some (.ref d),some pl,some (.int k),some KK,some (.ref l),some (.int J),a7,a8] s=some (.int o,s1))
   (hk:ixA KK (.int k) s1=some (kd,s1)) (hm:ixA kd (.int (J+1)) s1=some (.str mine,s1)) (sm:PyData.strOk mine=true) (so:PyData.strOk os=true) (hI:modD (.int (J+2)) (.int 4) s1=some (.int I,s1)) (ho:ixA KK (.int o) s1=some (od,s1)) (hos:ixA od (.int (I+1)) s1=some (.str os,s1)) (hl:s1[l]?=some (.lst L)) (hL:L.length<=10) :
   zaT [some bed,some (.ref d),some pl,some (.int k),some KK,some (.ref l),some (.int J),a7,a8] s=some (.nx [some bed,some (.ref d),some pl,some (.int k),some KK,some (.ref l),some (.int J),some (.int o),some (.str mine)],if (mine != ""&&os==mine)=true then s1.set l (.lst (L++[.int J])) else s1):=by
 have e1:=ne_str (st:=s1) sm zfq;have e2:=eq_str (st:=s1) so sm;have ea:=append_at (x:=.int J) hl (by omega);unfold zaT;refine zan (ρ1:=[some bed,some (.ref d),some pl,some (.int k),some KK,some (.ref l),some (.int J),some (.int o),a8]) (s1:=s1) (by rw[zgb,hg];rfl) ?_;refine zan (ρ1:=[some bed,some (.ref d),some pl,some (.int k),some KK,some (.ref l),some (.int J),some (.int o),some (.str mine)]) (s1:=s1) (by simp[hk,hm]) ?_
 cases h1:mine != "" with
 | false=>simp[zny,znA,e1,h1]
 | true =>
   cases h2:os==mine with
   | false=>simp[zny,znA,e1,h1,hI,ho,hos,e2,h2]
   | true=>simp[zny,znA,e1,h1,hI,ho,hos,e2,h2,zbu,hl,ea]
end
theorem zfm{bed:D}{ss:List Str}{ks:List (List Str)}{P:List Tl}{d l:Nat}{x y k J I a b:Int}{i j:Nat}{s:Sto}{L:List D}{a7 a8:Option D}(h:KsOk ss ks)(hP:∀ t∈P,0<=t.2.2/\t.2.2 < (ks.length:Int))(k0:0<=k)(k1:k < (ks.length:Int))(hd:s[d]?=some (.dt (P.map kvOf)))(hl:s[l]?=some (.lst L))(hL:L.length<=10)
   (hJ:J=(i:Int)) (hi:i < 4) (hI:(J+2) % 4=I) (hj:I=(j:Int)) (hj4:j < 4) (hp:[D.tup [.int x,.int (y+1)],.tup [.int (x+1),.int y],.tup [.int x,.int (y - 1)],.tup [.int (x - 1),.int y]][J.toNat]?=some (.tup [.int a,.int b])) :
   ∃ (b7 b8:Option D) (s':Sto),Y3 (zaT [some bed,some (.ref d),some (.tup [.int x,.int y]),some (.int k),some (.tup (ks.map zb8)),some (.ref l),some (.int J),a7,a8] s=some (.nx [some bed,some (.ref d),some (.tup [.int x,.int y]),some (.int k),some (.tup (ks.map zb8)),some (.ref l),some (.int J),b7,b8],s')) (s'[l]?=some (.lst (if ((sds ks k).getD i "" != ""&&(sds ks k).getD i ""==nmF ks P (a,b) j)=true then L++[.int J] else L))) (Fr l s s'):=by
 obtain⟨s1,e1,g1⟩:=zlc (x:=x) (y:=y) (s:=s) (by omega) hp;have hd1:=(g1.old _ (getElem?_lt hd)).trans hd;have hl1:=(g1.old _ (getElem?_lt hl)).trans hl;have eg:=zrh (a:=a) (b:=b) (s1:=s1) (md:=mVar 1) (mk:=zar zaN (zad (mVar 2) (zad (mVar 6) (mNil)))) (ρ:=[some bed,some (.ref d),some (.tup [.int x,.int y]),some (.int k),some (.tup (ks.map zb8)),some (.ref l),some (.int J),a7,a8]) rfl hd (by simp[e1]) hd1;have hv:=zch a b P;obtain⟨f,x0,x1,x2,x3,e,es,hok⟩:=zcF h k0 k1;have ek:ixA (.tup (ks.map zb8)) (.int k) s1=some (zb8 [f,x0,x1,x2,x3],s1):=zaQ k0 (by rw[List.getElem?_map,e];rfl);have em:ixA (zb8 [f,x0,x1,x2,x3]) (.int (J+1)) s1=some (.str ((sds ks k).getD i ""),s1):=by
   refine zaQ (by omega) ?_;rw[es];have:(J+1).toNat=i+1:=by omega
   rw[this]
   match i,hi with
   | 0,_=>rfl
   | 1,_=>rfl
   | 2,_=>rfl
   | 3,_=>rfl
 have sm:NmOk ((sds ks k).getD i ""):=by
   rw[es,List.getD_eq_getElem?_getD]
   cases hg:[x0,x1,x2,x3][i]? with
   | none=>exact zdl
   | some u=>exact (hok u (List.mem_of_getElem? hg)).1
 generalize (sds ks k).getD i ""=mine at em sm ⊢
 cases hf:fnd P a b with
 | none =>
   have en:nmF ks P (a,b) j="":=by unfold nmF;rw[hf]
   rw[hf] at hv;rw[hv] at eg;refine⟨_,_,s1,zoE eg ek em,?_,g1.fr l⟩;rw[en];have:(mine != ""&&mine=="")=false:=by
     cases h:mine=="" <;> simp[bne,h]
   rw[this];exact hl1
 | some o =>
   have en:nmF ks P (a,b) j=(sds ks o).getD j "":=by unfold nmF;rw[hf]
   rw[hf] at hv;rw[hv] at eg;obtain⟨t,ht,rfl⟩:=zd3 hf;obtain⟨o0,o1⟩:=hP t ht;obtain⟨f',z0,z1,z2,z3,e',es',hok'⟩:=zcF h o0 o1;have eo:ixA (.tup (ks.map zb8)) (.int t.2.2) s1=some (zb8 [f',z0,z1,z2,z3],s1):=zaQ o0 (by rw[List.getElem?_map,e'];rfl);have eos:ixA (zb8 [f',z0,z1,z2,z3]) (.int (I+1)) s1=some (.str ((sds ks t.2.2).getD j ""),s1):=by
     refine zaQ (by omega) ?_;rw[es'];have:(I+1).toNat=j+1:=by omega
     rw[this]
     match j,hj4 with
     | 0,_=>rfl
     | 1,_=>rfl
     | 2,_=>rfl
     | 3,_=>rfl
   have so:NmOk ((sds ks t.2.2).getD j ""):=by
     rw[es',List.getD_eq_getElem?_getD]
     cases hg:[z0,z1,z2,z3][j]? with
     | none=>exact zdl
     | some u=>exact (hok' u (List.mem_of_getElem? hg)).1
   rw[en];generalize (sds ks t.2.2).getD j ""=os at eos so ⊢;have eg:zmS (mVar 1) (zar zaN (zad (mVar 2) (zad (mVar 6) (mNil)))) [some bed,some (.ref d),some (.tup [.int x,.int y]),some (.int k),some (.tup (ks.map zb8)),some (.ref l),some (.int J),a7,a8] s=some (.int t.2.2,s1):=eg;have rd:=znW eg ek em (zk9 sm.ab) (zk9 so.ab) (by rw[zib (by decide),hI]) eo eos hl1 hL;have hsym:(mine != ""&&os==mine)=(mine != ""&&mine==os):=by
     have:(os==mine)=(mine==os):=by
       by_cases hq:os=mine
       . subst hq;rfl
       . rw[beq_false_of_ne hq,beq_false_of_ne fun z=>hq z.symm]
     rw[this]
   rw[hsym] at rd;refine⟨_,_,_,rd,?_,?_⟩
   . by_cases hc:(mine != ""&&mine==os)=true
     . rw[if_pos hc,if_pos hc,List.getElem?_set_self (getElem?_lt hl1)]
     . rw[if_neg hc,if_neg hc];exact hl1
   . by_cases hc:(mine != ""&&mine==os)=true
     . rw[if_pos hc];exact (g1.fr l).trans (Fr.set _ _ _)
     . rw[if_neg hc];exact g1.fr l
noncomputable def fl(p:Nat->Bool)(k:Nat):List D:=((List.range k).filter p).map fun (i:Nat)=>D.int (i:Int)
theorem zeF(p:Nat->Bool)(k:Nat):fl p (k+1)=if p k=true then fl p k++[.int (k:Int)] else fl p k:=by
 unfold fl;rw[List.range_succ,List.filter_append,List.map_append]
 by_cases h:p k=true
 . rw[if_pos h];simp[h]
 . rw[if_neg h];simp[h]
theorem zgL{bed:D}{stk:List (Str×Int)}{ss:List Str}{ks:List (List Str)}{P:List Tl}{d:Nat}{x y k:Int}{st:Sto}(hb:BedAt bed stk ks)(h:KsOk ss ks)(hP:∀ t∈P,0<=t.2.2/\t.2.2 < (ks.length:Int))(k0:0<=k)(k1:k < (ks.length:Int))(hd:st[d]?=some (.dt (P.map kvOf))) :
   ∃ st',Y3 (zb0 [bed,.ref d,.tup [.int x,.int y],.int k] st=some (.ref st.length,st')) (st'[st.length]?=some (.lst ((alike (sds ks k) (names4 ks P x y)).map fun (i:Nat)=>D.int (i:Int)))) (Gr st st'):=by
 obtain⟨hs,i0,_,i2⟩:=hb.h;have hdl:=getElem?_lt hd;have key:=zbR (W:=⟨run 0 4,[]⟩) (g:=gNm 6) (m:=zaT) (ds:=[D.int 0,.int 1,.int 2,.int 3]) (ρ:=[some bed,some (.ref d),some (.tup [.int x,.int y]),some (.int k),some (.tup (ks.map zb8)),some (.ref st.length),none,none,none]) (st:=st++[.lst []])
   (Inv:=fun i ρ s=>Y3 ((∃ a b c,ρ=[some bed,some (.ref d),some (.tup [.int x,.int y]),some (.int k),some (.tup (ks.map zb8)),some (.ref st.length),a,b,c])) (s[st.length]?=some (.lst (fl (okJ (sds ks k) (names4 ks P x y)) i))) (Gr st s))
   ⟨⟨_,_,_,rfl⟩,zaR _ _,Gr.app _ _⟩ (fun _ _ _ _ _=>rfl) (fun i dd ρ s hdd hI=>by
     obtain⟨⟨u,v,w,rfl⟩,hat,hg⟩:=hI;have hd':=(hg.old _ hdl).trans hd;have hL:(fl (okJ (sds ks k) (names4 ks P x y)) i).length<=10:=by
       have h1:(fl (okJ (sds ks k) (names4 ks P x y)) i).length<=i:=by
         unfold fl;rw[List.length_map];exact Nat.le_trans (List.length_filter_le _ _) (by simp)
       have:=getElem?_lt hdd;simp at this;omega
     have fin:∀ s':Sto,Fr st.length s s'->Gr st s':=fun s' f=>⟨Nat.le_trans hg.len f.len,fun j hj=>(f.old j (Nat.lt_of_lt_of_le hj hg.len) (by omega)).trans (hg.old j hj)⟩
     match i,hdd with
     | 0,hdd =>
       cases hdd;obtain⟨b7,b8,s',e,hat',f⟩:=zfm (bed:=bed) (I:=2) (i:=0) (j:=2) (a:=x) (b:=y+1) (x:=x) (y:=y) (a7:=v) (a8:=w) h hP k0 k1 hd' hat hL rfl (by decide) (by decide) rfl (by decide) rfl;exact⟨_,s,_,s',rfl,e,⟨_,_,_,rfl⟩,by rw[zeF];exact hat',fin s' f⟩
     | 1,hdd =>
       cases hdd;obtain⟨b7,b8,s',e,hat',f⟩:=zfm (bed:=bed) (I:=3) (i:=1) (j:=3) (a:=x+1) (b:=y) (x:=x) (y:=y) (a7:=v) (a8:=w) h hP k0 k1 hd' hat hL rfl (by decide) (by decide) rfl (by decide) rfl;exact⟨_,s,_,s',rfl,e,⟨_,_,_,rfl⟩,by rw[zeF];exact hat',fin s' f⟩
     | 2,hdd =>
       cases hdd;obtain⟨b7,b8,s',e,hat',f⟩:=zfm (bed:=bed) (I:=0) (i:=2) (j:=0) (a:=x) (b:=y - 1) (x:=x) (y:=y) (a7:=v) (a8:=w) h hP k0 k1 hd' hat hL rfl (by decide) (by decide) rfl (by decide) rfl;exact⟨_,s,_,s',rfl,e,⟨_,_,_,rfl⟩,by rw[zeF];exact hat',fin s' f⟩
     | 3,hdd =>
       cases hdd;obtain⟨b7,b8,s',e,hat',f⟩:=zfm (bed:=bed) (I:=1) (i:=3) (j:=1) (a:=x - 1) (b:=y) (x:=x) (y:=y) (a7:=v) (a8:=w) h hP k0 k1 hd' hat hL rfl (by decide) (by decide) rfl (by decide) rfl;exact⟨_,s,_,s',rfl,e,⟨_,_,_,rfl⟩,by rw[zeF];exact hat',fin s' f⟩
     | i+4,hdd=>exact absurd hdd (by simp))
 obtain⟨ρ',s',el,⟨u,v,w,rfl⟩,hat,hg⟩:=key;refine⟨s',zcy ?_,hat,hg⟩;have i0':=i0 st;have i2':=i2 st;generalize ks.map zb8=KK at *;unfold zdz;refine zan (ρ1:=[some bed,some (.ref d),some (.tup [.int x,.int y]),some (.int k),some (.tup KK),some (.ref st.length),none,none,none]) (s1:=st++[.lst []]) (by simp[i0',i2']) ?_;refine zan (ρ1:=[some bed,some (.ref d),some (.tup [.int x,.int y]),some (.int k),some (.tup KK),some (.ref st.length),u,v,w]) (s1:=s') (by
   rw[zdb,ziP (k:=4) rfl (by decide)];exact el) ?_
 simp
theorem zsM{bed hs kd:D}{KK:D}{e:Nat}{k J:Int}{mine:Str}{v:D}{s:Sto}(i0:ixA bed (.int 0) s=some (hs,s))(i2:ixA hs (.int 2) s=some (KK,s))(ik:ixA KK (.int k) s=some (kd,s))(ij:ixA kd (.int (J+1)) s=some (.str mine,s))(iv:ixA (.ref e) (.str mine) s=some (v,s)):zbU [some (.int J),some (.ref e),some bed,some (.int k)] s=some (v,s):=by
 unfold zbU;simp[i0,i2,ik,ij,iv]
theorem eq_nil{l m:Nat}{js:List Nat}{st:Sto}(hl:st[l]?=some (.lst (js.map fun (i:Nat)=>D.int (i:Int))))(hm:st[m]?=some (.lst [])):eqD (.ref l) (.ref m) st=some (.bl js.isEmpty,st):=by
 have e:(js.map fun (i:Nat)=>D.int (i:Int))=(js.map fun (i:Nat)=>(i:Int)).map D.int:=by rw[List.map_map];rfl
 rw[e] at hl;unfold eqD;rw[zdh (n:=98) hl,zdh (n:=98) (as:=[]) hm]
 cases js <;> rfl
theorem zhm{bed:D}{stk:List (Str×Int)}{ks:List (List Str)}{P:List Tl}{d:Nat}{x y k:Int}{st:Sto}(hb:BedAt bed stk ks)(h:KsOk (stk.map (·.1)) ks)(hstk:∀ p∈stk,1<=p.2/\p.2<=4)(hsl:stk.length<=1000)(hP:∀ t∈P,0<=t.2.2/\t.2.2 < (ks.length:Int))(k0:0<=k)(k1:k < (ks.length:Int))(hd:st[d]?=some (.dt (P.map kvOf))) :
   ∃ st',zbc [bed,.ref d,.tup [.int x,.int y],.int k] st=some (.int ((alike (sds ks k) (names4 ks P x y)).map fun i=>sv stk ((sds ks k).getD i "")).sum,st')/\Gr st st':=by
 obtain⟨s1,e1,a1,g1⟩:=zgL (x:=x) (y:=y) hb h hP k0 k1 hd;obtain⟨hs,i0,i1,i2⟩:=id hb.h;have hmem:∀ i∈alike (sds ks k) (names4 ks P x y),i < 4/\(sds ks k).getD i ""≠"":=fun i hi=>by
   obtain⟨h1,h2⟩:=List.mem_filter.mp hi;unfold okJ at h2;rw[Bool.and_eq_true] at h2;exact⟨List.mem_range.mp h1,by simpa using h2.1⟩
 have hle:(alike (sds ks k) (names4 ks P x y)).length<=4:=by
   have:=List.length_filter_le (okJ (sds ks k) (names4 ks P x y)) (List.range 4);rw[List.length_range] at this;exact this
 obtain⟨f,x0,x1,x2,x3,e,es,hok⟩:=zcF h k0 k1;generalize alike (sds ks k) (names4 ks P x y)=js at *;have a2:(s1++[O.lst []])[st.length]?=some (.lst (js.map fun (i:Nat)=>D.int (i:Int))):=by rw[List.getElem?_append_left (getElem?_lt a1)];exact a1
 have en:=eq_nil a2 (zaR s1 (.lst []));have g2:=Gr.app s1 [.lst []];generalize hs2:s1++[O.lst []]=s2 at *
 by_cases hj:js=[]
 . subst hj;refine⟨s2,zcy ?_,g1.trans g2⟩;unfold zei;refine zan (ρ1:=[some bed,some (.ref d),some (.tup [.int x,.int y]),some (.int k),some (.ref st.length),none]) (s1:=s1) (by simp[e1]) (ziG ?_);simp[hs2,en]
 . have hne:js.isEmpty=false:=by cases js with
     | nil=>exact absurd rfl hj
     | cons a b=>rfl
   rw[hne] at en;have ed:=zlA (stk:=stk) (st:=s2) hsl;have a3:=zaR s2 (.dk (stD stk));have a2':(s2++[O.dk (stD stk)])[st.length]?=some (.lst (js.map fun (i:Nat)=>D.int (i:Int))):=by rw[List.getElem?_append_left (getElem?_lt a2)];exact a2
   have g3:=Gr.app s2 [.dk (stD stk)];generalize hs3:s2++[O.dk (stD stk)]=s3 at *;have side:∀ i∈js,(sds ks k).getD i ""∈stk.map (·.1):=fun i hi=>by
     obtain⟨h1,h2⟩:=hmem i hi;rw[es] at h2 ⊢;have hx:[x0,x1,x2,x3].getD i ""∈[x0,x1,x2,x3]:=by
       rw[List.getD_eq_getElem?_getD]
       cases hg:[x0,x1,x2,x3][i]? with
       | none =>
         rw[List.getD_eq_getElem?_getD,hg] at h2;exact absurd rfl h2
       | some u=>exact List.mem_of_getElem? hg
     rcases (hok _ hx).2 with h3 | h3
     . exact absurd h3 h2
     . exact h3
   have ec:mCI ⟨js.map fun (i:Nat)=>D.int (i:Int),[(st.length,js.map fun (i:Nat)=>D.int (i:Int))]⟩ (gNm 0) zck zbU (js.map fun (i:Nat)=>D.int (i:Int)) [none,some (.ref s2.length),some bed,some (.int k)] s3=some (js.map fun i=>D.int (sv stk ((sds ks k).getD i "")),s3):=by
     refine zh3 (R:=fun ρ=>∃ x,ρ=[x,some (.ref s2.length),some bed,some (.int k)]) ⟨none,rfl⟩ (zcl a2') fun i hi ρ hρ=>?_;obtain⟨u,rfl⟩:=hρ;have ek:ixA (.tup (ks.map zb8)) (.int k) s3=some (zb8 [f,x0,x1,x2,x3],s3):=zaQ k0 (by rw[List.getElem?_map,e];rfl);have ij:ixA (zb8 [f,x0,x1,x2,x3]) (.int ((i:Int)+1)) s3=some (.str ((sds ks k).getD i ""),s3):=by
       refine zaQ (by omega) ?_;rw[es];have:((i:Int)+1).toNat=i+1:=by omega
       rw[this]
       match i,(hmem i hi).1 with
       | 0,_=>rfl
       | 1,_=>rfl
       | 2,_=>rfl
       | 3,_=>rfl
     exact⟨[some (.int (i:Int)),some (.ref s2.length),some bed,some (.int k)],rfl,rfl,zsM (i0 s3) (i2 s3) ek ij (zrM a3 (znM hstk (side i hi)).1),_,rfl⟩
   have hm:(js.map fun i=>D.int (sv stk ((sds ks k).getD i "")))=(js.map fun i=>sv stk ((sds ks k).getD i "")).map D.int:=by rw[List.map_map];rfl
   rw[hm] at ec;have hall:∀ n∈js.map (fun i=>sv stk ((sds ks k).getD i "")),0<=n/\n<=100:=fun n hn=>by
     obtain⟨i,hi,rfl⟩:=List.mem_map.mp hn;have:=znM hstk (side i hi);omega
   have esm:=znN (zaR s3 (.lst ((js.map fun i=>sv stk ((sds ks k).getD i "")).map D.int))) hall (by rw[List.length_map];omega);have fl':fits ((js.map fun i=>sv stk ((sds ks k).getD i "")).map D.int).length=true:=zaw (by rw[List.length_map,List.length_map];omega);generalize (js.map fun i=>sv stk ((sds ks k).getD i "")).sum=R at *;generalize (js.map fun i=>sv stk ((sds ks k).getD i "")).map D.int=A at *;refine⟨s3++[.lst A],zcy ?_,((g1.trans g2).trans g3).trans (Gr.app _ _)⟩;generalize (js.map fun (i:Nat)=>D.int (i:Int))=JJ at *;unfold zei;refine zan (ρ1:=[some bed,some (.ref d),some (.tup [.int x,.int y]),some (.int k),some (.ref st.length),none]) (s1:=s1) (by simp[e1]) ?_;refine zan (ρ1:=[some bed,some (.ref d),some (.tup [.int x,.int y]),some (.int k),some (.ref st.length),none]) (s1:=s2) (by simp[hs2,en]) ?_;refine zan (ρ1:=[some bed,some (.ref d),some (.tup [.int x,.int y]),some (.int k),some (.ref st.length),some (.ref s2.length)]) (s1:=s3) (by simp[i0,i1,ed]) ?_;have ecm:zcO (mWA (mVar 4)) 1 [5,0,3] (gNm 0) (zck) (zbU) [some bed,some (.ref d),some (.tup [.int x,.int y]),some (.int k),some (.ref st.length),some (.ref s2.length)] s3=some (.ref s3.length,s3++[.lst A]):=by
     have:mWA (mVar 4) [some bed,some (.ref d),some (.tup [.int x,.int y]),some (.int k),some (.ref st.length),some (.ref s2.length)] s3=some (⟨JJ,[(st.length,JJ)]⟩,s3):=by simp[zie,zbu,a2']
     rw[zaW,this];simp only[Option.bind_some];rw[show rho0 [some bed,some (.ref d),some (.tup [.int x,.int y]),some (.int k),some (.ref st.length),some (.ref s2.length)] 1 [5,0,3]=[none,some (.ref s2.length),some bed,some (.int k)] from rfl,ec];simp only[Option.bind_some,fl',if_true]
   simp[ecm,esm]
theorem zj8{stk:List (Str×Int)}{S N:List Str}(hS:S.length=4)(hN:N.length=4):((togs S N).map fun p=>sv stk p.1)=(alike S N).map fun i=>sv stk (S.getD i ""):=by
 match S,N,hS,hN with
 | [a,b,c,d],[a',b',c',d'],_,_ =>
   have e:List.range 4=[0,1,2,3]:=rfl;have f0:okJ [a,b,c,d] [a',b',c',d'] 0=(a==a'&&a != ""):=Bool.and_comm _ _;have f1:okJ [a,b,c,d] [a',b',c',d'] 1=(b==b'&&b != ""):=Bool.and_comm _ _;have f2:okJ [a,b,c,d] [a',b',c',d'] 2=(c==c'&&c != ""):=Bool.and_comm _ _;have f3:okJ [a,b,c,d] [a',b',c',d'] 3=(d==d'&&d != ""):=Bool.and_comm _ _;unfold togs alike;rw[e];simp only[List.zip_cons_cons,List.zip_nil_left,List.filter_cons,List.filter_nil,f0,f1,f2,f3]
   cases (a==a'&&a != "") <;> cases (b==b'&&b != "") <;> cases (c==c'&&c != "") <;> cases (d==d'&&d != "") <;> rfl
end L2.MP.Hd
set_option maxHeartbeats 4000000
namespace L2.MP.Hd
open PySem L2.MP
open L2.MP.Hn (zas)
structure TameP(w:Nat)(p:PyData):Prop where
 lay:p.canLay0=true
 int:p.intsShort 13=true
 shw:p.showable=true
 wt:p.weight<=w
noncomputable def Tame(w k:Nat)(d:D):Prop:=∃ p,(∀ (m:Nat) (st:Sto),toP (m+k) st d=some p)/\TameP w p
theorem zgn{i:Int}(h0:0<=i)(h1:i<=100):Tame 8 1 (.int i):=by
 refine⟨.int i,fun m st=>by rw[toP],by simp only[PyData.canLay0],?_,?_,?_⟩
 . simp only[PyData.intsShort];exact decide_eq_true (PyData.shown_int_le (by omega))
 . simp only[PyData.showable];refine decide_eq_true ?_
   by_cases hz:i.natAbs=0
   . rw[hz];decide
   . exact Nat.lt_of_lt_of_le ((Nat.log2_lt hz).mpr (show i.natAbs < 2 ^ 7 by omega)) (by decide)
 . simp only[PyData.weight]
   split
   . exact Nat.zero_le _
   . rename_i hz;have hz:i.natAbs≠0:=by simp at hz;omega
     have:=(Nat.log2_lt hz).mpr (show i.natAbs < 2 ^ 7 by omega);omega
theorem ziq{w k:Nat}:∀ {ds:List D},(∀ d∈ds,Tame w k d)->∃ ps:List PyData,(∀ (m:Nat) (st:Sto),toPs (toP (m+k) st) ds=some ps)/\PyData.canLayAll0 ps=true/\PyData.intsShortAll 13 ps=true/\PyData.showableAll ps=true/\PyData.weightAll ps<=(w+1)*ds.length
 | [],_=>⟨[],fun _ _=>rfl,by simp only[PyData.canLayAll0],by simp only[PyData.intsShortAll],by simp only[PyData.showableAll],by simp only[PyData.weightAll];omega⟩
 | d::ds,h=>by
   obtain⟨p,e,t⟩:=h d List.mem_cons_self;obtain⟨ps,e1,e2,e3,e4,e5⟩:=ziq (ds:=ds) fun x hx=>h x (List.mem_cons_of_mem _ hx);refine⟨p::ps,fun m st=>?_,?_,?_,?_,?_⟩
   . rw[toPs,e,Option.bind_some,e1];rfl
   . simp only[PyData.canLayAll0,t.lay,e2];rfl
   . simp only[PyData.intsShortAll,t.int,e3];rfl
   . simp only[PyData.showableAll,t.shw,e4];rfl
   . simp only[PyData.weightAll,List.length_cons];have:=t.wt;rw[Nat.mul_add];omega
theorem zin{w k L:Nat}{ds:List D}(h:∀ d∈ds,Tame w k d)(hl:ds.length<=L):Tame ((w+1)*L) (k+1) (.tup ds):=by
 obtain⟨ps,e1,e2,e3,e4,e5⟩:=ziq h;refine⟨.tuple ps,fun m st=>?_,by simp only[PyData.canLay0];exact e2,by simp only[PyData.intsShort];exact e3,by simp only[PyData.showable];exact e4,?_⟩
 . rw[show m+(k+1)=(m+k)+1 by omega,toP,e1];rfl
 . simp only[PyData.weight];exact Nat.le_trans e5 (Nat.mul_le_mul_left _ hl)
theorem zoa{w k:Nat}{d:D}(h:Tame w k d)(hw:w<=1000000)(hk:k<=100):∃ z:Str,∀ st:Sto,ziO [d] st=some (.str z,st):=by
 obtain⟨p,e,t⟩:=h;refine⟨p.shown,fun st=>?_⟩;have e':=e (100 - k) st;rw[show 100 - k+k=100 by omega] at e';have hd:p.hasDict=false:=PyData.hasDict_of_canLay p t.lay;have hf:fits p.shown.length=true:=by
   unfold fits;refine decide_eq_true (PyData.shown_fits (B:=13) (by decide) (by decide) (PyData.leavesShort_of_canLay0 13 p t.lay t.int) (Nat.le_trans t.wt (Nat.le_trans hw (by decide))))
 unfold ziO;simp only[e',Option.bind_some,t.shw,hd,hf];rfl
theorem zio{w h kn:Int}{ts:List Tl}(ht:∀ t∈ts,za8 w h kn t)(hl:ts.length<=60)(hw:w<=100)(hh:h<=100)(hk:kn<=100):Tame 1680 3 (zas ts):=by
 refine zin (w:=27) (k:=2) (L:=60) (fun d hd=>?_) (by rw[List.length_map];exact hl);obtain⟨t,htm,rfl⟩:=List.mem_map.mp hd;obtain⟨a1,a2,a3,a4,a5,a6⟩:=ht t htm;refine zin (w:=8) (k:=1) (L:=3) (fun d hd=>?_) (by simp[rowT]);simp[rowT] at hd
 rcases hd with rfl | rfl | rfl
 . exact zgn a1 (by omega)
 . exact zgn a3 (by omega)
 . exact zgn a5 (by omega)
theorem zoJ{z:Str}{st:Sto}:neS (.str z) (.str z) st=some (.bl false,st):=by
 unfold neS;simp
noncomputable def plD(p:Int×Int):D:=.tup [.int p.1,.int p.2]
end L2.MP.Hd
namespace L2.MP
open PySem
end L2.MP
namespace L2.MP
open PySem
end L2.MP
namespace L2.MP.stickytiles_k38_sound_parts
open PySem L2.MP L2.MP.Hd
noncomputable def zge:MS:=mRet (zmT (mIsi "int" (mVar 0)) (zmT (zpE (mIsi "bool" (mVar 0))) (zfX leD leD (mVar 1) (mVar 0) (mVar 2))))
noncomputable def zcq:GN:=fnM 3 zge
noncomputable def zgf:MS:=mRet (zmT (mIsi "tuple" (mVar 0)) (mBin eqD (zar lenD (zad (mVar 0) (mNil))) (mVar 1)))
noncomputable def zde:GN:=fnM 2 zgf
noncomputable def zgg:MS:=mSeq (mAsg (mBin ixA (mVar 0) (mCon (.int 1))) (gNm 2)) (mRet (zmT (zar zde (zad (mVar 1) (zad (mCon (.int 2)) (mNil)))) (zmT (zar zcq (zad (mBin ixA (mVar 1) (mCon (.int 0))) (zad (mCon (.int 0)) (zad (mBin subD (mBin ixA (mVar 2) (mCon (.int 0))) (mCon (.int 1))) (mNil))))) (zar zcq (zad (mBin ixA (mVar 1) (mCon (.int 1))) (zad (mCon (.int 0)) (zad (mBin subD (mBin ixA (mVar 2) (mCon (.int 1))) (mCon (.int 1))) (mNil))))))))
noncomputable def zcr:GN:=fnM 3 zgg
noncomputable def zcT:MS:=mSeq (mAsg (mSlB (mVar 3) (zlo) (zln (mCon (.int 2)))) (gNm 4)) (mSeq (mIf (mOrT (mTst (mBin inA (mVar 4) (mVar 2))) (zpF (mTst (zar zcr (zad (mVar 0) (zad (mVar 4) (mNil))))))) (mRet (mCon (.bl false))) (zdK)) (mSeq (mAsg (zar zbA (zad (mVar 0) (zad (mVar 2) (zad (mVar 4) (mNil))))) (gNm 5)) (mRet (mBin geD (zar zaP (zad (mVar 1) (zad (zar zbH (zad (mVar 0) (zad (mBin ixA (mVar 3) (mCon (.int 2))) (mNil)))) (zad (mVar 5) (mNil))))) (mBin ixA (mBin ixA (mVar 0) (mCon (.int 0))) (mCon (.int 0)))))))
noncomputable def za2:GN:=fnM 6 zcT
noncomputable def zb4:ME:=mVar 0
noncomputable def zbG:MT:=mTst (mBin inA (mVar 0) (mVar 1))
noncomputable def zbF:MT:=mTru (mVar 6)
noncomputable def zaZ:MS:=mSeq (mAsg (zq2 (mVar 6)) (gNm 7)) (mSeq (mAsg (mTup (zad (mBin ixA (mVar 7) (mCon (.int 0))) (zad (mBin ixA (mVar 7) (mCon (.int 1))) (zad (mBin ixA (mVar 4) (mVar 7)) (mNil))))) (gNm 8)) (mIf (mTst (zar za2 (zad (mVar 0) (zad (mVar 2) (zad (mVar 3) (zad (mVar 8) (mNil))))))) (mSeq (mExp (mApp (mVar 5) (zad (mVar 8) (mNil)))) (mSeq (putA (mVar 3) (mVar 7) (mBin ixA (mVar 4) (mVar 7))) (mExp (mExt (mVar 6) (zad (zcO (mWA (zar zay (zad (mVar 7) (mNil)))) 1 [4] (gNm 0) (zbG) (zb4)) (mNil)))))) (zdK)))
noncomputable def zeM:MS:=mSeq (mAsg (zar zpf (zad (mBin ixA (mBin ixA (mVar 0) (mCon (.int 0))) (mCon (.int 1))) (mNil))) (gNm 2)) (mSeq (mAsg (zar zbd (zad (mBin ixA (mVar 0) (mCon (.int 2))) (mNil))) (gNm 3)) (mSeq (mAsg (zar zbd (zad (mVar 1) (mNil))) (gNm 4)) (mSeq (mAsg (mLst (mNil)) (gNm 5)) (mSeq (mAsg (zar zpH (zad (mVar 4) (mNil))) (gNm 6)) (mSeq (mWhF (zbF) (zaZ) 1000) (mRet (zar zdN (zad (mVar 5) (mNil)))))))))
noncomputable def zcA:GN:=fnM 9 zeM
noncomputable def zlE:MS:=mRet (zar zdN (zad (zar zdQ (zad (mBin addE (mBin ixA (mVar 0) (mCon (.int 2))) (zar zcA (zad (mVar 0) (zad (mVar 1) (mNil))))) (mNil))) (mNil)))
noncomputable def zdd:GN:=fnM 2 zlE
noncomputable def zaC:ME:=mBin addD (mVar 0) (mTup (zad (mBin zkY (mVar 1) (mVar 0)) (mNil)))
noncomputable def zb6:MS:=mRet (zar zdN (zad (zar zdQ (zad (zoO 0 (zcO (mWK (mVar 0)) 1 [0] (gNm 0) (zck) (zaC))) (mNil))) (mNil)))
noncomputable def zaB:GN:=fnM 1 zb6
noncomputable def zbp:ME:=mVar 0
noncomputable def zaS:MT:=mTst (mBin inA (zar zaN (zad (mTup (zad (mVar 1) (zad (mVar 2) (mNil)))) (zad (mVar 0) (mNil)))) (mVar 3))
noncomputable def zbm:MS:=mSeq (mAsg (zcO (mR1 (mCon (.int 4))) 1 [3,4,1] (gNm 0) (zaS) (zbp)) (gNm 5)) (mIf (zfw (mTst (mBin zen (mTup (zad (mVar 3) (zad (mVar 4) (mNil)))) (mVar 1))) (mTst (mBin neD (mVar 5) (mLst (mNil))))) (mExp (mApp (mVar 2) (zad (mTup (zad (mVar 3) (zad (mVar 4) (mNil)))) (mNil)))) (zdK))
noncomputable def zb9:MS:=mFor (mR1 (mBin ixA (mBin ixA (mVar 0) (mCon (.int 1))) (mCon (.int 1)))) (gNm 4) (zbm)
noncomputable def zdB:MS:=mSeq (mAsg (mLst (mNil)) (gNm 2)) (mSeq (mFor (mR1 (mBin ixA (mBin ixA (mVar 0) (mCon (.int 1))) (mCon (.int 0)))) (gNm 3) (zb9)) (mRet (mVar 2)))
noncomputable def zbJ:GN:=fnM 6 zdB
noncomputable def zbv:MS:=mIf (mTst (mBin geD (zar zbc (zad (mVar 0) (zad (mVar 1) (zad (mVar 3) (zad (mVar 4) (mNil)))))) (mBin ixA (mBin ixA (mVar 0) (mCon (.int 0))) (mCon (.int 0))))) (mExp (mApp (mVar 2) (zad (mBin addD (mVar 3) (mTup (zad (mVar 4) (mNil)))) (mNil)))) (zdK)
noncomputable def zbZ:MS:=mFor (mR1 (zar lenD (zad (mBin ixA (mBin ixA (mVar 0) (mCon (.int 0))) (mCon (.int 2))) (mNil)))) (gNm 4) (zbv)
noncomputable def zeN:MS:=mSeq (mAsg (mLst (mNil)) (gNm 2)) (mSeq (mFor (mWA (zar zbJ (zad (mVar 0) (zad (mVar 1) (mNil))))) (gNm 3) (zbZ)) (mRet (mVar 2)))
noncomputable def zbP:GN:=fnM 5 zeN
noncomputable def za1:MS:=mSeq (mAsg (zar zbP (zad (mVar 1) (zad (mVar 3) (mNil)))) (gNm 6)) (mIf (mTst (mBin neD (mVar 6) (mLst (mNil)))) (mSeq (mAsg (mBin ixA (mVar 6) (zar zac (zad (mVar 0) (zad (zar lenD (zad (mVar 6) (mNil))) (mNil))))) (gNm 7)) (mSeq (putA (mVar 3) (mSlB (mVar 7) (zlo) (zln (mCon (.int 2)))) (mBin ixA (mVar 7) (mCon (.int 2)))) (mExp (mApp (mVar 4) (zad (mVar 7) (mNil)))))) (zdK))
noncomputable def zef:MS:=mSeq (mPar 3 4 (zad (zar za0 (zad (mBin ixA (mVar 1) (mCon (.int 2))) (mNil))) (zad (mLst (mNil)) (mNil)))) (mSeq (mFor (mR1 (mVar 2)) (gNm 5) (za1)) (mRet (zar zdN (zad (mVar 4) (mNil)))))
noncomputable def zbT:GN:=fnM 8 zef
noncomputable def zaF:MS:=mIf (zfw (mTst (mBin zen (mTup (zad (mVar 4) (zad (mVar 5) (mNil)))) (mVar 2))) (mTst (mBin geD (zar zbc (zad (mVar 0) (zad (mVar 2) (zad (mTup (zad (mVar 4) (zad (mVar 5) (mNil)))) (zad (mVar 6) (mNil)))))) (mBin ixA (mBin ixA (mVar 0) (mCon (.int 0))) (mCon (.int 0)))))) (mSeq (putA (mVar 2) (mTup (zad (mVar 4) (zad (mVar 5) (mNil)))) (mVar 6)) (mAsg (mCon (.bl true)) (gNm 3))) (zdK)
noncomputable def zbD:MT:=mTru (mVar 3)
noncomputable def zbE:MS:=mSeq (mAsg (mCon (.bl false)) (gNm 3)) (mFor (mWA (mVar 1)) (gTp 3 (gC (gNm 4) (gC (gNm 5) (gC (gNm 6) (gN0))))) (zaF))
noncomputable def zdy:MS:=mSeq (mAsg (zar za0 (zad (mBin ixA (mVar 0) (mCon (.int 2))) (mNil))) (gNm 2)) (mSeq (mAsg (mCon (.bl true)) (gNm 3)) (mSeq (mWhF (zbD) (zbE) 1000) (mRet (mVar 2))))
noncomputable def zbI:GN:=fnM 7 zdy
noncomputable def zbz:MS:=putA (mVar 2) (mSlB (mVar 3) (zlo) (zln (mCon (.int 2)))) (mBin ixA (mVar 3) (mCon (.int 2)))
noncomputable def zby:MS:=mSeq (mAsg (zar zdj (zad (mVar 2) (mNil))) (gNm 5)) (mSeq (mAsg (zar zac (zad (mVar 0) (zad (mCon (.int 4)) (mNil)))) (gNm 6)) (mSeq (mAsg (mTup (zad (zar zac (zad (mVar 0) (zad (mBin ixA (mBin ixA (mVar 1) (mCon (.int 1))) (mCon (.int 0))) (mNil)))) (zad (zar zac (zad (mVar 0) (zad (mBin ixA (mBin ixA (mVar 1) (mCon (.int 1))) (mCon (.int 1))) (mNil)))) (mNil)))) (gNm 7)) (mSeq (mIf (zfw (mTst (mBin gtD (mVar 6) (mCon (.int 0)))) (mTst (mBin neD (mVar 5) (mLst (mNil))))) (mAsg (mBin ixA (mVar 5) (zar zac (zad (mVar 0) (zad (zar lenD (zad (mVar 5) (mNil))) (mNil))))) (gNm 7)) (zdK)) (mIf (zfw (mTst (mBin eqD (mVar 6) (mCon (.int 3)))) (mTst (mBin inA (mVar 7) (mVar 2)))) (mExp (zoP (mVar 2) (mVar 7))) (putA (mVar 2) (mVar 7) (zar zac (zad (mVar 0) (zad (zar lenD (zad (mBin ixA (mBin ixA (mVar 1) (mCon (.int 0))) (mCon (.int 2))) (mNil))) (mNil)))))))))
noncomputable def zdf:MS:=mSeq (mAsg (zar za0 (zad (mBin ixA (mVar 1) (mCon (.int 2))) (mNil))) (gNm 2)) (mSeq (mFor (mWA (zar zbT (zad (mVar 0) (zad (mVar 1) (zad (mCon (.int 12)) (mNil)))))) (gNm 3) (zbz)) (mSeq (mFor (mR1 (zar zac (zad (mVar 0) (zad (mCon (.int 6)) (mNil))))) (gNm 4) (zby)) (mRet (zar zaB (zad (mVar 2) (mNil))))))
noncomputable def zbi:GN:=fnM 8 zdf
noncomputable def zgd:MS:=mSeq (mAsg (zar zaB (zad (zar zbI (zad (mVar 3) (zad (mVar 4) (mNil)))) (mNil))) (gNm 5)) (mSeq (mIf (mOrT (mTst (mBin neS (zar ziO (zad (zar zdd (zad (mVar 3) (zad (mVar 4) (mNil)))) (mNil))) (zar ziO (zad (mVar 5) (mNil))))) (mTst (mBin neS (zar ziO (zad (zar zdd (zad (mVar 3) (zad (mVar 5) (mNil)))) (mNil))) (zar ziO (zad (mVar 5) (mNil)))))) (mRet (mCon (.bl false))) (zdK)) (mIf (mTst (mBin neS (zar ziO (zad (zar zdd (zad (mVar 3) (zad (mVar 4) (mNil)))) (mNil))) (zar ziO (zad (mVar 5) (mNil))))) (mRet (mCon (.bl false))) (zdK)))
noncomputable def zhE:MS:=mSeq (mAsg (zar zb3 (zad (mVar 0) (zad (mVar 1) (mNil)))) (gNm 2)) (mSeq (mAsg (zar zcB (zad (mVar 2) (mNil))) (gNm 3)) (mFor (mWA (mLst (zad (zar zbi (zad (mVar 2) (zad (mVar 3) (mNil)))) (zad (zar zax (zad (mVar 2) (zad (mBin ixA (mVar 3) (mCon (.int 0))) (zad (mBin ixA (mVar 3) (mCon (.int 1))) (zad (mCon (.int 9)) (mNil)))))) (zad (mTup (mNil)) (zad (mBin ixA (mVar 3) (mCon (.int 2))) (mNil))))))) (gNm 4) (zgd)))
noncomputable def zrZ:MS:=mSeq (mFor (mR1 (mBin addD (mCon (.int 1)) (zar zoN (zad (mCon (.int 3)) (zad (zar lenD (zad (mVar 0) (mNil))) (mNil)))))) (gNm 1) (zhE)) (mRet (mCon (.bl true)))
noncomputable def znu:GN:=fnM 6 zrZ
end L2.MP.stickytiles_k38_sound_parts
set_option maxRecDepth 100000
set_option maxHeartbeats 8000000
namespace L2.MP.stickytiles_k38_sound_parts
open PySem L2 L2.MP L2.MP.Hd PySem.Spec PyProof.Rows
noncomputable def top(i:Nat):Stmt:=PySem.Challenge.pw_stickytiles_k38_sound_parts.main.body.getD i (.Pass ⟨0,0,0,0⟩)
section
variable {P:Program} {w:World} {K:PySem.W.Frag} {mg:Str->Option Value} {base:Heap}
theorem nd_0:(["bed","thing","floor"]:List Str).Nodup:=by decide +kernel
theorem nd_1:(["place","x","y"]:List Str).Nodup:=by decide +kernel
theorem nd_2:(["bed","kind","kinds"]:List Str).Nodup:=by decide +kernel
theorem nd_3:(["standing","kinds","x","y","kind"]:List Str).Nodup:=by decide +kernel
theorem nd_4:(["bed","standing_kinds","place","names","side","near"]:List Str).Nodup:=by decide +kernel
theorem nd_5:(["side","name","strengths"]:List Str).Nodup:=by decide +kernel
theorem nd_6:(["bed","strengths","standing_kinds","tile","place","names"]:List Str).Nodup:=by decide +kernel
theorem nd_7:(["bed","tiles","strengths","standing_kinds","kinds","row","asked","place","tile"]:List Str).Nodup:=by decide +kernel
theorem nd_8:(["near","kinds"]:List Str).Nodup:=by decide +kernel
theorem nd_9:(["_law_script","_law_k","_law_cell","_law_far","_law_own"]:List Str).Nodup:=by decide +kernel
theorem zqX:(["_law_pot","_law_many","_law_digit","_law_mixed"]:List Str).Nodup:=by decide +kernel
theorem zqW:(["_law_pot","_law_many","_law_letters","_law_first","_law_step_here"]:List Str).Nodup:=by decide +kernel
theorem zsz:(["_law_k","_law_letters","_law_first"]:List Str).Nodup:=by decide +kernel
theorem zsy:(["_law_k","_law_letters","_law_first","_law_step_here"]:List Str).Nodup:=by decide +kernel
theorem zrJ:(["_law_pot","_law_names_here","_law_face","_law_sides_here"]:List Str).Nodup:=by decide +kernel
theorem zsx:(["_law_side","_law_names_here","_law_pot"]:List Str).Nodup:=by decide +kernel
theorem zpC:(["_law_pot","_law_names_here","_law_enough","_law_sticks","_law_kinds"]:List Str).Nodup:=by decide +kernel
theorem zsw:(["_law_name","_law_pot"]:List Str).Nodup:=by decide +kernel
theorem zsv:(["_law_k","_law_pot","_law_names_here"]:List Str).Nodup:=by decide +kernel
theorem zqV:(["_law_pot","_law_house_here","_law_floor","_law_most","_law_there","_law_k","_law_place"]:List Str).Nodup:=by decide +kernel
theorem zrI:(["_law_place","_law_there"]:List Str).Nodup:=by decide +kernel
theorem zqU:(["_law_pot","_law_house_here","_law_floor"]:List Str).Nodup:=by decide +kernel
theorem zqT:(["_law_x","_law_y","_law_kind_here"]:List Str).Nodup:=by decide +kernel
theorem zrH:(["_law_place","_law_side","_law_x","_law_y"]:List Str).Nodup:=by decide +kernel
theorem zpB:(["_law_bed_here","_law_there","_law_place","_law_kind_here","_law_kinds","_law_found","_law_side","_law_other","_law_mine"]:List Str).Nodup:=by decide +kernel
theorem zrG:(["_law_bed_here","_law_there","_law_place","_law_kind_here","_law_sides_here","_law_strengths"]:List Str).Nodup:=by decide +kernel
theorem zsu:(["_law_side","_law_strengths","_law_bed_here","_law_kind_here"]:List Str).Nodup:=by decide +kernel
theorem zpA:(["_law_bed_here","_law_there","_law_found","_law_x","_law_y","_law_beside"]:List Str).Nodup:=by decide +kernel
theorem zst:(["_law_side","_law_x","_law_y","_law_there"]:List Str).Nodup:=by decide +kernel
theorem zqS:(["_law_bed_here","_law_there","_law_found","_law_place","_law_kind_here"]:List Str).Nodup:=by decide +kernel
theorem zpz:(["_law_pot","_law_bed_here","_law_most","_law_there","_law_row","_law_k","_law_some","_law_tile"]:List Str).Nodup:=by decide +kernel
theorem zmI:(["_law_bed_here","_law_standing_here","_law_there","_law_grows","_law_x","_law_y","_law_kind_here"]:List Str).Nodup:=by decide +kernel
theorem zmH:(["_law_pot","_law_bed_here","_law_there","_law_tile","_law_k","_law_places","_law_way","_law_place"]:List Str).Nodup:=by decide +kernel
theorem zoL:(["_law_script","_law_k","_law_pot","_law_bed_here","_law_standing_here","_law_due"]:List Str).Nodup:=by decide +kernel
theorem zhP:FnScope ["thing","least","most"] ["thing","least","most"] (zaq (top 1)):=⟨rfl,rfl,rfl,by decide +kernel,rfl,by decide +kernel,by decide +kernel⟩
theorem zhU(L:Laid K mg "is_whole" (top 1) ["thing","least","most"])(b_isinstance:mg "isinstance"=none)(b_int:mg "int"=none)(b_bool:mg "bool"=none):zba P w K mg base 1 "is_whole" 3 zcq :=
 zbB (k:=0) L zhP fun f cdv A outer s H E hr=>JSs.out (zam (JS.mk (za9 (ziK (zl0 (T:="int") (x:="isinstance") (by decide) rfl b_isinstance (zab 0) rfl b_int zpn) (ziK (zqb (zl0 (T:="bool") (x:="isinstance") (by decide) rfl b_isinstance (zab 0) rfl b_bool zpo)) (ziJ (zl2 zmz zmz (zab 1) (zab 0) (zab 2))))))))
theorem zhQ:FnScope ["thing","size"] ["thing","size"] (zaq (top 2)):=⟨rfl,rfl,rfl,by decide +kernel,rfl,by decide +kernel,by decide +kernel⟩
theorem zhV(L:Laid K mg "is_tuple" (top 2) ["thing","size"])(b_isinstance:mg "isinstance"=none)(b_tuple:mg "tuple"=none)(b_len:mg "len"=none):zba P w K mg base 1 "is_tuple" 2 zde :=
 zbB (k:=0) L zhQ fun f cdv A outer s H E hr=>JSs.out (zam (JS.mk (za9 (ziK (zl0 (T:="tuple") (x:="isinstance") (by decide) rfl b_isinstance (zab 0) rfl b_tuple zcp) (ziJ (zl1 (zfN (zbt hr)) (zaI zbx rfl b_len zeb (zaa (zab 0) (zai))) (zab 1) rfl))))))
theorem zhR:FnScope ["bed","thing","floor"] ["bed","thing"] (zaq (top 3)):=⟨rfl,rfl,rfl,by decide +kernel,rfl,by decide +kernel,by decide +kernel⟩
theorem zhW(L:Laid K mg "is_place" (top 3) ["bed","thing"])(h_is_tuple:zba P w K mg base 1 "is_tuple" 2 zde)(h_is_whole:zba P w K mg base 1 "is_whole" 3 zcq):zba P w K mg base 2 "is_place" 2 zcr :=
 zbB (k:=1) L zhR fun f cdv A outer s H E hr=>JSs.out (zag (JS.mk (zaH (i:=2) nd_0 rfl (by first | exact Or.inl rfl | exact Or.inr rfl) (zao (zaG hr) (zab 0) (zaf)))) (zam (JS.mk (za9 (ziK (zaj h_is_tuple (hr.mono (by decide)) rfl (zaa (zab 1) (zaa (zaf) (zai))) (zak.cons (zak.cons zak.nil))) (ziK (zaj h_is_whole (hr.mono (by decide)) rfl (zaa (zao (zaG hr) (zab 1) (zaf)) (zaa (zaf) (zaa (zat zeA (zao (zaG hr) (zab 2) (zaf)) (zaf)) (zai)))) (zak.cons (zak.cons (zak.cons zak.nil)))) (ziJ (zaj h_is_whole (hr.mono (by decide)) rfl (zaa (zao (zaG hr) (zab 1) (zaf)) (zaa (zaf) (zaa (zat zeA (zao (zaG hr) (zab 2) (zaf)) (zaf)) (zai)))) (zak.cons (zak.cons (zak.cons zak.nil)))))))))))
theorem zdV:FnScope ["place","x","y"] ["place"] (zaq (top 5)):=⟨rfl,rfl,rfl,by decide +kernel,rfl,by decide +kernel,by decide +kernel⟩
theorem zd1(L:Laid K mg "places_around" (top 5) ["place"]):zba P w K mg base 1 "places_around" 1 zay :=
 zbB (k:=0) L zdV fun f cdv A outer s H E hr=>JSs.out (zag (JS.mk (zaH (i:=1) nd_1 rfl (by first | exact Or.inl rfl | exact Or.inr rfl) (zao (zaG hr) (zab 0) (zaf)))) (zag (JS.mk (zaH (i:=2) nd_1 rfl (by first | exact Or.inl rfl | exact Or.inr rfl) (zao (zaG hr) (zab 0) (zaf)))) (zam (JS.mk (za9 (zbk (JA.out (zal (zbk (zaa (zab 1) (zaa (zat zaL (zab 2) (zaf)) (zai)))) (zal (zbk (zaa (zat zaL (zab 1) (zaf)) (zaa (zab 2) (zai)))) (zal (zbk (zaa (zab 1) (zaa (zat zeA (zab 2) (zaf)) (zai)))) (zal (zbk (zaa (zat zeA (zab 1) (zaf)) (zaa (zab 2) (zai)))) (zcD))))))))))))
theorem zhN:FnScope ["bed","kind","kinds"] ["bed","kind"] (zaq (top 6)):=⟨rfl,rfl,rfl,by decide +kernel,rfl,by decide +kernel,by decide +kernel⟩
theorem zhS(L:Laid K mg "sides_of" (top 6) ["bed","kind"])(b_len:mg "len"=none):zba P w K mg base 1 "sides_of" 2 zbH :=
 zbB (k:=0) L zhN fun f cdv A outer s H E hr=>JSs.out (zag (JS.mk (zaH (i:=2) nd_2 rfl (by first | exact Or.inl rfl | exact Or.inr rfl) (zao (zaG hr) (zao (zaG hr) (zab 0) (zaf)) (zaf)))) (zag (zfx (zl7 zmz zow (zaf) (zab 1) (zaI zbx rfl b_len zeb (zaa (zab 2) (zai)))) (zam (JS.mk (za9 (zdJ (zao (zaG hr) (zab 2) (zab 1)) (zg1 (zaf)) (zg2))))) (zbL)) (zam (JS.mk (za9 (zbk (JA.out (zal (zdU) (zal (zdU) (zal (zdU) (zal (zdU) (zcD))))))))))))
theorem zdD:FnScope ["standing","kinds","x","y","kind"] ["standing"] (zaq (top 7)):=⟨rfl,rfl,rfl,by decide +kernel,rfl,by decide +kernel,by decide +kernel⟩
theorem zdF(L:Laid K mg "kinds_by_place" (top 7) ["standing"]):zba P w K mg base 1 "kinds_by_place" 1 zbd :=
 zbB (k:=0) L zdD fun f cdv A outer s H E hr=>JSs.out (zag (JS.mk (zaH (i:=1) nd_3 rfl (by first | exact Or.inl rfl | exact Or.inr rfl) (ziH))) (zag (zc6 PassesOwn.never rfl (zcd (zab 0)) (zgr rfl (zbb (zaD (i:=2) nd_3 rfl (by first | exact Or.inl rfl | exact Or.inr rfl)) (zbb (zaD (i:=3) nd_3 rfl (by first | exact Or.inl rfl | exact Or.inr rfl)) (zbb (zaD (i:=4) nd_3 rfl (by first | exact Or.inl rfl | exact Or.inr rfl)) (zdT))))) (zam (JS.mk (zeQ (zaG hr) (zab 1) (zbk (zaa (zab 2) (zaa (zab 3) (zai)))) (zab 4))))) (zam (JS.mk (za9 (zab 1))))))
theorem zek:FnScope ["bed","standing_kinds","place","names","side","near"] ["bed","standing_kinds","place"] (zaq (top 8)):=⟨rfl,rfl,rfl,by decide +kernel,rfl,by decide +kernel,by decide +kernel⟩
theorem zem(L:Laid K mg "names_facing" (top 8) ["bed","standing_kinds","place"])(b_enumerate:mg "enumerate"=none)(h_places_around:zba P w K mg base 1 "places_around" 1 zay)(h_sides_of:zba P w K mg base 1 "sides_of" 2 zbH):zba P w K mg base 2 "names_facing" 3 zbA :=
 zbB (k:=1) L zek fun f cdv A outer s H E hr=>JSs.out (zag (JS.mk (zaH (i:=3) nd_4 rfl (by first | exact Or.inl rfl | exact Or.inr rfl) (zb7 (zai)))) (zag (zc6 PassesOwn.never rfl (zn0 rfl b_enumerate (zaj h_places_around (hr.mono (by decide)) rfl (zaa (zab 2) (zai)) (zak.cons zak.nil))) (zgr rfl (zbb (zaD (i:=4) nd_4 rfl (by first | exact Or.inl rfl | exact Or.inr rfl)) (zbb (zaD (i:=5) nd_4 rfl (by first | exact Or.inl rfl | exact Or.inr rfl)) (zdT)))) (zam (zfx (ziL (zbt hr) (zab 5) (zab 1)) (zam (JS.mk (zcE (zbX (zab 3) (zaa (zao (zaG hr) (zaj h_sides_of (hr.mono (by decide)) rfl (zaa (zab 0) (zaa (zao (zaG hr) (zab 1) (zab 5)) (zai))) (zak.cons (zak.cons zak.nil))) (zat zcj (zat zaL (zab 4) (zaf)) (zaf))) (zai)))))) (zam (JS.mk (zcE (zbX (zab 3) (zaa (zdU) (zai))))))))) (zam (JS.mk (za9 (zab 3))))))
theorem zcJ:FnScope ["strengths","sides","names"] ["strengths","sides","names"] (zaq (top 9)):=⟨rfl,rfl,rfl,by decide +kernel,rfl,by decide +kernel,by decide +kernel⟩
theorem zcM(L:Laid K mg "strength_together" (top 9) ["strengths","sides","names"])(b_zip:mg "zip"=none)(b_sum:mg "sum"=none):zba P w K mg base 1 "strength_together" 3 zaP :=
 zbB (k:=0) L zcJ fun f cdv A outer s H E hr=>JSs.out (zam (JS.mk (za9 (zaI (zhw rfl) rfl b_sum zpl (zaa (zc1 rfl rfl (zbK (N':=["side","name","strengths"]) (nt:=2) (fr:=[0]) ["strengths"] rfl (by decide +kernel) (by decide +kernel) (by decide +kernel) rfl ⟨⟨rfl,by decide⟩,trivial⟩ ⟨by first | exact Or.inl rfl | exact Or.inr rfl,trivial⟩) (zp6 rfl b_zip (zab 1) (zab 2)) (fun C s0 H0 fp=>zgr rfl (zbb (zaD (i:=0) nd_5 rfl (by first | exact Or.inl rfl | exact Or.inr rfl)) (zbb (zaD (i:=1) nd_5 rfl (by first | exact Or.inl rfl | exact Or.inr rfl)) (zdT)))) (fun C s0 H0 fp=>zl5 (SW.sb (zgo (zbN (zfN (zbt hr)) (zab 0) (zab 1) rfl) (zer (zbN (zi1 (zbt hr)) (zab 0) (zdU) rfl))))) (fun C s0 H0 fp=>zao (zaG hr) (zab 2) (zab 0))) (zai))))))
theorem zfH:FnScope ["bed","strengths","standing_kinds","tile","place","names"] ["bed","strengths","standing_kinds","tile"] (zaq (top 10)):=⟨rfl,rfl,rfl,by decide +kernel,rfl,by decide +kernel,by decide +kernel⟩
theorem zfT(L:Laid K mg "is_growing" (top 10) ["bed","strengths","standing_kinds","tile"])(h_is_place:zba P w K mg base 2 "is_place" 2 zcr)(h_names_facing:zba P w K mg base 2 "names_facing" 3 zbA)(h_sides_of:zba P w K mg base 1 "sides_of" 2 zbH)(h_strength_together:zba P w K mg base 1 "strength_together" 3 zaP):zba P w K mg base 3 "is_growing" 4 za2 :=
 zbB (k:=2) L zfH fun f cdv A outer s H E hr=>JSs.out (zag (JS.mk (zaH (i:=4) nd_6 rfl (by first | exact Or.inl rfl | exact Or.inr rfl) (zdJ (zab 3) (zg2) (zg1 (zaf))))) (zag (zfx (SW.sb (zrB (ziL (zbt hr) (zab 4) (zab 2)) (znL (zqg (zrC (zaj h_is_place (hr.mono (by decide)) rfl (zaa (zab 0) (zaa (zab 4) (zai))) (zak.cons (zak.cons zak.nil)))))))) (zam (JS.mk (za9 (zl3)))) (zbL)) (zag (JS.mk (zaH (i:=5) nd_6 rfl (by first | exact Or.inl rfl | exact Or.inr rfl) (zaj h_names_facing (hr.mono (by decide)) rfl (zaa (zab 0) (zaa (zab 2) (zaa (zab 4) (zai)))) (zak.cons (zak.cons (zak.cons zak.nil)))))) (zam (JS.mk (za9 (zl1 zkA (zaj h_strength_together (hr.mono (by decide)) rfl (zaa (zab 1) (zaa (zaj h_sides_of (hr.mono (by decide)) rfl (zaa (zab 0) (zaa (zao (zaG hr) (zab 3) (zaf)) (zai))) (zak.cons (zak.cons zak.nil))) (zaa (zab 5) (zai)))) (zak.cons (zak.cons (zak.cons zak.nil)))) (zao (zaG hr) (zao (zaG hr) (zab 0) (zaf)) (zaf)) rfl)))))))
theorem zgs:FnScope ["bed","tiles","strengths","standing_kinds","kinds","row","asked","place","tile"] ["bed","tiles"] (zaq (top 12)):=⟨rfl,rfl,rfl,by decide +kernel,rfl,by decide +kernel,by decide +kernel⟩
theorem zgD(L:Laid K mg "row_among" (top 12) ["bed","tiles"])(b_dict:mg "dict"=none)(b_list:mg "list"=none)(b_tuple:mg "tuple"=none)(h_kinds_by_place:zba P w K mg base 1 "kinds_by_place" 1 zbd)(h_is_growing:zba P w K mg base 3 "is_growing" 4 za2)(h_places_around:zba P w K mg base 1 "places_around" 1 zay):zba P w K mg base 4 "row_among" 2 zcA :=
 zbB (k:=3) L zgs fun f cdv A outer s H E hr=>JSs.out (zag (JS.mk (zaH (i:=2) nd_7 rfl (by first | exact Or.inl rfl | exact Or.inr rfl) (zbr (zeK rfl) rfl b_dict zjQ (zaa (zao (zaG hr) (zao (zaG hr) (zab 0) (zaf)) (zaf)) (zai))))) (zag (JS.mk (zaH (i:=3) nd_7 rfl (by first | exact Or.inl rfl | exact Or.inr rfl) (zaj h_kinds_by_place (hr.mono (by decide)) rfl (zaa (zao (zaG hr) (zab 0) (zaf)) (zai)) (zak.cons zak.nil)))) (zag (JS.mk (zaH (i:=4) nd_7 rfl (by first | exact Or.inl rfl | exact Or.inr rfl) (zaj h_kinds_by_place (hr.mono (by decide)) rfl (zaa (zab 1) (zai)) (zak.cons zak.nil)))) (zag (JS.mk (zaH (i:=5) nd_7 rfl (by first | exact Or.inl rfl | exact Or.inr rfl) (zb7 (zai)))) (zag (JS.mk (zaH (i:=6) nd_7 rfl (by first | exact Or.inl rfl | exact Or.inr rfl) (zbr (zjM rfl) rfl b_list zpm (zaa (zab 4) (zai))))) (zag (zjk PassesOwn.never (zn9 (zab 6)) (zag (JS.mk (zaH (i:=7) nd_7 rfl (by first | exact Or.inl rfl | exact Or.inr rfl) (zn5 (zab 6)))) (zag (JS.mk (zaH (i:=8) nd_7 rfl (by first | exact Or.inl rfl | exact Or.inr rfl) (zbk (zaa (zao (zaG hr) (zab 7) (zaf)) (zaa (zao (zaG hr) (zab 7) (zaf)) (zaa (zao (zaG hr) (zab 4) (zab 7)) (zai))))))) (zam (zfx (zrC (zaj h_is_growing (hr.mono (by decide)) rfl (JA.out (zal (zab 0) (zal (zab 2) (zal (zab 3) (zal (zab 8) (zcD)))))) (zak.cons (zak.cons (zak.cons (zak.cons zak.nil)))))) (zag (JS.mk (zcE (zbX (zab 5) (zaa (zab 8) (zai))))) (zag (JS.mk (zeQ (zaG hr) (zab 3) (zab 7) (zao (zaG hr) (zab 4) (zab 7)))) (zam (JS.mk (zcE (zkk (zab 6) (zaa (zc1 rfl rfl (zbK (N':=["near","kinds"]) (nt:=1) (fr:=[4]) ["kinds"] rfl (by decide +kernel) (by decide +kernel) (by decide +kernel) rfl ⟨⟨rfl,by decide⟩,trivial⟩ ⟨by first | exact Or.inl rfl | exact Or.inr rfl,trivial⟩) (zcd (zaj h_places_around (hr.mono (by decide)) rfl (zaa (zab 7) (zai)) (zak.cons zak.nil))) (fun C s0 H0 fp=>zaD (i:=0) nd_8 rfl (by first | exact Or.inl rfl | exact Or.inr rfl)) (fun C s0 H0 fp=>zl5 (ziL (zbt hr) (zab 0) (zab 1))) (fun C s0 H0 fp=>zab 0)) (zai)))))))) (zbL)))))) (zam (JS.mk (za9 (zbr zbC rfl b_tuple zcp (zaa (zab 5) (zai))))))))))))
theorem zl4:FnScope ["bed","standing"] ["bed","standing"] (zaq (top 14)):=⟨rfl,rfl,rfl,by decide +kernel,rfl,by decide +kernel,by decide +kernel⟩
theorem zmC(L:Laid K mg "sound" (top 14) ["bed","standing"])(b_sorted:mg "sorted"=none)(b_tuple:mg "tuple"=none)(h_row_among:zba P w K mg base 4 "row_among" 2 zcA):zba P w K mg base 5 "sound" 2 zdd :=
 zbB (k:=4) L zl4 fun f cdv A outer s H E hr=>JSs.out (zam (JS.mk (za9 (zbr zbC rfl b_tuple zcp (zaa (zaI zea rfl b_sorted zda (zaa (zat zoA (zao (zaG hr) (zab 0) (zaf)) (zaj h_row_among (hr.mono (by decide)) rfl (zaa (zab 0) (zaa (zab 1) (zai))) (zak.cons (zak.cons zak.nil)))) (zai))) (zai))))))
theorem ze0:FnScope ["_law_script","_law_k","_law_cell","_law_far","_law_own"] ["_law_script","_law_k"] (zaq (top 16)):=⟨rfl,rfl,rfl,by decide +kernel,rfl,by decide +kernel,by decide +kernel⟩
theorem zff(L:Laid K mg "_law_begin" (top 16) ["_law_script","_law_k"])(b_len:mg "len"=none)(b_int:mg "int"=none):zba P w K mg base 1 "_law_begin" 2 zb3 :=
 zbB (k:=0) L ze0 fun f cdv A outer s H E hr=>JSs.out (zag (JS.mk (zaH (i:=2) nd_9 rfl (by first | exact Or.inl rfl | exact Or.inr rfl) (zqe (zbN zow (zab 1) (zaI zbx rfl b_len zeb (zaa (zab 0) (zai))) rfl) (zao (zaG hr) (zab 0) (zab 1)) (zaf)))) (zag (JS.mk (zaH (i:=3) nd_9 rfl (by first | exact Or.inl rfl | exact Or.inr rfl) (zat zfM (zat zfM (zat zfM (zat zfM (zat zeB (zaf) (zaf)) (zat zeB (zaf) (zaf))) (zat zeB (zaf) (zaf))) (zat zeB (zaf) (zaf))) (zat zeB (zaf) (zaf))))) (zag (JS.mk (zaH (i:=4) nd_9 rfl (by first | exact Or.inl rfl | exact Or.inr rfl) (zat zfM (zat zcj (zab 2) (zab 3)) (zbr zk6 rfl b_int zpn (zaa (zl1 zkA (zab 2) (zat zeB (zaf) (zaf)) rfl) (zai)))))) (zam (JS.mk (za9 (zb7 (zaa (zab 4) (zaa (zat zcj (zat zaL (zat zcj (zab 2) (zaf)) (zat zcm (zaf) (zab 1))) (zaf)) (zaa (zaf) (zai)))))))))))
theorem zfG:FnScope ["_law_pot","_law_many","_law_digit","_law_mixed"] ["_law_pot","_law_many"] (zaq (top 17)):=⟨rfl,rfl,rfl,by decide +kernel,rfl,by decide +kernel,by decide +kernel⟩
theorem zfS(L:Laid K mg "_law_draw" (top 17) ["_law_pot","_law_many"]):zba P w K mg base 1 "_law_draw" 2 zac :=
 zbB (k:=0) L zfG fun f cdv A outer s H E hr=>JSs.out (zag (zfx (zbN zoy (zao (zaG hr) (zab 0) (zaf)) (zaf) rfl) (zag (JS.mk (zaH (i:=2) zqX rfl (by first | exact Or.inl rfl | exact Or.inr rfl) (zat zcj (zao (zaG hr) (zab 0) (zaf)) (zab 1)))) (zag (JS.mk (zeQ (zaG hr) (zab 0) (zaf) (zat zgC (zao (zaG hr) (zab 0) (zaf)) (zab 1)))) (zam (JS.mk (za9 (zab 2)))))) (zbL)) (zag (JS.mk (zeQ (zaG hr) (zab 0) (zaf) (zat zaL (zao (zaG hr) (zab 0) (zaf)) (zaf)))) (zag (JS.mk (zaH (i:=3) zqX rfl (by first | exact Or.inl rfl | exact Or.inr rfl) (zat zcj (zat zcm (zat zaL (zat zaL (zao (zaG hr) (zab 0) (zaf)) (zat zcm (zat zcm (zaf) (zao (zaG hr) (zab 0) (zaf))) (zao (zaG hr) (zab 0) (zaf)))) (zat zcm (zaf) (zao (zaG hr) (zab 0) (zaf)))) (zaf)) (zaf)))) (zag (JS.mk (zaH (i:=3) zqX rfl (by first | exact Or.inl rfl | exact Or.inr rfl) (zat zcj (zat zcm (zab 3) (zat zaL (zat zcj (zab 3) (zaf)) (zat zcm (zaf) (zao (zaG hr) (zab 0) (zaf))))) (zaf)))) (zam (JS.mk (za9 (zat zcj (zat zaL (zat zgC (zab 3) (zaf)) (zat zgC (zab 3) (zaf))) (zab 1)))))))))
theorem zeW:FnScope ["_law_pot","_law_many","_law_letters","_law_first","_law_step_here"] ["_law_pot","_law_many"] (zaq (top 18)):=⟨rfl,rfl,rfl,by decide +kernel,rfl,by decide +kernel,by decide +kernel⟩
theorem zfb(L:Laid K mg "_law_names" (top 18) ["_law_pot","_law_many"])(b_range:mg "range"=none)(b_sorted:mg "sorted"=none)(h_q_law_draw:zba P w K mg base 1 "_law_draw" 2 zac):zba P w K mg base 2 "_law_names" 2 zb1 :=
 zbB (k:=1) L zeW fun f cdv A outer s H E hr=>JSs.out (zag (JS.mk (zaH (i:=2) zqW rfl (by first | exact Or.inl rfl | exact Or.inr rfl) (zdU))) (zag (JS.mk (zlS (zbk (zaa (zaj h_q_law_draw (hr.mono (by decide)) rfl (zaa (zab 0) (zaa (zaf) (zai))) (zak.cons (zak.cons zak.nil))) (zaa (zao (zaG hr) (zb7 (JA.out (zal (zaf) (zal (zaf) (zal (zaf) (zal (zaf) (zal (zaf) (zal (zaf) (zcD))))))))) (zaj h_q_law_draw (hr.mono (by decide)) rfl (zaa (zab 0) (zaa (zaf) (zai))) (zak.cons (zak.cons zak.nil)))) (zai)))) (zgr rfl (zbb (zaD (i:=3) zqW rfl (by first | exact Or.inl rfl | exact Or.inr rfl)) (zbb (zaD (i:=4) zqW rfl (by first | exact Or.inl rfl | exact Or.inr rfl)) (zdT)))))) (zag (zfx (zbN (zfN (zbt hr)) (zaj h_q_law_draw (hr.mono (by decide)) rfl (zaa (zab 0) (zaa (zaf) (zai))) (zak.cons (zak.cons zak.nil))) (zaf) rfl) (zam (JS.mk (za9 (zc1 rfl rfl (zbK (N':=["_law_k","_law_letters","_law_first"]) (nt:=1) (fr:=[2,3]) ["_law_letters","_law_first"] rfl (by decide +kernel) (by decide +kernel) (by decide +kernel) rfl ⟨⟨rfl,by decide⟩,⟨⟨rfl,by decide⟩,trivial⟩⟩ ⟨by first | exact Or.inl rfl | exact Or.inr rfl,⟨by first | exact Or.inl rfl | exact Or.inr rfl,trivial⟩⟩) (zbe rfl b_range (zab 1)) (fun C s0 H0 fp=>zaD (i:=0) zsz rfl (by first | exact Or.inl rfl | exact Or.inr rfl)) (fun C s0 H0 fp=>ze1) (fun C s0 H0 fp=>zat zcm (zao (zaG hr) (zab 1) (zab 2)) (zat zaL (zab 0) (zaf))))))) (zbL)) (zam (JS.mk (za9 (zaI zcP rfl b_sorted zda (zaa (zc1 rfl rfl (zbK (N':=["_law_k","_law_letters","_law_first","_law_step_here"]) (nt:=1) (fr:=[2,3,4]) ["_law_letters","_law_first","_law_step_here"] rfl (by decide +kernel) (by decide +kernel) (by decide +kernel) rfl ⟨⟨rfl,by decide⟩,⟨⟨rfl,by decide⟩,⟨⟨rfl,by decide⟩,trivial⟩⟩⟩ ⟨by first | exact Or.inl rfl | exact Or.inr rfl,⟨by first | exact Or.inl rfl | exact Or.inr rfl,⟨by first | exact Or.inl rfl | exact Or.inr rfl,trivial⟩⟩⟩) (zbe rfl b_range (zab 1)) (fun C s0 H0 fp=>zaD (i:=0) zsy rfl (by first | exact Or.inl rfl | exact Or.inr rfl)) (fun C s0 H0 fp=>ze1) (fun C s0 H0 fp=>zat zcm (zao (zaG hr) (zab 1) (zat zcj (zat zaL (zab 2) (zat zcm (zab 3) (zab 0))) (zaf))) (zat zaL (zaf) (zat zcj (zat zaL (zat zcm (zab 0) (zab 0)) (zab 2)) (zaf))))) (zai)))))))))
theorem zfF:FnScope ["_law_pot","_law_names_here","_law_face","_law_sides_here"] ["_law_pot","_law_names_here"] (zaq (top 19)):=⟨rfl,rfl,rfl,by decide +kernel,rfl,by decide +kernel,by decide +kernel⟩
theorem zfR(L:Laid K mg "_law_kind" (top 19) ["_law_pot","_law_names_here"])(b_range:mg "range"=none)(b_len:mg "len"=none)(h_q_law_draw:zba P w K mg base 1 "_law_draw" 2 zac):zba P w K mg base 2 "_law_kind" 2 zcg :=
 zbB (k:=1) L zfF fun f cdv A outer s H E hr=>JSs.out (zag (JS.mk (zaH (i:=2) zrJ rfl (by first | exact Or.inl rfl | exact Or.inr rfl) (zao (zaG hr) (zb7 (zaa (zdU) (zaa (zao (zaG hr) (zdU) (zaj h_q_law_draw (hr.mono (by decide)) rfl (zaa (zab 0) (zaa (zaf) (zai))) (zak.cons (zak.cons zak.nil)))) (zai)))) (zaj h_q_law_draw (hr.mono (by decide)) rfl (zaa (zab 0) (zaa (zaf) (zai))) (zak.cons (zak.cons zak.nil)))))) (zag (JS.mk (zdi (i:=3) rfl rfl (zbK (N':=["_law_side","_law_names_here","_law_pot"]) (nt:=1) (fr:=[1,0]) ["_law_names_here","_law_pot"] rfl (by decide +kernel) (by decide +kernel) (by decide +kernel) rfl ⟨⟨rfl,by decide⟩,⟨⟨rfl,by decide⟩,trivial⟩⟩ ⟨by first | exact Or.inl rfl | exact Or.inr rfl,⟨by first | exact Or.inl rfl | exact Or.inr rfl,trivial⟩⟩) (zbe rfl b_range (zaf)) (fun C s0 H0 fp=>zaD (i:=0) zsx rfl (by first | exact Or.inl rfl | exact Or.inr rfl)) (fun C s0 H0 fp=>ze1) (fun C s0 H0 fp=>zao (zaG hr) (zat zaL (zb7 (zaa (zdU) (zai))) (zab 1)) (zaj h_q_law_draw (hr.mono (by decide)) rfl (zaa (zab 2) (zaa (zat zaL (zaI zbx rfl b_len zeb (zaa (zab 1) (zai))) (zaf)) (zai))) (zak.cons (zak.cons zak.nil)))) zrJ rfl rfl)) (zam (JS.mk (za9 (zbk (JA.out (zal (zab 2) (zal (zao (zaG hr) (zab 3) (zaf)) (zal (zao (zaG hr) (zab 3) (zaf)) (zal (zao (zaG hr) (zab 3) (zaf)) (zal (zao (zaG hr) (zab 3) (zaf)) (zcD)))))))))))))
theorem zeY:FnScope ["_law_pot","_law_names_here","_law_enough","_law_sticks","_law_kinds"] ["_law_pot"] (zaq (top 20)):=⟨rfl,rfl,rfl,by decide +kernel,rfl,by decide +kernel,by decide +kernel⟩
theorem zfd(L:Laid K mg "_law_house" (top 20) ["_law_pot"])(b_tuple:mg "tuple"=none)(b_range:mg "range"=none)(b_len:mg "len"=none)(h_q_law_draw:zba P w K mg base 1 "_law_draw" 2 zac)(h_q_law_names:zba P w K mg base 2 "_law_names" 2 zb1)(h_q_law_kind:zba P w K mg base 2 "_law_kind" 2 zcg):zba P w K mg base 3 "_law_house" 1 zb2 :=
 zbB (k:=2) L zeY fun f cdv A outer s H E hr=>JSs.out (zag (JS.mk (zaH (i:=1) zpC rfl (by first | exact Or.inl rfl | exact Or.inr rfl) (zaj h_q_law_names (hr.mono (by decide)) rfl (zaa (zab 0) (zaa (zat zaL (zaf) (zaj h_q_law_draw (hr.mono (by decide)) rfl (zaa (zab 0) (zaa (zaf) (zai))) (zak.cons (zak.cons zak.nil)))) (zai))) (zak.cons (zak.cons zak.nil))))) (zag (JS.mk (zaH (i:=2) zpC rfl (by first | exact Or.inl rfl | exact Or.inr rfl) (zao (zaG hr) (zb7 (JA.out (zal (zaf) (zal (zaf) (zal (zaf) (zal (zaf) (zal (zaf) (zal (zaf) (zal (zaf) (zal (zaf) (zcD))))))))))) (zaj h_q_law_draw (hr.mono (by decide)) rfl (zaa (zab 0) (zaa (zaf) (zai))) (zak.cons (zak.cons zak.nil)))))) (zag (JS.mk (zaH (i:=3) zpC rfl (by first | exact Or.inl rfl | exact Or.inr rfl) (zbr zbC rfl b_tuple zcp (zaa (zc1 rfl rfl (zbK (N':=["_law_name","_law_pot"]) (nt:=1) (fr:=[0]) ["_law_pot"] rfl (by decide +kernel) (by decide +kernel) (by decide +kernel) rfl ⟨⟨rfl,by decide⟩,trivial⟩ ⟨by first | exact Or.inl rfl | exact Or.inr rfl,trivial⟩) (zcd (zab 1)) (fun C s0 H0 fp=>zaD (i:=0) zsw rfl (by first | exact Or.inl rfl | exact Or.inr rfl)) (fun C s0 H0 fp=>ze1) (fun C s0 H0 fp=>zbk (zaa (zab 0) (zaa (zao (zaG hr) (zb7 (JA.out (zal (zaf) (zal (zaf) (zal (zaf) (zal (zat zaL (zaf) (zaj h_q_law_draw (hr.mono (by decide)) rfl (zaa (zab 1) (zaa (zaf) (zai))) (zak.cons (zak.cons zak.nil)))) (zcD))))))) (zaj h_q_law_draw (hr.mono (by decide)) rfl (zaa (zab 1) (zaa (zaf) (zai))) (zak.cons (zak.cons zak.nil)))) (zai))))) (zai))))) (zag (JS.mk (zdi (i:=4) rfl rfl (zbK (N':=["_law_k","_law_pot","_law_names_here"]) (nt:=1) (fr:=[0,1]) ["_law_pot","_law_names_here"] rfl (by decide +kernel) (by decide +kernel) (by decide +kernel) rfl ⟨⟨rfl,by decide⟩,⟨⟨rfl,by decide⟩,trivial⟩⟩ ⟨by first | exact Or.inl rfl | exact Or.inr rfl,⟨by first | exact Or.inl rfl | exact Or.inr rfl,trivial⟩⟩) (zbe rfl b_range (zat zaL (zaf) (zaj h_q_law_draw (hr.mono (by decide)) rfl (zaa (zab 0) (zaa (zao (zaG hr) (zb7 (JA.out (zal (zaf) (zal (zaf) (zal (zaf) (zal (zaf) (zcD))))))) (zaj h_q_law_draw (hr.mono (by decide)) rfl (zaa (zab 0) (zaa (zaf) (zai))) (zak.cons (zak.cons zak.nil)))) (zai))) (zak.cons (zak.cons zak.nil))))) (fun C s0 H0 fp=>zaD (i:=0) zsv rfl (by first | exact Or.inl rfl | exact Or.inr rfl)) (fun C s0 H0 fp=>ze1) (fun C s0 H0 fp=>zaj h_q_law_kind (hr.mono (by decide)) rfl (zaa (zab 1) (zaa (zab 2) (zai))) (zak.cons (zak.cons zak.nil))) zpC rfl rfl)) (zag (zfx (zbN (zfN (zbt hr)) (zaj h_q_law_draw (hr.mono (by decide)) rfl (zaa (zab 0) (zaa (zaf) (zai))) (zak.cons (zak.cons zak.nil))) (zaf) rfl) (zam (JS.mk (zcE (zbX (zab 4) (zaa (zao (zaG hr) (zab 4) (zaj h_q_law_draw (hr.mono (by decide)) rfl (zaa (zab 0) (zaa (zaI zbx rfl b_len zeb (zaa (zab 4) (zai))) (zai))) (zak.cons (zak.cons zak.nil)))) (zai)))))) (zbL)) (zam (JS.mk (za9 (zbk (zaa (zab 2) (zaa (zab 3) (zaa (zbr zbC rfl b_tuple zcp (zaa (zab 4) (zai))) (zai)))))))))))))
theorem zdC:FnScope ["_law_pot","_law_house_here","_law_floor","_law_most","_law_there","_law_k","_law_place"] ["_law_pot","_law_house_here","_law_floor","_law_most"] (zaq (top 21)):=⟨rfl,rfl,rfl,by decide +kernel,rfl,by decide +kernel,by decide +kernel⟩
theorem zdE(L:Laid K mg "_law_standing" (top 21) ["_law_pot","_law_house_here","_law_floor","_law_most"])(b_range:mg "range"=none)(b_len:mg "len"=none)(b_sorted:mg "sorted"=none)(b_tuple:mg "tuple"=none)(h_q_law_draw:zba P w K mg base 1 "_law_draw" 2 zac):zba P w K mg base 2 "_law_standing" 4 zax :=
 zbB (k:=1) L zdC fun f cdv A outer s H E hr=>JSs.out (zag (JS.mk (zaH (i:=4) zqV rfl (by first | exact Or.inl rfl | exact Or.inr rfl) (ziH))) (zag (zc6 PassesOwn.never rfl (zbe rfl b_range (zaj h_q_law_draw (hr.mono (by decide)) rfl (zaa (zab 0) (zaa (zat zaL (zab 3) (zaf)) (zai))) (zak.cons (zak.cons zak.nil)))) (zaD (i:=5) zqV rfl (by first | exact Or.inl rfl | exact Or.inr rfl)) (zag (JS.mk (zaH (i:=6) zqV rfl (by first | exact Or.inl rfl | exact Or.inr rfl) (zbk (zaa (zaj h_q_law_draw (hr.mono (by decide)) rfl (zaa (zab 0) (zaa (zao (zaG hr) (zab 2) (zaf)) (zai))) (zak.cons (zak.cons zak.nil))) (zaa (zaj h_q_law_draw (hr.mono (by decide)) rfl (zaa (zab 0) (zaa (zao (zaG hr) (zab 2) (zaf)) (zai))) (zak.cons (zak.cons zak.nil))) (zai)))))) (zam (JS.mk (zeQ (zaG hr) (zab 4) (zab 6) (zaj h_q_law_draw (hr.mono (by decide)) rfl (zaa (zab 0) (zaa (zaI zbx rfl b_len zeb (zaa (zao (zaG hr) (zab 1) (zaf)) (zai))) (zai))) (zak.cons (zak.cons zak.nil)))))))) (zam (JS.mk (za9 (zbr zbC rfl b_tuple zcp (zaa (zaI zcP rfl b_sorted zda (zaa (zc1 rfl rfl (zbK (N':=["_law_place","_law_there"]) (nt:=1) (fr:=[4]) ["_law_there"] rfl (by decide +kernel) (by decide +kernel) (by decide +kernel) rfl ⟨⟨rfl,by decide⟩,trivial⟩ ⟨by first | exact Or.inl rfl | exact Or.inr rfl,trivial⟩) (zle (zab 4)) (fun C s0 H0 fp=>zaD (i:=0) zrI rfl (by first | exact Or.inl rfl | exact Or.inr rfl)) (fun C s0 H0 fp=>ze1) (fun C s0 H0 fp=>zat zaL (zab 0) (zbk (zaa (ziI (zaG hr) (zab 1) (zab 0)) (zai))))) (zai))) (zai))))))))
theorem zgu:FnScope ["_law_pot","_law_house_here","_law_floor"] ["_law_pot"] (zaq (top 22)):=⟨rfl,rfl,rfl,by decide +kernel,rfl,by decide +kernel,by decide +kernel⟩
theorem zgF(L:Laid K mg "_law_bed" (top 22) ["_law_pot"])(h_q_law_house:zba P w K mg base 3 "_law_house" 1 zb2)(h_q_law_draw:zba P w K mg base 1 "_law_draw" 2 zac)(h_q_law_standing:zba P w K mg base 2 "_law_standing" 4 zax):zba P w K mg base 4 "_law_bed" 1 zcB :=
 zbB (k:=3) L zgu fun f cdv A outer s H E hr=>JSs.out (zag (JS.mk (zaH (i:=1) zqU rfl (by first | exact Or.inl rfl | exact Or.inr rfl) (zaj h_q_law_house (hr.mono (by decide)) rfl (zaa (zab 0) (zai)) (zak.cons zak.nil)))) (zag (JS.mk (zaH (i:=2) zqU rfl (by first | exact Or.inl rfl | exact Or.inr rfl) (zbk (zaa (zat zaL (zaf) (zaj h_q_law_draw (hr.mono (by decide)) rfl (zaa (zab 0) (zaa (zaf) (zai))) (zak.cons (zak.cons zak.nil)))) (zaa (zat zaL (zaf) (zaj h_q_law_draw (hr.mono (by decide)) rfl (zaa (zab 0) (zaa (zao (zaG hr) (zb7 (JA.out (zal (zaf) (zal (zaf) (zal (zaf) (zal (zaf) (zcD))))))) (zaj h_q_law_draw (hr.mono (by decide)) rfl (zaa (zab 0) (zaa (zaf) (zai))) (zak.cons (zak.cons zak.nil)))) (zai))) (zak.cons (zak.cons zak.nil)))) (zai)))))) (zag (zfx (zbN (zfN (zbt hr)) (zaj h_q_law_draw (hr.mono (by decide)) rfl (zaa (zab 0) (zaa (zaf) (zai))) (zak.cons (zak.cons zak.nil))) (zaf) rfl) (zam (JS.mk (zaH (i:=2) zqU rfl (by first | exact Or.inl rfl | exact Or.inr rfl) (zn3 (zab 2) (zqd (zaf)))))) (zbL)) (zam (JS.mk (za9 (zbk (zaa (zab 1) (zaa (zab 2) (zaa (zaj h_q_law_standing (hr.mono (by decide)) rfl (JA.out (zal (zab 0) (zal (zab 1) (zal (zab 2) (zal (zao (zaG hr) (zb7 (zaa (zaf) (zaa (zaf) (zaa (zaf) (zai))))) (zaj h_q_law_draw (hr.mono (by decide)) rfl (zaa (zab 0) (zaa (zaf) (zai))) (zak.cons (zak.cons zak.nil)))) (zcD)))))) (zak.cons (zak.cons (zak.cons (zak.cons zak.nil))))) (zai)))))))))))
theorem zeX:FnScope ["_law_standing_here"] ["_law_standing_here"] (zaq (top 23)):=⟨rfl,rfl,rfl,by decide +kernel,rfl,by decide +kernel,by decide +kernel⟩
theorem zfc(L:Laid K mg "_law_lying" (top 23) ["_law_standing_here"])(b_dict:mg "dict"=none):zba P w K mg base 1 "_law_lying" 1 za0 :=
 zbB (k:=0) L zeX fun f cdv A outer s H E hr=>JSs.out (zam (JS.mk (za9 (zbr (zh6 rfl (zsf hr)) rfl b_dict zjQ (zaa (zc1 rfl rfl (zbK (N':=["_law_x","_law_y","_law_kind_here"]) (nt:=3) (fr:=[]) [] rfl (by decide +kernel) (by decide +kernel) (by decide +kernel) rfl trivial trivial) (zcd (zab 0)) (fun C s0 H0 fp=>zgr rfl (zbb (zaD (i:=0) zqT rfl (by first | exact Or.inl rfl | exact Or.inr rfl)) (zbb (zaD (i:=1) zqT rfl (by first | exact Or.inl rfl | exact Or.inr rfl)) (zbb (zaD (i:=2) zqT rfl (by first | exact Or.inl rfl | exact Or.inr rfl)) (zdT))))) (fun C s0 H0 fp=>ze1) (fun C s0 H0 fp=>zbk (zaa (zbk (zaa (zab 0) (zaa (zab 1) (zai)))) (zaa (zab 2) (zai))))) (zai))))))
theorem zcK:FnScope ["_law_there"] ["_law_there"] (zaq (top 24)):=⟨rfl,rfl,rfl,by decide +kernel,rfl,by decide +kernel,by decide +kernel⟩
theorem zcN(L:Laid K mg "_law_standing_of" (top 24) ["_law_there"])(b_sorted:mg "sorted"=none)(b_tuple:mg "tuple"=none):zba P w K mg base 1 "_law_standing_of" 1 zaB :=
 zbB (k:=0) L zcK fun f cdv A outer s H E hr=>JSs.out (zam (JS.mk (za9 (zbr zbC rfl b_tuple zcp (zaa (zaI zea rfl b_sorted zda (zaa (zn2 (zc1 rfl rfl (zbK (N':=["_law_place","_law_there"]) (nt:=1) (fr:=[0]) ["_law_there"] rfl (by decide +kernel) (by decide +kernel) (by decide +kernel) rfl ⟨⟨rfl,by decide⟩,trivial⟩ ⟨by first | exact Or.inl rfl | exact Or.inr rfl,trivial⟩) (zle (zab 0)) (fun C s0 H0 fp=>zaD (i:=0) zrI rfl (by first | exact Or.inl rfl | exact Or.inr rfl)) (fun C s0 H0 fp=>ze1) (fun C s0 H0 fp=>zat zaL (zab 0) (zbk (zaa (ziI (zaG hr) (zab 1) (zab 0)) (zai)))))) (zai))) (zai))))))
theorem zfE:FnScope ["_law_place","_law_side","_law_x","_law_y"] ["_law_place","_law_side"] (zaq (top 25)):=⟨rfl,rfl,rfl,by decide +kernel,rfl,by decide +kernel,by decide +kernel⟩
theorem zfQ(L:Laid K mg "_law_step" (top 25) ["_law_place","_law_side"]):zba P w K mg base 1 "_law_step" 2 zaN :=
 zbB (k:=0) L zfE fun f cdv A outer s H E hr=>JSs.out (zag (JS.mk (zlS (zab 0) (zgr rfl (zbb (zaD (i:=2) zrH rfl (by first | exact Or.inl rfl | exact Or.inr rfl)) (zbb (zaD (i:=3) zrH rfl (by first | exact Or.inl rfl | exact Or.inr rfl)) (zdT)))))) (zam (JS.mk (za9 (zao (zaG hr) (zb7 (JA.out (zal (zbk (zaa (zab 2) (zaa (zat zaL (zab 3) (zaf)) (zai)))) (zal (zbk (zaa (zat zaL (zab 2) (zaf)) (zaa (zab 3) (zai)))) (zal (zbk (zaa (zab 2) (zaa (zat zeA (zab 3) (zaf)) (zai)))) (zal (zbk (zaa (zat zeA (zab 2) (zaf)) (zaa (zab 3) (zai)))) (zcD))))))) (zab 1))))))
theorem zeV:FnScope ["_law_bed_here","_law_there","_law_place","_law_kind_here","_law_kinds","_law_found","_law_side","_law_other","_law_mine"] ["_law_bed_here","_law_there","_law_place","_law_kind_here"] (zaq (top 26)):=⟨rfl,rfl,rfl,by decide +kernel,rfl,by decide +kernel,by decide +kernel⟩
theorem zfa(L:Laid K mg "_law_sides" (top 26) ["_law_bed_here","_law_there","_law_place","_law_kind_here"])(b_range:mg "range"=none)(h_q_law_step:zba P w K mg base 1 "_law_step" 2 zaN):zba P w K mg base 2 "_law_sides" 4 zb0 :=
 zbB (k:=1) L zeV fun f cdv A outer s H E hr=>JSs.out (zag (JS.mk (znS (i:=4) (j:=5) rfl zpB rfl rfl (by decide) rfl rfl (zaa (zao (zaG hr) (zao (zaG hr) (zab 0) (zaf)) (zaf)) (zaa (zb7 (zai)) (zai))))) (zag (zc6 PassesOwn.never rfl (zbe rfl b_range (zaf)) (zaD (i:=6) zpB rfl (by first | exact Or.inl rfl | exact Or.inr rfl)) (zag (JS.mk (zaH (i:=7) zpB rfl (by first | exact Or.inl rfl | exact Or.inr rfl) (zn6 (zaG hr) (zab 1) (zaj h_q_law_step (hr.mono (by decide)) rfl (zaa (zab 2) (zaa (zab 6) (zai))) (zak.cons (zak.cons zak.nil)))))) (zag (JS.mk (zaH (i:=8) zpB rfl (by first | exact Or.inl rfl | exact Or.inr rfl) (zao (zaG hr) (zao (zaG hr) (zab 4) (zab 3)) (zat zaL (zab 6) (zaf))))) (zam (zfx (SW.sb (zgo (zbN zmw (zab 7) (zqc) rfl) (zgo (zbN (zi1 (zbt hr)) (zab 8) (zdU) rfl) (zer (zbN (zfN (zbt hr)) (zao (zaG hr) (zao (zaG hr) (zab 4) (zab 7)) (zat zaL (zat zcj (zat zaL (zab 6) (zaf)) (zaf)) (zaf))) (zab 8) rfl))))) (zam (JS.mk (zcE (zbX (zab 5) (zaa (zab 6) (zai)))))) (zbL)))))) (zam (JS.mk (za9 (zab 5))))))
theorem zhO:FnScope ["_law_bed_here","_law_there","_law_place","_law_kind_here","_law_sides_here","_law_strengths"] ["_law_bed_here","_law_there","_law_place","_law_kind_here"] (zaq (top 27)):=⟨rfl,rfl,rfl,by decide +kernel,rfl,by decide +kernel,by decide +kernel⟩
theorem zhT(L:Laid K mg "_law_by" (top 27) ["_law_bed_here","_law_there","_law_place","_law_kind_here"])(b_dict:mg "dict"=none)(b_sum:mg "sum"=none)(h_q_law_sides:zba P w K mg base 2 "_law_sides" 4 zb0):zba P w K mg base 3 "_law_by" 4 zbc :=
 zbB (k:=2) L zhO fun f cdv A outer s H E hr=>JSs.out (zag (JS.mk (zaH (i:=4) zrG rfl (by first | exact Or.inl rfl | exact Or.inr rfl) (zaj h_q_law_sides (hr.mono (by decide)) rfl (JA.out (zal (zab 0) (zal (zab 1) (zal (zab 2) (zal (zab 3) (zcD)))))) (zak.cons (zak.cons (zak.cons (zak.cons zak.nil))))))) (zag (zfx (zbN (zfN (zbt hr)) (zab 4) (zb7 (zai)) rfl) (zam (JS.mk (za9 (zaf)))) (zbL)) (zag (JS.mk (zaH (i:=5) zrG rfl (by first | exact Or.inl rfl | exact Or.inr rfl) (zbr (zeK rfl) rfl b_dict zjQ (zaa (zao (zaG hr) (zao (zaG hr) (zab 0) (zaf)) (zaf)) (zai))))) (zam (JS.mk (za9 (zaI (zhw rfl) rfl b_sum zpl (zaa (zc1 rfl rfl (zbK (N':=["_law_side","_law_strengths","_law_bed_here","_law_kind_here"]) (nt:=1) (fr:=[5,0,3]) ["_law_strengths","_law_bed_here","_law_kind_here"] rfl (by decide +kernel) (by decide +kernel) (by decide +kernel) rfl ⟨⟨rfl,by decide⟩,⟨⟨rfl,by decide⟩,⟨⟨rfl,by decide⟩,trivial⟩⟩⟩ ⟨by first | exact Or.inl rfl | exact Or.inr rfl,⟨by first | exact Or.inl rfl | exact Or.inr rfl,⟨by first | exact Or.inl rfl | exact Or.inr rfl,trivial⟩⟩⟩) (zcd (zab 4)) (fun C s0 H0 fp=>zaD (i:=0) zsu rfl (by first | exact Or.inl rfl | exact Or.inr rfl)) (fun C s0 H0 fp=>ze1) (fun C s0 H0 fp=>zao (zaG hr) (zab 1) (zao (zaG hr) (zao (zaG hr) (zao (zaG hr) (zao (zaG hr) (zab 2) (zaf)) (zaf)) (zab 3)) (zat zaL (zab 0) (zaf))))) (zai)))))))))
theorem zeZ:FnScope ["_law_bed_here","_law_there","_law_found","_law_x","_law_y","_law_beside"] ["_law_bed_here","_law_there"] (zaq (top 28)):=⟨rfl,rfl,rfl,by decide +kernel,rfl,by decide +kernel,by decide +kernel⟩
theorem zfe(L:Laid K mg "_law_empty" (top 28) ["_law_bed_here","_law_there"])(b_range:mg "range"=none)(h_q_law_step:zba P w K mg base 1 "_law_step" 2 zaN):zba P w K mg base 2 "_law_empty" 2 zbJ :=
 zbB (k:=1) L zeZ fun f cdv A outer s H E hr=>JSs.out (zag (JS.mk (zaH (i:=2) zpA rfl (by first | exact Or.inl rfl | exact Or.inr rfl) (zb7 (zai)))) (zag (zc6 PassesOwn.never rfl (zbe rfl b_range (zao (zaG hr) (zao (zaG hr) (zab 0) (zaf)) (zaf))) (zaD (i:=3) zpA rfl (by first | exact Or.inl rfl | exact Or.inr rfl)) (zam (zc6 PassesOwn.never rfl (zbe rfl b_range (zao (zaG hr) (zao (zaG hr) (zab 0) (zaf)) (zaf))) (zaD (i:=4) zpA rfl (by first | exact Or.inl rfl | exact Or.inr rfl)) (zag (JS.mk (zdi (i:=5) rfl rfl (zbK (N':=["_law_side","_law_x","_law_y","_law_there"]) (nt:=1) (fr:=[3,4,1]) ["_law_x","_law_y","_law_there"] rfl (by decide +kernel) (by decide +kernel) (by decide +kernel) rfl ⟨⟨rfl,by decide⟩,⟨⟨rfl,by decide⟩,⟨⟨rfl,by decide⟩,trivial⟩⟩⟩ ⟨by first | exact Or.inl rfl | exact Or.inr rfl,⟨by first | exact Or.inl rfl | exact Or.inr rfl,⟨by first | exact Or.inl rfl | exact Or.inr rfl,trivial⟩⟩⟩) (zbe rfl b_range (zaf)) (fun C s0 H0 fp=>zaD (i:=0) zst rfl (by first | exact Or.inl rfl | exact Or.inr rfl)) (fun C s0 H0 fp=>zl5 (ziL (zbt hr) (zaj h_q_law_step (hr.mono (by decide)) rfl (zaa (zbk (zaa (zab 1) (zaa (zab 2) (zai)))) (zaa (zab 0) (zai))) (zak.cons (zak.cons zak.nil))) (zab 3))) (fun C s0 H0 fp=>zab 0) zpA rfl rfl)) (zam (zfx (SW.sb (zgo (zg4 (zbt hr) (zbk (zaa (zab 3) (zaa (zab 4) (zai)))) (zab 1)) (zer (zbN (zi1 (zbt hr)) (zab 5) (zb7 (zai)) rfl)))) (zam (JS.mk (zcE (zbX (zab 2) (zaa (zbk (zaa (zab 3) (zaa (zab 4) (zai)))) (zai)))))) (zbL))))))) (zam (JS.mk (za9 (zab 2))))))
theorem zgt:FnScope ["_law_bed_here","_law_there","_law_found","_law_place","_law_kind_here"] ["_law_bed_here","_law_there"] (zaq (top 29)):=⟨rfl,rfl,rfl,by decide +kernel,rfl,by decide +kernel,by decide +kernel⟩
theorem zgE(L:Laid K mg "_law_may" (top 29) ["_law_bed_here","_law_there"])(b_len:mg "len"=none)(b_range:mg "range"=none)(h_q_law_empty:zba P w K mg base 2 "_law_empty" 2 zbJ)(h_q_law_by:zba P w K mg base 3 "_law_by" 4 zbc):zba P w K mg base 4 "_law_may" 2 zbP :=
 zbB (k:=3) L zgt fun f cdv A outer s H E hr=>JSs.out (zag (JS.mk (zaH (i:=2) zqS rfl (by first | exact Or.inl rfl | exact Or.inr rfl) (zb7 (zai)))) (zag (zc6 PassesOwn.never rfl (zcd (zaj h_q_law_empty (hr.mono (by decide)) rfl (zaa (zab 0) (zaa (zab 1) (zai))) (zak.cons (zak.cons zak.nil)))) (zaD (i:=3) zqS rfl (by first | exact Or.inl rfl | exact Or.inr rfl)) (zam (zc6 PassesOwn.never rfl (zbe rfl b_range (zaI zbx rfl b_len zeb (zaa (zao (zaG hr) (zao (zaG hr) (zab 0) (zaf)) (zaf)) (zai)))) (zaD (i:=4) zqS rfl (by first | exact Or.inl rfl | exact Or.inr rfl)) (zam (zfx (zbN zkA (zaj h_q_law_by (hr.mono (by decide)) rfl (JA.out (zal (zab 0) (zal (zab 1) (zal (zab 3) (zal (zab 4) (zcD)))))) (zak.cons (zak.cons (zak.cons (zak.cons zak.nil))))) (zao (zaG hr) (zao (zaG hr) (zab 0) (zaf)) (zaf)) rfl) (zam (JS.mk (zcE (zbX (zab 2) (zaa (zat zaL (zab 3) (zbk (zaa (zab 4) (zai)))) (zai)))))) (zbL)))))) (zam (JS.mk (za9 (zab 2))))))
theorem zfD:FnScope ["_law_pot","_law_bed_here","_law_most","_law_there","_law_row","_law_k","_law_some","_law_tile"] ["_law_pot","_law_bed_here","_law_most"] (zaq (top 30)):=⟨rfl,rfl,rfl,by decide +kernel,rfl,by decide +kernel,by decide +kernel⟩
theorem zfP(L:Laid K mg "_law_walk" (top 30) ["_law_pot","_law_bed_here","_law_most"])(b_range:mg "range"=none)(b_len:mg "len"=none)(b_tuple:mg "tuple"=none)(h_q_law_lying:zba P w K mg base 1 "_law_lying" 1 za0)(h_q_law_may:zba P w K mg base 4 "_law_may" 2 zbP)(h_q_law_draw:zba P w K mg base 1 "_law_draw" 2 zac):zba P w K mg base 5 "_law_walk" 3 zbT :=
 zbB (k:=4) L zfD fun f cdv A outer s H E hr=>JSs.out (zag (JS.mk (znS (i:=3) (j:=4) rfl zpz rfl rfl (by decide) rfl rfl (zaa (zaj h_q_law_lying (hr.mono (by decide)) rfl (zaa (zao (zaG hr) (zab 1) (zaf)) (zai)) (zak.cons zak.nil)) (zaa (zb7 (zai)) (zai))))) (zag (zc6 PassesOwn.never rfl (zbe rfl b_range (zab 2)) (zaD (i:=5) zpz rfl (by first | exact Or.inl rfl | exact Or.inr rfl)) (zag (JS.mk (zaH (i:=6) zpz rfl (by first | exact Or.inl rfl | exact Or.inr rfl) (zaj h_q_law_may (hr.mono (by decide)) rfl (zaa (zab 1) (zaa (zab 3) (zai))) (zak.cons (zak.cons zak.nil))))) (zam (zfx (zbN (zi1 (zbt hr)) (zab 6) (zb7 (zai)) rfl) (zag (JS.mk (zaH (i:=7) zpz rfl (by first | exact Or.inl rfl | exact Or.inr rfl) (zao (zaG hr) (zab 6) (zaj h_q_law_draw (hr.mono (by decide)) rfl (zaa (zab 0) (zaa (zaI zbx rfl b_len zeb (zaa (zab 6) (zai))) (zai))) (zak.cons (zak.cons zak.nil)))))) (zag (JS.mk (zeQ (zaG hr) (zab 3) (zdJ (zab 7) (zg2) (zg1 (zaf))) (zao (zaG hr) (zab 7) (zaf)))) (zam (JS.mk (zcE (zbX (zab 4) (zaa (zab 7) (zai)))))))) (zbL))))) (zam (JS.mk (za9 (zbr zbC rfl b_tuple zcp (zaa (zab 4) (zai))))))))
theorem zeU:FnScope ["_law_bed_here","_law_standing_here","_law_there","_law_grows","_law_x","_law_y","_law_kind_here"] ["_law_bed_here","_law_standing_here"] (zaq (top 31)):=⟨rfl,rfl,rfl,by decide +kernel,rfl,by decide +kernel,by decide +kernel⟩
theorem ze9(L:Laid K mg "_law_sound" (top 31) ["_law_bed_here","_law_standing_here"])(h_q_law_lying:zba P w K mg base 1 "_law_lying" 1 za0)(h_q_law_by:zba P w K mg base 3 "_law_by" 4 zbc):zba P w K mg base 4 "_law_sound" 2 zbI :=
 zbB (k:=3) L zeU fun f cdv A outer s H E hr=>JSs.out (zag (JS.mk (zaH (i:=2) zmI rfl (by first | exact Or.inl rfl | exact Or.inr rfl) (zaj h_q_law_lying (hr.mono (by decide)) rfl (zaa (zao (zaG hr) (zab 0) (zaf)) (zai)) (zak.cons zak.nil)))) (zag (JS.mk (zaH (i:=3) zmI rfl (by first | exact Or.inl rfl | exact Or.inr rfl) (zl3))) (zag (zjk PassesOwn.never (zn9 (zab 3)) (zag (JS.mk (zaH (i:=3) zmI rfl (by first | exact Or.inl rfl | exact Or.inr rfl) (zl3))) (zam (zc6 PassesOwn.never rfl (zcd (zab 1)) (zgr rfl (zbb (zaD (i:=4) zmI rfl (by first | exact Or.inl rfl | exact Or.inr rfl)) (zbb (zaD (i:=5) zmI rfl (by first | exact Or.inl rfl | exact Or.inr rfl)) (zbb (zaD (i:=6) zmI rfl (by first | exact Or.inl rfl | exact Or.inr rfl)) (zdT))))) (zam (zfx (SW.sb (zgo (zg4 (zbt hr) (zbk (zaa (zab 4) (zaa (zab 5) (zai)))) (zab 2)) (zer (zbN zkA (zaj h_q_law_by (hr.mono (by decide)) rfl (JA.out (zal (zab 0) (zal (zab 2) (zal (zbk (zaa (zab 4) (zaa (zab 5) (zai)))) (zal (zab 6) (zcD)))))) (zak.cons (zak.cons (zak.cons (zak.cons zak.nil))))) (zao (zaG hr) (zao (zaG hr) (zab 0) (zaf)) (zaf)) rfl)))) (zag (JS.mk (zeQ (zaG hr) (zab 2) (zbk (zaa (zab 4) (zaa (zab 5) (zai)))) (zab 6))) (zam (JS.mk (zaH (i:=3) zmI rfl (by first | exact Or.inl rfl | exact Or.inr rfl) (zl3))))) (zbL))))))) (zam (JS.mk (za9 (zab 2)))))))
theorem zej:FnScope ["_law_pot","_law_bed_here","_law_there","_law_tile","_law_k","_law_places","_law_way","_law_place"] ["_law_pot","_law_bed_here"] (zaq (top 32)):=⟨rfl,rfl,rfl,by decide +kernel,rfl,by decide +kernel,by decide +kernel⟩
theorem zel(L:Laid K mg "_law_spoilt" (top 32) ["_law_pot","_law_bed_here"])(b_range:mg "range"=none)(b_sorted:mg "sorted"=none)(b_len:mg "len"=none)(h_q_law_lying:zba P w K mg base 1 "_law_lying" 1 za0)(h_q_law_walk:zba P w K mg base 5 "_law_walk" 3 zbT)(h_q_law_draw:zba P w K mg base 1 "_law_draw" 2 zac)(h_q_law_standing_of:zba P w K mg base 1 "_law_standing_of" 1 zaB):zba P w K mg base 6 "_law_spoilt" 2 zbi :=
 zbB (k:=5) L zej fun f cdv A outer s H E hr=>JSs.out (zag (JS.mk (zaH (i:=2) zmH rfl (by first | exact Or.inl rfl | exact Or.inr rfl) (zaj h_q_law_lying (hr.mono (by decide)) rfl (zaa (zao (zaG hr) (zab 1) (zaf)) (zai)) (zak.cons zak.nil)))) (zag (zc6 PassesOwn.never rfl (zcd (zaj h_q_law_walk (hr.mono (by decide)) rfl (zaa (zab 0) (zaa (zab 1) (zaa (zaf) (zai)))) (zak.cons (zak.cons (zak.cons zak.nil))))) (zaD (i:=3) zmH rfl (by first | exact Or.inl rfl | exact Or.inr rfl)) (zam (JS.mk (zeQ (zaG hr) (zab 2) (zdJ (zab 3) (zg2) (zg1 (zaf))) (zao (zaG hr) (zab 3) (zaf)))))) (zag (zc6 PassesOwn.never rfl (zbe rfl b_range (zaj h_q_law_draw (hr.mono (by decide)) rfl (zaa (zab 0) (zaa (zaf) (zai))) (zak.cons (zak.cons zak.nil)))) (zaD (i:=4) zmH rfl (by first | exact Or.inl rfl | exact Or.inr rfl)) (zag (JS.mk (zaH (i:=5) zmH rfl (by first | exact Or.inl rfl | exact Or.inr rfl) (zaI (zf7 rfl) rfl b_sorted zda (zaa (zab 2) (zai))))) (zag (JS.mk (zaH (i:=6) zmH rfl (by first | exact Or.inl rfl | exact Or.inr rfl) (zaj h_q_law_draw (hr.mono (by decide)) rfl (zaa (zab 0) (zaa (zaf) (zai))) (zak.cons (zak.cons zak.nil))))) (zag (JS.mk (zaH (i:=7) zmH rfl (by first | exact Or.inl rfl | exact Or.inr rfl) (zbk (zaa (zaj h_q_law_draw (hr.mono (by decide)) rfl (zaa (zab 0) (zaa (zao (zaG hr) (zao (zaG hr) (zab 1) (zaf)) (zaf)) (zai))) (zak.cons (zak.cons zak.nil))) (zaa (zaj h_q_law_draw (hr.mono (by decide)) rfl (zaa (zab 0) (zaa (zao (zaG hr) (zao (zaG hr) (zab 1) (zaf)) (zaf)) (zai))) (zak.cons (zak.cons zak.nil))) (zai)))))) (zag (zfx (SW.sb (zgo (zbN zoy (zab 6) (zaf) rfl) (zer (zbN (zi1 (zbt hr)) (zab 5) (zb7 (zai)) rfl)))) (zam (JS.mk (zaH (i:=7) zmH rfl (by first | exact Or.inl rfl | exact Or.inr rfl) (zao (zaG hr) (zab 5) (zaj h_q_law_draw (hr.mono (by decide)) rfl (zaa (zab 0) (zaa (zaI zbx rfl b_len zeb (zaa (zab 5) (zai))) (zai))) (zak.cons (zak.cons zak.nil))))))) (zbL)) (zam (zfx (SW.sb (zgo (zbN (zfN (zbt hr)) (zab 6) (zaf) rfl) (zer (ziL (zbt hr) (zab 7) (zab 2))))) (zam (JS.mk (zcE (zn4 (zaG hr) (zab 2) (zab 7))))) (zam (JS.mk (zeQ (zaG hr) (zab 2) (zab 7) (zaj h_q_law_draw (hr.mono (by decide)) rfl (zaa (zab 0) (zaa (zaI zbx rfl b_len zeb (zaa (zao (zaG hr) (zao (zaG hr) (zab 1) (zaf)) (zaf)) (zai))) (zai))) (zak.cons (zak.cons zak.nil))))))))))))) (zam (JS.mk (za9 (zaj h_q_law_standing_of (hr.mono (by decide)) rfl (zaa (zab 2) (zai)) (zak.cons zak.nil))))))))
theorem zqf:FnScope ["_law_script","_law_k","_law_pot","_law_bed_here","_law_standing_here","_law_due"] ["_law_script"] (zaq (top 33)):=⟨rfl,rfl,rfl,by decide +kernel,rfl,by decide +kernel,by decide +kernel⟩
theorem zri{f:Addr}{fd:FuncData}(F:Fun K "law" "law" (top 33) f fd)(b_len:mg "len"=none)(b_min:mg "min"=none)(b_range:mg "range"=none)(b_repr:mg "repr"=none)(h_q_law_begin:zba P w K mg base 1 "_law_begin" 2 zb3)(h_q_law_bed:zba P w K mg base 4 "_law_bed" 1 zcB)(h_q_law_standing:zba P w K mg base 2 "_law_standing" 4 zax)(h_q_law_spoilt:zba P w K mg base 6 "_law_spoilt" 2 zbi)(h_q_law_sound:zba P w K mg base 4 "_law_sound" 2 zbI)(h_q_law_standing_of:zba P w K mg base 1 "_law_standing_of" 1 zaB)(h_sound:zba P w K mg base 5 "sound" 2 zdd):FnOk P w K mg base CX0 7 f fd ["_law_script"] (spM K 1 znu) :=
 fn_m (k:=6) F zqf fun cdv A outer s H E hr=>JSs.out (zag (zc6 PassesOwn.never rfl (zbe rfl b_range (zat zaL (zaf) (zaI (zk4 rfl) rfl b_min zrq (zaa (zaf) (zaa (zaI zbx rfl b_len zeb (zaa (zab 0) (zai))) (zai)))))) (zaD (i:=1) zoL rfl (by first | exact Or.inl rfl | exact Or.inr rfl)) (zag (JS.mk (zaH (i:=2) zoL rfl (by first | exact Or.inl rfl | exact Or.inr rfl) (zaj h_q_law_begin (hr.mono (by decide)) rfl (zaa (zab 0) (zaa (zab 1) (zai))) (zak.cons (zak.cons zak.nil))))) (zag (JS.mk (zaH (i:=3) zoL rfl (by first | exact Or.inl rfl | exact Or.inr rfl) (zaj h_q_law_bed (hr.mono (by decide)) rfl (zaa (zab 2) (zai)) (zak.cons zak.nil)))) (zam (zc6 PassesOwn.never rfl (zcd (zb7 (JA.out (zal (zaj h_q_law_spoilt (hr.mono (by decide)) rfl (zaa (zab 2) (zaa (zab 3) (zai))) (zak.cons (zak.cons zak.nil))) (zal (zaj h_q_law_standing (hr.mono (by decide)) rfl (JA.out (zal (zab 2) (zal (zao (zaG hr) (zab 3) (zaf)) (zal (zao (zaG hr) (zab 3) (zaf)) (zal (zaf) (zcD)))))) (zak.cons (zak.cons (zak.cons (zak.cons zak.nil))))) (zal (zbk (zai)) (zal (zao (zaG hr) (zab 3) (zaf)) (zcD)))))))) (zaD (i:=4) zoL rfl (by first | exact Or.inl rfl | exact Or.inr rfl)) (zag (JS.mk (zaH (i:=5) zoL rfl (by first | exact Or.inl rfl | exact Or.inr rfl) (zaj h_q_law_standing_of (hr.mono (by decide)) rfl (zaa (zaj h_q_law_sound (hr.mono (by decide)) rfl (zaa (zab 3) (zaa (zab 4) (zai))) (zak.cons (zak.cons zak.nil))) (zai)) (zak.cons zak.nil)))) (zag (zfx (SW.sb (zrB (zbN zmx (zaI (zcc hr.gd (zew hr)) rfl b_repr zeL (zaa (zaj h_sound (hr.mono (by decide)) rfl (zaa (zab 3) (zaa (zab 4) (zai))) (zak.cons (zak.cons zak.nil))) (zai))) (zaI (zcc hr.gd (zew hr)) rfl b_repr zeL (zaa (zab 5) (zai))) rfl) (znL (zbN zmx (zaI (zcc hr.gd (zew hr)) rfl b_repr zeL (zaa (zaj h_sound (hr.mono (by decide)) rfl (zaa (zab 3) (zaa (zab 5) (zai))) (zak.cons (zak.cons zak.nil))) (zai))) (zaI (zcc hr.gd (zew hr)) rfl b_repr zeL (zaa (zab 5) (zai))) rfl)))) (zam (JS.mk (za9 (zl3)))) (zbL)) (zam (zfx (zbN zmx (zaI (zcc hr.gd (zew hr)) rfl b_repr zeL (zaa (zaj h_sound (hr.mono (by decide)) rfl (zaa (zab 3) (zaa (zab 4) (zai))) (zak.cons (zak.cons zak.nil))) (zai))) (zaI (zcc hr.gd (zew hr)) rfl b_repr zeL (zaa (zab 5) (zai))) rfl) (zam (JS.mk (za9 (zl3)))) (zbL)))))))))) (zam (JS.mk (za9 (zl3)))))
end
end L2.MP.stickytiles_k38_sound_parts
set_option maxRecDepth 100000
set_option maxHeartbeats 8000000
namespace L2.MP.stickytiles_k38_sound_parts
open PySem L2 L2.MP L2.MP.Hd PySem.Spec PyProof.Rows
theorem zry{P:Program}{w:World}{K:PySem.W.Frag}{mg:Str->Option Value}{base:Heap}{f:Addr}{fd:FuncData}(b_isinstance:mg "isinstance"=none)(b_int:mg "int"=none)(b_bool:mg "bool"=none)(b_tuple:mg "tuple"=none)(b_len:mg "len"=none)(b_enumerate:mg "enumerate"=none)(b_zip:mg "zip"=none)(b_sum:mg "sum"=none)(b_dict:mg "dict"=none)(b_list:mg "list"=none)(b_sorted:mg "sorted"=none)(b_range:mg "range"=none)(b_min:mg "min"=none)(b_repr:mg "repr"=none)(L_is_whole:Laid K mg "is_whole" (top 1) ["thing","least","most"])(L_is_tuple:Laid K mg "is_tuple" (top 2) ["thing","size"])(L_is_place:Laid K mg "is_place" (top 3) ["bed","thing"])(L_places_around:Laid K mg "places_around" (top 5) ["place"])(L_sides_of:Laid K mg "sides_of" (top 6) ["bed","kind"])(L_kinds_by_place:Laid K mg "kinds_by_place" (top 7) ["standing"])(L_names_facing:Laid K mg "names_facing" (top 8) ["bed","standing_kinds","place"])(L_strength_together:Laid K mg "strength_together" (top 9) ["strengths","sides","names"])(L_is_growing:Laid K mg "is_growing" (top 10) ["bed","strengths","standing_kinds","tile"])(L_row_among:Laid K mg "row_among" (top 12) ["bed","tiles"])(L_sound:Laid K mg "sound" (top 14) ["bed","standing"])(L_q_law_begin:Laid K mg "_law_begin" (top 16) ["_law_script","_law_k"])(L_q_law_draw:Laid K mg "_law_draw" (top 17) ["_law_pot","_law_many"])(L_q_law_names:Laid K mg "_law_names" (top 18) ["_law_pot","_law_many"])(L_q_law_kind:Laid K mg "_law_kind" (top 19) ["_law_pot","_law_names_here"])(L_q_law_house:Laid K mg "_law_house" (top 20) ["_law_pot"])(L_q_law_standing:Laid K mg "_law_standing" (top 21) ["_law_pot","_law_house_here","_law_floor","_law_most"])(L_q_law_bed:Laid K mg "_law_bed" (top 22) ["_law_pot"])(L_q_law_lying:Laid K mg "_law_lying" (top 23) ["_law_standing_here"])(L_q_law_standing_of:Laid K mg "_law_standing_of" (top 24) ["_law_there"])(L_q_law_step:Laid K mg "_law_step" (top 25) ["_law_place","_law_side"])(L_q_law_sides:Laid K mg "_law_sides" (top 26) ["_law_bed_here","_law_there","_law_place","_law_kind_here"])(L_q_law_by:Laid K mg "_law_by" (top 27) ["_law_bed_here","_law_there","_law_place","_law_kind_here"])(L_q_law_empty:Laid K mg "_law_empty" (top 28) ["_law_bed_here","_law_there"])(L_q_law_may:Laid K mg "_law_may" (top 29) ["_law_bed_here","_law_there"])(L_q_law_walk:Laid K mg "_law_walk" (top 30) ["_law_pot","_law_bed_here","_law_most"])(L_q_law_sound:Laid K mg "_law_sound" (top 31) ["_law_bed_here","_law_standing_here"])(L_q_law_spoilt:Laid K mg "_law_spoilt" (top 32) ["_law_pot","_law_bed_here"])(F:Fun K "law" "law" (top 33) f fd):FnOk P w K mg base CX0 7 f fd ["_law_script"] (spM K 1 znu):=by
 have h_is_whole:=zhU (P:=P) (w:=w) (base:=base) L_is_whole b_isinstance b_int b_bool;have h_is_tuple:=zhV (P:=P) (w:=w) (base:=base) L_is_tuple b_isinstance b_tuple b_len;have h_is_place:=zhW (P:=P) (w:=w) (base:=base) L_is_place   h_is_tuple h_is_whole;have h_places_around:=zd1 (P:=P) (w:=w) (base:=base) L_places_around;have h_sides_of:=zhS (P:=P) (w:=w) (base:=base) L_sides_of b_len;have h_kinds_by_place:=zdF (P:=P) (w:=w) (base:=base) L_kinds_by_place;have h_names_facing:=zem (P:=P) (w:=w) (base:=base) L_names_facing b_enumerate  h_places_around h_sides_of;have h_strength_together:=zcM (P:=P) (w:=w) (base:=base) L_strength_together b_zip b_sum;have h_is_growing:=zfT (P:=P) (w:=w) (base:=base) L_is_growing   h_is_place h_names_facing h_sides_of h_strength_together;have h_row_among:=zgD (P:=P) (w:=w) (base:=base) L_row_among b_dict b_list b_tuple  h_kinds_by_place h_is_growing h_places_around;have h_sound:=zmC (P:=P) (w:=w) (base:=base) L_sound b_sorted b_tuple  h_row_among;have h_q_law_begin:=zff (P:=P) (w:=w) (base:=base) L_q_law_begin b_len b_int;have h_q_law_draw:=zfS (P:=P) (w:=w) (base:=base) L_q_law_draw;have h_q_law_names:=zfb (P:=P) (w:=w) (base:=base) L_q_law_names b_range b_sorted  h_q_law_draw;have h_q_law_kind:=zfR (P:=P) (w:=w) (base:=base) L_q_law_kind b_range b_len  h_q_law_draw;have h_q_law_house:=zfd (P:=P) (w:=w) (base:=base) L_q_law_house b_tuple b_range b_len  h_q_law_draw h_q_law_names h_q_law_kind;have h_q_law_standing:=zdE (P:=P) (w:=w) (base:=base) L_q_law_standing b_range b_len b_sorted b_tuple  h_q_law_draw;have h_q_law_bed:=zgF (P:=P) (w:=w) (base:=base) L_q_law_bed   h_q_law_house h_q_law_draw h_q_law_standing;have h_q_law_lying:=zfc (P:=P) (w:=w) (base:=base) L_q_law_lying b_dict;have h_q_law_standing_of:=zcN (P:=P) (w:=w) (base:=base) L_q_law_standing_of b_sorted b_tuple;have h_q_law_step:=zfQ (P:=P) (w:=w) (base:=base) L_q_law_step;have h_q_law_sides:=zfa (P:=P) (w:=w) (base:=base) L_q_law_sides b_range  h_q_law_step;have h_q_law_by:=zhT (P:=P) (w:=w) (base:=base) L_q_law_by b_dict b_sum  h_q_law_sides;have h_q_law_empty:=zfe (P:=P) (w:=w) (base:=base) L_q_law_empty b_range  h_q_law_step;have h_q_law_may:=zgE (P:=P) (w:=w) (base:=base) L_q_law_may b_len b_range  h_q_law_empty h_q_law_by;have h_q_law_walk:=zfP (P:=P) (w:=w) (base:=base) L_q_law_walk b_range b_len b_tuple  h_q_law_lying h_q_law_may h_q_law_draw;have h_q_law_sound:=ze9 (P:=P) (w:=w) (base:=base) L_q_law_sound   h_q_law_lying h_q_law_by;have h_q_law_spoilt:=zel (P:=P) (w:=w) (base:=base) L_q_law_spoilt b_range b_sorted b_len  h_q_law_lying h_q_law_walk h_q_law_draw h_q_law_standing_of;exact zri F b_len b_min b_range b_repr h_q_law_begin h_q_law_bed h_q_law_standing h_q_law_spoilt h_q_law_sound h_q_law_standing_of h_sound
theorem all_mk{l:PySem.W.OpenLaw}{w:World}{K:PySem.W.Frag}{h:Heap}{mg:Str->Option Value}{fa:Addr}(X:K.In h)(G:h.Ns mainGlobals mg)(hfa:mg "law"=some (.ref fa)){f0 f1 f2 f3 f4 f5 f6 f7 f8 f9 f10 f11 f12 f13 f14 f15 f16 f17 f18 f19 f20 f21 f22 f23 f24 f25 f26 f27 f28:Addr}
   (a0:FdIn K "is_whole" (top 1) f0)
   (a1:FdIn K "is_tuple" (top 2) f1)
   (a2:FdIn K "is_place" (top 3) f2)
   (a3:FdIn K "places_around" (top 5) f3)
   (a4:FdIn K "sides_of" (top 6) f4)
   (a5:FdIn K "kinds_by_place" (top 7) f5)
   (a6:FdIn K "names_facing" (top 8) f6)
   (a7:FdIn K "strength_together" (top 9) f7)
   (a8:FdIn K "is_growing" (top 10) f8)
   (a9:FdIn K "row_among" (top 12) f9)
   (a10:FdIn K "sound" (top 14) f10)
   (a11:FdIn K "_law_begin" (top 16) f11)
   (a12:FdIn K "_law_draw" (top 17) f12)
   (a13:FdIn K "_law_names" (top 18) f13)
   (a14:FdIn K "_law_kind" (top 19) f14)
   (a15:FdIn K "_law_house" (top 20) f15)
   (a16:FdIn K "_law_standing" (top 21) f16)
   (a17:FdIn K "_law_bed" (top 22) f17)
   (a18:FdIn K "_law_lying" (top 23) f18)
   (a19:FdIn K "_law_standing_of" (top 24) f19)
   (a20:FdIn K "_law_step" (top 25) f20)
   (a21:FdIn K "_law_sides" (top 26) f21)
   (a22:FdIn K "_law_by" (top 27) f22)
   (a23:FdIn K "_law_empty" (top 28) f23)
   (a24:FdIn K "_law_may" (top 29) f24)
   (a25:FdIn K "_law_walk" (top 30) f25)
   (a26:FdIn K "_law_sound" (top 31) f26)
   (a27:FdIn K "_law_spoilt" (top 32) f27)
   (a28:FdIn K "law" (top 33) f28)
   (z0:PySem.W.nsIn K mainGlobals "isinstance"=some none)
   (z1:PySem.W.nsIn K mainGlobals "int"=some none)
   (z2:PySem.W.nsIn K mainGlobals "bool"=some none)
   (z3:PySem.W.nsIn K mainGlobals "tuple"=some none)
   (z4:PySem.W.nsIn K mainGlobals "len"=some none)
   (z5:PySem.W.nsIn K mainGlobals "enumerate"=some none)
   (z6:PySem.W.nsIn K mainGlobals "zip"=some none)
   (z7:PySem.W.nsIn K mainGlobals "sum"=some none)
   (z8:PySem.W.nsIn K mainGlobals "dict"=some none)
   (z9:PySem.W.nsIn K mainGlobals "list"=some none)
   (z10:PySem.W.nsIn K mainGlobals "sorted"=some none)
   (z11:PySem.W.nsIn K mainGlobals "range"=some none)
   (z12:PySem.W.nsIn K mainGlobals "min"=some none)
   (z13:PySem.W.nsIn K mainGlobals "repr"=some none) :
   ∃ fd:FuncData,(∀ (s:Shared) (v:Value),BindsTo s fd ⟨[v],[]⟩ [("_law_script",v)])/\∀ base:Heap,K.In base->base.Ns mainGlobals mg->FnOk l.prog w K mg base CX0 7 fa fd ["_law_script"] (spM K 1 znu):=by
 obtain⟨⟨oc,od,kV,dc,pm,an,cd,ct,sl,l,c⟩,n,k⟩:=a28;have e:=hfa.symm.trans (PySem.W.mg_of X G n);cases e;exact⟨_,fun s v=>.of_eq rfl,fun base _ _=>zry (PySem.W.mg_none_of X G z0) (PySem.W.mg_none_of X G z1) (PySem.W.mg_none_of X G z2) (PySem.W.mg_none_of X G z3) (PySem.W.mg_none_of X G z4) (PySem.W.mg_none_of X G z5) (PySem.W.mg_none_of X G z6) (PySem.W.mg_none_of X G z7) (PySem.W.mg_none_of X G z8) (PySem.W.mg_none_of X G z9) (PySem.W.mg_none_of X G z10) (PySem.W.mg_none_of X G z11) (PySem.W.mg_none_of X G z12) (PySem.W.mg_none_of X G z13)
   (zaU (ps:=["thing","least","most"]) a0 X G fun _ _ _ _ _ _=>len3 fun _ _ _=>rfl)
   (zaU (ps:=["thing","size"]) a1 X G fun _ _ _ _ _ _=>len2 fun _ _=>rfl)
   (zaU (ps:=["bed","thing"]) a2 X G fun _ _ _ _ _ _=>len2 fun _ _=>rfl)
   (zaU (ps:=["place"]) a3 X G fun _ _ _ _ _ _=>len1 fun _=>rfl)
   (zaU (ps:=["bed","kind"]) a4 X G fun _ _ _ _ _ _=>len2 fun _ _=>rfl)
   (zaU (ps:=["standing"]) a5 X G fun _ _ _ _ _ _=>len1 fun _=>rfl)
   (zaU (ps:=["bed","standing_kinds","place"]) a6 X G fun _ _ _ _ _ _=>len3 fun _ _ _=>rfl)
   (zaU (ps:=["strengths","sides","names"]) a7 X G fun _ _ _ _ _ _=>len3 fun _ _ _=>rfl)
   (zaU (ps:=["bed","strengths","standing_kinds","tile"]) a8 X G fun _ _ _ _ _ _=>len4 fun _ _ _ _=>rfl)
   (zaU (ps:=["bed","tiles"]) a9 X G fun _ _ _ _ _ _=>len2 fun _ _=>rfl)
   (zaU (ps:=["bed","standing"]) a10 X G fun _ _ _ _ _ _=>len2 fun _ _=>rfl)
   (zaU (ps:=["_law_script","_law_k"]) a11 X G fun _ _ _ _ _ _=>len2 fun _ _=>rfl)
   (zaU (ps:=["_law_pot","_law_many"]) a12 X G fun _ _ _ _ _ _=>len2 fun _ _=>rfl)
   (zaU (ps:=["_law_pot","_law_many"]) a13 X G fun _ _ _ _ _ _=>len2 fun _ _=>rfl)
   (zaU (ps:=["_law_pot","_law_names_here"]) a14 X G fun _ _ _ _ _ _=>len2 fun _ _=>rfl)
   (zaU (ps:=["_law_pot"]) a15 X G fun _ _ _ _ _ _=>len1 fun _=>rfl)
   (zaU (ps:=["_law_pot","_law_house_here","_law_floor","_law_most"]) a16 X G fun _ _ _ _ _ _=>len4 fun _ _ _ _=>rfl)
   (zaU (ps:=["_law_pot"]) a17 X G fun _ _ _ _ _ _=>len1 fun _=>rfl)
   (zaU (ps:=["_law_standing_here"]) a18 X G fun _ _ _ _ _ _=>len1 fun _=>rfl)
   (zaU (ps:=["_law_there"]) a19 X G fun _ _ _ _ _ _=>len1 fun _=>rfl)
   (zaU (ps:=["_law_place","_law_side"]) a20 X G fun _ _ _ _ _ _=>len2 fun _ _=>rfl)
   (zaU (ps:=["_law_bed_here","_law_there","_law_place","_law_kind_here"]) a21 X G fun _ _ _ _ _ _=>len4 fun _ _ _ _=>rfl)
   (zaU (ps:=["_law_bed_here","_law_there","_law_place","_law_kind_here"]) a22 X G fun _ _ _ _ _ _=>len4 fun _ _ _ _=>rfl)
   (zaU (ps:=["_law_bed_here","_law_there"]) a23 X G fun _ _ _ _ _ _=>len2 fun _ _=>rfl)
   (zaU (ps:=["_law_bed_here","_law_there"]) a24 X G fun _ _ _ _ _ _=>len2 fun _ _=>rfl)
   (zaU (ps:=["_law_pot","_law_bed_here","_law_most"]) a25 X G fun _ _ _ _ _ _=>len3 fun _ _ _=>rfl)
   (zaU (ps:=["_law_bed_here","_law_standing_here"]) a26 X G fun _ _ _ _ _ _=>len2 fun _ _=>rfl)
   (zaU (ps:=["_law_pot","_law_bed_here"]) a27 X G fun _ _ _ _ _ _=>len2 fun _ _=>rfl)
   (zm7 (st:=top 33) l c k)⟩
end L2.MP.stickytiles_k38_sound_parts
set_option maxHeartbeats 4000000
namespace L2.MP.stickytiles_k38_sound_parts
open PySem L2.MP L2.MP.Hd
open L2.MP.Hn (zas)
theorem zi4{x y:Int}{d:Nat}{kvs:List (List Key×D)}{st:Sto}(h:st[d]?=some (.dt kvs)):zen (.tup [.int x,.int y]) (.ref d) st=some (.bl (!(valD kvs [.inl x,.inl y]).isSome),st):=by
 have e0:toP 50 st (.ref d)=none:=by rw[toP];simp[zbu,h]
 have e1:inD true (.tup [.int x,.int y]) (.ref d) st=none:=by
   unfold inD;rw[e0]
   cases toP 50 st (.tup [.int x,.int y]) <;> rfl
 unfold zen orG zmE orG;rw[e1,zfv];simp[dinD,look,h,keysOf,keyOf,zgA]
noncomputable def tD(t:Tl):D:=tupD (rowT t)
noncomputable def sth(stk:List (Str×Int))(ks:List (List Str))(P:List Tl)(x y:Int)(k:Nat):Int:=((togs (sds ks (k:Int)) (names4 ks P x y)).map fun p=>sv stk p.1).sum
noncomputable def gK(e:Int)(stk:List (Str×Int))(ks:List (List Str))(P:List Tl)(x y:Int)(n:Nat):List Tl:=((List.range n).filter fun k=>decide (e<=sth stk ks P x y k)).map fun (k:Nat)=>(x,y,(k:Int))
theorem zlx(e:Int)(stk:List (Str×Int))(ks:List (List Str))(P:List Tl)(x y:Int)(n:Nat):gK e stk ks P x y (n+1)=if e<=sth stk ks P x y n then gK e stk ks P x y n++[(x,y,(n:Int))] else gK e stk ks P x y n:=by
 unfold gK;rw[List.range_succ,List.filter_append,List.map_append]
 by_cases h:e<=sth stk ks P x y n
 . rw[if_pos h];simp[h]
 . rw[if_neg h];simp[h]
theorem zm6(e:Int)(stk:List (Str×Int))(ks:List (List Str))(P:List Tl)(x y:Int)(n:Nat):(gK e stk ks P x y n).length<=n:=by
 unfold gK;rw[List.length_map];exact Nat.le_trans (List.length_filter_le _ _) (by simp)
structure Ctx(bed:D)(e:Int)(stk:List (Str×Int))(ks:List (List Str))(w h:Int):Prop where
 at_:∃ hs:D,(∀ s:Sto,ixA bed (.int 0) s=some (hs,s))/\(∀ s:Sto,ixA hs (.int 0) s=some (.int e,s))/\(∀ s:Sto,ixA hs (.int 1) s=some (.tup (stk.map zbM),s))/\∀ s:Sto,ixA hs (.int 2) s=some (.tup (ks.map zb8),s)
 fl:∀ s:Sto,ixA bed (.int 1) s=some (.tup [.int w,.int h],s)
 hs:HsOk e stk ks
 fo:FlOk w h
theorem Ctx.bed{bed:D}{e w h:Int}{stk:List (Str×Int)}{ks:List (List Str)}(c:Ctx bed e stk ks w h):BedAt bed stk ks:=let ⟨hs,i0,_,i1,i2⟩:=c.at_;⟨hs,i0,i1,i2⟩
theorem Ctx.ks{bed:D}{e w h:Int}{stk:List (Str×Int)}{ks:List (List Str)}(c:Ctx bed e stk ks w h):KsOk (stk.map (·.1)) ks:=⟨by have:=c.hs.hi;omega,c.hs.kd⟩
theorem Ctx.stk{bed:D}{e w h:Int}{stk:List (Str×Int)}{ks:List (List Str)}(c:Ctx bed e stk ks w h):∀ p∈stk,1<=p.2/\p.2<=4:=fun p hp=>(c.hs.nm p hp).2
end L2.MP.stickytiles_k38_sound_parts
set_option maxHeartbeats 4000000
namespace L2.MP.stickytiles_k38_sound_parts
open PySem L2.MP L2.MP.Hd
noncomputable def nb(x y:Int):Nat->Int×Int
 | 0=>(x,y+1)
 | 1=>(x+1,y)
 | 2=>(x,y - 1)
 | _=>(x - 1,y)
noncomputable def pres(P:List Tl)(x y:Int)(j:Nat):Bool:=(fnd P (nb x y j).1 (nb x y j).2).isSome
noncomputable def okE(P:List Tl)(x y:Int):Bool:=!(fnd P x y).isSome&&!((List.range 4).filter (pres P x y)).isEmpty
section
variable (P:List Tl)
noncomputable def eC(x:Int)(m:Nat):List (Int×Int):=((List.range m).filter fun (j:Nat)=>okE P x (j:Int)).map fun (j:Nat)=>(x,(j:Int))
noncomputable def eF(h:Int)(n:Nat):List (Int×Int):=((List.range n).map fun (i:Nat)=>eC P (i:Int) h.toNat).flatten
theorem zpc(x:Int)(m:Nat):eC P x (m+1)=if okE P x (m:Int)=true then eC P x m++[(x,(m:Int))] else eC P x m:=by
 unfold eC;rw[List.range_succ,List.filter_append,List.map_append]
 by_cases h:okE P x (m:Int)=true
 . rw[if_pos h];simp[h]
 . rw[if_neg h];simp[h]
theorem zlz(h:Int)(n:Nat):eF P h (n+1)=eF P h n++eC P (n:Int) h.toNat:=by
 unfold eF;rw[List.range_succ,List.map_append,List.flatten_append];simp
theorem zpd(x:Int)(m:Nat):(eC P x m).length<=m:=by
 unfold eC;rw[List.length_map];exact Nat.le_trans (List.length_filter_le _ _) (by simp)
theorem zkX(h:Int):∀ n:Nat,(eF P h n).length<=n*h.toNat
 | 0=>by simp[eF]
 | n+1=>by
   have h1:=zkX h n;have h2:=zpd P (n:Int) h.toNat;rw[zlz,List.length_append,Nat.add_mul];omega
end
noncomputable def mays(e:Int)(stk:List (Str×Int))(ks:List (List Str))(P:List Tl)(ps:List (Int×Int)):List Tl:=(ps.map fun p=>gK e stk ks P p.1 p.2 ks.length).flatten
theorem zmQ(e:Int)(stk:List (Str×Int))(ks:List (List Str))(P:List Tl)(a b:List (Int×Int)):mays e stk ks P (a++b)=mays e stk ks P a++mays e stk ks P b:=by
 unfold mays;rw[List.map_append,List.flatten_append]
theorem ne_nil{l m:Nat}{js:List Nat}{st:Sto}(hl:st[l]?=some (.lst (js.map fun (i:Nat)=>D.int (i:Int))))(hm:st[m]?=some (.lst [])):neD (.ref l) (.ref m) st=some (.bl !js.isEmpty,st):=by
 have e:(js.map fun (i:Nat)=>D.int (i:Int))=(js.map fun (i:Nat)=>(i:Int)).map D.int:=by rw[List.map_map];rfl
 rw[e] at hl;unfold neD;rw[zdh (n:=98) hl,zdh (n:=98) (as:=[]) hm]
 cases js <;> rfl
theorem zoH{x y J a b:Int}{d:Nat}{q:Bool}{s s1:Sto}(e1:zaN [.tup [.int x,.int y],.int J] s=some (.tup [.int a,.int b],s1))(e2:inA (.tup [.int a,.int b]) (.ref d) s1=some (.bl q,s1)):zaS [some (.int J),some (.int x),some (.int y),some (.ref d)] s=some (q,s1):=by
 unfold zaS;simp[e1,e2]
theorem zoI{P:List Tl}{x y:Int}{d:Nat}{st:Sto}(hd:st[d]?=some (.dt (P.map kvOf))):∃ st',mCI ⟨run 0 4,[]⟩ (gNm 0) zaS zbp (run 0 4) [none,some (.int x),some (.int y),some (.ref d)] st=some (((List.range 4).filter (pres P x y)).map fun (i:Nat)=>D.int (i:Int),st')/\Gr st st':=by
 have key:=znk (W:=⟨run 0 4,[]⟩) (g:=gNm 0) (c:=zaS) (m:=zbp) (ds:=run 0 4) (acc:=[]) (st:=st) (ρ:=[none,some (.int x),some (.int y),some (.ref d)])
   (Inv:=fun k a ρ s=>Y3 ((∃ u,ρ=[u,some (.int x),some (.int y),some (.ref d)])) (a=fl (pres P x y) k) (Gr st s))
   ⟨⟨_,rfl⟩,rfl,Gr.refl _⟩ (fun _ _ _ _ _ _=>rfl) (fun k dd a ρ s hdd hI=>by
     obtain⟨⟨u,rfl⟩,rfl,hg⟩:=hI;obtain⟨hk,rfl⟩:=zdW hdd;have hp:[D.tup [.int x,.int (y+1)],.tup [.int (x+1),.int y],.tup [.int x,.int (y - 1)],.tup [.int (x - 1),.int y]][((k:Nat):Int).toNat]?=some (.tup [.int (nb x y k).1,.int (nb x y k).2]):=by
       rw[Int.toNat_natCast]
       match k,hk with
       | 0,_=>rfl
       | 1,_=>rfl
       | 2,_=>rfl
       | 3,_=>rfl
     obtain⟨s1,e1,g1⟩:=zlc (s:=s) (J:=(k:Int)) (by omega) hp;have hg1:=hg.trans g1;have ein:=znB (x:=(nb x y k).1) (y:=(nb x y k).2) ((hg1.old _ (getElem?_lt hd)).trans hd);rw[zch,Option.isSome_map] at ein;have rd:=zoH e1 ein
     cases hq:(fnd P (nb x y k).1 (nb x y k).2).isSome with
     | true =>
       rw[hq] at rd;refine⟨[some (.int (k:Int)),some (.int x),some (.int y),some (.ref d)],s,true,s1,rfl,rd,.inl ⟨rfl,.int (k:Int),s1,rfl,⟨_,rfl⟩,?_,hg1⟩⟩;rw[zeF,if_pos (show pres P x y k=true from hq)]
     | false =>
       rw[hq] at rd;refine⟨[some (.int (k:Int)),some (.int x),some (.int y),some (.ref d)],s,false,s1,rfl,rd,.inr ⟨rfl,⟨_,rfl⟩,?_,hg1⟩⟩;rw[zeF,if_neg (show ¬ pres P x y k=true by unfold pres;rw[hq];decide)])
 obtain⟨xs,ρ',s',ec,_,hx,hg⟩:=key;rw[List.nil_append] at hx;subst hx;exact⟨s',ec,hg⟩
theorem zpi{bed:D}{d l lb:Nat}{x y:Int}{q1 q2:Bool}{a5:Option D}{L:List D}{s s1 s2:Sto}(ec:zcO (mR1 (mCon (.int 4))) 1 [3,4,1] (gNm 0) (zaS) (zbp) [some bed,some (.ref d),some (.ref l),some (.int x),some (.int y),a5] s=some (.ref lb,s1))(e1:zen (.tup [.int x,.int y]) (.ref d) s1=some (.bl q1,s1))(hs2:s1++[.lst []]=s2)(e2:neD (.ref lb) (.ref s1.length) s2=some (.bl q2,s2))(hl:s2[l]?=some (.lst L))(ea:zbY (.ref l) [.tup [.int x,.int y]] s2=some (.non,s2.set l (.lst (L++[.tup [.int x,.int y]])))) :
   zbm [some bed,some (.ref d),some (.ref l),some (.int x),some (.int y),a5] s=some (.nx [some bed,some (.ref d),some (.ref l),some (.int x),some (.int y),some (.ref lb)],if q1=true then (if q2=true then s2.set l (.lst (L++[.tup [.int x,.int y]])) else s2) else s1):=by
 unfold zbm;refine zan (ρ1:=[some bed,some (.ref d),some (.ref l),some (.int x),some (.int y),some (.ref lb)]) (s1:=s1) (by rw[zgb,ec];rfl) ?_
 cases q1 with
 | false=>simp[e1]
 | true =>
   cases q2 with
   | false=>simp[e1,hs2,e2]
   | true=>simp[e1,hs2,e2,zbu,hl,ea]
theorem zpj{bed:D}{P:List Tl}{x y:Int}{d l:Nat}{a5:Option D}{st0 s:Sto}{L:List (Int×Int)}(hd:s[d]?=some (.dt (P.map kvOf)))(hl:s[l]?=some (.lst (L.map plD)))(hL:L.length<=9000)(h0:st0.length<=l)(hdl:d≠l)(g0:Gr st0 s) :
   ∃ (b5:Option D) (s':Sto),Y4 (zbm [some bed,some (.ref d),some (.ref l),some (.int x),some (.int y),a5] s=some (.nx [some bed,some (.ref d),some (.ref l),some (.int x),some (.int y),b5],s')) (s'[l]?=some (.lst ((if okE P x y=true then L++[(x,y)] else L).map plD))) (s'[d]?=s[d]?) (Gr st0 s'):=by
 obtain⟨s1,e1,g1⟩:=zoI (x:=x) (y:=y) hd;have hle:((List.range 4).filter (pres P x y)).length<=4:=by
   have:=List.length_filter_le (pres P x y) (List.range 4);rw[List.length_range] at this;exact this
 have fl':fits (((List.range 4).filter (pres P x y)).map fun (i:Nat)=>D.int (i:Int)).length=true:=zaw (by rw[List.length_map];omega);have a2:=zaR s1 (.lst (((List.range 4).filter (pres P x y)).map fun (i:Nat)=>D.int (i:Int)));have g2:=g1.trans (Gr.app s1 [.lst (((List.range 4).filter (pres P x y)).map fun (i:Nat)=>D.int (i:Int))]);have ec:zcO (mR1 (mCon (.int 4))) 1 [3,4,1] (gNm 0) (zaS) (zbp) [some bed,some (.ref d),some (.ref l),some (.int x),some (.int y),a5] s=some (.ref s1.length,s1++[.lst (((List.range 4).filter (pres P x y)).map fun (i:Nat)=>D.int (i:Int))]):=by
   rw[zaW,ziP (k:=4) rfl (by decide)];simp only[Option.bind_some];rw[show rho0 [some bed,some (.ref d),some (.ref l),some (.int x),some (.int y),a5] 1 [3,4,1]=[none,some (.int x),some (.int y),some (.ref d)] from rfl,e1];simp only[Option.bind_some,fl',if_true]
 generalize s1++[O.lst (((List.range 4).filter (pres P x y)).map fun (i:Nat)=>D.int (i:Int))]=s2 at *;have hin:=zi4 (x:=x) (y:=y) ((g2.old _ (getElem?_lt hd)).trans hd);rw[zch,Option.isSome_map] at hin;have a3:(s2++[O.lst []])[s1.length]?=some (.lst (((List.range 4).filter (pres P x y)).map fun (i:Nat)=>D.int (i:Int))):=by rw[List.getElem?_append_left (getElem?_lt a2)];exact a2
 have en:=ne_nil a3 (zaR s2 (.lst []));have g3:=g2.trans (Gr.app s2 [.lst []]);have hl2:=(g2.old _ (getElem?_lt hl)).trans hl;have hl3:=(g3.old _ (getElem?_lt hl)).trans hl;have hd2:=g2.old _ (getElem?_lt hd);have hd3:=g3.old _ (getElem?_lt hd);have ea:=append_at (x:=.tup [.int x,.int y]) hl3 (by rw[List.length_map];omega);have rd:=zpi ec hin rfl en hl3 ea;generalize s2++[O.lst []]=s3 at *;refine⟨_,_,rd,?_,?_,?_⟩
 . unfold okE
   cases (fnd P x y).isSome with
   | true=>simpa using hl2
   | false =>
     cases ((List.range 4).filter (pres P x y)).isEmpty with
     | true=>simpa using hl3
     | false =>
       simp only[Bool.not_false,if_true,Bool.and_true];rw[List.getElem?_set_self (getElem?_lt hl3),List.map_append];rfl
 . cases (fnd P x y).isSome with
   | true=>simpa using hd2
   | false =>
     cases ((List.range 4).filter (pres P x y)).isEmpty with
     | true=>simpa using hd3
     | false =>
       simp only[Bool.not_false,if_true];rw[List.getElem?_set_ne (Ne.symm hdl)];exact hd3
 . cases (fnd P x y).isSome with
   | true=>simpa using g0.trans g2
   | false =>
     cases ((List.range 4).filter (pres P x y)).isEmpty with
     | true=>simpa using g0.trans g3
     | false =>
       simp only[Bool.not_false,if_true];have g:=g0.trans g3;exact⟨by rw[List.length_set];exact g.len,fun j hj=>by rw[List.getElem?_set_ne (by omega)];exact g.old j hj⟩
theorem zfq{bed:D}{e w h:Int}{stk:List (Str×Int)}{ks:List (List Str)}{P:List Tl}{d:Nat}{st:Sto}(c:Ctx bed e stk ks w h)(hd:st[d]?=some (.dt (P.map kvOf))) :
   ∃ st',Y3 (zbJ [bed,.ref d] st=some (.ref st.length,st')) (st'[st.length]?=some (.lst ((eF P h w.toNat).map plD))) (Gr st st'):=by
 have f1:=c.fo.w0;have f2:=c.fo.w1;have f3:=c.fo.h0;have f4:=c.fo.h1;have hdl:=getElem?_lt hd;have h12:h.toNat<=12:=by omega
 have bound:∀ n m:Nat,n<=12->m<=h.toNat->(eF P h n++eC P (n:Int) m).length<=9000:=fun n m hn hm=>by
   have b1:=zkX P h n;have b2:=zpd P (n:Int) m;have b3:n*h.toNat<=12*12:=Nat.mul_le_mul hn h12;rw[List.length_append];omega
 have hd1:(st++[O.lst []])[d]?=some (.dt (P.map kvOf)):=by rw[List.getElem?_append_left hdl];exact hd
 have key:=zbR (W:=⟨run 0 w.toNat,[]⟩) (g:=gNm 3) (m:=zb9) (ds:=run 0 w.toNat) (ρ:=[some bed,some (.ref d),some (.ref st.length),none,none,none]) (st:=st++[.lst []])
   (Inv:=fun k ρ s=>Y4 ((∃ a b cc,ρ=[some bed,some (.ref d),some (.ref st.length),a,b,cc])) (s[st.length]?=some (.lst ((eF P h k).map plD))) (s[d]?=some (.dt (P.map kvOf))) (Gr st s))
   ⟨⟨_,_,_,rfl⟩,zaR _ _,hd1,Gr.app _ _⟩ (fun _ _ _ _ _=>rfl) (fun k dd ρ s hdd hI=>by
     obtain⟨⟨u,v,q,rfl⟩,hat,hdt,hg⟩:=hI;obtain⟨hk,rfl⟩:=zdW hdd;have key2:=zbR (W:=⟨run 0 h.toNat,[]⟩) (g:=gNm 4) (m:=zbm) (ds:=run 0 h.toNat) (ρ:=[some bed,some (.ref d),some (.ref st.length),some (.int (k:Int)),v,q]) (st:=s)
       (Inv:=fun j ρ s=>Y4 ((∃ b cc,ρ=[some bed,some (.ref d),some (.ref st.length),some (.int (k:Int)),b,cc])) (s[st.length]?=some (.lst ((eF P h k++eC P (k:Int) j).map plD))) (s[d]?=some (.dt (P.map kvOf))) (Gr st s))
       ⟨⟨_,_,rfl⟩,by simpa[eC] using hat,hdt,hg⟩ (fun _ _ _ _ _=>rfl) (fun j dd ρ s hdd hI=>by
         obtain⟨⟨v,q,rfl⟩,hat,hdt,hg⟩:=hI;obtain⟨hj,rfl⟩:=zdW hdd;obtain⟨b5,s',e',hat',hdt',hg'⟩:=zpj (bed:=bed) (x:=(k:Int)) (y:=(j:Int)) (a5:=q) hdt hat (bound k j (by omega) (by omega)) (Nat.le_refl _) (by omega) hg;refine⟨[some bed,some (.ref d),some (.ref st.length),some (.int (k:Int)),some (.int (j:Int)),q],s,_,s',rfl,e',⟨_,_,rfl⟩,?_,hdt'.trans hdt,hg'⟩;rw[hat',zpc]
         by_cases ho:okE P (k:Int) (j:Int)=true
         . rw[if_pos ho,if_pos ho,List.append_assoc]
         . rw[if_neg ho,if_neg ho])
     obtain⟨ρ',s',el,⟨v',q',rfl⟩,hat',hdt',hg'⟩:=key2;rw[zca] at hat';refine⟨[some bed,some (.ref d),some (.ref st.length),some (.int (k:Int)),v,q],s,[some bed,some (.ref d),some (.ref st.length),some (.int (k:Int)),v',q'],s',rfl,?_,⟨_,_,_,rfl⟩,by rw[zlz];exact hat',hdt',hg'⟩;have sm:small h=true:=zcx (by omega) (by omega);have hfl:=c.fl s;have i1':ixA (.tup [.int w,.int h]) (.int 1) s=some (.int h,s):=zaQ (by decide) rfl;unfold zb9;have:mR1 (mBin ixA (mBin ixA (mVar 0) (mCon (.int 1))) (mCon (.int 1))) [some bed,some (.ref d),some (.ref st.length),some (.int (k:Int)),v,q] s=some (⟨run 0 h.toNat,[]⟩,s):=by
       generalize (k:Int)=kk;simp[hfl,i1',sm]
     rw[zdb,this];exact el)
 obtain⟨ρ',s',el,⟨u,v,q,rfl⟩,hat,hdt,hg⟩:=key;rw[zca] at hat;refine⟨s',zcy ?_,hat,hg⟩;have sm:small w=true:=zcx (by omega) (by omega);have hfl:=c.fl (st++[.lst []]);have j0:ixA (.tup [.int w,.int h]) (.int 0) (st++[.lst []])=some (.int w,st++[.lst []]):=zaQ (by decide) rfl;unfold zdB;refine zan (ρ1:=[some bed,some (.ref d),some (.ref st.length),none,none,none]) (s1:=st++[.lst []]) (by simp) ?_;refine zan (ρ1:=[some bed,some (.ref d),some (.ref st.length),u,v,q]) (s1:=s') (by
   have:mR1 (mBin ixA (mBin ixA (mVar 0) (mCon (.int 1))) (mCon (.int 0))) [some bed,some (.ref d),some (.ref st.length),none,none,none] (st++[.lst []])=some (⟨run 0 w.toNat,[]⟩,st++[.lst []]):=by simp[hfl,j0,sm]
   rw[zdb,this];exact el) ?_
 simp
end L2.MP.stickytiles_k38_sound_parts
set_option maxHeartbeats 4000000
namespace L2.MP.stickytiles_k38_sound_parts
open PySem L2.MP L2.MP.Hd
open L2.MP.Hn (zas zaA srtT zaz)
theorem zkb{stk:List (Str×Int)}{ks:List (List Str)}{P:List Tl}{x y:Int}{k:Nat}(h:(sds ks (k:Int)).length=4):((alike (sds ks (k:Int)) (names4 ks P x y)).map fun i=>sv stk ((sds ks (k:Int)).getD i "")).sum=sth stk ks P x y k:=by
 unfold sth;rw[zj8 h rfl]
theorem zoM{bed hs pl:D}{d l:Nat}{K E R:Int}{v:D}{L:List D}{s s1:Sto}(e1:zbc [bed,.ref d,pl,.int K] s=some (.int R,s1))(i0:ixA bed (.int 0) s1=some (hs,s1))(ie:ixA hs (.int 0) s1=some (.int E,s1))(hR:E<=R)(hl:s1[l]?=some (.lst L))(ea:addD pl (.tup [.int K]) s1=some (v,s1))(eap:zbY (.ref l) [v] s1=some (.non,s1.set l (.lst (L++[v])))) :
   zbv [some bed,some (.ref d),some (.ref l),some pl,some (.int K)] s=some (.nx [some bed,some (.ref d),some (.ref l),some pl,some (.int K)],s1.set l (.lst (L++[v]))):=by
 unfold zbv;simp[e1,i0,ie,hR,zbu,hl,ea,eap]
theorem zmM{bed hs pl:D}{d l:Nat}{K E R:Int}{s s1:Sto}(e1:zbc [bed,.ref d,pl,.int K] s=some (.int R,s1))(i0:ixA bed (.int 0) s1=some (hs,s1))(ie:ixA hs (.int 0) s1=some (.int E,s1))(hR:¬ E<=R) :
   zbv [some bed,some (.ref d),some (.ref l),some pl,some (.int K)] s=some (.nx [some bed,some (.ref d),some (.ref l),some pl,some (.int K)],s1):=by
 unfold zbv;simp[e1,i0,ie,hR]
theorem zdY{bed:D}{e w h:Int}{stk:List (Str×Int)}{ks:List (List Str)}{P:List Tl}{p:Int×Int}{d l:Nat}{a4:Option D}{st0 s:Sto}{L:List Tl}(c:Ctx bed e stk ks w h)(hP:∀ t∈P,0<=t.2.2/\t.2.2 < (ks.length:Int))(hd:s[d]?=some (.dt (P.map kvOf)))(hl:s[l]?=some (.lst (L.map tD)))(hL:L.length<=9000)(h0:st0.length<=l)(hdl:d≠l)(g0:Gr st0 s) :
   ∃ (b4:Option D) (s':Sto),Y3 (zbZ [some bed,some (.ref d),some (.ref l),some (plD p),a4] s=some (.nx [some bed,some (.ref d),some (.ref l),some (plD p),b4],s')) (s'[l]?=some (.lst ((L++gK e stk ks P p.1 p.2 ks.length).map tD))) (Fr l s s'):=by
 obtain⟨hs,i0,ie,i1,i2⟩:=c.at_;have k13:=c.hs.hi;have key:=zbR (W:=⟨run 0 ks.length,[]⟩) (g:=gNm 4) (m:=zbv) (ds:=run 0 ks.length) (ρ:=[some bed,some (.ref d),some (.ref l),some (plD p),a4]) (st:=s)
   (Inv:=fun k ρ s'=>Y3 ((∃ a,ρ=[some bed,some (.ref d),some (.ref l),some (plD p),a])) (s'[l]?=some (.lst ((L++gK e stk ks P p.1 p.2 k).map tD))) (Fr l s s'))
   ⟨⟨_,rfl⟩,by simpa[gK] using hl,Fr.refl _ _⟩ (fun _ _ _ _ _=>rfl) (fun k dd ρ s' hdd hI=>by
     obtain⟨⟨u,rfl⟩,hat,hf⟩:=hI;obtain⟨hk,rfl⟩:=zdW hdd;have k1:((k:Nat):Int) < (ks.length:Int):=by omega
     obtain⟨f,b0,b1,b2,b3,ek,es,hok⟩:=zcF c.ks (k:=(k:Int)) (by omega) k1;have hd':=(hf.old _ (getElem?_lt hd) hdl).trans hd;obtain⟨s2,e2,g2⟩:=zhm (x:=p.1) (y:=p.2) c.bed c.ks c.stk (by have:=c.hs.sl;omega) hP (by omega) k1 hd';rw[zkb (by rw[es];rfl)] at e2;have hat2:=(g2.old _ (getElem?_lt hat)).trans hat;have hlen:=zm6 e stk ks P p.1 p.2 k
     by_cases hR:e<=sth stk ks P p.1 p.2 k
     . have ea:addD (.tup [.int p.1,.int p.2]) (.tup [.int (k:Int)]) s2=some (tD (p.1,p.2,(k:Int)),s2):=zhD (by simp) (by simp);have eap:=append_at (x:=tD (p.1,p.2,(k:Int))) hat2 (by rw[List.length_map,List.length_append];omega);refine⟨_,s',_,_,rfl,zoM e2 (i0 _) (ie _) hR hat2 ea eap,⟨_,rfl⟩,?_,(hf.trans (g2.fr l)).trans (Fr.set _ _ _)⟩;rw[List.getElem?_set_self (getElem?_lt hat2),zlx,if_pos hR];simp
     . refine⟨_,s',_,_,rfl,zmM e2 (i0 _) (ie _) hR,⟨_,rfl⟩,?_,hf.trans (g2.fr l)⟩;rw[zlx,if_neg hR];exact hat2)
 obtain⟨ρ',s',el,⟨u,rfl⟩,hat,hf⟩:=key;rw[zca] at hat;refine⟨u,s',?_,hat,hf⟩;have el':lenD [.tup (ks.map zb8)] s=some (.int (ks.length:Int),s):=by rw[zfZ,List.length_map]
 have hr:mR1 (zar lenD (zad (mBin ixA (mBin ixA (mVar 0) (mCon (.int 0))) (mCon (.int 2))) (mNil))) [some bed,some (.ref d),some (.ref l),some (plD p),a4] s=some (⟨run 0 ks.length,[]⟩,s):=by
   refine ziP (k:=ks.length) ?_ (by omega);generalize (ks.length:Int)=K at *;simp[i0,i2,el']
 unfold zbZ;rw[zdb,hr];exact el
theorem zq0{bed:D}{e w h:Int}{stk:List (Str×Int)}{ks:List (List Str)}{P:List Tl}{d:Nat}{st:Sto}(c:Ctx bed e stk ks w h)(hP:∀ t∈P,0<=t.2.2/\t.2.2 < (ks.length:Int))(hd:st[d]?=some (.dt (P.map kvOf))) :
   ∃ st',Y3 (zbP [bed,.ref d] st=some (.ref st.length,st')) (st'[st.length]?=some (.lst ((mays e stk ks P (eF P h w.toNat)).map tD))) (Gr st st'):=by
 have f1:=c.fo.w0;have f2:=c.fo.w1;have f3:=c.fo.h0;have f4:=c.fo.h1;have k13:=c.hs.hi;have hdl:=getElem?_lt hd;have hd1:(st++[O.lst []])[d]?=some (.dt (P.map kvOf)):=by rw[List.getElem?_append_left hdl];exact hd
 have a1:=zaR st (.lst []);have g1:=Gr.app st [.lst []];have l1:(st++[O.lst []]).length=st.length+1:=by simp
 generalize hs1:st++[O.lst []]=s1 at *;obtain⟨s2,e2,a2,g2⟩:=zfq c hd1;have a12:=(g2.old _ (getElem?_lt a1)).trans a1;have hd2:=(g2.old _ (getElem?_lt hd1)).trans hd1;have hlen:=zkX P h w.toNat;have h144:(eF P h w.toNat).length<=144:=Nat.le_trans hlen (Nat.mul_le_mul (show w.toNat<=12 by omega) (show h.toNat<=12 by omega));generalize eF P h w.toNat=ps at *;have bound:∀ i:Nat,(mays e stk ks P (ps.take i)).length<=9000:=fun i=>by
   have:∀ qs:List (Int×Int),(mays e stk ks P qs).length<=qs.length*13:=by
     intro qs
     induction qs with
     | nil=>simp[mays]
     | cons q qs ih =>
       have h1:=zm6 e stk ks P q.1 q.2 ks.length;have h2:(mays e stk ks P (q::qs)).length=(gK e stk ks P q.1 q.2 ks.length).length+(mays e stk ks P qs).length:=by simp[mays]
       rw[h2,List.length_cons,Nat.add_mul];omega
   have h1:=this (ps.take i);have h2:(ps.take i).length<=144:=by rw[List.length_take];omega
   omega
 have key:=zbR (W:=⟨ps.map plD,[(s1.length,ps.map plD)]⟩) (g:=gNm 3) (m:=zbZ) (ds:=ps.map plD) (ρ:=[some bed,some (.ref d),some (.ref st.length),none,none]) (st:=s2)
   (Inv:=fun i ρ s=>Y3 ((∃ a b,ρ=[some bed,some (.ref d),some (.ref st.length),a,b])) (s[st.length]?=some (.lst ((mays e stk ks P (ps.take i)).map tD))) (Fr st.length s2 s))
   ⟨⟨_,_,rfl⟩,a12,Fr.refl _ _⟩ (fun i ρ s _ hI=>zcl ((hI.h3.old _ (getElem?_lt a2) (by omega)).trans a2)) (fun i dd ρ s hdd hI=>by
     obtain⟨⟨u,v,rfl⟩,hat,hf⟩:=hI;rw[List.getElem?_map] at hdd;obtain⟨p,hp,rfl⟩:=zah hdd;obtain⟨b4,s',e',hat',hf'⟩:=zdY (st0:=[]) (p:=p) (a4:=v) c hP ((hf.old _ (getElem?_lt hd2) (by omega)).trans hd2) hat (bound i) (Nat.zero_le _) (by omega) ⟨Nat.zero_le _,fun j hj=>absurd hj (Nat.not_lt_zero _)⟩;refine⟨_,s,_,s',rfl,e',⟨_,_,rfl⟩,?_,hf.trans hf'⟩;rw[hat',List.take_add_one,hp,zmQ];simp[mays])
 obtain⟨ρ',s',el,⟨u,v,rfl⟩,hat,hf⟩:=key;rw[List.length_map,List.take_length] at hat;refine⟨s',zcy ?_,hat,?_⟩
 . generalize ps.map plD=PS at *;unfold zeN;refine zan (ρ1:=[some bed,some (.ref d),some (.ref st.length),none,none]) (s1:=s1) (by simp[hs1]) ?_;refine zan (ρ1:=[some bed,some (.ref d),some (.ref st.length),u,v]) (s1:=s') (by
     have ew:mWA (zar zbJ (zad (mVar 0) (zad (mVar 1) (mNil)))) [some bed,some (.ref d),some (.ref st.length),none,none] s1=some (⟨PS,[(s1.length,PS)]⟩,s2):=by simp[e2,zie,zbu,a2]
     rw[zdb,ew];exact el) ?_
   simp
 . have g:=g1.trans g2;exact⟨Nat.le_trans g.len hf.len,fun j hj=>(hf.old j (Nat.lt_of_lt_of_le hj g.len) (by omega)).trans (g.old j hj)⟩
end L2.MP.stickytiles_k38_sound_parts
set_option maxHeartbeats 4000000
namespace L2.MP.stickytiles_k38_sound_parts
open PySem L2.MP L2.MP.Hd
open L2.MP.Hn (zas zaA srtT zaz)
theorem zic{x lo hi:Int}{st:Sto}(h1:lo<=x)(h2:x<=hi):zcq [.int x,.int lo,.int hi] st=some (.bl true,st):=by
 refine zcy ?_;have t1:tyName st (.int x)=some "int":=rfl;have t2:subT "int" "int"=true:=by decide
 have t3:subT "int" "bool"=false:=by decide
 unfold zge;simp[zfX,t1,t2,t3,h1,h2]
theorem zlJ{ds:List D}{n:Nat}{N:Int}{st:Sto}(h:ds.length=n)(hN:N=(n:Int)):zde [.tup ds,.int N] st=some (.bl true,st):=by
 have e:lenD [.tup ds] st=some (.int N,st):=by rw[zfZ,h,hN]
 refine zcy ?_;have t1:tyName st (.tup ds)=some "tuple":=rfl;have t2:subT "tuple" "tuple"=true:=by decide
 unfold zgf;simp[t1,t2,e,eq_int]
theorem zmj{bed:D}{e w h x y:Int}{stk:List (Str×Int)}{ks:List (List Str)}{st:Sto}(c:Ctx bed e stk ks w h)(x0:0<=x)(x1:x < w)(y0:0<=y)(y1:y < h):zcr [bed,.tup [.int x,.int y]] st=some (.bl true,st):=by
 have e1:=zlJ (ds:=[.int x,.int y]) (n:=2) (N:=2) (st:=st) rfl rfl;have e2:=zic (x:=x) (lo:=0) (hi:=w - 1) (st:=st) x0 (by omega);have e3:=zic (x:=y) (lo:=0) (hi:=h - 1) (st:=st) y0 (by omega);have i0:ixA (.tup [.int x,.int y]) (.int 0) st=some (.int x,st):=zaQ (by decide) rfl;have i1:ixA (.tup [.int x,.int y]) (.int 1) st=some (.int y,st):=zaQ (by decide) rfl;have j0:ixA (.tup [.int w,.int h]) (.int 0) st=some (.int w,st):=zaQ (by decide) rfl;have j1:ixA (.tup [.int w,.int h]) (.int 1) st=some (.int h,st):=zaQ (by decide) rfl;have cf:=c.fl;refine zcy ?_;unfold zgg;refine zan (ρ1:=[some bed,some (.tup [.int x,.int y]),some (.tup [.int w,.int h])]) (s1:=st) (by simp[cf]) ?_;simp[e1,e2,e3,i0,i1,j0,j1]
theorem zo8{bed hs sl:D}{sd d ln:Nat}{x y k E R:Int}{s s1 s2:Sto}(hin:inA (.tup [.int x,.int y]) (.ref d) s=some (.bl false,s))(hp:zcr [bed,.tup [.int x,.int y]] s=some (.bl true,s))(e1:zbA [bed,.ref d,.tup [.int x,.int y]] s=some (.ref ln,s1))
   (e2:zbH [bed,.int k] s1=some (sl,s1)) (e3:zaP [.ref sd,sl,.ref ln] s1=some (.int R,s2)) (i0:ixA bed (.int 0) s2=some (hs,s2)) (ie:ixA hs (.int 0) s2=some (.int E,s2)):za2 [bed,.ref sd,.ref d,.tup [.int x,.int y,.int k]] s=some (.bl (decide (E<=R)),s2):=by
 have j2:ixA (.tup [.int x,.int y,.int k]) (.int 2) s1=some (.int k,s1):=zaQ (by decide) rfl;have es:slB (.tup [.int x,.int y,.int k]) none (some 2) s=some (.tup [.int x,.int y],s):=rfl;refine zcy ?_;unfold zcT;refine zan (ρ1:=[some bed,some (.ref sd),some (.ref d),some (.tup [.int x,.int y,.int k]),some (.tup [.int x,.int y]),none]) (s1:=s) (by simp[es]) ?_;refine zan (ρ1:=[some bed,some (.ref sd),some (.ref d),some (.tup [.int x,.int y,.int k]),some (.tup [.int x,.int y]),none]) (s1:=s) (by simp[hin,hp]) ?_;refine zan (ρ1:=[some bed,some (.ref sd),some (.ref d),some (.tup [.int x,.int y,.int k]),some (.tup [.int x,.int y]),some (.ref ln)]) (s1:=s1) (by simp[e1]) ?_;simp[j2,e2,e3,i0,ie]
noncomputable def May(e:Int)(stk:List (Str×Int))(ks:List (List Str))(w h:Int)(P:List Tl)(t:Tl):Prop:=za8 w h ks.length t/\fnd P t.1 t.2.1=none/\e<=sth stk ks P t.1 t.2.1 t.2.2.toNat
theorem zo9{bed:D}{sd d:Nat}{x y k:Int}{s:Sto}(hin:inA (.tup [.int x,.int y]) (.ref d) s=some (.bl true,s)):za2 [bed,.ref sd,.ref d,.tup [.int x,.int y,.int k]] s=some (.bl false,s):=by
 have es:slB (.tup [.int x,.int y,.int k]) none (some 2) s=some (.tup [.int x,.int y],s):=rfl;refine zcy ?_;unfold zcT;refine zan (ρ1:=[some bed,some (.ref sd),some (.ref d),some (.tup [.int x,.int y,.int k]),some (.tup [.int x,.int y]),none]) (s1:=s) (by simp[es]) ?_;refine ziG ?_;simp[hin]
theorem zpa{bed:D}{e w h:Int}{stk:List (Str×Int)}{ks:List (List Str)}{P:List Tl}{t:Tl}{sd d:Nat}{st:Sto}(c:Ctx bed e stk ks w h)(hP:∀ t∈P,0<=t.2.2/\t.2.2 < (ks.length:Int))(hd:st[d]?=some (.dt (P.map kvOf)))(hs:st[sd]?=some (.dk (stD stk)))(ht:za8 w h ks.length t) :
   ∃ (b:Bool) (st':Sto),Y3 (za2 [bed,.ref sd,.ref d,tD t] st=some (.bl b,st')) ((b=true ↔ May e stk ks w h P t)) (Gr st st'):=by
 obtain⟨x,y,k⟩:=t;have tt:=ht;obtain⟨x0,x1,y0,y1,k0,k1⟩:=ht;have k0:0<=k:=k0;have k1:k < (ks.length:Int):=k1
 cases hf:fnd P x y with
 | some k' =>
   have hin:inA (.tup [.int x,.int y]) (.ref d) st=some (.bl true,st):=by rw[znB hd,zch,hf];rfl
   refine⟨false,st,zo9 hin,⟨fun z=>(by cases z),fun z=>?_⟩,Gr.refl _⟩;have:fnd P x y=none:=z.2.1;rw[hf] at this;cases this
 | none =>
   obtain⟨hh,i0,ie,_,i2⟩:=c.at_;obtain⟨f,b0,b1,b2,b3,ek,es,hok⟩:=zcF c.ks (k:=k) k0 k1;obtain⟨s1,e1,a1,g1⟩:=zkV (x:=x) (y:=y) c.bed c.ks hP hd;have hs1:=(g1.old _ (getElem?_lt hs)).trans hs;have oN:∀ z∈names4 ks P x y,PyData.strOk z=true:=fun z hz=>by
     have:NmOk z:=by
       simp only[names4,List.mem_cons,List.not_mem_nil,or_false] at hz
       rcases hz with rfl | rfl | rfl | rfl <;> exact nm_F c.ks hP _ _
     exact zk9 this.ab
   obtain⟨s2,e2,g2⟩:=zhF (S:=sds ks k) (N:=names4 ks P x y) c.stk (by rw[es];exact Nat.le_refl _) (by rw[es];exact fun z hz=>hok z hz) oN hs1 a1;have hin:inA (.tup [.int x,.int y]) (.ref d) st=some (.bl false,st):=by rw[znB hd,zch,hf];rfl
   refine⟨_,s2,zo8 hin (zmj c x0 x1 y0 y1) e1 (zet c.bed c.ks k0 k1) e2 (i0 _) (ie _),?_,g1.trans g2⟩;rw[decide_eq_true_iff];have e3:sth stk ks P x y k.toNat=((togs (sds ks k) (names4 ks P x y)).map fun p=>sv stk p.1).sum:=by
     unfold sth;rw[Int.toNat_of_nonneg k0]
   rw[<-e3];exact⟨fun z=>⟨tt,hf,z⟩,fun z=>z.2.2⟩
end L2.MP.stickytiles_k38_sound_parts
set_option maxHeartbeats 4000000
namespace L2.MP.stickytiles_k38_sound_parts
open PySem L2.MP L2.MP.Hd
open L2.MP.Hn (zas zaA srtT zaz)
section
variable {e w h:Int} {stk:List (Str×Int)} {ks:List (List Str)}
theorem zmP{P:List Tl}{t:Tl}(hf:FlOk w h)(ht:t∈mays e stk ks P (eF P h w.toNat)):May e stk ks w h P t:=by
 have f1:=hf.w0;have f3:=hf.h0;simp only[mays,eF,eC,gK,List.mem_flatten,List.mem_map,List.mem_filter,List.mem_range] at ht;obtain⟨l,⟨p,⟨m,⟨i,hi,rfl⟩,hp⟩,rfl⟩,ht⟩:=ht;simp only[List.mem_map,List.mem_filter,List.mem_range] at hp ht;obtain⟨j,⟨hj,hok⟩,rfl⟩:=hp;obtain⟨k,⟨hk,hs⟩,rfl⟩:=ht;have hn:fnd P (i:Int) (j:Int)=none:=by
   unfold okE at hok;rw[Bool.and_eq_true] at hok;simpa using hok.1
 refine⟨⟨?_,?_,?_,?_,?_,?_⟩,hn,by simpa using hs⟩
 . show (0:Int)<=(i:Int);omega
 . show (i:Int) < w;omega
 . show (0:Int)<=(j:Int);omega
 . show (j:Int) < h;omega
 . show (0:Int)<=(k:Int);omega
 . show (k:Int) < (ks.length:Int);omega
noncomputable def zgh(e:Int)(stk:List (Str×Int))(ks:List (List Str))(w h:Int):List Tl->List Tl->Prop
 | _,[]=>True
 | P,t::R=>May e stk ks w h P t/\zgh e stk ks w h (P++[t]) R
theorem ze2:∀ {R P:List Tl} {t:Tl},zgh e stk ks w h P R->May e stk ks w h (P++R) t->zgh e stk ks w h P (R++[t])
 | [],P,t,_,hm=>⟨by simpa using hm,trivial⟩
 | u::R,P,t,hr,hm=>⟨hr.1,ze2 hr.2 (by simpa using hm)⟩
theorem zc3:∀ {R P:List Tl},zgh e stk ks w h P R->∀ t∈R,za8 w h ks.length t
 | u::R,P,hr,t,ht=>by
   rcases List.mem_cons.mp ht with rfl | ht
   . exact hr.1.1
   . exact zc3 hr.2 t ht
theorem zl9:∀ {R P:List Tl} {i:Nat} {t:Tl},zgh e stk ks w h P R->R[i]?=some t->May e stk ks w h (P++R.take i) t
 | u::R,P,0,t,hr,ht=>by
   simp at ht;subst ht;simpa using hr.1
 | u::R,P,i+1,t,hr,ht=>by
   have:=zl9 hr.2 (i:=i) (t:=t) (by simpa using ht);simpa using this
end
theorem zbS{P:List Tl}{x y:Int}:fnd P x y=none ↔ ∀ t∈P,¬ (t.1=x/\t.2.1=y):=by
 unfold fnd;simp
theorem zdX{P:List Tl}{t:Tl}(hn:fnd P t.1 t.2.1=none):putT P t=P++[t]:=by
 have h1:=zbS.mp hn;unfold putT;rw[if_neg];intro z;obtain⟨u,hu,z⟩:=List.any_eq_true.mp z;unfold zbw at z;rw[Bool.and_eq_true] at z;exact h1 u hu ⟨of_decide_eq_true z.1,of_decide_eq_true z.2⟩
theorem zoK{P:List Tl}{t:Tl}(nd:PlNd (P++[t])):fnd P t.1 t.2.1=none:=by
 refine zbS.mpr fun u hu z=>?_;have:=(List.pairwise_append.mp nd).2.2 u hu t (by simp);unfold zbw at this;simp[z.1,z.2] at this
theorem zoF{P:List Tl}{t:Tl}(nd:PlNd P)(hn:fnd P t.1 t.2.1=none):PlNd (P++[t]):=by
 refine List.pairwise_append.mpr ⟨nd,by simp,fun u hu v hv=>?_⟩;rw[List.mem_singleton.mp hv];have:=zbS.mp hn u hu;unfold zbw;simpa using this
theorem zjx:∀ {ts acc:List Tl},PlNd (acc++ts)->ts.foldl putT acc=acc++ts
 | [],acc,_=>by simp
 | t::ts,acc,nd=>by
   have nd':PlNd ((acc++[t])++ts):=by simpa using nd
   have n1:PlNd (acc++[t]):=(List.pairwise_append.mp nd').1;rw[List.foldl_cons,zdX (zoK n1),zjx nd'];simp
theorem zga{ts:List Tl}(nd:PlNd ts):byPl ts=ts:=by
 have:=zjx (ts:=ts) (acc:=[]) (by simpa using nd);simpa[byPl] using this
theorem zhg{a b:List Tl}(h:a.Perm b)(nd:PlNd b):PlNd a:=by
 refine (List.Perm.pairwise_iff (fun {x y} z=>?_) h).mpr nd;unfold zbw at *;rw[Bool.and_eq_false_iff] at *
 rcases z with z | z
 . exact .inl (by simpa using fun q=>(of_decide_eq_false z) q.symm)
 . exact .inr (by simpa using fun q=>(of_decide_eq_false z) q.symm)
theorem zgv{e w h:Int}{stk:List (Str×Int)}{ks:List (List Str)}:∀ {R P:List Tl},PlNd P->zgh e stk ks w h P R->PlNd (P++R)
 | [],P,nd,_=>by simpa using nd
 | t::R,P,nd,hr=>by
   have:=zgv (zoF nd hr.1.2.1) hr.2;simpa using this
end L2.MP.stickytiles_k38_sound_parts
set_option maxHeartbeats 4000000
namespace L2.MP.stickytiles_k38_sound_parts
open PySem L2.MP L2.MP.Hd
open L2.MP.Hn (zas zaA srtT zaz zbq zbj)
theorem ziw(ts:List Tl):zas ts=.tup (ts.map tD):=rfl
theorem zkf{ts:List Tl}(h:ts.length < 2):srtT ts=ts:=by
 have hp:=zaz ts
 match ts,h,hp with
 | [],_,hp=>exact hp.eq_nil
 | [t],_,hp=>exact List.perm_singleton.mp hp
theorem zhM{ts:List Tl}{st:Sto}(h64:ts.length < 64):zdQ [.tup (ts.map tD)] st=some (.ref st.length,st++[.lst ((srtT ts).map tD)]):=by
 have e0:zci [.tup (ts.map tD)] st=none:=rfl;unfold zdQ orN;rw[e0,zfv];unfold zeS;dsimp only
 by_cases h:ts.length < 2
 . rw[if_pos (by simpa using h),zkf h]
 . rw[if_neg (by simp;omega)];have er:rowsOf (ts.map tD)=some (ts.map rowT):=by
     have:ts.map tD=(ts.map rowT).map tupD:=by rw[List.map_map];rfl
     rw[this];exact zc2 fun r hr=>by obtain⟨t,_,rfl⟩:=List.mem_map.mp hr;simp[rowT]
   rw[er];simp only[Option.bind_some];rw[if_pos (by simp;omega),<-zbq,List.map_map];rfl
theorem zfA{st:Sto}{l:Nat}{ts:List Tl}(hl:st[l]?=some (.lst (ts.map tD)))(h64:ts.length < 64):zdQ [.ref l] st=some (.ref st.length,st++[.lst ((srtT ts).map tD)]):=by
 unfold zdQ orN;rw[zaA hl h64,zgA];rfl
theorem zks{x y k:Int}{t:Nat}{s:Sto}(hk:zkY (.ref t) (.tup [.int x,.int y]) s=some (.int k,s)):zaC [some (.tup [.int x,.int y]),some (.ref t)] s=some (.tup [.int x,.int y,.int k],s):=by
 have ea:addD (.tup [.int x,.int y]) (.tup [.int k]) s=some (.tup [.int x,.int y,.int k],s):=zhD (by simp) (by simp);unfold zaC;simp[hk,ea]
theorem zcY{P:List Tl}{d:Nat}{st:Sto}(hd:st[d]?=some (.dt (P.map kvOf)))(nd:PlNd P)(h64:P.length < 64):∃ st',zaB [.ref d] st=some (zas (srtT P),st')/\Gr st st':=by
 have hlt:=getElem?_lt hd;have ewk:znv (.ref d) st=some (⟨zcU (P.map kvOf),[]⟩,st.set d (.ft (P.map kvOf))):=by
   unfold znv;simp only[hd]
 have a3:(st.set d (.ft (P.map kvOf)))[d]?=some (.ft (P.map kvOf)):=by simp[hlt]
 have back:(st.set d (.ft (P.map kvOf))++[O.lst (P.map tD)]).set d (.dt (P.map kvOf))=st++[.lst (P.map tD)]:=by
   rw[List.set_append_left _ _ (by simpa using hlt),List.set_set]
   congr 1
   apply List.ext_getElem?;intro i
   by_cases hi:i=d
   . subst hi;rw[List.getElem?_set_self hlt,hd]
   . rw[List.getElem?_set_ne (fun z=>hi z.symm)]
 have a4:(st.set d (.ft (P.map kvOf))++[O.lst (P.map tD)])[d]?=some (.ft (P.map kvOf)):=by rw[List.getElem?_append_left (by simpa using hlt)];exact a3
 have ls:(st.set d (.ft (P.map kvOf))).length=st.length:=by simp
 generalize hs3:st.set d (.ft (P.map kvOf))=s3 at ewk a3 back a4 ls;have eit:zcU (P.map kvOf)=P.map fun t=>D.tup [.int t.1,.int t.2.1]:=by
   unfold zcU;rw[List.map_map];rfl
 have ec:mCI ⟨zcU (P.map kvOf),[]⟩ (gNm 0) zck zaC (zcU (P.map kvOf)) [none,some (.ref d)] s3=some (P.map tD,s3):=by
   rw[eit];refine zh3 (R:=fun ρ=>∃ x,ρ=[x,some (.ref d)]) ⟨none,rfl⟩ rfl fun t ht ρ hρ=>?_;obtain⟨x,rfl⟩:=hρ;have hv:=zig nd ht;have hk:zkY (.ref d) (.tup [.int t.1,.int t.2.1]) s3=some (.int t.2.2,s3):=by
     have e1:keysOf [.int t.1,.int t.2.1]=some (kvOf t).1:=rfl;simp only[zkY,zmV,a3,e1,Option.map_some,Option.bind_some,hv]
   exact⟨[some (.tup [.int t.1,.int t.2.1]),some (.ref d)],rfl,rfl,zks hk,⟨_,rfl⟩⟩
 have fl:fits (P.map tD).length=true:=zaw (by rw[List.length_map];omega);have es:=zfA (zaR st (.lst (P.map tD))) h64;have et:=zbW (zaR (st++[.lst (P.map tD)]) (.lst ((srtT P).map tD)));refine⟨st++[.lst (P.map tD)]++[.lst ((srtT P).map tD)],zcy ?_,(Gr.app _ _).trans (Gr.app _ _)⟩;have ecm:zcO (mWK (mVar 0)) 1 [0] (gNm 0) (zck) (zaC) [some (.ref d)] st=some (.ref st.length,s3++[.lst (P.map tD)]):=by
   have:mWK (mVar 0) [some (.ref d)] st=some (⟨zcU (P.map kvOf),[]⟩,s3):=ewk;rw[zaW,this];simp only[Option.bind_some];rw[show rho0 [some (D.ref d)] 1 [0]=[none,some (.ref d)] from rfl,ec];simp only[Option.bind_some,fl,if_true,ls]
 have eth:zoO 0 (zcO (mWK (mVar 0)) 1 [0] (gNm 0) (zck) (zaC)) [some (.ref d)] st=some (.ref st.length,st++[.lst (P.map tD)]):=by
   unfold zoO;simp only[List.getElem?_cons_zero,ecm,Option.bind_some];unfold zlM;rw[hd,a4];show Option.map _ (some (List.set _ _ _))=_;rw[back];rfl
 unfold zb6;rw[ziw];generalize (srtT P).map tD=B at *;generalize P.map tD=A at *;generalize st++[O.lst A]=s4 at *;generalize s4++[O.lst B]=s5 at *;simp[eth,es,et]
theorem zjW{a b:List Tl}{st:Sto}(h:a.length+b.length<=1000):addE (.tup (a.map tD)) (.tup (b.map tD)) st=some (.tup ((a++b).map tD),st):=by
 unfold addE orG
 cases a with
 | nil =>
   have e0:addD (.tup (([]:List Tl).map tD)) (.tup (b.map tD)) st=none:=rfl;rw[e0,zfv];unfold zpM;have:fits b.length=true:=zaw (by simp at h;omega);simp[this]
 | cons t a =>
   rw[zhD (by simp) (by simp at h ⊢;omega),zgA,List.map_append]
end L2.MP.stickytiles_k38_sound_parts
set_option maxHeartbeats 4000000
namespace L2.MP.stickytiles_k38_sound_parts
open PySem L2.MP L2.MP.Hd
open L2.MP.Hn (zas zaA srtT zaz zbq zbj)
noncomputable def tP(t:Tl):PyData:=.tuple [.int t.1,.int t.2.1,.int t.2.2]
theorem zfy{n:Nat}{st:Sto}:∀ ts:List Tl,toPs (toP (n+2) st) (ts.map tD)=some (ts.map tP)
 | []=>rfl
 | t::ts=>by
   have e:toP (n+2) st (tD t)=some (tP t):=by
     obtain⟨x,y,k⟩:=t;show toP (n+2) st (.tup [.int x,.int y,.int k])=_;rw[toP];simp only[toPs,toP,Option.bind_some,Option.map_some];rfl
   rw[List.map_cons,toPs,e,Option.bind_some,zfy ts];rfl
theorem zmG{l m:Nat}{ts:List Tl}{st:Sto}(hl:st[l]?=some (.lst (ts.map tD)))(hm:st[m]?=some (.lst [])):neD (.ref l) (.ref m) st=some (.bl !ts.isEmpty,st):=by
 have e:toP 100 st (.ref l)=some (.list (ts.map tP)):=by
   rw[toP];simp only[zbu,hl,Option.bind_some];rw[zfy];rfl
 unfold neD;rw[e,zdh (n:=98) (as:=[]) hm]
 cases ts <;> rfl
theorem zlG{bed t2:D}{n d l q:Nat}{a5 a6 a7:Option D}{s s1 s2:Sto}(e1:zbP [bed,.ref d] s=some (.ref q,s1))(hs2:s1++[.lst []]=s2)(en:neD (.ref q) (.ref s1.length) s2=some (.bl false,s2)) :
   za1 [some (.ref n),some bed,some t2,some (.ref d),some (.ref l),a5,a6,a7] s=some (.nx [some (.ref n),some bed,some t2,some (.ref d),some (.ref l),a5,some (.ref q),a7],s2):=by
 unfold za1;refine zan (ρ1:=[some (.ref n),some bed,some t2,some (.ref d),some (.ref l),a5,some (.ref q),a7]) (s1:=s1) (by simp[e1]) ?_;rw[zk8];simp[hs2,en]
theorem znD{bed t2:D}{n d l q:Nat}{N r x y k:Int}{L:List D}{a5 a6 a7:Option D}{s s1 s2 s3 s4 s5:Sto}(e1:zbP [bed,.ref d] s=some (.ref q,s1))(hs2:s1++[.lst []]=s2)(en:neD (.ref q) (.ref s1.length) s2=some (.bl true,s2))(el:lenD [.ref q] s2=some (.int N,s2))(ed:zac [.ref n,.int N] s2=some (.int r,s3))
   (ix:ixA (.ref q) (.int r) s3=some (.tup [.int x,.int y,.int k],s3)) (dp:dput s3 d (.tup [.int x,.int y]) (.int k)=some s4) (hl:s4[l]?=some (.lst L)) (ap:zbY (.ref l) [.tup [.int x,.int y,.int k]] s4=some (.non,s5)) :
   za1 [some (.ref n),some bed,some t2,some (.ref d),some (.ref l),a5,a6,a7] s=some (.nx [some (.ref n),some bed,some t2,some (.ref d),some (.ref l),a5,some (.ref q),some (.tup [.int x,.int y,.int k])],s5):=by
 have es:slB (.tup [.int x,.int y,.int k]) none (some 2) s3=some (.tup [.int x,.int y],s3):=rfl;have j2:ixA (.tup [.int x,.int y,.int k]) (.int 2) s3=some (.int k,s3):=zaQ (by decide) rfl;unfold za1;refine zan (ρ1:=[some (.ref n),some bed,some t2,some (.ref d),some (.ref l),a5,some (.ref q),a7]) (s1:=s1) (by simp[e1]) ?_;rw[zk8];have c0:mTst (mBin neD (mVar 6) (mLst (mNil))) [some (.ref n),some bed,some t2,some (.ref d),some (.ref l),a5,some (.ref q),a7] s1=some (true,s2):=by simp[hs2,en]
 rw[c0,Option.bind_some];show mSeq _ _ _ s2=_;refine zan (ρ1:=[some (.ref n),some bed,some t2,some (.ref d),some (.ref l),a5,some (.ref q),some (.tup [.int x,.int y,.int k])]) (s1:=s3) (by simp[el,ed,ix]) ?_;refine zan (ρ1:=[some (.ref n),some bed,some t2,some (.ref d),some (.ref l),a5,some (.ref q),some (.tup [.int x,.int y,.int k])]) (s1:=s4) ?_ (by simp[zbu,hl,ap]);rw[zgQ];have c1:mAsg (mBin ixA (mVar 7) (mCon (.int 2))) (gSb setD (mVar 3) (mSlB (mVar 7) (zlo) (zln (mCon (.int 2))))) [some (.ref n),some bed,some t2,some (.ref d),some (.ref l),a5,some (.ref q),some (.tup [.int x,.int y,.int k])] s3=none:=by
   simp[es,j2,setD]
 rw[c1,zfv];unfold zjZ;simp[es,j2,dp]
structure WInv(n d l m:Nat)(P R:List Tl)(st0 s:Sto):Prop where
 at_:s[d]?=some (.dt ((P++R).map kvOf))
 row:s[l]?=some (.lst (R.map tD))
 pot:PotD n m s
 fr:Fr n st0 s
theorem zj4{bed t2:D}{e w h:Int}{stk:List (Str×Int)}{ks:List (List Str)}{n d l m:Nat}{P R:List Tl}{a5 a6 a7:Option D}{st0 s:Sto}(c:Ctx bed e stk ks w h)(q:WInv n d l m P R st0 s)(hP:∀ t∈P,za8 w h ks.length t)(hr:zgh e stk ks w h P R)(hd:st0.length<=d)(hl:st0.length<=l)(hdl:d≠l)(hdn:d≠n)(hln:l≠n)(hlen:P.length+R.length<=100)(hm:m<=900000) :
   ∃ (R':List Tl) (b6 b7:Option D) (s':Sto),Y4 (za1 [some (.ref n),some bed,some t2,some (.ref d),some (.ref l),a5,a6,a7] s=some (.nx [some (.ref n),some bed,some t2,some (.ref d),some (.ref l),a5,b6,b7],s')) (WInv n d l (m+1) P R' st0 s') (zgh e stk ks w h P R') (R'.length<=R.length+1):=by
 have hK:∀ t∈P++R,0<=t.2.2/\t.2.2 < (ks.length:Int):=fun t hh=>by
   have:za8 w h ks.length t:=by
     rcases List.mem_append.mp hh with hh | hh
     . exact hP t hh
     . exact zc3 hr t hh
   exact⟨this.2.2.2.2.1,this.2.2.2.2.2⟩
 obtain⟨s1,e1,a1,g1⟩:=zq0 c hK q.at_;have g2:Gr s (s1++[.lst []]):=g1.trans (Gr.app _ _);have a2:(s1++[O.lst []])[s.length]?=some (.lst ((mays e stk ks (P++R) (eF (P++R) h w.toNat)).map tD)):=by rw[List.getElem?_append_left (getElem?_lt a1)];exact a1
 have b2:=zaR s1 (.lst []);have hmm:∀ t∈mays e stk ks (P++R) (eF (P++R) h w.toNat),May e stk ks w h (P++R) t:=fun t ht=>zmP c.fo ht;generalize hM:mays e stk ks (P++R) (eF (P++R) h w.toNat)=M at a1 a2 hmm;have en:=zmG a2 b2;generalize hs2:s1++[O.lst []]=s2 at *;have at2:=(g2.old _ (getElem?_lt q.at_)).trans q.at_;have row2:=(g2.old _ (getElem?_lt q.row)).trans q.row;have pot2:=q.pot.gr g2;have fr2:=q.fr.trans (g2.fr n)
 cases hc:M with
 | nil =>
   rw[hc] at en;exact⟨R,_,_,s2,zlG e1 hs2 en,⟨at2,row2,pot2.up (by omega),fr2⟩,hr,by omega⟩
 | cons u M' =>
   rw[hc] at en;have hML:0 < M.length:=by rw[hc];simp
   have hsz:M.length < 100000:=by
     have bound:∀ qs:List (Int×Int),(mays e stk ks (P++R) qs).length<=qs.length*13:=by
       intro qs;have k13:=c.hs.hi
       induction qs with
       | nil=>simp[mays]
       | cons z qs ih =>
         have h1:=zm6 e stk ks (P++R) z.1 z.2 ks.length;have h2:(mays e stk ks (P++R) (z::qs)).length=(gK e stk ks (P++R) z.1 z.2 ks.length).length+(mays e stk ks (P++R) qs).length:=by simp[mays]
         rw[h2,List.length_cons,Nat.add_mul];omega
     have f2:=c.fo.w1;have f4:=c.fo.h1;have h144:(eF (P++R) h w.toNat).length<=144:=Nat.le_trans (zkX (P++R) h w.toNat) (Nat.mul_le_mul (show w.toNat<=12 by omega) (show h.toNat<=12 by omega));have:=bound (eF (P++R) h w.toNat);rw[hM] at this;omega
   have el:lenD [.ref s.length] s2=some (.int (M.length:Int),s2):=by rw[zhl a2,List.length_map]
   have sq:s.length≠n:=q.pot.ne;obtain⟨r,s3,e3,r0,r1,p3,f3⟩:=zaV (many:=(M.length:Int)) pot2 (by omega) (by omega) (by omega);have a3:=(f3.old _ (getElem?_lt a2) sq).trans a2;have hrn:r.toNat < M.length:=by omega
   have hxt:(M.map tD)[r.toNat]?=some (tD M[r.toNat]):=by rw[List.getElem?_map,List.getElem?_eq_getElem hrn];rfl
   have ix:=zco a3 r0 hxt;have hmt:=hmm _ (List.getElem_mem hrn);generalize M[r.toNat]=t at ix hmt;obtain⟨x,y,k⟩:=t;have at3:=(f3.old _ (getElem?_lt at2) hdn).trans at2;have row3:=(f3.old _ (getElem?_lt row2) hln).trans row2;have dp:=zd5 (x:=x) (y:=y) (k:=k) at3 (by simp;omega);rw[zdX hmt.2.1,List.append_assoc] at dp;have row4:(s3.set d (.dt ((P++(R++[(x,y,k)])).map kvOf)))[l]?=some (.lst (R.map tD)):=by rw[List.getElem?_set_ne hdl];exact row3
   have ap:=append_at (x:=tD (x,y,k)) row4 (by rw[List.length_map];omega);have dlt:=getElem?_lt at3;have llt:=getElem?_lt row3;have fr3:=fr2.trans f3;refine⟨R++[(x,y,k)],_,_,_,znD e1 hs2 en el e3 ix dp row4 ap,⟨?_,?_,?_,?_⟩,ze2 hr hmt,by simp⟩
   . rw[List.getElem?_set_ne (Ne.symm hdl),List.getElem?_set_self dlt]
   . rw[List.getElem?_set_self (by simpa using llt)];simp
   . exact (p3.set hdn).set hln
   . exact⟨by have:=fr3.len;simpa using this,fun j hj nj=>by rw[List.getElem?_set_ne (by omega),List.getElem?_set_ne (by omega)];exact fr3.old j hj nj⟩
theorem znE{e w h:Int}{stk:List (Str×Int)}{ks:List (List Str)}{n m:Nat}{sd:List Tl}{st:Sto}(c:Ctx (bedD e stk ks w h sd) e stk ks w h)(hp:PotD n m st)(hm:m<=800000)(hsd:∀ t∈sd,za8 w h ks.length t)(nd:PlNd sd)(hl:sd.length<=6) :
   ∃ (R:List Tl) (st':Sto),Y5 (zbT [.ref n,bedD e stk ks w h sd,.int 12] st=some (.tup (R.map tD),st')) (zgh e stk ks w h sd R) (R.length<=12) (PotD n (m+12) st') (Fr n st st'):=by
 obtain⟨d,s1,e1,a1,hd,g1⟩:=zfl (ts:=sd) (st:=st) (by omega);rw[zga nd] at a1;have hn:=hp.lt;have hdl:=getElem?_lt a1;have a2:(s1++[O.lst []])[d]?=some (.dt ((sd++[]).map kvOf)):=by rw[List.getElem?_append_left hdl,List.append_nil];exact a1
 have b2:(s1++[O.lst []])[s1.length]?=some (.lst (([]:List Tl).map tD)):=zaR s1 _;have g2:Gr st (s1++[O.lst []]):=g1.trans (Gr.app _ _);have hl1:=g1.len;have key:=zbR (W:=⟨run 0 12,[]⟩) (g:=gNm 5) (m:=za1) (ds:=run 0 12) (ρ:=[some (.ref n),some (bedD e stk ks w h sd),some (.int 12),some (.ref d),some (.ref s1.length),none,none,none]) (st:=s1++[O.lst []])
   (Inv:=fun k ρ s=>(∃ a5 a6 a7,ρ=[some (.ref n),some (bedD e stk ks w h sd),some (.int 12),some (.ref d),some (.ref s1.length),a5,a6,a7])/\∃ R,WInv n d s1.length (m+k) sd R st s/\zgh e stk ks w h sd R/\R.length<=k)
   ⟨⟨_,_,_,rfl⟩,[],⟨a2,b2,hp.gr g2,g2.fr n⟩,trivial,Nat.le_refl _⟩ (fun _ _ _ _ _=>rfl) (fun k dd ρ s hdd hI=>by
     obtain⟨⟨a5,a6,a7,rfl⟩,R,q,hr,hR⟩:=hI;obtain⟨hk,rfl⟩:=zdW hdd;obtain⟨R',b6,b7,s',e,q',hr',hR'⟩:=zj4 (t2:=.int 12) (a5:=some (.int (k:Int))) (a6:=a6) (a7:=a7) c q hsd hr hd hl1 (by omega) (by omega) (by omega) (by omega) (by omega);exact⟨_,s,_,s',rfl,e,⟨_,_,_,rfl⟩,R',q',hr',by omega⟩)
 obtain⟨ρ',s',el,⟨a5,a6,a7,rfl⟩,R,q,hr,hR⟩:=key;rw[zca] at hR q;have et:=zbW q.row;have x2:∀ s:Sto,ixA (bedD e stk ks w h sd) (.int 2) s=some (zas sd,s):=fun s=>zaQ (by decide) rfl;refine⟨R,s',zcy ?_,hr,hR,q.pot,q.fr⟩;unfold zef;generalize bedD e stk ks w h sd=bed at *;have hr1:mR1 (mVar 2) [some (.ref n),some bed,some (.int 12),some (.ref d),some (.ref s1.length),none,none,none] (s1++[O.lst []])=some (⟨run 0 12,[]⟩,s1++[O.lst []]):=ziP (k:=12) rfl (by omega);refine zan (ρ1:=[some (.ref n),some bed,some (.int 12),some (.ref d),some (.ref s1.length),none,none,none]) (s1:=s1++[O.lst []]) (by simp[x2,e1]) ?_;refine zan (ρ1:=[some (.ref n),some bed,some (.int 12),some (.ref d),some (.ref s1.length),a5,a6,a7]) (s1:=s') (by rw[zdb,hr1];exact el) ?_;simp[et]
end L2.MP.stickytiles_k38_sound_parts
set_option maxHeartbeats 4000000
namespace L2.MP.stickytiles_k38_sound_parts
open PySem L2.MP L2.MP.Hd
open L2.MP.Hn (zas zaA srtT zaz zbq zbj)
noncomputable def Sub(P Q:List Tl):Prop:=∀ x y k,fnd P x y=some k->fnd Q x y=some k
theorem zhd{ks:List (List Str)}{P Q:List Tl}(h:Sub P Q)(p:Int×Int)(j:Nat):nmF ks P p j=""\/nmF ks P p j=nmF ks Q p j:=by
 unfold nmF
 cases e:fnd P p.1 p.2 with
 | none=>exact .inl rfl
 | some k=>rw[h _ _ _ e];exact .inr rfl
theorem zoB{ks:List (List Str)}{S:List Str}{P Q:List Tl}{x y:Int}{j:Nat}(h:Sub P Q)(hj:okJ S (names4 ks P x y) j=true):okJ S (names4 ks Q x y) j=true:=by
 unfold okJ at *;rw[Bool.and_eq_true] at *;refine⟨hj.1,?_⟩;have key:(names4 ks P x y).getD j ""=""\/(names4 ks P x y).getD j ""=(names4 ks Q x y).getD j "":=by
   unfold names4
   match j with
   | 0=>exact zhd h _ _
   | 1=>exact zhd h _ _
   | 2=>exact zhd h _ _
   | 3=>exact zhd h _ _
   | n+4=>exact .inl rfl
 rcases key with e | e
 . rw[e] at hj;have h1:=hj.1;unfold bne at h1;rw[hj.2] at h1;cases h1
 . rw[<-e];exact hj.2
theorem zlb{f:Nat->Int}{p q:Nat->Bool}(h0:∀ i,q i=true->0<=f i)(h:∀ i,p i=true->q i=true):∀ l:List Nat,((l.filter p).map f).sum<=((l.filter q).map f).sum
 | []=>by simp
 | i::l=>by
   have ih:=zlb h0 h l
   cases ep:p i with
   | true=>simp[ep,h i ep];omega
   | false =>
     cases eq:q i with
     | true=>have hi:=h0 i eq;simp[ep,eq];omega
     | false=>simpa[ep,eq] using ih
theorem zlP{bed:D}{e w h x y:Int}{stk:List (Str×Int)}{ks:List (List Str)}{P Q:List Tl}{k:Nat}(c:Ctx bed e stk ks w h)(hs:Sub P Q)(hk:k < ks.length):sth stk ks P x y k<=sth stk ks Q x y k:=by
 obtain⟨f,b0,b1,b2,b3,ek,es,hok⟩:=zcF c.ks (k:=(k:Int)) (by omega) (by omega);rw[<-zkb (P:=P) (by rw[es];rfl),<-zkb (P:=Q) (by rw[es];rfl)];unfold alike;refine zlb (fun i hi=>?_) (fun i hi=>zoB hs hi) _;unfold okJ at hi;rw[Bool.and_eq_true] at hi;have hne:=hi.1;have hm:(sds ks (k:Int)).getD i ""∈sds ks (k:Int):=by
   rw[List.getD_eq_getElem?_getD] at hne ⊢
   cases q:(sds ks (k:Int))[i]? with
   | none=>rw[q] at hne;exact absurd hne (by decide)
   | some z=>exact List.mem_of_getElem? q
 rw[es] at hm
 rcases (hok _ hm).2 with z | z
 . rw[es,z] at hne;exact absurd hne (by decide)
 . have:=(znM c.stk z).2.1;rw[es];omega
theorem zd3{P:List Tl}{x y k:Int}(h:fnd P x y=some k):(x,y,k)∈P:=by
 unfold fnd at h;obtain⟨t,e,rfl⟩:=zah h;have h1:=List.find?_some e;have h2:=List.mem_of_find?_eq_some e;rw[Bool.and_eq_true] at h1;rw[<-of_decide_eq_true h1.1,<-of_decide_eq_true h1.2];exact h2
theorem zeD{P:List Tl}{t:Tl}(nd:PlNd P)(h:t∈P):fnd P t.1 t.2.1=some t.2.2:=by
 have h1:=zig nd h;have h2:=zch t.1 t.2.1 P;rw[show valD (P.map kvOf) [.inl t.1,.inl t.2.1]=some (.int t.2.2) from h1] at h2
 cases e:fnd P t.1 t.2.1 with
 | none=>rw[e] at h2;cases h2
 | some k=>rw[e] at h2;simp at h2;rw[h2]
theorem zpV{sd A B:List Tl}(h:∀ t∈A,t∈B)(nd:PlNd (sd++B)):Sub (sd++A) (sd++B):=fun x y k hf=>by
 refine zeD (t:=(x,y,k)) nd ?_
 rcases List.mem_append.mp (zd3 hf) with z | z
 . exact List.mem_append_left _ z
 . exact List.mem_append_right _ (h _ z)
section
variable {bed:D} {e w h:Int} {stk:List (Str×Int)} {ks:List (List Str)} {sd T:List Tl}
structure Cl(e:Int)(stk:List (Str×Int))(ks:List (List Str))(w h:Int)(sd T R:List Tl):Prop where
 row:zgh e stk ks w h sd R
 sub:∀ t∈R,t∈T
 sat:∀ t∈T,¬ May e stk ks w h (sd++R) t
theorem zrp{A B:List Tl}(c:Ctx bed e stk ks w h)(ndT:PlNd T)(nds:PlNd sd)(hr:zgh e stk ks w h sd A)(hA:∀ t∈A,t∈T)(hB:Cl e stk ks w h sd T B):∀ i:Nat,∀ t∈A.take i,t∈B
 | 0,t,ht=>by simp at ht
 | i+1,t,ht=>by
   have ih:=zrp c ndT nds hr hA hB i;rw[List.take_add_one,List.mem_append] at ht
   rcases ht with ht | ht
   . exact ih t ht
   . have ht:A[i]?=some t:=by
       cases q:A[i]? with
       | none=>rw[q] at ht;cases ht
       | some z=>rw[q] at ht;rw[List.mem_singleton.mp ht]
     have hm:=zl9 hr ht;have hT:=hA t (List.mem_of_getElem? ht);have nd2:=zgv nds hB.row;have k0:=hm.1.2.2.2.2.1;have k1:=hm.1.2.2.2.2.2
     cases q:fnd (sd++B) t.1 t.2.1 with
     | none=>exact absurd ⟨hm.1,q,Int.le_trans hm.2.2 (zlP c (zpV ih nd2) (by omega))⟩ (hB.sat t hT)
     | some k =>
       rcases List.mem_append.mp (zd3 q) with z | z
       . exact absurd ⟨rfl,rfl⟩ (zbS.mp hm.2.1 _ (List.mem_append_left _ z))
       . have h1:=zeD ndT hT;have h2:=zeD ndT (hB.sub _ z);have h2:fnd T t.1 t.2.1=some k:=h2;rw[h1] at h2;cases h2;exact z
theorem zi8{l:List Tl}(nd:PlNd l):l.Nodup:=by
 refine List.Pairwise.imp (fun {a b} z q=>?_) nd;subst q;unfold zbw at z;simp at z
theorem zjH{A B:List Tl}(c:Ctx bed e stk ks w h)(ndT:PlNd T)(nds:PlNd sd)(hA:Cl e stk ks w h sd T A)(hB:Cl e stk ks w h sd T B):srtT (sd++A)=srtT (sd++B):=by
 refine zbj (List.Perm.append_left sd ((List.perm_ext_iff_of_nodup ?_ ?_).mpr fun t=>⟨fun z=>?_,fun z=>?_⟩))
 . exact zi8 (List.pairwise_append.mp (zgv nds hA.row)).2.1
 . exact zi8 (List.pairwise_append.mp (zgv nds hB.row)).2.1
 . exact zrp c ndT nds hA.row hA.sub hB A.length t (by rw[List.take_length];exact z)
 . exact zrp c ndT nds hB.row hB.sub hA B.length t (by rw[List.take_length];exact z)
theorem zph{A:List Tl}(hA:Cl e stk ks w h sd T A):Cl e stk ks w h sd (srtT (sd++A)) A:=by
 refine⟨hA.row,fun t ht=>(zaz _).mem_iff.mpr (List.mem_append_right _ ht),fun t ht z=>?_⟩;exact zbS.mp z.2.1 t ((zaz _).mem_iff.mp ht) ⟨rfl,rfl⟩
end
noncomputable def free(T P:List Tl):Nat:=(T.filter fun t=>(fnd P t.1 t.2.1).isNone).length
theorem filter_lt{α:Type}{p q:α->Bool}(h:∀ a,p a=true->q a=true):∀ {l:List α},(l.filter p).length<=(l.filter q).length/\((∃ a∈l,q a=true/\p a=false)->(l.filter p).length+1<=(l.filter q).length)
 | []=>⟨Nat.le_refl _,fun⟨a,ha,_⟩=>by cases ha⟩
 | a::l=>by
   obtain⟨i1,i2⟩:=filter_lt h (l:=l)
   cases ep:p a with
   | true =>
     have eq:=h a ep;simp only[List.filter_cons,ep,eq,if_true,List.length_cons];refine⟨by omega,?_⟩;rintro ⟨b,hb,z⟩
     rcases List.mem_cons.mp hb with rfl | hb
     . rw[ep] at z;cases z.2
     . have:=i2 ⟨b,hb,z⟩;omega
   | false =>
     cases eq:q a with
     | true =>
       simp only[List.filter_cons,ep,eq,if_true,List.length_cons,Bool.false_eq_true,if_false];exact⟨by omega,fun _=>by omega⟩
     | false =>
       simp only[List.filter_cons,ep,eq,Bool.false_eq_true,if_false];refine⟨i1,?_⟩;rintro ⟨b,hb,z⟩
       rcases List.mem_cons.mp hb with rfl | hb
       . rw[eq] at z;cases z.1
       . exact i2 ⟨b,hb,z⟩
theorem zjw{T P:List Tl}{t:Tl}(ht:t∈T)(hn:fnd P t.1 t.2.1=none):free T (P++[t])+1<=free T P:=by
 refine (filter_lt (fun u hu=>?_)).2 ⟨t,ht,by rw[hn];rfl,?_⟩
 . have h1:fnd (P++[t]) u.1 u.2.1=none:=by simpa using hu
   have h2:=zbS.mp h1;have:fnd P u.1 u.2.1=none:=zbS.mpr fun v hv=>h2 v (List.mem_append_left _ hv);rw[this];rfl
 . cases q:fnd (P++[t]) t.1 t.2.1 with
   | none=>exact absurd ⟨rfl,rfl⟩ (zbS.mp q t (by simp))
   | some k=>rfl
theorem zly(T P:List Tl):free T P<=T.length:=List.length_filter_le _ _
end L2.MP.stickytiles_k38_sound_parts
set_option maxHeartbeats 4000000
namespace L2.MP.stickytiles_k38_sound_parts
open PySem L2.MP L2.MP.Hd
open L2.MP.Hn (zas zaA srtT zaz zbq zbj zfp)
theorem zjv{st s:Sto}{n:Nat}{o:O}(g:Gr st s)(h:st.length<=n):Gr st (s.set n o):=⟨by rw[List.length_set];exact g.len,fun j hj=>by rw[List.getElem?_set_ne (by omega)];exact g.old j hj⟩
noncomputable def zkC(p:Int×Int):List (Int×Int):=[(p.1,p.2+1),(p.1+1,p.2),(p.1,p.2 - 1),(p.1 - 1,p.2)]
noncomputable def zjY(T:List Tl)(p:Int×Int):List (Int×Int):=(zkC p).filter fun a=>(fnd T a.1 a.2).isSome
theorem zfi(T:List Tl)(p:Int×Int):(zjY T p).length<=4:=List.length_filter_le _ _
theorem zhs{P:List Tl}{t:Tl}{x y:Int}(h:¬ (t.1=x/\t.2.1=y)):fnd (P++[t]) x y=fnd P x y:=by
 unfold fnd;rw[List.find?_append];have:[t].find? (fun t=>decide (t.1=x)&&decide (t.2.1=y))=none:=by
   rw[List.find?_eq_none];intro u hu;rw[List.mem_singleton.mp hu];simpa using h
 rw[this,Option.or_none]
theorem zkD{ks:List (List Str)}{P:List Tl}{t:Tl}{x y:Int}(h:(x,y) ∉ zkC (t.1,t.2.1)):names4 ks (P++[t]) x y=names4 ks P x y:=by
 simp only[zkC,List.mem_cons,List.not_mem_nil,or_false,Prod.mk.injEq,not_or] at h;obtain⟨h0,h1,h2,h3⟩:=h;unfold names4 nmF;rw[zhs (x:=x) (y:=y+1) (by omega),zhs (x:=x+1) (y:=y) (by omega),zhs (x:=x) (y:=y - 1) (by omega),zhs (x:=x - 1) (y:=y) (by omega)]
section
variable {bed tl:D} {e w h:Int} {stk:List (Str×Int)} {ks:List (List Str)} {sd T:List Tl} {a2 d3 d4 l5 l6:Nat}
theorem zl8{R:List Tl}{t u:Tl}(hu:u∈T)(ndT:PlNd T)(hm:May e stk ks w h (sd++(R++[t])) u):May e stk ks w h (sd++R) u\/(u.1,u.2.1)∈zjY T (t.1,t.2.1):=by
 rw[<-List.append_assoc] at hm;have hn:fnd (sd++R) u.1 u.2.1=none:=by
   have h2:=zbS.mp hm.2.1;exact zbS.mpr fun v hv=>h2 v (List.mem_append_left _ hv)
 by_cases hx:(u.1,u.2.1)∈zkC (t.1,t.2.1)
 . refine .inr (List.mem_filter.mpr ⟨hx,?_⟩);have:fnd T u.1 u.2.1=some u.2.2:=zeD ndT hu;rw[this];rfl
 . refine .inl ⟨hm.1,hn,?_⟩;have h3:=hm.2.2;unfold sth at h3 ⊢;rw[zkD hx] at h3;exact h3
structure RI(a2 d3 d4 l5 l6:Nat)(stk:List (Str×Int))(sd T R:List Tl)(A:List (Int×Int))(st0 s:Sto):Prop where
 h2:s[a2]?=some (.dk (stD stk))
 h3:s[d3]?=some (.dt ((sd++R).map kvOf))
 h4:s[d4]?=some (.dt (T.map kvOf))
 h5:s[l5]?=some (.lst (R.map tD))
 h6:s[l6]?=some (.lst (A.map plD))
 fr:Gr st0 s
theorem zpw{L:List D}{x y k:Int}{a7 a8:Option D}{s s1 s2:Sto}(hl:s[l6]?=some (.lst L))(e0:zlk (.ref l6) [] s=some (.tup [.int x,.int y],s1))(ik:ixA (.ref d4) (.tup [.int x,.int y]) s1=some (.int k,s1))(eg:za2 [bed,.ref a2,.ref d3,.tup [.int x,.int y,.int k]] s1=some (.bl false,s2)) :
   zaZ [some bed,some tl,some (.ref a2),some (.ref d3),some (.ref d4),some (.ref l5),some (.ref l6),a7,a8] s=some (.nx [some bed,some tl,some (.ref a2),some (.ref d3),some (.ref d4),some (.ref l5),some (.ref l6),some (.tup [.int x,.int y]),some (.tup [.int x,.int y,.int k])],s2):=by
 have i0:ixA (.tup [.int x,.int y]) (.int 0) s1=some (.int x,s1):=zaQ (by decide) rfl;have i1:ixA (.tup [.int x,.int y]) (.int 1) s1=some (.int y,s1):=zaQ (by decide) rfl;unfold zaZ;refine zan (ρ1:=[some bed,some tl,some (.ref a2),some (.ref d3),some (.ref d4),some (.ref l5),some (.ref l6),some (.tup [.int x,.int y]),a8]) (s1:=s1) (by simp[zlD,zbu,hl,e0]) ?_;refine zan (ρ1:=[some bed,some tl,some (.ref a2),some (.ref d3),some (.ref d4),some (.ref l5),some (.ref l6),some (.tup [.int x,.int y]),some (.tup [.int x,.int y,.int k])]) (s1:=s1) (by simp[i0,i1,ik]) ?_;simp[eg]
theorem znt{L L5 L6:List D}{m:Nat}{x y k:Int}{a7 a8:Option D}{s s1 s2 s3 s4 s5 s6:Sto}(hl:s[l6]?=some (.lst L))(e0:zlk (.ref l6) [] s=some (.tup [.int x,.int y],s1))(ik:ixA (.ref d4) (.tup [.int x,.int y]) s1=some (.int k,s1))(eg:za2 [bed,.ref a2,.ref d3,.tup [.int x,.int y,.int k]] s1=some (.bl true,s2))
   (h5:s2[l5]?=some (.lst L5)) (ea:zbY (.ref l5) [.tup [.int x,.int y,.int k]] s2=some (.non,s3)) (ik3:ixA (.ref d4) (.tup [.int x,.int y]) s3=some (.int k,s3)) (dp:dput s3 d3 (.tup [.int x,.int y]) (.int k)=some s4)
   (ec:∀ a8:Option D,zcO (mWA (zar zay (zad (mVar 7) (mNil)))) 1 [4] (gNm 0) (zbG) (zb4) [some bed,some tl,some (.ref a2),some (.ref d3),some (.ref d4),some (.ref l5),some (.ref l6),some (.tup [.int x,.int y]),a8] s4=some (.ref m,s5)) (h6:s4[l6]?=some (.lst L6)) (ex:zdv (.ref l6) [.ref m] s5=some (.non,s6)) :
   zaZ [some bed,some tl,some (.ref a2),some (.ref d3),some (.ref d4),some (.ref l5),some (.ref l6),a7,a8] s=some (.nx [some bed,some tl,some (.ref a2),some (.ref d3),some (.ref d4),some (.ref l5),some (.ref l6),some (.tup [.int x,.int y]),some (.tup [.int x,.int y,.int k])],s6):=by
 have i0:ixA (.tup [.int x,.int y]) (.int 0) s1=some (.int x,s1):=zaQ (by decide) rfl;have i1:ixA (.tup [.int x,.int y]) (.int 1) s1=some (.int y,s1):=zaQ (by decide) rfl;unfold zaZ;refine zan (ρ1:=[some bed,some tl,some (.ref a2),some (.ref d3),some (.ref d4),some (.ref l5),some (.ref l6),some (.tup [.int x,.int y]),a8]) (s1:=s1) (by simp[zlD,zbu,hl,e0]) ?_;refine zan (ρ1:=[some bed,some tl,some (.ref a2),some (.ref d3),some (.ref d4),some (.ref l5),some (.ref l6),some (.tup [.int x,.int y]),some (.tup [.int x,.int y,.int k])]) (s1:=s1) (by simp[i0,i1,ik]) ?_;rw[zk8];have c0:mTst (zar za2 (zad (mVar 0) (zad (mVar 2) (zad (mVar 3) (zad (mVar 8) (mNil)))))) [some bed,some tl,some (.ref a2),some (.ref d3),some (.ref d4),some (.ref l5),some (.ref l6),some (.tup [.int x,.int y]),some (.tup [.int x,.int y,.int k])] s1=some (true,s2):=by simp[eg]
 rw[c0,Option.bind_some];show mSeq _ _ _ s2=_;refine zan (ρ1:=[some bed,some tl,some (.ref a2),some (.ref d3),some (.ref d4),some (.ref l5),some (.ref l6),some (.tup [.int x,.int y]),some (.tup [.int x,.int y,.int k])]) (s1:=s3) (by simp[zbu,h5,ea]) ?_;refine zan (ρ1:=[some bed,some tl,some (.ref a2),some (.ref d3),some (.ref d4),some (.ref l5),some (.ref l6),some (.tup [.int x,.int y]),some (.tup [.int x,.int y,.int k])]) (s1:=s4) ?_ (by simp[zru,zbu,h6,ec,ex]);rw[zgQ];have c1:mAsg (mBin ixA (mVar 4) (mVar 7)) (gSb setD (mVar 3) (mVar 7)) [some bed,some tl,some (.ref a2),some (.ref d3),some (.ref d4),some (.ref l5),some (.ref l6),some (.tup [.int x,.int y]),some (.tup [.int x,.int y,.int k])] s3=none:=by
   simp[ik3,setD]
 rw[c1,zfv];unfold zjZ;simp[ik3,dp]
theorem zmF{p:Int×Int}{a0 a1 b2 b3 b5 b6 a8:Option D}{s:Sto}(h4:s[d4]?=some (.dt (T.map kvOf))):zcO (mWA (zar zay (zad (mVar 7) (mNil)))) 1 [4] (gNm 0) (zbG) (zb4) [a0,a1,b2,b3,some (.ref d4),b5,b6,some (plD p),a8] s=some (.ref s.length,s++[.lst ((zjY T p).map plD)]):=by
 have ec:mCI ⟨(zkC p).map plD,[]⟩ (gNm 0) zbG zb4 ((zkC p).map plD) [none,some (.ref d4)] s=some ((zjY T p).map plD,s):=by
   refine zft (R:=fun ρ=>∃ x,ρ=[x,some (.ref d4)]) ⟨none,rfl⟩ rfl fun a ha ρ hρ=>?_;obtain⟨x,rfl⟩:=hρ;have hin:=znB (x:=a.1) (y:=a.2) h4;rw[zch,Option.isSome_map] at hin;refine⟨[some (plD a),some (.ref d4)],rfl,?_,fun _=>rfl,⟨_,rfl⟩⟩;have hin:inA (plD a) (.ref d4) s=some (.bl (fnd T a.1 a.2).isSome,s):=hin;unfold zbG;generalize plD a=A at *;simp[hin]
 have fl:fits ((zjY T p).map plD).length=true:=zaw (by rw[List.length_map];have:=zfi T p;omega);have ea:=zhC (x:=p.1) (y:=p.2) (st:=s);have ea:zay [plD p] s=some (.tup ((zkC p).map plD),s):=ea;have hw:mWA (zar zay (zad (mVar 7) (mNil))) [a0,a1,b2,b3,some (.ref d4),b5,b6,some (plD p),a8] s=some (⟨(zkC p).map plD,[]⟩,s):=by
   generalize (zkC p).map plD=N at *;generalize plD p=A at *;simp[ea,zie]
 rw[zaW,hw];simp only[Option.bind_some];rw[show rho0 [a0,a1,b2,b3,some (D.ref d4),b5,b6,some (plD p),a8] 1 [4]=[none,some (.ref d4)] from rfl,ec];simp only[Option.bind_some,fl,if_true]
theorem zmh{A:List (Int×Int)}{p:Int×Int}{n:Nat}{s:Sto}(h:s[n]?=some (.lst ((A++[p]).map plD))):zlk (.ref n) [] s=some (plD p,s.set n (.lst (A.map plD))):=by
 unfold zlk;simp[h]
theorem zjU{R:List Tl}{A:List (Int×Int)}{p:Int×Int}{k:Int}{a7 a8:Option D}{st0 s:Sto}(c:Ctx bed e stk ks w h)(hn:st0.length<=a2/\a2 < d3/\d3 < d4/\d4 < l5/\l5 < l6)(q:RI a2 d3 d4 l5 l6 stk sd T R (A++[p]) st0 s)(hp:(p.1,p.2,k)∈T)(hT:∀ t∈T,za8 w h ks.length t)(hsd:∀ t∈sd,za8 w h ks.length t)(ndT:PlNd T)(hr:zgh e stk ks w h sd R)(hlen:sd.length+R.length<=900)(hA:A.length<=9000) :
   ∃ (b7 b8:Option D) (s':Sto) (R':List Tl) (A':List (Int×Int)),Y3 (zaZ [some bed,some tl,some (.ref a2),some (.ref d3),some (.ref d4),some (.ref l5),some (.ref l6),a7,a8] s=some (.nx [some bed,some tl,some (.ref a2),some (.ref d3),some (.ref d4),some (.ref l5),some (.ref l6),b7,b8],s')) (RI a2 d3 d4 l5 l6 stk sd T R' A' st0 s') (((R'=R/\A'=A/\¬ May e stk ks w h (sd++R) (p.1,p.2,k))\/(R'=R++[(p.1,p.2,k)]/\A'=A++zjY T p/\May e stk ks w h (sd++R) (p.1,p.2,k)))):=by
 obtain⟨n0,n1,n2,n3,n4⟩:=hn;have e0:=zmh q.h6;have l6lt:=getElem?_lt q.h6;have hK:∀ t∈sd++R,0<=t.2.2/\t.2.2 < (ks.length:Int):=fun t hh=>by
   have:za8 w h ks.length t:=by
     rcases List.mem_append.mp hh with hh | hh
     . exact hsd t hh
     . exact zc3 hr t hh
   exact⟨this.2.2.2.2.1,this.2.2.2.2.2⟩
 have x2:(s.set l6 (.lst (A.map plD)))[a2]?=some (.dk (stD stk)):=by rw[List.getElem?_set_ne (by omega)];exact q.h2
 have x3:(s.set l6 (.lst (A.map plD)))[d3]?=some (.dt ((sd++R).map kvOf)):=by rw[List.getElem?_set_ne (by omega)];exact q.h3
 have x4:(s.set l6 (.lst (A.map plD)))[d4]?=some (.dt (T.map kvOf)):=by rw[List.getElem?_set_ne (by omega)];exact q.h4
 have x5:(s.set l6 (.lst (A.map plD)))[l5]?=some (.lst (R.map tD)):=by rw[List.getElem?_set_ne (by omega)];exact q.h5
 have x6:(s.set l6 (.lst (A.map plD)))[l6]?=some (.lst (A.map plD)):=by rw[List.getElem?_set_self l6lt]
 have xg:Gr st0 (s.set l6 (.lst (A.map plD))):=zjv q.fr (by omega);generalize s.set l6 (.lst (A.map plD))=s1 at *;have hv:valD (T.map kvOf) [.inl p.1,.inl p.2]=some (.int k):=zig ndT hp;have ik:=zq9 x4 hv;obtain⟨b,s2,eg,hb,g2⟩:=zpa c hK x3 x2 (hT _ hp);have y2:=(g2.old _ (getElem?_lt x2)).trans x2;have y3:=(g2.old _ (getElem?_lt x3)).trans x3;have y4:=(g2.old _ (getElem?_lt x4)).trans x4;have y5:=(g2.old _ (getElem?_lt x5)).trans x5;have y6:=(g2.old _ (getElem?_lt x6)).trans x6;have yg:=xg.trans g2
 cases b with
 | false =>
   refine⟨_,_,s2,R,A,zpw q.h6 e0 ik eg,⟨y2,y3,y4,y5,y6,yg⟩,.inl ⟨rfl,rfl,fun z=>?_⟩⟩;exact absurd (hb.mpr z) (by decide)
 | true =>
   have hm:=hb.mp rfl;have l5lt:=getElem?_lt y5;have d3lt:=getElem?_lt y3;have ea:=append_at (x:=tD (p.1,p.2,k)) y5 (by rw[List.length_map];omega);have z4:(s2.set l5 (.lst (R.map tD++[tD (p.1,p.2,k)])))[d4]?=some (.dt (T.map kvOf)):=by rw[List.getElem?_set_ne (by omega)];exact y4
   have z3:(s2.set l5 (.lst (R.map tD++[tD (p.1,p.2,k)])))[d3]?=some (.dt ((sd++R).map kvOf)):=by rw[List.getElem?_set_ne (by omega)];exact y3
   have z2:(s2.set l5 (.lst (R.map tD++[tD (p.1,p.2,k)])))[a2]?=some (.dk (stD stk)):=by rw[List.getElem?_set_ne (by omega)];exact y2
   have z6:(s2.set l5 (.lst (R.map tD++[tD (p.1,p.2,k)])))[l6]?=some (.lst (A.map plD)):=by rw[List.getElem?_set_ne (by omega)];exact y6
   have z5:(s2.set l5 (.lst (R.map tD++[tD (p.1,p.2,k)])))[l5]?=some (.lst ((R++[(p.1,p.2,k)]).map tD)):=by rw[List.getElem?_set_self l5lt];simp
   have zg:Gr st0 (s2.set l5 (.lst (R.map tD++[tD (p.1,p.2,k)]))):=zjv yg (by omega);generalize s2.set l5 (.lst (R.map tD++[tD (p.1,p.2,k)]))=s3 at *;have ik3:=zq9 z4 hv;have dp:=zd5 (x:=p.1) (y:=p.2) (k:=k) z3 (by simp;omega);rw[zdX hm.2.1,List.append_assoc] at dp;have d3lt:=getElem?_lt z3;have w2:(s3.set d3 (.dt ((sd++(R++[(p.1,p.2,k)])).map kvOf)))[a2]?=some (.dk (stD stk)):=by rw[List.getElem?_set_ne (by omega)];exact z2
   have w3:(s3.set d3 (.dt ((sd++(R++[(p.1,p.2,k)])).map kvOf)))[d3]?=some (.dt ((sd++(R++[(p.1,p.2,k)])).map kvOf)):=by rw[List.getElem?_set_self d3lt]
   have w4:(s3.set d3 (.dt ((sd++(R++[(p.1,p.2,k)])).map kvOf)))[d4]?=some (.dt (T.map kvOf)):=by rw[List.getElem?_set_ne (by omega)];exact z4
   have w5:(s3.set d3 (.dt ((sd++(R++[(p.1,p.2,k)])).map kvOf)))[l5]?=some (.lst ((R++[(p.1,p.2,k)]).map tD)):=by rw[List.getElem?_set_ne (by omega)];exact z5
   have w6:(s3.set d3 (.dt ((sd++(R++[(p.1,p.2,k)])).map kvOf)))[l6]?=some (.lst (A.map plD)):=by rw[List.getElem?_set_ne (by omega)];exact z6
   have wg:Gr st0 (s3.set d3 (.dt ((sd++(R++[(p.1,p.2,k)])).map kvOf))):=zjv zg (by omega);generalize s3.set d3 (.dt ((sd++(R++[(p.1,p.2,k)])).map kvOf))=s4 at *;have v:∀ {n:Nat} {o:O},s4[n]?=some o->(s4++[O.lst ((zjY T p).map plD)])[n]?=some o:=fun {n o} z=>by rw[List.getElem?_append_left (getElem?_lt z)];exact z
   have vg:=wg.trans (Gr.app s4 [O.lst ((zjY T p).map plD)]);have hnl:=zfi T p;have ex:=zfp (v w6) (zaR s4 (.lst ((zjY T p).map plD))) (by rw[List.length_map,List.length_map];omega);have l6lt':=getElem?_lt (v w6);refine⟨_,_,_,R++[(p.1,p.2,k)],A++zjY T p,znt q.h6 e0 ik eg y5 ea ik3 dp (fun a8=>zmF w4) w6 ex,⟨?_,?_,?_,?_,?_,zjv vg (by omega)⟩,.inr ⟨rfl,rfl,hm⟩⟩
   . rw[List.getElem?_set_ne (by omega)];exact v w2
   . rw[List.getElem?_set_ne (by omega)];exact v w3
   . rw[List.getElem?_set_ne (by omega)];exact v w4
   . rw[List.getElem?_set_ne (by omega)];exact v w5
   . rw[List.getElem?_set_self l6lt',List.map_append]
end
end L2.MP.stickytiles_k38_sound_parts
set_option maxHeartbeats 4000000
namespace L2.MP.stickytiles_k38_sound_parts
open PySem L2.MP L2.MP.Hd
open L2.MP.Hn (zas zaA srtT zaz zbq zbj zfp)
section
variable {bed tl:D} {e w h:Int} {stk:List (Str×Int)} {ks:List (List Str)} {sd T:List Tl} {a2 d3 d4 l5 l6:Nat}
theorem zno{A:List D}{a0 a1 a2 a3 a4 a5 a7 a8:Option D}{s:Sto}(h:s[l6]?=some (.lst A)):zbF [a0,a1,a2,a3,a4,a5,some (.ref l6),a7,a8] s=some (!A.isEmpty,s):=by
 unfold zbF;simp[zpt,truD,zbu,h]
theorem zec{st0:Sto}(c:Ctx bed e stk ks w h)(hn:st0.length<=a2/\a2 < d3/\d3 < d4/\d4 < l5/\l5 < l6)(hT:∀ t∈T,za8 w h ks.length t)(hsd:∀ t∈sd,za8 w h ks.length t)(ndT:PlNd T)(nds:PlNd sd)(hsl:sd.length<=6)(hTl:T.length<=60):∀ (n:Nat) {R:List Tl} {A:List (Int×Int)} {a7 a8:Option D} {s:Sto},n<=1000->RI a2 d3 d4 l5 l6 stk sd T R A st0 s->zgh e stk ks w h sd R->(∀ t∈R,t∈T)->(∀ p∈A,∃ k,(p.1,p.2,k)∈T)->(∀ t∈T,May e stk ks w h (sd++R) t->(t.1,t.2.1)∈A)->R.length+free T (sd++R)<=T.length->A.length+5*free T (sd++R) < n ->
   ∃ (R':List Tl) (b7 b8:Option D) (s':Sto),mWhF zbF zaZ n [some bed,some tl,some (.ref a2),some (.ref d3),some (.ref d4),some (.ref l5),some (.ref l6),a7,a8] s=some (.nx [some bed,some tl,some (.ref a2),some (.ref d3),some (.ref d4),some (.ref l5),some (.ref l6),b7,b8],s')/\RI a2 d3 d4 l5 l6 stk sd T R' [] st0 s'/\Cl e stk ks w h sd T R'/\R'.length<=T.length
 | 0,R,A,a7,a8,s,_,_,_,_,_,_,_,hlt=>absurd hlt (Nat.not_lt_zero _)
 | n+1,R,A,a7,a8,s,h1000,q,hr,hsub,hA,hsat,hfr,hlt=>by
   have et:=zno (a0:=some bed) (a1:=some tl) (a2:=some (.ref a2)) (a3:=some (.ref d3)) (a4:=some (.ref d4)) (a5:=some (.ref l5)) (a7:=a7) (a8:=a8) q.h6
   rcases (List.eq_nil_or_concat A).imp_right (fun⟨B,b,z⟩=>(⟨B,b,z.trans List.concat_eq_append⟩:∃ B b,A=B++[b])) with rfl | ⟨A,p,rfl⟩
   . refine⟨R,a7,a8,s,?_,q,⟨hr,hsub,fun t ht z=>?_⟩,by omega⟩
     . rw[mWhF];simp[et]
     . have:=hsat t ht z;cases this
   . have hR:=hfr;obtain⟨k,hk⟩:=hA p (by simp);rw[List.length_append,List.length_singleton] at hlt;obtain⟨b7,b8,s1,R1,A1,e1,q1,hc⟩:=zjU (tl:=tl) (a7:=a7) (a8:=a8) c hn q hk hT hsd ndT hr (by omega) (by omega);have fin:∃ (R':List Tl) (c7 c8:Option D) (s':Sto),mWhF zbF zaZ n [some bed,some tl,some (.ref a2),some (.ref d3),some (.ref d4),some (.ref l5),some (.ref l6),b7,b8] s1=some (.nx [some bed,some tl,some (.ref a2),some (.ref d3),some (.ref d4),some (.ref l5),some (.ref l6),c7,c8],s')/\RI a2 d3 d4 l5 l6 stk sd T R' [] st0 s'/\Cl e stk ks w h sd T R'/\R'.length<=T.length:=by
       rcases hc with ⟨rfl,rfl,hno⟩ | ⟨rfl,rfl,hm⟩
       . refine zec c hn hT hsd ndT nds hsl hTl n (by omega) q1 hr hsub (fun z hz=>hA z (List.mem_append_left _ hz)) (fun t ht z=>?_) hfr (by omega)
         rcases List.mem_append.mp (hsat t ht z) with y | y
         . exact y
         . have y:=List.mem_singleton.mp y;have h1:=zeD ndT ht;have h2:=zeD ndT hk;subst y;have h2:fnd T t.1 t.2.1=some k:=h2;rw[h1] at h2;cases h2;exact absurd z hno
       . have hf:=zjw hk hm.2.1;rw[List.append_assoc] at hf;have hnl:=zfi T p;refine zec c hn hT hsd ndT nds hsl hTl n (by omega) q1 (ze2 hr hm) (fun t ht=>?_) (fun z hz=>?_) (fun t ht z=>?_) (by rw[List.length_append,List.length_singleton];omega) (by rw[List.length_append];omega)
         . rcases List.mem_append.mp ht with y | y
           . exact hsub t y
           . rw[List.mem_singleton.mp y];exact hk
         . rcases List.mem_append.mp hz with y | y
           . exact hA z (List.mem_append_left _ y)
           . have y:=(List.mem_filter.mp y).2;obtain⟨k',y⟩:=Option.isSome_iff_exists.mp y;exact⟨k',zd3 y⟩
         . rcases zl8 ht ndT z with y | y
           . rcases List.mem_append.mp (hsat t ht y) with u | u
             . exact List.mem_append_left _ u
             . have u:=List.mem_singleton.mp u;have h3:=zbS.mp z.2.1 (p.1,p.2,k) (by simp);subst u;exact absurd ⟨rfl,rfl⟩ h3
           . exact List.mem_append_right _ y
     obtain⟨R',c7,c8,s',e2,q2,cl,hl⟩:=fin;refine⟨R',c7,c8,s',?_,q2,cl,hl⟩;rw[mWhF];dsimp only;rw[et];have hne:(!((A++[p]).map plD).isEmpty)=true:=by simp
     simp only[Option.bind_some,hne,if_true,e1];exact e2
theorem zoX{d:Nat}{s:Sto}(hd:s[d]?=some (.dt (T.map kvOf)))(hl:T.length<=60):zpH [.ref d] s=some (.ref s.length,s++[.lst ((T.map fun t=>(t.1,t.2.1)).map plD)]):=by
 have e0:zpI [.ref d] s=none:=by simp[zpI,orN,orO,zq3,zkM,zbu,hd]
 have fl:fits T.length=true:=zaw (by omega);have ek:zcU (T.map kvOf)=(T.map fun t=>(t.1,t.2.1)).map plD:=by
   unfold zcU;rw[List.map_map,List.map_map];rfl
 unfold zpH orN;rw[e0,zfv];unfold zkN;simp only[hd,List.length_map,fl,if_true,ek]
theorem zgw{st:Sto}(c:Ctx (bedD e stk ks w h sd) e stk ks w h)(hT:∀ t∈T,za8 w h ks.length t)(hsd:∀ t∈sd,za8 w h ks.length t)(ndT:PlNd T)(nds:PlNd sd)(hsl:sd.length<=6)(hTl:T.length<=60) :
   ∃ (R:List Tl) (st':Sto),Y4 (zcA [bedD e stk ks w h sd,zas T] st=some (.tup (R.map tD),st')) (Gr st st') (Cl e stk ks w h sd T R) (R.length<=T.length):=by
 obtain⟨hs,i0,ie,i1,i2⟩:=c.at_;have ed0:=zlA (stk:=stk) (st:=st) (by have:=c.hs.sl;omega);obtain⟨s1,e1,a1,g1⟩:=zo2 (ts:=sd) (st:=st++[.dk (stD stk)]) (by omega);rw[zga nds] at a1;have b1:s1[st.length]?=some (.dk (stD stk)):=(g1.old _ (by simp)).trans (zaR st _);have l1:(st++[O.dk (stD stk)]).length=st.length+1:=by simp
 rw[l1] at e1 a1;obtain⟨s2,e2,a2,g2⟩:=zo2 (ts:=T) (st:=s1) (by omega);rw[zga ndT] at a2;have l2:st.length+1 < s1.length:=getElem?_lt a1;have l3:s1.length < s2.length:=getElem?_lt a2;have gA:=((Gr.app st [.dk (stD stk)]).trans g1).trans g2;have c1:=(g2.old _ (getElem?_lt a1)).trans a1;have d1:=(g2.old _ (getElem?_lt b1)).trans b1;have v:∀ {n:Nat} {o u:O},s2[n]?=some o->(s2++[u])[n]?=some o:=fun {n o u} z=>by rw[List.getElem?_append_left (getElem?_lt z)];exact z
 have v':∀ {n:Nat} {o u:O},(s2++[O.lst []])[n]?=some o->(s2++[O.lst []]++[u])[n]?=some o:=fun {n o u} z=>by rw[List.getElem?_append_left (getElem?_lt z)];exact z
 have el:=zoX (s:=s2++[O.lst []]) (v a2) hTl;have l4:(s2++[O.lst []]).length=s2.length+1:=by simp
 have q:RI st.length (st.length+1) s1.length s2.length (s2.length+1) stk sd T [] (T.map fun t=>(t.1,t.2.1)) st (s2++[O.lst []]++[.lst ((T.map fun t=>(t.1,t.2.1)).map plD)]) :=
   ⟨v' (v d1),by rw[List.append_nil];exact v' (v c1),v' (v a2),v' (zaR s2 _),by rw[<-l4];exact zaR _ _,(gA.trans (Gr.app _ _)).trans (Gr.app _ _)⟩
 rw[l4] at el;have hf:=zly T (sd++[]);generalize s2++[O.lst []]++[O.lst ((T.map fun t=>(t.1,t.2.1)).map plD)]=s3 at *;obtain⟨R,b7,b8,s4,e4,q4,cl,hl⟩:=zec (tl:=zas T) (a7:=none) (a8:=none) c ⟨Nat.le_refl _,by omega,by omega,by omega,by omega⟩ hT hsd ndT nds hsl hTl 1000 (Nat.le_refl _) q trivial (fun t ht=>by cases ht) (fun p hp=>by
     obtain⟨t,ht,rfl⟩:=List.mem_map.mp hp;exact⟨t.2.2,ht⟩) (fun t ht _=>List.mem_map.mpr ⟨t,ht,rfl⟩) (by simpa using hf) (by rw[List.length_map];omega)
 have x2:∀ s:Sto,ixA (bedD e stk ks w h sd) (.int 2) s=some (zas sd,s):=fun s=>zaQ (by decide) rfl;have et:=zbW q4.h5;refine⟨R,s4,zcy ?_,q4.fr,cl,hl⟩;unfold zeM;generalize bedD e stk ks w h sd=bed at *;generalize zas T=TT at *;generalize zas sd=SS at *;refine zan (ρ1:=[some bed,some TT,some (.ref st.length),none,none,none,none,none,none]) (s1:=st++[O.dk (stD stk)]) (by simp[i0,i1,ed0]) ?_;refine zan (ρ1:=[some bed,some TT,some (.ref st.length),some (.ref (st.length+1)),none,none,none,none,none]) (s1:=s1) (by simp[x2,e1]) ?_;refine zan (ρ1:=[some bed,some TT,some (.ref st.length),some (.ref (st.length+1)),some (.ref s1.length),none,none,none,none]) (s1:=s2) (by simp[e2]) ?_;refine zan (ρ1:=[some bed,some TT,some (.ref st.length),some (.ref (st.length+1)),some (.ref s1.length),some (.ref s2.length),none,none,none]) (s1:=s2++[O.lst []]) (by simp) ?_;refine zan (ρ1:=[some bed,some TT,some (.ref st.length),some (.ref (st.length+1)),some (.ref s1.length),some (.ref s2.length),some (.ref (s2.length+1)),none,none]) (s1:=s3) (by simp[el]) ?_;refine zan e4 ?_;simp[et]
theorem zgp{st:Sto}(c:Ctx (bedD e stk ks w h sd) e stk ks w h)(hT:∀ t∈T,za8 w h ks.length t)(hsd:∀ t∈sd,za8 w h ks.length t)(ndT:PlNd T)(nds:PlNd sd)(hsl:sd.length<=6)(hTl:T.length<=50) :
   ∃ (R:List Tl) (st':Sto),Y4 (zdd [bedD e stk ks w h sd,zas T] st=some (zas (srtT (sd++R)),st')) (Gr st st') (Cl e stk ks w h sd T R) (R.length<=T.length):=by
 obtain⟨R,s1,e1,g1,cl,hl⟩:=zgw (st:=st) c hT hsd ndT nds hsl (by omega);have ea:=zjW (a:=sd) (b:=R) (st:=s1) (by omega);have es:=zhM (ts:=sd++R) (st:=s1) (by simp;omega);have et:=zbW (zaR s1 (.lst ((srtT (sd++R)).map tD)));have x2:∀ s:Sto,ixA (bedD e stk ks w h sd) (.int 2) s=some (.tup (sd.map tD),s):=fun s=>zaQ (by decide) rfl;refine⟨R,s1++[.lst ((srtT (sd++R)).map tD)],zcy ?_,g1.trans (Gr.app _ _),cl,hl⟩;unfold zlE;rw[ziw (srtT (sd++R))];generalize bedD e stk ks w h sd=bed at *;generalize zas T=TT at *;generalize (srtT (sd++R)).map tD=B at *;generalize (sd++R).map tD=C at *;generalize R.map tD=RR at *;generalize sd.map tD=SS at *;generalize s1++[O.lst B]=s5 at *;simp[x2,e1,ea,es,et]
end
end L2.MP.stickytiles_k38_sound_parts
set_option maxHeartbeats 4000000
namespace L2.MP.stickytiles_k38_sound_parts
open PySem L2.MP L2.MP.Hd
open L2.MP.Hn (zas zaA srtT zaz zbq zbj)
section
variable {bed TT:D} {e w h:Int} {stk:List (Str×Int)} {ks:List (List Str)} {sd T:List Tl} {d:Nat}
theorem zoU{x y k:Int}{g:Option D}{s:Sto}(hin:zen (.tup [.int x,.int y]) (.ref d) s=some (.bl false,s)) :
   zaF [some bed,some TT,some (.ref d),g,some (.int x),some (.int y),some (.int k)] s=some (.nx [some bed,some TT,some (.ref d),g,some (.int x),some (.int y),some (.int k)],s):=by
 unfold zaF;simp[hin]
theorem zoT{hs:D}{x y k E R:Int}{g:Option D}{s s1:Sto}(hin:zen (.tup [.int x,.int y]) (.ref d) s=some (.bl true,s))(e1:zbc [bed,.ref d,.tup [.int x,.int y],.int k] s=some (.int R,s1))(i0:ixA bed (.int 0) s1=some (hs,s1))(ie:ixA hs (.int 0) s1=some (.int E,s1))(hR:¬ E<=R) :
   zaF [some bed,some TT,some (.ref d),g,some (.int x),some (.int y),some (.int k)] s=some (.nx [some bed,some TT,some (.ref d),g,some (.int x),some (.int y),some (.int k)],s1):=by
 unfold zaF;simp[hin,e1,i0,ie,hR]
theorem zmU{hs:D}{x y k E R:Int}{g:Option D}{s s1 s2:Sto}(hin:zen (.tup [.int x,.int y]) (.ref d) s=some (.bl true,s))(e1:zbc [bed,.ref d,.tup [.int x,.int y],.int k] s=some (.int R,s1))(i0:ixA bed (.int 0) s1=some (hs,s1))(ie:ixA hs (.int 0) s1=some (.int E,s1))(hR:E<=R)(dp:dput s1 d (.tup [.int x,.int y]) (.int k)=some s2) :
   zaF [some bed,some TT,some (.ref d),g,some (.int x),some (.int y),some (.int k)] s=some (.nx [some bed,some TT,some (.ref d),some (.bl true),some (.int x),some (.int y),some (.int k)],s2):=by
 unfold zaF;rw[zk8];have c0:zfw (mTst (mBin zen (mTup (zad (mVar 4) (zad (mVar 5) (mNil)))) (mVar 2))) (mTst (mBin geD (zar zbc (zad (mVar 0) (zad (mVar 2) (zad (mTup (zad (mVar 4) (zad (mVar 5) (mNil)))) (zad (mVar 6) (mNil)))))) (mBin ixA (mBin ixA (mVar 0) (mCon (.int 0))) (mCon (.int 0))))) [some bed,some TT,some (.ref d),g,some (.int x),some (.int y),some (.int k)] s=some (true,s1):=by simp[hin,e1,i0,ie,hR]
 rw[c0,Option.bind_some];show mSeq _ _ _ s1=_;refine zan (ρ1:=[some bed,some TT,some (.ref d),g,some (.int x),some (.int y),some (.int k)]) (s1:=s2) ?_ (by simp);rw[zgQ];have c1:mAsg (mVar 6) (gSb setD (mVar 2) (mTup (zad (mVar 4) (zad (mVar 5) (mNil))))) [some bed,some TT,some (.ref d),g,some (.int x),some (.int y),some (.int k)] s1=none:=by simp[setD]
 rw[c1,zfv];unfold zjZ;simp[dp]
theorem zoV{R:List Tl}{t:Tl}{g:Option D}{st0 s:Sto}(c:Ctx bed e stk ks w h)(hd:s[d]?=some (.dt ((sd++R).map kvOf)))(h0:st0.length<=d)(g0:Gr st0 s)(hK:∀ t∈sd++R,0<=t.2.2/\t.2.2 < (ks.length:Int))(ht:za8 w h ks.length t)(hlen:sd.length+R.length<=900) :
   ∃ (s':Sto) (g':Option D) (R':List Tl),Y4 (zaF [some bed,some TT,some (.ref d),g,some (.int t.1),some (.int t.2.1),some (.int t.2.2)] s=some (.nx [some bed,some TT,some (.ref d),g',some (.int t.1),some (.int t.2.1),some (.int t.2.2)],s')) (s'[d]?=some (.dt ((sd++R').map kvOf))) (Gr st0 s') (((g'=g/\R'=R/\¬ May e stk ks w h (sd++R) t)\/(g'=some (.bl true)/\R'=R++[t]/\May e stk ks w h (sd++R) t))):=by
 obtain⟨x,y,k⟩:=t;have tt:=ht;obtain⟨x0,x1,y0,y1,k0,k1⟩:=ht;have k0:0<=k:=k0;have k1:k < (ks.length:Int):=k1;have hin:=zi4 (x:=x) (y:=y) hd;rw[zch,Option.isSome_map] at hin
 cases hf:fnd (sd++R) x y with
 | some k' =>
   rw[hf] at hin;refine⟨s,g,R,zoU hin,hd,g0,.inl ⟨rfl,rfl,fun z=>?_⟩⟩;have:fnd (sd++R) x y=none:=z.2.1;rw[hf] at this;cases this
 | none =>
   rw[hf] at hin;obtain⟨hs,i0,ie,i1,i2⟩:=c.at_;obtain⟨f,b0,b1,b2,b3,ek,es,hok⟩:=zcF c.ks k0 k1;obtain⟨s2,e2,g2⟩:=zhm (x:=x) (y:=y) c.bed c.ks c.stk (by have:=c.hs.sl;omega) hK k0 k1 hd;have hth:((alike (sds ks k) (names4 ks (sd++R) x y)).map fun i=>sv stk ((sds ks k).getD i "")).sum=sth stk ks (sd++R) x y k.toNat:=by
     have:=zkb (stk:=stk) (P:=sd++R) (x:=x) (y:=y) (k:=k.toNat) (ks:=ks) (by rw[Int.toNat_of_nonneg k0,es];rfl);rw[Int.toNat_of_nonneg k0] at this;exact this
   rw[hth] at e2;have hd2:=(g2.old _ (getElem?_lt hd)).trans hd
   by_cases hR:e<=sth stk ks (sd++R) x y k.toNat
   . have hm:May e stk ks w h (sd++R) (x,y,k):=⟨tt,hf,hR⟩
     have dp:=zd5 (x:=x) (y:=y) (k:=k) hd2 (by simp;omega);rw[zdX hm.2.1,List.append_assoc] at dp;exact⟨_,_,R++[(x,y,k)],zmU hin e2 (i0 _) (ie _) hR dp,by rw[List.getElem?_set_self (getElem?_lt hd2)],zjv (g0.trans g2) h0,.inr ⟨rfl,rfl,hm⟩⟩
   . exact⟨s2,g,R,zoT hin e2 (i0 _) (ie _) hR,hd2,g0.trans g2,.inl ⟨rfl,rfl,fun z=>hR z.2.2⟩⟩
structure LS(e:Int)(stk:List (Str×Int))(ks:List (List Str))(w h:Int)(d:Nat)(sd T R:List Tl)(st0 s:Sto):Prop where
 at_:s[d]?=some (.dt ((sd++R).map kvOf))
 fr:Gr st0 s
 row:zgh e stk ks w h sd R
 sub:∀ t∈R,t∈T
 few:R.length+free T (sd++R)<=T.length
theorem zoW{R:List Tl}{a3 a4 a5 a6:Option D}{st0 s:Sto}(c:Ctx bed e stk ks w h)(q:LS e stk ks w h d sd T R st0 s)(h0:st0.length<=d)(hT:∀ t∈T,za8 w h ks.length t)(hsd:∀ t∈sd,za8 w h ks.length t)(hsl:sd.length<=6)(hTl:T.length<=60) :
   ∃ (g:Bool) (b4 b5 b6:Option D) (R':List Tl) (s':Sto),Y4 (zbE [some bed,some (zas T),some (.ref d),a3,a4,a5,a6] s=some (.nx [some bed,some (zas T),some (.ref d),some (.bl g),b4,b5,b6],s')) (LS e stk ks w h d sd T R' st0 s') ((g=false->∀ t∈T,¬ May e stk ks w h (sd++R') t)) ((g=true->free T (sd++R') < free T (sd++R))):=by
 have key:=zbR (W:=⟨T.map tD,[]⟩) (g:=gTp 3 (gC (gNm 4) (gC (gNm 5) (gC (gNm 6) (gN0))))) (m:=zaF) (ds:=T.map tD) (ρ:=[some bed,some (zas T),some (.ref d),some (.bl false),a4,a5,a6]) (st:=s)
   (Inv:=fun i ρ s=>∃ (g:Bool) (b4 b5 b6:Option D) (R':List Tl),Y4 (ρ=[some bed,some (zas T),some (.ref d),some (.bl g),b4,b5,b6]) (LS e stk ks w h d sd T R' st0 s) ((g=false->R'=R/\∀ t∈T.take i,¬ May e stk ks w h (sd++R) t)) ((g=true->free T (sd++R') < free T (sd++R))))
   ⟨false,_,_,_,R,rfl,q,fun _=>⟨rfl,fun t ht=>by simp at ht⟩,fun z=>by cases z⟩ (fun _ _ _ _ _=>rfl) (fun i dd ρ s hdd hI=>by
     obtain⟨g,b4,b5,b6,R',rfl,q',hg,hg'⟩:=hI;rw[List.getElem?_map] at hdd;obtain⟨t,ht,rfl⟩:=zah hdd;have htT:=List.mem_of_getElem? ht;have hK:∀ t∈sd++R',0<=t.2.2/\t.2.2 < (ks.length:Int):=fun t hh=>by
       have:za8 w h ks.length t:=by
         rcases List.mem_append.mp hh with hh | hh
         . exact hsd t hh
         . exact hT t (q'.sub t hh)
       exact⟨this.2.2.2.2.1,this.2.2.2.2.2⟩
     have hfew:=q'.few;obtain⟨s2,g2,R2,e2,at2,gr2,hc⟩:=zoV (TT:=zas T) (g:=some (.bl g)) c q'.at_ h0 q'.fr hK (hT t htT) (by omega);refine⟨[some bed,some (zas T),some (.ref d),some (.bl g),some (.int t.1),some (.int t.2.1),some (.int t.2.2)],s,_,s2,rfl,e2,?_⟩
     rcases hc with ⟨rfl,rfl,hno⟩ | ⟨rfl,rfl,hm⟩
     . refine⟨g,_,_,_,R2,rfl,⟨at2,gr2,q'.row,q'.sub,q'.few⟩,fun z=>?_,hg'⟩;obtain⟨rfl,h2⟩:=hg z;refine⟨rfl,fun u hu=>?_⟩;rw[List.take_add_one,ht,List.mem_append] at hu
       rcases hu with hu | hu
       . exact h2 u hu
       . rw[List.mem_singleton.mp hu];exact hno
     . have hf:=zjw htT hm.2.1;rw[List.append_assoc] at hf;refine⟨true,_,_,_,R'++[t],rfl,⟨at2,gr2,ze2 q'.row hm,fun u hu=>?_,by rw[List.length_append,List.length_singleton];omega⟩,(fun z=>nomatch z),fun _=>?_⟩
       . rcases List.mem_append.mp hu with hu | hu
         . exact q'.sub u hu
         . rw[List.mem_singleton.mp hu];exact htT
       . cases g with
         | true=>have:=hg' rfl;omega
         | false=>obtain⟨rfl,_⟩:=hg rfl;omega)
 obtain⟨ρ',s',el,g,b4,b5,b6,R',rfl,q',hg,hg'⟩:=key;rw[List.length_map,List.take_length] at hg;refine⟨g,b4,b5,b6,R',s',?_,q',fun z=>by obtain⟨rfl,h2⟩:=hg z;exact h2,hg'⟩;unfold zbE;refine zan (ρ1:=[some bed,some (zas T),some (.ref d),some (.bl false),a4,a5,a6]) (s1:=s) (by simp) ?_;have hw:mWA (mVar 1) [some bed,some (zas T),some (.ref d),some (.bl false),a4,a5,a6] s=some (⟨T.map tD,[]⟩,s):=rfl;rw[zdb,hw];exact el
theorem zju{g:Bool}{a0 a1 a2 a4 a5 a6:Option D}{s:Sto}:zbD [a0,a1,a2,some (.bl g),a4,a5,a6] s=some (g,s):=by
 unfold zbD;simp[zpt,truD]
theorem zls{st0:Sto}(c:Ctx bed e stk ks w h)(h0:st0.length<=d)(hT:∀ t∈T,za8 w h ks.length t)(hsd:∀ t∈sd,za8 w h ks.length t)(hsl:sd.length<=6)(hTl:T.length<=60):∀ (n:Nat) {R:List Tl} {g:Bool} {a4 a5 a6:Option D} {s:Sto},LS e stk ks w h d sd T R st0 s->(g=false->0 < n/\∀ t∈T,¬ May e stk ks w h (sd++R) t)->(g=true->free T (sd++R)+1 < n) ->
   ∃ (R':List Tl) (b4 b5 b6:Option D) (s':Sto),mWhF zbD zbE n [some bed,some (zas T),some (.ref d),some (.bl g),a4,a5,a6] s=some (.nx [some bed,some (zas T),some (.ref d),some (.bl false),b4,b5,b6],s')/\LS e stk ks w h d sd T R' st0 s'/\∀ t∈T,¬ May e stk ks w h (sd++R') t
 | 0,R,g,a4,a5,a6,s,q,h1,h2=>by
   cases g with
   | false=>exact absurd (h1 rfl).1 (Nat.lt_irrefl _)
   | true=>exact absurd (h2 rfl) (Nat.not_lt_zero _)
 | n+1,R,false,a4,a5,a6,s,q,h1,h2=>by
   refine⟨R,a4,a5,a6,s,?_,q,(h1 rfl).2⟩;rw[mWhF];dsimp only;rw[zju];rfl
 | n+1,R,true,a4,a5,a6,s,q,h1,h2=>by
   have h3:=h2 rfl;obtain⟨g,b4,b5,b6,R1,s1,e1,q1,hg,hg'⟩:=zoW (a3:=some (.bl true)) (a4:=a4) (a5:=a5) (a6:=a6) c q h0 hT hsd hsl hTl;obtain⟨R',c4,c5,c6,s',e2,q2,sat⟩:=zls c h0 hT hsd hsl hTl n (g:=g) (a4:=b4) (a5:=b5) (a6:=b6) q1 (fun z=>⟨by omega,hg z⟩) (fun z=>by have:=hg' z;omega);refine⟨R',c4,c5,c6,s',?_,q2,sat⟩;rw[mWhF];dsimp only;rw[zju];simp only[Option.bind_some,if_true,e1];exact e2
theorem zgK{st:Sto}(c:Ctx (bedD e stk ks w h sd) e stk ks w h)(hT:∀ t∈T,za8 w h ks.length t)(hsd:∀ t∈sd,za8 w h ks.length t)(nds:PlNd sd)(hsl:sd.length<=6)(hTl:T.length<=50) :
   ∃ (d:Nat) (R:List Tl) (st':Sto),Y5 (zbI [bedD e stk ks w h sd,zas T] st=some (.ref d,st')) (st'[d]?=some (.dt ((sd++R).map kvOf))) (Gr st st') (Cl e stk ks w h sd T R) (R.length<=T.length):=by
 obtain⟨d,s1,e1,a1,hd,g1⟩:=zfl (ts:=sd) (st:=st) (by omega);rw[zga nds] at a1;have hf:=zly T (sd++[]);obtain⟨R,b4,b5,b6,s2,e2,q,sat⟩:=zls (g:=true) (a4:=none) (a5:=none) (a6:=none) c hd hT hsd hsl (by omega) 1000 (T:=T) (R:=[]) (s:=s1) ⟨by rw[List.append_nil];exact a1,g1,trivial,fun t ht=>(by cases ht),by simpa using hf⟩ (fun z=>by cases z) (fun _=>by omega);have hfew:=q.few;refine⟨d,R,s2,zcy ?_,q.at_,q.fr,⟨q.row,q.sub,sat⟩,by omega⟩;have x2:∀ s:Sto,ixA (bedD e stk ks w h sd) (.int 2) s=some (zas sd,s):=fun s=>zaQ (by decide) rfl;unfold zdy;generalize bedD e stk ks w h sd=bed at *;generalize zas T=TT at *;generalize zas sd=SS at *;refine zan (ρ1:=[some bed,some TT,some (.ref d),none,none,none,none]) (s1:=s1) (by simp[x2,e1]) ?_;refine zan (ρ1:=[some bed,some TT,some (.ref d),some (.bl true),none,none,none]) (s1:=s1) (by simp) ?_;refine zan e2 ?_;simp
end
end L2.MP.stickytiles_k38_sound_parts
set_option maxHeartbeats 4000000
namespace L2.MP.stickytiles_k38_sound_parts
open PySem L2.MP L2.MP.Hd
open L2.MP.Hn (zas zaA srtT zaz zbq zbj)
theorem zht{α β:Type}(f:α->β):∀ (l:List α) (i:Nat),(l.map f).eraseIdx i=(l.eraseIdx i).map f
 | [],i=>by simp
 | a::l,0=>by simp
 | a::l,i+1=>by simp[zht f l i]
noncomputable def plP(p:Int×Int):PyData:=.tuple [.int p.1,.int p.2]
theorem zla{n:Nat}{st:Sto}:∀ ps:List (Int×Int),toPs (toP (n+2) st) (ps.map plD)=some (ps.map plP)
 | []=>rfl
 | p::ps=>by
   have e:toP (n+2) st (plD p)=some (plP p):=by
     show toP (n+2) st (.tup [.int p.1,.int p.2])=_;rw[toP];simp only[toPs,toP,Option.bind_some,Option.map_some];rfl
   rw[List.map_cons,toPs,e,Option.bind_some,zla ps];rfl
theorem zss{l m:Nat}{ps:List (Int×Int)}{st:Sto}(hl:st[l]?=some (.lst (ps.map plD)))(hm:st[m]?=some (.lst [])):neD (.ref l) (.ref m) st=some (.bl !ps.isEmpty,st):=by
 have e:toP 100 st (.ref l)=some (.list (ps.map plP)):=by
   rw[toP];simp only[zbu,hl,Option.bind_some];rw[zla];rfl
 unfold neD;rw[e,zdh (n:=98) (as:=[]) hm]
 cases ps <;> rfl
theorem ziz{P:List Tl}{d:Nat}{s:Sto}(hd:s[d]?=some (.dt (P.map kvOf)))(hl:P.length < 64):∃ L:List (Int×Int),Y3 (zdj [.ref d] s=some (.ref s.length,s++[.lst (L.map plD)])) (L.length=P.length) (∀ p∈L,∃ t∈P,t.1=p.1/\t.2.1=p.2):=by
 have fl:fits (P.map kvOf).length=true:=zaw (by rw[List.length_map];omega);have ek:zcU (P.map kvOf)=(P.map fun t=>(t.1,t.2.1)).map plD:=by
   unfold zcU;rw[List.map_map,List.map_map];rfl
 have el:((P.map fun t=>(t.1,t.2.1)).map plD).length=P.length:=by rw[List.length_map,List.length_map]
 by_cases h:P.length < 2
 . refine⟨P.map fun t=>(t.1,t.2.1),?_,by rw[List.length_map],fun p hp=>?_⟩
   . unfold zdj;simp only[hd,fl,if_true,ek];rw[if_pos (by rw[el];exact decide_eq_true h)]
   . obtain⟨t,ht,rfl⟩:=List.mem_map.mp hp;exact⟨t,ht,rfl,rfl⟩
 . have er:rowsOf ((P.map fun t=>(t.1,t.2.1)).map plD)=some (P.map fun t=>[t.1,t.2.1]):=by
     have:(P.map fun t=>(t.1,t.2.1)).map plD=(P.map fun t=>[t.1,t.2.1]).map tupD:=by
       rw[List.map_map,List.map_map];rfl
     rw[this];exact zc2 fun r hr=>by obtain⟨t,_,rfl⟩:=List.mem_map.mp hr;simp
   have hp:=zc0 (P.map fun t=>[t.1,t.2.1]);have hel:∀ r∈zfu (P.map fun t=>[t.1,t.2.1]),∃ t∈P,r=[t.1,t.2.1]:=fun r hr=>by
     obtain⟨t,ht,rfl⟩:=List.mem_map.mp (hp.mem_iff.mp hr);exact⟨t,ht,rfl⟩
   have hlen:=hp.length_eq;rw[List.length_map] at hlen;refine⟨(zfu (P.map fun t=>[t.1,t.2.1])).map fun r=>(r.getD 0 0,r.getD 1 0),?_,by rw[List.length_map];exact hlen,fun p hq=>?_⟩
   . have e2:((zfu (P.map fun t=>[t.1,t.2.1])).map fun r=>(r.getD 0 0,r.getD 1 0)).map plD=(zfu (P.map fun t=>[t.1,t.2.1])).map tupD:=by
       rw[List.map_map];refine List.map_congr_left fun r hr=>?_;obtain⟨t,_,rfl⟩:=hel r hr;rfl
     unfold zdj;simp only[hd,fl,if_true,ek];rw[if_neg (by rw[el];simpa using h),er];simp only[Option.bind_some,List.length_map];rw[if_pos (by simp;omega),e2]
   . obtain⟨r,hr,rfl⟩:=List.mem_map.mp hq;obtain⟨t,ht,rfl⟩:=hel r hr;exact⟨t,ht,rfl,rfl⟩
section
variable {bed pl:D} {n d q:Nat} {a3 a4:Option D} {wy:Int} {s s1 s2 s3:Sto}
theorem zmo(hw:¬ 0 < wy):mIf (zfw (mTst (mBin gtD (mVar 6) (mCon (.int 0)))) (mTst (mBin neD (mVar 5) (mLst (mNil))))) (mAsg (mBin ixA (mVar 5) (zar zac (zad (mVar 0) (zad (zar lenD (zad (mVar 5) (mNil))) (mNil))))) (gNm 7)) (zdK) [some (.ref n),some bed,some (.ref d),a3,a4,some (.ref q),some (.int wy),some pl] s=some (.nx [some (.ref n),some bed,some (.ref d),a3,a4,some (.ref q),some (.int wy),some pl],s):=by
 simp[hw]
theorem zmn(hw:0 < wy)(hs:s++[.lst []]=s1)(en:neD (.ref q) (.ref s.length) s1=some (.bl false,s1)):mIf (zfw (mTst (mBin gtD (mVar 6) (mCon (.int 0)))) (mTst (mBin neD (mVar 5) (mLst (mNil))))) (mAsg (mBin ixA (mVar 5) (zar zac (zad (mVar 0) (zad (zar lenD (zad (mVar 5) (mNil))) (mNil))))) (gNm 7)) (zdK) [some (.ref n),some bed,some (.ref d),a3,a4,some (.ref q),some (.int wy),some pl] s=some (.nx [some (.ref n),some bed,some (.ref d),a3,a4,some (.ref q),some (.int wy),some pl],s1):=by
 simp[hw,hs,en]
theorem zmm{N r:Int}{pl':D}(hw:0 < wy)(hs:s++[.lst []]=s1)(en:neD (.ref q) (.ref s.length) s1=some (.bl true,s1))(el:lenD [.ref q] s1=some (.int N,s1))(ed:zac [.ref n,.int N] s1=some (.int r,s2))(ix:ixA (.ref q) (.int r) s2=some (pl',s2)):mIf (zfw (mTst (mBin gtD (mVar 6) (mCon (.int 0)))) (mTst (mBin neD (mVar 5) (mLst (mNil))))) (mAsg (mBin ixA (mVar 5) (zar zac (zad (mVar 0) (zad (zar lenD (zad (mVar 5) (mNil))) (mNil))))) (gNm 7)) (zdK) [some (.ref n),some bed,some (.ref d),a3,a4,some (.ref q),some (.int wy),some pl] s=some (.nx [some (.ref n),some bed,some (.ref d),a3,a4,some (.ref q),some (.int wy),some pl'],s2):=by
 simp[hw,hs,en,el,ed,ix]
noncomputable def hitS:MS:=mIf (zfw (mTst (mBin eqD (mVar 6) (mCon (.int 3)))) (mTst (mBin inA (mVar 7) (mVar 2)))) (mExp (zoP (mVar 2) (mVar 7))) (putA (mVar 2) (mVar 7) (zar zac (zad (mVar 0) (zad (zar lenD (zad (mBin ixA (mBin ixA (mVar 1) (mCon (.int 0))) (mCon (.int 2))) (mNil))) (mNil)))))
theorem zo6{x y k:Int}{kvs:List (List Key×D)}(hw:wy=3)(hd:s[d]?=some (.dt kvs))(hin:inA (.tup [.int x,.int y]) (.ref d) s=some (.bl true,s))(hv:valD kvs [.inl x,.inl y]=some (.int k)):hitS [some (.ref n),some bed,some (.ref d),a3,a4,some (.ref q),some (.int wy),some (.tup [.int x,.int y])] s=some (.nx [some (.ref n),some bed,some (.ref d),a3,a4,some (.ref q),some (.int wy),some (.tup [.int x,.int y])],s.set d (.dt (zdH kvs [.inl x,.inl y]))):=by
 have hk:keysOf [.int x,.int y]=some [.inl x,.inl y]:=rfl;have hp:zoP (mVar 2) (mVar 7) [some (.ref n),some bed,some (.ref d),a3,a4,some (.ref q),some (.int wy),some (.tup [.int x,.int y])] s=some (.int k,s.set d (.dt (zdH kvs [.inl x,.inl y]))):=by
   unfold zoP;simp[zm2,hd,hk,hv]
 subst hw;unfold hitS;rw[zk8];have c0:zfw (mTst (mBin eqD (mVar 6) (mCon (.int 3)))) (mTst (mBin inA (mVar 7) (mVar 2))) [some (.ref n),some bed,some (.ref d),a3,a4,some (.ref q),some (.int 3),some (.tup [.int x,.int y])] s=some (true,s):=by simp[eq_int,hin]
 rw[c0,Option.bind_some,if_pos rfl,zrv,hp];rfl
theorem zo7{hs kk:D}{x y K r:Int}(ct:zfw (mTst (mBin eqD (mVar 6) (mCon (.int 3)))) (mTst (mBin inA (mVar 7) (mVar 2))) [some (.ref n),some bed,some (.ref d),a3,a4,some (.ref q),some (.int wy),some (.tup [.int x,.int y])] s=some (false,s))(i0:ixA bed (.int 0) s=some (hs,s))(i2:ixA hs (.int 2) s=some (kk,s))(el:lenD [kk] s=some (.int K,s))(ed:zac [.ref n,.int K] s=some (.int r,s1))(dp:dput s1 d (.tup [.int x,.int y]) (.int r)=some s2):hitS [some (.ref n),some bed,some (.ref d),a3,a4,some (.ref q),some (.int wy),some (.tup [.int x,.int y])] s=some (.nx [some (.ref n),some bed,some (.ref d),a3,a4,some (.ref q),some (.int wy),some (.tup [.int x,.int y])],s2):=by
 unfold hitS;rw[zk8,ct,Option.bind_some,if_neg Bool.false_ne_true,zgQ];have c1:mAsg (zar zac (zad (mVar 0) (zad (zar lenD (zad (mBin ixA (mBin ixA (mVar 1) (mCon (.int 0))) (mCon (.int 2))) (mNil))) (mNil)))) (gSb setD (mVar 2) (mVar 7)) [some (.ref n),some bed,some (.ref d),a3,a4,some (.ref q),some (.int wy),some (.tup [.int x,.int y])] s=none:=by
   simp[i0,i2,el,ed,setD]
 rw[c1,zfv];unfold zjZ;simp[i0,i2,el,ed,dp]
end
end L2.MP.stickytiles_k38_sound_parts
set_option maxHeartbeats 4000000
namespace L2.MP.stickytiles_k38_sound_parts
open PySem L2.MP L2.MP.Hd
open L2.MP.Hn (zas zaA srtT zaz zbq zbj)
theorem zm8{st s:Sto}{n k:Nat}{o:O}(g:Fr n st s)(h:st.length<=k):Fr n st (s.set k o):=⟨by rw[List.length_set];exact g.len,fun j hj nj=>by rw[List.getElem?_set_ne (by omega)];exact g.old j hj nj⟩
noncomputable def InFl(w h:Int)(p:Int×Int):Prop:=0<=p.1/\p.1 < w/\0<=p.2/\p.2 < h
section
variable {bed:D} {e w h:Int} {stk:List (Str×Int)} {ks:List (List Str)} {n m d q:Nat} {a3 a4:Option D} {wy:Int}
theorem zez{L:List (Int×Int)}{p:Int×Int}{s:Sto}(a:s[q]?=some (.lst (L.map plD)))(hp:PotD n m s)(hq:q≠n)(hm:m<=1000000)(hL:L.length<=100)(hf:InFl w h p)(hLf:∀ p∈L,InFl w h p) :
   ∃ (p':Int×Int) (s':Sto),Y4 (mIf (zfw (mTst (mBin gtD (mVar 6) (mCon (.int 0)))) (mTst (mBin neD (mVar 5) (mLst (mNil))))) (mAsg (mBin ixA (mVar 5) (zar zac (zad (mVar 0) (zad (zar lenD (zad (mVar 5) (mNil))) (mNil))))) (gNm 7)) (zdK) [some (.ref n),some bed,some (.ref d),a3,a4,some (.ref q),some (.int wy),some (plD p)] s=some (.nx [some (.ref n),some bed,some (.ref d),a3,a4,some (.ref q),some (.int wy),some (plD p')],s')) (InFl w h p') (PotD n (m+1) s') (Fr n s s'):=by
 by_cases hw:0 < wy
 . have a1:(s++[O.lst []])[q]?=some (.lst (L.map plD)):=by rw[List.getElem?_append_left (getElem?_lt a)];exact a
   have b1:=zaR s (.lst []);have g1:=Gr.app s [.lst []];have en:=zss a1 b1;generalize hs:s++[O.lst []]=s1 at *;have p1:=hp.gr g1
   cases hc:L with
   | nil =>
     rw[hc] at en;exact⟨p,s1,zmn hw hs en,hf,p1.up (by omega),g1.fr n⟩
   | cons u L' =>
     rw[hc] at en;have h0:0 < L.length:=by rw[hc];simp
     have el:lenD [.ref q] s1=some (.int (L.length:Int),s1):=by rw[zhl a1,List.length_map]
     obtain⟨r,s2,e2,r0,r1,p2,f2⟩:=zaV (many:=(L.length:Int)) p1 hm (by omega) (by omega);have a2:=(f2.old _ (getElem?_lt a1) hq).trans a1;have hrn:r.toNat < L.length:=by omega
     have hxt:(L.map plD)[r.toNat]?=some (plD L[r.toNat]):=by rw[List.getElem?_map,List.getElem?_eq_getElem hrn];rfl
     have ix:=zco a2 r0 hxt;exact⟨L[r.toNat],s2,zmm hw hs en el e2 ix,hLf _ (List.getElem_mem hrn),p2,(g1.fr n).trans f2⟩
 . exact⟨p,s,zmo hw,hf,hp.up (by omega),Fr.refl _ _⟩
structure SP(n m d:Nat)(w h kn:Int)(P:List Tl)(st0 s:Sto):Prop where
 at_:s[d]?=some (.dt (P.map kvOf))
 nd:PlNd P
 ok:∀ t∈P,za8 w h kn t
 pot:PotD n m s
 fr:Fr n st0 s
theorem zrf{P:List Tl}{p:Int×Int}{st0 s:Sto}(c:Ctx bed e stk ks w h)(q0:SP n m d w h ks.length P st0 s)(h0:st0.length<=d)(hdn:d≠n)(hm:m<=1000000)(hf:InFl w h p)(hl:P.length<=900)(k0:0 < ks.length) :
   ∃ (P':List Tl) (s':Sto),Y3 (hitS [some (.ref n),some bed,some (.ref d),a3,a4,some (.ref q),some (.int wy),some (plD p)] s=some (.nx [some (.ref n),some bed,some (.ref d),a3,a4,some (.ref q),some (.int wy),some (plD p)],s')) (SP n (m+1) d w h ks.length P' st0 s') (P'.length<=P.length+1):=by
 obtain⟨x,y⟩:=p;have dlt:=getElem?_lt q0.at_;have hin:=znB (x:=x) (y:=y) q0.at_
 by_cases hb:wy=3/\(fnd P x y).isSome=true
 . obtain⟨h3,hs⟩:=hb;obtain⟨k,hk⟩:=Option.isSome_iff_exists.mp hs;have hv:=zch x y P;rw[hk] at hv;rw[hv] at hin;have rd:=zo6 (n:=n) (bed:=bed) (q:=q) (a3:=a3) (a4:=a4) (k:=k) h3 q0.at_ hin hv;have e:zdH (P.map kvOf) [.inl x,.inl y]=(P.eraseIdx ((P.map kvOf).findIdx fun kv=>decide (kv.1=[.inl x,.inl y]))).map kvOf:=zht _ _ _;rw[e] at rd;refine⟨_,_,rd,⟨by rw[List.getElem?_set_self dlt],?_,fun t ht=>q0.ok t (List.mem_of_mem_eraseIdx ht),(q0.pot.set hdn).up (by omega),zm8 q0.fr h0⟩,Nat.le_succ_of_le (List.length_eraseIdx_le _ _)⟩;exact List.Pairwise.sublist (List.eraseIdx_sublist _ _) q0.nd
 . obtain⟨hs,i0,ie,i1,i2⟩:=c.at_;have k13:=c.hs.hi;have el:lenD [.tup (ks.map zb8)] s=some (.int (ks.length:Int),s):=by rw[zfZ,List.length_map]
   obtain⟨r,s1,e1,r0,r1,p1,f1⟩:=zaV (many:=(ks.length:Int)) q0.pot hm (by omega) (by omega);have a1:=(f1.old _ dlt hdn).trans q0.at_;have dp:=zd5 (x:=x) (y:=y) (k:=r) a1 (by omega);have ct:zfw (mTst (mBin eqD (mVar 6) (mCon (.int 3)))) (mTst (mBin inA (mVar 7) (mVar 2))) [some (.ref n),some bed,some (.ref d),a3,a4,some (.ref q),some (.int wy),some (.tup [.int x,.int y])] s=some (false,s):=by
     by_cases h3:wy=3
     . have hn:(fnd P x y).isSome=false:=by
         cases z:(fnd P x y).isSome with
         | false=>rfl
         | true=>exact absurd ⟨h3,z⟩ hb
       rw[zch,Option.isSome_map,hn] at hin;subst h3;simp[eq_int,hin]
     . simp[eq_int,h3]
   have rd:=zo7 ct (i0 _) (i2 _) el e1 dp;refine⟨_,_,rd,⟨by rw[List.getElem?_set_self (getElem?_lt a1)],zlg q0.nd,ziS q0.ok ⟨hf.1,hf.2.1,hf.2.2.1,hf.2.2.2,r0,r1⟩,p1.set hdn,zm8 (q0.fr.trans f1) h0⟩,zgx _ _⟩
theorem zhJ{P:List Tl}{a5 a6 a7:Option D}{st0 s:Sto}(c:Ctx bed e stk ks w h)(q0:SP n m d w h ks.length P st0 s)(h0:st0.length<=d)(hdn:d≠n)(hm:m<=900000)(hl:P.length<=60)(k0:0 < ks.length) :
   ∃ (P':List Tl) (b5 b6 b7:Option D) (s':Sto),Y3 (zby [some (.ref n),some bed,some (.ref d),a3,a4,a5,a6,a7] s=some (.nx [some (.ref n),some bed,some (.ref d),a3,a4,b5,b6,b7],s')) (SP n (m+5) d w h ks.length P' st0 s') (P'.length<=P.length+1):=by
 have f1:=c.fo.w0;have f2:=c.fo.w1;have f3:=c.fo.h0;have f4:=c.fo.h1;obtain⟨L,e1,hLl,hLm⟩:=ziz q0.at_ (by omega);have a1:=zaR s (.lst (L.map plD));have g1:=Gr.app s [.lst (L.map plD)];have sq:s.length≠n:=q0.pot.ne;have pot1:=q0.pot.gr g1;generalize s++[O.lst (L.map plD)]=s1 at *;obtain⟨r2,s2,e2,r20,r21,p2,fr2⟩:=zaV (many:=4) pot1 (by omega) (by decide) (by decide);obtain⟨r3,s3,e3,r30,r31,p3,fr3⟩:=zaV (many:=w) p2 (by omega) (by omega) (by omega);obtain⟨r4,s4,e4,r40,r41,p4,fr4⟩:=zaV (many:=h) p3 (by omega) (by omega) (by omega);have frA:=(fr2.trans fr3).trans fr4;have a4':=(frA.old _ (getElem?_lt a1) sq).trans a1;have hLf:∀ p∈L,InFl w h p:=fun p hp=>by
   obtain⟨t,ht,z1,z2⟩:=hLm p hp;obtain⟨x0,x1,y0,y1,_,_⟩:=q0.ok t ht;unfold InFl;rw[<-z1,<-z2];exact⟨x0,x1,y0,y1⟩
 obtain⟨p,s5,e5,hf5,p5,fr5⟩:=zez (bed:=bed) (d:=d) (a3:=a3) (a4:=a4) (wy:=r2) (p:=(r3,r4)) a4' p4 sq (by omega) (by omega) ⟨r30,r31,r40,r41⟩ hLf;have frB:=((g1.fr n).trans frA).trans fr5;have at5:=(frB.old _ (getElem?_lt q0.at_) hdn).trans q0.at_;obtain⟨P',s6,e6,q6,hl6⟩:=zrf (q:=s.length) (a3:=a3) (a4:=a4) (wy:=r2) c (⟨at5,q0.nd,q0.ok,p5,q0.fr.trans frB⟩:SP n _ d w h ks.length P st0 s5) h0 hdn (by omega) hf5 (by omega) k0;refine⟨P',some (.ref s.length),some (.int r2),some (plD p),s6,?_,⟨q6.at_,q6.nd,q6.ok,q6.pot.up (by omega),q6.fr⟩,hl6⟩;have cf:=c.fl;have j0:∀ s:Sto,ixA (.tup [.int w,.int h]) (.int 0) s=some (.int w,s):=fun s=>zaQ (by decide) rfl;have j1:∀ s:Sto,ixA (.tup [.int w,.int h]) (.int 1) s=some (.int h,s):=fun s=>zaQ (by decide) rfl;unfold zby;refine zan (ρ1:=[some (.ref n),some bed,some (.ref d),a3,a4,some (.ref s.length),a6,a7]) (s1:=s1) (by simp[e1]) ?_;refine zan (ρ1:=[some (.ref n),some bed,some (.ref d),a3,a4,some (.ref s.length),some (.int r2),a7]) (s1:=s2) (by simp[e2]) ?_;refine zan (ρ1:=[some (.ref n),some bed,some (.ref d),a3,a4,some (.ref s.length),some (.int r2),some (plD (r3,r4))]) (s1:=s4) (by simp[cf,j0,j1,e3,e4,plD]) ?_;refine zan e5 ?_;exact e6
end
theorem znV{bed:D}{n d:Nat}{x y k:Int}{a4 a5 a6 a7:Option D}{s s2:Sto}(dp:dput s d (.tup [.int x,.int y]) (.int k)=some s2):zbz [some (.ref n),some bed,some (.ref d),some (.tup [.int x,.int y,.int k]),a4,a5,a6,a7] s=some (.nx [some (.ref n),some bed,some (.ref d),some (.tup [.int x,.int y,.int k]),a4,a5,a6,a7],s2):=by
 have es:slB (.tup [.int x,.int y,.int k]) none (some 2) s=some (.tup [.int x,.int y],s):=rfl;have j2:ixA (.tup [.int x,.int y,.int k]) (.int 2) s=some (.int k,s):=zaQ (by decide) rfl;unfold zbz;rw[zgQ];have c1:mAsg (mBin ixA (mVar 3) (mCon (.int 2))) (gSb setD (mVar 2) (mSlB (mVar 3) (zlo) (zln (mCon (.int 2))))) [some (.ref n),some bed,some (.ref d),some (.tup [.int x,.int y,.int k]),a4,a5,a6,a7] s=none:=by
   simp[es,j2,setD]
 rw[c1,zfv];unfold zjZ;simp[es,j2,dp]
theorem zkc{e w h:Int}{stk:List (Str×Int)}{ks:List (List Str)}{n m:Nat}{sd:List Tl}{st:Sto}(c:Ctx (bedD e stk ks w h sd) e stk ks w h)(hp:PotD n m st)(hm:m<=700000)(hsd:∀ t∈sd,za8 w h ks.length t)(nd:PlNd sd)(hl:sd.length<=6)(k0:0 < ks.length) :
   ∃ (P:List Tl) (st':Sto),Y6 (zbi [.ref n,bedD e stk ks w h sd] st=some (zas (srtT P),st')) (PlNd P) ((∀ t∈P,za8 w h ks.length t)) (P.length<=24) (PotD n (m+50) st') (Fr n st st'):=by
 obtain⟨d,s1,e1,a1,hd,g1⟩:=zfl (ts:=sd) (st:=st) (by omega);rw[zga nd] at a1;have hn:=hp.lt;have hdn:d≠n:=by omega
 obtain⟨R,s2,e2,hr,hR,p2,f2⟩:=znE (st:=s1) c (hp.gr g1) (by omega) hsd nd hl;have a2:=(f2.old _ (getElem?_lt a1) hdn).trans a1;have fr2:=(g1.fr n).trans f2;have key:=zbR (W:=⟨R.map tD,[]⟩) (g:=gNm 3) (m:=zbz) (ds:=R.map tD) (ρ:=[some (.ref n),some (bedD e stk ks w h sd),some (.ref d),none,none,none,none,none]) (st:=s2)
   (Inv:=fun i ρ s=>Y4 ((∃ a3,ρ=[some (.ref n),some (bedD e stk ks w h sd),some (.ref d),a3,none,none,none,none])) (s[d]?=some (.dt ((sd++R.take i).map kvOf))) (PotD n (m+12) s) (Fr n st s))
   ⟨⟨_,rfl⟩,by simpa using a2,p2,fr2⟩ (fun _ _ _ _ _=>rfl) (fun i dd ρ s hdd hI=>by
     obtain⟨⟨a3,rfl⟩,hat,hpt,hfr⟩:=hI;rw[List.getElem?_map] at hdd;obtain⟨⟨x,y,k⟩,ht,rfl⟩:=zah hdd;have hmm:=zl9 hr ht;have dp:=zd5 (x:=x) (y:=y) (k:=k) hat (by simp;omega);have hput:putT (sd++R.take i) (x,y,k)=sd++R.take (i+1):=by
       rw[zdX hmm.2.1,List.append_assoc,List.take_add_one,ht];rfl
     rw[hput] at dp;exact⟨_,s,_,_,rfl,znV dp,⟨_,rfl⟩,by rw[List.getElem?_set_self (getElem?_lt hat)],hpt.set hdn,zm8 hfr hd⟩)
 obtain⟨ρ',s3,el,⟨a3,rfl⟩,at3,pt3,fr3⟩:=key;rw[List.length_map,List.take_length] at at3;obtain⟨r,s4,e4,r0,r1,p4,f4⟩:=zaV (many:=6) pt3 (by omega) (by decide) (by decide);have at4:=(f4.old _ (getElem?_lt at3) hdn).trans at3;obtain⟨rn,hrn,hr6⟩:∃ rn:Nat,r=(rn:Int)/\rn<=5:=⟨r.toNat,by omega,by omega⟩
 have key2:=zbR (W:=⟨run 0 rn,[]⟩) (g:=gNm 4) (m:=zby) (ds:=run 0 rn) (ρ:=[some (.ref n),some (bedD e stk ks w h sd),some (.ref d),a3,none,none,none,none]) (st:=s4)
   (Inv:=fun i ρ s=>(∃ a4 a5 a6 a7,ρ=[some (.ref n),some (bedD e stk ks w h sd),some (.ref d),a3,a4,a5,a6,a7])/\∃ P:List Tl,SP n (m+13+5*i) d w h ks.length P st s/\P.length<=18+i)
   ⟨⟨_,_,_,_,rfl⟩,sd++R,⟨at4,zgv nd hr,fun t ht=>by
     rcases List.mem_append.mp ht with ht | ht
     . exact hsd t ht
     . exact zc3 hr t ht,p4,fr3.trans f4⟩,by simp;omega⟩ (fun _ _ _ _ _=>rfl) (fun i dd ρ s hdd hI=>by
     obtain⟨⟨a4,a5,a6,a7,rfl⟩,P,q,hP⟩:=hI;obtain⟨hi,rfl⟩:=zdW hdd;obtain⟨P',b5,b6,b7,s',e5,q5,hP'⟩:=zhJ (a3:=a3) (a4:=some (.int (i:Int))) (a5:=a5) (a6:=a6) (a7:=a7) c q hd hdn (by omega) (by omega) k0;exact⟨_,s,_,s',rfl,e5,⟨_,_,_,_,rfl⟩,P',⟨q5.at_,q5.nd,q5.ok,q5.pot.up (by omega),q5.fr⟩,by omega⟩)
 obtain⟨ρ'',s5,el2,⟨a4,a5,a6,a7,rfl⟩,P,q,hP⟩:=key2;rw[zca] at q hP;obtain⟨s6,e6,g6⟩:=zcY q.at_ q.nd (by omega);refine⟨P,s6,zcy ?_,q.nd,q.ok,by omega,(q.pot.gr g6).up (by omega),q.fr.trans (g6.fr n)⟩;have x2:∀ s:Sto,ixA (bedD e stk ks w h sd) (.int 2) s=some (zas sd,s):=fun s=>zaQ (by decide) rfl;unfold zdf;generalize bedD e stk ks w h sd=bed at *;generalize zas sd=SS at *;generalize zas (srtT P)=S at *;generalize R.map tD=RR at *;refine zan (ρ1:=[some (.ref n),some bed,some (.ref d),none,none,none,none,none]) (s1:=s1) (by simp[x2,e1]) ?_;have hw:mWA (zar zbT (zad (mVar 0) (zad (mVar 1) (zad (mCon (.int 12)) (mNil))))) [some (.ref n),some bed,some (.ref d),none,none,none,none,none] s1=some (⟨RR,[]⟩,s2):=by simp[e2,zie]
 refine zan (ρ1:=[some (.ref n),some bed,some (.ref d),a3,none,none,none,none]) (s1:=s3) (by rw[zdb,hw];exact el) ?_;have hr1:mR1 (zar zac (zad (mVar 0) (zad (mCon (.int 6)) (mNil)))) [some (.ref n),some bed,some (.ref d),a3,none,none,none,none] s3=some (⟨run 0 rn,[]⟩,s4):=by
   refine zkq (s1:=s4) (k:=rn) hrn ?_ (by omega);simp[e4]
 refine zan (ρ1:=[some (.ref n),some bed,some (.ref d),a3,a4,a5,a6,a7]) (s1:=s5) (by rw[zdb,hr1];exact el2) ?_;simp[e6]
end L2.MP.stickytiles_k38_sound_parts
set_option maxHeartbeats 4000000
namespace L2.MP.stickytiles_k38_sound_parts
open PySem L2.MP L2.MP.Hd
open L2.MP.Hn (zas zaA srtT zaz zbq zbj)
theorem zro{e:Int}{stk:List (Str×Int)}{ks:List (List Str)}{w h:Int}{sd:List Tl}(hs:HsOk e stk ks)(hf:FlOk w h):Ctx (bedD e stk ks w h sd) e stk ks w h :=
 ⟨⟨zeq e stk ks,fun s=>zaQ (by decide) rfl,fun s=>zaQ (by decide) rfl,fun s=>zaQ (by decide) rfl,fun s=>zaQ (by decide) rfl⟩,fun s=>zaQ (by decide) rfl,hs,hf⟩
theorem zgY{w h kn:Int}{l:List Tl}(h':∀ t∈l,za8 w h kn t):∀ t∈srtT l,za8 w h kn t:=fun t ht=>h' t ((zaz l).mem_iff.mp ht)
theorem zjR{e w h:Int}{stk:List (Str×Int)}{ks:List (List Str)}{sd R:List Tl}(hsd:∀ t∈sd,za8 w h ks.length t)(hr:zgh e stk ks w h sd R):∀ t∈sd++R,za8 w h ks.length t:=fun t ht=>by
 rcases List.mem_append.mp ht with ht | ht
 . exact hsd t ht
 . exact zc3 hr t ht
theorem zoZ{bed TT S:D}{d:Nat}{z:Str}{a0 a1 a2 a5:Option D}{s s1 s2 s3 s4 s5:Sto}(e0:zbI [bed,TT] s=some (.ref d,s1))(e1:zaB [.ref d] s1=some (S,s2))(rz:∀ st:Sto,ziO [S] st=some (.str z,st))(e2:zdd [bed,TT] s2=some (S,s3))(e3:zdd [bed,S] s3=some (S,s4))(e4:zdd [bed,TT] s4=some (S,s5)) :
   zgd [a0,a1,a2,some bed,some TT,a5] s=some (.nx [a0,a1,a2,some bed,some TT,some S],s5):=by
 have ns:∀ st:Sto,neS (.str z) (.str z) st=some (.bl false,st):=fun _=>zoJ;unfold zgd;refine zan (ρ1:=[a0,a1,a2,some bed,some TT,some S]) (s1:=s2) (by simp[e0,e1]) ?_;refine zan (ρ1:=[a0,a1,a2,some bed,some TT,some S]) (s1:=s4) (by simp[e2,e3,rz,ns]) ?_;simp[e4,rz,ns]
theorem zqR{e w h:Int}{stk:List (Str×Int)}{ks:List (List Str)}{sd T:List Tl}{a0 a1 a2 a5:Option D}{s:Sto}(c:Ctx (bedD e stk ks w h sd) e stk ks w h)(hsd:∀ t∈sd,za8 w h ks.length t)(nds:PlNd sd)(hsl:sd.length<=6)(hT:∀ t∈T,za8 w h ks.length t)(ndT:PlNd T)(hTl:T.length<=24) :
   ∃ (b5:Option D) (s':Sto),zgd [a0,a1,a2,some (bedD e stk ks w h sd),some (zas T),a5] s=some (.nx [a0,a1,a2,some (bedD e stk ks w h sd),some (zas T),b5],s')/\Gr s s':=by
 have f2:=c.fo.w1;have f4:=c.fo.h1;have k13:=c.hs.hi;obtain⟨d,R,s1,e0,hd,g1,cl,hR⟩:=zgK (st:=s) c hT hsd nds hsl (by omega);have nd2:PlNd (srtT (sd++R)):=zhg (zaz _) (zgv nds cl.row);have len2:(srtT (sd++R)).length<=30:=by rw[(zaz _).length_eq];simp;omega
 have ok2:=zgY (zjR hsd cl.row);obtain⟨s2,e1,g2⟩:=zcY hd (zgv nds cl.row) (by simp;omega);obtain⟨z,rz⟩:=zoa (zio ok2 (by omega) (by omega) (by omega) (by omega)) (by decide) (by decide);obtain⟨R2,s3,e2,g3,cl2,_⟩:=zgp (st:=s2) c hT hsd ndT nds hsl (by omega);rw[zjH c ndT nds cl2 cl] at e2;obtain⟨R3,s4,e3,g4,cl3,_⟩:=zgp (st:=s3) c ok2 hsd nd2 nds hsl (by omega);rw[zjH c nd2 nds cl3 (zph cl)] at e3;obtain⟨R4,s5,e4,g5,cl4,_⟩:=zgp (st:=s4) c hT hsd ndT nds hsl (by omega);rw[zjH c ndT nds cl4 cl] at e4;exact⟨_,s5,zoZ e0 e1 rz e2 e3 e4,((((g1.trans g2).trans g3).trans g4).trans g5)⟩
theorem zmW{bed hs fl S1 S2 S4:D}{n:Nat}{a0 a1 a4 a5:Option D}{s s1 s2:Sto}(e1:zbi [.ref n,bed] s=some (S1,s1))(i0:ixA bed (.int 0) s1=some (hs,s1))(i1:ixA bed (.int 1) s1=some (fl,s1))(e2:zax [.ref n,hs,fl,.int 9] s1=some (S2,s2))(i2:ixA bed (.int 2) s2=some (S4,s2)) :
   mWA (mLst (zad (zar zbi (zad (mVar 2) (zad (mVar 3) (mNil)))) (zad (zar zax (zad (mVar 2) (zad (mBin ixA (mVar 3) (mCon (.int 0))) (zad (mBin ixA (mVar 3) (mCon (.int 1))) (zad (mCon (.int 9)) (mNil)))))) (zad (mTup (mNil)) (zad (mBin ixA (mVar 3) (mCon (.int 2))) (mNil)))))) [a0,a1,some (.ref n),some bed,a4,a5] s=some (⟨[S1,S2,.tup [],S4],[(s2.length,[S1,S2,.tup [],S4])]⟩,s2++[.lst [S1,S2,.tup [],S4]]):=by
 have hl:=zaR s2 (.lst [S1,S2,.tup [],S4]);simp[e1,i0,i1,e2,i2,zie,zbu,hl]
theorem zma{ns:List Int}{k:Int}{a2 a3 a4 a5:Option D}{s:Sto}(h0:0<=k)(h1:k<=1000) :
   ∃ (b2 b3 b4 b5:Option D) (s':Sto),zhE [some (.kl (ns.map D.int)),some (.int k),a2,a3,a4,a5] s=some (.nx [some (.kl (ns.map D.int)),some (.int k),b2,b3,b4,b5],s'):=by
 obtain⟨s1,e1,p1,g1⟩:=znn (ns:=ns) (k:=k) (st:=s) h0 h1;generalize hn:s.length=n at *;obtain⟨e,stk,ks,w,h,sd,s2,e2,hs,hf,hsd,⟨l,hsl,ndl⟩,lsd,p2,f2⟩:=zpr p1 (by omega);have nd:PlNd sd:=by rw[hsl];exact zhg (zaz l) ndl
 have c:Ctx (bedD e stk ks w h sd) e stk ks w h:=zro hs hf;have w0:=hf.w0;have w1:=hf.w1;have w2:=hf.h1;have w3:=hf.h0;have k2:=hs.hi;have k1:=hs.lo;obtain⟨P,s3,e3,ndP,okP,lP,p3,f3⟩:=zkc c p2 (by omega) hsd nd lsd (by omega);obtain⟨ts,s4,e4,okt,⟨l',hts,ndl'⟩,lt,p4,f4⟩:=zdP (most:=9) (a:=.int e) (b:=.tup (stk.map zbM)) (ks:=ks.map zb8) (w:=w) (h:=h) p3 (by omega) (by omega) (by omega) (by omega) (by rw[List.length_map];omega) (by rw[List.length_map];omega) (by omega) (by omega) (by omega);rw[List.length_map] at okt;have ndt:PlNd ts:=by rw[hts];exact zhg (zaz l') ndl'
 have i0:∀ s:Sto,ixA (bedD e stk ks w h sd) (.int 0) s=some (zeq e stk ks,s):=fun s=>zaQ (by decide) rfl;have i1:∀ s:Sto,ixA (bedD e stk ks w h sd) (.int 1) s=some (.tup [.int w,.int h],s):=fun s=>zaQ (by decide) rfl;have i2:∀ s:Sto,ixA (bedD e stk ks w h sd) (.int 2) s=some (zas sd,s):=fun s=>zaQ (by decide) rfl;have hw:=zmW (a0:=some (.kl (ns.map D.int))) (a1:=some (.int k)) (a4:=a4) (a5:=a5) e3 (i0 _) (i1 _) e4 (i2 _);have eds:[zas (srtT P),zas ts,.tup [],zas sd]=[srtT P,ts,[],sd].map zas:=rfl;rw[eds] at hw;have a6:=zaR s4 (.lst ([srtT P,ts,[],sd].map zas));have all:∀ T∈[srtT P,ts,[],sd],(∀ t∈T,za8 w h ks.length t)/\PlNd T/\T.length<=24:=fun T hT=>by
   simp only[List.mem_cons,List.not_mem_nil,or_false] at hT
   rcases hT with rfl | rfl | rfl | rfl
   . exact⟨zgY okP,zhg (zaz P) ndP,by rw[(zaz P).length_eq];exact lP⟩
   . exact⟨okt,ndt,by omega⟩
   . exact⟨(fun t ht=>nomatch ht),List.Pairwise.nil,by simp⟩
   . exact⟨hsd,nd,by omega⟩
 generalize [srtT P,ts,[],sd]=Ts at *;generalize hs5:s4++[O.lst (Ts.map zas)]=s5 at *;have key:=zbR (W:=⟨Ts.map zas,[(s4.length,Ts.map zas)]⟩) (g:=gNm 4) (m:=zgd) (ds:=Ts.map zas) (ρ:=[some (.kl (ns.map D.int)),some (.int k),some (.ref n),some (bedD e stk ks w h sd),a4,a5]) (st:=s5)
   (Inv:=fun i ρ q=>(∃ b4 b5,ρ=[some (.kl (ns.map D.int)),some (.int k),some (.ref n),some (bedD e stk ks w h sd),b4,b5])/\Gr s5 q)
   ⟨⟨_,_,rfl⟩,Gr.refl _⟩ (fun i ρ q _ hI=>zcl ((hI.2.old _ (getElem?_lt a6)).trans a6)) (fun i dd ρ q hdd hI=>by
     obtain⟨⟨b4,b5,rfl⟩,gq⟩:=hI;rw[List.getElem?_map] at hdd;obtain⟨T,hT,rfl⟩:=zah hdd;obtain⟨okT,ndT,lT⟩:=all T (List.mem_of_getElem? hT);obtain⟨c5,s',e5,g5⟩:=zqR (a0:=some (.kl (ns.map D.int))) (a1:=some (.int k)) (a2:=some (.ref n)) (a5:=b5) (s:=q) c hsd nd lsd okT ndT lT;exact⟨_,q,_,s',rfl,e5,⟨_,_,rfl⟩,gq.trans g5⟩)
 obtain⟨ρ',s6,el,⟨b4,b5,rfl⟩,g6⟩:=key;refine⟨some (.ref n),some (bedD e stk ks w h sd),b4,b5,s6,?_⟩;generalize bedD e stk ks w h sd=bed at *;generalize ns.map D.int=NS at *;unfold zhE;refine zan (ρ1:=[some (.kl NS),some (.int k),some (.ref n),a3,a4,a5]) (s1:=s1) (by simp[e1]) ?_;refine zan (ρ1:=[some (.kl NS),some (.int k),some (.ref n),some bed,a4,a5]) (s1:=s2) (by simp[e2]) ?_;rw[zdb,hw];exact el
theorem zmY(ns:List Int)(hl:ns.length<=63):∃ st,znu [.kl (ns.map D.int)] []=some (.bl true,st):=by
 obtain⟨M,hM,hM4⟩:∃ M:Nat,(1+(if (ns.length:Int) < 3 then (ns.length:Int) else 3))=(M:Int)/\M<=4:=by
   by_cases h:(ns.length:Int) < 3
   . exact⟨1+ns.length,by rw[if_pos h];omega,by omega⟩
   . exact⟨4,by rw[if_neg h];rfl,by omega⟩
 have key:=zbR (W:=⟨run 0 M,[]⟩) (g:=gNm 1) (m:=zhE) (ds:=run 0 M) (ρ:=[some (.kl (ns.map D.int)),none,none,none,none,none]) (st:=[])
   (Inv:=fun i ρ s=>∃ a b c d e,ρ=[some (.kl (ns.map D.int)),a,b,c,d,e]) ⟨_,_,_,_,_,rfl⟩ (fun _ _ _ _ _=>rfl) (fun i dd ρ s hd hI=>by
     obtain⟨a1,a2,a3,a4,a5,rfl⟩:=hI;obtain⟨hi,rfl⟩:=zdW hd;obtain⟨b2,b3,b4,b5,s',e⟩:=zma (ns:=ns) (k:=(i:Int)) (a2:=a2) (a3:=a3) (a4:=a4) (a5:=a5) (s:=s) (by omega) (by omega);exact⟨[some (.kl (ns.map D.int)),some (.int (i:Int)),a2,a3,a4,a5],s,_,s',rfl,e,_,_,_,_,_,rfl⟩)
 obtain⟨ρ',s2,el,a1,a2,a3,a4,a5,rfl⟩:=key;refine⟨s2,zcy ?_⟩;unfold zrZ;have elen:lenD [.kl (ns.map D.int)] []=some (.int (ns.length:Int),[]):=by rw[zmX,List.length_map]
 have er:mR1 (mBin addD (mCon (.int 1)) (zar zoN (zad (mCon (.int 3)) (zad (zar lenD (zad (mVar 0) (mNil))) (mNil))))) [some (.kl (ns.map D.int)),none,none,none,none,none] []=some (⟨run 0 M,[]⟩,[]):=by
   refine zkq (s1:=[]) (k:=M) hM ?_ (by omega);generalize ns.map D.int=NS at *;generalize (ns.length:Int)=K at *;simp[elen,zoN]
 refine zan (ρ1:=[some (.kl (ns.map D.int)),a1,a2,a3,a4,a5]) (s1:=s2) (by
   show mFor _ _ _ [some (.kl (ns.map D.int)),none,none,none,none,none] []=_;rw[zdb,er];exact el) ?_
 simp
end L2.MP.stickytiles_k38_sound_parts
namespace L2.MP.stickytiles_k38_sound_parts
open PySem L2 L2.MP PySem.Spec PyProof.Rows
theorem zpY{K:PySem.W.Frag}{H:Hp}{a:Addr}{ns:List Int}(hl:ns.length<=63)(hO:Only H)(hS:SqL K H a (ns.map V.int)):spM K 1 znu [.ref a] H (fun v _=>v=.bl true) fun _ _ _=>False:=by
 obtain⟨st,e⟩:=zmY ns hl;exact zlT hO hS e
theorem walk{l:PySem.W.OpenLaw}{q:Program}{loose:List Str}{XP:(Str->Option Value)->Heap->Prop}{YP:World->Heap->Prop}{d:DefRec}{K:Params->PySem.W.Frag}(hn:l.most=some 63)(hdf:d.params.defaults=[])
   (hY:∀ (w:World) (h:Heap),YP w h->(K w.params).In h)
   (F:∀ (w:World) (mg:Str->Option Value) (fa:Addr) (h:Heap),(K w.params).In h->h.Ns mainGlobals mg->mg d.name=some (.ref fa) ->
     ∃ fd:FuncData,(∀ (s:Shared) (u:Value),BindsTo s fd ⟨[u],[]⟩ [("_law_script",u)])/\∀ base:Heap,(K w.params).In base->base.Ns mainGlobals mg->FnOk l.prog w (K w.params) mg base CX0 7 fa fd ["_law_script"] (spM (K w.params) 1 znu)) :
   PySem.W.WalkO q loose XP YP l.row.toRowW d [] (fun f vs=>PySem.call f vs) :=
 L2.walk_of (n:=63) (k:=7) (x:="_law_script") (CX:=fun _=>CX0) (sp:=fun w=>spM (K w.params) 1 znu) hn (by decide) hdf ⟨rfl,by decide,by decide,rfl⟩ hY F (fun _ _ a ns hl hO hS=>zpY hl hO hS) fun _ _ _ _ _ z=>z
end L2.MP.stickytiles_k38_sound_parts
open PySem PySem.W PyProof.Rows
set_option maxRecDepth 100000 in
set_option maxHeartbeats 0 in
theorem PySem.Challenge.cw_stickytiles_k38_sound_parts_holds : PySem.Challenge.rw_stickytiles_k38_sound_parts.Holds := by
 w_on;o_law;k_head;(case hw=>w_witness2)
 k_fill
 refine L2.MP.stickytiles_k38_sound_parts.walk (l:=PySem.Challenge.rw_stickytiles_k38_sound_parts) rfl rfl (fun w h Y=>PySem.W.kIn_of Y) ?F
 case F =>
   intro w mg fa h KX G hmg;refine' L2.MP.stickytiles_k38_sound_parts.all_mk KX G hmg (L2.MP.zc7 ?a0 ?l0 ?c0 ?k0) (L2.MP.zc7 ?a1 ?l1 ?c1 ?k1) (L2.MP.zc7 ?a2 ?l2 ?c2 ?k2) (L2.MP.zc7 ?a3 ?l3 ?c3 ?k3) (L2.MP.zc7 ?a4 ?l4 ?c4 ?k4) (L2.MP.zc7 ?a5 ?l5 ?c5 ?k5) (L2.MP.zc7 ?a6 ?l6 ?c6 ?k6) (L2.MP.zc7 ?a7 ?l7 ?c7 ?k7) (L2.MP.zc7 ?a8 ?l8 ?c8 ?k8) (L2.MP.zc7 ?a9 ?l9 ?c9 ?k9) (L2.MP.zc7 ?a10 ?l10 ?c10 ?k10) (L2.MP.zc7 ?a11 ?l11 ?c11 ?k11) (L2.MP.zc7 ?a12 ?l12 ?c12 ?k12) (L2.MP.zc7 ?a13 ?l13 ?c13 ?k13) (L2.MP.zc7 ?a14 ?l14 ?c14 ?k14) (L2.MP.zc7 ?a15 ?l15 ?c15 ?k15) (L2.MP.zc7 ?a16 ?l16 ?c16 ?k16) (L2.MP.zc7 ?a17 ?l17 ?c17 ?k17) (L2.MP.zc7 ?a18 ?l18 ?c18 ?k18) (L2.MP.zc7 ?a19 ?l19 ?c19 ?k19) (L2.MP.zc7 ?a20 ?l20 ?c20 ?k20) (L2.MP.zc7 ?a21 ?l21 ?c21 ?k21) (L2.MP.zc7 ?a22 ?l22 ?c22 ?k22) (L2.MP.zc7 ?a23 ?l23 ?c23 ?k23) (L2.MP.zc7 ?a24 ?l24 ?c24 ?k24) (L2.MP.zc7 ?a25 ?l25 ?c25 ?k25) (L2.MP.zc7 ?a26 ?l26 ?c26 ?k26) (L2.MP.zc7 ?a27 ?l27 ?c27 ?k27) (L2.MP.zc7 ?a28 ?l28 ?c28 ?k28) ?z0 ?z1 ?z2 ?z3 ?z4 ?z5 ?z6 ?z7 ?z8 ?z9 ?z10 ?z11 ?z12 ?z13
   (case a0=>k_is);(case l0=>k_is);(case c0=>k_is);(case k0=>k_is)
   (case a1=>k_is);(case l1=>k_is);(case c1=>k_is);(case k1=>k_is)
   (case a2=>k_is);(case l2=>k_is);(case c2=>k_is);(case k2=>k_is)
   (case a3=>k_is);(case l3=>k_is);(case c3=>k_is);(case k3=>k_is)
   (case a4=>k_is);(case l4=>k_is);(case c4=>k_is);(case k4=>k_is)
   (case a5=>k_is);(case l5=>k_is);(case c5=>k_is);(case k5=>k_is)
   (case a6=>k_is);(case l6=>k_is);(case c6=>k_is);(case k6=>k_is)
   (case a7=>k_is);(case l7=>k_is);(case c7=>k_is);(case k7=>k_is)
   (case a8=>k_is);(case l8=>k_is);(case c8=>k_is);(case k8=>k_is)
   (case a9=>k_is);(case l9=>k_is);(case c9=>k_is);(case k9=>k_is)
   (case a10=>k_is);(case l10=>k_is);(case c10=>k_is);(case k10=>k_is)
   (case a11=>k_is);(case l11=>k_is);(case c11=>k_is);(case k11=>k_is)
   (case a12=>k_is);(case l12=>k_is);(case c12=>k_is);(case k12=>k_is)
   (case a13=>k_is);(case l13=>k_is);(case c13=>k_is);(case k13=>k_is)
   (case a14=>k_is);(case l14=>k_is);(case c14=>k_is);(case k14=>k_is)
   (case a15=>k_is);(case l15=>k_is);(case c15=>k_is);(case k15=>k_is)
   (case a16=>k_is);(case l16=>k_is);(case c16=>k_is);(case k16=>k_is)
   (case a17=>k_is);(case l17=>k_is);(case c17=>k_is);(case k17=>k_is)
   (case a18=>k_is);(case l18=>k_is);(case c18=>k_is);(case k18=>k_is)
   (case a19=>k_is);(case l19=>k_is);(case c19=>k_is);(case k19=>k_is)
   (case a20=>k_is);(case l20=>k_is);(case c20=>k_is);(case k20=>k_is)
   (case a21=>k_is);(case l21=>k_is);(case c21=>k_is);(case k21=>k_is)
   (case a22=>k_is);(case l22=>k_is);(case c22=>k_is);(case k22=>k_is)
   (case a23=>k_is);(case l23=>k_is);(case c23=>k_is);(case k23=>k_is)
   (case a24=>k_is);(case l24=>k_is);(case c24=>k_is);(case k24=>k_is)
   (case a25=>k_is);(case l25=>k_is);(case c25=>k_is);(case k25=>k_is)
   (case a26=>k_is);(case l26=>k_is);(case c26=>k_is);(case k26=>k_is)
   (case a27=>k_is);(case l27=>k_is);(case c27=>k_is);(case k27=>k_is)
   (case a28=>k_is);(case l28=>k_is);(case c28=>k_is);(case k28=>k_is)
   (case z0=>k_is);(case z1=>k_is);(case z2=>k_is);(case z3=>k_is);(case z4=>k_is);(case z5=>k_is);(case z6=>k_is);(case z7=>k_is);(case z8=>k_is);(case z9=>k_is);(case z10=>k_is);(case z11=>k_is);(case z12=>k_is);(case z13=>k_is)
