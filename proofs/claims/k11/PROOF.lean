import PyProof.Rows.All
import Wide.All
import OpenK.AllK
import Wide.FinOn
import Lean
import PyProof.EqAt
import PyProof.EqKinds
import PyProof.TupleCall
import KE.KRevSl
import PyProof.AttrMissHeap
import KE.KDictOf
import PyProof.StrWalks
import PyProof.ListStr
import PyProof.EnumMake
import PyProof.Rows.Range3
import PyProof.Rows.StrIndexOr
import KE.KRevIter
import PyProof.SumWalk
import PyProof.ReprRoads
import PyProof.DictWalks
import PyProof.FitsBits
import PyProof.StrLawsIn
import PyProof.Rows.StrLawsPart
import PyProof.StrLawsChain
import PySem.Challenge.RW_stickytiles_k11_growings
set_option Elab.async false
set_option linter.all false
set_option maxRecDepth 100000
namespace L2
open PySem PySem.Spec PyProof.Rows
abbrev Key := Sum Int Str
def zlt : Key→Value→Bool
 | .inl k, v => Value.isInt k v
 | .inr x, v => Value.isStrOf x v
def keyH (w : World) : Key→Int
 | .inl k => hashInt k
 | .inr x => hashStr w x
theorem za1 : ∀ {k : Key} {v : Value}, zlt k v = true→(∃ i t, k = Sum.inl i∧v = Value.int i t) ∨ (∃ x t, k = Sum.inr x∧v = Value.str x t)
 | .inl i, v, h => by
   obtain ⟨t, e⟩ := Value.isInt_shape (k := i) (v := v) h
   exact .inl ⟨i, t, rfl, e⟩
 | .inr x, v, h => by
   obtain ⟨t, e⟩ := Value.isStrOf_shape (x := x) (v := v) h
   exact .inr ⟨x, t, rfl, e⟩
theorem zi6 (i : Int) (t : Tok) : zlt (.inl i) (.int i t) = true := by simp [zlt, Value.isInt]
theorem zi5 (x : Str) (t : Tok) : zlt (.inr x) (.str x t) = true := by simp [zlt, Value.isStrOf]
theorem zoA (a b : Int) : decide ((Sum.inl a : Key) = Sum.inl b) = (a == b) := by
 by_cases e : a = b
 · subst e; simp
 · have h : ¬ (Sum.inl a : Key) = Sum.inl b := fun q => e (Sum.inl.inj q)
   rw [decide_eq_false h]
   exact (beq_eq_false_iff_ne.mpr e).symm
theorem zox (a b : Str) : decide ((Sum.inr a : Key) = Sum.inr b) = decide (a = b) := by
 by_cases e : a = b
 · subst e; simp
 · have h : ¬ (Sum.inr a : Key) = Sum.inr b := fun q => e (Sum.inr.inj q)
   rw [decide_eq_false h, decide_eq_false e]
theorem zoz (a : Int) (b : Str) : decide ((Sum.inl a : Key) = Sum.inr b) = false := decide_eq_false (fun q => nomatch q)
theorem zoy (a : Str) (b : Int) : decide ((Sum.inr a : Key) = Sum.inl b) = false := decide_eq_false (fun q => nomatch q)
def zaw (prog : Program) (w : World) : PySem.KeyKind prog w Key where
 is := zlt
 hash := keyH w
 inj := fun v a b ha hb => by
   rcases za1 ha with ⟨i, t, rfl, rfl⟩ | ⟨x, t, rfl, rfl⟩
   · rcases za1 hb with ⟨j, u, rfl, e⟩ | ⟨y, u, rfl, e⟩
     · injection e with e1 _; rw [e1]
     · exact nomatch e
   · rcases za1 hb with ⟨j, u, rfl, e⟩ | ⟨y, u, rfl, e⟩
     · exact nomatch e
     · injection e with e1 _; rw [e1]
 byValue := fun k v h => by
   rcases za1 h with ⟨i, t, rfl, rfl⟩ | ⟨x, t, rfl, rfl⟩ <;> rfl
 pyHash := fun hv h => by
   rcases za1 hv with ⟨i, t, rfl, rfl⟩ | ⟨x, t, rfl, rfl⟩
   · exact wpAny_pyHash_int h
   · exact wpAny_pyHash_str h
 eqBool := fun hu hv h => by
   rcases za1 hu with ⟨i, t, rfl, rfl⟩ | ⟨x, t, rfl, rfl⟩
   · rcases za1 hv with ⟨j, u, rfl, rfl⟩ | ⟨y, u, rfl, rfl⟩
     · rw [zoA] at h; exact wpAny_eqBool_int h
     · rw [zoz] at h; exact SeqAt.EqAt.int_str i t y u _ _ _ _ h
   · rcases za1 hv with ⟨j, u, rfl, rfl⟩ | ⟨y, u, rfl, rfl⟩
     · rw [zoy] at h; exact SeqAt.EqAt.str_int x t j u _ _ _ _ h
     · rw [zox] at h; exact wpAny_eqBool_str h
 «strs» := fun k x t v h => by
   rcases za1 h with ⟨i, u, rfl, e⟩ | ⟨y, u, rfl, e⟩
   · exact nomatch e
   · injection e with e1 _
     subst e1
     cases v <;> rfl
theorem zgE (prog : Program) (w : World) (i : Int) (t : Tok) : (zaw prog w).is (.inl i) (.int i t) = true := zi6 i t
theorem zgD (prog : Program) (w : World) (x : Str) (t : Tok) : (zaw prog w).is (.inr x) (.str x t) = true := zi5 x t
end L2
namespace L2
open PySem PySem.Spec PyProof.Rows
inductive V where
 | non | bl (b : Bool) | int (i : Int) | str (x : Str) | byt (b : Array UInt8) | flt (b : UInt64) | ref (a : Addr) | ty (n : String)
 deriving DecidableEq
def RelV : V→Value→Prop
 | .non, u => u = Value.none
 | .bl b, u => u = Value.bool b
 | .int i, u => ∃ t, u = Value.int i t
 | .str x, u => ∃ t, u = Value.str x t
 | .byt b, u => ∃ t, u = Value.bytes b t
 | .flt b, u => ∃ t, u = Value.float b t
 | .ref a, u => u = Value.ref a
 | .ty n, u => u = Value.type n
abbrev Vals : List V→List Value→Prop := Paired RelV
theorem Vals.length {xs : List V} {us : List Value} (r : Vals xs us) : xs.length = us.length := Paired.length r
theorem Vals.get : ∀ {xs : List V} {us : List Value} {i : Nat} {x : V}, Vals xs us→xs[i]? = some x→∃ u, us[i]? = some u∧RelV x u
 | _, _, _, _, .nil, e => by simp at e
 | _, _, 0, _, .cons r _, e => by simp at e; subst e; exact ⟨_, rfl, r⟩
 | _, _, i + 1, x, .cons _ t, e => by
   obtain ⟨u, h1, h2⟩ := Vals.get (i := i) (x := x) t (by simpa using e)
   exact ⟨u, by simpa using h1, h2⟩
theorem Vals.set {x : V} {u : Value} (r : RelV x u) : ∀ {xs : List V} {us : List Value} (i : Nat), Vals xs us→Vals (xs.set i x) (us.set i u)
 | _, _, _, .nil => .nil
 | _, _, 0, .cons _ t => .cons r t
 | _, _, i + 1, .cons q t => .cons q (Vals.set r i t)
theorem Vals.append : ∀ {xs ys : List V} {us ws : List Value}, Vals xs us→Vals ys ws→Vals (xs ++ ys) (us ++ ws)
 | _, _, _, _, .nil, s => s
 | _, _, _, _, .cons r t, s => .cons r (Vals.append t s)
theorem Vals.take : ∀ {xs : List V} {us : List Value} (n : Nat), Vals xs us→Vals (xs.take n) (us.take n)
 | _, _, 0, _ => .nil
 | _, _, _ + 1, .nil => .nil
 | _, _, n + 1, .cons r t => .cons r (Vals.take n t)
theorem Vals.drop : ∀ {xs : List V} {us : List Value} (n : Nat), Vals xs us→Vals (xs.drop n) (us.drop n)
 | _, _, 0, r => r
 | _, _, _ + 1, .nil => .nil
 | _, _, n + 1, .cons _ t => Vals.drop n t
def RelO : Option V→Option Value→Prop
 | some v, some u => RelV v u
 | none, none => True
 | _, _ => False
def KV {κ : Type} : List (κ × V)→List (κ × Value)→Prop := Paired fun (p : κ × V) (q : κ × Value) => p.1 = q.1∧RelV p.2 q.2
def kV : Key→V
 | .inl i => .int i
 | .inr x => .str x
inductive HO where
 /-- a list -/
 | lst (xs : List V)
 /-- a tuple (never changes) -/
 | tup (xs : List V)
 /-- a dict whose keys are ints and texts; one whose keys are tuples of ints and texts (the empty one is both) -/
 | dK (kvs : List (Key × V)) | dT (kvs : List (List Key × V))
 /-- a set of ints: its members, its size -/
 | set (S : Int→Bool) (n : Nat)
 /-- an instance of the class at C, its dict at dx, its attributes -/
 | ins (C dx : Addr) (fs : List (Str × V))
 /-- the dict of the instance at x -/
 | own (x : Addr)
 /-- the dict of an exception -/
 | xd (fs : List (Str × V))
 /-- a bound method, f of x -/
 | met (f x : Addr)
 /-- a range object lo, lo + 1, .. below hi -/
 | rng (lo hi : Int)
 /-- a thing that is known to the object (the script; a dict while a loop walks it): read, never written while it is so -/
 | frz (o : Obj) (u : HO)
 /-- a code object's table -/
 | tbl (ps : Array Value)
 /-- any other thing, by what is true of its one object (a def of one's own: SetO a S n := HO.ext fun h => ..) -/
 | ext (φ : Heap→Prop)
abbrev Hp := Addr→Option HO
def upd (H : Hp) (a : Addr) (o : HO) : Hp := fun b => if b = a then some o else H b
theorem zbi {H : Hp} {a : Addr} {o : HO} : upd H a o a = some o := by unfold upd; rw [if_pos rfl]
theorem zay {H : Hp} {a b : Addr} {o : HO} (h : b ≠ a) : upd H a o b = H b := by unfold upd; rw [if_neg h]
theorem zne {H : Hp} {a b : Addr} {o u : HO} (h : H a = some o) (h' : H b = some u) (d : o ≠ u) : a ≠ b := by
 intro e; subst e; rw [h] at h'; exact d (Option.some.inj h')
theorem zaq {H : Hp} {a b : Addr} {o : HO} (h : H a = some o) (h' : H b = none) : a ≠ b := by
 intro e; subst e; rw [h] at h'; cases h'
def zcv (h : Heap) (a : Addr) (items : Array Value) : Prop := ∃ o, h.get? a = some o∧o.cls = .type "tuple"∧o.dict = none∧∃ n, o.data = .seq items n
theorem zcv.t {h : Heap} {a : Addr} {items : Array Value} (x : zcv h a items) : IsTup h a items := let ⟨o, ho, hc, _, r⟩ := x; ⟨o, ho, hc, r⟩
theorem zcv.keeps {h h' : Heap} {a : Addr} {items : Array Value} (x : zcv h a items) (hk : ∀ b o, h.get? b = some o→h'.get? b = some o) : zcv h' a items := let ⟨o, ho, r⟩ := x; ⟨o, hk a o ho, r⟩
theorem zcv.new (h : Heap) (items : Array Value) : zcv (h.push { cls := .type "tuple", data := .seq items }) h.objs.size items := ⟨_, Heap.get?_push_size _ rfl, rfl, rfl, 0, rfl⟩
section
variable (P : Program) (w : World)
def zc5 (H : Hp) (h : Heap) (a : Addr) : HO→Prop
 | .lst xs => xs.length ≤ sizeLine∧∃ (its : List Value) (n : Nat), Vals xs its∧h.get? a = some { cls := .type "list", data := .seq its.toArray n }
 | .tup xs => xs.length ≤ sizeLine∧∃ its : List Value, Vals xs its∧zcv h a its.toArray
 | .dK kvs => kvs.length ≤ sizeLine∧(a == sysModules) = false∧∃ vs, KV kvs vs∧h.DictOf (zaw P w) a vs
 | .dT kvs => kvs.length ≤ sizeLine∧(a == sysModules) = false∧∃ xs : List (List Key × Addr × Value),
     Paired (fun (p : List Key × V) (q : List Key × Addr × Value) => p.1 = q.1∧H q.2.1 = some (.tup (p.1.map kV))∧RelV p.2 q.2.2) kvs xs ∧
     ∃ o es ep, h.get? a = some o∧o.ExactDict∧o.data = .dict es ep∧es.toList = xs.map (entryOfKey (tupleKind (zaw P w)))∧(xs.map (·.1)).Nodup
 | .set S n => h.SetOf (intKind P w) a S n
 | .ins C dx fs => H dx = some (.own a)∧fs.length ≤ 1000∧dx ≠ a∧h.get? a = some (PySem.W.instObj C dx) ∧
     ∃ mA, h.Ns1 dx mA∧(∀ f, RelO (fs.lookup f) (mA f))∧PySem.Within mA (fs.map (·.1))
 | .own _ => ∃ o, h.get? a = some o
 | .xd fs => ∃ mA, h.Ns1 a mA∧∀ f, RelO (fs.lookup f) (mA f)
 | .rng lo hi => ∃ t u v, h.get? a = some { cls := .type "range", data := .fields #[.int lo t, .int hi u, .int 1 v] }
 | .frz o u => h.get? a = some o∧zc5 H h a u
 | .tbl ps => h.get? a = some { cls := .none, data := .fields ps }
 | .met f x => h.get? a = some (PySem.W.methodObj (.ref f) (.ref x))
 | .ext φ => φ h∧(∃ o, h.get? a = some o)∧∀ h1 h2 : Heap, φ h1→(∀ o, h1.get? a = some o→h2.get? a = some o)→φ h2
def HOk (H : Hp) (h : Heap) : Prop := ∀ a o, H a = some o→zc5 P w H h a o
end
section
variable {P : Program} {w : World} {H H' : Hp} {h h' : Heap} {a : Addr} {o : HO}
theorem zc5.lt (x : zc5 P w H h a o) : a < h.objs.size := by
 cases o with
 | lst xs => obtain ⟨_, _, _, _, e⟩ := x; exact Heap.lt_size e
 | tup xs => obtain ⟨_, _, _, p⟩ := x; exact p.t.lt
 | dK kvs => obtain ⟨_, _, _, _, o, _, _, e, _⟩ := x; exact Heap.lt_size e
 | dT kvs => obtain ⟨_, _, _, _, o, _, _, e, _⟩ := x; exact Heap.lt_size e
 | set S n => obtain ⟨o, _, _, _, e, _⟩ := x; exact Heap.lt_size e
 | ins C dx fs => obtain ⟨_, _, _, e, _⟩ := x; exact Heap.lt_size e
 | own y => obtain ⟨_, e⟩ := x; exact Heap.lt_size e
 | xd fs => obtain ⟨_, ⟨_, _, _, e, _⟩, _⟩ := x; exact Heap.lt_size e
 | rng lo hi => obtain ⟨_, _, _, e⟩ := x; exact Heap.lt_size e
 | frz ob u => obtain ⟨e, _⟩ := x; exact Heap.lt_size e
 | tbl ps => exact Heap.lt_size (show h.get? a = some _ from x)
 | met f y => exact Heap.lt_size (show h.get? a = some _ from x)
 | ext φ => obtain ⟨_, ⟨_, e⟩, _⟩ := x; exact Heap.lt_size e
theorem Paired.mapP {α β : Type} {F G : α→β→Prop} : ∀ {l₁ : List α} {l₂ : List β}, Paired F l₁ l₂→(∀ a b, F a b→G a b)→Paired G l₁ l₂
 | _, _, .nil, _ => .nil
 | _, _, .cons r t, f => .cons (f _ _ r) (Paired.mapP t f)
theorem zc5.stay (x : zc5 P w H h a o) (k : ∀ b u, (b = a ∨ H b = some (.own a))→h.get? b = some u→h'.get? b = some u)
   (ho : ∀ b, H b = some (.own a)→H' b = some (.own a)) (ht : ∀ b xs, H b = some (.tup xs)→H' b = some (.tup xs)) : zc5 P w H' h' a o := by
 induction o with
 | lst xs => obtain ⟨z, its, n, r, e⟩ := x; exact ⟨z, its, n, r, k _ _ (.inl rfl) e⟩
 | tup xs => obtain ⟨z, its, r, ob, e, c⟩ := x; exact ⟨z, its, r, ob, k _ _ (.inl rfl) e, c⟩
 | dK kvs => obtain ⟨z, y, vs, r, ob, es, ep, e, c⟩ := x; exact ⟨z, y, vs, r, ob, es, ep, k _ _ (.inl rfl) e, c⟩
 | dT kvs =>
   obtain ⟨z, y, xs, r, ob, es, ep, e, c⟩ := x
   exact ⟨z, y, xs, Paired.mapP r fun p q z => ⟨z.1, ht _ _ z.2.1, z.2.2⟩, ob, es, ep, k _ _ (.inl rfl) e, c⟩
 | set S n => obtain ⟨ob, es, ep, t, e, c⟩ := x; exact ⟨ob, es, ep, t, k _ _ (.inl rfl) e, c⟩
 | ins C dx fs =>
   obtain ⟨d, z, ne, e, mA, ⟨od, es, ep, e2, c⟩, r⟩ := x
   exact ⟨ho _ d, z, ne, k _ _ (.inl rfl) e, mA, ⟨od, es, ep, k _ _ (.inr d) e2, c⟩, r⟩
 | own y => obtain ⟨ob, e⟩ := x; exact ⟨ob, k _ _ (.inl rfl) e⟩
 | xd fs => obtain ⟨mA, ⟨od, es, ep, e, c⟩, r⟩ := x; exact ⟨mA, ⟨od, es, ep, k _ _ (.inl rfl) e, c⟩, r⟩
 | rng lo hi => obtain ⟨t, u, v, e⟩ := x; exact ⟨t, u, v, k _ _ (.inl rfl) e⟩
 | frz ob u ih => obtain ⟨e, q⟩ := x; exact ⟨k _ _ (.inl rfl) e, ih q⟩
 | tbl ps =>
   have e : h.get? a = some { cls := .none, data := .fields ps } := x
   show h'.get? a = some { cls := .none, data := .fields ps }
   exact k a _ (.inl rfl) e
 | met f y =>
   have e : h.get? a = some (PySem.W.methodObj (.ref f) (.ref y)) := x
   show h'.get? a = some (PySem.W.methodObj (.ref f) (.ref y))
   exact k a _ (.inl rfl) e
 | ext φ => obtain ⟨p, ⟨o, e⟩, st⟩ := x; exact ⟨st _ _ p fun o q => k _ _ (.inl rfl) q, ⟨o, k _ _ (.inl rfl) e⟩, st⟩
theorem HOk.lt (x : HOk P w H h) (e : H a = some o) : a < h.objs.size := (x a o e).lt
theorem HOk.fresh (x : HOk P w H h) (e : h.objs.size ≤ a) : H a = none := by
 cases q : H a with
 | none => rfl
 | some u => exact absurd (Nat.lt_of_lt_of_le (x.lt q) e) (Nat.lt_irrefl _)
theorem HOk.kept (x : HOk P w H h) (k : ∀ b u, h.get? b = some u→h'.get? b = some u) : HOk P w H h' := fun a o e =>
 (x a o e).stay (fun b u _ q => k b u q) (fun _ q => q) fun _ _ q => q
theorem HOk.laid (x : HOk P w H h) (k : ∀ b u, h.get? b = some u→h'.get? b = some u) (hp : h.objs.size ≤ a) (new : zc5 P w (upd H a o) h' a o) : HOk P w (upd H a o) h' := fun b u e => by
 have hn := x.fresh hp
 by_cases hb : b = a
 · subst hb; rw [zbi] at e; cases e; exact new
 · rw [zay hb] at e
   exact (x b u e).stay (fun c v _ q => k c v q) (fun c q => by rw [zay (zaq q hn)]; exact q) fun c xs q => by rw [zay (zaq q hn)]; exact q
end
def Rd (H : Hp) (a : Addr) (u : HO) : Prop := H a = some u ∨ ∃ o, H a = some (.frz o u)
theorem Rd.ok {P : Program} {w : World} {H : Hp} {h : Heap} {a : Addr} {u : HO} (r : Rd H a u) (x : HOk P w H h) : zc5 P w H h a u := by
 rcases r with r | ⟨o, r⟩
 · exact x a u r
 · obtain ⟨_, q⟩ := x a _ r
   exact q
def Mut : Option HO→Prop
 | some (.lst _) => True
 | some (.dK _) => True
 | some (.dT _) => True
 | some (.set _ _) => True
 | some (.ins _ _ _) => True
 | some (.ext _) => True
 | _ => False
section
variable {P : Program} {w : World} {H : Hp} {h h' : Heap} {x e : Addr} {o' : HO}
theorem HOk.write (ok : HOk P w H h) (mu : Mut (H x)) (he : e = x ∨ H e = some (.own x)) (k : ∀ b u, b ≠ e→h.get? b = some u→h'.get? b = some u) (heo : ∃ u, h'.get? e = some u)
   (new : zc5 P w (upd H x o') h' x o') : HOk P w (upd H x o') h' := fun b u q => by
 have nown : ∀ c y, H c = some (.own y)→c ≠ x := fun c y r z => by subst z; rw [r] at mu; exact mu
 have ntup : ∀ c xs, H c = some (.tup xs)→c ≠ x := fun c xs r z => by subst z; rw [r] at mu; exact mu
 by_cases hb : b = x
 · subst hb; rw [zbi] at q; cases q; exact new
 · rw [zay hb] at q
   by_cases hbe : b = e
   · have q' : H b = some (.own x) := by
       rcases he with z | z
       · exact absurd (hbe.trans z) hb
       · rw [hbe]; exact z
     rw [q] at q'; cases q'
     obtain ⟨v, hv⟩ := heo
     exact ⟨v, by rw [hbe]; exact hv⟩
   · refine (ok b u q).stay (fun c v hc r => k c v ?_ r) (fun c r => by rw [zay (nown c b r)]; exact r) fun c xs r => by rw [zay (ntup c xs r)]; exact r
     rcases hc with rfl | hc
     · exact hbe
     · rintro rfl
       rcases he with z | z
       · exact nown c b hc z
       · rw [hc] at z; cases z; exact hb rfl
end
structure Un (fs ex : List Addr) (H H' : Hp) (h h' : Heap) : Prop where
 keep : ∀ b o, h.get? b = some o→H b = none→b ∉ fs→b ∉ ex→h'.get? b = some o
 slot : ∀ b o, h.get? b = some o→H b = none→b ∈ fs→b ∉ ex→∃ sl, h'.get? b = some { o with slots := sl }
 free : ∀ b o, h.get? b = some o→H b = none→b ∉ ex→H' b = none
 there : ∀ b o, h.get? b = some o→b ∉ ex→∃ o', h'.get? b = some o'
 tups : ∀ b xs, H b = some (.tup xs)→H' b = some (.tup xs)
 frzs : ∀ b o u, H b = some (.frz o u)→H' b = some (.frz o u)
 tbls : ∀ b ps, H b = some (.tbl ps)→∃ more, H' b = some (.tbl (ps ++ more))
section
variable {fs fs' ex ex' : List Addr} {H H1 H2 : Hp} {h h1 h2 h' : Heap} {a x e : Addr} {o : HO}
theorem Un.any (u : Un fs ex H H1 h h1) {b : Addr} {ob : Obj} (q : h.get? b = some ob) (n : H b = none) (hx : b ∉ ex) : ∃ sl, h1.get? b = some { ob with slots := sl } := by
 by_cases hb : b ∈ fs
 · exact u.slot b ob q n hb hx
 · exact ⟨ob.slots, u.keep b ob q n hb hx⟩
theorem Un.kept (k : ∀ b u, h.get? b = some u→h'.get? b = some u) : Un fs ex H H h h' :=
 ⟨fun b ob q _ _ _ => k b ob q, fun b ob q _ _ _ => ⟨ob.slots, k b ob q⟩, fun _ _ _ n _ => n, fun b ob q _ => ⟨ob, k b ob q⟩, fun _ _ q => q, fun _ _ _ q => q, fun _ ps q => ⟨#[], by rw [q]; simp⟩⟩
theorem Un.refl : Un fs ex H H h h := Un.kept fun _ _ q => q
theorem Un.laid (k : ∀ b u, h.get? b = some u→h'.get? b = some u) (hp : h.objs.size ≤ a) (hn : H a = none) : Un fs ex H (upd H a o) h h' where
 keep := fun b u q _ _ _ => k b u q
 slot := fun b u q _ _ _ => ⟨u.slots, k b u q⟩
 free := fun b u q n _ => by rw [zay (Nat.ne_of_lt (Nat.lt_of_lt_of_le (Heap.lt_size q) hp))]; exact n
 there := fun b u q _ => ⟨u, k b u q⟩
 tups := fun b xs q => by rw [zay (zaq q hn)]; exact q
 frzs := fun b u xs q => by rw [zay (zaq q hn)]; exact q
 tbls := fun b ps q => ⟨#[], by rw [zay (zaq q hn), q]; simp⟩
theorem Un.write (mu : Mut (H x)) (he : e = x ∨ H e = some (.own x)) (k : ∀ b u, b ≠ e→h.get? b = some u→h'.get? b = some u) (heo : ∃ u, h'.get? e = some u) : Un fs ex H (upd H x o) h h' := by
 have hx : ∀ b, H b = none→b ≠ x := fun b n z => by subst z; rw [n] at mu; exact mu
 have hb : ∀ b, H b = none→b ≠ e := fun b n z => by
   subst z
   rcases he with r | r
   · exact hx b n r
   · rw [n] at r; cases r
 have hm : ∀ b u, H b = some u→¬ Mut (some u)→b ≠ x := fun b u q nm z => by subst z; rw [q] at mu; exact nm mu
 refine ⟨fun b u q n _ _ => k b u (hb b n) q, fun b u q n _ _ => ⟨u.slots, k b u (hb b n) q⟩, fun b u q n _ => by rw [zay (hx b n)]; exact n, fun b u q _ => ?_,
   fun b xs q => by rw [zay (hm b _ q fun z => z)]; exact q, fun b u xs q => by rw [zay (hm b _ q fun z => z)]; exact q, fun b ps q => ⟨#[], by rw [zay (hm b _ q fun z => z), q]; simp⟩⟩
 by_cases hbe : b = e
 · subst hbe; exact heo
 · exact ⟨u, k b u hbe q⟩
end
def trk (h : Heap) (H : Hp) : List Addr := (List.range h.objs.size).filter fun a => (H a).isSome
def hidT (h : Heap) (H : Hp) : Heap := PySem.W.hideAll h (trk h H)
theorem zjb (h : Heap) (H : Hp) : (hidT h H).objs.size = h.objs.size := PySem.W.hideAll_size _ _
theorem zkV {h : Heap} {H : Hp} {b : Addr} {o : Obj} (e : h.get? b = some o) (n : H b = none) : (hidT h H).get? b = some o :=
 PySem.W.hideAll_get _ e fun hm => by
   have q : (H b).isSome = true := (List.mem_filter.mp hm).2
   rw [n] at q; simp at q
theorem zml {h : Heap} {H : Hp} {b : Addr} {o : Obj} (e : (hidT h H).get? b = some o) : h.get? b = some o∧H b = none := by
 have e' : h.get? b = some o := PySem.W.of_hideAll (trk h H) e
 refine ⟨e', ?_⟩
 cases q : H b with
 | none => rfl
 | some x =>
   have hm : b ∈ trk h H := List.mem_filter.mpr ⟨List.mem_range.mpr (Heap.lt_size e'), by simp [q]⟩
   have z : (hidT h H).get? b = none := PySem.W.hideAll_none (trk h H) hm
   rw [z] at e; cases e
def ze5 (g h : Heap) (L : Addr) : List (Addr × Obj) := (List.range h.objs.size).filterMap fun a => if a = L ∨ (g.get? a).isSome = true then none else (h.get? a).map fun o => (a, o)
theorem zcf {g h : Heap} {L a : Addr} {o : Obj} (h1 : a ≠ L) (h2 : g.get? a = none) (h3 : h.get? a = some o) : (a, o) ∈ ze5 g h L :=
 List.mem_filterMap.mpr ⟨a, List.mem_range.mpr (Heap.lt_size h3), by simp [h1, h2, h3]⟩
theorem zen {g h : Heap} {L : Addr} {p : Addr × Obj} (hp : p ∈ ze5 g h L) : p.1 ≠ L∧g.get? p.1 = none∧h.get? p.1 = some p.2 := by
 obtain ⟨b, _, e⟩ := List.mem_filterMap.mp hp
 split at e
 · cases e
 · rename_i hn
   cases q : h.get? b with
   | none => rw [q] at e; simp at e
   | some u =>
     rw [q] at e
     simp only [Option.map_some, Option.some.injEq] at e
     subst e
     refine ⟨fun z => hn (.inl z), ?_, q⟩
     show g.get? b = none
     cases r : g.get? b with
     | none => rfl
     | some v => exact (hn (.inr (by simp [r]))).elim
theorem zht {g h : Heap} {L : Addr} : News g L h (ze5 g h L) := fun p hp => let ⟨a, b, c⟩ := zen hp; ⟨c, a, b⟩
end L2
namespace L2
open PySem PySem.Spec PyProof.Rows
structure Mod (K : PySem.W.Frag) (mg : Str→Option Value) (base : Heap) : Prop where
 kin : K.In base
 glob : base.Ns mainGlobals mg
 blt : ∃ mb, base.Ns builtinsNs mb∧∀ x : Str, x ≠ "__name__"→mb x = bootBuiltins x
 nolimit : base.NoLimit
structure Cx where
 prog : Program
 w : World
 K : PySem.W.Frag
 mg : Str→Option Value
 base : Heap
 A : Around
 N : List Str
 s₀ : Shared
 H₀ : Hp
 env : Env
 outer : List Env
 stack : List Env
 ex : List Addr
 fn : Str→Bool
 calm : Bool
 pn : List (Addr × Obj)
 xe : Value→Shared→Prop
def frs (l : List Env) : List Addr := l.filterMap (·.frame)
abbrev Cx.fs (X : Cx) : List Addr := frs X.outer
def Vis (sc : Scope) (x : Str) : Prop := sc.names.lookup x = some .local ∨ sc.names.lookup x = some .cell ∨ sc.names.lookup x = some .free
def Loc (sc : Scope) (x : Str) : Prop := sc.names.lookup x = some .local ∨ sc.names.lookup x = some .cell
def Look (env : Env) (h : Heap) (m : Str→Option Value) (x : Str) (u : Value) : Prop :=
 (env.kindOf x = some .local∧m x = some u) ∨ ((env.kindOf x = some .cell ∨ env.kindOf x = some .free)∧∃ c, env.cells.lookup x = some c∧h.IsCell c (some u))
structure Cx.Ok (X : Cx) : Prop where
 mod : Mod X.K X.mg X.base
 kind : X.env.scope.kind = .function
 glob : X.env.globals = mainGlobals
 blt : X.env.builtins = builtinsNs
 above : X.s₀.heap.objs.size ≤ X.env.locals
 inj : ∀ x y c, X.env.cells.lookup x = some c→X.env.cells.lookup y = some c→x = y
 has : ∀ x, (X.env.kindOf x = some .cell ∨ X.env.kindOf x = some .free)→∃ c, X.env.cells.lookup x = some c
 cab : ∀ x c, X.fn x = true→X.env.cells.lookup x = some c→X.s₀.heap.objs.size ≤ c
 hd : X.calm = true→X.A.handled = none
 frames : X.A.frames = some X.stack
 stk : X.stack = X.outer ∨ (X.stack = X.env :: X.outer∧X.env.frame = some X.env.locals)
 exf : ∀ b ∈ X.ex, b ≠ X.env.locals∧∀ x c, X.env.cells.lookup x = some c→c ≠ b
 bs : ∀ b o, X.base.get? b = some o→X.s₀.heap.get? b = some o∧X.H₀ b = none
 bsz : X.base.objs.size ≤ X.s₀.heap.objs.size
 noex : ∀ b o, X.base.get? b = some o→b ∉ X.ex
 exfs : ∀ b ∈ X.ex, b ∉ X.fs
 funs : X.s₀.heap.FunFrames X.base X.outer
 frf : ∀ b ∈ X.fs, X.H₀ b = none
structure Inv (X : Cx) (pins : List (Addr × Obj)) (σ : List (Option V)) (H : Hp) (s : Shared) : Prop where
 ok : X.Ok
 os : s.os = X.s₀.os
 bare : AllBare s.gens
 base : Un X.fs X.ex X.H₀ H X.s₀.heap s.heap
 loc : ∃ m, s.heap.Ns X.env.locals m∧∀ (i : Nat) (x : Str) (v : V), X.N[i]? = some x→σ[i]? = some (some v)→Vis X.env.scope x→∃ u, RelV v u∧Look X.env s.heap m x u
 cell : ∀ x c, X.env.cells.lookup x = some c→∃ v, s.heap.IsCell c v
 free : H X.env.locals = none
 freeC : ∀ x c, X.env.cells.lookup x = some c→H c = none
 pin : ∀ p ∈ X.pn ++ pins, s.heap.get? p.1 = some p.2∧H p.1 = none∧p.1 ≠ X.env.locals∧p.1 ∉ X.fs∧∀ v, p.2.data ≠ .cell v
 hok : HOk X.prog X.w H s.heap
 len : σ.length = X.N.length
section
variable {X : Cx} {pins : List (Addr × Obj)} {σ : List (Option V)} {H H' : Hp} {s : Shared} {h' : Heap}
theorem Cx.Ok.nofr (ok : X.Ok) {b : Addr} {o : Obj} (e : X.base.get? b = some o) : b ∉ X.fs := fun hb => by
 have := (ok.funs.mem hb).1
 rw [e] at this; cases this
theorem Inv.bs (I : Inv X pins σ H s) : ∀ b o, X.base.get? b = some o→s.heap.get? b = some o∧H b = none := fun b o e =>
 ⟨I.base.keep b o (I.ok.bs b o e).1 (I.ok.bs b o e).2 (I.ok.nofr e) (I.ok.noex b o e), I.base.free b o (I.ok.bs b o e).1 (I.ok.bs b o e).2 (I.ok.noex b o e)⟩
theorem Inv.bk (I : Inv X pins σ H s) : ∀ b o, X.base.get? b = some o→s.heap.get? b = some o := fun b o e => (I.bs b o e).1
theorem Inv.mod (I : Inv X pins σ H s) : Mod X.K X.mg X.base := I.ok.mod
theorem Inv.kIn (I : Inv X pins σ H s) : X.K.In s.heap := I.ok.mod.kin.keeps I.bk
theorem Inv.fr (I : Inv X pins σ H s) : ∃ m, Fr X.base X.env.locals s.heap m :=
 let ⟨m, hn, _⟩ := I.loc
 ⟨m, hn, I.bk, Nat.le_trans I.ok.bsz I.ok.above⟩
theorem Inv.lt (I : Inv X pins σ H s) : X.env.locals < s.heap.objs.size := let ⟨_, hn, _⟩ := I.loc; hn.lt
theorem Inv.sz (I : Inv X pins σ H s) : X.s₀.heap.objs.size ≤ s.heap.objs.size := Nat.le_trans I.ok.above (Nat.le_of_lt I.lt)
theorem Inv.nofs (I : Inv X pins σ H s) {a : Addr} (h : s.heap.objs.size ≤ a) : a ∉ X.fs := fun hb => by
 obtain ⟨_, o, ho, _⟩ := I.ok.funs.mem hb
 exact absurd (Nat.lt_of_lt_of_le (Heap.lt_size ho) (Nat.le_trans I.sz h)) (Nat.lt_irrefl _)
theorem Inv.cne (I : Inv X pins σ H s) : ∀ x c, X.env.cells.lookup x = some c→c ≠ X.env.locals := fun x c e z => by
 obtain ⟨v, o, ho, hd⟩ := I.cell x c e
 obtain ⟨m, ⟨o', es, ep, ho', hd', _⟩, _⟩ := I.loc
 rw [z, ho'] at ho; cases ho; rw [hd'] at hd; cases hd
theorem Inv.funs (I : Inv X pins σ H s) : s.heap.FunFrames X.base X.outer := by
 have all : ∀ (l : List Env), (∀ b ∈ frs l, b ∈ X.fs)→X.s₀.heap.FunFrames X.base l→s.heap.FunFrames X.base l := by
   intro l
   induction l with
   | nil => intro _ _; trivial
   | cons env r ih =>
     intro hs hl
     obtain ⟨hk, ⟨L, o, hf, hn, ho, hd⟩, hr⟩ := hl
     have hL : L ∈ X.fs := hs L (by unfold frs; rw [List.filterMap_cons, hf]; exact List.mem_cons_self)
     obtain ⟨sl, e⟩ := I.base.slot L o ho (I.ok.frf L hL) hL fun z => I.ok.exfs L z hL
     exact ⟨hk, ⟨L, _, hf, hn, e, hd⟩, ih (fun b hb => hs b (by unfold frs; rw [List.filterMap_cons, hf]; exact List.mem_cons_of_mem _ hb)) hr⟩
 exact all X.outer (fun _ hb => hb) I.ok.funs
theorem Inv.stack (I : Inv X pins σ H s) : s.heap.FunFrames X.base X.stack := by
 rcases I.ok.stk with e | ⟨e, hf⟩
 · rw [e]; exact I.funs
 · rw [e]
   obtain ⟨m, hn, _⟩ := I.loc
   refine .cons (by rw [I.ok.kind]; decide) hf hn ?_ I.funs
   exact Heap.get?_none_of_le (Nat.le_trans I.ok.bsz I.ok.above)
theorem Inv.stkSub (I : Inv X pins σ H s) : ∀ b ∈ frs X.stack, b ∈ X.env.locals :: X.fs := fun b hb => by
 rcases I.ok.stk with e | ⟨e, hf⟩
 · rw [e] at hb; exact List.mem_cons_of_mem _ hb
 · rw [e] at hb
   unfold frs at hb
   rw [List.filterMap_cons, hf] at hb
   exact hb
theorem Inv.stkFree (I : Inv X pins σ H s) : ∀ b ∈ frs X.stack, H b = none := fun b hb => by
 rcases List.mem_cons.mp (I.stkSub b hb) with e | hb
 · rw [e]; exact I.free
 · obtain ⟨_, o, ho, _⟩ := I.ok.funs.mem hb
   exact I.base.free b o ho (I.ok.frf b hb) fun z => I.ok.exfs b z hb
theorem Inv.step {g' : Array GenState} {t' : Nat} {d' : Drawn} {ch : List Addr} (I : Inv X pins σ H s)
   (hch : ∀ b ∈ ch, (b ∈ X.ex ∨ X.s₀.heap.objs.size ≤ b)∧b ≠ X.env.locals∧(∀ x c, X.env.cells.lookup x = some c→c ≠ b)∧∀ p ∈ X.pn ++ pins, p.1 ≠ b)
   (keep : ∀ b o, b ≠ X.env.locals→b ∉ X.fs→b ∉ ch→s.heap.get? b = some o→H b = none→h'.get? b = some o)
   (slot : ∀ b o, b ≠ X.env.locals→b ∈ X.fs→b ∉ ch→s.heap.get? b = some o→H b = none→∃ sl, h'.get? b = some { o with slots := sl }) (free : ∀ b o, b ∉ ch→s.heap.get? b = some o→H b = none→H' b = none)
   (there : ∀ b o, b ∉ ch→s.heap.get? b = some o→∃ o', h'.get? b = some o')
   (tups : ∀ b xs, H b = some (.tup xs)→H' b = some (.tup xs)) (frzs : ∀ b o u, H b = some (.frz o u)→H' b = some (.frz o u)) (tbls : ∀ b ps, H b = some (.tbl ps)→∃ more, H' b = some (.tbl (ps ++ more)))
   (ns : ∀ m, s.heap.Ns X.env.locals m→h'.Ns X.env.locals m) (hok : HOk X.prog X.w H' h') (hg : AllBare g') :
   Inv X pins σ H' { s with heap := h', gens := g', drawn := d', toks := t' } := by
 have neL : ∀ b o, X.s₀.heap.get? b = some o→b ≠ X.env.locals := fun b o e => Nat.ne_of_lt (Nat.lt_of_lt_of_le (Heap.lt_size e) I.ok.above)
 have neC : ∀ b o, X.s₀.heap.get? b = some o→b ∉ X.ex→b ∉ ch := fun b o e hx hb => by
   rcases (hch b hb).1 with z | z
   · exact hx z
   · exact absurd (Nat.lt_of_lt_of_le (Heap.lt_size e) z) (Nat.lt_irrefl _)
 have cellK : ∀ x c, X.env.cells.lookup x = some c→∀ v, s.heap.IsCell c v→h'.IsCell c v := fun x c e v ⟨o, ho, hd⟩ => by
   have nch : c ∉ ch := fun z => (hch c z).2.2.1 x c e rfl
   by_cases hc : c ∈ X.fs
   · obtain ⟨sl, q⟩ := slot c o (I.cne x c e) hc nch ho (I.freeC x c e)
     exact ⟨_, q, hd⟩
   · exact ⟨o, keep c o (I.cne x c e) hc nch ho (I.freeC x c e), hd⟩
 refine ⟨I.ok, I.os, hg, ⟨fun b o e n hb hx => ?_, fun b o e n hb hx => ?_, fun b o e n hx => ?_, fun b o e hx => ?_, fun b xs e => tups b xs (I.base.tups b xs e), fun b o xs e => frzs b o xs (I.base.frzs b o xs e), fun b ps e => ?_⟩, ?_, fun x c e => ?_, ?_, fun x c e => ?_, fun p hp => ?_, hok, I.len⟩
 · exact keep b o (neL b o e) hb (neC b o e hx) (I.base.keep b o e n hb hx) (I.base.free b o e n hx)
 · obtain ⟨sl, e1⟩ := I.base.slot b o e n hb hx
   obtain ⟨sl', e2⟩ := slot b _ (neL b o e) hb (neC b o e hx) e1 (I.base.free b o e n hx)
   exact ⟨sl', e2⟩
 · obtain ⟨o', e1⟩ := I.base.there b o e hx
   exact free b o' (neC b o e hx) e1 (I.base.free b o e n hx)
 · obtain ⟨o', e1⟩ := I.base.there b o e hx
   exact there b o' (neC b o e hx) e1
 · obtain ⟨m1, e1⟩ := I.base.tbls b ps e
   obtain ⟨m2, e2⟩ := tbls b _ e1
   exact ⟨m1 ++ m2, by rw [e2, Array.append_assoc]⟩
 · obtain ⟨m, hn, hl⟩ := I.loc
   refine ⟨m, ns m hn, fun i x v e1 e2 e3 => ?_⟩
   obtain ⟨u, r, l⟩ := hl i x v e1 e2 e3
   refine ⟨u, r, ?_⟩
   rcases l with l | ⟨k, c, e, z⟩
   · exact .inl l
   · exact .inr ⟨k, c, e, cellK x c e _ z⟩
 · obtain ⟨v, z⟩ := I.cell x c e
   exact ⟨v, cellK x c e v z⟩
 · obtain ⟨m, ⟨o, _, _, ho, _⟩, _⟩ := I.loc
   exact free _ o (fun z => (hch _ z).2.1 rfl) ho I.free
 · obtain ⟨v, o, ho, hd⟩ := I.cell x c e
   exact free c o (fun z => (hch c z).2.2.1 x c e rfl) ho (I.freeC x c e)
 · obtain ⟨e, n, ne, nf, d⟩ := I.pin p hp
   have nch : p.1 ∉ ch := fun z => (hch p.1 z).2.2.2 p hp rfl
   exact ⟨keep p.1 p.2 ne nf nch e n, free p.1 p.2 nch e n, ne, nf, d⟩
theorem Inv.un {t' : Nat} (I : Inv X pins σ H s) (u : Un X.fs [] H H' s.heap h') (hok : HOk X.prog X.w H' h') : Inv X pins σ H' { s with heap := h', toks := t' } := by
 obtain ⟨m, ⟨o, es, ep, ho, r⟩, _⟩ := id I.loc
 obtain ⟨sl, hL⟩ := u.any ho I.free (by simp)
 exact I.step (g' := s.gens) (d' := s.drawn) (ch := []) (fun _ z => nomatch z) (fun b o _ hb _ e n => u.keep b o e n hb (by simp)) (fun b o _ hb _ e n => u.slot b o e n hb (by simp)) (fun b o _ e n => u.free b o e n (by simp)) (fun b o _ e => u.there b o e (by simp)) u.tups u.frzs u.tbls (fun m' hm => by
   obtain ⟨o', es', ep', ho', r'⟩ := hm
   rw [ho] at ho'; cases ho'
   exact ⟨_, es', ep', hL, r'⟩) hok I.bare
theorem Inv.call {g' : Array GenState} {t' : Nat} {d' : Drawn} {ch : List Addr} (I : Inv X pins σ H s) (u : Un (frs X.stack) ch H H' s.heap h') (hok : HOk X.prog X.w H' h') (hg : AllBare g')
   (hch : ∀ b ∈ ch, (b ∈ X.ex ∨ X.s₀.heap.objs.size ≤ b)∧b ≠ X.env.locals∧(∀ x c, X.env.cells.lookup x = some c→c ≠ b)∧∀ p ∈ X.pn ++ pins, p.1 ≠ b) :
   Inv X pins σ H' { s with heap := h', gens := g', drawn := d', toks := t' } := by
 obtain ⟨m, ⟨o, es, ep, ho, r⟩, _⟩ := id I.loc
 obtain ⟨sl, hL⟩ := u.any ho I.free fun z => (hch _ z).2.1 rfl
 exact I.step (ch := ch) hch (fun b o hL hb hc e n => u.keep b o e n (fun z => (List.mem_cons.mp (I.stkSub b z)).elim hL hb) hc) (fun b o _ _ hc e n => u.any e n hc) (fun b o hc e n => u.free b o e n hc) (fun b o hc e => u.there b o e hc) u.tups u.frzs u.tbls (fun m' hm => by
   obtain ⟨o', es', ep', ho', r'⟩ := hm
   rw [ho] at ho'; cases ho'
   exact ⟨_, es', ep', hL, r'⟩) hok hg
theorem Inv.turned {t' : Nat} {it : Addr} (I : Inv X pins σ H s) (k : ∀ b o, b ≠ it→s.heap.get? b = some o→h'.get? b = some o) (hn : H it = none) (hL : it ≠ X.env.locals)
   (h1 : it ∈ X.ex ∨ X.s₀.heap.objs.size ≤ it) (h2 : ∀ x c, X.env.cells.lookup x = some c→c ≠ it) (h3 : ∀ p ∈ X.pn ++ pins, p.1 ≠ it) : Inv X pins σ H { s with heap := h', toks := t' } := by
 have nit : ∀ b u, H b = some u→b ≠ it := fun b u e z => by rw [z, hn] at e; cases e
 refine I.step (g' := s.gens) (d' := s.drawn) (ch := [it]) (fun b hb => ?_) (fun b o _ _ hc e _ => k b o (fun z => hc (by simp [z])) e) (fun b o _ _ hc e _ => ⟨o.slots, k b o (fun z => hc (by simp [z])) e⟩) (fun _ _ _ _ n => n)
   (fun b o hc e => ⟨o, k b o (fun z => hc (by simp [z])) e⟩) (fun _ _ e => e) (fun _ _ _ e => e) (fun b ps e => ⟨#[], by rw [e]; simp⟩) (fun m hm => ?_) (fun b u e => ?_) I.bare
 · have e : b = it := by simpa using hb
   subst e
   exact ⟨h1, hL, h2, h3⟩
 · obtain ⟨o, es, ep, ho, r⟩ := hm
   exact ⟨o, es, ep, k _ o (Ne.symm hL) ho, r⟩
 · refine (I.hok b u e).stay (fun c v hc q => k c v ?_ q) (fun _ q => q) fun _ _ q => q
   rcases hc with z | z
   · rw [z]; exact nit b u e
   · exact nit c _ z
theorem Inv.tok (I : Inv X pins σ H s) (t : Nat) : Inv X pins σ H { s with toks := t } := I.un (h' := s.heap) (t' := t) Un.refl I.hok
theorem Inv.kept {t' : Nat} (I : Inv X pins σ H s) (k : ∀ b u, s.heap.get? b = some u→h'.get? b = some u) : Inv X pins σ H { s with heap := h', toks := t' } := I.un (Un.kept k) (I.hok.kept k)
theorem Inv.laid {a : Addr} {o : HO} {t' : Nat} (I : Inv X pins σ H s) (k : ∀ b u, s.heap.get? b = some u→h'.get? b = some u) (hp : s.heap.objs.size ≤ a) (new : zc5 X.prog X.w (upd H a o) h' a o) :
   Inv X pins σ (upd H a o) { s with heap := h', toks := t' } := I.un (Un.laid k hp (I.hok.fresh hp)) (I.hok.laid k hp new)
theorem Inv.write {x e : Addr} {o : HO} {t' : Nat} (I : Inv X pins σ H s) (mu : Mut (H x)) (he : e = x ∨ H e = some (.own x)) (k : ∀ b u, b ≠ e→s.heap.get? b = some u→h'.get? b = some u) (heo : ∃ u, h'.get? e = some u)
   (new : zc5 X.prog X.w (upd H x o) h' x o) : Inv X pins σ (upd H x o) { s with heap := h', toks := t' } := I.un (Un.write mu he k heo) (I.hok.write mu he k heo new)
theorem Inv.pins_of {pins' : List (Addr × Obj)} (I : Inv X pins σ H s) (h : ∀ p ∈ pins', s.heap.get? p.1 = some p.2∧H p.1 = none∧p.1 ≠ X.env.locals∧p.1 ∉ X.fs∧∀ v, p.2.data ≠ .cell v) : Inv X pins' σ H s :=
 ⟨I.ok, I.os, I.bare, I.base, I.loc, I.cell, I.free, I.freeC, fun p hp => (List.mem_append.mp hp).elim (fun z => I.pin p (List.mem_append_left _ z)) (h p), I.hok, I.len⟩
theorem zhr {N : List Str} (hN : N.Nodup) {i j : Nat} {x : Str} (a : N[i]? = some x) (b : N[j]? = some x) : i = j := by
 obtain ⟨h1, e1⟩ := List.getElem?_eq_some_iff.mp a
 obtain ⟨h2, e2⟩ := List.getElem?_eq_some_iff.mp b
 exact (List.getElem_inj hN).mp (e1.trans e2.symm)
theorem zfP {M : Model} {A : Around} {E : Value→Shared→Prop} {i : Nat} {x : Str} {v : V} {u : Value} {Q : Unit→Shared→Prop} (I : Inv X pins σ H s) (hN : X.N.Nodup) (hi : X.N[i]? = some x) (hx : Loc X.env.scope x) (r : RelV v u)
   (h : ∀ s', Inv X pins (σ.set i (some v)) H s'→(∃ a, Heap.SameBut a s.heap s'.heap∧(a = X.env.locals ∨ X.env.cells.lookup x = some a))→Q () s') (hf : X.fn x = true ∨ X.env.scope.names.lookup x = some .local := by first | exact .inl rfl | exact .inr rfl | assumption) : wpAny M A (storeName X.env x u) Q E s := by
 obtain ⟨m, hn, hl⟩ := id I.loc
 have hcls : (X.env.scope.kind == .class || (X.env.scope.kind == .module && X.env.locals != X.env.globals)) = false := by rw [I.ok.kind]; rfl
 have hiσ : i < σ.length := by rw [I.len]; exact (List.getElem?_eq_some_iff.mp hi).1
 have cne := I.cne
 have tracked : ∀ {a : Addr} {h' : Heap}, (∃ o, s.heap.get? a = some o∧H a = none)→Heap.SameBut a s.heap h'→HOk X.prog X.w H h' := fun {a h'} ha hs b ob e => by
   obtain ⟨_, _, hfree⟩ := ha
   refine (I.hok b ob e).stay (fun c w' hc q => (hs.2 c ?_).trans q) (fun _ q => q) fun _ _ q => q
   rintro rfl
   rcases hc with rfl | hc
   · rw [hfree] at e; cases e
   · rw [hfree] at hc; cases hc
 rcases hx with hk | hk
 · refine wpAny_storeName_local hk hn (fun h' hn' hs => ?_) hcls
   obtain ⟨oL, _, _, hoL, _⟩ := id hn
   refine h _ ⟨I.ok, I.os, I.bare, ⟨fun b o e n hb hx => ?_, fun b o e n hb hx => ?_, I.base.free, fun b o e hx => ?_, I.base.tups, I.base.frzs, I.base.tbls⟩, ⟨_, hn', fun j y v' e1 e2 e3 => ?_⟩, fun y c e => ?_, I.free, I.freeC, fun p hp => ?_, tracked ⟨oL, hoL, I.free⟩ hs, by simpa using I.len⟩ ⟨_, hs, .inl rfl⟩
   · exact (hs.2 b (Nat.ne_of_lt (Nat.lt_of_lt_of_le (Heap.lt_size e) I.ok.above))).trans (I.base.keep b o e n hb hx)
   · obtain ⟨sl, e1⟩ := I.base.slot b o e n hb hx
     exact ⟨sl, (hs.2 b (Nat.ne_of_lt (Nat.lt_of_lt_of_le (Heap.lt_size e) I.ok.above))).trans e1⟩
   · obtain ⟨o', e1⟩ := I.base.there b o e hx
     exact ⟨o', (hs.2 b (Nat.ne_of_lt (Nat.lt_of_lt_of_le (Heap.lt_size e) I.ok.above))).trans e1⟩
   · by_cases hj : j = i
     · subst hj
       rw [hi] at e1; cases e1
       rw [List.getElem?_set_self hiσ] at e2
       cases e2
       exact ⟨u, r, .inl ⟨hk, by simp⟩⟩
     · rw [List.getElem?_set_ne (Ne.symm hj)] at e2
       obtain ⟨u', r', q⟩ := hl j y v' e1 e2 e3
       refine ⟨u', r', ?_⟩
       rcases q with ⟨k, e⟩ | ⟨k, c, e, z⟩
       · refine .inl ⟨k, ?_⟩
         have : y ≠ x := fun e => hj (zhr hN e1 (e ▸ hi))
         simp [this, e]
       · exact .inr ⟨k, c, e, z.sameBut hs (cne y c e)⟩
   · obtain ⟨w', z⟩ := I.cell y c e
     exact ⟨w', z.sameBut hs (cne y c e)⟩
   · obtain ⟨e, n, ne, nf, d⟩ := I.pin p hp
     exact ⟨(hs.2 p.1 ne).trans e, n, ne, nf, d⟩
 · have hfn : X.fn x = true := by
     rcases hf with z | z
     · exact z
     · rw [z] at hk; cases hk
   obtain ⟨c, hc⟩ := I.ok.has x (.inl hk)
   obtain ⟨w', z⟩ := I.cell x c hc
   refine wpAny_storeName_cell I.ok.kind hk hc z (fun h' hc' hs => ?_)
   obtain ⟨oc, hoc, hocd⟩ := id z
   refine h { s with heap := h' } ⟨I.ok, I.os, I.bare, ⟨fun b o e n hb hx => ?_, fun b o e n hb hx => ?_, I.base.free, fun b o e hx => ?_, I.base.tups, I.base.frzs, I.base.tbls⟩, ⟨m, hn.sameBut hs (Ne.symm (cne x c hc)), fun j y v' e1 e2 e3 => ?_⟩, fun y c' e => ?_, I.free, I.freeC, fun p hp => ?_, tracked ⟨oc, hoc, I.freeC x c hc⟩ hs, by simpa using I.len⟩ ⟨c, hs, .inr hc⟩
   · exact (hs.2 b (Nat.ne_of_lt (Nat.lt_of_lt_of_le (Heap.lt_size e) (I.ok.cab x c hfn hc)))).trans (I.base.keep b o e n hb hx)
   · obtain ⟨sl, e1⟩ := I.base.slot b o e n hb hx
     exact ⟨sl, (hs.2 b (Nat.ne_of_lt (Nat.lt_of_lt_of_le (Heap.lt_size e) (I.ok.cab x c hfn hc)))).trans e1⟩
   · obtain ⟨o', e1⟩ := I.base.there b o e hx
     exact ⟨o', (hs.2 b (Nat.ne_of_lt (Nat.lt_of_lt_of_le (Heap.lt_size e) (I.ok.cab x c hfn hc)))).trans e1⟩
   · by_cases hj : j = i
     · subst hj
       rw [hi] at e1; cases e1
       rw [List.getElem?_set_self hiσ] at e2
       cases e2
       exact ⟨u, r, .inr ⟨.inl hk, c, hc, hc'⟩⟩
     · rw [List.getElem?_set_ne (Ne.symm hj)] at e2
       obtain ⟨u', r', q⟩ := hl j y v' e1 e2 e3
       refine ⟨u', r', ?_⟩
       rcases q with q | ⟨k, c', e, z'⟩
       · exact .inl q
       · refine .inr ⟨k, c', e, z'.sameBut hs ?_⟩
         rintro rfl
         exact hj (zhr hN e1 (I.ok.inj _ _ _ e hc ▸ hi))
   · by_cases hcc : c' = c
     · subst hcc; exact ⟨_, hc'⟩
     · obtain ⟨w2, z2⟩ := I.cell y c' e
       exact ⟨w2, z2.sameBut hs hcc⟩
   · obtain ⟨e, n, ne, nf, d⟩ := I.pin p hp
     refine ⟨(hs.2 p.1 ?_).trans e, n, ne, nf, d⟩
     intro q
     rw [q, hoc] at e
     have q' : oc = p.2 := Option.some.inj e
     exact d w' (by rw [← q']; exact hocd)
theorem zd0 {M : Model} {A : Around} {E : Value→Shared→Prop} {i : Nat} {x : Str} {v : V} {u : Value} {Q : Unit→Shared→Prop} (I : Inv X pins σ H s) (hN : X.N.Nodup) (hi : X.N[i]? = some x) (hx : Loc X.env.scope x) (r : RelV v u)
   (h : ∀ s', Inv X pins (σ.set i (some v)) H s'→Q () s') (hf : X.fn x = true ∨ X.env.scope.names.lookup x = some .local := by first | exact .inl rfl | exact .inr rfl | assumption) : wpAny M A (storeName X.env x u) Q E s :=
 zfP I hN hi hx r (fun s' I' _ => h s' I') hf
theorem Inv.call' {s' : Shared} {ch : List Addr} (I : Inv X pins σ H s) (ho : s'.os = s.os) (u : Un (frs X.stack) ch H H' s.heap s'.heap) (hok : HOk X.prog X.w H' s'.heap) (hg : AllBare s'.gens)
   (hch : ∀ b ∈ ch, (b ∈ X.ex ∨ X.s₀.heap.objs.size ≤ b)∧b ≠ X.env.locals∧(∀ x c, X.env.cells.lookup x = some c→c ≠ b)∧∀ p ∈ X.pn ++ pins, p.1 ≠ b) : Inv X pins σ H' s' := by
 obtain ⟨h', g', d', t', o'⟩ := s'
 have e : o' = s.os := ho
 subst e
 exact I.call (g' := g') (t' := t') (d' := d') u hok hg hch
end
abbrev XK := Value→Option Addr→Hp→Prop
abbrev St := List (Option V)
abbrev VK := V→Hp→Prop
abbrev TE := St→Hp→VK→Prop
abbrev TT := St→Hp→(Bool→Hp→Prop)→Prop
abbrev TA := St→Hp→(List V→Hp→Prop)→Prop
structure Ends where
 nx : St→Hp→Prop
 rt : VK
 bk : St→Hp→Prop := fun _ _ => False
 ct : St→Hp→Prop := fun _ _ => False
abbrev TS := Ends→St→Hp→Prop
def EP (X : Cx) (pins : List (Addr × Obj)) (σ : St) (Q : VK) (u : Value) (s' : Shared) : Prop := ∃ v H', Inv X pins σ H' s'∧RelV v u∧Q v H'
def TP (X : Cx) (pins : List (Addr × Obj)) (σ : St) (Q : Bool→Hp→Prop) (b : Bool) (s' : Shared) : Prop := ∃ H', Inv X pins σ H' s'∧Q b H'
def AP (X : Cx) (pins : List (Addr × Obj)) (σ : St) (Q : List V→Hp→Prop) (us : List Value) (s' : Shared) : Prop := ∃ vs H', Inv X pins σ H' s'∧Vals vs us∧Q vs H'
def SP (X : Cx) (pins : List (Addr × Obj)) (D : Ends) (f : Flow) (s' : Shared) : Prop :=
 match f with
 | .next => ∃ σ' H', Inv X pins σ' H' s'∧D.nx σ' H'
 | .brk => ∃ σ' H', Inv X pins σ' H' s'∧D.bk σ' H'
 | .cont => ∃ σ' H', Inv X pins σ' H' s'∧D.ct σ' H'
 | .ret u => ∃ v σ' H', Inv X pins σ' H' s'∧RelV v u∧D.rt v H'
def PE (X : Cx) (e : Expr) (t : TE) : Prop :=
 ∀ (pins : List (Addr × Obj)) (s : Shared) (σ : St) (H : Hp) (Q : VK), Inv X pins σ H s→t σ H Q→wpAny (model X.prog X.w) X.A (eval e X.env) (EP X pins σ Q) X.xe s
def PT (X : Cx) (e : Expr) (t : TT) : Prop :=
 ∀ (pins : List (Addr × Obj)) (s : Shared) (σ : St) (H : Hp) (Q : Bool→Hp→Prop), Inv X pins σ H s→t σ H Q→wpAny (model X.prog X.w) X.A (isTrue e X.env (eval e X.env)) (TP X pins σ Q) X.xe s
def PW (X : Cx) (e : Expr) (t : TT) : Prop :=
 ∀ (whole : Sem Value) (pins : List (Addr × Obj)) (s : Shared) (σ : St) (H : Hp) (Q : Bool→Hp→Prop), Inv X pins σ H s→t σ H Q→wpAny (model X.prog X.w) X.A (isTrue e X.env whole) (TP X pins σ Q) X.xe s
theorem PW.pt {X : Cx} {e : Expr} {t : TT} (h : PW X e t) : PT X e t := h _
def PA (X : Cx) (es : List Expr) (t : TA) : Prop :=
 ∀ (pos : Pos) (pins : List (Addr × Obj)) (s : Shared) (σ : St) (H : Hp) (Q : List V→Hp→Prop), Inv X pins σ H s→t σ H Q→wpAny (model X.prog X.w) X.A (spliced (backTo pos (starEach es X.env))) (AP X pins σ Q) X.xe s
def PS (X : Cx) (st : Stmt) (t : TS) : Prop :=
 ∀ (pins : List (Addr × Obj)) (s : Shared) (σ : St) (H : Hp) (D : Ends), Inv X pins σ H s→t D σ H→wpAny (model X.prog X.w) X.A (exec st X.env) (SP X pins D) X.xe s
def PSs (X : Cx) (st : List Stmt) (t : TS) : Prop :=
 ∀ (pins : List (Addr × Obj)) (s : Shared) (σ : St) (H : Hp) (D : Ends), Inv X pins σ H s→t D σ H→wpAny (model X.prog X.w) X.A (execs st X.env) (SP X pins D) X.xe s
theorem thn {α : Type} {t : Sem α} {Q Q' : α→Shared→Prop} {M : Model} {A : Around} {E : Value→Shared→Prop} {s : Shared} (h : wpAny M A t Q E s) (hQ : ∀ a s, Q a s→Q' a s) : wpAny M A t Q' E s := wpAny_mono h hQ fun _ _ x => x
end L2
namespace L2
open PySem PySem.Spec PyProof.Rows
section
variable {X : Cx}
def tVar (i : Nat) : TE := fun σ H Q => ∃ v, σ[i]? = some (some v)∧Q v H
def tC (v : V) : TE := fun _ H Q => Q v H
theorem zn4 {i : Nat} {x : Str} {pos : Pos} (hN : X.N[i]? = some x) (hv : Vis X.env.scope x) (hd : (x == ("__debug__" : Str)) = false := by decide) (hcd : (x == ("__classdict__" : Str)) = false := by decide) : PE X (.Name x pos) (tVar i) := by
 intro pins s σ H Q I h
 obtain ⟨v, e, h⟩ := h
 obtain ⟨m, hn, hl⟩ := I.loc
 obtain ⟨u, r, l⟩ := hl i x v hN e hv
 have fin : EP X pins σ Q u s := ⟨v, H, I, r, h⟩
 rcases l with ⟨hk, hm⟩ | ⟨hk, c, hc, hcell⟩
 · exact wpAny_Name (wpAny_loadName_local I.ok.kind hk hn hm fin) hd
 · rcases hk with hk | hk
   · exact wpAny_Name (wpAny_loadName_cell I.ok.kind hk hc hcell fin) hd
   · exact wpAny_Name (wpAny_loadName_free I.ok.kind hk hc hcell fin hcd) hd
theorem zn9 {i j pos} : PE X (.Constant (.int i) j pos) (tC (.int i)) := fun _ _ _ H _ I h => wpAny_Constant_int ⟨.int i, H, I.tok _, ⟨_, rfl⟩, h⟩
theorem zpQ {b j pos} : PE X (.Constant (.bool b) j pos) (tC (.bl b)) := fun _ _ _ H _ I h => Constant_bool ⟨.bl b, H, I, rfl, h⟩
theorem zn7 {j pos} : PE X (.Constant .none j pos) (tC .non) := fun _ _ _ H _ I h => Constant_none ⟨.non, H, I, rfl, h⟩
theorem zn6 {x j pos} : PE X (.Constant (.str x) j pos) (tC (.str x)) := fun _ _ _ H _ I h => Calls.Constant_str ⟨.str x, H, I.tok _, ⟨_, rfl⟩, h⟩
def Gl (X : Cx) (x : Str) : Prop := X.env.kindOf x = some .globalImplicit
theorem zmy {E : Value→Shared→Prop} {pins : List (Addr × Obj)} {s : Shared} {σ : St} {H : Hp} {x : Str} {u : Value} {pos : Pos} {Q : Value→Shared→Prop} (I : Inv X pins σ H s) (hg : Gl X x) (hm : X.mg x = some u) (h : Q u s)
   (hd : (x == ("__debug__" : Str)) = false := by decide) : wpAny (model X.prog X.w) X.A (eval (.Name x pos) X.env) Q E s :=
 Calls.Name_function_global I.ok.kind hg (Calls.loadGlobal_global (by rw [I.ok.glob]; exact I.mod.glob.keeps I.bk) hm h) hd
theorem zhD {E : Value→Shared→Prop} {pins : List (Addr × Obj)} {s : Shared} {σ : St} {H : Hp} {x : Str} {u : Value} {pos : Pos} {Q : Value→Shared→Prop} (I : Inv X pins σ H s) (hg : Gl X x) (hm : X.mg x = none) (hv : bootBuiltins x = some u) (h : Q u s)
   (hn : x ≠ "__name__" := by decide) (hd : (x == ("__debug__" : Str)) = false := by decide) : wpAny (model X.prog X.w) X.A (eval (.Name x pos) X.env) Q E s := by
 obtain ⟨mb, h1, h2⟩ := I.mod.blt
 exact Calls.Name_function_global I.ok.kind hg (Calls.loadGlobal_builtin (by rw [I.ok.glob]; exact I.mod.glob.keeps I.bk) hm (by rw [I.ok.blt]; exact h1.keeps I.bk) ((h2 x hn).trans hv) h) hd
variable {a b : Expr} {ta tb : TE} {pos : Pos}
def PC (X : Cx) (op : CmpOp) (a b : Expr) (t : TE) : Prop :=
 ∀ (pins : List (Addr × Obj)) (s : Shared) (σ : St) (H : Hp) (Q : VK), Inv X pins σ H s→t σ H Q →
   wpAny (model X.prog X.w) X.A (eval a X.env) (fun v s₁ => wpAny (model X.prog X.w) X.A (eval b X.env) (fun u s₂ => wpAny (model X.prog X.w) X.A (compareOp op v u) (EP X pins σ Q) X.xe s₂) X.xe s₁) X.xe s
def tB (t : TE) : TT := fun σ H Q => t σ H fun x H1 => ∃ c, x = .bl c∧Q c H1
theorem zl0 {op : CmpOp} {t : TE} (h : PC X op a b t) (h1 : behindInMarks op b = false := by first | exact nobehind _ (by decide) (by decide) | rfl) : PT X (.Compare a [op] [b] pos) (tB t) := by
 intro pins s σ H Q I hw
 refine wpAny_isTrue_Compare1 (thn (h pins s σ H _ I hw) fun v s1 h1 => thn h1 fun u s2 h2 => thn h2 fun c s3 ⟨x, H1, I1, r1, q1⟩ => ?_) h1
 obtain ⟨d, rfl, q⟩ := q1
 cases r1
 exact wpAny_truthy_bool ⟨H1, I1, q⟩
variable {tA tB' : TT} {rest : List Expr}
def tAnd (t u : TT) : TT := fun σ H Q => t σ H fun c H1 => if c = true then u σ H1 Q else Q false H1
def tOr (t u : TT) : TT := fun σ H Q => t σ H fun c H1 => if c = true then Q true H1 else u σ H1 Q
def tNot (t : TT) : TT := fun σ H Q => t σ H fun c H1 => Q (!c) H1
theorem pw_and1 (ha : PT X a tA) : PW X (.BoolOp .And [a] pos) tA := by
 intro wh pins s σ H Q I h
 refine isTrue_and (thn (ha pins s σ H Q I h) fun c s1 e => ?_)
 cases c with
 | true => exact isTrue_and_nil e
 | false => exact e
theorem pw_or1 (ha : PT X a tA) : PW X (.BoolOp .Or [a] pos) tA := by
 intro wh pins s σ H Q I h
 refine isTrue_or (thn (ha pins s σ H Q I h) fun c s1 e => ?_)
 cases c with
 | false => exact isTrue_or_nil e
 | true => exact e
theorem pw_and (ha : PT X a tA) (hb : PW X (.BoolOp .And (b :: rest) pos) tB') : PW X (.BoolOp .And (a :: b :: rest) pos) (tAnd tA tB') := by
 intro wh pins s σ H Q I h
 refine isTrue_and (thn (ha pins s σ H _ I h) fun c s1 ⟨H1, I1, q1⟩ => ?_)
 cases c with
 | true => exact hb wh pins s1 σ H1 Q I1 q1
 | false => exact ⟨H1, I1, q1⟩
theorem pw_or (ha : PT X a tA) (hb : PW X (.BoolOp .Or (b :: rest) pos) tB') : PW X (.BoolOp .Or (a :: b :: rest) pos) (tOr tA tB') := by
 intro wh pins s σ H Q I h
 refine isTrue_or (thn (ha pins s σ H _ I h) fun c s1 ⟨H1, I1, q1⟩ => ?_)
 cases c with
 | true => exact ⟨H1, I1, q1⟩
 | false => exact hb wh pins s1 σ H1 Q I1 q1
theorem znT (ha : PT X a tA) : PT X (.UnaryOp .Not a pos) (tNot tA) := by
 intro pins s σ H Q I h
 exact isTrue_not (ha pins s σ H (fun c H1 => Q (!c) H1) I h)
def tIf (t : TT) (ta tb : TE) : TE := fun σ H Q => t σ H fun c H1 => if c = true then ta σ H1 Q else tb σ H1 Q
theorem zkr {c : Expr} (hc : PT X c tA) (ha : PE X a ta) (hb : PE X b tb) : PE X (.IfExp c a b pos) (tIf tA ta tb) := by
 intro pins s σ H Q I h
 refine wpAny_IfExp (thn (hc pins s σ H _ I h) fun d s1 ⟨H1, I1, q1⟩ => ?_)
 cases d with
 | true => exact ha pins s1 σ H1 Q I1 q1
 | false => exact hb pins s1 σ H1 Q I1 q1
end
end L2
namespace L2
open PySem PySem.Spec PyProof.Rows
def SqL (K : PySem.W.Frag) (H : Hp) (a : Addr) (xs : List V) : Prop :=
 Rd H a (.lst xs) ∨
   ∃ (o : Obj) (its : Array Value) (n : Nat), K.lookup a = some o∧o.cls = .type "list"∧o.dict = none∧o.data = .seq its n∧its.size ≤ sizeLine∧Vals xs its.toList
def SqT (K : PySem.W.Frag) (H : Hp) (a : Addr) (xs : List V) : Prop :=
 Rd H a (.tup xs) ∨
   ∃ (o : Obj) (its : Array Value) (n : Nat), K.lookup a = some o∧o.cls = .type "tuple"∧o.data = .seq its n∧its.size ≤ sizeLine∧Vals xs its.toList
def absV : Value→Option V
 | .none => some .non
 | .bool b => some (.bl b)
 | .int i _ => some (.int i)
 | .str x _ => some (.str x)
 | .bytes b _ => some (.byt b)
 | .float b _ => some (.flt b)
 | .ref a => some (.ref a)
 | .type n => some (.ty n)
 | _ => none
theorem RelV.abs {x : V} {u : Value} (r : RelV x u) : absV u = some x := by
 cases x with
 | non => cases r; rfl
 | bl _ => cases r; rfl
 | int _ => obtain ⟨t, rfl⟩ := r; rfl
 | str _ => obtain ⟨t, rfl⟩ := r; rfl
 | byt _ => obtain ⟨t, rfl⟩ := r; rfl
 | flt _ => obtain ⟨t, rfl⟩ := r; rfl
 | ref _ => cases r; rfl
 | ty _ => cases r; rfl
theorem RelV.inj {x y : V} {u : Value} (r : RelV x u) (q : RelV y u) : x = y := Option.some.inj (r.abs.symm.trans q.abs)
theorem Vals.inj : ∀ {xs ys : List V} {us : List Value}, Vals xs us→Vals ys us→xs = ys
 | _, _, _, .nil, .nil => rfl
 | _, _, _, .cons r t, .cons r' t' => by rw [r.inj r', Vals.inj t t']
section
variable {X : Cx} {pins : List (Addr × Obj)} {σ : St} {H : Hp} {s : Shared} {a : Addr} {xs ys : List V}
theorem SqL.of {K : PySem.W.Frag} (h : H a = some (.lst xs)) : SqL K H a xs := .inl (.inl h)
theorem SqT.of {K : PySem.W.Frag} (h : H a = some (.tup xs)) : SqT K H a xs := .inl (.inl h)
theorem Inv.list (I : Inv X pins σ H s) (h : SqL X.K H a xs) : ∃ its : List Value, Vals xs its∧PlainL s.heap a its.toArray∧xs.length ≤ sizeLine := by
 rcases h with h | ⟨o, its, n, hk, hc, hd, hs, hz, r⟩
 · obtain ⟨z, its, n, r, e⟩ := h.ok I.hok
   exact ⟨its, r, ⟨_, n, e, rfl, rfl, rfl⟩, z⟩
 · refine ⟨its.toList, r, ⟨o, n, I.kIn a o hk, hc, hd, by simpa using hs⟩, ?_⟩
   have e := r.length
   simp only [Array.length_toList] at e
   omega
theorem Inv.tuple (I : Inv X pins σ H s) (h : SqT X.K H a xs) : ∃ its : List Value, Vals xs its∧IsTup s.heap a its.toArray∧xs.length ≤ sizeLine := by
 rcases h with h | ⟨o, its, n, hk, hc, hs, hz, r⟩
 · obtain ⟨z, its, r, p⟩ := h.ok I.hok
   exact ⟨its, r, p.t, z⟩
 · refine ⟨its.toList, r, ⟨o, I.kIn a o hk, hc, n, by simpa using hs⟩, ?_⟩
   have e := r.length
   simp only [Array.length_toList] at e
   omega
theorem Inv.list_inj (I : Inv X pins σ H s) (h : SqL X.K H a xs) (h' : SqL X.K H a ys) : xs = ys := by
 obtain ⟨its, r, ⟨o, n, e, _, _, d⟩, _⟩ := I.list h
 obtain ⟨its', r', ⟨o', n', e', _, _, d'⟩, _⟩ := I.list h'
 rw [e] at e'; cases e'
 rw [d] at d'
 injection d' with d1 _
 have : its = its' := by simpa using congrArg Array.toList d1
 subst this
 exact r.inj r'
theorem Inv.tuple_inj (I : Inv X pins σ H s) (h : SqT X.K H a xs) (h' : SqT X.K H a ys) : xs = ys := by
 obtain ⟨its, r, ⟨o, e, _, n, d⟩, _⟩ := I.tuple h
 obtain ⟨its', r', ⟨o', e', _, n', d'⟩, _⟩ := I.tuple h'
 rw [e] at e'; cases e'
 rw [d] at d'
 injection d' with d1 _
 have : its = its' := by simpa using congrArg Array.toList d1
 subst this
 exact r.inj r'
end
abbrev Cx.wish (X : Cx) (E : Value→Shared→Prop) : Cx := { X with xe := E }
abbrev Cx.nox (X : Cx) : Cx := X.wish fun _ _ => False
theorem Cx.Ok.wish {X : Cx} (ok : X.Ok) (E : Value→Shared→Prop) : (X.wish E).Ok :=
 ⟨ok.mod, ok.kind, ok.glob, ok.blt, ok.above, ok.inj, ok.has, ok.cab, ok.hd, ok.frames, ok.stk, ok.exf, ok.bs, ok.bsz, ok.noex, ok.exfs, ok.funs, ok.frf⟩
theorem Cx.Ok.unwish {X : Cx} {E : Value→Shared→Prop} (ok : (X.wish E).Ok) : X.Ok :=
 ⟨ok.mod, ok.kind, ok.glob, ok.blt, ok.above, ok.inj, ok.has, ok.cab, ok.hd, ok.frames, ok.stk, ok.exf, ok.bs, ok.bsz, ok.noex, ok.exfs, ok.funs, ok.frf⟩
section
variable {X : Cx} {pins : List (Addr × Obj)} {σ : St} {H : Hp} {s : Shared} {E : Value→Shared→Prop}
theorem Inv.wish (I : Inv X pins σ H s) (E : Value→Shared→Prop) : Inv (X.wish E) pins σ H s := ⟨I.ok.wish E, I.os, I.bare, I.base, I.loc, I.cell, I.free, I.freeC, I.pin, I.hok, I.len⟩
theorem Inv.unwish (I : Inv (X.wish E) pins σ H s) : Inv X pins σ H s := ⟨I.ok.unwish, I.os, I.bare, I.base, I.loc, I.cell, I.free, I.freeC, I.pin, I.hok, I.len⟩
theorem SP.unwish {D : Ends} {f : Flow} {s' : Shared} (h : SP (X.wish E) pins D f s') : SP X pins D f s' := by
 cases f with
 | next => obtain ⟨σ', H', I, q⟩ := h; exact ⟨σ', H', I.unwish, q⟩
 | brk => obtain ⟨σ', H', I, q⟩ := h; exact ⟨σ', H', I.unwish, q⟩
 | cont => obtain ⟨σ', H', I, q⟩ := h; exact ⟨σ', H', I.unwish, q⟩
 | ret u => obtain ⟨v, σ', H', I, r, q⟩ := h; exact ⟨v, σ', H', I.unwish, r, q⟩
theorem PSs.nox {st : List Stmt} {t : TS} (h : PSs X.nox st t) : PSs X st t := fun pins s σ H D I hw =>
 wpAny_mono (h pins s σ H D (I.wish _) hw) (fun _ _ q => q.unwish) fun _ _ z => False.elim z
end
section
variable {X : Cx} {st : Stmt} {rest : List Stmt} {t u : TS} {e : Expr} {te : TE} {pos : Pos}
def zpz : TS := fun D σ H => D.nx σ H
def tSeq (t u : TS) : TS := fun D σ H => t { D with nx := u D } σ H
theorem zl2 : PSs X [] zpz := fun _ _ σ H _ I h => wpAny_execs_nil ⟨σ, H, I, h⟩
theorem zkl (h1 : PS X st t) (h2 : PSs X rest u) : PSs X (st :: rest) (tSeq t u) := by
 intro pins s σ H D I h
 refine wpAny_execs_cons (thn (h1 pins s σ H { D with nx := u D } I h) fun f s1 q => ?_)
 cases f with
 | next =>
   obtain ⟨σ', H', I', q⟩ := q
   exact h2 pins s1 σ' H' D I' q
 | ret v => exact q
 | brk => exact q
 | cont => exact q
theorem zl1 (h1 : PS X st t) : PSs X [st] t := by
 intro pins s σ H D I h
 refine wpAny_execs_cons (thn (h1 pins s σ H D I h) fun f s1 q => ?_)
 cases f with
 | next => exact wpAny_execs_nil q
 | ret v => exact q
 | brk => exact q
 | cont => exact q
theorem Inv.quiet {pins : List (Addr × Obj)} {σ : St} {H : Hp} {s : Shared} (I : Inv X pins σ H s) : interactive X.env = false := by simp [interactive, I.ok.kind]
def zpA (te : TE) : TS := fun D σ H => te σ H fun _ H1 => D.nx σ H1
theorem zl3 (he : PE X e te) (hs : swapsWith e none pos.line X.env = pure false := by rfl) : PS X (.Expr e pos) (zpA te) := by
 intro pins s σ H D I h
 exact wpAny_Expr_any (thn (he pins s σ H _ I h) fun v s1 ⟨x, H1, I1, r1, q1⟩ => ⟨σ, H1, I1, q1⟩) I.quiet hs
def tRet (te : TE) : TS := fun D σ H => te σ H D.rt
theorem znV (he : PE X e te) : PS X (.Return (some e) pos) (tRet te) := by
 intro pins s σ H D I h
 exact wpAny_Return_some (thn (he pins s σ H _ I h) fun v s1 ⟨x, H1, I1, r1, q1⟩ => ⟨x, σ, H1, I1, r1, q1⟩)
def tIfS (c : TT) (t u : TS) : TS := fun D σ H => c σ H fun b H1 => if b = true then t D σ H1 else u D σ H1
theorem zpM {c : Expr} {a b : List Stmt} {tc : TT} (hc : PT X c tc) (ha : PSs X a t) (hb : PSs X b u) : PS X (.If c a b pos) (tIfS tc t u) := by
 intro pins s σ H D I h
 refine wpAny_If (thn (hc pins s σ H _ I h) fun d s1 ⟨H1, I1, q1⟩ => ?_)
 cases d with
 | true => exact ha pins s1 σ H1 D I1 q1
 | false => exact hb pins s1 σ H1 D I1 q1
end
abbrev TG := V→St→Hp→(St→Hp→Prop)→Prop
abbrev TGs := List V→St→Hp→(St→Hp→Prop)→Prop
def PG (X : Cx) (target : Expr) (t : TG) : Prop :=
 ∀ (pins : List (Addr × Obj)) (s : Shared) (σ : St) (H : Hp) (v : V) (u : Value) (Q : St→Hp→Prop), Inv X pins σ H s→RelV v u→t v σ H Q →
   wpAny (model X.prog X.w) X.A (assign target X.env u) (fun _ s' => ∃ σ' H', Inv X pins σ' H' s'∧Q σ' H') X.xe s
def PGs (X : Cx) (ts : List Expr) (t : TGs) : Prop :=
 ∀ (pins : List (Addr × Obj)) (s : Shared) (σ : St) (H : Hp) (vs : List V) (us : List Value) (Q : St→Hp→Prop), Inv X pins σ H s→Vals vs us→t vs σ H Q →
   wpAny (model X.prog X.w) X.A (assignInOrder ((assignEach ts X.env).map (·.2)) us) (fun _ s' => ∃ σ' H', Inv X pins σ' H' s'∧Q σ' H') X.xe s
abbrev TSet := V→V→V→Hp→(Hp→Prop)→Prop
def PSet (X : Cx) (t : TSet) : Prop :=
 ∀ (pins : List (Addr × Obj)) (s : Shared) (σ : St) (H : Hp) (o i v : V) (ov iv u : Value) (Q : Hp→Prop), Inv X pins σ H s→RelV o ov→RelV i iv→RelV v u→t o i v H Q →
   wpAny (model X.prog X.w) X.A (setItem ov iv u) (fun _ s' => ∃ H', Inv X pins σ H' s'∧Q H') X.xe s
section
variable {X : Cx} {pos : Pos}
def zpq (i : Nat) : TG := fun v σ H Q => Q (σ.set i (some v)) H
theorem zl9 {i : Nat} {x : Str} (hN : X.N.Nodup) (hi : X.N[i]? = some x) (hx : Loc X.env.scope x) (hf : X.fn x = true ∨ X.env.scope.names.lookup x = some .local := by first | exact .inl rfl | exact .inr rfl | assumption) : PG X (.Name x pos) (zpq i) := by
 intro pins s σ H v u Q I r h
 exact wpAny_assign_Name (zd0 I hN hi hx r (fun s' I' => ⟨_, H, I', h⟩) hf)
def gNil : TGs := fun vs σ H Q => vs = []∧Q σ H
def zqe (t : TG) (u : TGs) : TGs := fun vs σ H Q => ∃ v r, vs = v :: r∧t v σ H fun σ' H' => u r σ' H' Q
theorem zl8 : PGs X [] gNil := by
 intro pins s σ H vs us Q I r h
 obtain ⟨e, h⟩ := h
 subst e
 cases r
 exact assignInOrder_nil ⟨σ, H, I, h⟩
theorem zkq {e : Expr} {es : List Expr} {t : TG} {u : TGs} (h1 : PG X e t) (h2 : PGs X es u)
   (hs : (assignEach (e :: es) X.env).map (·.2) = assign e X.env :: (assignEach es X.env).map (·.2) := by rfl) : PGs X (e :: es) (zqe t u) := by
 intro pins s σ H vs us Q I r h
 obtain ⟨v, vr, e1, h⟩ := h
 subst e1
 cases r with
 | cons r rr =>
   rw [hs]
   refine assignInOrder_cons (thn (h1 pins s σ H _ _ _ I r h) fun _ s1 ⟨σ1, H1, I1, q1⟩ => ?_)
   exact h2 pins s1 σ1 H1 _ _ Q I1 rr q1
def gTup (K : PySem.W.Frag) (n : Nat) (t : TGs) : TG := fun v σ H Q => ∃ a xs, v = .ref a∧SqT K H a xs∧xs.length = n∧t xs σ H Q
theorem zn2 {es : List Expr} {k : Nat} {t : TGs} {n : Nat} (hc : X.calm = true) (h : PGs X es t)
   (hn : (assignEach es X.env).length = n := by rfl) (hst : (assignEach es X.env).findIdx? (·.1) = none := by rfl) : PG X (.Tuple es k pos) (gTup X.K n t) := by
 intro pins s σ H v u Q I r hw
 obtain ⟨a, xs, e1, hq, hl, hw⟩ := hw
 subst e1
 cases r
 obtain ⟨its, rv, ht, hz⟩ := I.tuple hq
 refine assign_Tuple_tuple (I.ok.hd hc) ht (by simp [hn, ← hl, rv.length]) hst fun h' hx => ?_
 have I1 : Inv X pins σ H { s with heap := h' } := I.kept (t' := s.toks) fun b o e => hx b o (Nat.ne_of_lt (Heap.lt_size e)) e
 exact h pins _ σ H xs _ Q I1 (by simpa using rv) hw
def gSub (to ti : TE) (t : TSet) : TG := fun v σ H Q => to σ H fun o H1 => ti σ H1 fun i H2 => t o i v H2 fun H3 => Q σ H3
theorem zn3 {o i : Expr} {to ti : TE} {t : TSet} (ho : PE X o to) (hi : PE X i ti) (hs : PSet X t)
   (ha : ∀ v, assign (.Subscript o i pos) X.env v = (do
     let ov ← holding [v] (eval o X.env)
     let iv ← holding [v, ov] (eval i X.env)
     standAt pos
     holding [v, ov, iv] (setItem ov iv v)
     release [v, ov, iv] []) := by intro _; rfl) : PG X (.Subscript o i pos) (gSub to ti t) := by
 intro pins s σ H v u Q I r h
 rw [ha]
 refine wpAny_bind (wpAny_holding (thn (ho pins s σ H _ I h) fun ov s1 ⟨x, H1, I1, r1, q1⟩ => ?_))
 refine wpAny_bind (wpAny_holding (thn (hi pins s1 σ H1 _ I1 q1) fun iv s2 ⟨y, H2, I2, r2, q2⟩ => ?_))
 refine wpAny_bind (wpAny_standAt (wpAny_bind (wpAny_holding (thn (hs pins s2 σ H2 x y v ov iv u _ I2 r1 r2 r q2) fun _ s3 ⟨H3, I3, q3⟩ => ?_))))
 exact wpAny_release ⟨σ, H3, I3, q3⟩
def tAsg (te : TE) (g : TG) : TS := fun D σ H => te σ H fun x H1 => g x σ H1 D.nx
theorem znY {tg e : Expr} {te : TE} {g : TG} (he : PE X e te) (hg : PG X tg g) (hs : swapsWithSole [tg] e pos.line X.env = pure false := by rfl) (hw : swappedStores [tg] e X.env = pure none := by rfl)
   (h1 : (assignEach [tg] X.env).map (·.2) = [assign tg X.env] := by rfl) : PS X (.Assign [tg] e pos) (tAsg te g) := by
 intro pins s σ H D I h
 refine wpAny_Assign_stores (thn (he pins s σ H _ I h) fun v s1 ⟨x, H1, I1, r1, q1⟩ => ?_) hs hw
 rw [h1]
 exact thn (hg pins s1 σ H1 x v _ I1 r1 q1) fun _ s2 q => q
theorem znU {i : Nat} {x : Str} {e : Expr} {te : TE} {pos' : Pos} (hN : X.N.Nodup) (hi : X.N[i]? = some x) (hx : Loc X.env.scope x) (he : PE X e te) (hs : swapsWith e (some (.Name x pos')) pos.line X.env = pure false := by rfl) (hf : X.fn x = true ∨ X.env.scope.names.lookup x = some .local := by first | exact .inl rfl | exact .inr rfl | assumption) :
   PS X (.Assign [.Name x pos'] e pos) (tAsg te (zpq i)) := by
 intro pins s σ H D I h
 refine wpAny_Assign_Name (thn (he pins s σ H _ I h) fun v s1 ⟨y, H1, I1, r1, q1⟩ => ?_) hs
 exact zd0 I1 hN hi hx r1 (fun s2 I2 => ⟨_, H1, I2, q1⟩) hf
def tPar (i j : Nat) (ta : TA) : TS := fun D σ H => ta σ H fun vs H1 => ∃ v w, vs = [v, w]∧D.nx ((σ.set i (some v)).set j (some w)) H1
theorem znW {i j : Nat} {x y : Str} {a b : Expr} {ta : TA} {px py pt : Pos} {kt k2 pt2} (hc : X.calm = true) (hN : X.N.Nodup) (hi : X.N[i]? = some x) (hj : X.N[j]? = some y) (hij : i ≠ j)
   (hx : X.env.scope.names.lookup x = some .local) (hy : X.env.scope.names.lookup y = some .local) (ha : PA X [a, b] ta)
   (hw : swappedStores [.Tuple [.Name x px, .Name y py] kt pt] (.Tuple [a, b] k2 pt2) X.env = pure (some [x, y]))
   (hs : swapsWithSole [.Tuple [.Name x px, .Name y py] kt pt] (.Tuple [a, b] k2 pt2) pos.line X.env = pure false := by rfl) :
   PS X (.Assign [.Tuple [.Name x px, .Name y py] kt pt] (.Tuple [a, b] k2 pt2) pos) (tPar i j ta) := by
 intro pins s σ H D I h
 rw [exec_Assign_arm]
 refine wpAny_bind (wpAny_standAt ?_)
 rw [hs]
 refine wpAny_bind (wpAny_pure ?_)
 rw [if_neg (by decide)]
 refine wpAny_bind (Tuple_ (thn (ha _ pins s σ H _ I h) fun us s1 ⟨vs, H1, I1, r1, q1⟩ => ?_))
 obtain ⟨v, w, e1, q1⟩ := q1
 subst e1
 obtain ⟨u1, u2, rfl, rv, rw'⟩ : ∃ u1 u2, us = [u1, u2]∧RelV v u1∧RelV w u2 := by
   cases r1 with
   | cons p q =>
     cases q with
     | cons p' q' =>
       cases q'
       exact ⟨_, _, rfl, p, p'⟩
 refine wpAny_newObj_type ?_ (by show 2 ≤ sizeLine; decide)
 have I2 : Inv X pins σ H1 { s1 with heap := s1.heap.push { cls := .type "tuple", data := .seq [u1, u2].toArray } } := I1.kept (t' := s1.toks) fun b o e => Heap.get?_push_of_some _ e
 rw [hw]
 refine wpAny_bind (wpAny_pure ?_)
 show wpAny (model X.prog X.w) X.A (do rule "assign.swapped-stores"; let items ← unpackItems (.ref s1.heap.objs.size) 2 none; assignInOrder [fun v => bindName X.env y v, fun v => bindName X.env x v] items.reverse; pure Flow.next) _ _ _
 refine wpAny_bind (wpAny_rule (wpAny_bind (unpackItems_tuple (items := #[u1, u2]) (I.ok.hd hc) (IsTup.new s1.heap _) fun h' hx' => ?_)))
 have I3 := I2.kept (h' := h') (t' := s1.toks) fun b o e => hx' b o (Nat.ne_of_lt (Heap.lt_size e)) e
 show wpAny _ _ (assignInOrder [fun v => bindName X.env y v, fun v => bindName X.env x v] [u2, u1] >>= fun _ => pure Flow.next) _ _ _
 refine wpAny_bind (assignInOrder_cons (wpAny_bindName (zd0 I3 hN hj (.inl hy) rw' (fun s2 I4 => ?_) (.inr hy))))
 refine assignInOrder_cons (wpAny_bindName (zd0 I4 hN hi (.inl hx) rv (fun s3 I5 => assignInOrder_nil (wpAny_pure ?_)) (.inr hx)))
 rw [List.set_comm _ _ (Ne.symm hij)] at I5
 exact ⟨_, H1, I5, q1⟩
end
structure It where
 go : Nat→Hp→Prop
 yld : Nat→Hp→V→Hp→Prop
 stop : Nat→Hp→Prop
def FpOk (X : Cx) (pins : List (Addr × Obj)) (H : Hp) (b : Addr) : Prop :=
 H b = none∧b ≠ X.env.locals∧b ∉ X.fs∧(b ∈ X.ex ∨ X.s₀.heap.objs.size ≤ b)∧(∀ x c, X.env.cells.lookup x = some c→c ≠ b)∧∀ p ∈ X.pn ++ pins, p.1 ≠ b
theorem Inv.fpOk {X : Cx} {pins : List (Addr × Obj)} {σ : St} {H H' : Hp} {s : Shared} {b : Addr} (I : Inv X pins σ H s) (hb : s.heap.objs.size ≤ b) (hn : H' b = none) : FpOk X pins H' b := by
 refine ⟨hn, Nat.ne_of_gt (Nat.lt_of_lt_of_le I.lt hb), I.nofs hb, .inr (Nat.le_trans I.sz hb), fun x c e z => ?_, fun p hp z => ?_⟩
 · obtain ⟨v, q⟩ := I.cell x c e
   exact absurd (Nat.lt_of_lt_of_le q.lt (by rw [z]; exact hb)) (Nat.lt_irrefl _)
 · exact absurd (Nat.lt_of_lt_of_le (Heap.lt_size (I.pin p hp).1) (by rw [z]; exact hb)) (Nat.lt_irrefl _)
structure Turn (P : Program) (w : World) (K : PySem.W.Frag) (tg : Expr) (J : It) (fp : List Addr) (it : Addr) (tn : Nat→Heap→Prop) : Prop where
 mem : it ∈ fp
 obj : ∀ i h, tn i h→∀ b ∈ fp, ∃ o, h.get? b = some o∧∀ v, o.data ≠ .cell v
 keep : ∀ i h h', tn i h→(∀ b ∈ fp, ∀ o, h.get? b = some o→h'.get? b = some o)→tn i h'
 item : ∀ (X : Cx), X.prog = P→X.w = w→X.K = K→X.calm = true→∀ (i : Nat) (pins : List (Addr × Obj)) (s : Shared) (σ : St) (H : Hp) (E : Value→Shared→Prop), Inv X pins σ H s→(∀ b ∈ fp, FpOk X pins H b)→tn i s.heap→J.go i H →
   wpAny (model P w) X.A (pyNext (.ref it)) (fun r s1 => ∃ u, r = some u ∧
     wpAny (model P w) X.A (letOwnedTupleGo tg (.ref it) u) (fun _ s2 => ∃ x H', Inv X pins σ H' s2∧RelV x u∧J.yld i H x H'∧tn (i + 1) s2.heap∧∀ b ∈ fp, H' b = none) E s1) E s
 done : ∀ (X : Cx), X.prog = P→X.w = w→X.K = K→X.calm = true→∀ (i : Nat) (pins : List (Addr × Obj)) (s : Shared) (σ : St) (H : Hp) (E : Value→Shared→Prop), Inv X pins σ H s→(∀ b ∈ fp, FpOk X pins H b)→tn i s.heap→J.stop i H →
   wpAny (model P w) X.A (pyNext (.ref it)) (fun r s1 => r = none∧Inv X pins σ H s1) E s
 self : ∀ (A : Around) (i : Nat) (s : Shared) (Q : Value→Shared→Prop) (E : Value→Shared→Prop), tn i s.heap→Q (.ref it) s→wpAny (model P w) A (pyIter (.ref it)) Q E s
abbrev TI := St→Hp→(It→Hp→Prop)→Prop
def PIE (X : Cx) (pins : List (Addr × Obj)) (σ : St) (tg : Expr) (R : It→Hp→Prop) (itv : Value) (s2 : Shared) : Prop :=
 ∃ (it : Addr) (fp : List Addr) (tn : Nat→Heap→Prop) (J : It) (H' : Hp), itv = .ref it∧Inv X pins σ H' s2∧Turn X.prog X.w X.K tg J fp it tn∧tn 0 s2.heap∧(∀ b ∈ fp, FpOk X pins H' b)∧R J H'
def PI (X : Cx) (tg iter : Expr) (wi : TI) : Prop :=
 ∀ (pins : List (Addr × Obj)) (s : Shared) (σ : St) (H : Hp) (R : It→Hp→Prop), Inv X pins σ H s→wi σ H R →
   wpAny (model X.prog X.w) X.A (eval iter X.env) (fun v s1 => wpAny (model X.prog X.w) X.A (pyIter v) (PIE X pins σ tg R) X.xe s1) X.xe s
theorem zmF {M : Model} {A : Around} {E : Value→Shared→Prop} {s : Shared} {tg : Expr} {it : Addr} {u : Value} {o : Obj} {n : String} {vs : Array Value} {Q : Unit→Shared→Prop} (ho : s.heap.get? it = some o) (hc : o.cls = .type n) (hd : o.data = .fields vs)
   (hn : ["enumerate", "zip", "dict_itemiterator", "dict_reverseitemiterator", "odict_iterator", "itertools.zip_longest", "itertools.pairwise"].contains n = false) (hQ : Q () s) : wpAny M A (letOwnedTupleGo tg (.ref it) u) Q E s := by
 unfold letOwnedTupleGo
 cases tg <;> first
   | exact wpAny_pure hQ
   | (cases u <;> first
       | exact wpAny_pure hQ
       | (refine wpAny_bind (wpAny_load ho ?_)
          rw [hc, hd]
          show wpAny M A (if (["enumerate", "zip", "dict_itemiterator", "dict_reverseitemiterator", "odict_iterator", "itertools.zip_longest", "itertools.pairwise"].contains n && vs[0]? == some (rawInt _)) = true then _ else _) Q E s
          rw [if_neg (by intro h; rw [hn, Bool.false_and] at h; cases h)]
          exact wpAny_pure hQ))
def Itl (K : PySem.W.Frag) (a : Addr) : It :=
 ⟨fun i H => ∃ xs x, SqL K H a xs∧xs[i]? = some x, fun i H x H' => H' = H∧∀ xs, SqL K H a xs→xs[i]? = some x, fun i H => ∃ xs, SqL K H a xs∧xs.length ≤ i⟩
def Itt (K : PySem.W.Frag) (a : Addr) : It :=
 ⟨fun i H => ∃ xs x, SqT K H a xs∧xs[i]? = some x, fun i H x H' => H' = H∧∀ xs, SqT K H a xs→xs[i]? = some x, fun i H => ∃ xs, SqT K H a xs∧xs.length ≤ i⟩
def Itr (lo : Int) (n : Nat) : It := ⟨fun i _ => i < n, fun i H x H' => H' = H∧x = .int (lo + i), fun i _ => n ≤ i⟩
theorem ziq {P : Program} {w : World} {K : PySem.W.Frag} {tg : Expr} (a it : Addr) : Turn P w K tg (Itl K a) [it] it (fun i h => h.IsListIter it a i) where
 mem := by simp
 obj := fun i h st b hb => by
   have e : b = it := by simpa using hb
   subst e
   obtain ⟨o, e, c, d⟩ := st
   exact ⟨o, e, fun v z => by rw [d] at z; cases z⟩
 keep := fun i h h' st k => st.at fun o e => k it (by simp) o e
 item := by
   intro X hP hw hK hc i pins s σ H E I hf st hg
   subst hP hw hK
   obtain ⟨xs, x, hq, hx⟩ := hg
   obtain ⟨its, rv, p, hz⟩ := I.list hq
   obtain ⟨u, hu, ru⟩ := rv.get hx
   obtain ⟨f0, f1, f2, f3, f4, f5⟩ := hf it (by simp)
   refine wpAny_pyNext_list_item st p.isList (x := u) (by simpa using hu) fun h' st' sb => ?_
   have I1 : Inv X pins σ H { s with heap := h' } := I.turned (t' := s.toks) (fun b o hb e => (sb.2 b hb).trans e) f0 f1 f3 f4 f5
   obtain ⟨o, e, c, d⟩ := id st'
   exact ⟨u, rfl, zmF (s := { s with heap := h' }) e c d (by decide) ⟨x, H, I1, ru, ⟨rfl, fun ys hy => by rw [I.list_inj hy hq]; exact hx⟩, st', fun b hb => (hf b hb).1⟩⟩
 done := by
   intro X hP hw hK hc i pins s σ H E I hf st hg
   subst hP hw hK
   obtain ⟨xs, hq, hx⟩ := hg
   obtain ⟨its, rv, p, hz⟩ := I.list hq
   obtain ⟨f0, f1, f2, f3, f4, f5⟩ := hf it (by simp)
   have hl := rv.length
   exact wpAny_pyNext_list_end (I.ok.hd hc) st p.isList (by simp; omega) fun h' eb => ⟨rfl, I.turned (t' := s.toks) (fun b o hb e => eb b o hb e) f0 f1 f3 f4 f5⟩
 self := fun _ _ _ _ _ st h => wpAny_pyIter_listiter st h
theorem zgT {P : Program} {w : World} {K : PySem.W.Frag} {tg : Expr} (a it : Addr) : Turn P w K tg (Itt K a) [it] it (fun i h => h.IsTupleIter it a i) where
 mem := by simp
 obj := fun i h st b hb => by
   have e : b = it := by simpa using hb
   subst e
   obtain ⟨o, e, c, d⟩ := st
   exact ⟨o, e, fun v z => by rw [d] at z; cases z⟩
 keep := fun i h h' st k => st.at fun o e => k it (by simp) o e
 item := by
   intro X hP hw hK hc i pins s σ H E I hf st hg
   subst hP hw hK
   obtain ⟨xs, x, hq, hx⟩ := hg
   obtain ⟨its, rv, p, hz⟩ := I.tuple hq
   obtain ⟨u, hu, ru⟩ := rv.get hx
   obtain ⟨f0, f1, f2, f3, f4, f5⟩ := hf it (by simp)
   refine wpAny_pyNext_tuple_item st (show s.heap.IsTuple a its.toArray from p) (x := u) (by simpa using hu) fun h' st' sb => ?_
   have I1 : Inv X pins σ H { s with heap := h' } := I.turned (t' := s.toks) (fun b o hb e => (sb.2 b hb).trans e) f0 f1 f3 f4 f5
   obtain ⟨o, e, c, d⟩ := id st'
   exact ⟨u, rfl, zmF (s := { s with heap := h' }) e c d (by decide) ⟨x, H, I1, ru, ⟨rfl, fun ys hy => by rw [I.tuple_inj hy hq]; exact hx⟩, st', fun b hb => (hf b hb).1⟩⟩
 done := by
   intro X hP hw hK hc i pins s σ H E I hf st hg
   subst hP hw hK
   obtain ⟨xs, hq, hx⟩ := hg
   obtain ⟨its, rv, p, hz⟩ := I.tuple hq
   obtain ⟨f0, f1, f2, f3, f4, f5⟩ := hf it (by simp)
   have hl := rv.length
   exact wpAny_pyNext_tuple_end (I.ok.hd hc) st (show s.heap.IsTuple a its.toArray from p) (by simp; omega) fun h' eb => ⟨rfl, I.turned (t' := s.toks) (fun b o hb e => eb b o hb e) f0 f1 f3 f4 f5⟩
 self := fun _ _ _ _ _ st h => wpAny_pyIter_tupleiter st h
theorem zgU {P : Program} {w : World} {K : PySem.W.Frag} {tg : Expr} (it : Addr) (lo : Int) (n : Nat) : Turn P w K tg (Itr lo n) [it] it (fun i h => IsRangeIter h it (lo + (i : Nat) * 1) ((n : Int) - (i : Nat)) 1) where
 mem := by simp
 obj := fun i h st b hb => by
   have e : b = it := by simpa using hb
   subst e
   exact ⟨_, st, fun v z => by
     have z' : Data.fields _ = Data.cell v := z
     cases z'⟩
 keep := fun i h h' st k => k it (by simp) _ st
 item := by
   intro X hP hw hK hc i pins s σ H E I hf st hg
   subst hP hw hK
   obtain ⟨f0, f1, f2, f3, f4, f5⟩ := hf it (by simp)
   have W := Walks.range (prog := X.prog) (w := X.w) (I.ok.hd hc) it lo 1 n
   refine W.item i s _ _ hg st fun v h' tk hv st' kk => ?_
   obtain ⟨t, rfl⟩ := hv
   have I1 : Inv X pins σ H { s with heap := h', toks := tk } := I.turned (fun b o hb e => kk b o (by simpa using hb) e) f0 f1 f3 f4 f5
   refine ⟨_, rfl, zmF (s := { s with heap := h', toks := tk }) (n := "range_iterator") st' rfl rfl (by decide) ⟨.int (lo + i), H, I1, ⟨t, ?_⟩, ⟨rfl, rfl⟩, st', fun b hb => (hf b hb).1⟩⟩
   rw [Int.mul_one]
 done := by
   intro X hP hw hK hc i pins s σ H E I hf st hg
   subst hP hw hK
   obtain ⟨f0, f1, f2, f3, f4, f5⟩ := hf it (by simp)
   exact wpAny_pyNext_range_end (I.ok.hd hc) st (by have : n ≤ i := hg; omega) fun h' eb => ⟨rfl, I.turned (t' := s.toks) (fun b o hb e => eb b o hb e) f0 f1 f3 f4 f5⟩
 self := fun _ _ _ _ _ st h => wpAny_pyIter_rangeiter st h
end L2
namespace L2
open PySem PySem.Spec PyProof.Rows
section
variable {X : Cx} {tg : Expr}
def zqc (K : PySem.W.Frag) (tl : TE) : TI := fun σ H R => tl σ H fun x H1 => ∃ a, x = .ref a∧(∃ xs, SqL K H1 a xs)∧R (Itl K a) H1
def iTup (K : PySem.W.Frag) (tl : TE) : TI := fun σ H R => tl σ H fun x H1 => ∃ a, x = .ref a∧(∃ xs, SqT K H1 a xs)∧R (Itt K a) H1
theorem zl7 {l : Expr} {tl : TE} (hl : PE X l tl) : PI X tg l (zqc X.K tl) := by
 intro pins s σ H R I h
 refine thn (hl pins s σ H _ I h) fun v s1 ⟨x, H1, I1, r1, q1⟩ => ?_
 obtain ⟨a, e, ⟨xs, hq⟩, q⟩ := q1
 subst e
 cases r1
 obtain ⟨its, rv, p, hz⟩ := I1.list hq
 refine wpAny_pyIter_list p.isList ?_
 refine ⟨s1.heap.objs.size, [s1.heap.objs.size], _, _, H1, rfl, I1.kept (t' := s1.toks) fun b o e => Heap.get?_push_of_some _ e, ziq a _, ⟨_, Heap.get?_push_size _ rfl, rfl, rfl⟩, fun b hb => ?_, q⟩
 have e : b = s1.heap.objs.size := by simpa using hb
 subst e
 exact I1.fpOk (Nat.le_refl _) (I1.hok.fresh (Nat.le_refl _))
theorem zn0 {l : Expr} {tl : TE} (hl : PE X l tl) : PI X tg l (iTup X.K tl) := by
 intro pins s σ H R I h
 refine thn (hl pins s σ H _ I h) fun v s1 ⟨x, H1, I1, r1, q1⟩ => ?_
 obtain ⟨a, e, ⟨xs, hq⟩, q⟩ := q1
 subst e
 cases r1
 obtain ⟨its, rv, p, hz⟩ := I1.tuple hq
 refine wpAny_pyIter_tuple (show s1.heap.IsTuple a its.toArray from p) ?_
 refine ⟨s1.heap.objs.size, [s1.heap.objs.size], _, _, H1, rfl, I1.kept (t' := s1.toks) fun b o e => Heap.get?_push_of_some _ e, zgT a _, ⟨_, Heap.get?_push_size _ rfl, rfl, rfl⟩, fun b hb => ?_, q⟩
 have e : b = s1.heap.objs.size := by simpa using hb
 subst e
 exact I1.fpOk (Nat.le_refl _) (I1.hok.fresh (Nat.le_refl _))
theorem zkg {pins : List (Addr × Obj)} {σ : St} {H : Hp} {s : Shared} {R : It→Hp→Prop} {E : Value→Shared→Prop} {lo hi : Int} {t u v : Tok} {tk : Nat} (I : Inv X pins σ H s) (h1 : -(2 ^ 62) ≤ lo) (h2 : lo < 2 ^ 62) (h3 : -(2 ^ 62) ≤ hi) (h4 : hi < 2 ^ 62)
   (q : R (Itr lo (hi - lo).toNat) H) : wpAny (model X.prog X.w) X.A (pyIter (.ref s.heap.objs.size)) (PIE X pins σ tg R) E { s with heap := s.heap.push { cls := .type "range", data := .fields #[.int lo t, .int hi u, .int 1 v] }, toks := tk } := by
 refine wpAny_pyIter_range (IsRange.new ..) (small_one h1 h2 h3 h4) ?_
 have I1 : Inv X pins σ H { s with heap := s.heap.push { cls := .type "range", data := .fields #[.int lo t, .int hi u, .int 1 v] }, toks := tk } := I.kept fun b o e => Heap.get?_push_of_some _ e
 refine ⟨(s.heap.push { cls := .type "range", data := .fields #[.int lo t, .int hi u, .int 1 v] }).objs.size, [(s.heap.push { cls := .type "range", data := .fields #[.int lo t, .int hi u, .int 1 v] }).objs.size], _, _, H, rfl,
   I1.kept (t' := tk) fun b o e => Heap.get?_push_of_some _ e, zgU _ lo (hi - lo).toNat, ?_, fun b hb => ?_, q⟩
 · have e1 : lo + ((0 : Nat) : Int) * 1 = lo := by simp
   have e2 : (((hi - lo).toNat : Nat) : Int) - ((0 : Nat) : Int) = Builtin.Range.rangeSize lo hi 1 := by rw [rangeSize_one]; split <;> omega
   show IsRangeIter _ _ (lo + ((0 : Nat) : Int) * 1) ((((hi - lo).toNat : Nat) : Int) - ((0 : Nat) : Int)) 1
   rw [e1, e2]
   exact Heap.get?_push_size _ rfl
 · have e : b = (s.heap.push { cls := .type "range", data := .fields #[.int lo t, .int hi u, .int 1 v] }).objs.size := by simpa using hb
   subst e
   exact I1.fpOk (Nat.le_refl _) (I1.hok.fresh (Nat.le_refl _))
def zqb (ta : TA) : TI := fun σ H R => ta σ H fun vs H1 => ∃ j : Int, vs = [.int j]∧-(2 ^ 62) ≤ j∧j < 2 ^ 62∧R (Itr 0 j.toNat) H1
theorem ziM {a : Expr} {ta : TA} {p pos : Pos} (hg : Gl X "range") (hm : X.mg "range" = none) (ha : PA X [a] ta) (hs : starEach [a] X.env = [(false, eval a X.env)] := by rfl) : PI X tg (.Call (.Name "range" p) [a] [] pos) (zqb ta) := by
 intro pins s σ H R I h
 refine Call_ (zhD I hg hm boot_range (PyProof.Rows.callWith_type1 (thn (ha pos pins s σ H _ I h) fun us s1 ⟨vs, H1, I1, r1, q1⟩ => ?_) hs rfl))
 obtain ⟨j, e, q1, q2, q⟩ := q1
 subst e
 cases r1 with
 | cons r rr =>
   cases rr
   obtain ⟨t, rfl⟩ := r
   exact call_range_1 (zkg I1 (by omega) (by omega) q1 q2 (by simpa using q))
def tFor (wi : TI) (g : TG) (tb : TS) : TS := fun D σ H => wi σ H fun J H1 => ∃ W : Nat→Nat→St→Hp→Prop, (∃ m, W 0 m σ H1)∧∀ i m σ H, W i m σ H →
 (J.stop i H∧D.nx σ H) ∨ (J.go i H∧∃ N : St→Hp→Prop, (∀ σ' H', N σ' H'→∃ m', m' < m∧W (i + 1) m' σ' H')∧∀ x H', J.yld i H x H'→g x σ H' fun σ2 H2 => tb { D with nx := N, ct := N, bk := D.nx } σ2 H2)
def zhk (fp : List Addr) (h : Heap) : List (Addr × Obj) := fp.filterMap fun b => (h.get? b).map fun o => (b, o)
theorem zcB {fp : List Addr} {h : Heap} {b : Addr} {o : Obj} (hb : b ∈ fp) (e : h.get? b = some o) : (b, o) ∈ zhk fp h := List.mem_filterMap.mpr ⟨b, hb, by rw [e]; rfl⟩
theorem ziS {fp : List Addr} {h : Heap} {p : Addr × Obj} (hp : p ∈ zhk fp h) : p.1 ∈ fp∧h.get? p.1 = some p.2 := by
 obtain ⟨b, hb, e⟩ := List.mem_filterMap.mp hp
 cases q : h.get? b with
 | none => rw [q] at e; cases e
 | some o =>
   rw [q] at e
   have e' : (b, o) = p := Option.some.inj e
   subst e'
   exact ⟨hb, q⟩
theorem Inv.pinned {pins : List (Addr × Obj)} {σ : St} {H : Hp} {s : Shared} {fp : List Addr} (I : Inv X pins σ H s) (hf : ∀ b ∈ fp, FpOk X pins H b) (ho : ∀ b ∈ fp, ∃ o, s.heap.get? b = some o∧∀ v, o.data ≠ .cell v) : Inv X (pins ++ zhk fp s.heap) σ H s :=
 I.pins_of fun p hp => (List.mem_append.mp hp).elim (fun z => I.pin p (List.mem_append_right _ z)) fun z => by
   obtain ⟨hb, e⟩ := ziS z
   obtain ⟨f0, f1, f2, _⟩ := hf p.1 hb
   obtain ⟨o, e', d⟩ := ho p.1 hb
   rw [e] at e'; cases e'
   exact ⟨e, f0, f1, f2, d⟩
theorem Inv.unpinned {pins pl : List (Addr × Obj)} {σ : St} {H : Hp} {s : Shared} (I : Inv X (pins ++ pl) σ H s) : Inv X pins σ H s := I.pins_of fun p hp => I.pin p (List.mem_append_right _ (List.mem_append_left _ hp))
theorem znX {iter : Expr} {body : List Stmt} {wi : TI} {g : TG} {tb : TS} {pos : Pos} (hp : PassesOwn (model X.prog X.w) X.A X.env X.xe) (hc : X.calm = true) (hi : PI X tg iter wi) (hg : PG X tg g) (hb : PSs X body tb)
   (hs : ∀ x, foldedSetIterable iter X.env x = pure x := by intro _; rfl) : PS X (.For tg iter body [] pos) (tFor wi g tb) := by
 intro pins s σ H D I h
 refine wpAny_For (thn (hi pins s σ H _ I h) fun v s1 h1 => thn h1 fun itv s2 h2 => ?_) hs
 obtain ⟨it, fp, tn, J, H2, e, I2, T, st2, f2, W, ⟨m0, w0⟩, turn⟩ := h2
 subst e
 -- what stays true of the iterator's objects through the loop
 have stat : ∀ {H' : Hp}, (∀ b ∈ fp, H' b = none)→∀ b ∈ fp, FpOk X pins H' b := fun hn b hb => ⟨hn b hb, (f2 b hb).2⟩
 refine codeAny_forLoop_any (fun n s' => ∃ i σ' H', Inv X pins σ' H' s'∧tn i s'.heap∧(∀ b ∈ fp, H' b = none)∧W i n σ' H') ?_ m0 ⟨0, σ, H2, I2, st2, fun b hb => (f2 b hb).1, w0⟩
 rintro n s3 ⟨i, σ3, H3, I3, st3, fr3, w3⟩
 rcases turn i n σ3 H3 w3 with ⟨stop, qn⟩ | ⟨go, N, hN, step⟩
 · refine wpAny_passesOwn hp (thn (T.done X rfl rfl rfl hc i pins s3 σ3 H3 X.xe I3 (stat fr3) st3 stop) fun r s4 ⟨hr, I4⟩ => ?_)
   subst hr
   exact wpAny_execs_nil ⟨σ3, H3, I4, qn⟩
 · refine wpAny_passesOwn hp (thn (T.item X rfl rfl rfl hc i pins s3 σ3 H3 X.xe I3 (stat fr3) st3 go) fun r s4 ⟨u, hr, h4⟩ => ?_)
   subst hr
   refine wpAny_passesOwn hp (thn h4 fun _ s5 ⟨x, H5, I5, r5, y5, st5, fr5⟩ => ?_)
   have I5' := I5.pinned (stat fr5) (T.obj _ _ st5)
   refine wpAny_passesOwn hp (thn (hg _ s5 σ3 H5 x u _ I5' r5 (step x H5 y5)) fun _ s6 ⟨σ6, H6, I6, q6⟩ => ?_)
   refine wpAny_passesOwn hp (thn (hb _ s6 σ6 H6 _ I6 q6) fun f s7 q7 => ?_)
   have again : ∀ {σ7 : St} {H7 : Hp}, Inv X (pins ++ zhk fp s5.heap) σ7 H7 s7→N σ7 H7→∃ m, m < n∧∃ i σ' H', Inv X pins σ' H' s7∧tn i s7.heap∧(∀ b ∈ fp, H' b = none)∧W i m σ' H' := fun {σ7 H7} I7 n7 => by
     obtain ⟨m', hm, w7⟩ := hN σ7 H7 n7
     refine ⟨m', hm, i + 1, σ7, H7, I7.unpinned, T.keep _ _ _ st5 fun b hb o e => (I7.pin (b, o) (List.mem_append_right _ (List.mem_append_right _ (zcB hb e)))).1, fun b hb => ?_, w7⟩
     obtain ⟨o, e, d⟩ := T.obj _ _ st5 b hb
     exact (I7.pin (b, o) (List.mem_append_right _ (List.mem_append_right _ (zcB hb e)))).2.1
   cases f with
   | next => obtain ⟨σ7, H7, I7, n7⟩ := q7; exact again I7 n7
   | cont => obtain ⟨σ7, H7, I7, n7⟩ := q7; exact again I7 n7
   | brk => obtain ⟨σ7, H7, I7, q7⟩ := q7; exact ⟨σ7, H7, I7.unpinned, q7⟩
   | ret v => obtain ⟨x7, σ7, H7, I7, r7, q7⟩ := q7; exact ⟨x7, σ7, H7, I7.unpinned, r7, q7⟩
end
end L2
namespace L2
open PySem PySem.Spec PyProof.Rows
abbrev R2 := V→V→Hp→VK→Prop
def OpR (X : Cx) (f : Value→Value→Sem Value) (r : R2) : Prop :=
 ∀ (pins : List (Addr × Obj)) (s : Shared) (σ : St) (H : Hp) (x y : V) (v u : Value) (Q : VK), Inv X pins σ H s→RelV x v→RelV y u→r x y H Q →
   wpAny (model X.prog X.w) X.A (f v u) (EP X pins σ Q) X.xe s
def UnR (X : Cx) (f : Value→Sem Value) (r : V→Hp→VK→Prop) : Prop :=
 ∀ (pins : List (Addr × Obj)) (s : Shared) (σ : St) (H : Hp) (x : V) (v : Value) (Q : VK), Inv X pins σ H s→RelV x v→r x H Q →
   wpAny (model X.prog X.w) X.A (f v) (EP X pins σ Q) X.xe s
def zjZ (X : Cx) (f : Value) (r : List V→Hp→VK→Prop) : Prop :=
 ∀ (pins : List (Addr × Obj)) (s : Shared) (σ : St) (H : Hp) (xs : List V) (us : List Value) (Q : VK), Inv X pins σ H s→Vals xs us→r xs H Q →
   wpAny (model X.prog X.w) X.A (call f us) (EP X pins σ Q) X.xe s
def TruR (X : Cx) (r : V→Hp→(Bool→Hp→Prop)→Prop) : Prop :=
 ∀ (pins : List (Addr × Obj)) (s : Shared) (σ : St) (H : Hp) (x : V) (v : Value) (Q : Bool→Hp→Prop), Inv X pins σ H s→RelV x v→r x H Q →
   wpAny (model X.prog X.w) X.A (truthy v) (TP X pins σ Q) X.xe s
def tOp (r : R2) (ta tb : TE) : TE := fun σ H Q => ta σ H fun x H1 => tb σ H1 fun y H2 => r x y H2 Q
def tUn (r : V→Hp→VK→Prop) (ta : TE) : TE := fun σ H Q => ta σ H fun x H1 => r x H1 Q
def rI (C : Int→Int→Prop) (g : Int→Int→V) : R2 := fun x y H Q => ∃ i j, x = .int i∧y = .int j∧C i j∧Q (g i j) H
def rI0 (g : Int→Int→V) : R2 := fun x y H Q => ∃ i j, x = .int i∧y = .int j∧Q (g i j) H
def rU (g : Int→V) : V→Hp→VK→Prop := fun x H Q => ∃ i, x = .int i∧Q (g i) H
section
variable {X : Cx} {a b c : Expr} {ta tb tc : TE} {pos : Pos}
theorem binT (ha : PE X a ta) (hb : PE X b tb) {pins : List (Addr × Obj)} {s : Shared} {σ : St} {H : Hp} {R : V→V→Hp→Prop} (I : Inv X pins σ H s)
   (h : ta σ H fun x H1 => tb σ H1 fun y H2 => R x y H2) {Q : Value→Shared→Prop} {f : Value→Value→Sem Value}
   (hf : ∀ v u s2 x y H2, Inv X pins σ H2 s2→RelV x v→RelV y u→R x y H2→wpAny (model X.prog X.w) X.A (f v u) Q X.xe s2) :
   wpAny (model X.prog X.w) X.A (eval a X.env) (fun v s₁ => wpAny (model X.prog X.w) X.A (eval b X.env) (fun u s₂ => wpAny (model X.prog X.w) X.A (f v u) Q X.xe s₂) X.xe s₁) X.xe s := by
 refine thn (ha pins s σ H _ I h) fun v s1 ⟨x, H1, I1, r1, q1⟩ => ?_
 refine thn (hb pins s1 σ H1 _ I1 q1) fun u s2 ⟨y, H2, I2, r2, q2⟩ => ?_
 exact hf v u s2 x y H2 I2 r1 r2 q2
theorem zpO {op : Operator} {r : R2} (ho : OpR X (binaryOp op) r) (ha : PE X a ta) (hb : PE X b tb) : PE X (.BinOp a op b pos) (tOp r ta tb) := by
 intro pins s σ H Q I h
 exact wpAny_BinOp (binT ha hb I h fun v u s2 x y H2 I2 rx ry q => ho pins s2 σ H2 x y v u Q I2 rx ry q)
theorem zpN {op : UnaryOp} {r : V→Hp→VK→Prop} (ho : UnR X (unaryOp op) r) (ha : PE X a ta) : PE X (.UnaryOp op a pos) (tUn r ta) := by
 intro pins s σ H Q I h
 exact UnaryOp_ (thn (ha pins s σ H _ I h) fun v s1 ⟨x, H1, I1, r1, q1⟩ => ho pins s1 σ H1 x v Q I1 r1 q1)
theorem opI {f : Value→Value→Sem Value} {C : Int→Int→Prop} {g : Int→Int→Int}
   (rule : ∀ (i j : Int) (t u : Tok) (s : Shared) (Q : Value→Shared→Prop) (E : Value→Shared→Prop), C i j→Q (.int (g i j) s.toks) { s with toks := s.toks + 1 }→wpAny (model X.prog X.w) X.A (f (.int i t) (.int j u)) Q E s) :
   OpR X f (rI C fun i j => .int (g i j)) := by
 intro pins s σ H x y v u Q I rx ry h
 obtain ⟨i, j, rfl, rfl, hc, q⟩ := h
 obtain ⟨t, rfl⟩ := rx
 obtain ⟨t', rfl⟩ := ry
 exact rule i j t t' s _ _ hc ⟨.int (g i j), H, I.tok _, ⟨_, rfl⟩, q⟩
theorem opI0 {f : Value→Value→Sem Value} {g : Int→Int→Int}
   (rule : ∀ (i j : Int) (t u : Tok) (s : Shared) (Q : Value→Shared→Prop) (E : Value→Shared→Prop), Q (.int (g i j) s.toks) { s with toks := s.toks + 1 }→wpAny (model X.prog X.w) X.A (f (.int i t) (.int j u)) Q E s) :
   OpR X f (rI0 fun i j => .int (g i j)) := by
 intro pins s σ H x y v u Q I rx ry h
 obtain ⟨i, j, rfl, rfl, q⟩ := h
 obtain ⟨t, rfl⟩ := rx
 obtain ⟨t', rfl⟩ := ry
 exact rule i j t t' s _ _ ⟨.int (g i j), H, I.tok _, ⟨_, rfl⟩, q⟩
theorem opB0 {f : Value→Value→Sem Value} {g : Int→Int→Bool}
   (rule : ∀ (i j : Int) (t u : Tok) (s : Shared) (Q : Value→Shared→Prop) (E : Value→Shared→Prop), Q (.bool (g i j)) s→wpAny (model X.prog X.w) X.A (f (.int i t) (.int j u)) Q E s) :
   OpR X f (rI0 fun i j => .bl (g i j)) := by
 intro pins s σ H x y v u Q I rx ry h
 obtain ⟨i, j, rfl, rfl, q⟩ := h
 obtain ⟨t, rfl⟩ := rx
 obtain ⟨t', rfl⟩ := ry
 exact rule i j t t' s _ _ ⟨.bl (g i j), H, I, rfl, q⟩
def CMul (i j : Int) : Prop := (-(2 ^ 64) < i∧i < 2 ^ 64) ∨ (-(2 ^ 64) < j∧j < 2 ^ 64)
theorem CMul.ok {i j : Int} (h : CMul i j) : IntMulOk i j := by
 rcases h with ⟨h1, h2⟩ | ⟨h1, h2⟩
 · exact .of_left (intBits_le_64 h1 h2)
 · exact .of_right (intBits_le_64 h1 h2)
theorem zom : OpR X (binaryOp .Add) (rI0 fun i j => .int (i + j)) := opI0 fun _ _ _ _ _ _ _ q => add_int q
theorem zof : OpR X (binaryOp .Sub) (rI0 fun i j => .int (i - j)) := opI0 fun _ _ _ _ _ _ _ q => sub_int q
theorem zog : OpR X (binaryOp .Mult) (rI CMul fun i j => .int (i * j)) := opI fun _ _ _ _ _ _ _ hc q => mul_int q hc.ok
theorem zoh : OpR X (binaryOp .Mod) (rI (fun _ j => 0 < j) fun i j => .int (i % j)) := opI fun i j _ _ _ _ _ hc q => by
 have h1 : (0 : Int) < j := hc
 exact mod_int' (by omega) (by rw [Int.fmod_eq_emod_of_nonneg i (by omega)]; exact q)
theorem unI {f : Value→Sem Value} {g : Int→Int}
   (rule : ∀ (i : Int) (t : Tok) (s : Shared) (Q : Value→Shared→Prop) (E : Value→Shared→Prop), Q (.int (g i) s.toks) { s with toks := s.toks + 1 }→wpAny (model X.prog X.w) X.A (f (.int i t)) Q E s) :
   UnR X f (rU fun i => .int (g i)) := by
 intro pins s σ H x v Q I rx h
 obtain ⟨i, rfl, q⟩ := h
 obtain ⟨t, rfl⟩ := rx
 exact rule i t s _ _ ⟨.int (g i), H, I.tok _, ⟨_, rfl⟩, q⟩
theorem zno : UnR X (unaryOp .USub) (rU fun i => .int (-i)) := unI fun _ _ _ _ _ q => neg_int q
end
section
variable {X : Cx} {a b c : Expr} {ta tb tc : TE} {pos : Pos}
theorem zkY {pins : List (Addr × Obj)} {σ : St} {H : Hp} {s : Shared} {Q : VK} {k k' : Bool} (I : Inv X pins σ H s) (q : Q (.bl k) H) (e : k = k') : EP X pins σ Q (.bool k') s := by
 subst e
 exact ⟨.bl k, H, I, rfl, q⟩
theorem zpS : OpR X (compareOp .Lt) (rI0 fun i j => .bl (decide (i < j))) := opB0 fun _ _ _ _ _ _ _ q => lt_int q
theorem zpT : OpR X (compareOp .LtE) (rI0 fun i j => .bl (decide (i ≤ j))) := opB0 fun _ _ _ _ _ _ _ q => le_int q
theorem zpU : OpR X (compareOp .Gt) (rI0 fun i j => .bl (decide (j < i))) := opB0 fun _ _ _ _ _ _ _ q => gt_int q
theorem zpV : OpR X (compareOp .GtE) (rI0 fun i j => .bl (decide (j ≤ i))) := opB0 fun _ _ _ _ _ _ _ q => ge_int q
theorem ziR : OpR X (compareOp .In) (fun x y H Q => ∃ i j, x = .str i∧y = .str j∧Q (.bl (!(Builtin.Str.occurrences j i 0 j.length 1).isEmpty)) H) := by
 intro pins s σ H x y v u Q I rx ry h
 obtain ⟨i, j, rfl, rfl, q⟩ := h
 obtain ⟨t, rfl⟩ := rx
 obtain ⟨t', rfl⟩ := ry
 exact in_str (zkY I q rfl)
theorem zmf : OpR X (compareOp .IsNot) (fun x y H Q => y = .non∧Q (.bl (!decide (x = .non))) H) := by
 intro pins s σ H x y v u Q I rx ry h
 obtain ⟨rfl, q⟩ := h
 cases ry
 refine isnot_none_gen (zkY I q ?_)
 cases x <;> first
   | (cases rx; rfl)
   | (obtain ⟨t, rfl⟩ := rx; rfl)
theorem zft : OpR X (compareOp .NotIn) (fun x y H Q => ∃ i j, x = .str i∧y = .str j∧Q (.bl (!(!(Builtin.Str.occurrences j i 0 j.length 1).isEmpty))) H) := by
 intro pins s σ H x y v u Q I rx ry h
 obtain ⟨i, j, rfl, rfl, q⟩ := h
 obtain ⟨t, rfl⟩ := rx
 obtain ⟨t', rfl⟩ := ry
 exact notIn_str (zkY I q rfl)
theorem zmb {op : CmpOp} {r : R2} (ho : OpR X (compareOp op) r) (ha : PE X a ta) (hb : PE X b tb) (hm : behindInMarks op b = false) : PE X (.Compare a [op] [b] pos) (tOp r ta tb) := by
 intro pins s σ H Q I h
 exact wpAny_Compare1 (binT ha hb I h fun v u s2 x y H2 I2 rx ry q => ho pins s2 σ H2 x y v u Q I2 rx ry q) hm
def zpd (t : TE) : TT := fun σ H Q => t σ H fun x H' => ∃ k, x = .bl k∧Q k H'
theorem zlZ {op : CmpOp} {r : R2} (ho : OpR X (compareOp op) r) (ha : PE X a ta) (hb : PE X b tb) (hm : behindInMarks op b = false) : PT X (.Compare a [op] [b] pos) (zpd (tOp r ta tb)) := by
 intro pins s σ H Q I h
 refine wpAny_isTrue_Compare1 (thn (ha pins s σ H _ I h) fun v s1 ⟨x, H1, I1, r1, q1⟩ => thn (hb pins s1 σ H1 _ I1 q1) fun u s2 ⟨y, H2, I2, r2, q2⟩ =>
   thn (ho pins s2 σ H2 x y v u _ I2 r1 r2 q2) fun c s3 ⟨z, H3, I3, r3, k, e, q3⟩ => ?_) hm
 subst e
 cases r3
 exact wpAny_truthy_bool ⟨H3, I3, q3⟩
def zlD (r r' : R2) (ta tb tc : TE) : TE := fun σ H Q => ta σ H fun x H1 => tb σ H1 fun y H2 => r x y H2 fun z H3 => ∃ k, z = .bl k ∧
 (if k = true then tc σ H3 fun w' H4 => r' y w' H4 Q else Q (.bl false) H3)
theorem zkk {op op' : CmpOp} {r r' : R2} (ho : OpR X (compareOp op) r) (ho' : OpR X (compareOp op') r') (ha : PE X a ta) (hb : PE X b tb) (hc : PE X c tc)
   (hm : lastMarks [op, op'] [b, c] = false := by with_unfolding_all rfl) : PT X (.Compare a [op, op'] [b, c] pos) (zpd (zlD r r' ta tb tc)) := by
 intro pins s σ H Q I h
 refine isTrue_chain (thn (ha pins s σ H _ I h) fun v s1 ⟨x, H1, I1, r1, q1⟩ => test_link (thn (hb pins s1 σ H1 _ I1 q1) fun u s2 ⟨y, H2, I2, r2, q2⟩ =>
   thn (ho pins s2 σ H2 x y v u _ I2 r1 r2 q2) fun d s3 ⟨z, H3, I3, r3, k, e, q3⟩ => ?_)) hm
 subst e
 cases r3
 refine wpAny_truthy_bool ?_
 cases k with
 | false =>
   obtain ⟨k', e', q'⟩ := q3
   cases e'
   exact ite_ff ⟨H3, I3, q'⟩
 | true =>
   refine ite_tt (test_last (thn (hc pins s3 σ H3 _ I3 q3) fun w' s4 ⟨z', H4, I4, r4, q4⟩ => thn (ho' pins s4 σ H4 y z' u w' _ I4 r2 r4 q4) fun d' s5 ⟨z2, H5, I5, r5, k2, e2, q5⟩ => ?_))
   subst e2
   cases r5
   exact wpAny_truthy_bool ⟨H5, I5, q5⟩
def TruV (K : PySem.W.Frag) (x : V) (H : Hp) (k : Bool) : Prop :=
 match x with
 | .non => k = false
 | .bl b => k = b
 | .int i => k = (i != 0)
 | .str y => y.length ≤ sizeLine∧k = ((y.length : Int) != 0)
 | .byt y => y.size ≤ sizeLine∧k = ((y.size : Int) != 0)
 | .ref p => (∃ xs, SqL K H p xs∧k = !xs.isEmpty) ∨ (∃ xs, SqT K H p xs∧k = !xs.isEmpty) ∨ ∃ kvs, H p = some (.dK kvs)∧k = !kvs.isEmpty
 | _ => False
theorem zhJ {κ : Type} {kvs : List (κ × V)} {vs : List (κ × Value)} (r : KV kvs vs) : (!vs.isEmpty) = !kvs.isEmpty := by
 cases r <;> rfl
theorem zeW {xs : List V} {its : List Value} (r : Vals xs its) : (!its.toArray.isEmpty) = !xs.isEmpty := by
 cases r <;> simp
theorem zfB : (sizeLine : Nat) < 2 ^ 63 := by rw [sizeLine_eq]; decide
theorem znr : TruR X (fun x H Q => ∃ k, TruV X.K x H k∧Q k H) := by
 intro pins s σ H x v Q I rx h
 obtain ⟨k, e, q⟩ := h
 have hl := zfB
 have hs : sizeLine = 16777216 := sizeLine_eq
 cases x with
 | non =>
   cases rx
   have e' : k = false := e
   subst e'
   exact truthy_none ⟨H, I, q⟩
 | bl b =>
   cases rx
   have e' : k = b := e
   subst e'
   exact wpAny_truthy_bool ⟨H, I, q⟩
 | int i =>
   obtain ⟨t, rfl⟩ := rx
   have e' : k = (i != 0) := e
   subst e'
   exact PySem.P.truthy_int ⟨H, I, q⟩
 | str y =>
   obtain ⟨t, rfl⟩ := rx
   obtain ⟨hy, e'⟩ : y.length ≤ sizeLine∧k = ((y.length : Int) != 0) := e
   subst e'
   exact PySem.P.truthy_str (by omega) ⟨H, I.tok _, q⟩
 | byt y =>
   obtain ⟨t, rfl⟩ := rx
   obtain ⟨hy, e'⟩ : y.size ≤ sizeLine∧k = ((y.size : Int) != 0) := e
   subst e'
   exact PySem.W.truthy_bytes (by omega) ⟨H, I.tok _, q⟩
 | ref p =>
   cases rx
   have e' : (∃ xs, SqL X.K H p xs∧k = !xs.isEmpty) ∨ (∃ xs, SqT X.K H p xs∧k = !xs.isEmpty) ∨ ∃ kvs, H p = some (.dK kvs)∧k = !kvs.isEmpty := e
   rcases e' with ⟨xs, hx, e'⟩ | ⟨xs, hx, e'⟩ | ⟨kvs, hx, e'⟩
   · subst e'
     obtain ⟨its, r, pl, hz⟩ := I.list hx
     have hlen := r.length
     exact wpAny_truthy_list pl.isList (by simp only [List.size_toArray]; omega) ⟨H, I.tok _, by rw [zeW r]; exact q⟩
   · subst e'
     obtain ⟨its, r, pl, hz⟩ := I.tuple hx
     have hlen := r.length
     exact truthy_tuple pl (by simp only [List.size_toArray]; omega) ⟨H, I.tok _, by rw [zeW r]; exact q⟩
   · subst e'
     obtain ⟨hz, hS, vs, r, m⟩ : kvs.length ≤ sizeLine∧(p == sysModules) = false∧∃ vs, KV kvs vs∧s.heap.DictOf (zaw X.prog X.w) p vs := I.hok p _ hx
     have hlen : kvs.length = vs.length := Paired.length r
     exact wpAny_truthy_dict hS m (by omega) ⟨H, I.tok _, by rw [zhJ r]; exact q⟩
 | _ => exact (show False from e).elim
theorem zkj (ha : PE X a ta) (he : ∀ whole, isTrue a X.env whole = (do let v ← whole; standAt a.pos; holding [v] (truthy v))) :
   PT X a (fun σ H Q => ta σ H fun x H' => ∃ k, TruV X.K x H' k∧Q k H') := by
 intro pins s σ H Q I h
 exact isTrue_plain (thn (ha pins s σ H _ I h) fun v s1 ⟨x, H1, I1, r1, q1⟩ => znr pins s1 σ H1 x v Q I1 r1 q1) (he _)
theorem zho : OpR X (binaryOp .Add) (fun x y H Q => ∃ i j, x = .str i∧y = .str j∧i.length + j.length ≤ sizeLine∧Q (.str (i ++ j)) H) := by
 intro pins s σ H x y v u Q I rx ry h
 obtain ⟨i, j, rfl, rfl, hz, q⟩ := h
 obtain ⟨t, rfl⟩ := rx
 obtain ⟨t', rfl⟩ := ry
 exact add_str (fun t' tk => ⟨.str (i ++ j), H, I.tok _, ⟨_, rfl⟩, q⟩) hz
theorem vals1 {x : V} {us : List Value} (r : Vals [x] us) : ∃ u, us = [u]∧RelV x u := by
 cases r with
 | cons r1 r2 => cases r2; exact ⟨_, rfl, r1⟩
theorem vals2 {x y : V} {us : List Value} (r : Vals [x, y] us) : ∃ u w', us = [u, w']∧RelV x u∧RelV y w' := by
 cases r with
 | cons r1 r2 =>
   cases r2 with
   | cons r3 r4 => cases r4; exact ⟨_, _, rfl, r1, r3⟩
theorem zjk (hc : X.calm = true) : zjZ X (.builtin "min") (fun xs H Q => ∃ i j, xs = [.int i, .int j]∧Q (.int (if j < i then j else i)) H) := by
 intro pins s σ H xs us Q I r h
 obtain ⟨i, j, rfl, q⟩ := h
 obtain ⟨u, w', rfl, ⟨t, rfl⟩, ⟨t', rfl⟩⟩ := vals2 r
 refine min_two_ints (I.ok.hd hc) fun h' tk k => ⟨_, H, I.kept k, ?_, q⟩
 by_cases hj : j < i
 · rw [if_pos hj, if_pos hj]; exact ⟨_, rfl⟩
 · rw [if_neg hj, if_neg hj]; exact ⟨_, rfl⟩
theorem zgk : zjZ X (.type "int") (fun xs H Q => (∃ i, xs = [.int i]∧Q (.int i) H) ∨ ∃ k, xs = [.bl k]∧Q (.int (if k then 1 else 0)) H) := by
 intro pins s σ H xs us Q I r h
 rcases h with ⟨i, rfl, q⟩ | ⟨k, rfl, q⟩
 · obtain ⟨u, rfl, t, rfl⟩ := vals1 r
   exact call_int_int ⟨.int i, H, I, ⟨_, rfl⟩, q⟩
 · obtain ⟨u, rfl, r1⟩ := vals1 r
   cases r1
   exact call_int_bool ⟨.int (if k then 1 else 0), H, I.tok _, ⟨_, rfl⟩, q⟩
end
end L2
namespace L2
open PySem PySem.Spec PyProof.Rows
theorem RelO.some_of {v : V} {o : Option Value} (r : RelO (some v) o) : ∃ u, o = some u∧RelV v u := by
 cases o with
 | none => exact (show False from r).elim
 | some u => exact ⟨u, rfl, r⟩
end L2
namespace L2
open PySem PySem.Spec PyProof.Rows
structure Room (k : Nat) (A : Around) : Prop where
 hd : A.handled = none
 dp : A.depth + 3 * k + 5 < recursionLimit
 un : A.units + 16 * k + 200 < cLine
 gd : A.guards = some []
theorem Room.mono {j k : Nat} {A : Around} (r : Room k A) (h : j ≤ k) : Room j A := ⟨r.hd, by have := r.dp; omega, by have := r.un; omega, r.gd⟩
theorem Room.deeper {k : Nat} {A : Around} (r : Room (k + 1) A) (env : Env) : Room k (A.deeper env) :=
 ⟨r.hd, by have := r.dp; show A.depth + 1 + 3 * k + 5 < _; omega, by have := r.un; show A.units + 3 + 16 * k + 200 < _; omega, r.gd⟩
theorem Room.depth {k : Nat} {A : Around} (r : Room k A) : A.depth < recursionLimit := by have := r.dp; omega
theorem Room.units {k : Nat} {A : Around} (r : Room k A) : A.units + 64 < cLine := by have := r.un; omega
def tNil : TA := fun _ H Q => Q [] H
def zpC (ta : TE) (tr : TA) : TA := fun σ H Q => ta σ H fun x H1 => tr σ H1 fun xs H2 => Q (x :: xs) H2
section
variable {X : Cx} {e : Expr} {es : List Expr} {te : TE} {t : TA} {pos : Pos}
theorem zob : PA X [] tNil := fun _ _ _ _ H Q I h => Calls.spliced_nil ⟨[], H, I, .nil, h⟩
theorem zmd (ha : PE X e te) (hr : PA X es t) (hs : starEach (e :: es) X.env = (false, eval e X.env) :: starEach es X.env := by rfl) : PA X (e :: es) (zpC te t) := by
 intro pos pins s σ H Q I h
 rw [hs]
 show wpAny _ _ (spliced ((false, eval e X.env) :: backTo pos (starEach es X.env))) _ _ s
 refine Calls.spliced_cons (thn (ha pins s σ H _ I h) fun u s1 ⟨x, H1, I1, r1, q1⟩ => ?_)
 exact thn (hr pos pins s1 σ H1 _ I1 q1) fun us s2 ⟨xs, H2, I2, r2, q2⟩ => ⟨x :: xs, H2, I2, .cons r1 r2, q2⟩
def tTup (t : TA) : TE := fun σ H Q => t σ H fun xs H1 => xs.length ≤ sizeLine∧∀ p, H1 p = none→Q (.ref p) (upd H1 p (.tup xs))
def tLst (t : TA) : TE := fun σ H Q => t σ H fun xs H1 => xs.length ≤ sizeLine∧∀ p, H1 p = none→Q (.ref p) (upd H1 p (.lst xs))
theorem zn5 {x1} (h : PA X es t) : PE X (.Tuple es x1 pos) (tTup t) := by
 intro pins s σ H Q I hq
 refine wpAny_Tuple_spliced (thn (h pos pins s σ H _ I hq) fun us s1 ⟨xs, H1, I1, r, z, q⟩ => ⟨by rw [← r.length]; exact z, ?_⟩)
 have hf : H1 s1.heap.objs.size = none := I1.hok.fresh (Nat.le_refl _)
 refine ⟨.ref s1.heap.objs.size, upd H1 s1.heap.objs.size (.tup xs), I1.laid (t' := s1.toks) (fun b u e => Heap.get?_push_of_some _ e) (Nat.le_refl _) ?_, rfl, q _ hf⟩
 exact ⟨z, us, r, ⟨_, Heap.get?_push_size _ rfl, rfl, rfl, _, rfl⟩⟩
theorem zn8 (h : PA X es t) : PE X (.List es pos) (tLst t) := by
 intro pins s σ H Q I hq
 refine wpAny_List_spliced (thn (h pos pins s σ H _ I hq) fun us s1 ⟨xs, H1, I1, r, z, q⟩ => ⟨by rw [← r.length]; exact z, ?_⟩)
 have hf : H1 s1.heap.objs.size = none := I1.hok.fresh (Nat.le_refl _)
 refine ⟨.ref s1.heap.objs.size, upd H1 s1.heap.objs.size (.lst xs), I1.laid (t' := s1.toks) (fun b u e => Heap.get?_push_of_some _ e) (Nat.le_refl _) ?_, rfl, q _ hf⟩
 exact ⟨z, us, 0, r, Heap.get?_push_size _ rfl⟩
end
abbrev Sp := List V→Hp→VK→XK→Prop
abbrev CXT := List Env→Hp→Shared→XK→Value→Shared→Prop
structure Env0 (P : Program) (w : World) (K : PySem.W.Frag) (mg : Str→Option Value) (base : Heap) (A : Around) (outer : List Env) (s : Shared) (H : Hp) : Prop where
 frames : A.frames = some outer
 mod : Mod K mg base
 bs : ∀ b o, base.get? b = some o→s.heap.get? b = some o∧H b = none
 bsz : base.objs.size ≤ s.heap.objs.size
 funs : s.heap.FunFrames base outer
 frf : ∀ b ∈ frs outer, H b = none
 hok : HOk P w H s.heap
 bare : AllBare s.gens
def CE (outer : List Env) (P : Program) (w : World) (H : Hp) (s : Shared) (Q : VK) (u : Value) (s' : Shared) : Prop :=
 ∃ v H', s'.os = s.os∧AllBare s'.gens∧Un (frs outer) [] H H' s.heap s'.heap∧HOk P w H' s'.heap∧RelV v u∧Q v H'
def CR (CX : CXT) (outer : List Env) (P : Program) (w : World) (H : Hp) (s : Shared) (Q : VK) (E : XK) (r : Result) (s' : Shared) : Prop :=
 match r with
 | .ok (.ret u) => CE outer P w H s Q u s'
 | .ok _ => False
 | .error e => CX outer H s E e s'
structure FnOk (P : Program) (w : World) (K : PySem.W.Frag) (mg : Str→Option Value) (base : Heap) (CX : CXT) (k : Nat) (f : Addr) (fd : FuncData) (ps : List Str) (sp : Sp) : Prop where
 len : ∀ vs H Q E, sp vs H Q E→vs.length = ps.length
 run : ∀ (A : Around) (outer : List Env) (s : Shared) (H : Hp) (args : Args) (us : List Value) (vs : List V) (Q : VK) (E : XK), Room k A→Env0 P w K mg base A outer s H→BindsTo s fd args (ps.zip us)→Vals vs us→sp vs H Q E →
   codeAny (model P w) A (.call (.ref f) args) (CR CX outer P w H s Q E) s
section
variable {X : Cx} {pins : List (Addr × Obj)} {σ : St} {H : Hp} {s s' : Shared}
theorem Inv.env0 (I : Inv X pins σ H s) : Env0 X.prog X.w X.K X.mg X.base X.A X.stack s H :=
 ⟨I.ok.frames, I.ok.mod, I.bs, Nat.le_trans I.ok.bsz I.sz, I.stack, I.stkFree, I.hok, I.bare⟩
theorem Inv.after {Q : VK} {u : Value} (I : Inv X pins σ H s) (h : CE X.stack X.prog X.w H s Q u s') : EP X pins σ Q u s' := by
 obtain ⟨v, H', os, bare, un, hok, r, q⟩ := h
 obtain ⟨hh, g, d, t, os'⟩ := s'
 obtain rfl : os' = s.os := os
 exact ⟨v, H', I.call (h' := hh) (g' := g) (d' := d) (t' := t) (ch := []) un hok bare (fun b z => absurd z (by simp)), r, q⟩
end
def zpD (sp : Sp) (dvs : List V) (E : XK) (t : TA) : TE := fun σ H Q => t σ H fun vs H1 => sp (vs ++ dvs) H1 Q E
def Binds (K : PySem.W.Frag) (fd : FuncData) (ps : List Str) (ds : List Value) : Prop :=
 ∀ (s : Shared) (us : List Value), K.In s.heap→(us ++ ds).length = ps.length→BindsTo s fd ⟨us, []⟩ (ps.zip (us ++ ds))
theorem Binds.all {K : PySem.W.Frag} {fd : FuncData} {ps : List Str} (h : ∀ us : List Value, us.length = ps.length→bindArgs fd ⟨us, []⟩ = pure (ps.zip us)) : Binds K fd ps [] := fun s us _ hl => by
 rw [List.append_nil] at hl ⊢
 exact .of_eq (h us hl)
def Passes (CX : CXT) (X : Cx) (E : XK) : Prop := ∀ (pins : List (Addr × Obj)) (σ : St) (H : Hp) (s : Shared) (e : Value) (s' : Shared), Inv X pins σ H s→CX X.stack H s E e s'→X.xe e s'
section
variable {X : Cx} {CX : CXT} {k : Nat} {f C : Addr} {fd : FuncData} {ps : List Str} {sp : Sp} {dvs : List V} {ds : List Value} {E : XK} {x m : Str} {p pos apos : Pos} {e o : Expr} {es : List Expr} {ta : TE} {t : TA}
theorem znQ {pins : List (Addr × Obj)} {σ : St} {H : Hp} {s : Shared} {Q : VK} {us : List Value} {vs : List V} (F : FnOk X.prog X.w X.K X.mg X.base CX k f fd ps sp) (hr : Room k X.A) (hb : Binds X.K fd ps ds) (hd : Vals dvs ds) (hx : Passes CX X E)
   (I : Inv X pins σ H s) (r : Vals vs us) (h : sp (vs ++ dvs) H Q E) : wpAny (model X.prog X.w) X.A (call (.ref f) us) (EP X pins σ Q) X.xe s := by
 have r2 : Vals (vs ++ dvs) (us ++ ds) := r.append hd
 have hl : (us ++ ds).length = ps.length := by rw [← r2.length]; exact F.len _ _ _ _ h
 refine wpAny_call (codeAny_mono (F.run X.A X.stack s H ⟨us, []⟩ (us ++ ds) (vs ++ dvs) Q E hr I.env0 (hb s us I.kIn hl) r2 h) fun r s' hq => ?_)
 cases r with
 | error e => exact hx pins σ H s e s' I hq
 | ok fl =>
   cases fl with
   | ret u => exact I.after hq
   | next => exact False.elim hq
   | brk => exact False.elim hq
   | cont => exact False.elim hq
theorem zmc (F : FnOk X.prog X.w X.K X.mg X.base CX k f fd ps sp) (hr : Room k X.A) (hg : Gl X x) (hm : X.mg x = some (.ref f)) (hk : PySem.W.keepIn X.K (.ref f) = true) (hb : Binds X.K fd ps ds) (hd : Vals dvs ds) (hx : Passes CX X E)
   (ha : PA X (e :: es) t) (hdb : (x == ("__debug__" : Str)) = false := by decide) (he : starEach (e :: es) X.env = (false, eval e X.env) :: starEach es X.env := by rfl) (hpl : (backTo pos (starEach es X.env)).any (·.1) = false := by rfl) :
   PE X (.Call (.Name x p) (e :: es) [] pos) (zpD sp dvs E t) := by
 intro pins s σ H Q I h
 refine wpAny_Call_Name_kw (zmy I hg hm ?_ hdb)
 refine PySem.W.callWith_K (h₀ := X.base) I.ok.mod.kin hk (thn (ha pos pins s σ H _ I h) fun us s1 ⟨vs, H1, I1, r, q⟩ => ⟨I1.kIn, ?_⟩) he hpl
 exact znQ F hr hb hd hx I1 r q
end
structure FnScope (N P : List Str) (sc : Scope) : Prop where
 kind : sc.kind = .function
 co : sc.isCoroutine = false
 gen : sc.isGenerator = false
 nd : N.Nodup
 pre : N.take P.length = P
 par : ∀ x ∈ P, sc.names.lookup x = some .local ∨ sc.names.lookup x = some .cell
 nofree : ∀ y ∈ sc.names, y.2 ≠ .free
theorem zgl {kindOf : Str→Option NameKind} {x : Str} : ∀ {binds : List (Str × Value)} {m : Str→Option Value}, (∀ v, (x, v) ∉ binds)→bindL kindOf binds m x = m x
 | [], _, _ => rfl
 | (n, v) :: r, m, h => by
   unfold bindL
   rw [zgl fun w hw => h w (List.mem_cons_of_mem _ hw)]
   split
   · have : x ≠ n := by rintro rfl; exact h v List.mem_cons_self
     simp [this]
   · rfl
theorem zgn {kindOf : Str→Option NameKind} {x : Str} : ∀ {binds : List (Str × Value)} {m : Str→Option Value}, (∀ v, (x, v) ∉ binds)→bindC kindOf binds m x = m x
 | [], _, _ => rfl
 | (n, v) :: r, m, h => by
   unfold bindC
   rw [zgn fun w hw => h w (List.mem_cons_of_mem _ hw)]
   split
   · rfl
   · have : x ≠ n := by rintro rfl; exact h v List.mem_cons_self
     simp [this]
theorem zgm {kindOf : Str→Option NameKind} {x : Str} {v : Value} : ∀ {P : List Str} {vs : List Value} {i : Nat} {m : Str→Option Value}, P.Nodup→P[i]? = some x→vs[i]? = some v→kindOf x = some .local →
   bindL kindOf (P.zip vs) m x = some v
 | [], _, _, _, _, h, _, _ => by simp at h
 | _ :: _, [], _, _, _, _, h, _ => by simp at h
 | p :: P, w :: vs, 0, m, nd, h1, h2, hk => by
   simp at h1 h2; subst h1; subst h2
   show bindL kindOf ((p, w) :: P.zip vs) m p = _
   unfold bindL
   rw [zgl fun v hv => (List.nodup_cons.mp nd).1 (List.of_mem_zip hv).1, if_pos hk]
   simp
 | p :: P, w :: vs, i + 1, m, nd, h1, h2, hk => by
   show bindL kindOf ((p, w) :: P.zip vs) m x = _
   unfold bindL
   exact zgm (i := i) (List.nodup_cons.mp nd).2 (by simpa using h1) (by simpa using h2) hk
theorem zgo {kindOf : Str→Option NameKind} {x : Str} {v : Value} : ∀ {P : List Str} {vs : List Value} {i : Nat} {m : Str→Option Value}, P.Nodup→P[i]? = some x→vs[i]? = some v→kindOf x ≠ some .local →
   bindC kindOf (P.zip vs) m x = some v
 | [], _, _, _, _, h, _, _ => by simp at h
 | _ :: _, [], _, _, _, _, h, _ => by simp at h
 | p :: P, w :: vs, 0, m, nd, h1, h2, hk => by
   simp at h1 h2; subst h1; subst h2
   show bindC kindOf ((p, w) :: P.zip vs) m p = _
   unfold bindC
   rw [zgn fun v hv => (List.nodup_cons.mp nd).1 (List.of_mem_zip hv).1, if_neg hk]
   simp
 | p :: P, w :: vs, i + 1, m, nd, h1, h2, hk => by
   show bindC kindOf ((p, w) :: P.zip vs) m x = _
   unfold bindC
   exact zgo (i := i) (List.nodup_cons.mp nd).2 (by simpa using h1) (by simpa using h2) hk
def start (N : List Str) (vs : List V) : St := vs.map some ++ List.replicate (N.length - vs.length) none
def cxOf (CX : CXT) (P : Program) (w : World) (K : PySem.W.Frag) (mg : Str→Option Value) (base : Heap) (N : List Str) (qual : Str) (scope : Scope) (f : Addr) (cd : Value) (A : Around) (outer : List Env) (s : Shared) (H : Hp) (E : XK) : Cx where
 prog := P
 w := w
 K := K
 mg := mg
 base := base
 A := A.deeper (envOfC qual scope s.heap.objs.size f cd)
 N := N
 s₀ := s
 H₀ := H
 env := envOfC qual scope s.heap.objs.size f cd
 outer := outer
 stack := envOfC qual scope s.heap.objs.size f cd :: outer
 ex := []
 calm := true
 fn := fun _ => true
 pn := []
 xe := fun e s' => wpAny (model P w) (A.deeper (envOfC qual scope s.heap.objs.size f cd)) (leaving (envOfC qual scope s.heap.objs.size f cd) e) (fun _ s'' => CX outer H s E e s'') (fun e' s'' => CX outer H s E e' s'') s'
theorem zh8 {sc : Scope} {n : Nat} {x : Str} (h : sc.names.lookup x = some .cell) : ∃ c, (cellsFrom n sc.names []).lookup x = some c := by
 have q := PySem.W.cellsFrom_some sc.names n [] (.inl h)
 exact Option.isSome_iff_exists.mp q
theorem zi9 {CX : CXT} {P : Program} {w : World} {K : PySem.W.Frag} {mg : Str→Option Value} {base : Heap} {N ps : List Str} {qual : Str} {scope : Scope} {f : Addr} {cd : Value} {A : Around} {outer : List Env} {s s1 : Shared} {H : Hp} {E : XK} {us : List Value} {vs : List V}
   (S : FnScope N ps scope) (hd : A.handled = none) (e0 : Env0 P w K mg base A outer s H) (hl : vs.length = ps.length) (r : Vals vs us)
   (x : InCallC s s.heap.objs.size (bindL (envOfC qual scope s.heap.objs.size f cd).kindOf (ps.zip us) fun _ => none) (cellsFrom (s.heap.objs.size + 1) scope.names []) (bindC (envOfC qual scope s.heap.objs.size f cd).kindOf (ps.zip us) fun _ => none) s1) :
   Inv (cxOf CX P w K mg base N qual scope f cd A outer s H E) [] (start N vs) H s1 := by
 have hpl : ps.length ≤ N.length := by have := congrArg List.length S.pre; rw [List.length_take] at this; omega
 obtain ⟨h1, tk, rfl, hk⟩ := x.done
 have noA : ∀ b : Addr, b ∉ (cxOf CX P w K mg base N qual scope f cd A outer s H E).ex := fun b z => absurd (show b ∈ ([] : List Addr) from z) (by simp)
 refine ⟨⟨e0.mod, S.kind, rfl, rfl, Nat.le_refl _, fun y z c h1 h2 => ?_, fun y hy => ?_, fun y c _ h => ?_, fun _ => hd, Around.frames_deeper e0.frames, .inr ⟨rfl, rfl⟩, fun b z => absurd z (noA b), e0.bs, e0.bsz, fun b _ _ => noA b, fun b z => absurd z (noA b), e0.funs, e0.frf⟩,
   rfl, e0.bare, Un.kept hk, ⟨_, x.toInCall.ns, fun i y v h1 h2 h3 => ?_⟩, fun y c h => ⟨_, x.cell y c h⟩, e0.hok.fresh (Nat.le_refl _), fun y c h => ?_, fun p hp => absurd (show p ∈ ([] : List (Addr × Obj)) from hp) (by simp), e0.hok.kept hk, ?_⟩
 · exact name_of_addr x.apart (PySem.mem_of_lookup h1) (PySem.mem_of_lookup h2)
 · have hy : scope.names.lookup y = some .cell ∨ scope.names.lookup y = some .free := hy
   rcases hy with hy | hy
   · exact zh8 hy
   · exact absurd rfl (S.nofree _ (PySem.mem_of_lookup hy))
 · exact Nat.le_of_lt (x.above y c (PySem.mem_of_lookup h))
 · have hi : i < vs.length := by
     unfold start at h2
     by_cases hi : i < vs.length
     · exact hi
     · rw [List.getElem?_append_right (by simpa using hi)] at h2
       rw [List.getElem?_replicate] at h2
       split at h2 <;> cases h2
   have ha : vs[i]? = some v := by
     unfold start at h2
     rw [List.getElem?_append_left (by simpa using hi), List.getElem?_map] at h2
     cases e : vs[i]? with
     | none => rw [e] at h2; cases h2
     | some a => rw [e] at h2; cases h2; rfl
   obtain ⟨u, hu, rv⟩ := r.get ha
   have hp : ps[i]? = some y := by
     rw [← S.pre, List.getElem?_take_of_lt (by omega)]; exact h1
   have ndP : ps.Nodup := by rw [← S.pre]; exact S.nd.sublist (List.take_sublist _ _)
   refine ⟨u, rv, ?_⟩
   rcases S.par y (List.mem_of_getElem? hp) with k | k
   · exact .inl ⟨k, zgm ndP hp hu k⟩
   · obtain ⟨c, e⟩ := zh8 (n := s.heap.objs.size + 1) k
     refine .inr ⟨.inl k, c, e, ?_⟩
     have q := x.cell y c e
     rw [zgo ndP hp hu (by show scope.names.lookup y ≠ _; rw [k]; decide)] at q
     exact q
 · exact e0.hok.fresh (Nat.le_of_lt (x.above y c (PySem.mem_of_lookup h)))
 · unfold start
   show _ = N.length
   rw [List.length_append, List.length_map, List.length_replicate]
   omega
theorem zqg {CX : CXT} {P : Program} {w : World} {K : PySem.W.Frag} {mg : Str→Option Value} {base : Heap} {k : Nat} {f : Addr} {name qual : Str} {params : Arguments} {body : List Stmt} {scope : Scope} {dV kV doc pm cdv ct oc : Value} {an od : Option Addr}
   {osl : Array (Option Value)} {N ps : List Str} {sp : Sp} (lk : K.lookup f = some ⟨oc, od, .func (PySem.W.fnOf name qual params body scope dV kV doc pm an cdv ct), osl⟩) (hcd : PySem.W.codeIn K cdv qual = true) (S : FnScope N ps scope)
   (len : ∀ vs H Q E, sp vs H Q E→vs.length = ps.length)
   (hbody : ∀ (A : Around) (outer : List Env) (s : Shared) (H : Hp) (vs : List V) (Q : VK) (E : XK), Room k (A.deeper (envOfC qual scope s.heap.objs.size f cdv))→sp vs H Q E →
     ∃ t, PSs (cxOf CX P w K mg base N qual scope f cdv A outer s H E) body t∧t { nx := fun _ H' => Q .non H', rt := Q } (start N vs) H) :
   FnOk P w K mg base CX (k + 1) f (PySem.W.fnOf name qual params body scope dV kV doc pm an cdv ct) ps sp := by
 refine ⟨len, fun A outer s H args us vs Q E hr e0 hb r hsp => ?_⟩
 have hl := len _ _ _ _ hsp
 have KX : K.In s.heap := e0.mod.kin.keeps fun b o e => (e0.bs b o e).1
 have lim : s.heap.NoLimit := e0.mod.nolimit.keeps fun b o e => (e0.bs b o e).1
 have hkind : ∀ y ∈ ps.zip us, scope.names.lookup y.1 = some .local ∨ (scope.names.lookup y.1 = some .cell∧((cellsFrom (s.heap.objs.size + 1) scope.names []).lookup y.1).isSome = true) := fun ⟨n, v⟩ hy => by
   rcases S.par n (List.of_mem_zip hy).1 with q | q
   · exact .inl q
   · exact .inr ⟨q, PySem.W.cellsFrom_some _ _ _ (.inl q)⟩
 refine codeAny_call_function hr.depth (KX _ _ lk) rfl S.co S.gen rfl (PySem.W.codeRec_of KX hcd) (hb _ _ _ _ ?_)
 refine wpAny_newFunctionEnv_cells S.kind hkind fun env he s1 x => ?_
 subst he
 refine ⟨lim.keeps x.toInCall.keep, codeAny_func ?_⟩
 obtain ⟨t, ht, hq⟩ := hbody A outer s H vs Q E (hr.deeper _) hsp
 have I : Inv (cxOf CX P w K mg base N qual scope f cdv A outer s H E) [] (start N vs) H s1 := zi9 S hr.hd e0 hl r x
 refine wpAny_mono (ht [] s1 (start N vs) H _ I hq) (fun fl s' hs => ?_) fun e s' hs => hs
 have fin : ∀ {σ' : St} {H' : Hp} {v : V} {u : Value}, Inv (cxOf CX P w K mg base N qual scope f cdv A outer s H E) [] σ' H' s'→RelV v u→Q v H'→CE outer P w H s Q u s' :=
   fun {σ' H' v u} J rv q => ⟨v, H', J.os, J.bare, J.base, J.hok, rv, q⟩
 cases fl with
 | ret u =>
   obtain ⟨v, σ', H', J, rv, q⟩ := hs
   exact fin J rv q
 | next =>
   obtain ⟨σ', H', J, q⟩ := hs
   exact fin (v := V.non) (u := Value.none) J rfl q
 | brk =>
   obtain ⟨_, _, _, q⟩ := hs
   exact False.elim q
 | cont =>
   obtain ⟨_, _, _, q⟩ := hs
   exact False.elim q
end L2
namespace L2
open PySem PySem.Spec PyProof.Rows
section
variable {X : Cx} {x : Str} {p pos : Pos} {e : Expr} {es : List Expr} {t : TA} {id T : String} {r : List V→Hp→VK→Prop}
def tCB (r : List V→Hp→VK→Prop) (t : TA) : TE := fun σ H Q => t σ H fun vs H1 => r vs H1 Q
theorem zkv (hc : zjZ X (.builtin id) r) (hg : Gl X x) (hm : X.mg x = none) (hv : bootBuiltins x = some (.builtin id)) (ha : PA X (e :: es) t) (hn : x ≠ "__name__" := by decide) (hdb : (x == ("__debug__" : Str)) = false := by decide)
   (he : starEach (e :: es) X.env = (false, eval e X.env) :: starEach es X.env := by rfl) (hpl : (backTo pos (starEach es X.env)).any (·.1) = false := by rfl) : PE X (.Call (.Name x p) (e :: es) [] pos) (tCB r t) := by
 intro pins s σ H Q I h
 refine wpAny_Call_Name_kw (zhD I hg hm hv ?_ hn hdb)
 exact PyProof.Rows.callWith_builtin1 (thn (ha pos pins s σ H _ I h) fun us s1 ⟨vs, H1, I1, r1, q1⟩ => hc pins s1 σ H1 vs us Q I1 r1 q1) he hpl
theorem ziN (hc : zjZ X (.type T) r) (hg : Gl X x) (hm : X.mg x = none) (hv : bootBuiltins x = some (.type T)) (ha : PA X (e :: es) t) (hn : x ≠ "__name__" := by decide) (hdb : (x == ("__debug__" : Str)) = false := by decide)
   (he : starEach (e :: es) X.env = (false, eval e X.env) :: starEach es X.env := by rfl) (hpl : (backTo pos (starEach es X.env)).any (·.1) = false := by rfl) : PE X (.Call (.Name x p) (e :: es) [] pos) (tCB r t) := by
 intro pins s σ H Q I h
 refine wpAny_Call_Name_kw (zhD I hg hm hv ?_ hn hdb)
 exact PyProof.Rows.callWith_type1 (thn (ha pos pins s σ H _ I h) fun us s1 ⟨vs, H1, I1, r1, q1⟩ => hc pins s1 σ H1 vs us Q I1 r1 q1) he hpl
end
end L2
namespace L2
open PySem PySem.Spec PyProof.Rows
section
variable {κ : Type} [DecidableEq κ]
def valV (kvs : List (κ × V)) (k : κ) : Option V := (kvs.find? fun kv => decide (kv.1 = k)).map (·.2)
def putK (kvs : List (κ × V)) (k : κ) (v : V) : List (κ × V) :=
 if (kvs.any fun kv => decide (kv.1 = k)) = true then kvs.map (fun kv => if kv.1 = k then (kv.1, v) else kv) else kvs ++ [(k, v)]
theorem zfa {p : κ × V} {r : List (κ × V)} {k : κ} (e : p.1 = k) : valV (p :: r) k = some p.2 := by simp [valV, List.find?_cons, e]
theorem zfb {p : κ × V} {r : List (κ × V)} {k : κ} (e : ¬ p.1 = k) : valV (p :: r) k = valV r k := by simp [valV, List.find?_cons, e]
theorem zgQ (k : κ) : ∀ kvs : List (κ × V), (kvs.any fun kv => decide (kv.1 = k)) = (valV kvs k).isSome
 | [] => rfl
 | p :: r => by
   rw [List.any_cons]
   by_cases e : p.1 = k
   · simp only [zfa e, decide_eq_true e, Bool.true_or, Option.isSome_some]
   · rw [zfb e, decide_eq_false e, Bool.false_or]; exact zgQ k r
theorem zcS (kvs : List (κ × V)) (k : κ) (v : V) : (putK kvs k v).length ≤ kvs.length + 1 := by
 unfold putK
 split
 · rw [List.length_map]; omega
 · rw [List.length_append, List.length_cons, List.length_nil]; omega
theorem RelO.isSome_eq {o : Option V} {u : Option Value} (r : RelO o u) : o.isSome = u.isSome := by
 cases o with
 | none => cases u with
   | none => rfl
   | some _ => exact (show False from r).elim
 | some _ => cases u with
   | none => exact (show False from r).elim
   | some _ => rfl
theorem RelO.getD {o : Option V} {u : Option Value} {d : V} {d' : Value} (r : RelO o u) (rd : RelV d d') : RelV (o.getD d) (u.getD d') := by
 cases o with
 | none => cases u with
   | none => exact rd
   | some _ => exact (show False from r).elim
 | some _ => cases u with
   | none => exact (show False from r).elim
   | some _ => exact r
theorem KV.val {kvs : List (κ × V)} {vs : List (κ × Value)} (r : KV kvs vs) (k : κ) : RelO (valV kvs k) (valueAt vs k) := by
 unfold KV at r
 induction r with
 | nil => exact True.intro
 | @cons p q ps qs h t ih =>
   obtain ⟨h1, h2⟩ := h
   by_cases e : p.1 = k
   · have e' : q.1 = k := h1.symm.trans e
     have b : valueAt (q :: qs) k = some q.2 := by simp [valueAt, List.find?_cons, e']
     rw [zfa e, b]; exact h2
   · have e' : ¬ q.1 = k := fun z => e (h1.trans z)
     have b : valueAt (q :: qs) k = valueAt qs k := by simp [valueAt, List.find?_cons, e']
     rw [zfb e, b]; exact ih
theorem KV.any {kvs : List (κ × V)} {vs : List (κ × Value)} (r : KV kvs vs) (k : κ) : (kvs.any fun kv => decide (kv.1 = k)) = vs.any fun kv => decide (kv.1 = k) := by
 unfold KV at r
 induction r with
 | nil => rfl
 | cons h t ih => rw [List.any_cons, List.any_cons, ih, h.1]
theorem KV.repl {kvs : List (κ × V)} {vs : List (κ × Value)} (r : KV kvs vs) (k : κ) {y : V} {u : Value} (ry : RelV y u) :
   KV (kvs.map fun kv => if kv.1 = k then (kv.1, y) else kv) (vs.map fun kv => if kv.1 = k then (kv.1, u) else kv) := by
 unfold KV at r ⊢
 induction r with
 | nil => exact .nil
 | @cons p q ps qs h t ih =>
   rw [List.map_cons, List.map_cons]
   refine .cons ?_ ih
   obtain ⟨h1, h2⟩ := h
   by_cases e : p.1 = k
   · rw [if_pos e, if_pos (h1.symm.trans e)]; exact ⟨h1, ry⟩
   · rw [if_neg e, if_neg (fun z => e (h1.trans z))]; exact ⟨h1, h2⟩
theorem KV.put {kvs : List (κ × V)} {vs : List (κ × Value)} (r : KV kvs vs) (k : κ) {y : V} {u : Value} (ry : RelV y u) : KV (putK kvs k y) (stored vs k u) := by
 unfold putK stored
 rw [r.any k]
 by_cases e : (vs.any fun kv => decide (kv.1 = k)) = true
 · rw [if_pos e, if_pos e]; exact r.repl k ry
 · rw [if_neg e, if_neg e]; exact Paired.snoc r ⟨rfl, ry⟩
theorem KV.length {kvs : List (κ × V)} {vs : List (κ × Value)} (r : KV kvs vs) : kvs.length = vs.length := Paired.length r
end
theorem zkR {P : Program} {w : World} {k : Key} {u : Value} (r : RelV (kV k) u) : (zaw P w).is k u = true := by
 cases k with
 | inl i => obtain ⟨t, e⟩ := (show ∃ t, u = Value.int i t from r); subst e; exact zgE P w i t
 | inr x => obtain ⟨t, e⟩ := (show ∃ t, u = Value.str x t from r); subst e; exact zgD P w x t
theorem zgd {P : Program} {w : World} : ∀ {ks : List Key} {us : List Value}, Vals (ks.map kV) us→ItemsAre (zaw P w) ks us
 | [], _, r => by rw [List.map_nil] at r; cases r; exact .nil
 | k :: ks, _, r => by
   rw [List.map_cons] at r
   cases r with
   | cons h t => exact .cons (zkR h) (zgd t)
abbrev KT (H : Hp) : List (List Key × V)→List (List Key × Addr × Value)→Prop := Paired fun p q => p.1 = q.1∧H q.2.1 = some (.tup (p.1.map kV))∧RelV p.2 q.2.2
theorem KT.val {H : Hp} {kvs : List (List Key × V)} {xs : List (List Key × Addr × Value)} (r : KT H kvs xs) (k : List Key) : RelO (valV kvs k) ((atKey xs k).map (·.2)) := by
 induction r with
 | nil => exact True.intro
 | @cons p q ps qs h t ih =>
   obtain ⟨h1, _, h2⟩ := h
   by_cases e : p.1 = k
   · have e' : q.1 = k := h1.symm.trans e
     have b : atKey (q :: qs) k = some q.2 := by simp [atKey, List.find?_cons, e']
     rw [zfa e, b]; exact h2
   · have e' : ¬ q.1 = k := fun z => e (h1.trans z)
     have b : atKey (q :: qs) k = atKey qs k := by simp [atKey, List.find?_cons, e']
     rw [zfb e, b]; exact ih
theorem KT.repl {H : Hp} {kvs : List (List Key × V)} {xs : List (List Key × Addr × Value)} (r : KT H kvs xs) (k : List Key) {y : V} {u : Value} (ry : RelV y u) :
   KT H (kvs.map fun kv => if kv.1 = k then (kv.1, y) else kv) (xs.map (putAt k u)) := by
 induction r with
 | nil => exact .nil
 | @cons p q ps qs h t ih =>
   rw [List.map_cons, List.map_cons]
   refine .cons ?_ ih
   obtain ⟨h1, h2, h3⟩ := h
   unfold putAt
   by_cases e : p.1 = k
   · rw [if_pos e, if_pos (h1.symm.trans e)]; exact ⟨h1, h2, ry⟩
   · rw [if_neg e, if_neg (fun z => e (h1.trans z))]; exact ⟨h1, h2, h3⟩
theorem KT.put {H : Hp} {kvs : List (List Key × V)} {xs : List (List Key × Addr × Value)} (r : KT H kvs xs) (k : List Key) {b : Addr} {y : V} {u : Value} (hb : H b = some (.tup (k.map kV))) (ry : RelV y u) :
   KT H (putK kvs k y) (storedH xs k b u) := by
 have e : (kvs.any fun kv => decide (kv.1 = k)) = (atKey xs k).isSome := by
   rw [zgQ, (r.val k).isSome_eq, Option.isSome_map]
 unfold putK storedH
 rw [e]
 by_cases q : (atKey xs k).isSome = true
 · rw [if_pos q, if_pos q]; exact r.repl k ry
 · rw [if_neg q, if_neg q]; exact Paired.snoc r ⟨rfl, hb, ry⟩
theorem KT.keeps {H H' : Hp} {kvs : List (List Key × V)} {xs : List (List Key × Addr × Value)} (r : KT H kvs xs) (ht : ∀ b ys, H b = some (.tup ys)→H' b = some (.tup ys)) : KT H' kvs xs :=
 Paired.mapP r fun _ _ z => ⟨z.1, ht _ _ z.2.1, z.2.2⟩
section
variable {P : Program} {w : World} {H : Hp} {h : Heap} {a : Addr}
theorem zpf {u : HO} (ok : HOk P w H h) (e : Rd H a u) : zc5 P w H h a u := e.ok ok
theorem zk4 {kvs : List (Key × V)} (ok : HOk P w H h) (e : Rd H a (.dK kvs)) : kvs.length ≤ sizeLine∧(a == sysModules) = false∧∃ vs, KV kvs vs∧h.DictOf (zaw P w) a vs :=
 show zc5 P w H h a (.dK kvs) from zpf ok e
theorem zqt {kvs : List (Key × V)} (ok : HOk P w H h) (e : H a = some (.dK kvs)) : kvs.length ≤ sizeLine∧(a == sysModules) = false∧∃ vs, KV kvs vs∧h.DictOf (zaw P w) a vs := zk4 ok (.inl e)
theorem zeV {ks : List Key} (ok : HOk P w H h) (e : H a = some (.tup (ks.map kV))) : (tupleKind (zaw P w)).is h ks a := by
 obtain ⟨_, its, r, o, h1, h2, _, n, h3⟩ := (show zc5 P w H h a (.tup (ks.map kV)) from ok a _ e)
 exact ⟨o, its.toArray, n, h1, h2, h3, by simpa using zgd r⟩
theorem zk1 {kvs : List (List Key × V)} (ok : HOk P w H h) (e : Rd H a (.dT kvs)) : kvs.length ≤ sizeLine∧(a == sysModules) = false ∧
   ∃ xs, KT H kvs xs∧h.DictOfH (tupleKind (zaw P w)) a xs := by
 obtain ⟨z, y, xs, r, o, es, ep, h1, h2, h3, h4, h5⟩ := (show zc5 P w H h a (.dT kvs) from zpf ok e)
 refine ⟨z, y, xs, r, o, es, ep, h1, h2, h3, h4, fun x hx => ?_, h5⟩
 have all : ∀ {l : List (List Key × V)} {m : List (List Key × Addr × Value)}, KT H l m→∀ x ∈ m, (tupleKind (zaw P w)).is h x.1 x.2.1 := by
   intro l m q
   induction q with
   | nil => intro x hx; exact nomatch hx
   | @cons p q ps qs hq t ih =>
     intro x hx
     rcases List.mem_cons.mp hx with e | hx
     · subst e
       exact zeV ok (by rw [← hq.1]; exact hq.2.1)
     · exact ih x hx
 exact all r x hx
theorem zps {kvs : List (List Key × V)} (ok : HOk P w H h) (e : H a = some (.dT kvs)) : kvs.length ≤ sizeLine∧(a == sysModules) = false ∧
   ∃ xs, KT H kvs xs∧h.DictOfH (tupleKind (zaw P w)) a xs := zk1 ok (.inl e)
end
def DGet (H : Hp) (a : Addr) (y : V) (r : Option V) : Prop :=
 (∃ kvs k, Rd H a (.dK kvs)∧y = kV k∧r = valV kvs k) ∨ ∃ kvs k b, Rd H a (.dT kvs)∧y = .ref b∧H b = some (.tup (k.map kV))∧r = valV kvs k
def DPut (H : Hp) (a : Addr) (y v : V) (H' : Hp) : Prop :=
 (∃ kvs k, H a = some (.dK kvs)∧y = kV k∧kvs.length < sizeLine∧H' = upd H a (.dK (putK kvs k v))) ∨
 ∃ kvs k b, H a = some (.dT kvs)∧y = .ref b∧H b = some (.tup (k.map kV))∧kvs.length < sizeLine∧H' = upd H a (.dT (putK kvs k v))
theorem DGet.k {H : Hp} {a : Addr} {kvs : List (Key × V)} {k : Key} (e : H a = some (.dK kvs)) : DGet H a (kV k) (valV kvs k) := .inl ⟨kvs, k, .inl e, rfl, rfl⟩
theorem DGet.t {H : Hp} {a b : Addr} {kvs : List (List Key × V)} {k : List Key} (e : H a = some (.dT kvs)) (eb : H b = some (.tup (k.map kV))) : DGet H a (.ref b) (valV kvs k) := .inr ⟨kvs, k, b, .inl e, rfl, eb, rfl⟩
theorem DPut.k {H : Hp} {a : Addr} {kvs : List (Key × V)} {k : Key} {v : V} (e : H a = some (.dK kvs)) (hl : kvs.length < sizeLine) : DPut H a (kV k) v (upd H a (.dK (putK kvs k v))) := .inl ⟨kvs, k, e, rfl, hl, rfl⟩
theorem DPut.t {H : Hp} {a b : Addr} {kvs : List (List Key × V)} {k : List Key} {v : V} (e : H a = some (.dT kvs)) (eb : H b = some (.tup (k.map kV))) (hl : kvs.length < sizeLine) :
   DPut H a (.ref b) v (upd H a (.dT (putK kvs k v))) := .inr ⟨kvs, k, b, e, rfl, eb, hl, rfl⟩
section
variable {X : Cx} {pins : List (Addr × Obj)} {σ : St} {H : Hp} {s : Shared} {a : Addr} {y v : V} {u r : Value} {o : Option V} {A : Around} {E : Value→Shared→Prop}
theorem Inv.big (I : Inv X pins σ H s) : sysModules < s.heap.objs.size := by
 have h : mainGlobals < s.heap.objs.size := (I.mod.glob.keeps I.bk).lt
 exact Nat.lt_trans (by decide) h
theorem zjf {Q : Value→Shared→Prop} (hu : A.units + 1 < cLine) (I : Inv X pins σ H s) (g : DGet H a y (some v)) (ry : RelV y u) (h : ∀ w' s', Inv X pins σ H s'→RelV v w'→Q w' s') :
   wpAny (model X.prog X.w) A (getItem (.ref a) u) Q E s := by
 rcases g with ⟨kvs, k, e, ey, l⟩ | ⟨kvs, k, b, e, ey, eb, l⟩
 · subst ey
   obtain ⟨z, hd, vs, rel, dd⟩ := zk4 I.hok e
   obtain ⟨w', hw, rw'⟩ := RelO.some_of (v := v) (o := valueAt vs k) (by rw [l]; exact rel.val k)
   exact wpAny_getItem_of (zkR ry) dd.mapOf hw (h w' _ (I.tok _) rw')
 · subst ey
   cases (show u = Value.ref b from ry)
   obtain ⟨z, hd, xs, rel, dd⟩ := zk1 I.hok e
   obtain ⟨w', hw, rw'⟩ := RelO.some_of (v := v) (o := (atKey xs k).map (·.2)) (by rw [l]; exact rel.val k)
   obtain ⟨p, hp, hp2⟩ := Option.map_eq_some_iff.mp hw
   refine wpAny_getItem_heap (tupleKind_room_in1 hu) (zeV I.hok eb) dd hp ?_
   rw [hp2]
   exact h w' _ (I.tok _) rw'
theorem d_in {Q : Value→Shared→Prop} (hu : A.units + 1 < cLine) (I : Inv X pins σ H s) (g : DGet H a y o) (ry : RelV y u) (h : ∀ s', Inv X pins σ H s'→Q (.bool o.isSome) s') :
   wpAny (model X.prog X.w) A (compareOp .In u (.ref a)) Q E s := by
 rcases g with ⟨kvs, k, e, ey, l⟩ | ⟨kvs, k, b, e, ey, eb, l⟩
 · subst ey
   obtain ⟨z, hd, vs, rel, dd⟩ := zk4 I.hok e
   refine wpAny_in_of (zkR ry) hd dd.mapOf ?_
   rw [← (rel.val k).isSome_eq, ← l]
   exact h _ (I.tok _)
 · subst ey
   cases (show u = Value.ref b from ry)
   obtain ⟨z, hd, xs, rel, dd⟩ := zk1 I.hok e
   refine wpAny_in_heap (tupleKind_room_in1 hu) (zeV I.hok eb) hd dd ?_
   have q := (rel.val k).isSome_eq
   rw [Option.isSome_map] at q
   rw [← q, ← l]
   exact h _ (I.tok _)
theorem zmP {Q : Value→Shared→Prop} (hu : A.units + 1 < cLine) (I : Inv X pins σ H s) (g : DGet H a y o) (ry : RelV y u) (h : ∀ s', Inv X pins σ H s'→Q (.bool (!o.isSome)) s') :
   wpAny (model X.prog X.w) A (compareOp .NotIn u (.ref a)) Q E s := by
 rcases g with ⟨kvs, k, e, ey, l⟩ | ⟨kvs, k, b, e, ey, eb, l⟩
 · subst ey
   obtain ⟨z, hd, vs, rel, dd⟩ := zk4 I.hok e
   refine wpAny_notIn_of (zkR ry) hd dd.mapOf ?_
   rw [← (rel.val k).isSome_eq, ← l]
   exact h _ (I.tok _)
 · subst ey
   cases (show u = Value.ref b from ry)
   obtain ⟨z, hd, xs, rel, dd⟩ := zk1 I.hok e
   refine wpAny_notIn_heap (tupleKind_room_in1 hu) (zeV I.hok eb) hd dd ?_
   have q := (rel.val k).isSome_eq
   rw [Option.isSome_map] at q
   rw [← q, ← l]
   exact h _ (I.tok _)
theorem zh2 {h' : Heap} {t' : Nat} {ob : HO} (I : Inv X pins σ H s) (mu : Mut (H a)) (hs : Heap.SameBut a s.heap h') (he : ∃ q, h'.get? a = some q) (new : zc5 X.prog X.w (upd H a ob) h' a ob) :
   Inv X pins σ (upd H a ob) { s with heap := h', toks := t' } :=
 I.write (x := a) (e := a) mu (.inl rfl) (fun b q hb z => (hs.2 b hb).trans z) he new
theorem zk5 {P : Program} {w : World} {H' : Hp} {h' : Heap} {kvs : List (Key × V)} {vs : List (Key × Value)} (z : kvs.length ≤ sizeLine) (hd : (a == sysModules) = false) (rel : KV kvs vs) (dd : h'.DictOf (zaw P w) a vs) :
   zc5 P w H' h' a (.dK kvs) := ⟨z, hd, vs, rel, dd⟩
theorem zje {H' : Hp} {Q : Unit→Shared→Prop} (hu : A.units + 1 < cLine) (I : Inv X pins σ H s) (g : DPut H a y v H') (ry : RelV y u) (rv : RelV v r) (h : ∀ s', Inv X pins σ H' s'→Q () s') :
   wpAny (model X.prog X.w) A (setItem (.ref a) u r) Q E s := by
 rcases g with ⟨kvs, k, e, ey, l, eH⟩ | ⟨kvs, k, b, e, ey, eb, l, eH⟩
 · subst ey eH
   obtain ⟨z, hd, vs, rel, dd⟩ := zqt I.hok e
   have hz : vs.length ≤ sizeLine := by rw [← rel.length]; exact z
   have hl : (putK kvs k v).length ≤ sizeLine := by have := zcS kvs k v; omega
   refine wpAny_setItem_pairs (hsz := hz) (zkR ry) dd fun h' dd' hs => h _ ?_
   have he : ∃ q, h'.get? a = some q := let ⟨q, _, _, hq, _⟩ := dd'; ⟨q, hq⟩
   exact zh2 I (by rw [e]; exact True.intro) hs he (zk5 hl hd (rel.put k rv) dd')
 · subst ey eH
   cases (show u = Value.ref b from ry)
   obtain ⟨z, hd, xs, rel, dd⟩ := zps I.hok e
   have hz : xs.length ≤ sizeLine := by rw [← Paired.length rel]; exact z
   have hl : (putK kvs k v).length ≤ sizeLine := by have := zcS kvs k v; omega
   refine wpAny_setItem_heap (hsz := hz) (tupleKind_room_in1 hu) (zeV I.hok eb) dd fun h' dd' hs => h _ ?_
   obtain ⟨q, es, ep, hq, h2, h3, h4, _, h5⟩ := dd'
   refine zh2 I (by rw [e]; exact True.intro) hs ⟨q, hq⟩ ⟨hl, hd, _, (rel.put k eb rv).keeps fun c ys ec => ?_, q, es, ep, hq, h2, h3, h4, h5⟩
   rw [zay (zne ec e (fun z => nomatch z))]
   exact ec
end
def NoSl (i : Expr) : Prop := ∀ ov iv, subscripted i false ov iv = operate [ov, iv] (getItem ov iv)
theorem zlF {prog : Program} {w : World} {A : Around} {E : Value→Shared→Prop} {s : Shared} {env : Env} {value slice : Expr} {pos : Pos} {T id : String} {Q : Value→Shared→Prop}
   (hl : typeLookup (.type T) "__getitem__" = pure (some (.builtin id))) (hs : NoSl slice)
   (h : wpAny (model prog w) A (eval value env) (fun o s₁ => wpAny (model prog w) A (eval slice env) (fun i s₂ => s₂.TypeIs o T∧wpAny (model prog w) A (getItem o i) Q E s₂) E s₁) E s) :
   wpAny (model prog w) A (eval (.Subscript value slice pos) env) Q E s := by
 refine Subscript_ (wpAny_mono h (fun o s₁ h₁ => wpAny_mono h₁ (fun i s₂ h₂ => ?_) fun _ _ x => x) fun _ _ x => x)
 obtain ⟨hT, h₂⟩ := h₂
 unfold subscriptTail
 refine wpAny_bind ?_
 rw [getitemInPython_of_ne hT.not_modules]
 refine wpAny_bind (wpAny_specialOf hT hl ?_)
 have fin : wpAny (model prog w) A (subscripted slice false o i) (fun r s₃ => wpAny (model prog w) A (letTemporaryGo value o r >>= fun _ => pure r) Q E s₃) E s₂ := by
   rw [hs o i]
   exact wpAny_operating (wpAny_mono h₂ (fun r s₃ h₃ => wpAny_bind (wpAny_letTemporaryGo (wpAny_pure h₃))) fun _ _ x => x)
 first
   | exact wpAny_pure (wpAny_bind fin)
   | exact wpAny_bind (wpAny_pure (wpAny_bind fin))
   | exact wpAny_bind fin
theorem zgG {X : Cx} {pins : List (Addr × Obj)} {σ : St} {H : Hp} {s : Shared} {a : Addr} {y : V} {o : Option V} (I : Inv X pins σ H s) (g : DGet H a y o) : s.TypeIs (.ref a) "dict" := by
 rcases g with ⟨kvs, k, e, _, _⟩ | ⟨kvs, k, b, e, _, _, _⟩
 · obtain ⟨_, _, vs, _, dd⟩ := zk4 I.hok e
   exact dd.typeIs
 · obtain ⟨_, _, xs, _, dd⟩ := zk1 I.hok e
   exact dd.typeIs
def zpB (td ty : TE) : TE := fun σ H Q => td σ H fun x H1 => ty σ H1 fun y H2 => ∃ a v, x = .ref a∧DGet H2 a y (some v)∧Q v H2
def tDIn (ty td : TE) : TE := fun σ H Q => ty σ H fun y H1 => td σ H1 fun x H2 => ∃ a o, x = .ref a∧DGet H2 a y o∧Q (.bl o.isSome) H2
def zlC (ty td : TE) : TE := fun σ H Q => ty σ H fun y H1 => td σ H1 fun x H2 => ∃ a o, x = .ref a∧DGet H2 a y o∧Q (.bl (!o.isSome)) H2
def zpI (td ty tv : TE) : TS := fun D σ H => tv σ H fun v H1 => td σ H1 fun x H2 => ty σ H2 fun y H3 => ∃ a H4, x = .ref a∧DPut H3 a y v H4∧D.nx σ H4
section
variable {X : Cx} {o i e value : Expr} {pos pos' tpos : Pos} {td ty tv : TE}
theorem zjG (hu : X.A.units + 1 < cLine) (ho : PE X o td) (hi : PE X i ty) (hs : NoSl i) : PE X (.Subscript o i pos) (zpB td ty) := by
 intro pins s σ H Q I h
 refine zlF PySem.F.slot_dict_getitem.lookup hs (thn (ho pins s σ H _ I h) fun u s1 ⟨x, H1, I1, rx, q1⟩ => thn (hi pins s1 σ H1 _ I1 q1) fun iv s2 ⟨y, H2, I2, ry, a, v, ex, g, q2⟩ => ?_)
 subst ex
 obtain rfl : u = Value.ref a := rx
 exact ⟨zgG I2 g, zjf hu I2 g ry fun w' s3 I3 rw' => ⟨v, H2, I3, rw', q2⟩⟩
theorem zoa (hu : X.A.units + 1 < cLine) (hi : PE X i ty) (ho : PE X o td) : PC X .In i o (tDIn ty td) := by
 intro pins s σ H Q I h
 refine thn (hi pins s σ H _ I h) fun iv s1 ⟨y, H1, I1, ry, q1⟩ => thn (ho pins s1 σ H1 _ I1 q1) fun u s2 ⟨x, H2, I2, rx, a, ov, ex, g, q2⟩ => ?_
 subst ex
 obtain rfl : u = Value.ref a := rx
 exact d_in hu I2 g ry fun s3 I3 => ⟨.bl ov.isSome, H2, I3, rfl, q2⟩
theorem ziO (hu : X.A.units + 1 < cLine) (hi : PE X i ty) (ho : PE X o td) : PC X .NotIn i o (zlC ty td) := by
 intro pins s σ H Q I h
 refine thn (hi pins s σ H _ I h) fun iv s1 ⟨y, H1, I1, ry, q1⟩ => thn (ho pins s1 σ H1 _ I1 q1) fun u s2 ⟨x, H2, I2, rx, a, ov, ex, g, q2⟩ => ?_
 subst ex
 obtain rfl : u = Value.ref a := rx
 exact zmP hu I2 g ry fun s3 I3 => ⟨.bl (!ov.isSome), H2, I3, rfl, q2⟩
theorem zl4 (hu : X.A.units + 1 < cLine) (ho : PE X o td) (hi : PE X i ty) (hv : PE X value tv) (hs : swapsWith value (some (.Subscript o i pos')) pos.line X.env = pure false) :
   PS X (.Assign [.Subscript o i pos'] value pos) (zpI td ty tv) := by
 intro pins s σ H D I h
 refine wpAny_Assign_Subscript (thn (hv pins s σ H _ I h) fun r s1 ⟨v, H1, I1, rv, q1⟩ => thn (ho pins s1 σ H1 _ I1 q1) fun u s2 ⟨x, H2, I2, rx, q2⟩ => thn (hi pins s2 σ H2 _ I2 q2) fun iv s3 ⟨y, H3, I3, ry, a, H4, ex, g, q3⟩ => ?_) hs
 subst ex
 obtain rfl : u = Value.ref a := rx
 exact zje hu I3 g ry rv fun s4 I4 => ⟨σ, H4, I4, q3⟩
end
theorem zk2 {P : Program} {w : World} {H : Hp} (h : Heap) (hb : sysModules < h.objs.size) : zc5 P w H (h.push { cls := .type "dict", data := .dict #[] }) h.objs.size (.dT []) :=
 ⟨Nat.zero_le _, beq_eq_false_iff_ne.mpr (Ne.symm (Nat.ne_of_lt hb)), [], .nil, _, #[], 0, Heap.get?_push_size _ rfl, ⟨rfl, rfl, rfl⟩, rfl, rfl, List.nodup_nil⟩
def znt : TE := fun _ H Q => ∀ p, H p = none→Q (.ref p) (upd H p (.dT []))
section
variable {X : Cx} {pos : Pos}
theorem zkt : PE X (.Dict [] [] pos) znt := fun pins s σ H Q I h =>
 wpAny_Dict_empty ⟨.ref s.heap.objs.size, _, I.laid (a := s.heap.objs.size) (o := .dT []) (t' := s.toks) (fun _ _ q => Heap.get?_push_of_some _ q) (Nat.le_refl _) (zk2 s.heap I.big), rfl, h _ (I.hok.fresh (Nat.le_refl _))⟩
end
def zdF (kvs more : List (Key × V)) : List (Key × V) := more.foldl (fun acc kv => putK acc kv.1 kv.2) kvs
theorem KV.merge : ∀ {more : List (Key × V)} {rs : List (Key × Value)} {kvs : List (Key × V)} {vs : List (Key × Value)}, KV more rs→KV kvs vs→KV (zdF kvs more) (merged vs rs) := by
 intro more rs kvs vs r
 unfold KV at r
 induction r generalizing kvs vs with
 | nil => intro q; exact q
 | @cons p q ps qs h t ih =>
   intro r0
   have e : KV (putK kvs p.1 p.2) (stored vs q.1 q.2) := by
     have := r0.put p.1 h.2
     rw [← h.1]; exact this
   exact ih e
theorem zb7 : ∀ (more kvs : List (Key × V)), (zdF kvs more).length ≤ kvs.length + more.length
 | [], kvs => by show kvs.length ≤ kvs.length + 0; omega
 | p :: r, kvs => by
   have h1 := zb7 r (putK kvs p.1 p.2)
   have h2 := zcS kvs p.1 p.2
   show (zdF (putK kvs p.1 p.2) r).length ≤ _
   rw [List.length_cons]; omega
structure M1 (X : Cx) (o : Expr) (m : Str) (apos : Pos) (e : Expr) (cpos : Pos) : Prop where
 base : attributeBase o m X.env (eval o X.env) = eval o X.env
 few : ((backTo cpos (starEach [e] X.env)).all (fun x => !x.1) && (backToKw cpos (keywordEach [] X.env)).all (fun x => x.1.isSome)
   && decide (([e] : List Expr).length + ([] : List Keyword).length + (if ([] : List Keyword).isEmpty then 0 else 1) < 30)) = true
 line : (apos.endLine == cpos.line) = true
 trees : backTo cpos (starEach [e] X.env) = [(false, eval e X.env)]
def IsD (H : Hp) (a : Addr) : Prop := (∃ kvs, Rd H a (.dK kvs)) ∨ ∃ kvs, Rd H a (.dT kvs)
theorem zkS {X : Cx} {pins : List (Addr × Obj)} {σ : St} {H : Hp} {s : Shared} {a : Addr} (I : Inv X pins σ H s) (d : IsD H a) :
   s.TypeIs (.ref a) "dict"∧(∀ b, Value.ref a = .ref b→∃ ob, s.heap.get? b = some ob∧ob.dict = none)∧(a == sysModules) = false := by
 rcases d with ⟨kvs, e⟩ | ⟨kvs, e⟩
 · obtain ⟨_, hd, vs, _, dd⟩ := zk4 I.hok e
   refine ⟨dd.typeIs, fun b q => ?_, hd⟩
   cases q
   obtain ⟨ob, _, _, h1, h2, _⟩ := dd
   exact ⟨ob, h1, h2.2.1⟩
 · obtain ⟨_, hd, xs, _, dd⟩ := zk1 I.hok e
   refine ⟨dd.typeIs, fun b q => ?_, hd⟩
   cases q
   obtain ⟨ob, _, _, h1, h2, _⟩ := dd
   exact ⟨ob, h1, h2.2.1⟩
section
variable {X : Cx} {pins : List (Addr × Obj)} {σ : St} {H : Hp} {s : Shared} {a : Addr} {y d : V} {u r : Value} {o : Option V} {A : Around} {E : Value→Shared→Prop}
theorem zoS {Q : Value→Shared→Prop} (hu : A.units + 1 < cLine) (I : Inv X pins σ H s) (g : DGet H a y o) (ry : RelV y u) (h : ∀ w' s', Inv X pins σ H s'→RelV (o.getD .non) w'→Q w' s') :
   wpAny (model X.prog X.w) A (call (.builtin "dict.get") [.ref a, u]) Q E s := by
 rcases g with ⟨kvs, k, e, ey, l⟩ | ⟨kvs, k, b, e, ey, eb, l⟩
 · subst ey
   obtain ⟨z, hd, vs, rel, dd⟩ := zk4 I.hok e
   refine call_meetsIn PySem.F.slot_dict_get dd.typeIs PySem.F.entry_dict_get (PySem.F.args_dict_get_2 _ _) (meets_dict_get (zaw X.prog X.w) a (zkR ry) hd) ⟨_, dd.mapOf, h _ _ (I.tok _) ?_⟩
   rw [l]
   exact (rel.val k).getD rfl
 · subst ey
   cases (show u = Value.ref b from ry)
   obtain ⟨z, hd, xs, rel, dd⟩ := zk1 I.hok e
   refine call_meetsIn PySem.F.slot_dict_get dd.typeIs PySem.F.entry_dict_get (PySem.F.args_dict_get_2 _ _) (meetsH_dict_get (tupleKind (zaw X.prog X.w)) a b hd) ⟨tupleKind_room_in1 hu, k, xs, zeV I.hok eb, dd, h _ _ (I.tok _) ?_⟩
   rw [l]
   exact (rel.val k).getD rfl
end
def znu (td ty : TE) : TE := fun σ H Q => td σ H fun x H1 => ∃ a, x = .ref a∧IsD H1 a∧ty σ H1 fun y H2 => ∃ o, DGet H2 a y o∧Q (o.getD .non) H2
section
variable {X : Cx} {o e f : Expr} {apos cpos : Pos} {td ty tx : TE}
theorem zku (hu : X.A.units + 1 < cLine) (ho : PE X o td) (he : PE X e ty) (m : M1 X o "get" apos e cpos) : PE X (.Call (.Attribute o "get" apos) [e] [] cpos) (znu td ty) := by
 intro pins s σ H Q I h
 refine wpAny_Call_method m.base m.few m.line PySem.F.plainAttrs_dict PySem.F.slot_dict_get PySem.F.type_dict_get (thn (ho pins s σ H _ I h) fun u s1 ⟨x, H1, I1, rx, a, ex, d, q1⟩ => ?_)
 subst ex
 obtain rfl : u = Value.ref a := rx
 obtain ⟨t1, t2, _⟩ := zkS I1 d
 refine ⟨t1, t2, ?_⟩
 rw [m.trees]
 refine Calls.callWith_builtin rfl (Calls.evalArgs_plain (Calls.spliced_cons (thn (he pins s1 σ H1 _ I1 q1) fun iv s2 ⟨y, H2, I2, ry, ov, g, q2⟩ => Calls.spliced_nil ?_)))
 exact zoS hu I2 g ry fun w' s3 I3 rw' => ⟨_, H2, I3, rw', q2⟩
end
end L2
namespace HT
open PySem PyProof.Rows
def lexLt : List Int→List Int→Bool
 | [], [] => false
 | [], _ :: _ => true
 | _ :: _, [] => false
 | x :: xs, y :: ys => if x = y then lexLt xs ys else decide (x < y)
theorem lexLt_cons (x y : Int) (xs ys : List Int) : lexLt (x :: xs) (y :: ys) = if x = y then lexLt xs ys else decide (x < y) := rfl
theorem lexLt_nil_nil : lexLt [] [] = false := rfl
theorem lexLt_nil_cons (y : Int) (ys : List Int) : lexLt [] (y :: ys) = true := rfl
theorem lexLt_cons_nil (x : Int) (xs : List Int) : lexLt (x :: xs) [] = false := rfl
section
open PySem.SeqAt
open PySem.AutoSeq1 (wpAny_loadPart')
open PySem.MeetsSeq PySem.MeetsSeq2 PySem.MeetsSeq3
end
section
variable {prog : Program} {w : World} {A : Around} {E : Value→Shared→Prop} {s : Shared}
theorem cat_tup {t b : Addr} {vs ws : List Value} {Q : Value→Shared→Prop} (ht : IsTup s.heap t vs.toArray) (hb : IsTup s.heap b ws.toArray) (hv : vs ≠ [])
   (h1 : ws = []→Q (.ref t) s) (h2 : ws ≠ []→Q (.ref s.heap.objs.size) { s with heap := s.heap.push { cls := .type "tuple", data := .seq (vs ++ ws).toArray } })
   (hsz : vs.length + ws.length ≤ sizeLine) : wpAny (model prog w) A (binaryOp .Add (.ref t) (.ref b)) Q E s := by
 obtain ⟨⟨cls, dd, data, sl⟩, ho, hc, n, hd⟩ := id ht
 obtain ⟨⟨cls2, dd2, data2, sl2⟩, ho2, hc2, n2, hd2⟩ := id hb
 simp only at hc hd hc2 hd2
 subst hc hd hc2 hd2
 have e : vs.toArray ++ ws.toArray = (vs ++ ws).toArray := by simp
 by_cases hw : ws = []
 · exact concat_meets ⟨_, ho, rfl⟩ ⟨_, ho2, rfl⟩ noFill_tuple_add seq_tuple_add PySem.F.slot_tuple_add PySem.F.entry_tuple_add (PySem.F.args_tuple_add_2 _ _)
     (tuple_addW1 t b vs.toArray ws.toArray n n2 dd dd2 sl sl2 (by simpa using hv) (by simp [hw])) ⟨ho, ho2, h1 hw⟩
 · refine concat_meets ⟨_, ho, rfl⟩ ⟨_, ho2, rfl⟩ noFill_tuple_add seq_tuple_add PySem.F.slot_tuple_add PySem.F.entry_tuple_add (PySem.F.args_tuple_add_2 _ _)
     (tuple_addW2 t b vs.toArray ws.toArray n n2 dd dd2 sl sl2 (by simpa using hv) (by simpa using hw) (by rw [List.size_toArray, List.size_toArray]; exact hsz)) ⟨ho, ho2, ?_⟩
   rw [e]
   exact h2 hw
def sIx (n d : Nat) : Option Int→Nat
 | none => d
 | some v => if v < 0 then (v + (n : Int)).toNat else min v.toNat n
theorem znP (n d : Nat) (hd : d ≤ n) (o : Option Int) : sIx n d o ≤ n := by
 cases o with
 | none => exact hd
 | some v =>
   show (if v < 0 then (v + (n : Int)).toNat else min v.toNat n) ≤ n
   by_cases hv : v < 0
   · rw [if_pos hv]; omega
   · rw [if_neg hv]; exact Nat.min_le_right _ _
theorem zjU (v : Int) (n d : Nat) : (if v < 0 then max (v + (n : Int)) 0 else min v (n : Int)) = ((sIx n d (some v) : Nat) : Int) := by
 show (if v < 0 then max (v + (n : Int)) 0 else min v (n : Int)) = (((if v < 0 then (v + (n : Int)).toNat else min v.toNat n) : Nat) : Int)
 by_cases hv : v < 0
 · simp only [if_pos hv]; omega
 · simp only [if_neg hv]; omega
theorem zig (lo hi : Option Int) (n : Nat) : Builtin.Slice.sliceAdjust lo hi 1 (n : Int) = (((sIx n 0 lo : Nat) : Int), ((sIx n n hi : Nat) : Int)) := by
 have h1 : ¬ ((1 : Int) < 0) := by omega
 unfold Builtin.Slice.sliceAdjust
 simp only [h1, if_false]
 refine Prod.ext ?_ ?_
 · cases lo with
   | none => rfl
   | some v => exact zjU v n 0
 · cases hi with
   | none => rfl
   | some v => exact zjU v n n
theorem zhi (i j : Nat) : Builtin.Slice.slicePlaces (i : Int) (j : Int) 1 = j - i := by
 unfold Builtin.Slice.slicePlaces
 have h1 : (1 : Int) > 0 := by omega
 simp only [h1, if_true, Int.ediv_one]
 split <;> omega
theorem slicePart_ {v : Value} {o : Option Int} {Q : Option Int→Shared→Prop} (p : IsPart v o) (h : Q o s) : wpAny (model prog w) A (Builtin.Slice.slicePartIndex v) Q E s := by
 cases p with
 | none => exact slicePart_none h
 | int i t => exact slicePart_int h
theorem zdj {sl : Addr} {vl vu : Value} {lo hi : Option Int} {n : Nat} {Q : Int × Int × Nat→Shared→Prop} (hs : s.heap.IsSliceOf sl vl vu .none) (pl : IsPart vl lo) (pu : IsPart vu hi)
   (h : Q (((sIx n 0 lo : Nat) : Int), 1, sIx n n hi - sIx n 0 lo) s) : wpAny (model prog w) A (Builtin.Slice.sliceApplied (.ref sl) (pure (n : Int))) Q E s := by
 obtain ⟨os, hos, hcs, hds⟩ := id hs
 unfold Builtin.Slice.sliceApplied Builtin.Slice.sliceFields
 refine wpAny_bind (wpAny_bind (wpAny_field hos hds (x := vl) rfl (wpAny_bind (wpAny_field hos hds (x := vu) rfl (wpAny_bind (wpAny_field hos hds (x := .none) rfl (wpAny_pure ?_)))))))
 refine wpAny_bind (slicePart_none ?_)
 show wpAny _ _ (if ((1 : Int) == 0) = true then _ else _) _ _ s
 rw [if_neg (by decide)]
 refine wpAny_bind (slicePart_ pl (wpAny_bind (slicePart_ pu (wpAny_bind (wpAny_pure ?_)))))
 show wpAny _ _ (match Builtin.Slice.sliceAdjust lo hi 1 (n : Int) with | (lo, hi) => pure (lo, (1 : Int), Builtin.Slice.slicePlaces lo hi 1)) _ _ s
 rw [zig lo hi n]
 show wpAny _ _ (pure (((sIx n 0 lo : Nat) : Int), (1 : Int), Builtin.Slice.slicePlaces ((sIx n 0 lo : Nat) : Int) ((sIx n n hi : Nat) : Int) 1)) _ _ s
 rw [zhi]
 exact wpAny_pure h
theorem zkp (xs : Array Value) (i k : Nat) : ((List.range k).filterMap fun (m : Nat) => xs[((i : Int) + (m : Int) * 1).toNat]?).toArray = ((xs.toList.drop i).take k).toArray := by
 have e : (fun (m : Nat) => xs[((i : Int) + (m : Int) * 1).toNat]?) = fun m => xs[i + m]? := by
   funext m
   have : ((i : Int) + (m : Int) * 1).toNat = i + m := by omega
   rw [this]
 rw [e]
 have := pick_run xs i k
 rw [List.filterMap_map] at this
 have e2 : ((fun x => xs[x]?) ∘ fun x => i + x) = fun m => xs[i + m]? := rfl
 rw [e2] at this
 rw [this]
theorem getItem_tuple_cut {t sl : Addr} {items : Array Value} {vl vu : Value} {lo hi : Option Int} {Q : Value→Shared→Prop} (ht : IsTup s.heap t items) (hs : s.heap.IsSliceOf sl vl vu .none) (pl : IsPart vl lo) (pu : IsPart vu hi)
   (hw : ¬ (sIx items.size 0 lo = 0∧sIx items.size items.size hi = items.size))
   (h : Q (.ref s.heap.objs.size) { s with heap := s.heap.push { cls := .type "tuple", data := .seq ((items.toList.drop (sIx items.size 0 lo)).take (sIx items.size items.size hi - sIx items.size 0 lo)).toArray } })
   (hsz : items.size ≤ sizeLine) : wpAny (model prog w) A (getItem (.ref t) (.ref sl)) Q E s := by
 have htake : sizeOk (.seq ((items.toList.drop (sIx items.size 0 lo)).take (sIx items.size items.size hi - sIx items.size 0 lo)).toArray) := by
   show ((items.toList.drop (sIx items.size 0 lo)).take (sIx items.size items.size hi - sIx items.size 0 lo)).toArray.size ≤ sizeLine
   rw [List.size_toArray, List.length_take, List.length_drop, Array.length_toList]
   omega
 have hj : sIx items.size items.size hi ≤ items.size := znP _ _ (Nat.le_refl _) hi
 obtain ⟨os, hos, hcs, hds⟩ := id hs
 have hTs : s.TypeIs (.ref sl) "slice" := ⟨os, hos, hcs⟩
 unfold getItem
 try with_reducible refine wpAny_holding ?_
 first | refine wpAny_bind (wpAny_pure ?_) | skip
 refine wpAny_bind (wpAny_sequenceKey ht.typeIs (by decide) ?_)
 refine wpAny_bind (wpAny_callSpecial?_slot (name := Str.ofString "__getitem__") ht.typeIs PyProof.Rows.slot_tuple_getitem
   (wpAny_call_entry PyProof.Rows.slot_tuple_getitem ht.typeIs entry_tuple_getitem ?_ (args_tuple_getitem _ _)))
 show wpAny _ _ (Builtin.Tuple.tupleItemsOf (.ref t) >>= _) _ _ s
 refine wpAny_bind (tupleItemsOf_ ht ?_)
 refine wpAny_bind (wpAny_typeOf hTs ?_)
 rw [if_pos (by decide)]
 refine wpAny_bind (zdj hs pl pu ?_)
 have hno : ¬ ((((sIx items.size 0 lo : Nat) : Int) == 0 && (1 : Int) == 1 && (sIx items.size items.size hi - sIx items.size 0 lo) == items.size) = true) := by
   intro q
   rw [Bool.and_eq_true, Bool.and_eq_true] at q
   have q1 : ((sIx items.size 0 lo : Nat) : Int) = 0 := eq_of_beq q.1.1
   have q2 : sIx items.size items.size hi - sIx items.size 0 lo = items.size := eq_of_beq q.2
   exact hw ⟨by omega, by omega⟩
 show wpAny _ _ (if (((sIx items.size 0 lo : Nat) : Int) == 0 && (1 : Int) == 1 && (sIx items.size items.size hi - sIx items.size 0 lo) == items.size) = true then _ else _) _ _ s
 rw [if_neg hno, zkp]
 first
   | exact wpAny_bind (m := Builtin.Tuple.tupleExact _) (wpAny_newObj_type (wpAny_pure ⟨_, rfl, wpAny_pure h⟩) htake)
   | exact wpAny_bind (m := Builtin.Tuple.tupleExact _) (wpAny_newObj_type (wpAny_bind (wpAny_pure (wpAny_pure ⟨_, rfl, wpAny_pure h⟩))) htake)
   | exact wpAny_bind (wpAny_bind (m := Builtin.Tuple.tupleExact _) (wpAny_newObj_type (wpAny_pure (wpAny_pure ⟨_, rfl, wpAny_pure h⟩)) htake))
   | exact wpAny_bind (wpAny_bind (m := Builtin.Tuple.tupleExact _) (wpAny_newObj_type (wpAny_pure ⟨_, rfl, wpAny_pure h⟩) htake))
end
end HT
namespace L2
open PySem PySem.Spec PyProof.Rows
abbrev TO := St→Hp→(Option Int→Hp→Prop)→Prop
def PO (X : Cx) (e : Option Expr) (t : TO) : Prop :=
 ∀ (pins : List (Addr × Obj)) (s : Shared) (σ : St) (H : Hp) (Q : Option Int→Hp→Prop), Inv X pins σ H s→t σ H Q →
   wpAny (model X.prog X.w) X.A (evalPart e X.env) (fun u s' => ∃ o H', Inv X pins σ H' s'∧IsPart u o∧Q o H') X.xe s
def zlB : TO := fun _ H Q => Q none H
def zpy (t : TE) : TO := fun σ H Q => t σ H fun x H1 => ∃ i, x = .int i∧Q (some i) H1
section
variable {X : Cx} {e : Expr} {te : TE} {lo hi : Option Expr} {tl th : TO} {pos p2 : Pos}
theorem zl6 : PO X none zlB := by
 intro pins s σ H Q I h
 rw [evalPart_none]
 exact wpAny_pure ⟨none, H, I, .none, h⟩
theorem zjF (h : PE X e te) : PO X (some e) (zpy te) := by
 intro pins s σ H Q I hw
 rw [evalPart_some]
 refine thn (h pins s σ H _ I hw) fun u s1 ⟨x, H1, I1, r1, q1⟩ => ?_
 obtain ⟨i, rfl, q⟩ := q1
 obtain ⟨t, rfl⟩ := r1
 exact ⟨some i, H1, I1, .int i t, q⟩
def SlR (X : Cx) (r : V→Option Int→Option Int→Hp→VK→Prop) : Prop :=
 ∀ (pins : List (Addr × Obj)) (s : Shared) (σ : St) (H : Hp) (x : V) (v vl vu : Value) (lo hi : Option Int) (sl : Addr) (Q : VK), Inv X pins σ H s→RelV x v→s.heap.IsSliceOf sl vl vu .none→IsPart vl lo→IsPart vu hi→r x lo hi H Q →
   ∃ T id, typeLookup (.type T) "__getitem__" = pure (some (.builtin id))∧s.TypeIs v T∧wpAny (model X.prog X.w) X.A (getItem v (.ref sl)) (EP X pins σ Q) X.xe s
def tSl (r : V→Option Int→Option Int→Hp→VK→Prop) (te : TE) (tl th : TO) : TE := fun σ H Q => te σ H fun x H1 => tl σ H1 fun l H2 => th σ H2 fun u H3 => r x l u H3 Q
theorem zfr {r : V→Option Int→Option Int→Hp→VK→Prop} (hr : SlR X r) (he : PE X e te) (hl : PO X lo tl) (hu : PO X hi th) : PE X (.Subscript e (.Slice lo hi none p2) pos) (tSl r te tl th) := by
 intro pins s σ H Q I h
 refine Subscript_ (thn (he pins s σ H _ I h) fun v s1 ⟨x, H1, I1, r1, q1⟩ => ?_)
 refine wpAny_Slice (thn (hl pins s1 σ H1 _ I1 q1) fun vl s2 ⟨l, H2, I2, pl, q2⟩ => thn (hu pins s2 σ H2 _ I2 q2) fun vu s3 ⟨u, H3, I3, pu, q3⟩ => ?_)
 rw [evalPart_none]
 refine wpAny_pure ?_
 have I4 : Inv X pins σ H3 { s3 with heap := s3.heap.push { cls := .type "slice", data := .fields #[vl, vu, .none] } } := I3.kept (t' := s3.toks) fun b ob q => Heap.get?_push_of_some _ q
 obtain ⟨T, id, hT, ht, hg⟩ := hr pins { s3 with heap := s3.heap.push { cls := .type "slice", data := .fields #[vl, vu, .none] } } σ H3 x v vl vu l u s3.heap.objs.size Q I4 r1 (Heap.IsSliceOf.new ..) pl pu q3
 show wpAny (model X.prog X.w) X.A (subscriptTail e (.Slice lo hi none p2) v (.ref s3.heap.objs.size)) (EP X pins σ Q) X.xe { s3 with heap := s3.heap.push { cls := .type "slice", data := .fields #[vl, vu, .none] } }
 exact tail_any (ops := [.ref s3.heap.objs.size, v]) ht hT hg (by with_unfolding_all rfl)
def cutV (xs : List V) (lo hi : Option Int) : List V := (xs.drop (HT.sIx xs.length 0 lo)).take (HT.sIx xs.length xs.length hi - HT.sIx xs.length 0 lo)
theorem zdT (xs : List V) (lo hi : Option Int) : (cutV xs lo hi).length ≤ xs.length := by
 unfold cutV
 rw [List.length_take, List.length_drop]
 omega
def rSlT (K : PySem.W.Frag) : V→Option Int→Option Int→Hp→VK→Prop := fun x lo hi H Q => ∃ a xs, x = .ref a∧SqT K H a xs ∧
 ¬ (HT.sIx xs.length 0 lo = 0∧HT.sIx xs.length xs.length hi = xs.length)∧∀ p, H p = none→Q (.ref p) (upd H p (.tup (cutV xs lo hi)))
theorem znA : SlR X (rSlT X.K) := by
 intro pins s σ H x v vl vu lo hi sl Q I rx hs pl pu h
 obtain ⟨a, xs, rfl, hx, hw, q⟩ := h
 cases rx
 obtain ⟨its, r, ht, hz⟩ := I.tuple hx
 have hlen : its.toArray.size = xs.length := by rw [List.size_toArray]; exact r.length.symm
 refine ⟨"tuple", _, PyProof.Rows.slot_tuple_getitem.lookup, ht.typeIs, ?_⟩
 refine HT.getItem_tuple_cut ht hs pl pu (by rw [hlen]; exact hw) ?_ (by rw [hlen]; exact hz)
 rw [hlen]
 refine ⟨.ref s.heap.objs.size, _, I.laid (t' := s.toks) (o := .tup (cutV xs lo hi)) (fun b ob q => Heap.get?_push_of_some _ q) (Nat.le_refl _) ?_, rfl, q _ (I.hok.fresh (Nat.le_refl _))⟩
 exact ⟨Nat.le_trans (zdT xs lo hi) hz, _, (r.drop (HT.sIx xs.length 0 lo)).take (HT.sIx xs.length xs.length hi - HT.sIx xs.length 0 lo), zcv.new _ _⟩
def zpL (K : PySem.W.Frag) : R2 := fun x y H Q => ∃ a b xs ys, x = .ref a∧y = .ref b∧SqT K H a xs∧SqT K H b ys∧xs ≠ []∧xs.length + ys.length ≤ sizeLine ∧
 (ys = []→Q (.ref a) H)∧(ys ≠ []→∀ p, H p = none→Q (.ref p) (upd H p (.tup (xs ++ ys))))
theorem Vals.nil_iff {xs : List V} {us : List Value} (r : Vals xs us) : us = [] ↔ xs = [] := by
 cases r with
 | nil => simp
 | cons _ _ => simp
theorem zmj : OpR X (binaryOp .Add) (zpL X.K) := by
 intro pins s σ H x y v u Q I rx ry h
 obtain ⟨a, b, xs, ys, rfl, rfl, ha, hb, hx, hz, q1, q2⟩ := h
 cases rx
 cases ry
 obtain ⟨its, r1, p1, _⟩ := I.tuple ha
 obtain ⟨its2, r2, p2, _⟩ := I.tuple hb
 refine HT.cat_tup p1 p2 (fun z => hx (r1.nil_iff.mp z)) (fun z => ⟨.ref a, H, I, rfl, q1 (r2.nil_iff.mp z)⟩) (fun z => ?_) (by rw [← r1.length, ← r2.length]; exact hz)
 refine ⟨.ref s.heap.objs.size, _, I.laid (t' := s.toks) (o := .tup (xs ++ ys)) (fun b ob q => Heap.get?_push_of_some _ q) (Nat.le_refl _) ?_, rfl, q2 (fun w => z (r2.nil_iff.mpr w)) _ (I.hok.fresh (Nat.le_refl _))⟩
 exact ⟨by rw [List.length_append]; exact hz, _, r1.append r2, zcv.new _ _⟩
end
end L2
namespace L2
open PySem PySem.Spec PyProof.Rows
def ixN (n : Nat) (i : Int) : Option Nat := if 0 ≤ i then (if i < n then some i.toNat else none) else if -(n : Int) ≤ i then some (i + n).toNat else none
def atI {α : Type} (xs : List α) (i : Int) : Option α := (ixN xs.length i).bind fun j => xs[j]?
theorem zjN {n : Nat} {i : Int} {j : Nat} (h : ixN n i = some j) : seqIndex? i n = some j∧j < n∧-(n : Int) ≤ i∧i < n := by
 unfold ixN at h
 by_cases h0 : 0 ≤ i
 · rw [if_pos h0] at h
   by_cases h1 : i < n
   · rw [if_pos h1] at h
     have e : i.toNat = j := Option.some.inj h
     exact ⟨by rw [seqIndex_of h0 h1, e], by omega, by omega, h1⟩
   · rw [if_neg h1] at h; cases h
 · rw [if_neg h0] at h
   by_cases h1 : -(n : Int) ≤ i
   · rw [if_pos h1] at h
     have e : (i + n).toNat = j := Option.some.inj h
     exact ⟨by rw [seqIndex_neg (by omega) h1, e], by omega, h1, by omega⟩
   · rw [if_neg h1] at h; cases h
theorem zif {α : Type} {xs : List α} {i : Int} {v : α} (h : atI xs i = some v) : ∃ j, seqIndex? i xs.length = some j∧xs[j]? = some v∧j < xs.length∧-(xs.length : Int) ≤ i∧i < xs.length := by
 unfold atI at h
 cases e : ixN xs.length i with
 | none => rw [e] at h; cases h
 | some j =>
   rw [e] at h
   obtain ⟨h1, h2, h3, h4⟩ := zjN e
   exact ⟨j, h1, h, h2, h3, h4⟩
def zii (b : Expr) : Prop := ∀ o i, subscripted b false o i = operate [o, i] (getItem o i)
def IxR (X : Cx) (r : R2) : Prop :=
 ∀ (value slice : Expr) (pins : List (Addr × Obj)) (s : Shared) (σ : St) (H : Hp) (x y : V) (v u : Value) (Q : VK), Inv X pins σ H s→RelV x v→RelV y u→r x y H Q →
   subscripted slice false v u = operate [v, u] (getItem v u)→wpAny (model X.prog X.w) X.A (subscriptTail value slice v u) (EP X pins σ Q) X.xe s
def MtR (X : Cx) (id : String) (r : V→List V→Hp→VK→Prop) : Prop :=
 ∀ (pins : List (Addr × Obj)) (s : Shared) (σ : St) (H : Hp) (x : V) (xs : List V) (v : Value) (us : List Value) (Q : VK), Inv X pins σ H s→RelV x v→Vals xs us→r x xs H Q →
   wpAny (model X.prog X.w) X.A (call (.builtin id) (v :: us)) (EP X pins σ Q) X.xe s
section
variable {X : Cx} {a b : Expr} {ta tb : TE} {pos : Pos}
theorem zpP {r : R2} (hr : IxR X r) (ha : PE X a ta) (hb : PE X b tb) (hs : zii b) : PE X (.Subscript a b pos) (tOp r ta tb) := by
 intro pins s σ H Q I h
 exact Subscript_ (binT ha hb I h fun v u s2 x y H2 I2 rx ry q => hr a b pins s2 σ H2 x y v u Q I2 rx ry q (hs _ _))
def rIxL (K : PySem.W.Frag) : R2 := fun x y H Q => ∃ p xs i v, x = .ref p∧y = .int i∧SqL K H p xs∧atI xs i = some v∧Q v H
def rIxT (K : PySem.W.Frag) : R2 := fun x y H Q => ∃ p xs i v, x = .ref p∧y = .int i∧SqT K H p xs∧atI xs i = some v∧Q v H
def rIxS : R2 := fun x y H Q => ∃ z i c, x = .str z∧y = .int i∧z.length ≤ sizeLine∧atI z.cps.toList i = some c∧Q (.str ⟨#[c]⟩) H
theorem zjM : IxR X (rIxL X.K) := by
 intro value slice pins s σ H x y v u Q I rx ry h hs
 obtain ⟨p, xs, i, z, rfl, rfl, hq, he, q⟩ := h
 cases rx
 obtain ⟨t, rfl⟩ := ry
 obtain ⟨its, r, pl, hz⟩ := I.list hq
 obtain ⟨j, h1, h2, h3, h4, h5⟩ := zif he
 obtain ⟨w, ew, rw'⟩ := r.get h2
 have hl := r.length
 have hn := zfB
 have fin : EP X pins σ Q w s := ⟨z, H, I, rw', q⟩
 by_cases h0 : 0 ≤ i
 · have hj : i.toNat = j := by
     rw [seqIndex_of h0 h5] at h1
     exact Option.some.inj h1
   exact item_listR pl.isList h0 (by omega) (by rw [hj]; simpa using ew) fin hs
 · have hj : (i + (its.toArray.size : Int)).toNat = j := by
     rw [seqIndex_neg (by omega) h4] at h1
     rw [List.size_toArray, ← hl]
     exact Option.some.inj h1
   exact subscriptTail_builtinR (x := w) pl.isList.typeIs slot_list_getitem.lookup
     (wpAny_getItem_list_neg (Q := fun r s' => r = w∧EP X pins σ Q r s') pl.isList (by omega) (by rw [List.size_toArray] <;> omega) (by omega) (by rw [hj]; simpa using ew) ⟨rfl, fin⟩) hs
theorem za2 : IxR X (rIxT X.K) := by
 intro value slice pins s σ H x y v u Q I rx ry h hs
 obtain ⟨p, xs, i, z, rfl, rfl, hq, he, q⟩ := h
 cases rx
 obtain ⟨t, rfl⟩ := ry
 obtain ⟨its, r, pl, hz⟩ := I.tuple hq
 obtain ⟨j, h1, h2, h3, h4, h5⟩ := zif he
 obtain ⟨w, ew, rw'⟩ := r.get h2
 have hl := r.length
 have hn := zfB
 have fin : EP X pins σ Q w s := ⟨z, H, I, rw', q⟩
 exact subscriptTail_builtinR (x := w) pl.typeIs slot_tuple_getitem.lookup
   (getItem_tuple (j := j) (Q := fun r s' => r = w∧EP X pins σ Q r s') pl (by omega) (by omega) (by rw [List.size_toArray, ← hl]; exact h1) (by simpa using ew) ⟨rfl, fin⟩) hs
theorem zhI : IxR X rIxS := by
 intro value slice pins s σ H x y v u Q I rx ry h hs
 obtain ⟨z, i, c, rfl, rfl, hz, he, q⟩ := h
 obtain ⟨t, rfl⟩ := rx
 obtain ⟨t', rfl⟩ := ry
 obtain ⟨j, h1, h2, h3, h4, h5⟩ := zif he
 have hl : z.cps.toList.length = z.length := by simp [Str.length]
 rw [hl] at h1 h4 h5
 have hn := zfB
 exact tail_any (typeIs_str s z t) slot_str_getitem.lookup (getItem_str (c := c) (by
   have e1 : decide (i < -(2 ^ 63 : Int)) = false := decide_eq_false (by omega)
   have e2 : decide (i ≥ 2 ^ 63) = false := decide_eq_false (by omega)
   rw [e1, e2, Bool.or_false]) (by rw [h1]; simpa using h2) ⟨.str ⟨#[c]⟩, H, I.tok _, ⟨_, rfl⟩, q⟩) hs
theorem zhz (its : List Value) (n j : Nat) (u : Value) : Obj.mapSeq (·.setIfInBounds j u) { cls := .type "list", data := .seq its.toArray n } = { cls := .type "list", data := .seq (its.set j u).toArray n } := by
 simp [Obj.mapSeq]
theorem Inv.lst {pins : List (Addr × Obj)} {σ : St} {H : Hp} {s : Shared} {p : Addr} {xs : List V} (I : Inv X pins σ H s) (h : H p = some (.lst xs)) :
   ∃ (its : List Value) (n : Nat), Vals xs its∧s.heap.get? p = some { cls := .type "list", data := .seq its.toArray n }∧xs.length ≤ sizeLine := by
 obtain ⟨z, its, n, r, e⟩ := I.hok p _ h
 exact ⟨its, n, r, e, z⟩
theorem Inv.lstUpd {pins : List (Addr × Obj)} {σ : St} {H : Hp} {s : Shared} {p : Addr} {xs ys : List V} {its its' : List Value} {n n' : Nat} {f : Obj→Obj} (I : Inv X pins σ H s) (h : H p = some (.lst xs))
   (ho : s.heap.get? p = some { cls := .type "list", data := .seq its.toArray n }) (hf : f { cls := .type "list", data := .seq its.toArray n } = { cls := .type "list", data := .seq its'.toArray n' }) (r : Vals ys its') (hz : ys.length ≤ sizeLine) (t : Nat) :
   Inv X pins σ (upd H p (.lst ys)) { s with heap := s.heap.update p f, toks := t } := by
 have e : (s.heap.update p f).get? p = some { cls := .type "list", data := .seq its'.toArray n' } := by
   rw [Heap.get?_update_self f ho (by rw [hf] <;> rfl), hf]
 refine I.write (x := p) (e := p) (by rw [h]; trivial) (.inl rfl) (fun b u hb q => (Heap.get?_update_other _ _ (Ne.symm hb)).trans q) ⟨_, e⟩ ?_
 exact ⟨hz, its', n', r, e⟩
def zpK : V→V→V→Hp→(Hp→Prop)→Prop := fun o i v H Q => ∃ p xs k j, o = .ref p∧i = .int k∧H p = some (.lst xs)∧ixN xs.length k = some j∧Q (upd H p (.lst (xs.set j v)))
theorem set_list : PSet X zpK := by
 intro pins s σ H o i v ov iv u Q I ro ri rv h
 obtain ⟨p, xs, k, j, rfl, rfl, hp, hj, q⟩ := h
 cases ro
 obtain ⟨t, rfl⟩ := ri
 obtain ⟨its, n, r, ho, hz⟩ := I.lst hp
 obtain ⟨h1, h2, h3, h4⟩ := zjN hj
 have hl := r.length
 have hn := zfB
 have I' : Inv X pins σ (upd H p (.lst (xs.set j v))) { s with heap := s.heap.update p (Obj.mapSeq (·.setIfInBounds j u)) } :=
   I.lstUpd hp ho (zhz its n j u) (r.set rv j) (by rw [List.length_set]; exact hz) s.toks
 by_cases h0 : 0 ≤ k
 · have hk : k.toNat = j := by
     rw [seqIndex_of h0 h4] at h1
     exact Option.some.inj h1
   exact PySem.W.ki_setAt ho h0 (by omega) (by rw [List.size_toArray, ← hl]; exact h4) (by rw [hk]; exact ⟨_, I', q⟩)
 · have hk : (k + (its.toArray.size : Int)).toNat = j := by
     rw [seqIndex_neg (by omega) h3] at h1
     rw [List.size_toArray, ← hl]
     exact Option.some.inj h1
   exact PySem.W.ki_setBack ho (by omega) (by rw [List.size_toArray, ← hl]; exact h3) (by omega) (by rw [hk]; exact ⟨_, I', q⟩)
theorem zfh (lo hi : Option Int) (n : Nat) : (sliceBounds lo hi none n).1 = ((HT.sIx n 0 lo : Nat) : Int)∧(sliceBounds lo hi none n).2.1 = ((HT.sIx n n hi : Nat) : Int)∧(sliceBounds lo hi none n).2.2 = 1 := by
 refine ⟨?_, ?_, rfl⟩
 · cases lo with
   | none => simp [sliceBounds, HT.sIx]
   | some i =>
     simp only [sliceBounds, HT.sIx, Option.getD_none, show (1 : Int) > 0 by decide, if_true]
     by_cases h : i < 0
     · simp only [h, if_true] <;> omega
     · simp only [h, if_false] <;> omega
 · cases hi with
   | none => simp [sliceBounds, HT.sIx]
   | some i =>
     simp only [sliceBounds, HT.sIx, Option.getD_none, show (1 : Int) > 0 by decide, if_true]
     by_cases h : i < 0
     · simp only [h, if_true] <;> omega
     · simp only [h, if_false] <;> omega
theorem zeC (its : List Value) (lo hi : Option Int) : slicePick its.toArray lo hi none = ((its.drop (HT.sIx its.length 0 lo)).take (HT.sIx its.length its.length hi - HT.sIx its.length 0 lo)).toArray := by
 obtain ⟨h1, h2, h3⟩ := zfh lo hi its.toArray.size
 unfold slicePick
 rw [h1, h2, h3]
 simp only [sliceRange_one, pick_run, List.size_toArray] <;> rfl
def rSlL (K : PySem.W.Frag) : V→Option Int→Option Int→Hp→VK→Prop := fun x lo hi H Q => ∃ a xs, x = .ref a∧SqL K H a xs∧∀ p, H p = none→Q (.ref p) (upd H p (.lst (cutV xs lo hi)))
theorem zjw : SlR X (rSlL X.K) := by
 intro pins s σ H x v vl vu lo hi sl Q I rx hs pl pu h
 obtain ⟨a, xs, rfl, hx, q⟩ := h
 cases rx
 obtain ⟨its, r, ht, hz⟩ := I.list hx
 have hlen := r.length
 refine ⟨"list", _, slot_list_getitem.lookup, ht.isList.typeIs, ?_⟩
 refine wpAny_getItem_list_slice ht.isList hs pl pu .none (by simp) ?_ (by rw [List.size_toArray] <;> omega)
 rw [zeC, ← hlen]
 refine ⟨.ref s.heap.objs.size, _, I.laid (t' := s.toks) (o := .lst (cutV xs lo hi)) (fun b ob q => Heap.get?_push_of_some _ q) (Nat.le_refl _) ?_, rfl, q _ (I.hok.fresh (Nat.le_refl _))⟩
 exact ⟨Nat.le_trans (zdT xs lo hi) hz, _, 0, (r.drop (HT.sIx xs.length 0 lo)).take (HT.sIx xs.length xs.length hi - HT.sIx xs.length 0 lo), Heap.get?_push_size _ rfl⟩
theorem zct : zjZ X (.builtin "len") (fun xs H Q => ∃ p ys, xs = [.ref p]∧(SqL X.K H p ys ∨ SqT X.K H p ys)∧Q (.int ys.length) H) := by
 intro pins s σ H xs us Q I r h
 obtain ⟨p, ys, rfl, hq, q⟩ := h
 obtain ⟨u, rfl, rx⟩ := vals1 r
 cases rx
 have hn := zfB
 rcases hq with hq | hq
 · obtain ⟨its, r', pl, hz⟩ := I.list hq
   have hlen := r'.length
   exact Calls.call_len_list pl.isList (by simp only [List.size_toArray] <;> omega) ⟨.int ys.length, H, I.tok _, ⟨s.toks + 1, by rw [List.size_toArray, hlen]⟩, q⟩
 · obtain ⟨its, r', pl, hz⟩ := I.tuple hq
   have hlen := r'.length
   exact len_tuple pl (by simp only [List.size_toArray] <;> omega) ⟨.int ys.length, H, I.tok _, ⟨s.toks + 1, by rw [List.size_toArray, hlen]⟩, q⟩
theorem zfH : zjZ X (.builtin "len") (fun xs H Q => ∃ z, xs = [.str z]∧z.length ≤ sizeLine∧Q (.int z.length) H) := by
 intro pins s σ H xs us Q I r h
 obtain ⟨z, rfl, hz, q⟩ := h
 obtain ⟨u, rfl, t, rfl⟩ := vals1 r
 have hn := zfB
 exact len_str (by omega) ⟨.int z.length, H, I.tok _, ⟨_, rfl⟩, q⟩
theorem zc3 : zjZ X (.type "tuple") (fun xs H Q => ∃ p ys, xs = [.ref p]∧((SqL X.K H p ys∧∀ l, H l = none→Q (.ref l) (upd H l (.tup ys))) ∨ (SqT X.K H p ys∧Q (.ref p) H))) := by
 intro pins s σ H xs us Q I r h
 obtain ⟨p, ys, rfl, h⟩ := h
 obtain ⟨u, rfl, rx⟩ := vals1 r
 cases rx
 rcases h with ⟨hq, q⟩ | ⟨hq, q⟩
 · obtain ⟨its, r', pl, hz⟩ := I.list hq
   have hlen := r'.length
   refine call_tuple_list pl.isList (fun h' kp => ?_) (by simp only [List.size_toArray] <;> omega)
   have I1 : Inv X pins σ H { s with heap := h' } := I.kept (t' := s.toks) kp
   have I2 : Inv X pins σ (upd H h'.objs.size (.tup ys)) { s with heap := h'.push { cls := .type "tuple", data := .seq its.toArray } } :=
     I1.laid (t' := s.toks) (fun b o e => Heap.get?_push_of_some _ e) (Nat.le_refl _) (show zc5 X.prog X.w _ _ _ (.tup ys) from ⟨hz, its, r', zcv.new _ _⟩)
   exact ⟨.ref h'.objs.size, _, I2, rfl, q _ (I1.hok.fresh (Nat.le_refl _))⟩
 · obtain ⟨its, r', pl, hz⟩ := I.tuple hq
   exact call_tuple_same pl ⟨.ref p, H, I, rfl, q⟩
def tyV (K : PySem.W.Frag) (T : String) (x : V) (H : Hp) : Prop := match x with
 | .str _ => T = "str"
 | .int _ => T = "int"
 | .ref p => (T = "list"∧∃ xs, SqL K H p xs) ∨ (T = "tuple"∧∃ o, K.lookup p = some o∧o.cls = .type "tuple"∧o.dict = none) ∨
     (T = "dict"∧((∃ kvs, H p = some (.dK kvs)) ∨ ∃ kvs, H p = some (.dT kvs))) ∨ (T = "set"∧∃ S n, H p = some (.set S n))
 | _ => False
theorem znp {pins : List (Addr × Obj)} {σ : St} {H : Hp} {s : Shared} {T : String} {x : V} {v : Value} (I : Inv X pins σ H s) (r : RelV x v) (ty : tyV X.K T x H) :
   s.TypeIs v T∧∀ a, v = .ref a→∃ ob, s.heap.get? a = some ob∧ob.dict = none := by
 cases x with
 | str z =>
   obtain ⟨t, rfl⟩ := r
   cases (show T = "str" from ty)
   exact ⟨typeIs_str s z t, fun _ e => nomatch e⟩
 | int i =>
   obtain ⟨t, rfl⟩ := r
   cases (show T = "int" from ty)
   exact ⟨typeIs_int s i t, fun _ e => nomatch e⟩
 | ref p =>
   cases r
   rcases ty with ⟨rfl, xs, hq⟩ | ⟨rfl, o, hk, hc, hd⟩ | ⟨rfl, hk⟩ | ⟨rfl, S, n, hk⟩
   · obtain ⟨its, _, pl, _⟩ := I.list hq
     refine ⟨pl.isList.typeIs, fun a e => ?_⟩
     cases e
     obtain ⟨o, n, e, c, hd, _⟩ := pl
     exact ⟨o, e, hd⟩
   · refine ⟨⟨o, I.kIn p o hk, hc⟩, fun a e => ?_⟩
     cases e
     exact ⟨o, I.kIn _ o hk, hd⟩
   · have z : ∃ o, s.heap.get? p = some o∧o.ExactDict := by
       rcases hk with ⟨kvs, hk⟩ | ⟨kvs, hk⟩
       · obtain ⟨_, _, _, _, o, _, _, e, ex, _⟩ := I.hok p _ hk
         exact ⟨o, e, ex⟩
       · obtain ⟨_, _, _, _, o, _, _, e, ex, _⟩ := I.hok p _ hk
         exact ⟨o, e, ex⟩
     obtain ⟨o, e, ex⟩ := z
     refine ⟨⟨o, e, ex.1⟩, fun a e2 => ?_⟩
     cases e2
     exact ⟨o, e, ex.2.1⟩
   · obtain ⟨o, _, _, _, e, ex, _⟩ := I.hok p _ hk
     refine ⟨⟨o, e, ex.1⟩, fun a e2 => ?_⟩
     cases e2
     exact ⟨o, e, ex.2.1⟩
 | _ => exact False.elim ty
def tBM (K : PySem.W.Frag) (T : String) (r : V→List V→Hp→VK→Prop) (to : TE) (t : TA) : TE := fun σ H Q => to σ H fun x H1 => tyV K T x H1∧t σ H1 fun xs H2 => r x xs H2 Q
variable {o e : Expr} {es : List Expr} {to : TE} {t : TA} {name : Str} {apos cpos : Pos} {T id : String} {r : V→List V→Hp→VK→Prop}
theorem zph (pa : PlainAttrs T) (slot : Slot T name id) (hty : typeOf (.builtin id) = pure (.type "method_descriptor")) (hm : MtR X id r) (ho : PE X o to) (ha : PA X (e :: es) t)
   (hbase : attributeBase o name X.env (eval o X.env) = eval o X.env := by rfl)
   (hfew : ((backTo cpos (starEach (e :: es) X.env)).all (fun x => !x.1) && (backToKw cpos (keywordEach [] X.env)).all (fun x => x.1.isSome)
     && decide ((e :: es).length + ([] : List Keyword).length + (if ([] : List Keyword).isEmpty then 0 else 1) < 30)) = true := by rfl)
   (hline : (apos.endLine == cpos.line) = true := by rfl) (hs : starEach (e :: es) X.env = (false, eval e X.env) :: starEach es X.env := by rfl) (hplain : (backTo cpos (starEach es X.env)).any (·.1) = false := by rfl) :
   PE X (.Call (.Attribute o name apos) (e :: es) [] cpos) (tBM X.K T r to t) := by
 intro pins s σ H Q I h
 refine wpAny_Call_method_late hbase hfew hline rfl (thn (ho pins s σ H _ I h) fun v s1 ⟨x, H1, I1, r1, ty, q1⟩ => ?_)
 obtain ⟨h1, h2⟩ := znp I1 r1 ty
 refine ⟨T, id, pa, slot, hty, h1, h2, ?_⟩
 have hA := ha cpos pins s1 σ H1 _ I1 q1
 rw [hs] at hA ⊢
 refine Calls.callWith_builtin (by show (false || (backTo cpos (starEach es X.env)).any (·.1)) = false; rw [hplain] <;> rfl) (Calls.evalArgs_plain ?_)
 exact thn hA fun us s2 ⟨vs, H2, I2, r2, q2⟩ => hm pins s2 σ H2 x vs v us Q I2 r1 r2 q2
end
end L2
namespace L2
open PySem PySem.Spec PyProof.Rows
def MtM (X : Cx) (id : String) (r : V→List V→Hp→VK→Prop) : Prop :=
 ∀ (pins : List (Addr × Obj)) (s : Shared) (σ : St) (H : Hp) (x : V) (xs : List V) (v : Value) (us : List Value) (Q : VK), Inv X pins σ H s→RelV x v→Vals xs us→r x xs H Q →
   wpAny (model X.prog X.w) X.A (call (.builtin id) (v :: us)) (EP X pins σ Q) X.xe s
theorem Vals.one : ∀ {x : V} {us : List Value}, Vals [x] us→∃ u, us = [u]∧RelV x u
 | _, _, .cons r .nil => ⟨_, rfl, r⟩
theorem Vals.two : ∀ {x y : V} {us : List Value}, Vals [x, y] us→∃ u v, us = [u, v]∧RelV x u∧RelV y v
 | _, _, _, .cons r (.cons q .nil) => ⟨_, _, rfl, r, q⟩
section
variable {X : Cx} {pins : List (Addr × Obj)} {σ : St} {H : Hp} {s : Shared} {l b : Addr} {xs ys zs : List V}
theorem Inv.lset {its its' : List Value} {n : Nat} {f : Array Value→Array Value} {t' : Nat} (I : Inv X pins σ H s) (hH : H l = some (.lst xs))
   (e : s.heap.get? l = some { cls := .type "list", data := .seq its.toArray n }) (hf : f its.toArray = its'.toArray) (hv : Vals ys its') (hz : ys.length ≤ sizeLine) :
   Inv X pins σ (upd H l (.lst ys)) { s with heap := s.heap.update l (Obj.mapSeq f), toks := t' } := by
 have q := PySem.IsL.update e f
 rw [hf] at q
 refine I.write (x := l) (e := l) (by rw [hH]; exact trivial) (.inl rfl) (fun b' u hb hu => (Heap.get?_update_other s.heap (Obj.mapSeq f) (Ne.symm hb)).trans hu) ⟨_, q⟩ ?_
 exact ⟨hz, its', _, hv, q⟩
theorem Inv.lnew {its : List Value} {t' : Nat} (I : Inv X pins σ H s) (hv : Vals ys its) (hz : ys.length ≤ sizeLine) :
   Inv X pins σ (upd H s.heap.objs.size (.lst ys)) { s with heap := s.heap.push { cls := .type "list", data := .seq its.toArray }, toks := t' } :=
 I.laid (fun _ _ q => Heap.get?_push_of_some _ q) (Nat.le_refl _) ⟨hz, its, 0, hv, Heap.get?_push_size _ rfl⟩
theorem Inv.fresh (I : Inv X pins σ H s) : H s.heap.objs.size = none := I.hok.fresh (Nat.le_refl _)
theorem Inv.lstM (I : Inv X pins σ H s) (hH : H l = some (.lst xs)) : xs.length ≤ sizeLine∧∃ (its : List Value) (n : Nat), Vals xs its∧xs.length = its.length∧s.heap.get? l = some { cls := .type "list", data := .seq its.toArray n } := by
 obtain ⟨z, its, n, r, e⟩ := I.hok l _ hH
 exact ⟨z, its, n, r, r.length, e⟩
theorem zkB {n : Nat} (h : n ≤ sizeLine) : Builtin.List.listTooLong n = false := by
 unfold Builtin.List.listTooLong
 exact decide_eq_false (by omega)
end
section
variable {X : Cx}
def zlY : V→List V→Hp→VK→Prop := fun x vs H Q => ∃ l xs y, x = .ref l∧vs = [y]∧H l = some (.lst xs)∧xs.length < sizeLine∧Q .non (upd H l (.lst (xs ++ [y])))
theorem zf7 : MtM X "list.append" zlY := by
 intro pins s σ H x vs v us Q I rx rv h
 obtain ⟨l, xs, y, rfl, rfl, hH, hz, q⟩ := h
 cases rx
 obtain ⟨u, rfl, ru⟩ := rv.one
 obtain ⟨z, its, n, r, hl, e⟩ := I.lstM hH
 refine call_meets F.slot_list_append ⟨_, e, rfl⟩ F.entry_list_append (F.args_list_append_2 _ _) (PySem.list_append l its.toArray n u (by rw [List.size_toArray]; omega)) ⟨e, ?_⟩
 refine ⟨.non, _, I.lset (its' := its ++ [u]) hH e (by simp) (r.append (.cons ru .nil)) ?_, rfl, q⟩
 rw [List.length_append, List.length_singleton]
 omega
def zlX : V→List V→Hp→VK→Prop := fun x vs H Q => ∃ l b xs zs, x = .ref l∧vs = [.ref b]∧H l = some (.lst xs)∧H b = some (.lst zs)∧xs.length + zs.length ≤ sizeLine∧Q .non (upd H l (.lst (xs ++ zs)))
theorem ziX : MtM X "list.extend" zlX := by
 intro pins s σ H x vs v us Q I rx rv h
 obtain ⟨l, b, xs, zs, rfl, rfl, hH, hB, hz, q⟩ := h
 cases rx
 obtain ⟨u, rfl, ru⟩ := rv.one
 cases ru
 obtain ⟨z, its, n, r, hl, e⟩ := I.lstM hH
 obtain ⟨z2, its2, n2, r2, hl2, e2⟩ := I.lstM hB
 have hsz : its.toArray.size + its2.toArray.size ≤ sizeLine := by rw [List.size_toArray, List.size_toArray]; omega
 have hlong : ¬ (!its.toArray.isEmpty && Builtin.List.listTooLong (its.toArray.size + its2.toArray.size)) = true := by
   rw [zkB hsz, Bool.and_false]
   exact Bool.false_ne_true
 refine call_meets F.slot_list_extend ⟨_, e, rfl⟩ F.entry_list_extend (F.args_list_extend_2 _ _)
   (AutoSeq1.list_extend_list_list_0 l its.toArray n b its2.toArray n2 hlong (by rw [List.size_toArray]; omega) (by omega)) ⟨e, e2, ?_⟩
 refine ⟨.non, _, I.lset (its' := its ++ its2) hH e (by simp) (r.append r2) ?_, rfl, q⟩
 rw [List.length_append]
 omega
def rCat : R2 := fun x y H Q => ∃ l b xs zs, x = .ref l∧y = .ref b∧H l = some (.lst xs)∧H b = some (.lst zs)∧xs.length + zs.length ≤ sizeLine∧∀ p, H p = none→Q (.ref p) (upd H p (.lst (xs ++ zs)))
theorem zol : OpR X (binaryOp .Add) rCat := by
 intro pins s σ H x y v u Q I rx ry h
 obtain ⟨l, b, xs, zs, rfl, rfl, hH, hB, hz, q⟩ := h
 cases rx
 cases ry
 obtain ⟨z, its, n, r, hl, e⟩ := I.lstM hH
 obtain ⟨z2, its2, n2, r2, hl2, e2⟩ := I.lstM hB
 refine PySem.P.add_list e e2 ?_ (by rw [List.size_toArray, List.size_toArray]; omega)
 have ea : its.toArray ++ its2.toArray = (its ++ its2).toArray := by simp
 rw [ea]
 exact ⟨.ref _, _, I.lnew (t' := s.toks) (r.append r2) (by rw [List.length_append]; omega), rfl, q _ I.fresh⟩
end
section
variable {prog : Program} {w : World} {A : Around} {E : Value→Shared→Prop} {s : Shared}
set_option maxRecDepth 100000 in
end
end L2
namespace Att
open PySem PySem.W PySem.Calls PyProof.Rows
theorem zdG {P : Params} {h : Heap} : ∀ (ns : List Int) (vs : List Value), WellAll P h vs (ns.map WData.int)→IntsAre vs ns := by
 intro ns
 induction ns with
 | nil =>
   intro vs w
   rw [List.map_nil] at w
   cases w
   exact .nil
 | cons n ns ih =>
   intro vs w
   rw [List.map_cons] at w
   cases w with
   | cons a b =>
     cases a
     exact .cons _ _ (ih _ b)
theorem ziE {l : OpenLaw} {n : Nat} (hn : l.most = some n) {P : Params} {h : Heap} {args : List WData} {vals : List Value}
   (hpre : l.row.toRowW.claim.pre args = true) (hwl : WellAll P h vals args) :
   ∃ a vs ns, vals = [Value.ref a]∧args = [WData.list (ns.map WData.int)]∧h.get? a = some { cls := .type "list", data := .seq vs.toArray }∧IntsAre vs ns∧ns.length ≤ n := by
 have hsh : WShape.hasAll [] args [.list .int] = true := (pre_splitW hpre).1
 have hc : l.pre.holds [] { args := args } = true := (pre_splitW hpre).2
 obtain ⟨d, r, rfl, h1, h2⟩ := hasAllW_cons hsh
 obtain rfl := hasAllW_nil h2
 obtain ⟨xs, rfl, h3⟩ := hasW_list h1
 obtain ⟨ns, rfl⟩ := items_int h3
 have hlen : ns.length ≤ n := by
   unfold OpenLaw.pre at hc
   have h4 : (WTm.not (.lt (.lit (.int (n : Int))) (.len (.arg 0)))).holds [] { args := [.list (ns.map .int)] } = true := by
     have h4 := (holds_andW hc).1
     rw [hn] at h4
     exact h4
   have h5 := condW_of h4 (w_not (w_lt w_lit (w_len_list (w_arg rfl))))
   rw [List.length_map] at h5
   refine Nat.le_of_not_lt fun q => ?_
   have q' : (n : Int) < ((ns.length : Nat) : Int) := by omega
   first
     | (rw [decide_eq_true q'] at h5; exact absurd h5 (by decide))
     | (simp at h5; omega)
 cases hwl with
 | cons w1 w2 =>
   cases w2
   cases w1 with
   | list ho hall => exact ⟨_, _, ns, rfl, rfl, ho, zdG ns _ hall, hlen⟩
theorem ziK (l : OpenLaw) (args : List WData) : l.row.toRowW.claim.post args (.bool true) args = true :=
 postW_of (r := l.row.toRowW) (X := (true == true))
   (show WShape.has [] (.bool true) .bool = true by first | rfl | decide | simp [WShape.has, WShape.arms, WShape.armsAll])
   (show (WTm.eq .res (.lit (.bool true))).value [] { args := args, res := some (.bool true), after := args } = some (.bool (true == true)) from w_eq_bool (w_res rfl) w_lit) rfl
theorem attach_call {l : OpenLaw} {n : Nat} {q : Program} {loose : List Str} {XP : (Str→Option Value)→Heap→Prop} {YP : World→Heap→Prop} {d : DefRec}
   (hn : l.most = some n) (hdf : d.params.defaults = [])
   (call : ∀ (w : World) (s₀ s₁ : Shared) (mg mb : Str→Option Value) (fa : Addr) (o : Obj) (pm cd doc : Value) (a : Addr) (vs : List Value) (ns : List Int),
     Ground q loose [] XP w s₀ mg mb s₁.heap→YP w s₁.heap →
     s₁.heap.get? fa = some o→o.data = .func (docDef d.name d.params d.body d.scope pm cd doc)→s₁.heap.CodeRec cd d.name→mg d.name = some (.ref fa) →
     s₁.heap.get? a = some { cls := .type "list", data := .seq vs.toArray }→IntsAre vs ns→ns.length ≤ n→s₁.gens = #[] →
     codeAny (model l.prog w) callerA (.call (.ref fa) ⟨[.ref a], []⟩) (fun r s' => r = .ok (.ret (.bool true))∧OldK s₁.heap s'.heap∧s'.os = s₁.os∧AllBare s'.gens) s₁) :
   WalkO q loose XP YP l.row.toRowW d [] (fun f vs => PySem.call f vs) := by
 intro w s₀ s₁ mg mb G Y fa o pm cd doc dV kV ho hd hcd hD hmg hg args vals as hpre hlay hrd hwl hlo
 obtain rfl : dV = .none := Dflts.none hD hdf
 obtain rfl : kV = .none := Dflts.noKw hD
 obtain ⟨a, vs, ns, rfl, rfl, hobj, hints, hlen⟩ := ziE hn hpre hwl
 refine enter_call (codeAny_mono (call w s₀ s₁ mg mb fa o pm cd doc a vs ns G Y ho (fd_plain hd) hcd hmg hobj hints hlen hg) fun r s' hq => ?_)
 obtain ⟨rfl, h2, h3, h4⟩ := hq
 exact ⟨.inl ⟨.bool true, .bool true, [], rfl, fun _ => rfl, .bool true, ziK l _, fun _ => ⟨List.Pairwise.nil, fun _ hm => (nomatch hm)⟩⟩, h2, h3, h4⟩
end Att
namespace L2
open PySem PySem.Spec PyProof.Rows
theorem zfK : ∀ {vs : List Value} {ns : List Int}, IntsAre vs ns→Vals (ns.map V.int) vs
 | _, _, .nil => .nil
 | _, _, .cons n t h => .cons ⟨t, rfl⟩ (zfK h)
def Only (H : Hp) : Prop := ∀ b, H b = none ∨ ∃ o xs, H b = some (.frz o (.lst xs))
theorem zkP {P : Program} {w : World} {K : PySem.W.Frag} {mg mb : Str→Option Value} {CX : CXT} {k : Nat} {fa a : Addr} {fd : FuncData} {x : Str} {sp : Sp} {s₁ : Shared} {vs : List Value} {ns : List Int}
   (KX : K.In s₁.heap) (hns : s₁.heap.Ns mainGlobals mg) (hb : s₁.heap.Ns builtinsNs mb) (hbb : ∀ x : Str, x ≠ "__name__"→mb x = bootBuiltins x) (hlim : s₁.heap.NoLimit) (hg : s₁.gens = #[])
   (ha : s₁.heap.get? a = some { cls := .type "list", data := .seq vs.toArray }) (hi : IntsAre vs ns) (hl : ns.length ≤ sizeLine) (hr : Room k callerA)
   (F : ∀ base : Heap, K.In base→base.Ns mainGlobals mg→FnOk P w K mg base CX k fa fd [x] sp) (hbind : ∀ (s : Shared) (u : Value), BindsTo s fd ⟨[u], []⟩ [(x, u)])
   (hsp : ∀ H : Hp, Only H→SqL K H a (ns.map V.int)→sp [.ref a] H (fun v _ => v = .bl true) fun _ _ _ => False)
   (hCX : ∀ H e s', CX [] H s₁ (fun _ _ _ => False) e s'→False) :
   codeAny (model P w) callerA (.call (.ref fa) ⟨[.ref a], []⟩) (fun r s' => r = .ok (.ret (.bool true))∧OldK s₁.heap s'.heap∧s'.os = s₁.os∧AllBare s'.gens) s₁ := by
 have rv := zfK hi
 have lenV := hi.length
 -- from an abstract heap in which nothing but the script may be tracked
 have core : ∀ H : Hp, Only H→SqL K H a (ns.map V.int)→HOk P w H s₁.heap→(∀ b, H b ≠ none→b = a)→(H a ≠ none→K.lookup a = none) →
     codeAny (model P w) callerA (.call (.ref fa) ⟨[.ref a], []⟩) (fun r s' => r = .ok (.ret (.bool true))∧OldK s₁.heap s'.heap∧s'.os = s₁.os∧AllBare s'.gens) s₁ := by
   intro H hO hS hok hA hK
   have base_of : ∀ {b : Addr} {o : Obj}, s₁.heap.get? b = some o→H b = none→(hidT s₁.heap H).get? b = some o := fun e n => zkV e n
   have noA : ∀ {b : Addr} {o : Obj} {es : Array DictEntry} {ep : Nat}, s₁.heap.get? b = some o→o.data = .dict es ep→H b = none := fun {b o es ep} e d => by
     cases q : H b with
     | none => rfl
     | some u =>
       have e' : b = a := hA b (by rw [q]; simp)
       subst e'
       rw [ha] at e; cases e
       have d' : Data.seq vs.toArray _ = Data.dict es ep := d
       cases d'
   have nsK : ∀ {b : Addr} {m : Str→Option Value}, s₁.heap.Ns b m→(hidT s₁.heap H).Ns b m := fun {b m} ⟨o, es, ep, e, d, r⟩ => ⟨o, es, ep, base_of e (noA e d), d, r⟩
   have hKb : K.In (hidT s₁.heap H) := fun b o e => base_of (KX b o e) (by
     cases q : H b with
     | none => rfl
     | some u =>
       have e' : b = a := hA b (by rw [q]; simp)
       subst e'
       rw [hK (by rw [q]; simp)] at e; cases e)
   have hM : Mod K mg (hidT s₁.heap H) := ⟨hKb, nsK hns, ⟨mb, nsK hb, hbb⟩, let ⟨mc, h1, h2⟩ := hlim; ⟨mc, nsK h1, h2⟩⟩
   have e0 : Env0 P w K mg (hidT s₁.heap H) callerA [] s₁ H := ⟨rfl, hM, fun b o e => zml e, Nat.le_of_eq (zjb _ _), trivial, fun b hb => absurd (show b ∈ ([] : List Addr) from hb) (by simp), hok, .of_eq hg⟩
   refine codeAny_mono ((F _ hKb (nsK hns)).run callerA [] s₁ H ⟨[.ref a], []⟩ [.ref a] [.ref a] _ _ hr e0 (hbind s₁ (.ref a)) (.cons rfl .nil) (hsp H hO hS)) fun r s' h => ?_
   cases r with
   | error e => exact (hCX H e s' h).elim
   | ok fl =>
     cases fl with
     | next => exact False.elim h
     | brk => exact False.elim h
     | cont => exact False.elim h
     | ret u =>
       obtain ⟨v, H', os, bare, un, hok', r', q⟩ := h
       have q' : v = .bl true := q
       subst q'
       obtain rfl : u = Value.bool true := r'
       refine ⟨rfl, OldK.of_keep fun b o e => ?_, os, bare⟩
       cases q : H b with
       | none => exact un.keep b o e q (by intro z; exact absurd (show b ∈ ([] : List Addr) from z) (by simp)) (by simp)
       | some u =>
         rcases hO b with z | ⟨ob, xs, z⟩
         · rw [q] at z; cases z
         · have z2 := un.frzs b ob _ z
           obtain ⟨e1, _⟩ := hok b _ z
           obtain ⟨e2, _⟩ := hok' b _ z2
           rw [e] at e1; cases e1
           exact e2
 cases hk : K.lookup a with
 | some o =>
   -- the script is one of the module's own objects
   have e := KX a o hk
   rw [ha] at e
   cases e
   refine core (fun _ => none) (fun _ => .inl rfl) (.inr ⟨_, vs.toArray, _, hk, rfl, rfl, rfl, by rw [List.size_toArray, lenV]; exact hl, by simpa using rv⟩) (fun b u z => by have z' : (none : Option HO) = some u := z; cases z') (fun b z => absurd rfl z) fun z => absurd rfl z
 | none =>
   refine core (fun b => if b = a then some (.frz { cls := .type "list", data := .seq vs.toArray } (.lst (ns.map V.int))) else none) (fun b => ?_) (.inl (.inr ⟨{ cls := .type "list", data := .seq vs.toArray }, if_pos rfl⟩)) (fun b u z => ?_) (fun b z => ?_) fun _ => hk
   · by_cases hb : b = a
     · exact .inr ⟨_, _, if_pos hb⟩
     · exact .inl (if_neg hb)
   · by_cases hb : b = a
     · have z' := (if_pos hb).symm.trans z
       cases z'
       subst hb
       exact ⟨ha, by rw [List.length_map]; exact hl, vs, _, rv, ha⟩
     · have z' := (if_neg hb).symm.trans z
       cases z'
   · by_cases hb : b = a
     · exact hb
     · exact absurd (if_neg hb) z
end L2
namespace L2
open PySem PySem.Spec PyProof.Rows
theorem walk_of {l : PySem.W.OpenLaw} {n k : Nat} {q : Program} {loose : List Str} {XP : (Str→Option Value)→Heap→Prop} {YP : World→Heap→Prop} {d : DefRec} {K : Params→PySem.W.Frag} {CX : World→CXT} {sp : World→Sp} {x : Str}
   (hn : l.most = some n) (hn2 : n ≤ sizeLine) (hdf : d.params.defaults = []) (hr : Room k callerA)
   (hY : ∀ (w : World) (h : Heap), YP w h→(K w.params).In h)
   (F : ∀ (w : World) (mg : Str→Option Value) (fa : Addr) (h : Heap), (K w.params).In h→h.Ns mainGlobals mg→mg d.name = some (.ref fa) →
     ∃ fd : FuncData, (∀ (s : Shared) (u : Value), BindsTo s fd ⟨[u], []⟩ [(x, u)]) ∧
       ∀ base : Heap, (K w.params).In base→base.Ns mainGlobals mg→FnOk l.prog w (K w.params) mg base (CX w) k fa fd [x] (sp w))
   (hsp : ∀ (w : World) (H : Hp) (a : Addr) (ns : List Int), ns.length ≤ n→Only H→SqL (K w.params) H a (ns.map V.int)→sp w [.ref a] H (fun v _ => v = .bl true) fun _ _ _ => False)
   (hCX : ∀ (w : World) (H : Hp) (s : Shared) (e : Value) (s' : Shared), CX w [] H s (fun _ _ _ => False) e s'→False) :
   PySem.W.WalkO q loose XP YP l.row.toRowW d [] (fun f vs => PySem.call f vs) := by
 refine Att.attach_call hn hdf fun w s₀ s₁ mg mb fa o pm cd doc a vs ns G Y ho hd hcd hmg hobj hints hlen hg => ?_
 have KX := hY w _ Y
 obtain ⟨fd, hb, hF⟩ := F w mg fa _ KX G.T.g hmg
 exact zkP KX G.T.g G.T.b G.T.builtins G.T.nolimit hg hobj hints (Nat.le_trans hlen hn2) hr hF hb (fun H hO hS => hsp w H a ns hlen hO hS) fun H e s' => hCX w H s₁ e s'
end L2
namespace L2
open PySem PySem.Spec PyProof.Rows
def zaN (s : Stmt) : Arguments := match s with
 | .FunctionDef _ a _ _ _ _ _ _ _ _ => a
 | _ => { posonlyargs := [], args := [], vararg := none, kwonlyargs := [], kw_defaults := [], kwarg := none, defaults := [] }
def zaI (s : Stmt) : List Stmt := match s with
 | .FunctionDef _ _ b _ _ _ _ _ _ _ => b
 | _ => []
def zaj (s : Stmt) : Scope := match s with
 | .FunctionDef _ _ _ _ _ _ sc _ _ _ => sc
 | _ => { kind := .function, names := [], isGenerator := false, isCoroutine := false }
abbrev CX0 : CXT := fun _ _ _ _ _ _ => False
abbrev E0 : XK := fun _ _ _ => False
theorem zpR {X : Cx} : Passes CX0 X E0 := fun _ _ _ _ _ _ _ h => h.elim
structure Fun (K : PySem.W.Frag) (x qual : Str) (st : Stmt) (f : Addr) (fd : FuncData) : Prop where
 ex : ∃ (oc : Value) (od : Option Addr) (kV doc pm : Value) (an : Option Addr) (cdv ct : Value) (osl : Array (Option Value)),
   fd = PySem.W.fnOf x qual (zaN st) (zaI st) (zaj st) .none kV doc pm an cdv ct∧K.lookup f = some ⟨oc, od, .func fd, osl⟩∧PySem.W.codeIn K cdv qual = true
 kp : PySem.W.keepIn K (.ref f) = true
section
variable {P : Program} {w : World} {K : PySem.W.Frag} {mg : Str→Option Value} {base : Heap}
theorem Fun.ok {x qual : Str} {st : Stmt} {f : Addr} {fd : FuncData} {N ps : List Str} {k : Nat} {sp : Sp} (F : Fun K x qual st f fd) (S : FnScope N ps (zaj st)) (len : ∀ vs H Q E, sp vs H Q E→vs.length = ps.length)
   (hbody : ∀ (cdv : Value) (A : Around) (outer : List Env) (s : Shared) (H : Hp) (vs : List V) (Q : VK) (E : XK), Room k (A.deeper (envOfC qual (zaj st) s.heap.objs.size f cdv))→sp vs H Q E →
     ∃ t, PSs (cxOf CX0 P w K mg base N qual (zaj st) f cdv A outer s H E).nox (zaI st) t∧t { nx := fun _ H' => Q .non H', rt := Q } (start N vs) H) : FnOk P w K mg base CX0 (k + 1) f fd ps sp := by
 obtain ⟨oc, od, kV, doc, pm, an, cdv, ct, osl, rfl, lk, hcd⟩ := F.ex
 refine zqg lk hcd S len fun A outer s H vs Q E hr hsp => ?_
 obtain ⟨t, h, q⟩ := hbody cdv A outer s H vs Q E hr hsp
 exact ⟨t, h.nox, q⟩
theorem Fun.binds {x qual : Str} {st : Stmt} {f : Addr} {fd : FuncData} {ps : List Str} (F : Fun K x qual st f fd)
   (h : ∀ (kV doc pm : Value) (an : Option Addr) (cdv ct : Value) (us : List Value), us.length = ps.length→bindArgs (PySem.W.fnOf x qual (zaN st) (zaI st) (zaj st) .none kV doc pm an cdv ct) ⟨us, []⟩ = pure (ps.zip us)) : Binds K fd ps [] := by
 obtain ⟨oc, od, kV, doc, pm, an, cdv, ct, osl, rfl, lk, hcd⟩ := F.ex
 exact .all (h kV doc pm an cdv ct)
theorem zaJ {x qual : Str} {st : Stmt} {f : Addr} {oc : Value} {od an : Option Addr} {osl : Array (Option Value)} {kV doc pm cdv ct : Value} (l : K.lookup f = some ⟨oc, od, .func (PySem.W.fnOf x qual (zaN st) (zaI st) (zaj st) .none kV doc pm an cdv ct), osl⟩)
   (c : PySem.W.codeIn K cdv qual = true) (k : PySem.W.keepIn K (.ref f) = true) : Fun K x qual st f (PySem.W.fnOf x qual (zaN st) (zaI st) (zaj st) .none kV doc pm an cdv ct) := ⟨⟨oc, od, kV, doc, pm, an, cdv, ct, osl, rfl, l, c⟩, k⟩
end
theorem zaC {A : Around} {k : Nat} (hr : Room k A) : A.units + 1 < cLine := Nat.lt_of_le_of_lt (Nat.add_le_add_left (by decide : 1 ≤ 64) _) hr.units
end L2
namespace L2
open PySem PySem.Spec PyProof.Rows
end L2
set_option maxHeartbeats 4000000
namespace L2.MP
open PySem PySem.Spec PyProof.Rows
inductive D where
 | non | bl (b : Bool) | int (i : Int) | str (x : Str) | tup (xs : List D) | ref (n : Nat) | kl (xs : List D)
inductive O where
 | lst (xs : List D) | fz (xs : List D) | dk (kvs : List (Key × D)) | dt (kvs : List (List Key × D)) | fk (kvs : List (Key × D)) | ft (kvs : List (List Key × D))
abbrev Sto := List O
abbrev Rho := List (Option D)
structure Kp (H H' : Hp) : Prop where
 tup : ∀ a xs, H a = some (.tup xs)→H' a = some (.tup xs)
 frz : ∀ a o u, H a = some (.frz o u)→H' a = some (.frz o u)
def SqF (K : PySem.W.Frag) (H : Hp) (a : Addr) (xs : List V) : Prop :=
 (∃ o, H a = some (.frz o (.lst xs))) ∨ ∃ (o : Obj) (its : Array Value) (n : Nat), K.lookup a = some o∧o.cls = .type "list"∧o.dict = none∧o.data = .seq its n∧its.size ≤ sizeLine∧Vals xs its.toList
theorem SqF.sq {K : PySem.W.Frag} {H : Hp} {a : Addr} {xs : List V} (h : SqF K H a xs) : SqL K H a xs := by
 rcases h with h | h
 · exact .inl (.inr h)
 · exact .inr h
theorem SqF.kp {K : PySem.W.Frag} {H H' : Hp} {a : Addr} {xs : List V} (T : Kp H H') (h : SqF K H a xs) : SqF K H' a xs := by
 rcases h with ⟨o, h⟩ | h
 · exact .inl ⟨o, T.frz _ _ _ h⟩
 · exact .inr h
mutual
def Rep (K : PySem.W.Frag) (H : Hp) (io : List Addr) : V→D→Prop
 | v, .non => v = .non
 | v, .bl b => v = .bl b
 | v, .int i => v = .int i
 | v, .str x => v = .str x
 | v, .tup ds => ∃ a xs, v = .ref a∧H a = some (.tup xs)∧Reps K H io xs ds
 | v, .ref n => ∃ a, v = .ref a∧io[n]? = some a
 | v, .kl ds => ∃ a xs, v = .ref a∧SqF K H a xs∧Reps K H io xs ds
def Reps (K : PySem.W.Frag) (H : Hp) (io : List Addr) : List V→List D→Prop
 | xs, [] => xs = []
 | xs, d :: ds => ∃ y ys, xs = y :: ys∧Rep K H io y d∧Reps K H io ys ds
end
mutual
theorem Rep.mono {K : PySem.W.Frag} {H H' : Hp} {io ka : List Addr} (T : Kp H H') : ∀ {v : V} {d : D}, Rep K H io v d→Rep K H' (io ++ ka) v d
 | _, .non, h => h
 | _, .bl _, h => h
 | _, .int _, h => h
 | _, .str _, h => h
 | _, .tup ds, h => by
   obtain ⟨a, xs, e, q, r⟩ := h
   exact ⟨a, xs, e, T.tup a xs q, Reps.mono T r⟩
 | _, .ref n, h => by
   obtain ⟨a, e, q⟩ := h
   exact ⟨a, e, by rw [List.getElem?_append_left (List.getElem?_eq_some_iff.mp q).1]; exact q⟩
 | _, .kl ds, h => by
   obtain ⟨a, xs, e, q, r⟩ := h
   exact ⟨a, xs, e, q.kp T, Reps.mono T r⟩
theorem Reps.mono {K : PySem.W.Frag} {H H' : Hp} {io ka : List Addr} (T : Kp H H') : ∀ {xs : List V} {ds : List D}, Reps K H io xs ds→Reps K H' (io ++ ka) xs ds
 | _, [], h => h
 | _, d :: ds, h => by
   obtain ⟨y, ys, e, r, rs⟩ := h
   exact ⟨y, ys, e, Rep.mono T r, Reps.mono T rs⟩
end
section
variable {K : PySem.W.Frag} {H H' H1 H2 : Hp} {io ka kb : List Addr} {st st' : Sto} {xs ys : List V} {ds es : List D}
theorem Reps.length : ∀ {xs : List V} {ds : List D}, Reps K H io xs ds→xs.length = ds.length
 | _, [], h => by rw [show _ = [] from h]; rfl
 | _, d :: ds, h => by
   obtain ⟨y, ys, e, _, rs⟩ := h
   rw [e, List.length_cons, List.length_cons, Reps.length rs]
theorem Reps.get : ∀ {xs : List V} {ds : List D} {i : Nat} {d : D}, Reps K H io xs ds→ds[i]? = some d→∃ v, xs[i]? = some v∧Rep K H io v d
 | _, [], _, _, _, e => by simp at e
 | _, a :: ds, 0, d, h, e => by
   obtain ⟨y, ys, rfl, r, _⟩ := h
   have e' : a = d := by simpa using e
   subst e'
   exact ⟨y, rfl, r⟩
 | _, a :: ds, i + 1, d, h, e => by
   obtain ⟨y, ys, rfl, _, rs⟩ := h
   exact Reps.get (i := i) rs (by simpa using e)
theorem Reps.append : ∀ {xs ys : List V} {ds es : List D}, Reps K H io xs ds→Reps K H io ys es→Reps K H io (xs ++ ys) (ds ++ es)
 | _, _, [], _, h, q => by rw [show _ = [] from h]; exact q
 | _, _, d :: ds, _, h, q => by
   obtain ⟨y, ys, rfl, r, rs⟩ := h
   exact ⟨y, _, rfl, r, Reps.append rs q⟩
theorem Reps.set : ∀ {xs : List V} {ds : List D} {v : V} {d : D} (i : Nat), Reps K H io xs ds→Rep K H io v d→Reps K H io (xs.set i v) (ds.set i d)
 | _, [], _, _, _, h, _ => by rw [show _ = [] from h]; exact rfl
 | _, a :: ds, v, d, 0, h, q => by
   obtain ⟨y, ys, rfl, _, rs⟩ := h
   exact ⟨v, ys, rfl, q, rs⟩
 | _, a :: ds, v, d, i + 1, h, q => by
   obtain ⟨y, ys, rfl, r, rs⟩ := h
   exact ⟨y, _, rfl, r, Reps.set i rs q⟩
theorem Reps.take : ∀ {xs : List V} {ds : List D} (n : Nat), Reps K H io xs ds→Reps K H io (xs.take n) (ds.take n)
 | _, [], n, h => by rw [show _ = [] from h]; simp [Reps]
 | _, _ :: _, 0, _ => by simp [Reps]
 | _, d :: ds, n + 1, h => by
   obtain ⟨y, ys, rfl, r, rs⟩ := h
   exact ⟨y, _, rfl, r, Reps.take n rs⟩
theorem Reps.drop : ∀ {xs : List V} {ds : List D} (n : Nat), Reps K H io xs ds→Reps K H io (xs.drop n) (ds.drop n)
 | _, [], n, h => by rw [show _ = [] from h]; simp [Reps]
 | _, _ :: _, 0, h => h
 | _, d :: ds, n + 1, h => by
   obtain ⟨y, ys, rfl, r, rs⟩ := h
   exact Reps.drop n rs
theorem Reps.nil : Reps K H io [] [] := rfl
theorem Reps.cons {v : V} {d : D} (r : Rep K H io v d) (rs : Reps K H io xs ds) : Reps K H io (v :: xs) (d :: ds) := ⟨v, xs, rfl, r, rs⟩
theorem Reps.one {d : D} (r : Reps K H io xs [d]) : ∃ v, xs = [v]∧Rep K H io v d := by
 obtain ⟨y, ys, rfl, r, e⟩ := r
 cases (show ys = [] from e)
 exact ⟨y, rfl, r⟩
theorem Reps.two {d e : D} (r : Reps K H io xs [d, e]) : ∃ v u, xs = [v, u]∧Rep K H io v d∧Rep K H io u e := by
 obtain ⟨y, ys, rfl, r, q⟩ := r
 obtain ⟨v, rfl, q'⟩ := q.one
 exact ⟨y, v, rfl, r, q'⟩
abbrev KR (κ : Type) (K : PySem.W.Frag) (H : Hp) (io : List Addr) : List (κ × V)→List (κ × D)→Prop := Paired fun (p : κ × V) (q : κ × D) => p.1 = q.1∧Rep K H io p.2 q.2
def OR (K : PySem.W.Frag) (H : Hp) (io : List Addr) (a : Addr) : O→Prop
 | .lst ds => ∃ xs, H a = some (.lst xs)∧Reps K H io xs ds
 | .fz ds => ∃ o xs, H a = some (.frz o (.lst xs))∧Reps K H io xs ds
 | .dk kvs => ∃ ps, H a = some (.dK ps)∧KR Key K H io ps kvs
 | .dt kvs => ∃ ps, H a = some (.dT ps)∧KR (List Key) K H io ps kvs
 | .fk kvs => ∃ o ps, H a = some (.frz o (.dK ps))∧KR Key K H io ps kvs
 | .ft kvs => ∃ o ps, H a = some (.frz o (.dT ps))∧KR (List Key) K H io ps kvs
structure StR (K : PySem.W.Frag) (H : Hp) (io : List Addr) (st : Sto) : Prop where
 len : io.length = st.length
 nd : io.Nodup
 ob : ∀ (n : Nat) (a : Addr) (o : O), io[n]? = some a→st[n]? = some o→OR K H io a o
structure EnvR (K : PySem.W.Frag) (H : Hp) (io : List Addr) (σ : St) (ρ : Rho) : Prop where
 len : σ.length = ρ.length
 at_ : ∀ (i : Nat) (d : D), ρ[i]? = some (some d)→∃ v, σ[i]? = some (some v)∧Rep K H io v d
structure Ext (io ka : List Addr) (H H' : Hp) : Prop where
 keep : ∀ b o, H b = some o→b ∉ io→H' b = some o
 fresh : ∀ b, b ∈ ka→H b = none
 frz : ∀ b o u, H b = some (.frz o u)→H' b = some (.frz o u)
theorem OR.stands {a : Addr} {o : O} (h : OR K H io a o) : ∃ u, H a = some u∧∀ xs, u ≠ .tup xs∧∀ ob, u ≠ .frz ob (.tup xs) := by
 cases o with
 | lst ds => obtain ⟨xs, e, _⟩ := h; exact ⟨_, e, fun _ => ⟨by simp, by simp⟩⟩
 | fz ds => obtain ⟨ob, xs, e, _⟩ := h; exact ⟨_, e, fun _ => ⟨by simp, by simp⟩⟩
 | dk kvs => obtain ⟨xs, e, _⟩ := h; exact ⟨_, e, fun _ => ⟨by simp, by simp⟩⟩
 | dt kvs => obtain ⟨xs, e, _⟩ := h; exact ⟨_, e, fun _ => ⟨by simp, by simp⟩⟩
 | fk kvs => obtain ⟨ob, xs, e, _⟩ := h; exact ⟨_, e, fun _ => ⟨by simp, by simp⟩⟩
 | ft kvs => obtain ⟨ob, xs, e, _⟩ := h; exact ⟨_, e, fun _ => ⟨by simp, by simp⟩⟩
theorem StR.mem (S : StR K H io st) {a : Addr} (h : a ∈ io) : ∃ u, H a = some u∧∀ xs, u ≠ .tup xs∧∀ ob, u ≠ .frz ob (.tup xs) := by
 obtain ⟨n, hn, e⟩ := List.getElem_of_mem h
 have h1 : io[n]? = some a := by rw [List.getElem?_eq_getElem hn, e]
 have h2 : n < st.length := by rw [← S.len]; exact hn
 exact (S.ob n a _ h1 (List.getElem?_eq_getElem h2)).stands
theorem Ext.sqT (S : StR K H io st) (E : Ext io ka H H') : ∀ a xs, H a = some (.tup xs)→H' a = some (.tup xs) := by
 intro a xs h
 refine E.keep _ _ h fun m => ?_
 obtain ⟨u, e, q⟩ := S.mem m
 rw [h] at e
 exact (q xs).1 (Option.some.inj e).symm
theorem Ext.kp (S : StR K H io st) (E : Ext io ka H H') : Kp H H' := ⟨E.sqT S, E.frz⟩
theorem Ext.refl : Ext io [] H H := ⟨fun _ _ h _ => h, fun _ h => absurd h (by simp), fun _ _ _ h => h⟩
theorem Ext.trans (S1 : StR K H1 (io ++ ka) st) (E1 : Ext io ka H H1) (E2 : Ext (io ++ ka) kb H1 H2) : Ext io (ka ++ kb) H H2 where
 keep := fun b o h n => E2.keep b o (E1.keep b o h n) fun m => by
   rcases List.mem_append.mp m with m | m
   · exact n m
   · rw [E1.fresh b m] at h; cases h
 fresh := fun b m => by
   rcases List.mem_append.mp m with m | m
   · exact E1.fresh b m
   · have h1 := E2.fresh b m
     cases e : H b with
     | none => rfl
     | some o =>
       by_cases hb : b ∈ io
       · obtain ⟨u, e', _⟩ := S1.mem (List.mem_append_left _ hb)
         rw [e'] at h1; cases h1
       · rw [E1.keep b o e hb] at h1; cases h1
 frz := fun b o u h => E2.frz b o u (E1.frz b o u h)
theorem Ext.app (E : Ext io (ka ++ []) H H') : Ext io ka H H' := by rw [List.append_nil] at E; exact E
theorem Rep.ext {v : V} {d : D} (S : StR K H io st) (E : Ext io ka H H') (h : Rep K H io v d) : Rep K H' (io ++ ka) v d := Rep.mono (E.kp S) h
theorem Reps.ext (S : StR K H io st) (E : Ext io ka H H') (h : Reps K H io xs ds) : Reps K H' (io ++ ka) xs ds := Reps.mono (E.kp S) h
theorem EnvR.ext {σ : St} {ρ : Rho} (h : EnvR K H io σ ρ) (S : StR K H io st) (E : Ext io ka H H') : EnvR K H' (io ++ ka) σ ρ :=
 ⟨h.len, fun i d e => let ⟨v, q, r⟩ := h.at_ i d e; ⟨v, q, r.ext S E⟩⟩
theorem EnvR.set {σ : St} {ρ : Rho} {v : V} {d : D} (i : Nat) (h : EnvR K H io σ ρ) (r : Rep K H io v d) : EnvR K H io (σ.set i (some v)) (ρ.set i (some d)) := by
 refine ⟨by rw [List.length_set, List.length_set]; exact h.len, fun j e q => ?_⟩
 by_cases hij : i = j
 · subst hij
   rw [List.getElem?_set] at q
   rw [if_pos rfl] at q
   split at q
   · rename_i hl
     cases (Option.some.inj (Option.some.inj q))
     exact ⟨v, by rw [List.getElem?_set, if_pos rfl, if_pos (by rw [h.len]; exact hl)], r⟩
   · cases q
 · rw [List.getElem?_set_ne hij] at q
   obtain ⟨u, q', r'⟩ := h.at_ j e q
   exact ⟨u, by rw [List.getElem?_set_ne hij]; exact q', r'⟩
theorem StR.nil (S : StR K H io st) : StR K H (io ++ []) st := by rw [List.append_nil]; exact S
theorem KR.mono {κ : Type} {ps : List (κ × V)} {kvs : List (κ × D)} (T : Kp H H') (h : KR κ K H io ps kvs) : KR κ K H' (io ++ ka) ps kvs := Paired.mapP h fun _ _ z => ⟨z.1, Rep.mono T z.2⟩
theorem OR.mono {a : Addr} {o : O} (T : Kp H H') (e : H' a = H a) (h : OR K H io a o) : OR K H' (io ++ ka) a o := by
 cases o with
 | lst ds => obtain ⟨xs, q, r⟩ := h; exact ⟨xs, e.trans q, Reps.mono T r⟩
 | fz ds => obtain ⟨ob, xs, q, r⟩ := h; exact ⟨ob, xs, e.trans q, Reps.mono T r⟩
 | dk kvs => obtain ⟨xs, q, r⟩ := h; exact ⟨xs, e.trans q, KR.mono T r⟩
 | dt kvs => obtain ⟨xs, q, r⟩ := h; exact ⟨xs, e.trans q, KR.mono T r⟩
 | fk kvs => obtain ⟨ob, xs, q, r⟩ := h; exact ⟨ob, xs, e.trans q, KR.mono T r⟩
 | ft kvs => obtain ⟨ob, xs, q, r⟩ := h; exact ⟨ob, xs, e.trans q, KR.mono T r⟩
theorem zf6 {p : Addr} {o : HO} (S : StR K H io st) (hp : H p = none) : Ext io [] H (upd H p o)∧StR K (upd H p o) (io ++ []) st := by
 have E : Ext io [] H (upd H p o) := ⟨fun b u h _ => by rw [zay (zaq h hp)]; exact h, fun _ h => absurd h (by simp), fun b u v h => by rw [zay (zaq h hp)]; exact h⟩
 refine ⟨E, ?_⟩
 refine ⟨by rw [List.append_nil]; exact S.len, by rw [List.append_nil]; exact S.nd, fun n a ob h1 h2 => ?_⟩
 rw [List.append_nil] at h1
 obtain ⟨u, hu, _⟩ := (S.ob n a ob h1 h2).stands
 exact OR.mono (E.kp S) (zay (zaq hu hp)) (S.ob n a ob h1 h2)
theorem zhu {p : Addr} {o : HO} {ob : O} (S : StR K H io st) (hp : H p = none) (new : ∀ H', Kp H H'→H' p = some o→OR K H' (io ++ [p]) p ob) : Ext io [p] H (upd H p o)∧StR K (upd H p o) (io ++ [p]) (st ++ [ob]) := by
 have E : Ext io [p] H (upd H p o) := ⟨fun b u h _ => by rw [zay (zaq h hp)]; exact h, fun b h => by rw [List.mem_singleton.mp h]; exact hp, fun b u v h => by rw [zay (zaq h hp)]; exact h⟩
 have np : p ∉ io := fun m => by
   obtain ⟨u, hu, _⟩ := S.mem m
   rw [hp] at hu; cases hu
 refine ⟨E, by simp [S.len], ?_, fun n a ob' h1 h2 => ?_⟩
 · rw [List.nodup_append]
   refine ⟨S.nd, by simp, fun a ha b hb => ?_⟩
   rw [List.mem_singleton.mp hb]
   rintro rfl
   exact np ha
 · by_cases hn : n < io.length
   · rw [List.getElem?_append_left hn] at h1
     rw [List.getElem?_append_left (by rw [← S.len]; exact hn)] at h2
     obtain ⟨u, hu, _⟩ := (S.ob n a ob' h1 h2).stands
     exact OR.mono (E.kp S) (zay (zaq hu hp)) (S.ob n a ob' h1 h2)
   · have hl : n < (io ++ [p]).length := (List.getElem?_eq_some_iff.mp h1).1
     rw [List.length_append, List.length_singleton] at hl
     have e : n = io.length := by omega
     subst e
     rw [List.getElem?_append_right (Nat.le_refl _), Nat.sub_self] at h1
     rw [S.len, List.getElem?_append_right (Nat.le_refl _), Nat.sub_self] at h2
     cases (Option.some.inj h1)
     cases (Option.some.inj h2)
     exact new _ (E.kp S) zbi
theorem zfn {p : Addr} {n : Nat} {o : HO} {ob old : O} (S : StR K H io st) (hn : io[n]? = some p) (ho : st[n]? = some old) (nf : ∀ o u, H p ≠ some (.frz o u)) (new : ∀ H', Kp H H'→H' p = some o→OR K H' (io ++ []) p ob) : Ext io [] H (upd H p o)∧StR K (upd H p o) (io ++ []) (st.set n ob) := by
 have hp : p ∈ io := List.mem_of_getElem? hn
 have E : Ext io [] H (upd H p o) := ⟨fun b u h nb => by rw [zay (fun e => nb (by rw [e]; exact hp))]; exact h, fun b h => absurd h (by simp), fun b u v h => by
   by_cases hb : b = p
   · subst hb; exact absurd h (nf u v)
   · rw [zay hb]; exact h⟩
 refine ⟨E, by simp [S.len], by rw [List.append_nil]; exact S.nd, fun m a ob' h1 h2 => ?_⟩
 rw [List.append_nil] at h1
 by_cases hm : m = n
 · subst hm
   rw [hn] at h1
   cases (Option.some.inj h1)
   rw [List.getElem?_set, if_pos rfl] at h2
   split at h2
   · cases (Option.some.inj h2)
     exact new _ (E.kp S) zbi
   · cases h2
 · rw [List.getElem?_set_ne (fun e => hm e.symm)] at h2
   have hap : a ≠ p := fun e => by
     subst e
     exact hm ((List.getElem?_inj (List.getElem?_eq_some_iff.mp h1).1 S.nd).mp (h1.trans hn.symm))
   exact OR.mono (E.kp S) (zay hap) (S.ob m a ob' h1 h2)
end
end L2.MP
namespace L2.MP
open PySem PySem.Spec PyProof.Rows
abbrev ME := Rho→Sto→Option (D × Sto)
abbrev MT := Rho→Sto→Option (Bool × Sto)
abbrev MA := Rho→Sto→Option (List D × Sto)
inductive Fl where
 | nx (ρ : Rho) | rt (d : D) | bk (ρ : Rho) | ct (ρ : Rho)
abbrev MS := Rho→Sto→Option (Fl × Sto)
abbrev MG := D→Rho→Sto→Option (Rho × Sto)
abbrev MGs := List D→Rho→Sto→Option (Rho × Sto)
def Bh (K : PySem.W.Frag) (io : List Addr) (H : Hp) (st' : Sto) (d : D) (Q : VK) : Prop := ∀ v H' ka, Ext io ka H H'→StR K H' (io ++ ka) st'→Rep K H' (io ++ ka) v d→Q v H'
def tE (K : PySem.W.Frag) (m : ME) : TE := fun σ H Q => ∃ ρ st io d st', EnvR K H io σ ρ∧StR K H io st∧m ρ st = some (d, st')∧Bh K io H st' d Q
def tT (K : PySem.W.Frag) (m : MT) : TT := fun σ H Q => ∃ ρ st io b st', EnvR K H io σ ρ∧StR K H io st∧m ρ st = some (b, st')∧∀ H' ka, Ext io ka H H'→StR K H' (io ++ ka) st'→Q b H'
def tA (K : PySem.W.Frag) (m : MA) : TA := fun σ H Q => ∃ ρ st io ds st', EnvR K H io σ ρ∧StR K H io st∧m ρ st = some (ds, st')∧∀ vs H' ka, Ext io ka H H'→StR K H' (io ++ ka) st'→Reps K H' (io ++ ka) vs ds→Q vs H'
def tS (K : PySem.W.Frag) (m : MS) : TS := fun N σ H => ∃ ρ st io f st', EnvR K H io σ ρ∧StR K H io st∧m ρ st = some (f, st') ∧
 match f with
 | .nx ρ' => ∀ σ' H' ka, Ext io ka H H'→StR K H' (io ++ ka) st'→EnvR K H' (io ++ ka) σ' ρ'→N.nx σ' H'
 | .bk ρ' => ∀ σ' H' ka, Ext io ka H H'→StR K H' (io ++ ka) st'→EnvR K H' (io ++ ka) σ' ρ'→N.bk σ' H'
 | .ct ρ' => ∀ σ' H' ka, Ext io ka H H'→StR K H' (io ++ ka) st'→EnvR K H' (io ++ ka) σ' ρ'→N.ct σ' H'
 | .rt d => Bh K io H st' d N.rt
def tG (K : PySem.W.Frag) (m : MG) : TG := fun v σ H Q => ∃ d ρ st io ρ' st', Rep K H io v d∧EnvR K H io σ ρ∧StR K H io st∧m d ρ st = some (ρ', st')∧∀ σ' H' ka, Ext io ka H H'→StR K H' (io ++ ka) st'→EnvR K H' (io ++ ka) σ' ρ'→Q σ' H'
def tGs (K : PySem.W.Frag) (m : MGs) : TGs := fun vs σ H Q => ∃ ds ρ st io ρ' st', Reps K H io vs ds∧EnvR K H io σ ρ∧StR K H io st∧m ds ρ st = some (ρ', st')∧∀ σ' H' ka, Ext io ka H H'→StR K H' (io ++ ka) st'→EnvR K H' (io ++ ka) σ' ρ'→Q σ' H'
def SE (X : Cx) (e : Expr) (m : ME) : Prop := PE X e (tE X.K m)
def SB (X : Cx) (e : Expr) (m : MT) : Prop := PT X e (tT X.K m)
def SA (X : Cx) (es : List Expr) (m : MA) : Prop := PA X es (tA X.K m)
def SS (X : Cx) (s : Stmt) (m : MS) : Prop := PS X s (tS X.K m)
def SSs (X : Cx) (s : List Stmt) (m : MS) : Prop := PSs X s (tS X.K m)
def SG (X : Cx) (e : Expr) (m : MG) : Prop := PG X e (tG X.K m)
def SGs (X : Cx) (e : List Expr) (m : MGs) : Prop := PGs X e (tGs X.K m)
section
variable {X : Cx} {e a b c : Expr} {es : List Expr} {st1 st2 : Stmt} {rest body orelse : List Stmt} {pos : Pos} {m ma mb mc : ME} {mt mu : MT} {mm : MA} {ms mq mr : MS} {mg : MG} {mgs : MGs}
theorem PE.imp {t u : TE} (h : PE X e t) (k : ∀ σ H Q, u σ H Q→t σ H Q) : PE X e u := fun pins s σ H Q I q => h pins s σ H Q I (k σ H Q q)
theorem PT.imp {t u : TT} (h : PT X e t) (k : ∀ σ H Q, u σ H Q→t σ H Q) : PT X e u := fun pins s σ H Q I q => h pins s σ H Q I (k σ H Q q)
theorem PA.imp {t u : TA} (h : PA X es t) (k : ∀ σ H Q, u σ H Q→t σ H Q) : PA X es u := fun p pins s σ H Q I q => h p pins s σ H Q I (k σ H Q q)
theorem PS.imp {t u : TS} (h : PS X st1 t) (k : ∀ N σ H, u N σ H→t N σ H) : PS X st1 u := fun pins s σ H N I q => h pins s σ H N I (k N σ H q)
theorem PSs.imp {t u : TS} (h : PSs X rest t) (k : ∀ N σ H, u N σ H→t N σ H) : PSs X rest u := fun pins s σ H N I q => h pins s σ H N I (k N σ H q)
theorem PG.imp {t u : TG} (h : PG X e t) (k : ∀ v σ H Q, u v σ H Q→t v σ H Q) : PG X e u := fun pins s σ H v w Q I r q => h pins s σ H v w Q I r (k v σ H Q q)
theorem PGs.imp {t u : TGs} (h : PGs X es t) (k : ∀ v σ H Q, u v σ H Q→t v σ H Q) : PGs X es u := fun pins s σ H v w Q I r q => h pins s σ H v w Q I r (k v σ H Q q)
theorem zad {α β : Type} {x : Option α} {f : α→Option β} {y : β} (h : x.bind f = some y) : ∃ z, x = some z∧f z = some y := by
 cases x with
 | none => cases h
 | some z => exact ⟨z, rfl, h⟩
variable {K : PySem.W.Frag} {H H1 H2 : Hp} {io ka kb : List Addr} {st st' : Sto}
theorem Bh.now {d : D} {Q : VK} {v : V} (h : Bh K io H st d Q) (S : StR K H io st) (r : Rep K H io v d) : Q v H := h v H [] Ext.refl S.nil (by rw [List.append_nil]; exact r)
theorem Bh.on {d : D} {Q : VK} (h : Bh K io H st' d Q) (S1 : StR K H1 (io ++ ka) st) (E : Ext io ka H H1) : Bh K (io ++ ka) H1 st' d Q := fun v H' kb E' S' r =>
 h v H' (ka ++ kb) (E.trans S1 E') (by rw [← List.append_assoc]; exact S') (by rw [← List.append_assoc]; exact r)
def mVar (i : Nat) : ME := fun ρ st => match ρ[i]? with
 | some (some d) => some (d, st)
 | _ => none
theorem zab (i : Nat) {x : Str} {pos : Pos} (hN : X.N[i]? = some x := by rfl) (hv : Vis X.env.scope x := by first | exact Or.inl rfl | exact Or.inr (Or.inl rfl) | exact Or.inr (Or.inr rfl)) (hd : (x == ("__debug__" : Str)) = false := by decide)
   (hcd : (x == ("__classdict__" : Str)) = false := by decide) : SE X (.Name x pos) (mVar i) := PE.imp (zn4 hN hv hd hcd) fun σ H Q ⟨ρ, st, io, d, st', E, S, e, k⟩ => by
 unfold mVar at e
 split at e
 · rename_i d' he
   cases e
   obtain ⟨v, hv, r⟩ := E.at_ i _ he
   exact ⟨v, hv, k.now S r⟩
 · cases e
def mCon (d : D) : ME := fun _ st => some (d, st)
theorem zaf {i j pos} : SE X (.Constant (.int i) j pos) (mCon (.int i)) := PE.imp zn9 fun σ H Q ⟨ρ, st, io, d, st', E, S, e, k⟩ => by
 cases e; exact k.now S rfl
theorem zpe {b j pos} : SE X (.Constant (.bool b) j pos) (mCon (.bl b)) := PE.imp zpQ fun σ H Q ⟨ρ, st, io, d, st', E, S, e, k⟩ => by
 cases e; exact k.now S rfl
theorem zdl {x j pos} : SE X (.Constant (.str x) j pos) (mCon (.str x)) := PE.imp zn6 fun σ H Q ⟨ρ, st, io, d, st', E, S, e, k⟩ => by
 cases e; exact k.now S rfl
theorem znI {j pos} : SE X (.Constant .none j pos) (mCon .non) := PE.imp zn7 fun σ H Q ⟨ρ, st, io, d, st', E, S, e, k⟩ => by
 cases e; exact k.now S rfl
abbrev G2 := D→D→Sto→Option (D × Sto)
def r2M (K : PySem.W.Frag) (g : G2) : R2 := fun x y H Q => ∃ dx dy st io d st', Rep K H io x dx∧Rep K H io y dy∧StR K H io st∧g dx dy st = some (d, st')∧Bh K io H st' d Q
def OpM (X : Cx) (f : Value→Value→Sem Value) (g : G2) : Prop := OpR X f (r2M X.K g)
def mBin (g : G2) (ma mb : ME) : ME := fun ρ st => (ma ρ st).bind fun (x, s1) => (mb ρ s1).bind fun (y, s2) => g x y s2
theorem zdf {g : G2} {σ : L2.St} {H : Hp} {Q : VK} (h : tE K (mBin g ma mb) σ H Q) : tOp (r2M K g) (tE K ma) (tE K mb) σ H Q := by
 obtain ⟨ρ, st, io, d, st', E, S, e, k⟩ := h
 obtain ⟨⟨x, s1⟩, e1, e⟩ := zad e
 obtain ⟨⟨y, s2⟩, e2, e3⟩ := zad e
 refine ⟨ρ, st, io, x, s1, E, S, e1, fun v1 H1 k1 X1 S1 R1 => ?_⟩
 refine ⟨ρ, s1, io ++ k1, y, s2, E.ext S X1, S1, e2, fun v2 H2 k2 X2 S2 R2 => ?_⟩
 exact ⟨x, y, s2, (io ++ k1) ++ k2, d, st', R1.ext S1 X2, R2, S2, e3, (k.on S1 X1).on S2 X2⟩
theorem zar {op : Operator} {g : G2} (ho : OpM X (binaryOp op) g) (ha : SE X a ma) (hb : SE X b mb) : SE X (.BinOp a op b pos) (mBin g ma mb) := PE.imp (zpO ho ha hb) fun _ _ _ h => zdf h
theorem znL {op : CmpOp} {g : G2} (ho : OpM X (compareOp op) g) (ha : SE X a ma) (hb : SE X b mb) (hm : behindInMarks op b = false) : SE X (.Compare a [op] [b] pos) (mBin g ma mb) := PE.imp (zmb ho ha hb hm) fun _ _ _ h => zdf h
def mTst (m : ME) : MT := fun ρ st => (m ρ st).bind fun (x, s1) => match x with
 | .bl b => some (b, s1)
 | _ => none
theorem zlz {ρ : Rho} {b : Bool} (e : mTst m ρ st = some (b, st')) : m ρ st = some (.bl b, st') := by
 obtain ⟨⟨x, s1⟩, e1, e⟩ := zad e
 dsimp only at e
 split at e
 · cases e; exact e1
 · cases e
theorem zcx {σ : L2.St} {H : Hp} {Q : Bool→Hp→Prop} (h : tT K (mTst m) σ H Q) : tE K m σ H fun x H' => ∃ b, x = .bl b∧Q b H' := by
 obtain ⟨ρ, st, io, b, st', E, S, e, k⟩ := h
 exact ⟨ρ, st, io, _, st', E, S, zlz e, fun v H' ka X' S' R' => ⟨b, R', k H' ka X' S'⟩⟩
theorem zbP {op : CmpOp} {g : G2} (ho : OpM X (compareOp op) g) (ha : SE X a ma) (hb : SE X b mb) (hm : behindInMarks op b = false) : SB X (.Compare a [op] [b] pos) (mTst (mBin g ma mb)) :=
 PT.imp (zlZ ho ha hb hm) fun σ H Q h => zdf (zcx h)
theorem zpH (h : SE X a m) (he : ∀ whole, isTrue a X.env whole = (do let v ← whole; standAt a.pos; holding [v] (truthy v)) := by intro _; rfl) : SB X a (mTst m) :=
 PT.imp (zkj h he) fun σ H Q h => by
   obtain ⟨ρ, st, io, b, st', E, S, e, k⟩ := zcx h
   refine ⟨ρ, st, io, b, st', E, S, e, fun v H' ka X' S' R' => ?_⟩
   obtain ⟨c, hc, q⟩ := k v H' ka X' S' R'
   subst hc
   exact ⟨c, rfl, q⟩
def znj (m : MT) : MT := fun ρ st => (m ρ st).map fun (b, s) => (!b, s)
theorem znN (h : SB X a mt) : SB X (.UnaryOp .Not a pos) (znj mt) := PT.imp (znT h) fun σ H Q ⟨ρ, st, io, b, st', E, S, e, k⟩ => by
 unfold znj at e
 cases e1 : mt ρ st with
 | none => rw [e1] at e; cases e
 | some p => rw [e1] at e; cases e; exact ⟨ρ, st, io, _, _, E, S, e1, fun H' ka X' S' => k H' ka X' S'⟩
def zls (m n : MT) : MT := fun ρ st => (m ρ st).bind fun (b, s) => if b = true then n ρ s else some (false, s)
def mOrT (m n : MT) : MT := fun ρ st => (m ρ st).bind fun (b, s) => if b = true then some (true, s) else n ρ s
def SW (X : Cx) (e : Expr) (m : MT) : Prop := PW X e (tT X.K m)
theorem PW.imp {t u : TT} (h : PW X e t) (k : ∀ σ H Q, u σ H Q→t σ H Q) : PW X e u := fun w pins s σ H Q I q => h w pins s σ H Q I (k σ H Q q)
theorem SW.sb (h : SW X a mt) : SB X a mt := PW.pt h
theorem zg0 (ha : SB X a mt) : SW X (.BoolOp .And [a] pos) mt := pw_and1 ha
theorem znv (ha : SB X a mt) : SW X (.BoolOp .Or [a] pos) mt := pw_or1 ha
theorem zhp {n : MT} {σ : L2.St} {ρ : Rho} {Q : Bool→Hp→Prop} {b : Bool} {s1 : Sto} (E : EnvR K H io σ ρ) (S : StR K H io st) (X1 : Ext io ka H H1) (S1 : StR K H1 (io ++ ka) s1) (e : n ρ s1 = some (b, st')) (k : ∀ H' ka, Ext io ka H H'→StR K H' (io ++ ka) st'→Q b H') : tT K n σ H1 Q :=
 ⟨ρ, s1, io ++ ka, b, st', E.ext S X1, S1, e, fun H' kb X' S' => k H' (ka ++ kb) (X1.trans S1 X') (by rw [← List.append_assoc]; exact S')⟩
theorem zis {rs : List Expr} (ha : SB X a mt) (hb : SW X (.BoolOp .And (b :: rs) pos) mu) : SW X (.BoolOp .And (a :: b :: rs) pos) (zls mt mu) := PW.imp (pw_and ha hb) fun σ H Q ⟨ρ, st, io, v, st', E, S, e, k⟩ => by
 obtain ⟨⟨x, s1⟩, e1, e⟩ := zad e
 refine ⟨ρ, st, io, x, s1, E, S, e1, fun H1 k1 X1 S1 => ?_⟩
 cases x with
 | true => rw [if_pos rfl]; exact zhp E S X1 S1 e k
 | false =>
   rw [if_neg (by decide)]
   have e' : some (false, s1) = some (v, st') := e
   cases e'
   exact k H1 k1 X1 S1
theorem zpE {rs : List Expr} (ha : SB X a mt) (hb : SW X (.BoolOp .Or (b :: rs) pos) mu) : SW X (.BoolOp .Or (a :: b :: rs) pos) (mOrT mt mu) := PW.imp (pw_or ha hb) fun σ H Q ⟨ρ, st, io, v, st', E, S, e, k⟩ => by
 obtain ⟨⟨x, s1⟩, e1, e⟩ := zad e
 refine ⟨ρ, st, io, x, s1, E, S, e1, fun H1 k1 X1 S1 => ?_⟩
 cases x with
 | false => rw [if_neg (by decide)]; exact zhp E S X1 S1 e k
 | true =>
   rw [if_pos rfl]
   have e' : some (true, s1) = some (v, st') := e
   cases e'
   exact k H1 k1 X1 S1
theorem zmk {n : ME} {σ : L2.St} {ρ : Rho} {Q : VK} {d : D} {s1 : Sto} (E : EnvR K H io σ ρ) (S : StR K H io st) (X1 : Ext io ka H H1) (S1 : StR K H1 (io ++ ka) s1) (e : n ρ s1 = some (d, st')) (k : Bh K io H st' d Q) : tE K n σ H1 Q :=
 ⟨ρ, s1, io ++ ka, d, st', E.ext S X1, S1, e, k.on S1 X1⟩
def mIte (c : MT) (m n : ME) : ME := fun ρ st => (c ρ st).bind fun (b, s) => if b = true then m ρ s else n ρ s
theorem znK (hc : SB X c mt) (ha : SE X a ma) (hb : SE X b mb) : SE X (.IfExp c a b pos) (mIte mt ma mb) := PE.imp (zkr hc ha hb) fun σ H Q ⟨ρ, st, io, v, st', E, S, e, k⟩ => by
 obtain ⟨⟨x, s1⟩, e1, e⟩ := zad e
 refine ⟨ρ, st, io, x, s1, E, S, e1, fun H1 k1 X1 S1 => ?_⟩
 cases x with
 | true => rw [if_pos rfl]; exact zmk E S X1 S1 e k
 | false => rw [if_neg (by decide)]; exact zmk E S X1 S1 e k
end
end L2.MP
set_option linter.unusedVariables false
namespace L2.MP
open PySem PySem.Spec PyProof.Rows
section
variable {X : Cx} {e a b c : Expr} {es : List Expr} {st1 st2 : Stmt} {rest body orelse : List Stmt} {pos : Pos} {m ma mb mc : ME} {mt mu : MT} {mm : MA} {ms mq mr : MS} {mg : MG} {mgs : MGs}
variable {K : PySem.W.Frag} {H H1 H2 : Hp} {io ka kb : List Addr} {st st' : Sto}
def mNil : MA := fun _ st => some ([], st)
def zae (m : ME) (mm : MA) : MA := fun ρ st => (m ρ st).bind fun (x, s1) => (mm ρ s1).bind fun (xs, s2) => some (x :: xs, s2)
theorem zah : SA X [] mNil := PA.imp zob fun σ H Q ⟨ρ, st, io, ds, st', E, S, e, k⟩ => by
 cases e; exact k [] H [] Ext.refl S.nil Reps.nil
theorem zaa (ha : SE X e m) (hr : SA X es mm) (hs : starEach (e :: es) X.env = (false, eval e X.env) :: starEach es X.env := by rfl) : SA X (e :: es) (zae m mm) := PA.imp (zmd ha hr hs) fun σ H Q ⟨ρ, st, io, ds, st', E, S, e, k⟩ => by
 obtain ⟨⟨x, s1⟩, e1, e⟩ := zad e
 obtain ⟨⟨xs, s2⟩, e2, e⟩ := zad e
 cases e
 refine ⟨ρ, st, io, x, s1, E, S, e1, fun v1 H1 k1 X1 S1 R1 => ⟨ρ, s1, io ++ k1, xs, _, E.ext S X1, S1, e2, fun vs H2 k2 X2 S2 R2 => ?_⟩⟩
 exact k _ H2 (k1 ++ k2) (X1.trans S1 X2) (by rw [← List.append_assoc]; exact S2) (by rw [← List.append_assoc]; exact Reps.cons (R1.ext S1 X2) R2)
def fits (n : Nat) : Bool := decide (n ≤ sizeLine)
def mTup (mm : MA) : ME := fun ρ st => (mm ρ st).bind fun (xs, s) => if fits xs.length = true then some (.tup xs, s) else none
def mLst (mm : MA) : ME := fun ρ st => (mm ρ st).bind fun (xs, s) => if fits xs.length = true then some (.ref s.length, s ++ [.lst xs]) else none
theorem zao {α : Type} {c : Prop} [Decidable c] {x : Option α} {y : α} (h : (if c then x else none) = some y) : c∧x = some y := by
 by_cases hc : c
 · rw [if_pos hc] at h; exact ⟨hc, h⟩
 · rw [if_neg hc] at h; cases h
theorem Bh.tup {ds : List D} {vs : List V} {Q : VK} {p : Addr} (k : Bh K io H st (.tup ds) Q) (S : StR K H io st) (R : Reps K H io vs ds) (hp : H p = none) : Q (.ref p) (upd H p (.tup vs)) := by
 obtain ⟨E, S'⟩ := zf6 (o := .tup vs) S hp
 refine k _ _ [] E S' ⟨p, vs, rfl, zbi, R.ext S E⟩
theorem getElem?_len {α : Type} (l : List α) (x : α) : (l ++ [x])[l.length]? = some x := by
 rw [List.getElem?_append_right (Nat.le_refl _), Nat.sub_self]; rfl
theorem Bh.lst {ds : List D} {vs : List V} {Q : VK} {p : Addr} (k : Bh K io H (st ++ [.lst ds]) (.ref st.length) Q) (S : StR K H io st) (R : Reps K H io vs ds) (hp : H p = none) : Q (.ref p) (upd H p (.lst vs)) := by
 obtain ⟨E, S'⟩ := zhu (o := .lst vs) (ob := .lst ds) S hp fun H' T e => ⟨vs, e, Reps.mono T R⟩
 exact k _ _ [p] E S' ⟨p, rfl, by rw [← S.len]; exact getElem?_len io p⟩
theorem za5 {x1} (h : SA X es mm) : SE X (.Tuple es x1 pos) (mTup mm) := PE.imp (zn5 h) fun σ H Q ⟨ρ, st, io, d, st', E, S, e, k⟩ => by
 obtain ⟨⟨xs, s1⟩, e1, e⟩ := zad e
 obtain ⟨hf, e⟩ := zao e
 cases e
 refine ⟨ρ, st, io, xs, _, E, S, e1, fun vs H1 k1 X1 S1 R1 => ⟨by rw [R1.length]; exact of_decide_eq_true hf, fun p hp => (k.on S1 X1).tup S1 R1 hp⟩⟩
theorem zbX (h : SA X es mm) : SE X (.List es pos) (mLst mm) := PE.imp (zn8 h) fun σ H Q ⟨ρ, st, io, d, st', E, S, e, k⟩ => by
 obtain ⟨⟨xs, s1⟩, e1, e⟩ := zad e
 obtain ⟨hf, e⟩ := zao e
 cases e
 refine ⟨ρ, st, io, xs, _, E, S, e1, fun vs H1 k1 X1 S1 R1 => ⟨by rw [R1.length]; exact of_decide_eq_true hf, fun p hp => (k.on S1 X1).lst S1 R1 hp⟩⟩
abbrev GN := List D→Sto→Option (D × Sto)
def rNM (K : PySem.W.Frag) (g : GN) : List V→Hp→VK→Prop := fun xs H Q => ∃ ds st io d st', Reps K H io xs ds∧StR K H io st∧g ds st = some (d, st')∧Bh K io H st' d Q
def zdC (X : Cx) (f : Value) (g : GN) : Prop := zjZ X f (rNM X.K g)
def zau (g : GN) (mm : MA) : ME := fun ρ st => (mm ρ st).bind fun (xs, s) => g xs s
theorem zeY {g : GN} {σ : L2.St} {Q : VK} (h : tE K (zau g mm) σ H Q) : tCB (rNM K g) (tA K mm) σ H Q := by
 obtain ⟨ρ, st, io, d, st', E, S, e, k⟩ := h
 obtain ⟨⟨xs, s1⟩, e1, e⟩ := zad e
 exact ⟨ρ, st, io, xs, s1, E, S, e1, fun vs H1 k1 X1 S1 R1 => ⟨xs, s1, io ++ k1, d, st', R1, S1, e, k.on S1 X1⟩⟩
theorem zaW {x : Str} {p : Pos} {id : String} {g : GN} (hc : zdC X (.builtin id) g) (hg : Gl X x) (hm : X.mg x = none) (hv : bootBuiltins x = some (.builtin id)) (ha : SA X (e :: es) mm) (hn : x ≠ "__name__" := by decide) (hdb : (x == ("__debug__" : Str)) = false := by decide)
   (he : starEach (e :: es) X.env = (false, eval e X.env) :: starEach es X.env := by rfl) (hpl : (backTo pos (starEach es X.env)).any (·.1) = false := by rfl) : SE X (.Call (.Name x p) (e :: es) [] pos) (zau g mm) :=
 PE.imp (zkv hc hg hm hv ha hn hdb he hpl) fun _ _ _ h => zeY h
theorem zbl {x : Str} {p : Pos} {T : String} {g : GN} (hc : zdC X (.type T) g) (hg : Gl X x) (hm : X.mg x = none) (hv : bootBuiltins x = some (.type T)) (ha : SA X (e :: es) mm) (hn : x ≠ "__name__" := by decide) (hdb : (x == ("__debug__" : Str)) = false := by decide)
   (he : starEach (e :: es) X.env = (false, eval e X.env) :: starEach es X.env := by rfl) (hpl : (backTo pos (starEach es X.env)).any (·.1) = false := by rfl) : SE X (.Call (.Name x p) (e :: es) [] pos) (zau g mm) :=
 PE.imp (ziN hc hg hm hv ha hn hdb he hpl) fun _ _ _ h => zeY h
def spM (K : PySem.W.Frag) (n : Nat) (g : GN) : Sp := fun vs H Q _ => ∃ ds st io d st', vs.length = n∧Reps K H io vs ds∧StR K H io st∧g ds st = some (d, st')∧Bh K io H st' d Q
theorem zlS {x : Str} {p : Pos} {k : Nat} {f : Addr} {fd : FuncData} {ps : List Str} {n : Nat} {g : GN} (F : FnOk X.prog X.w X.K X.mg X.base CX0 k f fd ps (spM X.K n g)) (hr : Room k X.A) (hg : Gl X x) (hm : X.mg x = some (.ref f)) (hk : PySem.W.keepIn X.K (.ref f) = true) (hb : Binds X.K fd ps [])
   (ha : SA X (e :: es) mm) (hdb : (x == ("__debug__" : Str)) = false := by decide) (he : starEach (e :: es) X.env = (false, eval e X.env) :: starEach es X.env := by rfl) (hpl : (backTo pos (starEach es X.env)).any (·.1) = false := by rfl) (hn : (e :: es).length = n := by rfl)
   (hl : ∀ ρ st xs s, mm ρ st = some (xs, s)→xs.length = n) :
   SE X (.Call (.Name x p) (e :: es) [] pos) (zau g mm) := PE.imp (zmc F hr hg hm hk hb .nil zpR ha hdb he hpl) fun σ H Q ⟨ρ, st, io, d, st', E, S, e, k⟩ => by
 obtain ⟨⟨xs, s1⟩, e1, e⟩ := zad e
 refine ⟨ρ, st, io, xs, s1, E, S, e1, fun vs H1 k1 X1 S1 R1 => ⟨xs, s1, io ++ k1, d, st', ?_, ?_, S1, e, k.on S1 X1⟩⟩
 · rw [List.append_nil, R1.length]; exact hl _ _ _ _ e1
 · rw [List.append_nil]; exact R1
theorem zkI {ρ : Rho} {st : Sto} {xs : List D} {s : Sto} (h : mNil ρ st = some (xs, s)) : xs.length = 0 := by cases h; rfl
theorem ziZ {ρ : Rho} {st : Sto} {xs : List D} {s : Sto} {n : Nat} (hr : ∀ ρ st xs s, mm ρ st = some (xs, s)→xs.length = n) (h : zae m mm ρ st = some (xs, s)) : xs.length = n + 1 := by
 obtain ⟨⟨x, s1⟩, e1, e⟩ := zad h
 obtain ⟨⟨ys, s2⟩, e2, e⟩ := zad e
 cases e
 rw [List.length_cons, hr _ _ _ _ e2]
def Wn (K : PySem.W.Frag) (io : List Addr) (H : Hp) (st' : Sto) (N : Ends) : Fl→Prop
 | .nx ρ' => ∀ σ' H' ka, Ext io ka H H'→StR K H' (io ++ ka) st'→EnvR K H' (io ++ ka) σ' ρ'→N.nx σ' H'
 | .bk ρ' => ∀ σ' H' ka, Ext io ka H H'→StR K H' (io ++ ka) st'→EnvR K H' (io ++ ka) σ' ρ'→N.bk σ' H'
 | .ct ρ' => ∀ σ' H' ka, Ext io ka H H'→StR K H' (io ++ ka) st'→EnvR K H' (io ++ ka) σ' ρ'→N.ct σ' H'
 | .rt d => Bh K io H st' d N.rt
theorem zcI {N : Ends} {σ : L2.St} {H : Hp} : tS K ms N σ H ↔ ∃ ρ st io f st', EnvR K H io σ ρ∧StR K H io st∧ms ρ st = some (f, st')∧Wn K io H st' N f := by
 constructor
 · rintro ⟨ρ, st, io, f, st', E, S, e, k⟩
   exact ⟨ρ, st, io, f, st', E, S, e, by cases f <;> exact k⟩
 · rintro ⟨ρ, st, io, f, st', E, S, e, k⟩
   exact ⟨ρ, st, io, f, st', E, S, e, by cases f <;> exact k⟩
theorem zeM {P : L2.St→Hp→Prop} {ρ' : Rho} (h : ∀ σ' H' ka, Ext io ka H H'→StR K H' (io ++ ka) st'→EnvR K H' (io ++ ka) σ' ρ'→P σ' H') (X1 : Ext io ka H H1) (S1 : StR K H1 (io ++ ka) st) :
   ∀ σ' H' kb, Ext (io ++ ka) kb H1 H'→StR K H' ((io ++ ka) ++ kb) st'→EnvR K H' ((io ++ ka) ++ kb) σ' ρ'→P σ' H' := fun σ' H' kb E' S' R' =>
 h σ' H' (ka ++ kb) (X1.trans S1 E') (by rw [← List.append_assoc]; exact S') (by rw [← List.append_assoc]; exact R')
theorem Wn.on {N : Ends} {f : Fl} (h : Wn K io H st' N f) (X1 : Ext io ka H H1) (S1 : StR K H1 (io ++ ka) st) : Wn K (io ++ ka) H1 st' N f := by
 cases f with
 | nx ρ' => exact zeM h X1 S1
 | bk ρ' => exact zeM h X1 S1
 | ct ρ' => exact zeM h X1 S1
 | rt d => exact Bh.on h S1 X1
theorem zlk {N : Ends} {σ : L2.St} {ρ : Rho} {f : Fl} (E : EnvR K H io σ ρ) (S : StR K H io st) (e : ms ρ st = some (f, st')) (w : Wn K io H st' N f) : tS K ms N σ H := zcI.mpr ⟨ρ, st, io, f, st', E, S, e, w⟩
theorem znq {N : Ends} {σ : L2.St} {ρ : Rho} {f : Fl} {s1 : Sto} (X1 : Ext io ka H H1) (S1 : StR K H1 (io ++ ka) s1) (E : EnvR K H1 (io ++ ka) σ ρ) (e : ms ρ s1 = some (f, st')) (w : Wn K io H st' N f) : tS K ms N σ H1 :=
 zlk E S1 e (w.on X1 S1)
def zdN : MS := fun ρ st => some (.nx ρ, st)
theorem zbx : SSs X [] zdN := PSs.imp zl2 fun N σ H h => by
 obtain ⟨ρ, st, io, f, st', E, S, e, w⟩ := zcI.mp h
 cases e
 exact w σ H [] Ext.refl S.nil (by rw [List.append_nil]; exact E)
def mSeq (m n : MS) : MS := fun ρ st => (m ρ st).bind fun (f, s) => match f with
 | .nx ρ1 => n ρ1 s
 | f => some (f, s)
theorem zai (h1 : SS X st1 ms) (h2 : SSs X rest mq) : SSs X (st1 :: rest) (mSeq ms mq) := PSs.imp (zkl h1 h2) fun N σ H h => by
 obtain ⟨ρ, st, io, f, st', E, S, e, w⟩ := zcI.mp h
 obtain ⟨⟨f1, s1⟩, e1, e⟩ := zad e
 refine zlk E S e1 ?_
 cases f1 with
 | nx ρ1 => exact fun σ' H' ka X' S' R' => znq X' S' R' e w
 | bk ρ1 => cases e; exact w
 | ct ρ1 => cases e; exact w
 | rt d => cases e; exact w
theorem zan (h1 : SS X st1 ms) : SSs X [st1] ms := zl1 h1
def mExp (m : ME) : MS := fun ρ st => (m ρ st).map fun (_, s) => (.nx ρ, s)
def mRet (m : ME) : MS := fun ρ st => (m ρ st).map fun (d, s) => (.rt d, s)
theorem zag {α β : Type} {x : Option α} {f : α→β} {y : β} (h : x.map f = some y) : ∃ z, x = some z∧f z = y := by
 cases x with
 | none => cases h
 | some z => exact ⟨z, rfl, Option.some.inj h⟩
theorem zck (he : SE X e m) (hs : swapsWith e none pos.line X.env = pure false := by rfl) : SS X (.Expr e pos) (mExp m) := PS.imp (zl3 he hs) fun N σ H h => by
 obtain ⟨ρ, st, io, f, st', E, S, e, w⟩ := zcI.mp h
 obtain ⟨⟨d, s1⟩, e1, e⟩ := zag e
 cases e
 exact ⟨ρ, st, io, d, _, E, S, e1, fun v H' ka X' S' R' => w σ H' ka X' S' (E.ext S X')⟩
theorem zbh (he : SE X e m) : SS X (.Return (some e) pos) (mRet m) := PS.imp (znV he) fun N σ H h => by
 obtain ⟨ρ, st, io, f, st', E, S, e, w⟩ := zcI.mp h
 obtain ⟨⟨d, s1⟩, e1, e⟩ := zag e
 cases e
 exact ⟨ρ, st, io, d, _, E, S, e1, w⟩
def mIf (c : MT) (m n : MS) : MS := fun ρ st => (c ρ st).bind fun (b, s) => if b = true then m ρ s else n ρ s
theorem ze9 (hc : SB X c mt) (h1 : SSs X body ms) (h2 : SSs X orelse mq) : SS X (.If c body orelse pos) (mIf mt ms mq) := PS.imp (zpM hc h1 h2) fun N σ H h => by
 obtain ⟨ρ, st, io, f, st', E, S, e, w⟩ := zcI.mp h
 obtain ⟨⟨x, s1⟩, e1, e⟩ := zad e
 refine ⟨ρ, st, io, x, s1, E, S, e1, fun H1 k1 X1 S1 => ?_⟩
 cases x with
 | true => rw [if_pos rfl]; exact znq X1 S1 (E.ext S X1) e w
 | false => rw [if_neg (by decide)]; exact znq X1 S1 (E.ext S X1) e w
def gNm (i : Nat) : MG := fun d ρ st => some (ρ.set i (some d), st)
theorem zav {i : Nat} {x : Str} (hN : X.N.Nodup) (hi : X.N[i]? = some x) (hx : Loc X.env.scope x) (hf : X.fn x = true ∨ X.env.scope.names.lookup x = some .local := by first | exact .inl rfl | exact .inr rfl | assumption) : SG X (.Name x pos) (gNm i) :=
 PG.imp (zl9 hN hi hx hf) fun v σ H Q ⟨d, ρ, st, io, ρ', st', R, E, S, e, k⟩ => by
   cases e
   exact k _ H [] Ext.refl S.nil (by rw [List.append_nil]; exact E.set i R)
def gN0 : MGs := fun ds ρ st => match ds with
 | [] => some (ρ, st)
 | _ => none
def gC (g : MG) (h : MGs) : MGs := fun ds ρ st => match ds with
 | d :: r => (g d ρ st).bind fun (ρ1, s1) => h r ρ1 s1
 | [] => none
theorem zdk : SGs X [] gN0 := PGs.imp zl8 fun v σ H Q ⟨ds, ρ, st, io, ρ', st', R, E, S, e, k⟩ => by
 cases ds with
 | nil => cases e; exact ⟨R, k σ H [] Ext.refl S.nil (by rw [List.append_nil]; exact E)⟩
 | cons d r => cases e
theorem za4 (h1 : SG X e mg) (h2 : SGs X es mgs) (hs : (assignEach (e :: es) X.env).map (·.2) = assign e X.env :: (assignEach es X.env).map (·.2) := by rfl) : SGs X (e :: es) (gC mg mgs) :=
 PGs.imp (zkq h1 h2 hs) fun v σ H Q ⟨ds, ρ, st, io, ρ', st', R, E, S, e, k⟩ => by
   cases ds with
   | nil => cases e
   | cons d r =>
     obtain ⟨y, ys, rfl, r1, rs⟩ := R
     obtain ⟨⟨ρ1, s1⟩, e1, e⟩ := zad e
     refine ⟨y, ys, rfl, d, ρ, st, io, ρ1, s1, r1, E, S, e1, fun σ1 H1 k1 X1 S1 E1 => ?_⟩
     exact ⟨r, ρ1, s1, io ++ k1, ρ', st', rs.ext S X1, E1, S1, e, zeM k X1 S1⟩
def gTp (n : Nat) (h : MGs) : MG := fun d ρ st => match d with
 | .tup ds => if ds.length = n then h ds ρ st else none
 | _ => none
theorem zfi {k : Nat} {n : Nat} (hc : X.calm = true) (h : SGs X es mgs) (hn : (assignEach es X.env).length = n := by rfl) (hst : (assignEach es X.env).findIdx? (·.1) = none := by rfl) : SG X (.Tuple es k pos) (gTp n mgs) :=
 PG.imp (zn2 hc h hn hst) fun v σ H Q ⟨d, ρ, st, io, ρ', st', R, E, S, e, k⟩ => by
   cases d with
   | tup ds =>
     obtain ⟨a, xs, rfl, hq, rs⟩ := R
     obtain ⟨hl, e⟩ := zao e
     exact ⟨a, xs, rfl, SqT.of hq, by rw [rs.length]; exact hl, ds, ρ, st, io, ρ', st', rs, E, S, e, k⟩
   | _ => cases e
abbrev G3 := D→D→D→Sto→Option Sto
def zpw (K : PySem.W.Frag) (g : G3) : TSet := fun o i v H Q => ∃ d1 d2 d3 st io st', Rep K H io o d1∧Rep K H io i d2∧Rep K H io v d3∧StR K H io st∧g d1 d2 d3 st = some st'∧∀ H' ka, Ext io ka H H'→StR K H' (io ++ ka) st'→Q H'
def SetM (X : Cx) (g : G3) : Prop := PSet X (zpw X.K g)
def gSb (g : G3) (mo mi : ME) : MG := fun d ρ st => (mo ρ st).bind fun (o, s1) => (mi ρ s1).bind fun (i, s2) => (g o i d s2).map fun s3 => (ρ, s3)
theorem znG {o i : Expr} {mo mi : ME} {g : G3} (ho : SE X o mo) (hi : SE X i mi) (hs : SetM X g)
   (ha : ∀ v, assign (.Subscript o i pos) X.env v = (do
     let ov ← holding [v] (eval o X.env)
     let iv ← holding [v, ov] (eval i X.env)
     standAt pos
     holding [v, ov, iv] (setItem ov iv v)
     release [v, ov, iv] []) := by intro _; rfl) : SG X (.Subscript o i pos) (gSb g mo mi) :=
 PG.imp (zn3 ho hi hs ha) fun v σ H Q ⟨d, ρ, st, io, ρ', st', R, E, S, e, k⟩ => by
   obtain ⟨⟨x, s1⟩, e1, e⟩ := zad e
   obtain ⟨⟨y, s2⟩, e2, e⟩ := zad e
   obtain ⟨s3, e3, e⟩ := zag e
   cases e
   refine ⟨ρ, st, io, x, s1, E, S, e1, fun v1 H1 k1 X1 S1 R1 => ⟨ρ, s1, io ++ k1, y, s2, E.ext S X1, S1, e2, fun v2 H2 k2 X2 S2 R2 => ?_⟩⟩
   have X12 := X1.trans S1 X2
   refine ⟨x, y, d, s2, (io ++ k1) ++ k2, _, R1.ext S1 X2, R2, (R.ext S X1).ext S1 X2, S2, e3, fun H3 k3 X3 S3 => ?_⟩
   rw [List.append_assoc] at X3 S2
   rw [List.append_assoc, List.append_assoc] at S3
   refine k σ H3 ((k1 ++ k2) ++ k3) (X12.trans S2 X3) (by simpa using S3) ?_
   have E2 : EnvR X.K H2 (io ++ (k1 ++ k2)) σ ρ := E.ext S X12
   have := E2.ext S2 X3
   simpa using this
def mAsg (m : ME) (g : MG) : MS := fun ρ st => (m ρ st).bind fun (d, s1) => (g d ρ s1).map fun (ρ', s2) => (.nx ρ', s2)
theorem zjn {N : Ends} {σ : L2.St} {H : Hp} (h : tS K (mAsg m mg) N σ H) : tAsg (tE K m) (tG K mg) N σ H := by
 obtain ⟨ρ, st, io, f, st', E, S, e, w⟩ := zcI.mp h
 obtain ⟨⟨x, s1⟩, e1, e⟩ := zad e
 obtain ⟨⟨ρ', s2⟩, e2, e⟩ := zag e
 cases e
 exact ⟨ρ, st, io, x, s1, E, S, e1, fun v1 H1 k1 X1 S1 R1 => ⟨x, ρ, s1, io ++ k1, ρ', _, R1, E.ext S X1, S1, e2, zeM w X1 S1⟩⟩
theorem zj6 {tg : Expr} (he : SE X e m) (hg : SG X tg mg) (hs : swapsWithSole [tg] e pos.line X.env = pure false := by rfl) (hw : swappedStores [tg] e X.env = pure none := by rfl)
   (h1 : (assignEach [tg] X.env).map (·.2) = [assign tg X.env] := by rfl) : SS X (.Assign [tg] e pos) (mAsg m mg) := PS.imp (znY he hg hs hw h1) fun _ _ _ h => zjn h
theorem zaP {i : Nat} {x : Str} {pos' : Pos} (hN : X.N.Nodup) (hi : X.N[i]? = some x) (hx : Loc X.env.scope x) (he : SE X e m) (hs : swapsWith e (some (.Name x pos')) pos.line X.env = pure false := by rfl) (hf : X.fn x = true ∨ X.env.scope.names.lookup x = some .local := by first | exact .inl rfl | exact .inr rfl | assumption) :
   SS X (.Assign [.Name x pos'] e pos) (mAsg m (gNm i)) := PS.imp (znU hN hi hx he hs hf) fun N σ H h => by
 obtain ⟨ρ, st, io, f, st', E, S, e, w⟩ := zcI.mp h
 obtain ⟨⟨x, s1⟩, e1, e⟩ := zad e
 obtain ⟨⟨ρ', s2⟩, e2, e⟩ := zag e
 cases e
 cases e2
 exact ⟨ρ, st, io, x, _, E, S, e1, fun v1 H1 k1 X1 S1 R1 => w _ H1 k1 X1 S1 ((E.ext S X1).set i R1)⟩
structure Wk where
 ds : List D
 g : List (Nat × List D)
def stays (W : Wk) (st : Sto) : Prop := ∀ p, p ∈ W.g→st[p.1]? = some (.lst p.2) ∨ st[p.1]? = some (.fz p.2)
structure ItOk (K : PySem.W.Frag) (H0 : Hp) (io : List Addr) (W : Wk) (J : It) : Prop where
 go : ∀ i d H ka st, W.ds[i]? = some d→Ext io ka H0 H→StR K H (io ++ ka) st→stays W st→J.go i H∧∀ x H', J.yld i H x H'→Ext (io ++ ka) [] H H'∧StR K H' (io ++ ka) st∧Rep K H' (io ++ ka) x d
 stop : ∀ H ka st, Ext io ka H0 H→StR K H (io ++ ka) st→stays W st→J.stop W.ds.length H
 stop' : ∀ H ka st i, W.ds.length ≤ i→Ext io ka H0 H→StR K H (io ++ ka) st→stays W st→J.stop i H
abbrev MI := Rho→Sto→Option (Wk × Sto)
def tI (K : PySem.W.Frag) (m : MI) : TI := fun σ H R => ∃ ρ st io W st', EnvR K H io σ ρ∧StR K H io st∧m ρ st = some (W, st')∧∀ J H' ka, Ext io ka H H'→StR K H' (io ++ ka) st'→ItOk K H' (io ++ ka) W J→R J H'
def SI (X : Cx) (tg iter : Expr) (m : MI) : Prop := PI X tg iter (tI X.K m)
theorem PI.imp {tg iter : Expr} {t u : TI} (h : PI X tg iter t) (k : ∀ σ H R, u σ H R→t σ H R) : PI X tg iter u := fun pins s σ H R I q => h pins s σ H R I (k σ H R q)
end
end L2.MP
namespace L2.MP
open PySem PySem.Spec PyProof.Rows
mutual
def D.eqb : D→D→Bool
 | .non, .non => true
 | .bl a, .bl b => a == b
 | .int a, .int b => decide (a = b)
 | .str a, .str b => decide (a = b)
 | .tup a, .tup b => D.eqbs a b
 | .ref a, .ref b => decide (a = b)
 | .kl a, .kl b => D.eqbs a b
 | _, _ => false
def D.eqbs : List D→List D→Bool
 | [], [] => true
 | a :: as, b :: bs => D.eqb a b && D.eqbs as bs
 | _, _ => false
end
mutual
theorem D.eqb_refl : ∀ a : D, D.eqb a a = true
 | .non => rfl
 | .bl a => by simp [D.eqb]
 | .int a => by simp [D.eqb]
 | .str a => by simp [D.eqb]
 | .tup a => by rw [D.eqb]; exact D.eqbs_refl a
 | .ref a => by simp [D.eqb]
 | .kl a => by rw [D.eqb]; exact D.eqbs_refl a
theorem D.eqbs_refl : ∀ a : List D, D.eqbs a a = true
 | [] => rfl
 | a :: as => by rw [D.eqbs, D.eqb_refl a, D.eqbs_refl as]; rfl
end
mutual
theorem D.eq_of : ∀ {a b : D}, D.eqb a b = true→a = b
 | .non, b, h => by cases b <;> simp [D.eqb] at h ⊢
 | .bl a, b, h => by cases b <;> simp [D.eqb] at h ⊢; exact h
 | .int a, b, h => by cases b <;> simp [D.eqb] at h ⊢; exact h
 | .str a, b, h => by cases b <;> simp [D.eqb] at h ⊢; exact h
 | .tup a, .tup b, h => by rw [D.eqb] at h; rw [D.eqs_of h]
 | .tup a, .non, h => by simp [D.eqb] at h
 | .tup a, .bl _, h => by simp [D.eqb] at h
 | .tup a, .int _, h => by simp [D.eqb] at h
 | .tup a, .str _, h => by simp [D.eqb] at h
 | .tup a, .ref _, h => by simp [D.eqb] at h
 | .tup a, .kl _, h => by simp [D.eqb] at h
 | .kl a, .kl b, h => by rw [D.eqb] at h; rw [D.eqs_of h]
 | .kl a, .non, h => by simp [D.eqb] at h
 | .kl a, .bl _, h => by simp [D.eqb] at h
 | .kl a, .int _, h => by simp [D.eqb] at h
 | .kl a, .str _, h => by simp [D.eqb] at h
 | .kl a, .ref _, h => by simp [D.eqb] at h
 | .kl a, .tup _, h => by simp [D.eqb] at h
 | .ref a, b, h => by cases b <;> simp [D.eqb] at h ⊢; exact h
theorem D.eqs_of : ∀ {a b : List D}, D.eqbs a b = true→a = b
 | [], [], _ => rfl
 | [], _ :: _, h => by simp [D.eqbs] at h
 | _ :: _, [], h => by simp [D.eqbs] at h
 | a :: as, b :: bs, h => by
   rw [D.eqbs, Bool.and_eq_true] at h
   rw [D.eq_of h.1, D.eqs_of h.2]
end
instance : DecidableEq D := fun a b => if h : D.eqb a b = true then .isTrue (D.eq_of h) else .isFalse fun e => h (by rw [e]; exact D.eqb_refl b)
def zhN (st : Sto) (n : Nat) (ds : List D) : Bool := match st[n]? with
 | some (.lst xs) => D.eqbs xs ds
 | some (.fz xs) => D.eqbs xs ds
 | _ => false
theorem zja {st : Sto} {n : Nat} {ds : List D} (h : zhN st n ds = true) : st[n]? = some (.lst ds) ∨ st[n]? = some (.fz ds) := by
 unfold zhN at h
 split at h
 · rename_i xs e; rw [D.eqs_of h] at e; exact .inl e
 · rename_i xs e; rw [D.eqs_of h] at e; exact .inr e
 · cases h
theorem zhM {st : Sto} {n : Nat} {ds : List D} (h : st[n]? = some (.lst ds)) : zhN st n ds = true := by unfold zhN; rw [h]; exact D.eqbs_refl ds
section
variable {X : Cx} {e a b c : Expr} {es : List Expr} {st1 st2 : Stmt} {rest body orelse : List Stmt} {pos : Pos} {m ma mb mc : ME} {mt mu : MT} {mm : MA} {ms mq mr : MS} {mg : MG} {mgs : MGs} {mi : MI}
variable {K : PySem.W.Frag} {H H1 H2 : Hp} {io ka kb : List Addr} {st st' : Sto}
def walked (W : Wk) (st : Sto) : Bool := W.g.all fun p => zhN st p.1 p.2
theorem zcw {W : Wk} (h : walked W st = true) : stays W st := fun p hp => zja (List.all_eq_true.mp h p hp)
def zhA (W : Wk) (g : MG) (m : MS) : List D→Rho→Sto→Option (Fl × Sto)
 | [], ρ, st => if walked W st = true then some (.nx ρ, st) else none
 | d :: ds, ρ, st => if walked W st = true then (g d ρ st).bind fun (ρ1, s1) => (m ρ1 s1).bind fun (f, s2) => match f with
   | .nx ρ2 => zhA W g m ds ρ2 s2
   | .ct ρ2 => zhA W g m ds ρ2 s2
   | .bk ρ2 => some (.nx ρ2, s2)
   | .rt d => some (.rt d, s2) else none
def mFor (mi : MI) (g : MG) (m : MS) : MS := fun ρ st => (mi ρ st).bind fun (W, s) => zhA W g m W.ds ρ s
theorem zcm {tg iter : Expr} (hp : PassesOwn (model X.prog X.w) X.A X.env X.xe) (hc : X.calm = true) (hi : SI X tg iter mi) (hg : SG X tg mg) (hb : SSs X body ms)
   (hs : ∀ x, foldedSetIterable iter X.env x = pure x := by intro _; rfl) : SS X (.For tg iter body [] pos) (mFor mi mg ms) := PS.imp (znX hp hc hi hg hb hs) fun N σ H h => by
 obtain ⟨ρ, st, io, f, st', E, S, e, w⟩ := zcI.mp h
 obtain ⟨⟨W, s1⟩, e1, e⟩ := zad e
 refine ⟨ρ, st, io, W, s1, E, S, e1, fun J H1 k1 X1 S1 IO => ?_⟩
 refine ⟨fun i n σ2 H2 => n = W.ds.length - i∧∃ ρ2 s2 k2, Ext (io ++ k1) k2 H1 H2∧StR X.K H2 ((io ++ k1) ++ k2) s2∧EnvR X.K H2 ((io ++ k1) ++ k2) σ2 ρ2∧zhA W mg ms (W.ds.drop i) ρ2 s2 = some (f, st'),
   ⟨_, rfl, ρ, s1, [], Ext.refl, by rw [List.append_nil]; exact S1, by rw [List.append_nil]; exact E.ext S X1, by rw [List.drop_zero]; exact e⟩, ?_⟩
 rintro i n σ2 H2 ⟨rfl, ρ2, s2, k2, X2, S2, E2, e2⟩
 have w2 : Wn X.K ((io ++ k1) ++ k2) H2 st' N f := (w.on X1 S1).on X2 S2
 cases hd : W.ds[i]? with
 | none =>
   have hl : W.ds.length ≤ i := List.getElem?_eq_none_iff.mp hd
   rw [List.drop_eq_nil_of_le hl] at e2
   obtain ⟨hw, e2⟩ := zao e2
   cases e2
   refine .inl ⟨?_, w2 σ2 H2 [] Ext.refl S2.nil (by rw [List.append_nil]; exact E2)⟩
   -- the end may lie behind
   by_cases hi : i = W.ds.length
   · rw [hi]; exact IO.stop H2 k2 _ X2 S2 (zcw hw)
   · exact IO.stop' H2 k2 _ i hl X2 S2 (zcw hw)
 | some d =>
   have hl : i < W.ds.length := (List.getElem?_eq_some_iff.mp hd).1
   have hdr : W.ds.drop i = d :: W.ds.drop (i + 1) := by
     rw [List.drop_eq_getElem_cons hl, (List.getElem?_eq_some_iff.mp hd).2]
   rw [hdr] at e2
   obtain ⟨hw, e2⟩ := zao e2
   obtain ⟨⟨ρ3, s3⟩, e3, e2⟩ := zad e2
   obtain ⟨⟨f4, s4⟩, e4, e2⟩ := zad e2
   obtain ⟨go, yl⟩ := IO.go i d H2 k2 s2 hd X2 S2 (zcw hw)
   refine .inr ⟨go, fun σ5 H5 => ∃ ρ5 s5 k5, Ext (io ++ k1) k5 H1 H5∧StR X.K H5 ((io ++ k1) ++ k5) s5∧EnvR X.K H5 ((io ++ k1) ++ k5) σ5 ρ5∧zhA W mg ms (W.ds.drop (i + 1)) ρ5 s5 = some (f, st'),
     fun σ5 H5 h5 => ⟨W.ds.length - (i + 1), by omega, rfl, h5⟩, fun x H' y => ?_⟩
   obtain ⟨X3, S3, R3⟩ := yl x H' y
   have X23 : Ext (io ++ k1) k2 H1 H' := (X2.trans S2 X3).app
   refine ⟨d, ρ2, s2, (io ++ k1) ++ k2, ρ3, s3, R3, ?_, S3, e3, fun σ6 H6 k6 X6 S6 E6 => ?_⟩
   · have := E2.ext S2 X3
     rw [List.append_nil] at this
     exact this
   · refine zlk E6 S6 e4 ?_
     have X26 := X23.trans S3 X6
     have S6' : StR X.K H6 ((io ++ k1) ++ (k2 ++ k6)) s3 := by rw [← List.append_assoc]; exact S6
     have fin : ∀ {ρ7 : Rho}, zhA W mg ms (W.ds.drop (i + 1)) ρ7 s4 = some (f, st')→∀ σ7 H7 k7, Ext ((io ++ k1) ++ k2 ++ k6) k7 H6 H7→StR X.K H7 ((io ++ k1) ++ k2 ++ k6 ++ k7) s4→EnvR X.K H7 ((io ++ k1) ++ k2 ++ k6 ++ k7) σ7 ρ7 →
         ∃ ρ5 s5 k5, Ext (io ++ k1) k5 H1 H7∧StR X.K H7 ((io ++ k1) ++ k5) s5∧EnvR X.K H7 ((io ++ k1) ++ k5) σ7 ρ5∧zhA W mg ms (W.ds.drop (i + 1)) ρ5 s5 = some (f, st') := by
       intro ρ7 e7 σ7 H7 k7 X7 S7 E7
       rw [List.append_assoc (io ++ k1)] at X7
       rw [List.append_assoc (io ++ k1), List.append_assoc (io ++ k1)] at S7 E7
       exact ⟨ρ7, s4, (k2 ++ k6) ++ k7, X26.trans S6' X7, S7, E7, e7⟩
     cases f4 with
     | nx ρ7 => exact fin e2
     | ct ρ7 => exact fin e2
     | bk ρ7 =>
       cases e2
       exact ((w.on X1 S1).on X23 S3).on X6 S6
     | rt dd =>
       cases e2
       exact ((w.on X1 S1).on X23 S3).on X6 S6
end
end L2.MP
namespace L2.MP
open PySem PySem.Spec PyProof.Rows
section
variable {X : Cx} {e a b c : Expr} {es : List Expr} {st1 st2 : Stmt} {rest body orelse : List Stmt} {pos : Pos} {m ma mb mc : ME} {mt mu : MT} {mm : MA} {ms mq mr : MS} {mg : MG} {mgs : MGs} {mi : MI}
variable {K : PySem.W.Frag} {H H1 H2 : Hp} {io ka kb : List Addr} {st st' : Sto}
theorem zeq {ρ : Rho} {x : D} {xs : List D} {s s1 s2 : Sto} (h1 : m ρ s = some (x, s1)) (h2 : mm ρ s1 = some (xs, s2)) : zae m mm ρ s = some (x :: xs, s2) := by
 unfold zae
 rw [h1]
 show Option.bind (mm ρ s1) _ = _
 rw [h2]
 rfl
def zbj (st : Sto) (n : Nat) : Option (List D) := match st[n]? with
 | some (.lst ds) => some ds
 | some (.fz ds) => some ds
 | _ => none
theorem zaX {n : Nat} {p : Addr} {ds : List D} (S : StR K H io st) (hn : io[n]? = some p) (h : zbj st n = some ds) : ∃ xs, SqL K H p xs∧Reps K H io xs ds := by
 unfold zbj at h
 split at h
 · rename_i o he
   cases h
   obtain ⟨xs, e, r⟩ := S.ob n p _ hn he
   exact ⟨xs, SqL.of e, r⟩
 · rename_i o he
   cases h
   obtain ⟨ob, xs, e, r⟩ := S.ob n p _ hn he
   exact ⟨xs, .inl (.inr ⟨ob, e⟩), r⟩
 · cases h
theorem zcR {n : Nat} {ds : List D} {W : Wk} (hm : (n, ds) ∈ W.g) (h : stays W st) : zbj st n = some ds := by
 unfold zbj
 rcases h _ hm with h | h
 · have h : st[n]? = some (.lst ds) := h
   rw [h]
 · have h : st[n]? = some (.fz ds) := h
   rw [h]
def mWL (m : ME) : MI := fun ρ st => (m ρ st).bind fun (d, s) => match d with
 | .ref n => (zbj s n).map fun ds => (⟨ds, [(n, ds)]⟩, s)
 | _ => none
def mWT (m : ME) : MI := fun ρ st => (m ρ st).bind fun (d, s) => match d with
 | .tup ds => some (⟨ds, []⟩, s)
 | _ => none
theorem za6 {io ka : List Addr} {n : Nat} {p : Addr} (h : io[n]? = some p) : (io ++ ka)[n]? = some p := by
 rw [List.getElem?_append_left (List.getElem?_eq_some_iff.mp h).1]; exact h
theorem zoF {n : Nat} {p : Addr} {ds : List D} (hn : io[n]? = some p) : ItOk K H io ⟨ds, [(n, ds)]⟩ (Itl K p) where
 go := fun i d H1 k1 s hd X1 S1 hs => by
   obtain ⟨xs, hx, r⟩ := zaX S1 (za6 hn) (zcR List.mem_cons_self hs)
   obtain ⟨v, hv, rv⟩ := r.get hd
   refine ⟨⟨xs, v, hx, hv⟩, fun x H' y => ?_⟩
   obtain ⟨rfl, y⟩ := y
   have e := y xs hx
   rw [hv] at e
   cases e
   exact ⟨Ext.refl, S1, rv⟩
 stop := fun H1 k1 s X1 S1 hs => by
   obtain ⟨xs, hx, r⟩ := zaX S1 (za6 hn) (zcR List.mem_cons_self hs)
   exact ⟨xs, hx, by rw [r.length]; exact Nat.le_refl _⟩
 stop' := fun H1 k1 s i hi X1 S1 hs => by
   obtain ⟨xs, hx, r⟩ := zaX S1 (za6 hn) (zcR List.mem_cons_self hs)
   exact ⟨xs, hx, by rw [r.length]; exact hi⟩
theorem zlM {tg l : Expr} (hl : SE X l m) : SI X tg l (mWL m) := PI.imp (zl7 hl) fun σ H R ⟨ρ, st, io, W, st', E, S, e, k⟩ => by
 obtain ⟨⟨d, s1⟩, e1, e⟩ := zad e
 dsimp only at e
 split at e
 · rename_i n
   obtain ⟨ds, e2, e⟩ := zag e
   cases e
   refine ⟨ρ, st, io, _, _, E, S, e1, fun v H1 k1 X1 S1 R1 => ?_⟩
   obtain ⟨p, rfl, hn⟩ := R1
   obtain ⟨xs, hx, r⟩ := zaX S1 hn e2
   exact ⟨p, rfl, ⟨xs, hx⟩, k _ H1 k1 X1 S1 (zoF hn)⟩
 · cases e
theorem zoD {st : Sto} {p : Addr} {xs : List V} {ds : List D} (S : StR K H io st) (hp : H p = some (.tup xs)) (r : Reps K H io xs ds) : ItOk K H io ⟨ds, []⟩ (Itt K p) where
 go := fun i d H1 k1 s hd X1 S1 hs => by
   obtain ⟨v, hv, rv⟩ := (r.ext S X1).get hd
   have hx : SqT K H1 p xs := SqT.of (X1.sqT S p xs hp)
   refine ⟨⟨xs, v, hx, hv⟩, fun x H' y => ?_⟩
   obtain ⟨rfl, y⟩ := y
   have e := y xs hx
   rw [hv] at e
   cases e
   exact ⟨Ext.refl, S1, rv⟩
 stop := fun H1 k1 s X1 S1 hs => ⟨xs, SqT.of (X1.sqT S p xs hp), by rw [r.length]; exact Nat.le_refl _⟩
 stop' := fun H1 k1 s i hi X1 S1 hs => ⟨xs, SqT.of (X1.sqT S p xs hp), by rw [r.length]; exact hi⟩
theorem znE {tg l : Expr} (hl : SE X l m) : SI X tg l (mWT m) := PI.imp (zn0 hl) fun σ H R ⟨ρ, st, io, W, st', E, S, e, k⟩ => by
 obtain ⟨⟨d, s1⟩, e1, e⟩ := zad e
 dsimp only at e
 split at e
 · rename_i ds
   cases e
   refine ⟨ρ, st, io, _, _, E, S, e1, fun v H1 k1 X1 S1 R1 => ?_⟩
   obtain ⟨p, xs, rfl, hp, r⟩ := R1
   exact ⟨p, rfl, ⟨xs, SqT.of hp⟩, k _ H1 k1 X1 S1 (zoD S1 hp r)⟩
 · cases e
def run (lo : Int) (n : Nat) : List D := (List.range n).map fun (k : Nat) => D.int (lo + (k : Int))
theorem zbz (lo : Int) (n : Nat) : (run lo n).length = n := by unfold run; rw [List.length_map, List.length_range]
theorem run_get {lo : Int} {n i : Nat} {d : D} (h : (run lo n)[i]? = some d) : i < n∧d = .int (lo + (i : Int)) := by
 have hi : i < n := by
   have q := (List.getElem?_eq_some_iff.mp h).1
   rwa [zbz] at q
 unfold run at h
 rw [List.getElem?_map, List.getElem?_range hi] at h
 exact ⟨hi, (Option.some.inj h).symm⟩
theorem zoE (lo : Int) (n : Nat) : ItOk K H io ⟨run lo n, []⟩ (Itr lo n) where
 go := fun i d H1 k1 s hd X1 S1 hs => by
   obtain ⟨hi, rfl⟩ := run_get hd
   refine ⟨hi, fun x H' y => ?_⟩
   obtain ⟨rfl, rfl⟩ := y
   exact ⟨Ext.refl, S1, rfl⟩
 stop := fun H1 k1 s X1 S1 hs => by
   show n ≤ _
   rw [zbz]; exact Nat.le_refl _
 stop' := fun H1 k1 s i hi X1 S1 hs => by
   show n ≤ i
   have hi : (run lo n).length ≤ i := hi
   rwa [zbz] at hi
def small (j : Int) : Bool := decide (-(2 ^ 62) ≤ j) && decide (j < 2 ^ 62)
theorem zg7 {j : Int} (h : small j = true) : -(2 ^ 62) ≤ j∧j < 2 ^ 62 := by
 unfold small at h
 rw [Bool.and_eq_true] at h
 exact ⟨of_decide_eq_true h.1, of_decide_eq_true h.2⟩
def mR1 (m : ME) : MI := fun ρ st => (m ρ st).bind fun (d, s) => match d with
 | .int j => if small j = true then some (⟨run 0 j.toNat, []⟩, s) else none
 | _ => none
theorem zaQ {tg a : Expr} {p pos : Pos} (hg : Gl X "range") (hm : X.mg "range" = none) (ha : SE X a m) (hs : starEach [a] X.env = [(false, eval a X.env)] := by rfl) : SI X tg (.Call (.Name "range" p) [a] [] pos) (mR1 m) :=
 PI.imp (ziM hg hm (zaa ha zah hs) hs) fun σ H R ⟨ρ, st, io, W, st', E, S, e, k⟩ => by
   obtain ⟨⟨d, s1⟩, e1, e⟩ := zad e
   dsimp only at e
   split at e
   · rename_i j
     obtain ⟨hj, e⟩ := zao e
     cases e
     refine ⟨ρ, st, io, [.int j], _, E, S, (zeq e1 rfl), fun vs H1 k1 X1 S1 R1 => ?_⟩
     obtain ⟨v, rfl, rfl⟩ := R1.one
     exact ⟨j, rfl, (zg7 hj).1, (zg7 hj).2, k _ H1 k1 X1 S1 (zoE 0 _)⟩
   · cases e
end
def rho (n : Nat) (ds : List D) : Rho := ds.map some ++ List.replicate (n - ds.length) none
def fnM (n : Nat) (m : MS) : GN := fun ds st => (m (rho n ds) st).bind fun (f, s) => match f with
 | .rt d => some (d, s)
 | .nx _ => some (.non, s)
 | _ => none
theorem zjd {K : PySem.W.Frag} {H : Hp} {io : List Addr} {N : List Str} {vs : List V} {ds : List D} (R : Reps K H io vs ds) : EnvR K H io (start N vs) (rho N.length ds) := by
 have hl := R.length
 refine ⟨by unfold start rho; simp [hl], fun i d h => ?_⟩
 unfold rho at h
 unfold start
 by_cases hi : i < ds.length
 · rw [List.getElem?_append_left (by simpa using hi), List.getElem?_map] at h
   cases e : ds[i]? with
   | none => rw [e] at h; cases h
   | some d' =>
     rw [e] at h
     cases (Option.some.inj (Option.some.inj h))
     obtain ⟨v, hv, r⟩ := R.get e
     exact ⟨v, by rw [List.getElem?_append_left (by simpa [hl] using hi), List.getElem?_map, hv]; rfl, r⟩
 · rw [List.getElem?_append_right (by simpa using hi), List.getElem?_replicate] at h
   split at h <;> cases h
section
variable {P : Program} {w : World} {K : PySem.W.Frag} {mg : Str→Option Value} {base : Heap}
theorem fn_m {x qual : Str} {st : Stmt} {f : Addr} {fd : FuncData} {N ps : List Str} {k : Nat} {m : MS} (F : Fun K x qual st f fd) (S : FnScope N ps (zaj st))
   (hbody : ∀ (cdv : Value) (A : Around) (outer : List Env) (s : Shared) (H : Hp) (E : XK), Room k (A.deeper (envOfC qual (zaj st) s.heap.objs.size f cdv)) →
     SSs (cxOf CX0 P w K mg base N qual (zaj st) f cdv A outer s H E).nox (zaI st) m) : FnOk P w K mg base CX0 (k + 1) f fd ps (spM K ps.length (fnM N.length m)) := by
 refine F.ok S (fun vs H Q E ⟨_, _, _, _, _, h, _⟩ => h) fun cdv A outer s H vs Q E hr h => ?_
 obtain ⟨ds, st0, io, d, st', hl, R, SR, e, k'⟩ := h
 refine ⟨_, hbody cdv A outer s H E hr, ?_⟩
 obtain ⟨⟨fl, s1⟩, e1, e⟩ := zad e
 refine zlk (zjd R) SR e1 ?_
 cases fl with
 | rt dd => cases e; exact k'
 | nx ρ => cases e; exact fun σ' H' ka X' S' E' => k' .non H' ka X' S' rfl
 | bk ρ => cases e
 | ct ρ => cases e
end
end L2.MP
namespace L2.MP
open PySem PySem.Spec PyProof.Rows
def clOf (cells : List (Str × Addr)) : List (Str × NameKind)→List (Str × Addr)→List (Str × Addr)
 | [], acc => acc
 | (n, k) :: r, acc => if k == .free then clOf cells r ((n, (cells.lookup n).getD 0) :: acc) else clOf cells r acc
theorem zds {env : Env} (f : Str × NameKind→List (Str × Addr)→Sem (ForInStep (List (Str × Addr))))
   (hf : ∀ n k acc, f (n, k) acc = if k == .free then (do let c ← cellOf env n; pure (.yield ((n, c) :: acc))) else pure (.yield acc)) :
   ∀ (names : List (Str × NameKind)) (acc : List (Str × Addr)), (∀ n, (n, NameKind.free) ∈ names→∃ c, env.cells.lookup n = some c)→(forIn names acc f : Sem (List (Str × Addr))) = pure (clOf env.cells names acc)
 | [], acc, _ => by rw [List.forIn_nil]; rfl
 | (n, k) :: r, acc, h => by
   rw [List.forIn_cons, hf]
   unfold clOf
   cases hk : k == NameKind.free with
   | false =>
     rw [if_neg (by simp), if_neg (by simp)]
     have := zds f hf r acc fun m hm => h m (List.mem_cons_of_mem _ hm)
     rw [← this]; rfl
   | true =>
     rw [if_pos rfl, if_pos rfl]
     have hk' : k = NameKind.free := by simpa using hk
     obtain ⟨c, hc⟩ := h n (by rw [hk']; exact List.mem_cons_self)
     have := zds f hf r ((n, c) :: acc) fun m hm => h m (List.mem_cons_of_mem _ hm)
     rw [hc, Option.getD_some, ← this]
     unfold cellOf
     rw [hc]
     rfl
theorem zh6 {env : Env} {scope : Scope} (h : ∀ n, (n, NameKind.free) ∈ scope.names→∃ c, env.cells.lookup n = some c) : closureFor scope env = pure (clOf env.cells scope.names []) := by
 unfold closureFor
 have := zds (env := env) (fun x acc => (match x with | (n, k) => if k == .free then (do let c ← cellOf env n; pure (.yield ((n, c) :: acc))) else pure (.yield acc))) (fun _ _ _ => rfl) scope.names [] h
 refine Eq.trans ?_ this
 simp only [bind_pure]
theorem zfF {cells : List (Str × Addr)} : ∀ {names : List (Str × NameKind)} {acc : List (Str × Addr)} {p : Str × Addr}, p ∈ clOf cells names acc→p ∈ acc ∨ ((p.1, NameKind.free) ∈ names∧p.2 = (cells.lookup p.1).getD 0)
 | [], acc, p, h => .inl h
 | (n, k) :: r, acc, p, h => by
   unfold clOf at h
   cases hk : k == NameKind.free with
   | false =>
     rw [hk, if_neg (by simp)] at h
     rcases zfF h with h | h
     · exact .inl h
     · exact .inr ⟨List.mem_cons_of_mem _ h.1, h.2⟩
   | true =>
     rw [hk, if_pos rfl] at h
     have hk' : k = NameKind.free := by simpa using hk
     rcases zfF h with h | h
     · rcases List.mem_cons.mp h with h | h
       · subst h; exact .inr ⟨by rw [hk']; exact List.mem_cons_self, rfl⟩
       · exact .inl h
     · exact .inr ⟨List.mem_cons_of_mem _ h.1, h.2⟩
theorem zet {cells : List (Str × Addr)} : ∀ {names : List (Str × NameKind)} {acc : List (Str × Addr)} {x : Str}, ((x, NameKind.free) ∈ names ∨ (acc.lookup x).isSome = true)→((clOf cells names acc).lookup x).isSome = true
 | [], acc, x, h => by
   rcases h with h | h
   · exact absurd h (by simp)
   · exact h
 | (n, k) :: r, acc, x, h => by
   unfold clOf
   cases hk : k == NameKind.free with
   | false =>
     rw [if_neg (by simp)]
     refine zet ?_
     rcases h with h | h
     · rcases List.mem_cons.mp h with h | h
       · have : k = NameKind.free := (Prod.mk.inj h).2.symm
         rw [this] at hk; exact absurd hk (by decide)
       · exact .inl h
     · exact .inr h
   | true =>
     rw [if_pos rfl]
     refine zet ?_
     by_cases hx : x = n
     · subst hx; exact .inr (by simp)
     · rcases h with h | h
       · rcases List.mem_cons.mp h with h | h
         · exact absurd (Prod.mk.inj h).1 hx
         · exact .inl h
       · refine .inr ?_
         rw [List.lookup_cons]
         have : (x == n) = false := by simpa using hx
         rw [this]; exact h
theorem zef : ∀ {names : List (Str × NameKind)} {n : Nat} {acc : List (Str × Addr)} {p : Str × Addr}, p ∈ cellsFrom n names acc→p ∈ acc ∨ n ≤ p.2
 | [], _, _, _, h => .inl h
 | (x, k) :: r, n, acc, p, h => by
   unfold cellsFrom at h
   split at h
   · rcases zef h with h | h
     · rcases List.mem_cons.mp h with h | h
       · subst h; exact .inr (Nat.le_refl _)
       · exact .inl h
     · exact .inr (Nat.le_of_succ_le h)
   · exact zef h
theorem zcX : ∀ {names : List (Str × NameKind)} {n : Nat} {acc : List (Str × Addr)}, (acc.Pairwise fun x y => x.2 ≠ y.2)→(∀ p ∈ acc, p.2 < n)→(cellsFrom n names acc).Pairwise fun x y => x.2 ≠ y.2
 | [], _, _, h, _ => h
 | (x, k) :: r, n, acc, h, hl => by
   unfold cellsFrom
   split
   · refine zcX (List.pairwise_cons.mpr ⟨fun y hy e => ?_, h⟩) fun p hp => ?_
     · have q := hl y hy
       have e' : n = y.2 := e
       rw [← e'] at q
       exact Nat.lt_irrefl _ q
     · rcases List.mem_cons.mp hp with rfl | hp
       · exact Nat.lt_succ_self _
       · exact Nat.lt_succ_of_lt (hl p hp)
   · exact zcX h hl
theorem zhl : ∀ {names : List (Str × NameKind)} {n : Nat} {acc : List (Str × Addr)} {x : Str}, ((x, NameKind.cell) ∈ names ∨ (acc.lookup x).isSome = true)→((cellsFrom n names acc).lookup x).isSome = true
 | [], n, acc, x, h => by
   rcases h with h | h
   · exact absurd h (by simp)
   · exact h
 | (m, k) :: r, n, acc, x, h => by
   unfold cellsFrom
   cases hk : k == NameKind.cell with
   | false =>
     rw [if_neg (by simp)]
     refine zhl ?_
     rcases h with h | h
     · rcases List.mem_cons.mp h with h | h
       · have : k = NameKind.cell := (Prod.mk.inj h).2.symm
         rw [this] at hk; exact absurd hk (by decide)
       · exact .inl h
     · exact .inr h
   | true =>
     rw [if_pos rfl]
     refine zhl ?_
     by_cases hx : x = m
     · subst hx; exact .inr (by simp)
     · rcases h with h | h
       · rcases List.mem_cons.mp h with h | h
         · exact absurd (Prod.mk.inj h).1 hx
         · exact .inl h
       · refine .inr ?_
         rw [List.lookup_cons]
         have : (x == m) = false := by simpa using hx
         rw [this]; exact h
theorem zee : ∀ {names : List (Str × NameKind)} {n : Nat} {acc : List (Str × Addr)} {x : Str}, (x, NameKind.cell) ∉ names→(cellsFrom n names acc).lookup x = acc.lookup x
 | [], _, _, _, _ => rfl
 | (m, k) :: r, n, acc, x, h => by
   unfold cellsFrom
   cases hk : k == NameKind.cell with
   | false => rw [if_neg (by simp)]; exact zee fun q => h (List.mem_cons_of_mem _ q)
   | true =>
     rw [if_pos rfl, zee fun q => h (List.mem_cons_of_mem _ q), List.lookup_cons]
     have hk' : k = NameKind.cell := by simpa using hk
     have : (x == m) = false := by
       cases e : x == m with
       | false => rfl
       | true => exact absurd (by rw [hk', show x = m by simpa using e]; exact List.mem_cons_self) h
     rw [this]
theorem zhm : ∀ {names : List (Str × NameKind)} {n : Nat} {acc : List (Str × Addr)} {x : Str} {c : Addr}, (x, NameKind.cell) ∈ names→(cellsFrom n names acc).lookup x = some c→n ≤ c
 | [], _, _, _, _, h, _ => absurd h (by simp)
 | (m, k) :: r, n, acc, x, c, h, e => by
   unfold cellsFrom at e
   cases hk : k == NameKind.cell with
   | false =>
     rw [hk, if_neg (by simp)] at e
     rcases List.mem_cons.mp h with h | h
     · have : k = NameKind.cell := (Prod.mk.inj h).2.symm
       rw [this] at hk; exact absurd hk (by decide)
     · exact zhm h e
   | true =>
     rw [hk, if_pos rfl] at e
     by_cases hr : (x, NameKind.cell) ∈ r
     · exact Nat.le_of_succ_le (zhm hr e)
     · rw [zee hr] at e
       rcases List.mem_cons.mp h with h | h
       · have hx : x = m := (Prod.mk.inj h).1
         subst hx
         rw [List.lookup_cons_self] at e
         exact Nat.le_of_eq (Option.some.inj e)
       · exact absurd h hr
theorem zec : ∀ {names : List (Str × NameKind)} {h : Heap} {acc : List (Str × Addr)} {p : Str × Addr}, p ∈ cellsFrom h.objs.size names acc→p ∈ acc ∨ (pushCells h names).IsCell p.2 none
 | [], _, _, _, h => .inl h
 | (x, k) :: r, h, acc, p, e => by
   unfold cellsFrom at e
   unfold pushCells
   split at e
   · rename_i hk
     rw [if_pos hk]
     have sz : (h.push { cls := .type "cell", data := .cell none }).objs.size = h.objs.size + 1 := Heap.size_push ..
     rw [← sz] at e
     rcases zec e with q | q
     · rcases List.mem_cons.mp q with q | q
       · subst q
         exact .inr ⟨_, pushCells_keeps _ _ _ _ (Heap.get?_push_size _ rfl), rfl⟩
       · exact .inl q
     · exact .inr q
   · rename_i hk
     rw [if_neg hk]
     exact zec e
end L2.MP
namespace L2.MP
open PySem PySem.Spec PyProof.Rows
def zcF (X : Cx) (scope : Scope) (N' : List Str) (cells : List (Str × Addr)) (C : Addr) (s0 : Shared) (H0 : Hp) (ex : List Addr) : Cx :=
 { X with N := N', s₀ := s0, H₀ := H0, env := compEnvC scope cells C X.env, outer := X.stack, ex := ex, fn := fun x => scope.names.any fun p => p.1 == x && p.2 == .cell, pn := [], xe := fun _ _ => False }
structure CompS (X : Cx) (scope : Scope) (N' : List Str) (nt : Nat) (fr : List Nat) : Prop where
 kind : scope.kind = .function
 nd : (scope.names.map (·.1)).Nodup
 len : N'.length = nt + fr.length
 cap : ∀ (i j : Nat) (x : Str), fr[i]? = some j→N'[nt + i]? = some x→X.N[j]? = some x∧(x, NameKind.free) ∈ scope.names
 out : ∀ x, (x, NameKind.free) ∈ scope.names→X.env.kindOf x = some .cell ∨ X.env.kindOf x = some .free
theorem lookup_mem : ∀ {l : List (Str × NameKind)} {x : Str} {k : NameKind}, (l.map (·.1)).Nodup→(x, k) ∈ l→l.lookup x = some k
 | [], _, _, _, h => absurd h (by simp)
 | (n, j) :: r, x, k, nd, h => by
   rw [List.map_cons, List.nodup_cons] at nd
   rw [List.lookup_cons]
   rcases List.mem_cons.mp h with h | h
   · cases h; simp
   · have : x ≠ n := fun e => nd.1 (by rw [← e]; exact List.mem_map.mpr ⟨_, h, rfl⟩)
     have : (x == n) = false := by simpa using this
     rw [this]; exact lookup_mem nd.2 h
theorem zbt {env : Env} : ∀ {l : List (Str × NameKind)} {x : Str} {k : NameKind}, (l.map fun (n, k) => if (k == NameKind.free && env.scope.kind == .function && env.kindOf n == some .cell) then (n, NameKind.cell) else (n, k)).lookup x = some k →
   ∃ k', l.lookup x = some k'∧(k' = k ∨ k' = .free)
 | [], _, _, h => by simp at h
 | (n, j) :: r, x, k, h => by
   rw [List.map_cons] at h
   dsimp only at h
   by_cases hc : (j == NameKind.free && env.scope.kind == .function && env.kindOf n == some .cell) = true
   · rw [if_pos hc, List.lookup_cons] at h
     rw [List.lookup_cons]
     cases hx : x == n with
     | true =>
       have : j = .free := by
         rw [Bool.and_eq_true, Bool.and_eq_true] at hc
         simpa using hc.1.1
       exact ⟨j, rfl, .inr this⟩
     | false => rw [hx] at h; exact zbt h
   · rw [if_neg hc, List.lookup_cons] at h
     rw [List.lookup_cons]
     cases hx : x == n with
     | true => rw [hx] at h; cases h; exact ⟨j, rfl, .inl rfl⟩
     | false => rw [hx] at h; exact zbt h
theorem zcp {env : Env} : ∀ {l : List (Str × NameKind)} {x : Str}, l.lookup x = some .free →
   (l.map fun (n, k) => if (k == NameKind.free && env.scope.kind == .function && env.kindOf n == some .cell) then (n, NameKind.cell) else (n, k)).lookup x = some .cell ∨
   (l.map fun (n, k) => if (k == NameKind.free && env.scope.kind == .function && env.kindOf n == some .cell) then (n, NameKind.cell) else (n, k)).lookup x = some .free
 | [], _, h => by simp at h
 | (n, j) :: r, x, h => by
   rw [List.map_cons]
   dsimp only
   rw [List.lookup_cons] at h
   by_cases hc : (j == NameKind.free && env.scope.kind == .function && env.kindOf n == some .cell) = true
   · rw [if_pos hc, List.lookup_cons]
     cases hx : x == n with
     | true => exact .inl rfl
     | false => rw [hx] at h; exact zcp h
   · rw [if_neg hc, List.lookup_cons]
     cases hx : x == n with
     | true => rw [hx] at h; cases h; exact .inr rfl
     | false => rw [hx] at h; exact zcp h
section
variable {X : Cx} {scope : Scope} {N' : List Str} {nt : Nat} {fr : List Nat} {pins : List (Addr × Obj)} {σ : L2.St} {H : Hp} {s : Shared}
abbrev clX (X : Cx) (scope : Scope) : List (Str × Addr) := clOf X.env.cells scope.names []
abbrev zcG (X : Cx) (scope : Scope) (C : Nat) : List (Str × Addr) := cellsFrom (C + 1) scope.names (clX X scope)
theorem zh7 (Z : CompS X scope N' nt fr) (ok : X.Ok) {p : Str × Addr} (h : p ∈ clX X scope) : (p.1, NameKind.free) ∈ scope.names∧X.env.cells.lookup p.1 = some p.2 := by
 rcases zfF h with h | ⟨h1, h2⟩
 · exact absurd h (by simp)
 · obtain ⟨c, hc⟩ := ok.has p.1 (Z.out p.1 h1)
   rw [hc, Option.getD_some] at h2
   exact ⟨h1, by rw [hc, h2]⟩
theorem zjh (Z : CompS X scope N' nt fr) (ok : X.Ok) {x : Str} (h : (x, NameKind.free) ∈ scope.names) : ∃ c, X.env.cells.lookup x = some c∧∀ C, (zcG X scope C).lookup x = some c := by
 obtain ⟨c, hc⟩ := ok.has x (Z.out x h)
 refine ⟨c, hc, fun C => ?_⟩
 have no : (x, NameKind.cell) ∉ scope.names := fun q => by
   have a := lookup_mem Z.nd h
   have b := lookup_mem Z.nd q
   rw [a] at b; cases b
 rw [zee no]
 have q := zet (cells := X.env.cells) (acc := []) (.inl h)
 obtain ⟨c', e⟩ := Option.isSome_iff_exists.mp q
 have := (zh7 Z ok (PySem.mem_of_lookup e)).2
 have this : X.env.cells.lookup x = some c' := this
 rw [hc] at this
 rw [e, this]
theorem zk8 (Z : CompS X scope N' nt fr) (ok : X.Ok) : (clX X scope).Pairwise fun x y => x.2 ≠ y.2 := by
 have gen : ∀ (names : List (Str × NameKind)) (acc : List (Str × Addr)), (∀ n, (n, NameKind.free) ∈ names→∃ c, X.env.cells.lookup n = some c)→(names.map (·.1)).Nodup→(∀ p ∈ acc, p.1 ∉ names.map (·.1)∧X.env.cells.lookup p.1 = some p.2)→(acc.Pairwise fun x y => x.2 ≠ y.2) →
     (clOf X.env.cells names acc).Pairwise fun x y => x.2 ≠ y.2 := by
   intro names
   induction names with
   | nil => intro acc _ _ _ h; exact h
   | cons p r ih =>
     intro acc hf nd ha hp
     obtain ⟨n, k⟩ := p
     rw [List.map_cons, List.nodup_cons] at nd
     unfold clOf
     cases hk : k == NameKind.free with
     | false =>
       rw [if_neg (by simp)]
       exact ih acc (fun m hm => hf m (List.mem_cons_of_mem _ hm)) nd.2 (fun q hq => ⟨fun z => (ha q hq).1 (by rw [List.map_cons]; exact List.mem_cons_of_mem _ z), (ha q hq).2⟩) hp
     | true =>
       rw [if_pos rfl]
       have hk' : k = NameKind.free := by simpa using hk
       obtain ⟨c, hc⟩ := hf n (by rw [hk']; exact List.mem_cons_self)
       refine ih _ (fun m hm => hf m (List.mem_cons_of_mem _ hm)) nd.2 (fun q hq => ?_) (List.pairwise_cons.mpr ⟨fun y hy e => ?_, hp⟩)
       · rcases List.mem_cons.mp hq with rfl | hq
         · exact ⟨nd.1, by rw [hc]; rfl⟩
         · exact ⟨fun z => (ha q hq).1 (by rw [List.map_cons]; exact List.mem_cons_of_mem _ z), (ha q hq).2⟩
       · have e1 : (X.env.cells.lookup n).getD 0 = y.2 := e
         rw [hc, Option.getD_some] at e1
         have e2 := (ha y hy).2
         rw [← e1] at e2
         have := ok.inj _ _ _ e2 hc
         exact (ha y hy).1 (by rw [this, List.map_cons]; exact List.mem_cons_self)
 exact gen scope.names [] (fun n hn => ok.has n (Z.out n hn)) Z.nd (fun p hp => absurd hp (by simp)) List.Pairwise.nil
theorem zk7 {M : Model} {A : Around} {E : Value→Shared→Prop} {env : Env} {cl : List (Str × Addr)} {Q : Env→Shared→Prop}
   (h : Q { scope := scope, locals := s.heap.objs.size, globals := env.globals, cells := cellsFrom (s.heap.objs.size + 1) scope.names cl, qual := env.qual, func := none, code := env.code, frame := env.frame, builtins := env.builtins }
     { s with heap := pushCells (s.heap.push { cls := .type "dict", data := .dict #[] }) scope.names }) :
   wpAny M A (newFunctionEnv scope env.globals cl [] env.qual none .none (some env)) Q E s := by
 simp only [newFunctionEnv, Option.isSome_some, if_true]
 refine wpAny_bind (wpAny_alloc ?_)
 refine wpAny_bind (wpAny_layCells _ (fun name kind cells => by cases hkc : kind == NameKind.cell <;> simp [hkc]) _ _ _ _ ?_)
 rw [show ({ s with heap := s.heap.push { cls := .type "dict", data := .dict #[] } } : Shared).heap.objs.size = s.heap.objs.size + 1 from Heap.size_push ..]
 rw [List.forIn_nil]
 exact wpAny_bind (wpAny_pure (wpAny_pure h))
def zjg (σ : L2.St) (nt : Nat) (fr : List Nat) : L2.St := List.replicate nt none ++ fr.map fun (j : Nat) => (σ[j]?).join
theorem zkT {fp : List Addr} (Z : CompS X scope N' nt fr) (I : Inv X pins σ H s) (hf : ∀ b ∈ fp, FpOk X pins H b) (hlt : ∀ b ∈ fp, b < s.heap.objs.size) :
   Inv (zcF X scope N' (zcG X scope s.heap.objs.size) s.heap.objs.size s H fp) [] (zjg σ nt fr) H { s with heap := pushCells (s.heap.push { cls := .type "dict", data := .dict #[] }) scope.names } := by
 have ok := I.ok
 have kp : ∀ b o, s.heap.get? b = some o→(pushCells (s.heap.push { cls := .type "dict", data := .dict #[] }) scope.names).get? b = some o := fun b o e => pushCells_keeps _ _ b o (Heap.get?_push_of_some _ e)
 have clt : ∀ p ∈ clX X scope, p.2 < s.heap.objs.size := fun p hp => by
   obtain ⟨_, e⟩ := zh7 Z ok hp
   obtain ⟨v, q⟩ := I.cell p.1 p.2 e
   exact q.lt
 have sz : (s.heap.push { cls := .type "dict", data := .dict #[] }).objs.size = s.heap.objs.size + 1 := Heap.size_push ..
 have cells : ∀ x c, (zcG X scope s.heap.objs.size).lookup x = some c→(X.env.cells.lookup x = some c) ∨ (s.heap.objs.size + 1 ≤ c∧(pushCells (s.heap.push { cls := .type "dict", data := .dict #[] }) scope.names).IsCell c none) := fun x c e => by
   have m := PySem.mem_of_lookup e
   rcases zef m with h | h
   · exact .inl (zh7 Z ok h).2
   · refine .inr ⟨h, ?_⟩
     have m' : (x, c) ∈ cellsFrom (s.heap.push { cls := .type "dict", data := .dict #[] }).objs.size scope.names (clX X scope) := by rw [sz]; exact m
     rcases zec m' with q | q
     · have l := clt _ q
       exact absurd (Nat.lt_of_lt_of_le l (Nat.le_of_succ_le h)) (Nat.lt_irrefl _)
     · exact q
 refine ⟨⟨ok.mod, Z.kind, ok.glob, ok.blt, Nat.le_refl _, fun x y c h1 h2 => ?_, fun x hx => ?_, fun x c h1 h2 => ?_, ok.hd, ok.frames, .inl rfl, fun b hb => ?_, I.bs, Nat.le_trans ok.bsz I.sz, fun b o e hb => ?_, fun b hb => ?_, I.stack, I.stkFree⟩,
   rfl, I.bare, Un.kept kp, ⟨fun _ => none, ?_, fun i x v h1 h2 h3 => ?_⟩, fun x c e => ?_, I.hok.fresh (Nat.le_refl _), fun x c e => ?_, fun p hp => absurd hp (by simp [zcF]), I.hok.kept kp, ?_⟩
 · exact name_of_addr (zcX (zk8 Z ok) fun p hp => Nat.lt_succ_of_lt (clt p hp)) (PySem.mem_of_lookup h1) (PySem.mem_of_lookup h2)
 · have hx : (relabel scope X.env).names.lookup x = some .cell ∨ (relabel scope X.env).names.lookup x = some .free := hx
   have q : (x, NameKind.cell) ∈ scope.names ∨ (x, NameKind.free) ∈ scope.names := by
     rcases hx with hx | hx
     · obtain ⟨k', e, z | z⟩ := zbt hx
       · subst z; exact .inl (PySem.mem_of_lookup e)
       · subst z; exact .inr (PySem.mem_of_lookup e)
     · obtain ⟨k', e, z | z⟩ := zbt hx
       · subst z; exact .inr (PySem.mem_of_lookup e)
       · subst z; exact .inr (PySem.mem_of_lookup e)
   refine Option.isSome_iff_exists.mp (zhl (n := s.heap.objs.size + 1) (acc := clX X scope) ?_)
   rcases q with q | q
   · exact .inl q
   · exact .inr (zet (.inl q))
 · have h1 : (scope.names.any fun p => p.1 == x && p.2 == NameKind.cell) = true := h1
   obtain ⟨p, hp, e⟩ := List.any_eq_true.mp h1
   rw [Bool.and_eq_true] at e
   have e1 : p.1 = x := by simpa using e.1
   have e2 : p.2 = NameKind.cell := by simpa using e.2
   have hm : (x, NameKind.cell) ∈ scope.names := by rw [← e1, ← e2]; exact hp
   exact Nat.le_of_succ_le (zhm hm h2)
 · refine ⟨Nat.ne_of_lt (hlt b hb), fun x c e z => ?_⟩
   rcases cells x c e with q | ⟨q, _⟩
   · exact (hf b hb).2.2.2.2.1 x c q z
   · have l := hlt b hb
     rw [← z] at l
     exact absurd (Nat.lt_of_lt_of_le l (Nat.le_of_succ_le q)) (Nat.lt_irrefl _)
 · rcases (hf b hb).2.2.2.1 with z | z
   · exact ok.noex b o e z
   · exact absurd (Nat.lt_of_lt_of_le (Heap.lt_size e) (Nat.le_trans ok.bsz z)) (Nat.lt_irrefl _)
 · intro hs
   rcases List.mem_cons.mp (I.stkSub b hs) with e | e
   · exact (hf b hb).2.1 e
   · exact (hf b hb).2.2.1 e
 · exact (Heap.Ns.new s.heap (.type "dict")).keeps (pushCells_keeps _ _)
 · -- a captured name
   have hi : nt ≤ i := by
     by_cases hi : i < nt
     · unfold zjg at h2
       rw [List.getElem?_append_left (by simpa using hi), List.getElem?_replicate, if_pos hi] at h2
       cases h2
     · omega
   obtain ⟨i', rfl⟩ : ∃ i', i = nt + i' := ⟨i - nt, by omega⟩
   unfold zjg at h2
   rw [List.getElem?_append_right (by simp), List.length_replicate, Nat.add_sub_cancel_left, List.getElem?_map] at h2
   cases ej : fr[i']? with
   | none => rw [ej] at h2; cases h2
   | some j =>
     rw [ej] at h2
     have h2 : (σ[j]?).join = some v := Option.some.inj h2
     have h2 : σ[j]? = some (some v) := by
       cases q : σ[j]? with
       | none => rw [q] at h2; cases h2
       | some w => rw [q] at h2; cases w with
         | none => cases h2
         | some w => cases h2; rfl
     obtain ⟨hN, hfree⟩ := Z.cap i' j x ej h1
     obtain ⟨c, hc, hcc⟩ := zjh Z ok hfree
     have ho := Z.out x hfree
     obtain ⟨m, hn, hl⟩ := I.loc
     obtain ⟨u, r, l⟩ := hl j x v hN h2 (ho.elim (fun z => .inr (.inl z)) fun z => .inr (.inr z))
     refine ⟨u, r, .inr ⟨?_, c, hcc _, ?_⟩⟩
     · exact zcp (lookup_mem Z.nd hfree)
     · rcases l with ⟨k, _⟩ | ⟨_, c', e', z⟩
       · rcases ho with q | q
         · rw [k] at q; cases q
         · rw [k] at q; cases q
       · rw [hc] at e'; cases e'
         exact z.keeps kp
 · rcases cells x c e with q | ⟨_, q⟩
   · obtain ⟨v, z⟩ := I.cell x c q
     exact ⟨v, z.keeps kp⟩
   · exact ⟨none, q⟩
 · rcases cells x c e with q | ⟨q, _⟩
   · exact I.freeC x c q
   · exact I.hok.fresh (Nat.le_of_succ_le q)
 · show _ = N'.length
   unfold zjg
   rw [Z.len, List.length_append, List.length_replicate, List.length_map]
end
end L2.MP
namespace L2.MP
open PySem PySem.Spec PyProof.Rows
abbrev FF : Value→Shared→Prop := fun _ _ => False
theorem zgH {prog : Program} {w : World} {A : Around} {R : Result→Shared→Prop} {s : Shared} {elt target iter : Expr} {ifs : List Expr} {scope : Scope} {pos : Pos} {it acc : Value} {env : Env} (I : Nat→Shared→Prop)
   (turn : ∀ n s, I n s→wpAny (model prog w) A (pyNext it) (fun r s1 => match r with
     | none => R (.ok .next) s1
     | some v => wpAny (model prog w) A (letOwnedTupleGo target it v) (fun _ s1 => wpAny (model prog w) A (assign target env v) (fun _ s2 =>
         wpAny (model prog w) A (forIn ifs true fun c r => if r = true then do let ok ← isTrue c env (eval c env); pure (ForInStep.yield ok) else pure (ForInStep.yield r)) (fun ok s3 =>
           if ok = true then wpAny (model prog w) A (eval elt env) (fun x s4 =>
             wpAny (model prog w) A (call (.builtin "list.append") [acc, x]) (fun _ s5 => ∃ m, m < n∧I m s5) FF s4) FF s3
           else ∃ m, m < n∧I m s3) FF s2) FF s1) FF s1) FF s)
   (n : Nat) (h : I n s) :
   codeAny (model prog w) A (.compLoop (.ListComp elt [⟨target, iter, ifs, 0⟩] scope pos) 0 it acc env) R s := by
 refine codeAny_loop rfl I (fun n s hI => ?_) n h
 show wpAny _ A ((compTurn (.ListComp elt [⟨target, iter, ifs, 0⟩] scope pos) 0 it acc env).onRaise (fun x => do noteFrame x env; theTreesLotGoes x)) _ _ s
 refine wpAny_noted ?_
 rw [compTurn_list]
 refine wpAny_bind (wpAny_standAt (wpAny_bind (wpAny_mono (turn n s hI) (fun r s₁ h₁ => ?_) fun _ _ h' => False.elim h')))
 cases r with
 | none => exact wpAny_pure h₁
 | some v =>
   refine wpAny_bind (wpAny_mono h₁ (fun _ s₂ h₂ => ?_) fun _ _ h' => False.elim h')
   refine wpAny_bind (wpAny_mono h₂ (fun _ s₂ h₂ => wpAny_bind (wpAny_mono h₂ (fun ok s₃ h₃ => ?_) fun _ _ h' => False.elim h')) fun _ _ h' => False.elim h')
   cases ok with
   | false => exact wpAny_pure ⟨rfl, h₃⟩
   | true =>
     exact wpAny_bind (wpAny_bind (wpAny_mono h₃ (fun x s₄ h₄ => wpAny_bind (wpAny_mono h₄ (fun _ s₅ h₅ => wpAny_pure (wpAny_pure ⟨rfl, h₅⟩)) fun _ _ h' => False.elim h')) fun _ _ h' => False.elim h'))
def mCI (W : Wk) (g : MG) (c : MT) (m : ME) : List D→Rho→Sto→Option (List D × Sto)
 | [], ρ, st => if walked W st = true then some ([], st) else none
 | d :: ds, ρ, st => if walked W st = true then (g d ρ st).bind fun (ρ1, s1) => (c ρ1 s1).bind fun (b, s2) =>
     if b = true then (m ρ1 s2).bind fun (x, s3) => (mCI W g c m ds ρ1 s3).map fun (xs, s4) => (x :: xs, s4) else mCI W g c m ds ρ1 s2 else none
def rho0 (ρ : Rho) (nt : Nat) (fr : List Nat) : Rho := List.replicate nt none ++ fr.map fun (j : Nat) => (ρ[j]?).join
def zcQ (mi : MI) (nt : Nat) (fr : List Nat) (g : MG) (c : MT) (m : ME) : ME := fun ρ st => (mi ρ st).bind fun (W, s1) => (mCI W g c m W.ds (rho0 ρ nt fr) s1).bind fun (xs, s2) =>
 if fits xs.length = true then some (.ref s2.length, s2 ++ [.lst xs]) else none
def zb4 : MT := fun _ st => some (true, st)
def SC (X : Cx) (ifs : List Expr) (m : MT) : Prop := ∀ (pins : List (Addr × Obj)) (s : Shared) (σ : L2.St) (H : Hp) (Q : Bool→Hp→Prop), Inv X pins σ H s→tT X.K m σ H Q →
 wpAny (model X.prog X.w) X.A (forIn ifs true fun c r => if r = true then do let ok ← isTrue c X.env (eval c X.env); pure (ForInStep.yield ok) else pure (ForInStep.yield r)) (TP X pins σ Q) X.xe s
theorem zd9 {X : Cx} : SC X [] zb4 := fun pins s σ H Q I ⟨ρ, st, io, b, st', E, S, e, k⟩ => by
 cases e
 rw [List.forIn_nil]
 exact wpAny_pure ⟨H, I, k H [] Ext.refl S.nil⟩
theorem zlT {X : Cx} {c : Expr} {m : MT} (h : SB X c m) : SC X [c] m := fun pins s σ H Q I q => PySem.wpAny_tests_one (h pins s σ H Q I q)
section
variable {K : PySem.W.Frag} {H H1 : Hp} {io ka : List Addr} {st : Sto} {σ : L2.St} {ρ : Rho}
theorem zkZ {nt : Nat} {fr : List Nat} (h : EnvR K H io σ ρ) : EnvR K H io (zjg σ nt fr) (rho0 ρ nt fr) := by
 refine ⟨by unfold zjg rho0; simp, fun i d e => ?_⟩
 unfold rho0 at e
 unfold zjg
 by_cases hi : i < nt
 · rw [List.getElem?_append_left (by simpa using hi), List.getElem?_replicate, if_pos hi] at e
   cases e
 · rw [List.getElem?_append_right (by simpa using hi), List.length_replicate, List.getElem?_map] at e ⊢
   cases ej : fr[i - nt]? with
   | none => rw [ej] at e; cases e
   | some j =>
     rw [ej] at e
     have e : (ρ[j]?).join = some d := Option.some.inj e
     have e : ρ[j]? = some (some d) := by
       cases q : ρ[j]? with
       | none => rw [q] at e; cases e
       | some w => rw [q] at e; cases w with
         | none => cases e
         | some w => cases e; rfl
     obtain ⟨v, hv, r⟩ := h.at_ j d e
     exact ⟨v, by simp [hv], r⟩
theorem adopt {p : Addr} {xs : List V} {ds : List D} (S : StR K H io st) (hp : H p = some (.lst xs)) (np : p ∉ io) (R : Reps K H io xs ds) : StR K H (io ++ [p]) (st ++ [.lst ds]) := by
 refine ⟨by simp [S.len], ?_, fun n a ob h1 h2 => ?_⟩
 · rw [List.nodup_append]
   refine ⟨S.nd, by simp, fun a ha b hb => ?_⟩
   rw [List.mem_singleton.mp hb]
   rintro rfl
   exact np ha
 · by_cases hn : n < io.length
   · rw [List.getElem?_append_left hn] at h1
     rw [List.getElem?_append_left (by rw [← S.len]; exact hn)] at h2
     exact OR.mono ⟨fun _ _ h => h, fun _ _ _ h => h⟩ rfl (S.ob n a ob h1 h2)
   · have hl : n < (io ++ [p]).length := (List.getElem?_eq_some_iff.mp h1).1
     rw [List.length_append, List.length_singleton] at hl
     have e : n = io.length := by omega
     subst e
     rw [List.getElem?_append_right (Nat.le_refl _), Nat.sub_self] at h1
     rw [S.len, List.getElem?_append_right (Nat.le_refl _), Nat.sub_self] at h2
     cases (Option.some.inj h1)
     cases (Option.some.inj h2)
     exact ⟨xs, hp, Reps.mono ⟨fun _ _ h => h, fun _ _ _ h => h⟩ R⟩
end
section
variable {X : Cx} {scope : Scope} {N' : List Str} {nt : Nat} {fr : List Nat} {elt tg iter : Expr} {ifs : List Expr} {pos : Pos} {mi : MI} {g : MG} {c : MT} {m : ME}
structure CompEnd (X : Cx) (pins : List (Addr × Obj)) (σ : L2.St) (H : Hp) (io : List Addr) (d : D) (st' : Sto) (Dd C : Addr) (H5 : Hp) (s6 : Shared) : Prop where
 inv : Inv X pins σ H5 s6
 ns : ∃ m, s6.heap.Ns C m
 free : H5 C = none
 ne : C ≠ X.env.locals
 young : X.s₀.heap.objs.size ≤ C
 cells : ∀ x c, X.env.cells.lookup x = some c→c ≠ C
 pin : ∀ p ∈ X.pn ++ pins, p.1 ≠ C
 val : ∃ ka, Ext io ka H H5∧StR X.K H5 (io ++ ka) st'∧Rep X.K H5 (io ++ ka) (.ref Dd) d
theorem zh5 (hx : X.xe = FF) (hc : X.calm = true) (Z : CompS X scope N' nt fr) (hi : SI X tg iter mi)
   (hg : ∀ C s0 H0 fp, SG (zcF X scope N' (zcG X scope C) C s0 H0 fp) tg g) (ht : ∀ C s0 H0 fp, SC (zcF X scope N' (zcG X scope C) C s0 H0 fp) ifs c) (he : ∀ C s0 H0 fp, SE (zcF X scope N' (zcG X scope C) C s0 H0 fp) elt m)
   (hs : ∀ x, foldedSetIterable iter X.env x = pure x) {pins : List (Addr × Obj)} {s : Shared} {σ : L2.St} {H : Hp} {ρ : Rho} {st st' : Sto} {io : List Addr} {d : D} {use : Option (Value→Sem Unit)} {Qf : Value→Shared→Prop} {ps : Pos}
   (I : Inv X pins σ H s) (E : EnvR X.K H io σ ρ) (S : StR X.K H io st) (e : zcQ mi nt fr g c m ρ st = some (d, st'))
   (kf : ∀ Dd C H5 s6, CompEnd X pins σ H io d st' Dd C H5 s6→compPost (model X.prog X.w) X.A X.xe use Qf (.ref Dd) C (.ok .next) s6) :
   wpAny (model X.prog X.w) X.A (comprehension (.ListComp elt [⟨tg, iter, ifs, 0⟩] scope pos) scope X.env ps (newList []) false (eval iter X.env) use) Qf X.xe s := by
 obtain ⟨⟨W, t1⟩, e1, e⟩ := zad e
 obtain ⟨⟨xs, t2⟩, e2, e⟩ := zad e
 obtain ⟨hfit, e⟩ := zao e
 cases e
 refine wpAny_comprehension_free (use := use) rfl hs (zh6 fun n hn => I.ok.has n (Z.out n hn)) Z.kind (fun x hx hl => by
   obtain ⟨n, k⟩ := x
   cases (show k = .local from hl)
   exact lookup_mem Z.nd hx) ?_
 refine thn (hi pins s σ H (fun J H1 => ∃ ka, Ext io ka H H1∧StR X.K H1 (io ++ ka) t1∧ItOk X.K H1 (io ++ ka) W J) I ⟨ρ, st, io, W, t1, E, S, e1, fun J H' ka X' S' O' => ⟨ka, X', S', O'⟩⟩) fun v sa ha => ?_
 refine thn ha fun itv s2 ⟨it, fp, tn, J, H1, eit, I1, T, tn0, fpok, k1, X1, S1, IO⟩ => ?_
 subst eit
 refine wpAny_newObj_type ?_
 -- the new list
 have hD : H1 s2.heap.objs.size = none := I1.hok.fresh (Nat.le_refl _)
 have I3 : Inv X pins σ (upd H1 s2.heap.objs.size (.lst [])) { s2 with heap := s2.heap.push { cls := .type "list", data := .seq ([] : List Value).toArray }, toks := s2.toks } := I1.lnew .nil (Nat.zero_le _)
 obtain ⟨X2, S2a⟩ := zf6 (o := .lst []) S1 hD
 rw [List.append_nil] at S2a
 have S2 : StR X.K (upd H1 s2.heap.objs.size (.lst [])) (io ++ k1) t1 := S2a
 clear S2a
 generalize hH3 : upd H1 s2.heap.objs.size (.lst []) = H3 at I3 X2 S2
 have H3D : H3 s2.heap.objs.size = some (.lst []) := by rw [← hH3]; exact zbi
 generalize hD' : s2.heap.objs.size = Dd at *
 generalize hs3 : ({ s2 with heap := s2.heap.push { cls := .type "list", data := .seq ([] : List Value).toArray }, toks := s2.toks } : Shared) = s3 at I3
 have fplt : ∀ b ∈ fp, b < s3.heap.objs.size := fun b hb => by
   obtain ⟨o, ho, _⟩ := T.obj 0 _ tn0 b hb
   rw [← hs3]
   exact Nat.lt_of_lt_of_le (Heap.lt_size ho) (by show _ ≤ (s2.heap.push _).objs.size; rw [Heap.size_push]; exact Nat.le_succ _)
 have fpD : ∀ b ∈ fp, b ≠ Dd := fun b hb z => by
   obtain ⟨o, ho, _⟩ := T.obj 0 _ tn0 b hb
   have := Heap.lt_size ho
   rw [z, ← hD'] at this
   exact Nat.lt_irrefl _ this
 have fp3 : ∀ b ∈ fp, FpOk X pins H3 b := fun b hb => ⟨by rw [← hH3, zay (fpD b hb)]; exact (fpok b hb).1, (fpok b hb).2⟩
 have tn3 : tn 0 s3.heap := T.keep 0 _ _ tn0 fun b _ o ho => by rw [← hs3]; exact Heap.get?_push_of_some _ ho
 refine zk7 ?_
 have I4 := zkT (fp := fp) Z I3 fp3 fplt
 have tn4 : tn 0 (pushCells (s3.heap.push { cls := .type "dict", data := .dict #[] }) scope.names) := T.keep 0 _ _ tn3 fun b _ o ho => pushCells_keeps _ _ _ _ (Heap.get?_push_of_some _ ho)
 generalize hs4 : ({ s3 with heap := pushCells (s3.heap.push { cls := .type "dict", data := .dict #[] }) scope.names } : Shared) = s4 at I4
 have tn4 : tn 0 s4.heap := by rw [← hs4]; exact tn4
 show codeAny (model X.prog X.w) X.A (.compStart (.ListComp elt [⟨tg, iter, ifs, 0⟩] scope pos) 0 (.ref it) (.ref Dd) (zcF X scope N' (zcG X scope s3.heap.objs.size) s3.heap.objs.size s3 H3 fp).env) _ _
 generalize hY : zcF X scope N' (zcG X scope s3.heap.objs.size) s3.heap.objs.size s3 H3 fp = Y at I4
 have yP : Y.prog = X.prog := by rw [← hY]; rfl
 have yW : Y.w = X.w := by rw [← hY]; rfl
 have yK : Y.K = X.K := by rw [← hY]; rfl
 have yC : Y.calm = true := by rw [← hY]; exact hc
 have yA : Y.A = X.A := by rw [← hY]; rfl
 have yx : Y.xe = FF := by rw [← hY]; rfl
 have hg := hg s3.heap.objs.size s3 H3 fp
 have ht := ht s3.heap.objs.size s3 H3 fp
 have he := he s3.heap.objs.size s3 H3 fp
 rw [hY] at hg ht he
 have yex : Y.ex = fp := by rw [← hY]; rfl
 have yfs : ∀ b ∈ fp, b ∉ Y.fs := fun b hb hs => by
   rw [← hY] at hs
   have hs : b ∈ frs X.stack := hs
   rcases List.mem_cons.mp (I3.stkSub b hs) with z | z
   · exact (fp3 b hb).2.1 z
   · exact (fp3 b hb).2.2.1 z
 have yL : Y.env.locals = s3.heap.objs.size := by rw [← hY]; rfl
 -- the loop
 have hio : Dd ∉ io ++ k1 := fun hm => by
   obtain ⟨u, hu, _⟩ := S1.mem hm
   rw [hD] at hu; cases hu
 have start : ∀ {H' : Hp} {sx : Shared} {σ' : L2.St}, Inv Y [] σ' H' sx→(∀ b ∈ fp, H' b = none)→∀ b ∈ fp, FpOk Y [] H' b := fun {H' sx σ'} I' hn b hb => by
   refine ⟨hn b hb, fun z => ?_, yfs b hb, .inl (by rw [yex]; exact hb), fun x cc e z => ?_, fun p hp => absurd hp (by rw [← hY]; simp [zcF])⟩
   · rw [yL] at z
     exact absurd (fplt b hb) (by rw [z]; exact Nat.lt_irrefl _)
   · exact (I'.ok.exf b (by rw [yex]; exact hb)).2 x cc e z
 have loop : ∀ sx : Shared, Inv Y [] (zjg σ nt fr) H3 sx→tn 0 sx.heap→codeAny (model X.prog X.w) X.A (.compLoop (.ListComp elt [⟨tg, iter, ifs, 0⟩] scope pos) 0 (.ref it) (.ref Dd) Y.env) (compPost (model X.prog X.w) X.A X.xe use Qf (.ref Dd) s3.heap.objs.size) sx := by
   intro sx Ix tnx
   refine zgH (fun n s5 => ∃ i σ5 H5 ρ5 st5 k5 ac rs, n = W.ds.length - i∧Inv Y [] σ5 H5 s5∧tn i s5.heap∧(∀ b ∈ fp, H5 b = none)∧Ext (io ++ k1) k5 H1 H5∧Dd ∉ k5∧StR X.K H5 ((io ++ k1) ++ k5) st5∧EnvR X.K H5 ((io ++ k1) ++ k5) σ5 ρ5 ∧
     (∃ vs, H5 Dd = some (.lst vs)∧Reps X.K H5 ((io ++ k1) ++ k5) vs ac)∧mCI W g c m (W.ds.drop i) ρ5 st5 = some (rs, t2)∧xs = ac ++ rs) ?_ (W.ds.length - 0)
     ⟨0, zjg σ nt fr, H3, rho0 ρ nt fr, t1, [], [], xs, rfl, Ix, tnx, fun b hb => (fp3 b hb).1, X2, by simp, S2.nil, by rw [List.append_nil]; exact zkZ (by have := (E.ext S X1).ext S1 X2; rw [List.append_nil] at this; exact this), ⟨[], H3D, rfl⟩, by rw [List.drop_zero]; exact e2, rfl⟩
   rintro n s5 ⟨i, σ5, H5, ρ5, st5, k5, ac, rs, rfl, I5, tn5, fr5, X25, nk5, S5, E5, ⟨vs, hvs, Rvs⟩, e5, exs⟩
   have nD : ∀ {kk : List Addr}, Dd ∉ kk→Dd ∉ (io ++ k1) ++ kk := fun {kk} hk hm => (List.mem_append.mp hm).elim hio hk
   have nF : ∀ {kk jj : List Addr} {Ha Hb : Hp} {vv : List V}, Ext jj kk Ha Hb→Ha Dd = some (.lst vv)→Dd ∉ kk := fun {kk jj Ha Hb vv} Xx hv hm => by
     have q := Xx.fresh Dd hm
     rw [hv] at q; cases q
   cases hd : W.ds[i]? with
   | none =>
     have hl : W.ds.length ≤ i := List.getElem?_eq_none_iff.mp hd
     rw [List.drop_eq_nil_of_le hl] at e5
     obtain ⟨hw, e5⟩ := zao e5
     cases e5
     have := T.done Y yP yW yK yC i [] s5 σ5 H5 FF I5 (start I5 fr5) tn5 (IO.stop' H5 k5 _ i hl X25 S5 (zcw hw))
     rw [yA] at this
     refine thn this fun r s6 ⟨hr, I6⟩ => ?_
     subst hr
     obtain ⟨mm, hn, _⟩ := id I6.loc
     rw [yL] at hn
     -- back in the frame
     have base : Un (frs X.stack) fp H3 H5 s3.heap s6.heap := by
       have b := I6.base
       rw [← hY] at b
       exact b
     have os : s6.os = s3.os := by
       have b := I6.os
       rw [← hY] at b
       exact b
     have free : H5 s3.heap.objs.size = none := by
       have b := I6.free
       rw [yL] at b
       exact b
     have hok : HOk X.prog X.w H5 s6.heap := by
       have b := I6.hok
       rw [yP, yW] at b
       exact b
     have I7 : Inv X pins σ H5 s6 := Inv.call' (s' := s6) (ch := fp) I3 os base hok I6.bare fun b hb => ⟨(fp3 b hb).2.2.2.1, (fp3 b hb).2.1, (fp3 b hb).2.2.2.2.1, (fp3 b hb).2.2.2.2.2⟩
     have np : Dd ∉ (io ++ k1) ++ k5 := nD nk5
     rw [List.append_nil] at exs
     subst exs
     have SA := adopt S5 hvs np Rvs
     have X6 : Ext io (k1 ++ k5) H H5 := X1.trans S1 X25
     have lt3 : X.env.locals < s3.heap.objs.size := I3.lt
     refine kf Dd s3.heap.objs.size H5 s6 ⟨I7, ⟨mm, hn⟩, free, Nat.ne_of_gt lt3, I3.sz, fun x cc e z => ?_, fun p hp z => ?_, ?_⟩
     · obtain ⟨vv, q⟩ := I3.cell x cc e
       have := q.lt
       rw [z] at this
       exact Nat.lt_irrefl _ this
     · have := Heap.lt_size (I3.pin p hp).1
       rw [z] at this
       exact Nat.lt_irrefl _ this
     refine ⟨(k1 ++ k5) ++ [Dd], ⟨fun b o hb nb => X6.keep b o hb nb, fun b hb => ?_, X6.frz⟩, (by simpa using SA), ⟨Dd, rfl, ?_⟩⟩
     · rcases List.mem_append.mp hb with hb | hb
       · exact X6.fresh b hb
       · rw [List.mem_singleton.mp hb]
         cases q : H Dd with
         | none => rfl
         | some o =>
           by_cases hb : Dd ∈ io
           · exact absurd (List.mem_append_left _ hb) hio
           · have := X1.keep Dd o q hb
             rw [hD] at this; cases this
     · have := getElem?_len ((io ++ k1) ++ k5) Dd
       rw [← S5.len]
       simpa using this
   | some dd =>
     have hl : i < W.ds.length := (List.getElem?_eq_some_iff.mp hd).1
     have hdr : W.ds.drop i = dd :: W.ds.drop (i + 1) := by
       rw [List.drop_eq_getElem_cons hl, (List.getElem?_eq_some_iff.mp hd).2]
     rw [hdr] at e5
     obtain ⟨hw, e5⟩ := zao e5
     obtain ⟨⟨ρ6, t6⟩, e6, e5⟩ := zad e5
     obtain ⟨⟨b7, t7⟩, e7, e5⟩ := zad e5
     obtain ⟨go, yl⟩ := IO.go i dd H5 k5 st5 hd X25 S5 (zcw hw)
     have hit := T.item Y yP yW yK yC i [] s5 σ5 H5 FF I5 (start I5 fr5) tn5 go
     rw [yA] at hit
     refine thn hit fun r s6 ⟨u, hr, h6⟩ => ?_
     subst hr
     refine thn h6 fun _ s7 ⟨x, H7, I7, r7, y7, tn7, fr7⟩ => ?_
     obtain ⟨X7, S7, R7⟩ := yl x H7 y7
     have X57 : Ext (io ++ k1) k5 H1 H7 := (X25.trans S5 X7).app
     have hv7 : H7 Dd = some (.lst vs) := X7.keep _ _ hvs (nD nk5)
     have E7 : EnvR X.K H7 ((io ++ k1) ++ k5) σ5 ρ5 := by
       have := E5.ext S5 X7
       rw [List.append_nil] at this
       exact this
     have R7v : Reps X.K H7 ((io ++ k1) ++ k5) vs ac := by
       have := Rvs.ext S5 X7
       rw [List.append_nil] at this
       exact this
     have I7p := I7.pinned (start I7 fr7) (T.obj _ _ tn7)
     rw [← yA, ← yP, ← yW]
     rw [← yx]
     refine thn (hg _ s7 σ5 H7 x u (fun σ8 H8 => ∃ k8, Ext ((io ++ k1) ++ k5) k8 H7 H8∧StR X.K H8 (((io ++ k1) ++ k5) ++ k8) t6∧EnvR X.K H8 (((io ++ k1) ++ k5) ++ k8) σ8 ρ6) I7p r7 (by rw [yK]; exact ⟨dd, ρ5, st5, (io ++ k1) ++ k5, ρ6, t6, R7, E7, S7, e6, fun σ8 H8 k8 X8 S8 E8 => ⟨k8, X8, S8, E8⟩⟩)) fun _ s8 ⟨σ8, H8, I8, k8, X8, S8, E8⟩ => ?_
     have S8' : StR X.K H8 ((io ++ k1) ++ (k5 ++ k8)) t6 := by rw [← List.append_assoc]; exact S8
     have E8' : EnvR X.K H8 ((io ++ k1) ++ (k5 ++ k8)) σ8 ρ6 := by rw [← List.append_assoc]; exact E8
     have X38 : Ext (io ++ k1) (k5 ++ k8) H1 H8 := X57.trans S7 X8
     have nk8 : Dd ∉ k5 ++ k8 := fun hm => (List.mem_append.mp hm).elim nk5 (nF X8 hv7)
     refine thn (ht _ s8 σ8 H8 (fun b H9 => b = b7∧∃ k9, Ext ((io ++ k1) ++ (k5 ++ k8)) k9 H8 H9∧StR X.K H9 (((io ++ k1) ++ (k5 ++ k8)) ++ k9) t7) I8 (by rw [yK]; exact ⟨ρ6, t6, (io ++ k1) ++ (k5 ++ k8), b7, t7, E8', S8', e7, fun H9 k9 X9 S9 => ⟨rfl, k9, X9, S9⟩⟩)) fun ok s9 ⟨H9, I9, eb, k9, X9, S9⟩ => ?_
     subst eb
     have X39 : Ext (io ++ k1) ((k5 ++ k8) ++ k9) H1 H9 := X38.trans S8' X9
     have S9' : StR X.K H9 ((io ++ k1) ++ ((k5 ++ k8) ++ k9)) t7 := by rw [← List.append_assoc]; exact S9
     have E9 : EnvR X.K H9 ((io ++ k1) ++ ((k5 ++ k8) ++ k9)) σ8 ρ6 := by
       have := E8'.ext S8' X9
       rw [List.append_assoc] at this
       exact this
     have hv8 : H8 Dd = some (.lst vs) := X8.keep _ _ hv7 (nD nk5)
     have hv9 : H9 Dd = some (.lst vs) := X9.keep _ _ hv8 (nD nk8)
     have nk9 : Dd ∉ (k5 ++ k8) ++ k9 := fun hm => (List.mem_append.mp hm).elim nk8 (nF X9 hv8)
     have R8v : Reps X.K H8 ((io ++ k1) ++ (k5 ++ k8)) vs ac := by
       have := R7v.ext S7 X8
       rw [List.append_assoc] at this
       exact this
     have R9v : Reps X.K H9 ((io ++ k1) ++ ((k5 ++ k8) ++ k9)) vs ac := by
       have := R8v.ext S8' X9
       rw [List.append_assoc] at this
       exact this
     have back : ∀ {Hx : Hp} {sx : Shared} {σx : L2.St}, Inv Y ([] ++ zhk fp s7.heap) σx Hx sx→Inv Y [] σx Hx sx∧tn (i + 1) sx.heap∧∀ b ∈ fp, Hx b = none := fun {Hx sx σx} Ix => by
       refine ⟨Ix.unpinned, T.keep _ _ _ tn7 fun b hb o e => (Ix.pin (b, o) (List.mem_append_right _ (List.mem_append_right _ (zcB hb e)))).1, fun b hb => ?_⟩
       obtain ⟨o, e, dn⟩ := T.obj _ _ tn7 b hb
       exact (Ix.pin (b, o) (List.mem_append_right _ (List.mem_append_right _ (zcB hb e)))).2.1
     cases ok with
     | false =>
       rw [if_neg (by decide)]
       have e5 : mCI W g c m (W.ds.drop (i + 1)) ρ6 t7 = some (rs, t2) := e5
       obtain ⟨Ib, tnb, frb⟩ := back I9
       exact ⟨W.ds.length - (i + 1), by omega, i + 1, σ8, H9, ρ6, t7, (k5 ++ k8) ++ k9, ac, rs, rfl, Ib, tnb, frb, X39, nk9, S9', E9, ⟨vs, hv9, R9v⟩, e5, exs⟩
     | true =>
       rw [if_pos rfl]
       have e5 : ((m ρ6 t7).bind fun (x, s3) => (mCI W g c m (W.ds.drop (i + 1)) ρ6 s3).map fun (xs, s4) => (x :: xs, s4)) = some (rs, t2) := e5
       obtain ⟨⟨x10, t10⟩, e10, e5⟩ := zad e5
       obtain ⟨⟨rs', t11⟩, e11, e5⟩ := zag e5
       cases e5
       refine thn (he _ s9 σ8 H9 (fun v H10 => ∃ k10, Ext ((io ++ k1) ++ ((k5 ++ k8) ++ k9)) k10 H9 H10∧StR X.K H10 (((io ++ k1) ++ ((k5 ++ k8) ++ k9)) ++ k10) t10∧Rep X.K H10 (((io ++ k1) ++ ((k5 ++ k8) ++ k9)) ++ k10) v x10) I9
         (by rw [yK]; exact ⟨ρ6, t7, (io ++ k1) ++ ((k5 ++ k8) ++ k9), x10, t10, E9, S9', e10, fun v H10 k10 X10 S10 R10 => ⟨k10, X10, S10, R10⟩⟩)) fun u10 s10 ⟨v10, H10, I10, r10, k10, X10, S10, R10⟩ => ?_
       have X310 : Ext (io ++ k1) (((k5 ++ k8) ++ k9) ++ k10) H1 H10 := X39.trans S9' X10
       have nk10 : Dd ∉ ((k5 ++ k8) ++ k9) ++ k10 := fun hm => (List.mem_append.mp hm).elim nk9 (nF X10 hv9)
       have S10' : StR X.K H10 ((io ++ k1) ++ (((k5 ++ k8) ++ k9) ++ k10)) t10 := by rw [← List.append_assoc]; exact S10
       have hv10 : H10 Dd = some (.lst vs) := X10.keep _ _ hv9 (nD nk9)
       have E10 : EnvR X.K H10 ((io ++ k1) ++ (((k5 ++ k8) ++ k9) ++ k10)) σ8 ρ6 := by
         have := E9.ext S9' X10
         rw [List.append_assoc] at this
         exact this
       have R10v : Reps X.K H10 ((io ++ k1) ++ (((k5 ++ k8) ++ k9) ++ k10)) (vs ++ [v10]) (ac ++ [x10]) := by
         have a := R9v.ext S9' X10
         rw [List.append_assoc] at a
         rw [List.append_assoc] at R10
         exact a.append (Reps.cons R10 Reps.nil)
       have hlen : vs.length < sizeLine := by
         rw [R9v.length]
         have := of_decide_eq_true hfit
         rw [exs] at this
         simp at this
         omega
       refine thn (zf7 _ s10 σ8 H10 (.ref Dd) [v10] (.ref Dd) [u10] (fun _ H11 => H11 = upd H10 Dd (.lst (vs ++ [v10]))) I10 rfl (.cons r10 .nil) ⟨Dd, vs, v10, rfl, rfl, hv10, hlen, rfl⟩) fun _ s11 ⟨_, H11, I11, _, e11'⟩ => ?_
       subst e11'
       have nD10 := nD nk10
       -- the new list is written: nothing of the store
       have XU : ∀ b o, H10 b = some o→b ≠ Dd→upd H10 Dd (.lst (vs ++ [v10])) b = some o := fun b o hb hn => by rw [zay hn]; exact hb
       have TU : Kp H10 (upd H10 Dd (.lst (vs ++ [v10]))) := ⟨fun a ys hb => XU a _ hb (zne hb hv10 (by simp)), fun a o u hb => XU a _ hb (zne hb hv10 (by simp))⟩
       have S11 : StR X.K (upd H10 Dd (.lst (vs ++ [v10]))) ((io ++ k1) ++ (((k5 ++ k8) ++ k9) ++ k10)) t10 := by
         refine ⟨S10'.len, S10'.nd, fun n a ob h1 h2 => ?_⟩
         have hne : a ≠ Dd := fun z => nD10 (by rw [← z]; exact List.mem_of_getElem? h1)
         have := OR.mono (ka := []) TU (zay hne) (S10'.ob n a ob h1 h2)
         rw [List.append_nil] at this
         exact this
       have mono0 : ∀ {v : V} {d : D}, Rep X.K H10 ((io ++ k1) ++ (((k5 ++ k8) ++ k9) ++ k10)) v d→Rep X.K (upd H10 Dd (.lst (vs ++ [v10]))) ((io ++ k1) ++ (((k5 ++ k8) ++ k9) ++ k10)) v d := fun {v d} h => by
         have := Rep.mono (ka := []) TU h
         rw [List.append_nil] at this
         exact this
       have mono1 : ∀ {v : List V} {d : List D}, Reps X.K H10 ((io ++ k1) ++ (((k5 ++ k8) ++ k9) ++ k10)) v d→Reps X.K (upd H10 Dd (.lst (vs ++ [v10]))) ((io ++ k1) ++ (((k5 ++ k8) ++ k9) ++ k10)) v d := fun {v d} h => by
         have := Reps.mono (ka := []) TU h
         rw [List.append_nil] at this
         exact this
       obtain ⟨Ib, tnb, frb⟩ := back I11
       refine ⟨W.ds.length - (i + 1), by omega, i + 1, σ8, upd H10 Dd (.lst (vs ++ [v10])), ρ6, t10, ((k5 ++ k8) ++ k9) ++ k10, ac ++ [x10], rs', rfl, Ib, tnb, frb, ⟨fun b o hb nb => XU b o (X310.keep b o hb nb) (fun z => by rw [z, hD] at hb; cases hb), X310.fresh, fun b o u hb => XU b _ (X310.frz b o u hb) (fun z => by rw [z, hD] at hb; cases hb)⟩, nk10, S11, ⟨E10.len, fun j dj hj => ?_⟩, ⟨_, zbi, mono1 R10v⟩, e11, by rw [exs, List.append_assoc]; rfl⟩
       obtain ⟨v, q, r⟩ := E10.at_ j dj hj
       exact ⟨v, q, mono0 r⟩
 have l4 := loop s4 I4 tn4
 exact codeAny_compStart_list l4 (T.self _ 0 _ _ _ tn4 l4)
theorem zc0 (hx : X.xe = FF) (hc : X.calm = true) (Z : CompS X scope N' nt fr) (hi : SI X tg iter mi)
   (hg : ∀ C s0 H0 fp, SG (zcF X scope N' (zcG X scope C) C s0 H0 fp) tg g) (ht : ∀ C s0 H0 fp, SC (zcF X scope N' (zcG X scope C) C s0 H0 fp) ifs c) (he : ∀ C s0 H0 fp, SE (zcF X scope N' (zcG X scope C) C s0 H0 fp) elt m)
   (hs : ∀ x, foldedSetIterable iter X.env x = pure x := by intro _; rfl) : SE X (.ListComp elt [⟨tg, iter, ifs, 0⟩] scope pos) (zcQ mi nt fr g c m) := by
 intro pins s σ H Q I ⟨ρ, st, io, d, st', E, S, e, k⟩
 rw [eval_ListComp]
 refine zh5 (use := none) hx hc Z hi hg ht he hs I E S e fun Dd C H5 s6 R => ?_
 obtain ⟨m5, hn⟩ := R.ns
 refine ⟨m5, hn, fun h' hsb => ?_⟩
 obtain ⟨ka, X5, S5, R5⟩ := R.val
 exact ⟨.ref Dd, H5, R.inv.turned (t' := s6.toks) (it := C) (fun b o hb q => (hsb.2 b hb).trans q) R.free R.ne (.inr R.young) R.cells R.pin, rfl, k _ _ ka X5 S5 R5⟩
theorem zcK {i : Nat} {x : Str} {pos' spos : Pos} (hx : X.xe = FF) (hc : X.calm = true) (Z : CompS X scope N' nt fr) (hi : SI X tg iter mi)
   (hg : ∀ C s0 H0 fp, SG (zcF X scope N' (zcG X scope C) C s0 H0 fp) tg g) (ht : ∀ C s0 H0 fp, SC (zcF X scope N' (zcG X scope C) C s0 H0 fp) ifs c) (he : ∀ C s0 H0 fp, SE (zcF X scope N' (zcG X scope C) C s0 H0 fp) elt m)
   (hN : X.N.Nodup) (hi' : X.N[i]? = some x) (hl : X.env.scope.names.lookup x = some .local)
   (hsw : swapsWith (.ListComp elt [⟨tg, iter, ifs, 0⟩] scope pos) (some (.Name x pos')) spos.line X.env = pure true := by rfl)
   (hs : ∀ x, foldedSetIterable iter X.env x = pure x := by intro _; rfl) : SS X (.Assign [.Name x pos'] (.ListComp elt [⟨tg, iter, ifs, 0⟩] scope pos) spos) (mAsg (zcQ mi nt fr g c m) (gNm i)) := by
 intro pins s σ H N I h
 obtain ⟨ρ, st, io, f, st', E, S, e, w⟩ := zcI.mp h
 obtain ⟨⟨d, s1⟩, e1, e⟩ := zad e
 obtain ⟨⟨ρ', s2⟩, e2, e⟩ := zag e
 cases e
 cases e2
 rw [exec_Assign_Name_used _ _ _ _ hsw]
 refine wpAny_bind (wpAny_standAt (wpAny_bind ?_))
 show wpAny _ X.A (do let _ ← comprehension (.ListComp elt [⟨tg, iter, ifs, 0⟩] scope pos) scope X.env _ (newList []) false (eval iter X.env) (some (assign (.Name x pos') X.env))) _ _ s
 refine wpAny_bind (thn (zh5 (use := some (assign (.Name x pos') X.env)) (Qf := fun _ s' => SP X pins N .next s') hx hc Z hi hg ht he hs I E S e1 fun Dd C H5 s6 R => ?_) fun _ s' hq => wpAny_pure (wpAny_pure hq))
 obtain ⟨m5, hn⟩ := R.ns
 obtain ⟨ka, X5, S5, R5⟩ := R.val
 show wpAny _ _ (assign (.Name x pos') X.env (.ref Dd)) _ _ _
 refine wpAny_assign_Name (zfP (v := .ref Dd) R.inv hN hi' (.inl hl) rfl (fun s7 I7 ⟨a, sb, ha⟩ => ?_) (.inr hl))
 have hCa : C ≠ a := fun z => by
   rcases ha with q | q
   · exact R.ne (z.trans q)
   · exact R.cells _ _ q z.symm
 refine ⟨m5, hn.sameBut sb hCa, fun h' hsb => ?_⟩
 refine ⟨_, H5, I7.turned (t' := s7.toks) (it := C) (fun b o hb q => (hsb.2 b hb).trans q) R.free R.ne (.inr R.young) R.cells R.pin, ?_⟩
 exact w _ _ ka X5 S5 ((E.ext S X5).set i R5)
end
end L2.MP
namespace L2.MP
open PySem PySem.Spec PyProof.Rows
section
variable {X : Cx} {e a b c : Expr} {es : List Expr} {pos : Pos} {m ma mb mc : ME} {mm : MA}
variable {K : PySem.W.Frag} {H : Hp} {io ka : List Addr} {st st' : Sto}
def addD : G2
 | .int i, .int j, st => some (.int (i + j), st)
 | .str a, .str b, st => if fits (a.length + b.length) = true then some (.str (a ++ b), st) else none
 | .tup a, .tup b, st => if (!a.isEmpty && fits (a.length + b.length)) = true then some (.tup (a ++ b), st) else none
 | .ref a, .ref b, st => match st[a]?, st[b]? with
   | some (.lst x), some (.lst y) => if fits (x.length + y.length) = true then some (.ref st.length, st ++ [.lst (x ++ y)]) else none
   | _, _ => none
 | _, _, _ => none
theorem zaE : OpM X (binaryOp .Add) addD := by
 intro pins s σ H x y v u Q I rx ry ⟨dx, dy, st, io, d, st', Rx, Ry, S, e, k⟩
 cases dx with
 | int i =>
   cases dy with
   | int j => cases e; exact zom pins s σ H x y v u Q I rx ry ⟨i, j, Rx, Ry, k.now S rfl⟩
   | _ => cases e
 | str i =>
   cases dy with
   | str j =>
     obtain ⟨hf, e⟩ := zao e
     cases e; exact zho pins s σ H x y v u Q I rx ry ⟨i, j, Rx, Ry, of_decide_eq_true hf, k.now S rfl⟩
   | _ => cases e
 | tup i =>
   cases dy with
   | tup j =>
     obtain ⟨hf, e⟩ := zao e
     cases e
     rw [Bool.and_eq_true] at hf
     obtain ⟨p, xs, ex, hp, r1⟩ := Rx
     obtain ⟨q, ys, ey, hq, r2⟩ := Ry
     refine zmj pins s σ H x y v u Q I rx ry ⟨p, q, xs, ys, ex, ey, SqT.of hp, SqT.of hq, fun z => ?_, by rw [r1.length, r2.length]; exact of_decide_eq_true hf.2, fun z => ?_, fun z p hp => k.tup S (r1.append r2) hp⟩
     · have := r1.length
       rw [z] at this
       have : i = [] := List.eq_nil_of_length_eq_zero this.symm
       rw [this] at hf
       exact absurd hf.1 (by decide)
     · have := r2.length
       rw [z] at this
       have : j = [] := List.eq_nil_of_length_eq_zero this.symm
       subst this
       rw [List.append_nil] at k
       exact k.now S ⟨p, xs, rfl, hp, r1⟩
   | _ => cases e
 | ref i =>
   cases dy with
   | ref j =>
     unfold addD at e
     dsimp only at e
     split at e
     · rename_i l1 l2 e1 e2
       obtain ⟨hf, e⟩ := zao e
       cases e
       obtain ⟨p, ex, hp⟩ := Rx
       obtain ⟨q, ey, hq⟩ := Ry
       obtain ⟨xs, h1, r1⟩ := S.ob i p _ hp e1
       obtain ⟨ys, h2, r2⟩ := S.ob j q _ hq e2
       exact zol pins s σ H x y v u Q I rx ry ⟨p, q, xs, ys, ex, ey, h1, h2, by rw [r1.length, r2.length]; exact of_decide_eq_true hf, fun p hp => k.lst S (r1.append r2) hp⟩
     · cases e
   | _ => cases e
 | _ => cases e
def intD (c : Int→Int→Bool) (g : Int→Int→D) : G2
 | .int i, .int j, st => if c i j = true then some (g i j, st) else none
 | _, _, _ => none
theorem zdM {f : Value→Value→Sem Value} {C : Int→Int→Prop} {c : Int→Int→Bool} {g : Int→Int→Int} (h : OpR X f (rI C fun i j => .int (g i j))) (hc : ∀ i j, c i j = true→C i j) : OpM X f (intD c fun i j => .int (g i j)) := by
 intro pins s σ H x y v u Q I rx ry ⟨dx, dy, st, io, d, st', Rx, Ry, S, e, k⟩
 cases dx with
 | int i =>
   cases dy with
   | int j =>
     obtain ⟨hf, e⟩ := zao e
     cases e; exact h pins s σ H x y v u Q I rx ry ⟨i, j, Rx, Ry, hc i j hf, k.now S rfl⟩
   | _ => cases e
 | _ => cases e
def tt2 : Int→Int→Bool := fun _ _ => true
def subD : G2 := intD tt2 fun i j => .int (i - j)
theorem zf2 : OpM X (binaryOp .Sub) subD := zdM (C := fun _ _ => True) (fun pins s σ H x y v u Q I rx ry ⟨i, j, h1, h2, _, q⟩ => zof pins s σ H x y v u Q I rx ry ⟨i, j, h1, h2, q⟩) fun _ _ _ => trivial
def in64 (i : Int) : Bool := decide (-(2 ^ 64) < i) && decide (i < 2 ^ 64)
def mulD : G2 := intD (fun i j => in64 i || in64 j) fun i j => .int (i * j)
theorem zmh : OpM X (binaryOp .Mult) mulD := zdM zog fun i j h => by
 rw [Bool.or_eq_true] at h
 unfold in64 at h
 rw [Bool.and_eq_true, Bool.and_eq_true] at h
 rcases h with h | h
 · exact .inl ⟨of_decide_eq_true h.1, of_decide_eq_true h.2⟩
 · exact .inr ⟨of_decide_eq_true h.1, of_decide_eq_true h.2⟩
def modD : G2 := intD (fun _ j => decide (0 < j)) fun i j => .int (i % j)
theorem zb3 : OpM X (binaryOp .Mod) modD := zdM zoh fun i j h => of_decide_eq_true h
def cmpD (g : Int→Int→Bool) : G2
 | .int i, .int j, st => some (.bl (g i j), st)
 | _, _, _ => none
theorem zf3 {f : Value→Value→Sem Value} {g : Int→Int→Bool} (h : OpR X f (rI0 fun i j => .bl (g i j))) : OpM X f (cmpD g) := by
 intro pins s σ H x y v u Q I rx ry ⟨dx, dy, st, io, d, st', Rx, Ry, S, e, k⟩
 cases dx with
 | int i =>
   cases dy with
   | int j => cases e; exact h pins s σ H x y v u Q I rx ry ⟨i, j, Rx, Ry, k.now S rfl⟩
   | _ => cases e
 | _ => cases e
def ltD : G2 := cmpD fun i j => decide (i < j)
def leD : G2 := cmpD fun i j => decide (i ≤ j)
def gtD : G2 := cmpD fun i j => decide (j < i)
def geD : G2 := cmpD fun i j => decide (j ≤ i)
theorem zkz : OpM X (compareOp .Lt) ltD := zf3 zpS
theorem zoi : OpM X (compareOp .LtE) leD := zf3 zpT
theorem zok : OpM X (compareOp .Gt) gtD := zf3 zpU
theorem zkA : OpM X (compareOp .GtE) geD := zf3 zpV
def zlu : D→Bool
 | .non => true
 | _ => false
def zln : G2 := fun x y st => match y with
 | .non => some (.bl !zlu x, st)
 | _ => none
theorem zlW {v : V} {d : D} (h : Rep K H io v d) : decide (v = .non) = zlu d := by
 cases d with
 | non => cases (show v = .non from h); rfl
 | bl b => cases (show v = .bl b from h); rfl
 | int b => cases (show v = .int b from h); rfl
 | str b => cases (show v = .str b from h); rfl
 | tup b => obtain ⟨a, xs, rfl, _⟩ := h; rfl
 | ref b => obtain ⟨a, rfl, _⟩ := h; rfl
 | kl b => obtain ⟨a, xs, rfl, _⟩ := h; rfl
theorem zkw : OpM X (compareOp .IsNot) zln := by
 intro pins s σ H x y v u Q I rx ry ⟨dx, dy, st, io, d, st', Rx, Ry, S, e, k⟩
 cases dy with
 | non =>
   cases e
   refine zmf pins s σ H x y v u Q I rx ry ⟨Ry, ?_⟩
   rw [zlW Rx]
   exact k.now S rfl
 | _ => cases e
def negD : D→Sto→Option (D × Sto)
 | .int i, st => some (.int (-i), st)
 | _, _ => none
def mNeg (m : ME) : ME := fun ρ st => (m ρ st).bind fun (x, s) => negD x s
theorem znJ (ha : SE X a ma) : SE X (.UnaryOp .USub a pos) (mNeg ma) := PE.imp (zpN zno ha) fun σ H Q ⟨ρ, st, io, d, st', E, S, e, k⟩ => by
 obtain ⟨⟨x, s1⟩, e1, e⟩ := zad e
 cases x with
 | int i =>
   cases e
   exact ⟨ρ, st, io, .int i, _, E, S, e1, fun v H1 k1 X1 S1 R1 => ⟨i, R1, k _ H1 k1 X1 S1 rfl⟩⟩
 | _ => cases e
def idxD : G2
 | .tup ds, .int i, st => (atI ds i).map fun d => (d, st)
 | .ref n, .int i, st => (zbj st n).bind fun ds => (atI ds i).map fun d => (d, st)
 | .kl ds, .int i, st => (atI ds i).map fun d => (d, st)
 | .str z, .int i, st => if fits z.length = true then (atI z.cps.toList i).map fun c => (.str ⟨#[c]⟩, st) else none
 | _, _, _ => none
theorem zie {xs : List V} {ds : List D} {i : Int} {d : D} (r : Reps K H io xs ds) (h : atI ds i = some d) : ∃ v, atI xs i = some v∧Rep K H io v d := by
 unfold atI at h ⊢
 rw [r.length]
 obtain ⟨j, hj, h⟩ := zad h
 obtain ⟨v, hv, rv⟩ := r.get h
 exact ⟨v, by rw [hj]; exact hv, rv⟩
theorem ix_M : IxR X (r2M X.K idxD) := by
 intro value slice pins s σ H x y v u Q I rx ry ⟨dx, dy, st, io, d, st', Rx, Ry, S, e, k⟩ hs
 cases dy with
 | int i =>
   cases dx with
   | tup ds =>
     obtain ⟨d', e1, e⟩ := zag e
     cases e
     obtain ⟨p, xs, ex, hp, r⟩ := Rx
     obtain ⟨w, hw, rw'⟩ := zie r e1
     exact za2 value slice pins s σ H x y v u Q I rx ry ⟨p, xs, i, w, ex, Ry, SqT.of hp, hw, k.now S rw'⟩ hs
   | ref n =>
     obtain ⟨ds, e0, e⟩ := zad e
     obtain ⟨d', e1, e⟩ := zag e
     cases e
     obtain ⟨p, ex, hp⟩ := Rx
     obtain ⟨xs, hx, r⟩ := zaX S hp e0
     obtain ⟨w, hw, rw'⟩ := zie r e1
     exact zjM value slice pins s σ H x y v u Q I rx ry ⟨p, xs, i, w, ex, Ry, hx, hw, k.now S rw'⟩ hs
   | kl ds =>
     obtain ⟨d', e1, e⟩ := zag e
     cases e
     obtain ⟨p, xs, ex, hx, r⟩ := Rx
     obtain ⟨w, hw, rw'⟩ := zie r e1
     exact zjM value slice pins s σ H x y v u Q I rx ry ⟨p, xs, i, w, ex, Ry, hx.sq, hw, k.now S rw'⟩ hs
   | str z =>
     obtain ⟨hf, e⟩ := zao e
     obtain ⟨d', e1, e⟩ := zag e
     cases e
     exact zhI value slice pins s σ H x y v u Q I rx ry ⟨z, i, d', Rx, Ry, of_decide_eq_true hf, e1, k.now S rfl⟩ hs
   | _ => cases e
 | _ => cases dx <;> cases e
theorem zpG (ha : SE X a ma) (hb : SE X b mb) (hs : zii b := by intro _ _; rfl) : SE X (.Subscript a b pos) (mBin idxD ma mb) := PE.imp (zpP ix_M ha hb hs) fun _ _ _ h => zdf h
def lenD : GN
 | [.tup ds], st => some (.int ds.length, st)
 | [.ref n], st => (zbj st n).map fun ds => (.int ds.length, st)
 | [.kl ds], st => some (.int ds.length, st)
 | [.str z], st => if fits z.length = true then some (.int z.length, st) else none
 | _, _ => none
theorem zbI : zdC X (.builtin "len") lenD := by
 intro pins s σ H xs us Q I r ⟨ds, st, io, d, st', R, S, e, k⟩
 cases ds with
 | nil => cases e
 | cons d0 r0 =>
 cases r0 with
 | cons d1 r1 => cases d0 <;> cases e
 | nil =>
 cases d0 with
 | tup ts =>
   cases e
   obtain ⟨v, rfl, p, ys, rfl, hp, r1⟩ := R.one
   refine zct pins s σ H _ us Q I r ⟨p, ys, rfl, .inr (SqT.of hp), ?_⟩
   rw [r1.length]
   exact k.now S rfl
 | ref n =>
   obtain ⟨ts, e0, e⟩ := zag e
   cases e
   obtain ⟨v, rfl, p, rfl, hp⟩ := R.one
   obtain ⟨ys, hx, r1⟩ := zaX S hp e0
   refine zct pins s σ H _ us Q I r ⟨p, ys, rfl, .inl hx, ?_⟩
   rw [r1.length]
   exact k.now S rfl
 | kl ts =>
   cases e
   obtain ⟨v, rfl, p, ys, rfl, hx, r1⟩ := R.one
   refine zct pins s σ H _ us Q I r ⟨p, ys, rfl, .inl hx.sq, ?_⟩
   rw [r1.length]
   exact k.now S rfl
 | str z =>
   obtain ⟨hf, e⟩ := zao e
   cases e
   obtain ⟨v, rfl, rfl⟩ := R.one
   exact zfH pins s σ H _ us Q I r ⟨z, rfl, of_decide_eq_true hf, k.now S rfl⟩
 | _ => cases e
def intC : GN
 | [.int i], st => some (.int i, st)
 | [.bl b], st => some (.int (if b then 1 else 0), st)
 | _, _ => none
theorem zjl : zdC X (.type "int") intC := by
 intro pins s σ H xs us Q I r ⟨ds, st, io, d, st', R, S, e, k⟩
 cases ds with
 | nil => cases e
 | cons d0 r0 =>
 cases r0 with
 | cons d1 r1 => cases d0 <;> cases e
 | nil =>
 cases d0 with
 | int i =>
   cases e
   obtain ⟨v, rfl, rfl⟩ := R.one
   exact zgk pins s σ H _ us Q I r (.inl ⟨i, rfl, k.now S rfl⟩)
 | bl b =>
   cases e
   obtain ⟨v, rfl, rfl⟩ := R.one
   exact zgk pins s σ H _ us Q I r (.inr ⟨b, rfl, k.now S rfl⟩)
 | _ => cases e
def zmu : GN
 | [.int i, .int j], st => some (.int (if j < i then j else i), st)
 | _, _ => none
theorem zjj (hc : X.calm = true) : zdC X (.builtin "min") zmu := by
 intro pins s σ H xs us Q I r ⟨ds, st, io, d, st', R, S, e, k⟩
 unfold zmu at e
 split at e
 · rename_i i j
   cases e
   obtain ⟨v, u, rfl, rfl, rfl⟩ := R.two
   exact zjk hc pins s σ H _ us Q I r ⟨i, j, rfl, k.now S rfl⟩
 · cases e
def zdg : GN
 | [.tup ds], st => some (.tup ds, st)
 | [.ref n], st => (zbj st n).map fun ds => (.tup ds, st)
 | _, _ => none
theorem zbw : zdC X (.type "tuple") zdg := by
 intro pins s σ H xs us Q I r ⟨ds, st, io, d, st', R, S, e, k⟩
 cases ds with
 | nil => cases e
 | cons d0 r0 =>
 cases r0 with
 | cons d1 r1 => cases d0 <;> cases e
 | nil =>
 cases d0 with
 | tup ts =>
   cases e
   obtain ⟨v, rfl, p, ys, rfl, hp, r1⟩ := R.one
   exact zc3 pins s σ H _ us Q I r ⟨p, ys, rfl, .inr ⟨SqT.of hp, k.now S ⟨p, ys, rfl, hp, r1⟩⟩⟩
 | ref n =>
   obtain ⟨ts, e0, e⟩ := zag e
   cases e
   obtain ⟨v, rfl, p, rfl, hp⟩ := R.one
   obtain ⟨ys, hx, r1⟩ := zaX S hp e0
   exact zc3 pins s σ H _ us Q I r ⟨p, ys, rfl, .inl ⟨hx, fun l hl => k.tup S r1 hl⟩⟩
 | _ => cases e
end
end L2.MP
namespace L2.MP
open PySem PySem.Spec PyProof.Rows
def toPs (f : D→Option PyData) : List D→Option (List PyData)
 | [] => some []
 | d :: ds => (f d).bind fun p => (toPs f ds).map fun ps => p :: ps
def toP : Nat→Sto→D→Option PyData
 | 0, _, _ => none
 | n + 1, st, d => match d with
   | .non => some .none
   | .bl b => some (.bool b)
   | .int i => some (.int i)
   | .str x => if PyData.strOk x = true then some (.str x) else none
   | .tup ds => (toPs (toP n st) ds).map .tuple
   | .ref k => (zbj st k).bind fun ds => (toPs (toP n st) ds).map .list
   | .kl _ => none
theorem zcW {n : Nat} : ∀ {ps : List PyData}, (∀ p ∈ ps, p.depth ≤ n)→PyData.depthAll ps ≤ n
 | [], _ => by rw [PyData.depthAll]; exact Nat.zero_le _
 | p :: ps, h => by
   rw [PyData.depthAll]
   exact Nat.max_le.mpr ⟨h p List.mem_cons_self, zcW fun q hq => h q (List.mem_cons_of_mem _ hq)⟩
theorem zdu {ps : List PyData} : (∀ p ∈ ps, p.canLay0 = true)→PyData.canLayAll0 ps = true := by
 induction ps with
 | nil => intro _; simp only [PyData.canLayAll0]
 | cons p ps ih =>
   intro h
   simp only [PyData.canLayAll0]
   rw [h p List.mem_cons_self, ih fun q hq => h q (List.mem_cons_of_mem _ hq)]
   rfl
theorem zfd {f : D→Option PyData} : ∀ {ds : List D} {ps : List PyData}, toPs f ds = some ps→∀ p ∈ ps, ∃ d, f d = some p
 | [], ps, h, p, hp => by cases h; exact absurd hp (by simp)
 | d :: ds, ps, h, p, hp => by
   obtain ⟨q, e1, h⟩ := zad h
   obtain ⟨qs, e2, h⟩ := zag h
   subst h
   rcases List.mem_cons.mp hp with rfl | hp
   · exact ⟨d, e1⟩
   · exact zfd e2 p hp
theorem zdh : ∀ {n : Nat} {st : Sto} {d : D} {p : PyData}, toP n st d = some p→p.canLay0 = true∧p.depth ≤ n
 | 0, _, _, _, h => by cases h
 | n + 1, st, d, p, h => by
   cases d with
   | non => cases h; exact ⟨by simp only [PyData.canLay0], by simp only [PyData.depth]; exact Nat.zero_le _⟩
   | bl b => cases h; exact ⟨by simp only [PyData.canLay0], by simp only [PyData.depth]; exact Nat.zero_le _⟩
   | int b => cases h; exact ⟨by simp only [PyData.canLay0], by simp only [PyData.depth]; exact Nat.zero_le _⟩
   | str b =>
     obtain ⟨hs, h⟩ := zao h
     cases h; exact ⟨by simp only [PyData.canLay0]; exact hs, by simp only [PyData.depth]; exact Nat.zero_le _⟩
   | tup ds =>
     obtain ⟨ps, e, h⟩ := zag h
     subst h
     have q : ∀ p ∈ ps, p.canLay0 = true∧p.depth ≤ n := fun p hp => let ⟨d, hd⟩ := zfd e p hp; zdh hd
     exact ⟨by simp only [PyData.canLay0]; exact zdu fun p hp => (q p hp).1, by simp only [PyData.depth]; exact Nat.succ_le_succ (zcW fun p hp => (q p hp).2)⟩
   | kl ds => cases h
   | ref k =>
     obtain ⟨ds, e0, h⟩ := zad h
     obtain ⟨ps, e, h⟩ := zag h
     subst h
     have q : ∀ p ∈ ps, p.canLay0 = true∧p.depth ≤ n := fun p hp => let ⟨d, hd⟩ := zfd e p hp; zdh hd
     exact ⟨by simp only [PyData.canLay0]; exact zdu fun p hp => (q p hp).1, by simp only [PyData.depth]; exact Nat.succ_le_succ (zcW fun p hp => (q p hp).2)⟩
section
variable {X : Cx} {a b : Expr} {pos : Pos} {ma mb : ME} {pins : List (Addr × Obj)} {σ : L2.St} {H : Hp} {s : Shared} {io : List Addr} {st : Sto}
theorem zcN {f : D→Option PyData} (hf : ∀ {v : V} {u : Value} {d : D} {p : PyData}, Rep X.K H io v d→RelV v u→f d = some p→∃ as, Reads s.heap u p as) :
   ∀ {xs : List V} {us : List Value} {ds : List D} {ps : List PyData}, Reps X.K H io xs ds→Vals xs us→toPs f ds = some ps→∃ as, ReadsAll s.heap us ps as
 | _, _, [], ps, h, r, e => by
   cases (show _ = [] from h)
   cases r
   cases e
   exact ⟨_, .nil⟩
 | _, _, d :: ds, ps, h, r, e => by
   obtain ⟨y, ys, rfl, h1, h2⟩ := h
   cases r with
   | cons r1 r2 =>
     obtain ⟨q, e1, e⟩ := zad e
     obtain ⟨qs, e2, e⟩ := zag e
     subst e
     obtain ⟨as, ra⟩ := hf h1 r1 e1
     obtain ⟨bs, rb⟩ := zcN hf h2 r2 e2
     exact ⟨_, .cons ra rb⟩
theorem zbA (I : Inv X pins σ H s) (S : StR X.K H io st) : ∀ {n : Nat} {v : V} {u : Value} {d : D} {p : PyData}, Rep X.K H io v d→RelV v u→toP n st d = some p→∃ as, Reads s.heap u p as
 | 0, _, _, _, _, _, _, h => by cases h
 | n + 1, v, u, d, p, h, r, e => by
   cases d with
   | non => cases e; cases (show v = .non from h); cases r; exact ⟨_, .none⟩
   | bl b => cases e; cases (show v = .bl b from h); cases r; exact ⟨_, .bool _⟩
   | int b => cases e; cases (show v = .int b from h); obtain ⟨t, rfl⟩ := r; exact ⟨_, .int _ _⟩
   | str b =>
     obtain ⟨hs, e⟩ := zao e
     cases e; cases (show v = .str b from h); obtain ⟨t, rfl⟩ := r; exact ⟨_, .str _ _⟩
   | tup ds =>
     obtain ⟨ps, e', q⟩ := zag e
     subst q
     obtain ⟨a, xs, rfl, ha, rs⟩ := h
     cases r
     obtain ⟨its, rv, ⟨o, ho, hc, k, hd⟩, hz⟩ := I.tuple (SqT.of ha)
     obtain ⟨as, ra⟩ := zcN (f := toP n st) (fun h r e => zbA I S h r e) rs rv e'
     exact ⟨_, .tuple ho hc hd (by simpa using ra)⟩
   | kl ds => cases e
   | ref k =>
     obtain ⟨ds, e0, e⟩ := zad e
     obtain ⟨ps, e', q⟩ := zag e
     subst q
     obtain ⟨a, rfl, ha⟩ := h
     cases r
     obtain ⟨xs, hx, rs⟩ := zaX S ha e0
     obtain ⟨its, rv, ⟨o, k, ho, hc, _, hd⟩, hz⟩ := I.list hx
     obtain ⟨as, ra⟩ := zcN (f := toP n st) (fun h r e => zbA I S h r e) rs rv e'
     exact ⟨_, .list ho hc hd (by simpa using ra)⟩
def eqD : G2 := fun x y st => (toP 100 st x).bind fun p => (toP 100 st y).map fun q => (.bl (PyData.eqv p q), st)
def neD : G2 := fun x y st => (toP 100 st x).bind fun p => (toP 100 st y).map fun q => (.bl !PyData.eqv p q, st)
theorem zfv (hu : X.A.units + 100 < cLine) : OpM X (compareOp .Eq) eqD := by
 intro pins s σ H x y v u Q I rx ry ⟨dx, dy, st, io, d, st', Rx, Ry, S, e, k⟩
 obtain ⟨p, e1, e⟩ := zad e
 obtain ⟨q, e2, e⟩ := zag e
 cases e
 obtain ⟨as, ra⟩ := zbA I S Rx rx e1
 obtain ⟨bs, rb⟩ := zbA I S Ry ry e2
 have h1 := zdh e1
 have h2 := zdh e2
 exact PySem.SeqAt.compareEq_reads ra rb h1.1 h2.1 (Nat.lt_of_le_of_lt (Nat.add_le_add_left (Nat.le_trans (Nat.min_le_left _ _) h1.2) _) hu) ⟨.bl _, H, I, rfl, k.now S rfl⟩
theorem zkx (hu : X.A.units + 100 < cLine) : OpM X (compareOp .NotEq) neD := by
 intro pins s σ H x y v u Q I rx ry ⟨dx, dy, st, io, d, st', Rx, Ry, S, e, k⟩
 obtain ⟨p, e1, e⟩ := zad e
 obtain ⟨q, e2, e⟩ := zag e
 cases e
 obtain ⟨as, ra⟩ := zbA I S Rx rx e1
 obtain ⟨bs, rb⟩ := zbA I S Ry ry e2
 have h1 := zdh e1
 have h2 := zdh e2
 exact PySem.SeqAt.compareNe_reads ra rb h1.1 h2.1 (Nat.lt_of_le_of_lt (Nat.add_le_add_left (Nat.le_trans (Nat.min_le_left _ _) h1.2) _) hu) ⟨.bl _, H, I, rfl, k.now S rfl⟩
theorem zbH {k : Nat} {A : Around} (hr : Room k A) : A.units + 100 < cLine := by have := hr.un; omega
end
end L2.MP
namespace L2.MP
open PySem PySem.Spec PyProof.Rows
section
variable {X : Cx} {pins : List (Addr × Obj)} {σ : L2.St} {H : Hp} {s : Shared} {h' : Heap}
theorem Inv.turnNew {t' : Nat} {fp : List Addr} {p : Addr} {o : HO} (I : Inv X pins σ H s) (hf : ∀ b ∈ fp, FpOk X pins H b) (k : ∀ b ob, b ∉ fp→s.heap.get? b = some ob→h'.get? b = some ob) (hp : s.heap.objs.size ≤ p)
   (hfp : ∀ b ∈ fp, ∀ ob, s.heap.get? b = some ob→∃ ob', h'.get? b = some ob') (new : zc5 X.prog X.w (upd H p o) h' p o) : Inv X pins σ (upd H p o) { s with heap := h', toks := t' } := by
 have hpn := I.hok.fresh hp
 have nlt : ∀ b ob, s.heap.get? b = some ob→b ≠ p := fun b ob e => Nat.ne_of_lt (Nat.lt_of_lt_of_le (Heap.lt_size e) hp)
 refine Inv.step (ch := fp) (g' := s.gens) (d' := s.drawn) I (fun b hb => ⟨(hf b hb).2.2.2.1, (hf b hb).2.1, (hf b hb).2.2.2.2.1, (hf b hb).2.2.2.2.2⟩) (fun b ob _ _ hc e _ => k b ob hc e) (fun b ob _ _ hc e _ => ⟨ob.slots, k b ob hc e⟩)
   (fun b ob hc e n => by rw [zay (nlt b ob e)]; exact n) (fun b ob hc e => ⟨ob, k b ob hc e⟩) (fun b xs e => by rw [zay (zaq e hpn)]; exact e) (fun b ob u e => by rw [zay (zaq e hpn)]; exact e)
   (fun b ps e => ⟨#[], by rw [zay (zaq e hpn), e]; simp⟩) (fun m hm => ?_) (fun b u e => ?_) I.bare
 · obtain ⟨ob, es, ep, ho, r⟩ := hm
   exact ⟨ob, es, ep, k _ ob (fun z => (hf _ z).2.1 rfl) ho, r⟩
 · by_cases hb : b = p
   · subst hb; rw [zbi] at e; cases e; exact new
   · rw [zay hb] at e
     refine (I.hok b u e).stay (fun c v hc q => k c v (fun z => ?_) q) (fun c q => by rw [zay (zaq q hpn)]; exact q) fun c xs q => by rw [zay (zaq q hpn)]; exact q
     have hz := (hf c z).1
     rcases hc with rfl | hc
     · rw [hz] at e; cases e
     · rw [hz] at hc; cases hc
theorem Inv.turnAll {t' : Nat} {fp : List Addr} (I : Inv X pins σ H s) (hf : ∀ b ∈ fp, FpOk X pins H b) (k : ∀ b ob, b ∉ fp→s.heap.get? b = some ob→h'.get? b = some ob) : Inv X pins σ H { s with heap := h', toks := t' } := by
 refine Inv.step (ch := fp) (g' := s.gens) (d' := s.drawn) I (fun b hb => ⟨(hf b hb).2.2.2.1, (hf b hb).2.1, (hf b hb).2.2.2.2.1, (hf b hb).2.2.2.2.2⟩) (fun b ob _ _ hc e _ => k b ob hc e) (fun b ob _ _ hc e _ => ⟨ob.slots, k b ob hc e⟩)
   (fun b ob hc e n => n) (fun b ob hc e => ⟨ob, k b ob hc e⟩) (fun b xs e => e) (fun b ob u e => e)
   (fun b ps e => ⟨#[], by rw [e]; simp⟩) (fun m hm => ?_) (fun b u e => ?_) I.bare
 · obtain ⟨ob, es, ep, ho, r⟩ := hm
   exact ⟨ob, es, ep, k _ ob (fun z => (hf _ z).2.1 rfl) ho, r⟩
 · refine (I.hok b u e).stay (fun c v hc q => k c v (fun z => ?_) q) (fun c q => q) fun c xs q => q
   have hz := (hf c z).1
   rcases hc with rfl | hc
   · rw [hz] at e; cases e
   · rw [hz] at hc; cases hc
end
section
variable {X : Cx} {m : ME}
theorem boot_enumerate : bootBuiltins "enumerate" = some (.type "enumerate") := by decide +kernel
def pairs (ds : List D) : List D := (ds.zipIdx).map fun (d, k) => .tup [.int (k : Nat), d]
theorem zf1 {ds : List D} {i : Nat} {d : D} (h : (pairs ds)[i]? = some d) : ∃ e, ds[i]? = some e∧d = .tup [.int (i : Nat), e] := by
 unfold pairs at h
 rw [List.getElem?_map, List.getElem?_zipIdx] at h
 cases e : ds[i]? with
 | none => rw [e] at h; cases h
 | some x =>
   rw [e] at h
   simp at h
   exact ⟨x, rfl, h.symm⟩
theorem pairs_len (ds : List D) : (pairs ds).length = ds.length := by unfold pairs; simp
end
end L2.MP
namespace L2.MP
open PySem PySem.Spec PyProof.Rows
section
variable {κ : Type} [DecidableEq κ] {K : PySem.W.Frag} {H : Hp} {io : List Addr}
def valD (kvs : List (κ × D)) (k : κ) : Option D := (kvs.find? fun kv => decide (kv.1 = k)).map (·.2)
def putD (kvs : List (κ × D)) (k : κ) (d : D) : List (κ × D) :=
 if (kvs.any fun kv => decide (kv.1 = k)) = true then kvs.map (fun kv => if kv.1 = k then (kv.1, d) else kv) else kvs ++ [(k, d)]
theorem KR.any {ps : List (κ × V)} {kvs : List (κ × D)} (r : KR κ K H io ps kvs) (k : κ) : (ps.any fun kv => decide (kv.1 = k)) = (kvs.any fun kv => decide (kv.1 = k)) := by
 induction r with
 | nil => rfl
 | cons z t ih => rw [List.any_cons, List.any_cons, ih, z.1]
theorem KR.length {ps : List (κ × V)} {kvs : List (κ × D)} (r : KR κ K H io ps kvs) : ps.length = kvs.length := Paired.length r
theorem KR.val {ps : List (κ × V)} {kvs : List (κ × D)} (r : KR κ K H io ps kvs) (k : κ) : (valD kvs k = none∧valV ps k = none) ∨ ∃ d v, valD kvs k = some d∧valV ps k = some v∧Rep K H io v d := by
 induction r with
 | nil => exact .inl ⟨rfl, rfl⟩
 | @cons p q l1 l2 z t ih =>
   unfold valD valV at *
   rw [List.find?_cons, List.find?_cons, z.1]
   by_cases e : q.1 = k
   · rw [decide_eq_true e]
     exact .inr ⟨q.2, p.2, rfl, rfl, z.2⟩
   · rw [decide_eq_false e]
     exact ih
theorem KR.append {ps qs : List (κ × V)} {kvs lvs : List (κ × D)} (r : KR κ K H io ps kvs) (r' : KR κ K H io qs lvs) : KR κ K H io (ps ++ qs) (kvs ++ lvs) := by
 induction r with
 | nil => exact r'
 | cons z t ih => exact .cons z ih
theorem KR.put {ps : List (κ × V)} {kvs : List (κ × D)} (r : KR κ K H io ps kvs) (k : κ) {v : V} {d : D} (rv : Rep K H io v d) : KR κ K H io (putK ps k v) (putD kvs k d) := by
 unfold putK putD
 rw [KR.any r k]
 by_cases e : (kvs.any fun kv => decide (kv.1 = k)) = true
 · rw [if_pos e, if_pos e]
   induction r with
   | nil => exact .nil
   | @cons p q l1 l2 z t ih =>
     rw [List.map_cons, List.map_cons]
     have hrest : KR κ K H io (l1.map fun kv => if kv.1 = k then (kv.1, v) else kv) (l2.map fun kv => if kv.1 = k then (kv.1, d) else kv) := by
       clear ih e
       induction t with
       | nil => exact .nil
       | @cons p q l1 l2 z t ih =>
         rw [List.map_cons, List.map_cons]
         refine .cons ?_ ih
         rw [z.1]
         by_cases e : q.1 = k
         · rw [if_pos e, if_pos e]; exact ⟨rfl, rv⟩
         · rw [if_neg e, if_neg e]; exact z
     refine .cons ?_ hrest
     rw [z.1]
     by_cases e : q.1 = k
     · rw [if_pos e, if_pos e]; exact ⟨rfl, rv⟩
     · rw [if_neg e, if_neg e]; exact z
 · rw [if_neg e, if_neg e]
   exact KR.append r (.cons ⟨rfl, rv⟩ .nil)
end
def keyOf : D→Option Key
 | .int i => some (.inl i)
 | .str x => some (.inr x)
 | _ => none
def keysOf : List D→Option (List Key)
 | [] => some []
 | d :: ds => (keyOf d).bind fun k => (keysOf ds).map fun ks => k :: ks
section
variable {X : Cx} {K : PySem.W.Frag} {H : Hp} {io : List Addr} {st st' : Sto} {a b e : Expr} {es : List Expr} {ma mb m : ME} {mm : MA} {pos : Pos}
theorem zde {v : V} {d : D} {k : Key} (h : Rep K H io v d) (e : keyOf d = some k) : v = kV k := by
 cases d with
 | int i => cases e; exact h
 | str i => cases e; exact h
 | _ => cases e
theorem zbS : ∀ {xs : List V} {ds : List D} {ks : List Key}, Reps K H io xs ds→keysOf ds = some ks→xs = ks.map kV
 | _, [], ks, h, e => by cases e; exact h
 | _, d :: ds, ks, h, e => by
   obtain ⟨y, ys, rfl, h1, h2⟩ := h
   obtain ⟨k, e1, e⟩ := zad e
   obtain ⟨ks', e2, e⟩ := zag e
   subst e
   rw [zde h1 e1, zbS h2 e2]
   rfl
def look (st : Sto) (n : Nat) (k : D) : Option (Option D) := match st[n]? with
 | some (.dk kvs) => (keyOf k).map fun q => valD kvs q
 | some (.dt kvs) => match k with
   | .tup ds => (keysOf ds).map fun q => valD kvs q
   | _ => none
 | _ => none
theorem zfz {n : Nat} {p : Addr} {k : D} {y : V} {r : Option D} (S : StR K H io st) (hp : io[n]? = some p) (ry : Rep K H io y k) (h : look st n k = some r) : ∃ o, DGet H p y o∧((r = none∧o = none) ∨ ∃ d v, r = some d∧o = some v∧Rep K H io v d) := by
 unfold look at h
 split at h
 · rename_i kvs e
   obtain ⟨q, e1, h⟩ := zag h
   subst h
   obtain ⟨ps, hH, r⟩ := S.ob n p _ hp e
   have ey := zde ry e1
   subst ey
   refine ⟨_, DGet.k hH, ?_⟩
   rcases KR.val r q with ⟨h1, h2⟩ | ⟨d, v, h1, h2, h3⟩
   · exact .inl ⟨h1, h2⟩
   · exact .inr ⟨d, v, h1, h2, h3⟩
 · rename_i kvs e
   split at h
   · rename_i ds
     obtain ⟨q, e1, h⟩ := zag h
     subst h
     obtain ⟨ps, hH, r⟩ := S.ob n p _ hp e
     obtain ⟨b, xs, rfl, hb, rs⟩ := ry
     have ex := zbS rs e1
     subst ex
     refine ⟨_, DGet.t hH hb, ?_⟩
     rcases KR.val r q with ⟨h1, h2⟩ | ⟨d, v, h1, h2, h3⟩
     · exact .inl ⟨h1, h2⟩
     · exact .inr ⟨d, v, h1, h2, h3⟩
   · cases h
 · cases h
def zpn (md mk : ME) : ME := fun ρ st => (md ρ st).bind fun (d, s1) => (mk ρ s1).bind fun (k, s2) => match d with
 | .ref n => (look s2 n k).bind fun r => r.map fun v => (v, s2)
 | _ => none
theorem zlR {o i : Expr} {md mk : ME} (hu : X.A.units + 1 < cLine) (ho : SE X o md) (hi : SE X i mk) (hs : NoSl i := by intro _ _; rfl) : SE X (.Subscript o i pos) (zpn md mk) := PE.imp (zjG hu ho hi hs) fun σ H Q ⟨ρ, st, io, d, st', E, S, e, k⟩ => by
 obtain ⟨⟨x, s1⟩, e1, e⟩ := zad e
 obtain ⟨⟨y, s2⟩, e2, e⟩ := zad e
 cases x with
 | ref n =>
   obtain ⟨r, e3, e⟩ := zad e
   obtain ⟨w, e4, e⟩ := zag e
   cases e
   subst e4
   refine ⟨ρ, st, io, _, s1, E, S, e1, fun v1 H1 k1 X1 S1 R1 => ⟨ρ, s1, io ++ k1, y, _, E.ext S X1, S1, e2, fun v2 H2 k2 X2 S2 R2 => ?_⟩⟩
   obtain ⟨p, rfl, hp⟩ := R1
   obtain ⟨o, g, ⟨z, _⟩ | ⟨d', v, hd, hv, rv⟩⟩ := zfz S2 (za6 hp) R2 e3
   · cases z
   · cases hd
     subst hv
     exact ⟨p, v, rfl, g, ((k.on S1 X1).on S2 X2).now S2 rv⟩
 | _ => cases e
def mDIn (neg : Bool) (mk md : ME) : ME := fun ρ st => (mk ρ st).bind fun (k, s1) => (md ρ s1).bind fun (d, s2) => match d with
 | .ref n => (look s2 n k).map fun r => (.bl (if neg then !r.isSome else r.isSome), s2)
 | _ => none
theorem zgg {neg : Bool} {mk md : ME} {σ : L2.St} {Q : VK} (h : tE K (mDIn neg mk md) σ H Q) : tE K mk σ H fun y H1 => tE K md σ H1 fun x H2 => ∃ a o, x = .ref a∧DGet H2 a y o∧Q (.bl (if neg then !o.isSome else o.isSome)) H2 := by
 obtain ⟨ρ, st, io, d, st', E, S, e, k⟩ := h
 obtain ⟨⟨y, s1⟩, e1, e⟩ := zad e
 obtain ⟨⟨x, s2⟩, e2, e⟩ := zad e
 cases x with
 | ref n =>
   obtain ⟨r, e3, e⟩ := zag e
   cases e
   refine ⟨ρ, st, io, y, s1, E, S, e1, fun v1 H1 k1 X1 S1 R1 => ⟨ρ, s1, io ++ k1, _, _, E.ext S X1, S1, e2, fun v2 H2 k2 X2 S2 R2 => ?_⟩⟩
   obtain ⟨p, rfl, hp⟩ := R2
   obtain ⟨o, g, z⟩ := zfz S2 hp (R1.ext S1 X2) e3
   have : o.isSome = r.isSome := by
     rcases z with ⟨a, b⟩ | ⟨d', v, a, b, _⟩
     · rw [a, b]; rfl
     · rw [a, b]; rfl
   exact ⟨p, o, rfl, g, by rw [this]; exact ((k.on S1 X1).on S2 X2).now S2 rfl⟩
 | _ => cases e
end
end L2.MP
namespace L2.MP
open PySem PySem.Spec PyProof.Rows
section
variable {X : Cx} {K : PySem.W.Frag} {H : Hp} {io : List Addr} {st st' : Sto} {a b c e : Expr} {es : List Expr} {ma mb mc m : ME} {mm : MA} {pos : Pos}
theorem znO {o i : Expr} {md mk : ME} (hu : X.A.units + 1 < cLine) (hi : SE X i mk) (ho : SE X o md) (hm : behindInMarks .In o = false := by rfl) : SB X (.Compare i [.In] [o] pos) (mTst (mDIn false mk md)) :=
 PT.imp (zl0 (zoa hu hi ho) hm) fun σ H Q h => zgg (zcx h)
theorem ziG {o i : Expr} {md mk : ME} (hu : X.A.units + 1 < cLine) (hi : SE X i mk) (ho : SE X o md) (hm : behindInMarks .NotIn o = false := by rfl) : SB X (.Compare i [.NotIn] [o] pos) (mTst (mDIn true mk md)) :=
 PT.imp (zl0 (ziO hu hi ho) hm) fun σ H Q h => zgg (zcx h)
def dput (st : Sto) (n : Nat) (k d : D) : Option Sto := match st[n]? with
 | some (.dk kvs) => (keyOf k).bind fun q => if decide (kvs.length < sizeLine) = true then some (st.set n (.dk (putD kvs q d))) else none
 | some (.dt kvs) => match k with
   | .tup ds => (keysOf ds).bind fun q => if decide (kvs.length < sizeLine) = true then some (st.set n (.dt (putD kvs q d))) else none
   | _ => none
 | _ => none
theorem zk3 {n : Nat} {p : Addr} {k d : D} {y v : V} (S : StR K H io st) (hp : io[n]? = some p) (ry : Rep K H io y k) (rv : Rep K H io v d) (h : dput st n k d = some st') : ∃ H', DPut H p y v H'∧Ext io [] H H'∧StR K H' (io ++ []) st' := by
 unfold dput at h
 split at h
 · rename_i kvs e
   obtain ⟨q, e1, h⟩ := zad h
   obtain ⟨hl, h⟩ := zao h
   cases h
   obtain ⟨ps, hH, r⟩ := S.ob n p _ hp e
   have ey := zde ry e1
   subst ey
   have := KR.length r
   refine ⟨_, DPut.k hH (by rw [this]; exact of_decide_eq_true hl), ?_⟩
   exact zfn S hp e (fun o u z => by rw [hH] at z; cases z) fun H' T e' => ⟨_, e', KR.put (KR.mono T r) q (Rep.mono T rv)⟩
 · rename_i kvs e
   split at h
   · rename_i ds
     obtain ⟨q, e1, h⟩ := zad h
     obtain ⟨hl, h⟩ := zao h
     cases h
     obtain ⟨ps, hH, r⟩ := S.ob n p _ hp e
     obtain ⟨b, xs, rfl, hb, rs⟩ := ry
     have ex := zbS rs e1
     subst ex
     have := KR.length r
     refine ⟨_, DPut.t hH hb (by rw [this]; exact of_decide_eq_true hl), ?_⟩
     exact zfn S hp e (fun o u z => by rw [hH] at z; cases z) fun H' T e' => ⟨_, e', KR.put (KR.mono T r) q (Rep.mono T rv)⟩
   · cases h
 · cases h
def zlq (md mk mv : ME) : MS := fun ρ st => (mv ρ st).bind fun (v, s1) => (md ρ s1).bind fun (d, s2) => (mk ρ s2).bind fun (k, s3) => match d with
 | .ref n => (dput s3 n k v).map fun s4 => (.nx ρ, s4)
 | _ => none
theorem zlG {o i value : Expr} {md mk mv : ME} {pos' : Pos} (hu : X.A.units + 1 < cLine) (ho : SE X o md) (hi : SE X i mk) (hv : SE X value mv) (hs : swapsWith value (some (.Subscript o i pos')) pos.line X.env = pure false := by rfl) :
   SS X (.Assign [.Subscript o i pos'] value pos) (zlq md mk mv) := PS.imp (zl4 hu ho hi hv hs) fun N σ H h => by
 obtain ⟨ρ, st, io, f, st', E, S, e, w⟩ := zcI.mp h
 obtain ⟨⟨v, s1⟩, e1, e⟩ := zad e
 obtain ⟨⟨d, s2⟩, e2, e⟩ := zad e
 obtain ⟨⟨k, s3⟩, e3, e⟩ := zad e
 cases d with
 | ref n =>
   obtain ⟨s4, e4, e⟩ := zag e
   cases e
   refine ⟨ρ, st, io, v, s1, E, S, e1, fun v1 H1 k1 X1 S1 R1 => ⟨ρ, s1, io ++ k1, _, s2, E.ext S X1, S1, e2, fun v2 H2 k2 X2 S2 R2 => ⟨ρ, s2, (io ++ k1) ++ k2, k, s3, (E.ext S X1).ext S1 X2, S2, e3, fun v3 H3 k3 X3 S3 R3 => ?_⟩⟩⟩
   obtain ⟨p, rfl, hp⟩ := R2
   obtain ⟨H4, g, X4, S4⟩ := zk3 S3 (za6 hp) R3 ((R1.ext S1 X2).ext S2 X3) e4
   refine ⟨p, H4, rfl, g, ?_⟩
   have w3 : ∀ σ' H' kb, Ext (((io ++ k1) ++ k2) ++ k3) kb H3 H'→_ := zeM (zeM (zeM w X1 S1) X2 S2) X3 S3
   exact w3 σ H4 [] X4 S4 ((((E.ext S X1).ext S1 X2).ext S2 X3).ext S3 X4)
 | _ => cases e
def zlr (t : Bool) : ME := fun _ st => some (.ref st.length, st ++ [if t then .dt [] else .dk []])
theorem zfj : SE X (.Dict [] [] pos) (zlr true) := PE.imp zkt fun σ H Q ⟨ρ, st, io, d, st', E, S, e, k⟩ => by
 cases e
 intro p hp
 obtain ⟨E', S'⟩ := zhu (o := .dT []) (ob := .dt []) S hp fun H' T e => ⟨[], e, .nil⟩
 exact k _ _ [p] E' S' ⟨p, rfl, by rw [← S.len]; exact getElem?_len io p⟩
def mtM (K : PySem.W.Frag) (g : D→List D→Sto→Option (D × Sto)) : V→List V→Hp→VK→Prop := fun x xs H Q => ∃ dx ds st io d st', Rep K H io x dx∧Reps K H io xs ds∧StR K H io st∧g dx ds st = some (d, st')∧Bh K io H st' d Q
def zbT : D→List D→Sto→Option (D × Sto) := fun x xs st => match x, xs with
 | .ref n, [d] => match st[n]? with
   | some (.lst ds) => if decide (ds.length < sizeLine) = true then some (.non, st.set n (.lst (ds ++ [d]))) else none
   | _ => none
 | _, _ => none
theorem append_in {n : Nat} {d : D} {ds : List D} {xs : List D} (h : zbT (.ref n) xs st = some (d, st')) : ∃ ds x, st[n]? = some (.lst ds)∧xs = [x]∧ds.length < sizeLine∧d = .non∧st' = st.set n (.lst (ds ++ [x])) := by
 unfold zbT at h
 match xs, h with
 | [x], h =>
   dsimp only at h
   split at h
   · rename_i ds e
     obtain ⟨hl, h⟩ := zao h
     cases h
     exact ⟨ds, x, e, rfl, of_decide_eq_true hl, rfl, rfl⟩
   · cases h
 | [], h => cases h
 | _ :: _ :: _, h => cases h
theorem zhw : MtR X "list.append" (mtM X.K zbT) := by
 intro pins s σ H x xs v us Q I rx rs ⟨dx, ds, st, io, d, st', Rx, Rs, S, e, k⟩
 cases dx with
 | ref n =>
   obtain ⟨l, y, e1, rfl, hl, rfl, rfl⟩ := append_in (ds := []) e
   obtain ⟨p, rfl, hp⟩ := Rx
   obtain ⟨w, rfl, Rw⟩ := Rs.one
   obtain ⟨ys, hH, r⟩ := S.ob n p _ hp e1
   refine zf7 pins s σ H _ _ v us Q I rx rs ⟨p, ys, w, rfl, rfl, hH, by rw [r.length]; exact hl, ?_⟩
   obtain ⟨E', S'⟩ := zfn (o := .lst (ys ++ [w])) (ob := .lst (l ++ [y])) S hp e1 (fun o u z => by rw [hH] at z; cases z) fun H' T e' => ⟨_, e', (Reps.mono T r).append (Reps.cons (Rep.mono T Rw) Reps.nil)⟩
   exact k _ _ [] E' S' rfl
 | _ => unfold zbT at e; cases ds <;> cases e
theorem zgR {n : Nat} {v : V} {l : List D} (R : Rep K H io v (.ref n)) (S : StR K H io st) (h : zbj st n = some l) : tyV K "list" v H := by
 obtain ⟨p, rfl, hp⟩ := R
 obtain ⟨xs, hx, _⟩ := zaX S hp h
 exact .inl ⟨rfl, xs, hx⟩
def mApp (m : ME) (mm : MA) : ME := fun ρ st => (m ρ st).bind fun (x, s1) => match x with
 | .ref n => (zbj s1 n).bind fun _ => (mm ρ s1).bind fun (xs, s2) => zbT x xs s2
 | _ => none
theorem zbG {o : Expr} {apos cpos : Pos} (ho : SE X o m) (ha : SA X (e :: es) mm)
   (hbase : attributeBase o "append" X.env (eval o X.env) = eval o X.env := by rfl)
   (hfew : ((backTo cpos (starEach (e :: es) X.env)).all (fun x => !x.1) && (backToKw cpos (keywordEach [] X.env)).all (fun x => x.1.isSome)
     && decide ((e :: es).length + ([] : List Keyword).length + (if ([] : List Keyword).isEmpty then 0 else 1) < 30)) = true := by rfl)
   (hline : (apos.endLine == cpos.line) = true := by rfl) (hs : starEach (e :: es) X.env = (false, eval e X.env) :: starEach es X.env := by rfl) (hplain : (backTo cpos (starEach es X.env)).any (·.1) = false := by rfl) :
   SE X (.Call (.Attribute o "append" apos) (e :: es) [] cpos) (mApp m mm) :=
 PE.imp (zph PySem.F.plainAttrs_list PySem.F.slot_list_append PySem.F.type_list_append zhw ho ha hbase hfew hline hs hplain) fun σ H Q ⟨ρ, st, io, d, st', E, S, e, k⟩ => by
   obtain ⟨⟨x, s1⟩, e1, e⟩ := zad e
   cases x with
   | ref n =>
     obtain ⟨l, e0, e⟩ := zad e
     obtain ⟨⟨xs, s2⟩, e2, e⟩ := zad e
     refine ⟨ρ, st, io, _, s1, E, S, e1, fun v1 H1 k1 X1 S1 R1 => ⟨zgR R1 S1 e0, ρ, s1, io ++ k1, xs, s2, E.ext S X1, S1, e2, fun vs H2 k2 X2 S2 R2 => ?_⟩⟩
     exact ⟨_, xs, s2, (io ++ k1) ++ k2, d, st', R1.ext S1 X2, R2, S2, e, (k.on S1 X1).on S2 X2⟩
   | _ => cases e
abbrev MO := Rho→Sto→Option (Option Int × Sto)
def tOm (K : PySem.W.Frag) (m : MO) : TO := fun σ H Q => ∃ ρ st io d st', EnvR K H io σ ρ∧StR K H io st∧m ρ st = some (d, st')∧∀ H' ka, Ext io ka H H'→StR K H' (io ++ ka) st'→Q d H'
def SO (X : Cx) (e : Option Expr) (m : MO) : Prop := PO X e (tOm X.K m)
def znd : MO := fun _ st => some (none, st)
def znc (m : ME) : MO := fun ρ st => (m ρ st).bind fun (d, s) => match d with
 | .int i => some (some i, s)
 | _ => none
theorem zjv : SO X none znd := fun pins s σ H Q I ⟨ρ, st, io, d, st', E, S, e, k⟩ => zl6 pins s σ H Q I (by cases e; exact k H [] Ext.refl S.nil)
theorem zju (h : SE X e m) : SO X (some e) (znc m) := fun pins s σ H Q I ⟨ρ, st, io, d, st', E, S, e, k⟩ => zjF h pins s σ H Q I (by
 obtain ⟨⟨x, s1⟩, e1, e⟩ := zad e
 cases x with
 | int i =>
   cases e
   exact ⟨ρ, st, io, _, _, E, S, e1, fun v1 H1 k1 X1 S1 R1 => ⟨i, R1, k H1 k1 X1 S1⟩⟩
 | _ => cases e)
def cutD (xs : List D) (lo hi : Option Int) : List D := (xs.drop (HT.sIx xs.length 0 lo)).take (HT.sIx xs.length xs.length hi - HT.sIx xs.length 0 lo)
theorem zh4 {xs : List V} {ds : List D} (r : Reps K H io xs ds) (lo hi : Option Int) : Reps K H io (cutV xs lo hi) (cutD ds lo hi) := by
 unfold cutV cutD
 rw [r.length]
 exact (r.drop _).take _
def slD : D→Option Int→Option Int→Sto→Option (D × Sto) := fun x lo hi st => match x with
 | .tup ds => if (decide (HT.sIx ds.length 0 lo = 0) && decide (HT.sIx ds.length ds.length hi = ds.length)) = true then none else some (.tup (cutD ds lo hi), st)
 | .ref n => (zbj st n).map fun ds => (.ref st.length, st ++ [.lst (cutD ds lo hi)])
 | _ => none
def mSl (m : ME) (l h : MO) : ME := fun ρ st => (m ρ st).bind fun (x, s1) => (l ρ s1).bind fun (lo, s2) => (h ρ s2).bind fun (hi, s3) => slD x lo hi s3
def rSlM (K : PySem.W.Frag) : V→Option Int→Option Int→Hp→VK→Prop := fun x lo hi H Q => rSlT K x lo hi H Q ∨ rSlL K x lo hi H Q
theorem sl_M : SlR X (rSlM X.K) := by
 intro pins s σ H x v vl vu lo hi sl Q I rx hs pl pu h
 rcases h with h | h
 · exact znA pins s σ H x v vl vu lo hi sl Q I rx hs pl pu h
 · exact zjw pins s σ H x v vl vu lo hi sl Q I rx hs pl pu h
theorem zkb {lo hi : Option Expr} {ml mh : MO} {p2 : Pos} (he : SE X e m) (hl : SO X lo ml) (hu : SO X hi mh) : SE X (.Subscript e (.Slice lo hi none p2) pos) (mSl m ml mh) := PE.imp (zfr sl_M he hl hu) fun σ H Q ⟨ρ, st, io, d, st', E, S, e, k⟩ => by
 obtain ⟨⟨x, s1⟩, e1, e⟩ := zad e
 obtain ⟨⟨lo', s2⟩, e2, e⟩ := zad e
 obtain ⟨⟨hi', s3⟩, e3, e⟩ := zad e
 refine ⟨ρ, st, io, x, s1, E, S, e1, fun v1 H1 k1 X1 S1 R1 => ⟨ρ, s1, io ++ k1, lo', s2, E.ext S X1, S1, e2, fun H2 k2 X2 S2 => ⟨ρ, s2, (io ++ k1) ++ k2, hi', s3, (E.ext S X1).ext S1 X2, S2, e3, fun H3 k3 X3 S3 => ?_⟩⟩⟩
 have R3 := (R1.ext S1 X2).ext S2 X3
 have k' := ((k.on S1 X1).on S2 X2).on S3 X3
 cases x with
 | tup ds =>
   have e : (if (decide (HT.sIx ds.length 0 lo' = 0) && decide (HT.sIx ds.length ds.length hi' = ds.length)) = true then none else some (D.tup (cutD ds lo' hi'), s3)) = some (d, st') := e
   by_cases hw : (decide (HT.sIx ds.length 0 lo' = 0) && decide (HT.sIx ds.length ds.length hi' = ds.length)) = true
   · rw [if_pos hw] at e; cases e
   · rw [if_neg hw] at e
     cases e
     obtain ⟨p, xs, rfl, hp, r⟩ := R3
     refine .inl ⟨p, xs, rfl, SqT.of hp, fun z => hw ?_, fun q hq => k'.tup S3 (zh4 r _ _) hq⟩
     rw [r.length] at z
     rw [Bool.and_eq_true]
     exact ⟨decide_eq_true z.1, decide_eq_true z.2⟩
 | ref n =>
   obtain ⟨ds, e0, e⟩ := zag e
   cases e
   obtain ⟨p, rfl, hp⟩ := R3
   obtain ⟨xs, hx, r⟩ := zaX S3 hp e0
   exact .inr ⟨p, xs, rfl, hx, fun q hq => k'.lst S3 (zh4 r _ _) hq⟩
 | _ => cases e
def zik : G2 := intD (fun _ j => decide (0 < j) && decide (j < 2 ^ 128)) fun i j => .int (i / j)
theorem zfu : OpM X (binaryOp .FloorDiv) zik := zdM (C := fun i j => 0 < j∧j < 2 ^ 128) (opI fun i j _ _ _ _ _ hc q => by
 refine floordiv_int (by omega) (by rw [Int.fdiv_eq_ediv_of_nonneg i (by omega)]; exact q) (.inl (PyProof.noPylong_of_log2 ?_))
 have h0 : j.natAbs ≠ 0 := by omega
 have h1 : j.natAbs < 2 ^ 128 := by omega
 exact Nat.lt_trans ((Nat.log2_lt h0).mpr h1) (by decide)) fun i j h => by
   rw [Bool.and_eq_true] at h
   exact ⟨of_decide_eq_true h.1, of_decide_eq_true h.2⟩
def powB : G2 := intD (fun i j => decide (0 ≤ j) && decide ((Builtin.Int.intBits i : Int) * j ≤ 2 ^ 27)) fun i j => .int (i ^ j.toNat)
theorem zdL : OpM X (binaryOp .Pow) powB := zdM (C := fun i j => 0 ≤ j∧(Builtin.Int.intBits i : Int) * j ≤ 2 ^ 27) (opI fun i j _ _ _ _ _ hc q => pow_int hc.1 hc.2 q) fun i j h => by
   rw [Bool.and_eq_true] at h
   exact ⟨of_decide_eq_true h.1, of_decide_eq_true h.2⟩
end
end L2.MP
namespace L2.MP
open PySem PySem.Spec PyProof.Rows
def kinds : List String := ["bool", "int", "str", "tuple", "list", "dict"]
end L2.MP
namespace L2.MP
open PySem PySem.Spec PyProof.Rows
theorem zcA {α : Type} {le : α→α→Prop} : ∀ {l1 l2 : List α}, l1.Perm l2→l1.Pairwise le→l2.Pairwise le→(∀ a ∈ l1, ∀ b ∈ l1, le a b→le b a→a = b)→l1 = l2
 | [], l2, p, _, _, _ => (List.Perm.nil_eq p)
 | a :: l1, [], p, _, _, _ => absurd p.symm (by intro h; have := h.length_eq; simp at this)
 | a :: l1, b :: l2, p, h1, h2, an => by
   obtain ⟨ha, h1'⟩ := List.pairwise_cons.mp h1
   obtain ⟨hb, h2'⟩ := List.pairwise_cons.mp h2
   have e : a = b := by
     have m1 : a ∈ b :: l2 := p.mem_iff.mp List.mem_cons_self
     have m2 : b ∈ a :: l1 := p.mem_iff.mpr List.mem_cons_self
     rcases List.mem_cons.mp m1 with q | q
     · exact q
     · rcases List.mem_cons.mp m2 with r | r
       · exact r.symm
       · exact an a List.mem_cons_self b (List.mem_cons_of_mem _ r) (ha b r) (hb a q)
   subst e
   rw [zcA ((List.perm_cons a).mp p) h1' h2' fun x hx y hy => an x (List.mem_cons_of_mem _ hx) y (List.mem_cons_of_mem _ hy)]
def sle (a b : Str) : Bool := !decide (b.cps.toList < a.cps.toList)
def zcZ (ss : List Str) : List Str := ss.mergeSort sle
theorem zfO {a b : Str} (h : a.cps.toList = b.cps.toList) : a = b := by
 obtain ⟨x⟩ := a
 obtain ⟨y⟩ := b
 have : x = y := by
   have h' : x.toList = y.toList := h
   exact Array.toList_inj.mp h'
 rw [this]
theorem ziz (a b : Str) : (sle a b || sle b a) = true := by
 unfold sle
 rw [Bool.or_eq_true, Bool.not_eq_true', Bool.not_eq_true', decide_eq_false_iff_not, decide_eq_false_iff_not]
 by_cases h : b.cps.toList < a.cps.toList
 · exact .inr (List.lt_asymm h)
 · exact .inl h
theorem zfR (a b c : Str) (h1 : sle a b = true) (h2 : sle b c = true) : sle a c = true := by
 unfold sle at *
 rw [Bool.not_eq_true', decide_eq_false_iff_not] at *
 have h1 : a.cps.toList ≤ b.cps.toList := h1
 have h2 : b.cps.toList ≤ c.cps.toList := h2
 exact List.le_trans h1 h2
theorem zj8 {a b : Str} (h1 : sle a b = true) (h2 : sle b a = true) : a = b := by
 unfold sle at *
 rw [Bool.not_eq_true', decide_eq_false_iff_not] at *
 exact zfO (List.le_antisymm h1 h2)
theorem zdJ : ∀ {ss : List Str} {p : Str}, risingS p ss = true→(p :: ss).Pairwise fun a b => sle a b = true
 | [], p, _ => by simp
 | s :: ss, p, h => by
   have h' : (!ltCps s.cps.toList p.cps.toList && risingS s ss) = true := h
   rw [Bool.and_eq_true] at h'
   have ih := zdJ h'.2
   have hps : sle p s = true := by
     have := h'.1
     rw [ltCps_eq] at this
     exact this
   refine List.pairwise_cons.mpr ⟨fun x hx => ?_, ih⟩
   rcases List.mem_cons.mp hx with rfl | hx
   · exact hps
   · exact zfR _ _ _ hps ((List.pairwise_cons.mp ih).1 x hx)
theorem zez {ss ss' : List Str} (p : ss'.Perm ss) (h : sortedS ss' = true) : ss' = zcZ ss := by
 have hp : ss'.Pairwise fun a b => sle a b = true := by
   cases ss' with
   | nil => exact List.Pairwise.nil
   | cons x r => exact zdJ h
 refine zcA (p.trans (List.mergeSort_perm ss sle).symm) hp (List.pairwise_mergeSort (fun a b c => zfR a b c) ziz ss) fun a _ b _ => zj8
end L2.MP
namespace L2.MP
open PySem PySem.Spec PyProof.Rows
section
variable {X : Cx} {K : PySem.W.Frag} {H : Hp} {io : List Addr} {st st' : Sto} {a b c e : Expr} {es : List Expr} {ma mb mc m : ME} {mm : MA} {pos : Pos} {pins : List (Addr × Obj)} {σ : L2.St} {s : Shared}
def strsOf : List D→Option (List Str)
 | [] => some []
 | .str x :: r => (strsOf r).map fun xs => x :: xs
 | _ => none
theorem zgr {d : D} {r : List D} {ss : List Str} (h : strsOf (d :: r) = some ss) : ∃ x xs, d = .str x∧strsOf r = some xs∧ss = x :: xs := by
 cases d with
 | str x =>
   obtain ⟨xs, e, h⟩ := zag h
   exact ⟨x, xs, rfl, e, h.symm⟩
 | _ => cases h
theorem zey (ss : List Str) : strsOf (ss.map D.str) = some ss := by
 induction ss with
 | nil => rfl
 | cons x r ih => show (strsOf (r.map D.str)).map _ = _; rw [ih]; rfl
theorem zff : ∀ {xs : List V} {us : List Value} {ds : List D} {ss : List Str}, Reps K H io xs ds→Vals xs us→strsOf ds = some ss→StrsAre us ss
 | _, _, [], ss, h, r, e => by
   cases (show _ = [] from h); cases r; cases e; exact .nil
 | _, _, d :: ds, ss, h, r, e => by
   obtain ⟨y, ys, rfl, h1, h2⟩ := h
   obtain ⟨x, rest, rfl, e2, rfl⟩ := zgr e
   cases r with
   | cons r1 r2 =>
     cases (show y = .str x from h1)
     obtain ⟨t, rfl⟩ := r1
     exact .cons x t (zff h2 r2 e2)
theorem zdZ : ∀ {us : List Value} {ss : List Str}, StrsAre us ss→Vals (ss.map V.str) us
 | _, _, .nil => .nil
 | _, _, .cons y t r => .cons ⟨t, rfl⟩ (zdZ r)
theorem ziu (ss : List Str) : Reps K H io (ss.map V.str) (ss.map D.str) := by
 induction ss with
 | nil => exact rfl
 | cons x r ih => exact Reps.cons rfl ih
theorem lt64 {n : Nat} (h : n < 64) : n ≤ sizeLine := Nat.le_trans (Nat.le_of_lt h) (by decide)
def zcn : GN
 | [.ref n], st => (zbj st n).bind fun ds => (strsOf ds).bind fun ss => if decide (ss.length < 64) = true then some (.ref st.length, st ++ [.lst ((zcZ ss).map D.str)]) else none
 | _, _ => none
theorem ze0 : zdC X (.builtin "sorted") zcn := by
 intro pins s σ H xs us Q I r ⟨ds, st, io, d, st', R, S, e, k⟩
 unfold zcn at e
 split at e
 · rename_i n
   obtain ⟨ts, e0, e⟩ := zad e
   obtain ⟨ss, e1, e⟩ := zad e
   obtain ⟨hl, e⟩ := zao e
   cases e
   have hl := of_decide_eq_true hl
   obtain ⟨v, rfl, p, rfl, hp⟩ := R.one
   obtain ⟨u, rfl, ru⟩ := r.one
   cases ru
   obtain ⟨ys, hx, r1⟩ := zaX S hp e0
   obtain ⟨its, rv, pl, hz⟩ := I.list hx
   have hS := zff r1 rv e1
   have hlen : its.length = ss.length := by
     have h1 := rv.length
     have h2 := (zdZ hS).length
     rw [List.length_map] at h2
     omega
   refine sorted_strs pl.isList hS (by omega) fun out ss' a1 a2 a3 => ?_
   have es := zez a2 a3
   obtain ⟨ep, hat⟩ := sortedAll_at s.heap its out
   have hv := zdZ a1
   have hfree : H (s.heap.objs.size + 1) = none := I.hok.fresh (Nat.le_succ _)
   have hlen' : (ss'.map V.str).length ≤ sizeLine := by rw [List.length_map, a2.length_eq]; exact lt64 hl
   refine ⟨.ref (s.heap.objs.size + 1), upd H (s.heap.objs.size + 1) (.lst (ss'.map V.str)), I.laid (t' := s.toks) (a := s.heap.objs.size + 1) (fun b o q => sortedAll_old q) (Nat.le_succ _) ⟨hlen', out.toList, ep, hv, by simpa using hat⟩, rfl, ?_⟩
   rw [es] at *
   exact k.lst S (ziu _) hfree
 · cases e
def rSlS : V→Option Int→Option Int→Hp→VK→Prop := fun x lo hi H Q => ∃ z, x = .str z∧z.length ≤ sizeLine∧Q (.str (Txt.slice z lo hi)) H
theorem znB : SlR X rSlS := by
 intro pins s σ H x v vl vu lo hi sl Q I rx hs pl pu ⟨z, e, hz, q⟩
 subst e
 obtain ⟨t, rfl⟩ := rx
 refine ⟨"str", _, F.slot_str_getitem.lookup, typeIs_str _ _ _, ?_⟩
 have fin : ∀ t' k, EP X pins σ Q (.str (Txt.slice z lo hi) t') { s with toks := k } := fun t' k => ⟨.str _, H, I.tok k, ⟨t', rfl⟩, q⟩
 cases pl with
 | none =>
   cases pu with
   | none => exact wpAny_getItem_str_slice (l := none) (u := none) (st := none) hs rfl (post_val_or_str ⟨Nat.le_trans (Txt.slice_le z _ _) hz, fin⟩)
   | int j tj => exact wpAny_getItem_str_slice (l := none) (u := some (j, tj)) (st := none) hs rfl (post_val_or_str ⟨Nat.le_trans (Txt.slice_le z _ _) hz, fin⟩)
 | int i ti =>
   cases pu with
   | none => exact wpAny_getItem_str_slice (l := some (i, ti)) (u := none) (st := none) hs rfl (post_val_or_str ⟨Nat.le_trans (Txt.slice_le z _ _) hz, fin⟩)
   | int j tj => exact wpAny_getItem_str_slice (l := some (i, ti)) (u := some (j, tj)) (st := none) hs rfl (post_val_or_str ⟨Nat.le_trans (Txt.slice_le z _ _) hz, fin⟩)
def slS : D→Option Int→Option Int→Sto→Option (D × Sto) := fun x lo hi st => match x with
 | .str z => if fits z.length = true then some (.str (Txt.slice z lo hi), st) else none
 | _ => none
def mSlS (m : ME) (l h : MO) : ME := fun ρ st => (m ρ st).bind fun (x, s1) => (l ρ s1).bind fun (lo, s2) => (h ρ s2).bind fun (hi, s3) => slS x lo hi s3
theorem ziB {lo hi : Option Expr} {ml mh : MO} {p2 : Pos} (he : SE X e m) (hl : SO X lo ml) (hu : SO X hi mh) : SE X (.Subscript e (.Slice lo hi none p2) pos) (mSlS m ml mh) := PE.imp (zfr znB he hl hu) fun σ H Q ⟨ρ, st, io, d, st', E, S, e, k⟩ => by
 obtain ⟨⟨x, s1⟩, e1, e⟩ := zad e
 obtain ⟨⟨lo', s2⟩, e2, e⟩ := zad e
 obtain ⟨⟨hi', s3⟩, e3, e⟩ := zad e
 refine ⟨ρ, st, io, x, s1, E, S, e1, fun v1 H1 k1 X1 S1 R1 => ⟨ρ, s1, io ++ k1, lo', s2, E.ext S X1, S1, e2, fun H2 k2 X2 S2 => ⟨ρ, s2, (io ++ k1) ++ k2, hi', s3, (E.ext S X1).ext S1 X2, S2, e3, fun H3 k3 X3 S3 => ?_⟩⟩⟩
 have k' := ((k.on S1 X1).on S2 X2).on S3 X3
 cases x with
 | str z =>
   obtain ⟨hf, e⟩ := zao e
   cases e
   exact ⟨z, R1, of_decide_eq_true hf, k'.now S3 rfl⟩
 | _ => cases e
def repS (x : Str) (n : Int) : Str := if n < 1 then Str.empty else if (n == 1 || x.length == 0) = true then x else ⟨(List.replicate n.toNat x.cps).foldl (· ++ ·) #[]⟩
def zni : G2
 | .str x, .int n, st => if (decide (-(2 ^ 62) ≤ n) && decide (n < 2 ^ 20) && decide (x.length * n.toNat ≤ sizeLine) && decide ((repS x n).length ≤ sizeLine)) = true then some (.str (repS x n), st) else none
 | _, _, _ => none
theorem zky : OpM X (binaryOp .Mult) zni := by
 intro pins s σ H x y v u Q I rx ry ⟨dx, dy, st, io, d, st', Rx, Ry, S, e, k⟩
 unfold zni at e
 split at e
 · rename_i z n
   obtain ⟨hc, e⟩ := zao e
   cases e
   rw [Bool.and_eq_true, Bool.and_eq_true, Bool.and_eq_true] at hc
   obtain ⟨⟨⟨h1, h2⟩, h3⟩, h4⟩ := hc
   have h1 := of_decide_eq_true h1
   have h2 := of_decide_eq_true h2
   have h3 := of_decide_eq_true h3
   have h4 := of_decide_eq_true h4
   cases (show x = .str z from Rx)
   cases (show y = .int n from Ry)
   obtain ⟨t, rfl⟩ := rx
   obtain ⟨t2, rfl⟩ := ry
   have fin : ∀ t' k', EP X pins σ Q (.str (repS z n) t') { s with toks := k' } := fun t' k' => ⟨.str _, H, I.tok k', ⟨t', rfl⟩, k.now S rfl⟩
   refine PySem.P.mul_str (by rw [decide_eq_false (by omega), decide_eq_false (by omega)]; rfl) (fun hn _ => ?_) (fun hn _ => ?_) ?_
   · have hs : sizeLine = 16777216 := sizeLine_eq
     have hnn : ((n.toNat : Nat) : Int) = n := Int.toNat_of_nonneg (by omega)
     have hm : (z.length : Int) * n ≤ 2 ^ 63 - 1 := by
       rw [← hnn, ← Int.natCast_mul]
       omega
     have := Int.le_ediv_of_mul_le (by omega : 0 < n) hm
     omega
   · unfold Builtin.Str.tooLong
     exact decide_eq_false (by omega)
   · unfold repS at fin h4
     by_cases hn : n < 1
     · rw [if_pos hn] at fin h4 ⊢
       exact ⟨h4, fin s.toks (s.toks + 1)⟩
     · rw [if_neg hn] at fin h4 ⊢
       exact post_val_or_str ⟨h4, fin⟩
 · cases e
end
end L2.MP
namespace L2.MP
open PySem PySem.Spec PyProof.Rows
section
variable {X : Cx} {K : PySem.W.Frag} {H : Hp} {io : List Addr} {st st' : Sto} {a b c e : Expr} {es : List Expr} {ma mb mc m : ME} {mm : MA} {pos : Pos} {pins : List (Addr × Obj)} {σ : L2.St} {s : Shared}
def memP (p : PyData) : PyData→Option Bool
 | .list xs => some (xs.any fun y => PyData.eqv y p)
 | .tuple xs => some (xs.any fun y => PyData.eqv y p)
 | _ => none
def inD (neg : Bool) : G2 := fun x y st => (toP 50 st x).bind fun p => (toP 50 st y).bind fun q => (memP p q).map fun b => (.bl (if neg then !b else b), st)
theorem zdU {xs : List PyData} (h : (PyData.list xs).canLay0 = true) : PyData.canLayAll0 xs = true := by simpa only [PyData.canLay0] using h
theorem zdt {xs : List PyData} (h : (PyData.tuple xs).canLay0 = true) : PyData.canLayAll0 xs = true := by simpa only [PyData.canLay0] using h
theorem zoj (hu : X.A.units + 100 < cLine) : OpM X (compareOp .In) (inD false) := by
 intro pins s σ H x y v u Q I rx ry ⟨dx, dy, st, io, d, st', Rx, Ry, S, e, k⟩
 obtain ⟨p, e1, e⟩ := zad e
 obtain ⟨q, e2, e⟩ := zad e
 obtain ⟨r, e3, e⟩ := zag e
 cases e
 obtain ⟨as, ra⟩ := zbA I S Rx rx e1
 obtain ⟨bs, rb⟩ := zbA I S Ry ry e2
 have h1 := zdh e1
 have h2 := zdh e2
 have hb : ∀ n, X.A.units + 1 + min n p.depth < cLine := fun n => by have := Nat.min_le_right n p.depth; omega
 cases q with
 | list xs => cases e3; exact PySem.SeqAt.in_list_reads rb ra (zdU h2.1) h1.1 (hb _) ⟨.bl _, H, I, rfl, k.now S rfl⟩
 | tuple xs => cases e3; exact PySem.SeqAt.in_tuple_reads rb ra (zdt h2.1) h1.1 (hb _) ⟨.bl _, H, I, rfl, k.now S rfl⟩
 | _ => cases e3
theorem ziQ (hu : X.A.units + 100 < cLine) : OpM X (compareOp .NotIn) (inD true) := by
 intro pins s σ H x y v u Q I rx ry ⟨dx, dy, st, io, d, st', Rx, Ry, S, e, k⟩
 obtain ⟨p, e1, e⟩ := zad e
 obtain ⟨q, e2, e⟩ := zad e
 obtain ⟨r, e3, e⟩ := zag e
 cases e
 obtain ⟨as, ra⟩ := zbA I S Rx rx e1
 obtain ⟨bs, rb⟩ := zbA I S Ry ry e2
 have h1 := zdh e1
 have h2 := zdh e2
 have hb : ∀ n, X.A.units + 1 + min n p.depth < cLine := fun n => by have := Nat.min_le_right n p.depth; omega
 cases q with
 | list xs => cases e3; exact PySem.SeqAt.notIn_list_reads rb ra (zdU h2.1) h1.1 (hb _) ⟨.bl _, H, I, rfl, k.now S rfl⟩
 | tuple xs => cases e3; exact PySem.SeqAt.notIn_tuple_reads rb ra (zdt h2.1) h1.1 (hb _) ⟨.bl _, H, I, rfl, k.now S rfl⟩
 | _ => cases e3
def inSD : G2
 | .str i, .str j, st => some (.bl (!(Builtin.Str.occurrences j i 0 j.length 1).isEmpty), st)
 | _, _, _ => none
theorem zmi : OpM X (compareOp .In) inSD := by
 intro pins s σ H x y v u Q I rx ry ⟨dx, dy, st, io, d, st', Rx, Ry, S, e, k⟩
 unfold inSD at e
 split at e
 · rename_i i j
   cases e; exact ziR pins s σ H x y v u Q I rx ry ⟨i, j, Rx, Ry, k.now S rfl⟩
 · cases e
end
end L2.MP
namespace Srt
open PySem PySem.W PyProof.Rows
def Hd (n : Nat) (r : Nat→Int) {α : Type} : KasT α→(α→Prop)→Prop
 | .ret a, Q => Q a
 | .ask i j k, Q => (i < n∧j < n)∧Hd n r (k (decide (r i < r j))) Q
section
variable {n : Nat} {r : Nat→Int} {α β : Type}
theorem Hd.bind {f : α→KasT β} {Q : β→Prop} : ∀ {t : KasT α}, Hd n r t (fun a => Hd n r (f a) Q)→Hd n r (t.bind f) Q
 | .ret _, h => h
 | .ask i j k, h => ⟨h.1, Hd.bind (t := k _) h.2⟩
theorem Hd.mono {P Q : α→Prop} (k : ∀ a, P a→Q a) : ∀ {t : KasT α}, Hd n r t P→Hd n r t Q
 | .ret a, h => k a h
 | .ask i j f, h => ⟨h.1, Hd.mono k (t := f _) h.2⟩
theorem zhO {c : Prop} [Decidable c] {A B : KasT α} {Q : α→Prop} (hc : c) (h : Hd n r A Q) : Hd n r (if decide c = true then A else B) Q := by
 rw [decide_eq_true hc, if_pos rfl]; exact h
theorem zhP {c : Prop} [Decidable c] {A B : KasT α} {Q : α→Prop} (hc : ¬ c) (h : Hd n r B Q) : Hd n r (if decide c = true then A else B) Q := by
 rw [decide_eq_false hc, if_neg Bool.false_ne_true]; exact h
def Bel (n : Nat) (p : Array Nat) : Prop := ∀ k, p.getD k 0 < n
def R (r : Nat→Int) (p : Array Nat) (k : Nat) : Int := r (p.getD k 0)
def Up (r : Nat→Int) (p : Array Nat) (m : Nat) : Prop := ∀ i j, i ≤ j→j < m→R r p i ≤ R r p j
def Dn (r : Nat→Int) (p : Array Nat) (m : Nat) : Prop := ∀ i j, i ≤ j→j < m→R r p j ≤ R r p i
theorem getD_eq {p q : Array Nat} {i j : Nat} (h : p[i]? = q[j]?) : p.getD i 0 = q.getD j 0 := by
 rw [Array.getD_eq_getD_getElem?, Array.getD_eq_getD_getElem?, h]
theorem zfU {p : Array Nat} {i j : Nat} (hj : j ≤ p.size) (k : Nat) : (kas_rev p i j).getD k 0 = if i ≤ k∧k < j then p.getD (i + j - 1 - k) 0 else p.getD k 0 := by
 have e := getElem?_mirror_all (i := i) hj k
 unfold kas_rev
 by_cases h : i ≤ k∧k < j
 · rw [if_pos h] at e ⊢; exact getD_eq e
 · rw [if_neg h] at e ⊢; exact getD_eq e
theorem zjV {p : Array Nat} {src d : Nat} (hs : src < p.size) (hd : d ≤ src) (k : Nat) : (bubble p src d).getD k 0 = if k = src - d then p.getD src 0 else if src - d < k∧k ≤ src then p.getD (k - 1) 0 else p.getD k 0 := by
 have e := getElem?_bubble hs d hd k
 by_cases h1 : k = src - d
 · rw [if_pos h1] at e ⊢; exact getD_eq e
 · rw [if_neg h1] at e ⊢
   by_cases h2 : src - d < k∧k ≤ src
   · rw [if_pos h2] at e ⊢; exact getD_eq e
   · rw [if_neg h2] at e ⊢; exact getD_eq e
theorem zeI {p : Array Nat} {i j : Nat} (hj : j ≤ p.size) (h : Bel n p) : Bel n (kas_rev p i j) := fun k => by
 rw [zfU hj]; split
 · exact h _
 · exact h _
theorem zmT {p : Array Nat} {src d : Nat} (hs : src < p.size) (hd : d ≤ src) (h : Bel n p) : Bel n (bubble p src d) := fun k => by
 rw [zjV hs hd]
 by_cases h1 : k = src - d
 · rw [if_pos h1]; exact h _
 · rw [if_neg h1]
   by_cases h2 : src - d < k∧k ≤ src
   · rw [if_pos h2]; exact h _
   · rw [if_neg h2]; exact h _
theorem zkf (p : Array Nat) (i j : Nat) : (kas_rev p i j).size = p.size := mirror_size _ _ _ _
theorem ziH (p : Array Nat) (i j : Nat) : (kas_rev p i j).Perm p := mirror_perm _ _ _ _
theorem Up.more {p : Array Nat} {m : Nat} (h : Up r p m) (hl : m = 0 ∨ R r p (m - 1) ≤ R r p m) : Up r p (m + 1) := fun i j hij hj => by
 by_cases hm : j < m
 · exact h i j hij hm
 · have e : j = m := by omega
   subst e
   by_cases hi : i = j
   · rw [hi]; exact Int.le_refl _
   · rcases hl with hl | hl
     · omega
     · exact Int.le_trans (h i (j - 1) (by omega) (by omega)) hl
theorem Dn.more {p : Array Nat} {m : Nat} (h : Dn r p m) (hl : m = 0 ∨ R r p m ≤ R r p (m - 1)) : Dn r p (m + 1) := fun i j hij hj => by
 by_cases hm : j < m
 · exact h i j hij hm
 · have e : j = m := by omega
   subst e
   by_cases hi : i = j
   · rw [hi]; exact Int.le_refl _
   · rcases hl with hl | hl
     · omega
     · exact Int.le_trans hl (h i (j - 1) (by omega) (by omega))
theorem zle {p : Array Nat} (hb : Bel n p) : ∀ (f m : Nat), 1 ≤ m→Up r p m→Hd n r (kas_asc p f m) fun m' => m ≤ m'∧m' ≤ m + f∧Up r p m'∧(m' < m + f→R r p m' < R r p (m' - 1))
 | 0, m, h1, h => ⟨Nat.le_refl _, Nat.le_refl _, h, fun z => absurd z (Nat.lt_irrefl _)⟩
 | f + 1, m, h1, h => by
   refine ⟨⟨hb _, hb _⟩, ?_⟩
   by_cases c : r (p.getD m 0) < r (p.getD (m - 1) 0)
   · refine zhO c ?_
     exact ⟨Nat.le_refl _, Nat.le_add_right _ _, h, fun _ => c⟩
   · refine zhP c ?_
     refine Hd.mono (fun m' h' => ?_) (zle hb f (m + 1) (by omega) (h.more (.inr (Int.not_lt.mp c))))
     exact ⟨by omega, by omega, h'.2.2.1, fun z => h'.2.2.2 (by omega)⟩
def Eqs (r : Nat→Int) (p : Array Nat) (i j : Nat) : Prop := ∀ k, i ≤ k→k < j→R r p k = R r p (j - 1)
theorem zhc {p : Array Nat} {i j : Nat} (hj : j ≤ p.size) (h : Eqs r p i j) (k : Nat) : R r (kas_rev p i j) k = R r p k := by
 unfold R
 rw [zfU hj]
 split
 · rename_i hk
   have h1 := h (i + j - 1 - k) (by omega) (by omega)
   have h2 := h k hk.1 hk.2
   exact h1.trans h2.symm
 · rfl
theorem Dn.same {p p' : Array Nat} {m : Nat} (h : Dn r p m) (e : ∀ k, R r p' k = R r p k) : Dn r p' m := fun i j a b => by rw [e, e]; exact h i j a b
theorem znR {p : Array Nat} {m : Nat} (hm : m ≤ p.size) (h : Dn r p m) : Up r (kas_rev p 0 m) m := fun i j hij hj => by
 unfold R
 rw [zfU hm, zfU hm, if_pos (by omega), if_pos (by omega)]
 exact h (0 + m - 1 - j) (0 + m - 1 - i) (by omega) (by omega)
theorem zgh {N : Nat} : ∀ (f : Nat) (p : Array Nat) (m q : Nat), Bel n p→p.size = N→1 ≤ m→m + f ≤ N→q + 1 ≤ m→Dn r p m→Eqs r p (m - (q + 1)) m →
   Hd n r (kas_desc f p m q) fun t => Bel n t.1∧t.1.Perm p∧m ≤ t.2.1∧t.2.1 ≤ m + f∧t.2.2 + 1 ≤ t.2.1∧Dn r t.1 t.2.1∧Eqs r t.1 (t.2.1 - (t.2.2 + 1)) t.2.1
 | 0, p, m, q, hb, hs, h1, h2, h3, hd, he => ⟨hb, Array.Perm.refl _, Nat.le_refl _, Nat.le_refl _, h3, hd, he⟩
 | f + 1, p, m, q, hb, hs, h1, h2, h3, hd, he => by
   refine ⟨⟨hb _, hb _⟩, ?_⟩
   by_cases c : r (p.getD m 0) < r (p.getD (m - 1) 0)
   · refine zhO c ?_
     have one : ∀ p' : Array Nat, Eqs r p' (m + 1 - (0 + 1)) (m + 1) := fun p' k h1 h2 => by
       have e : k = m + 1 - 1 := by omega
       subst e
       rfl
     by_cases hq : q > 0
     · rw [if_pos hq]
       have hz : m ≤ p.size := by omega
       have e := zhc hz he
       refine Hd.mono (fun t ht => ?_) (zgh f (kas_rev p (m - (q + 1)) m) (m + 1) 0 (zeI hz hb) ((zkf _ _ _).trans hs) (by omega) (by omega) (by omega) ((hd.more (.inr (Int.le_of_lt c))).same e) (one _))
       exact ⟨ht.1, ht.2.1.trans (ziH _ _ _), by omega, by omega, ht.2.2.2.2⟩
     · rw [if_neg hq]
       refine Hd.mono (fun t ht => ?_) (zgh f p (m + 1) 0 hb hs (by omega) (by omega) (by omega) (hd.more (.inr (Int.le_of_lt c))) (one _))
       exact ⟨ht.1, ht.2.1, by omega, by omega, ht.2.2.2.2⟩
   · refine zhP c ?_
     refine ⟨⟨hb _, hb _⟩, ?_⟩
     by_cases d : r (p.getD (m - 1) 0) < r (p.getD m 0)
     · refine zhO d ?_
       exact ⟨hb, Array.Perm.refl _, Nat.le_refl _, Nat.le_add_right _ _, h3, hd, he⟩
     · refine zhP d ?_
       have eq : R r p m = R r p (m - 1) := Int.le_antisymm (Int.not_lt.mp d) (Int.not_lt.mp c)
       refine Hd.mono (fun t ht => ?_) (zgh f p (m + 1) (q + 1) hb hs (by omega) (by omega) (by omega) (hd.more (.inr (Int.not_lt.mp d))) fun k k1 k2 => ?_)
       · exact ⟨ht.1, ht.2.1, by omega, by omega, ht.2.2.2.2⟩
       · show R r p k = R r p (m + 1 - 1)
         by_cases hk : k = m
         · rw [hk]; rfl
         · rw [Nat.add_sub_cancel, eq]
           exact he k (by omega) (by omega)
def zpc (n N : Nat) (r : Nat→Int) (p : Array Nat) (t : Nat × Array Nat) : Prop := Bel n t.2∧t.2.Perm p∧1 ≤ t.1∧t.1 ≤ N∧Up r t.2 t.1
theorem zgZ {N m : Nat} {p : Array Nat} (hb : Bel n p) (hs : p.size = N) (h1 : 1 ≤ m) (h2 : m ≤ N) (hd : Dn r p m) : Hd n r (kas_tail3 m N p) (zpc n N r p) := by
 unfold kas_tail3
 have hz : m ≤ p.size := by omega
 refine Hd.bind (Hd.mono (fun m' h' => ?_) (zle (zeI hz hb) (N - m) m h1 (znR hz hd)))
 exact ⟨zeI hz hb, ziH _ _ _, by omega, by omega, h'.2.2.1⟩
theorem zdS {N m : Nat} {p : Array Nat} (hb : Bel n p) (hs : p.size = N) (h1 : 1 ≤ m) (h2 : m + 1 ≤ N) (hd : Dn r p (m + 1)) : Hd n r (kas_descPart m N p) (zpc n N r p) := by
 unfold kas_descPart
 refine Hd.bind (Hd.mono (fun t ht => ?_) (zgh (N := N) (N - (m + 1)) p (m + 1) 0 hb hs (by omega) (by omega) (by omega) hd fun k k1 k2 => by
   have : k = m + 1 - 1 := by omega
   rw [this]))
 obtain ⟨t1, t2, t3, t4, t5, t6, t7⟩ := ht
 have hsz : t.1.size = N := t2.size_eq.trans hs
 by_cases hq : t.2.2 > 0
 · rw [if_pos hq]
   have hz : t.2.1 ≤ t.1.size := by omega
   refine Hd.mono (fun u hu => ?_) (zgZ (zeI hz t1) ((zkf _ _ _).trans hsz) (by omega) (by omega) (t6.same (zhc hz t7)))
   exact ⟨hu.1, (hu.2.1.trans (ziH _ _ _)).trans t2, hu.2.2⟩
 · rw [if_neg hq]
   refine Hd.mono (fun u hu => ?_) (zgZ t1 hsz (by omega) (by omega) t6)
   exact ⟨hu.1, hu.2.1.trans t2, hu.2.2⟩
theorem zk6 {N : Nat} {p : Array Nat} (hb : Bel n p) (hs : p.size = N) (hN : 1 ≤ N) : Hd n r (kas_count N p) (zpc n N r p) := by
 unfold kas_count
 have up1 : Up r p 1 := fun i j a b => by
   have : i = j := by omega
   rw [this]; exact Int.le_refl _
 refine Hd.bind (Hd.mono (fun m hm => ?_) (zle hb (N - 1) 1 (Nat.le_refl _) up1))
 obtain ⟨m1, m2, m3, m4⟩ := hm
 by_cases e : (m == N) = true
 · rw [if_pos e]
   exact ⟨hb, Array.Perm.refl _, m1, by omega, m3⟩
 · rw [if_neg e]
   have ne : m ≠ N := fun z => e (by simp [z])
   have lt := m4 (by omega)
   by_cases g : m > 1
   · rw [if_pos g]
     refine ⟨⟨hb _, hb _⟩, ?_⟩
     by_cases c : r (p.getD 0 0) < r (p.getD (m - 1) 0)
     · refine zhO c ?_
       exact ⟨hb, Array.Perm.refl _, m1, by omega, m3⟩
     · refine zhP c ?_
       have hz : m ≤ p.size := by omega
       have all : ∀ k, k < m→R r p k = R r p (m - 1) := fun k hk => Int.le_antisymm (m3 k (m - 1) (by omega) (by omega)) (Int.le_trans (Int.not_lt.mp c) (m3 0 k (by omega) hk))
       have e := zhc (i := 0) hz fun k _ hk => all k hk
       have dn : Dn r p m := fun i j a b => by rw [all i (by omega), all j b]; exact Int.le_refl _
       refine Hd.mono (fun u hu => ?_) (zdS (zeI (i := 0) hz hb) ((zkf _ _ _).trans hs) m1 (by omega) ((dn.more (.inr (Int.le_of_lt lt))).same e))
       exact ⟨hu.1, hu.2.1.trans (ziH _ _ _), hu.2.2⟩
   · rw [if_neg g]
     have m1' : m = 1 := by omega
     subst m1'
     have dn : Dn r p 1 := fun i j a b => by
       have : i = j := by omega
       rw [this]; exact Int.le_refl _
     exact zdS hb hs (Nat.le_refl _) (by omega) (dn.more (.inr (Int.le_of_lt lt)))
theorem zdn {p : Array Nat} {k : Nat} (hb : Bel n p) (hu : Up r p k) : ∀ (f a b : Nat), a ≤ b→b ≤ k→b ≤ a + f→(∀ x, x < a→R r p x ≤ R r p k)→(∀ x, b ≤ x→x < k→R r p k ≤ R r p x) →
   Hd n r (kas_place p k f a b) fun l => l ≤ k∧(∀ x, x < l→R r p x ≤ R r p k)∧∀ x, l ≤ x→x < k→R r p k ≤ R r p x
 | 0, a, b, h1, h2, h3, hl, hr => by
   have : a = b := by omega
   subst this
   exact ⟨h2, hl, hr⟩
 | f + 1, a, b, h1, h2, h3, hl, hr => by
   unfold kas_place
   by_cases g : a ≥ b
   · rw [if_pos g]
     have : a = b := by omega
     subst this
     exact ⟨h2, hl, hr⟩
   · rw [if_neg g]
     refine ⟨⟨hb _, hb _⟩, ?_⟩
     by_cases c : r (p.getD k 0) < r (p.getD ((a + b) / 2) 0)
     · refine zhO c ?_
       refine zdn hb hu f a ((a + b) / 2) (by omega) (by omega) (by omega) hl fun x x1 x2 => ?_
       exact Int.le_trans (Int.le_of_lt c) (hu ((a + b) / 2) x x1 x2)
     · refine zhP c ?_
       refine zdn hb hu f ((a + b) / 2 + 1) b (by omega) h2 (by omega) (fun x hx => ?_) hr
       exact Int.le_trans (hu x ((a + b) / 2) (by omega) (by omega)) (Int.not_lt.mp c)
theorem zmW {N : Nat} : ∀ (f : Nat) (p : Array Nat) (k : Nat), Bel n p→p.size = N→k + f = N→Up r p k→Hd n r (kas_bin f p k) fun q => q.Perm p∧Up r q N
 | 0, p, k, hb, hs, hk, hu => ⟨Array.Perm.refl _, by rw [← hk]; exact hu⟩
 | f + 1, p, k, hb, hs, hk, hu => by
   unfold kas_bin
   refine Hd.bind (Hd.mono (fun l hl => ?_) (zdn hb hu k 0 k (Nat.zero_le _) (Nat.le_refl _) (by omega) (fun x hx => absurd hx (Nat.not_lt_zero _)) fun x a b => absurd (Nat.lt_of_lt_of_le b a) (Nat.lt_irrefl _)))
   obtain ⟨l1, l2, l3⟩ := hl
   have hks : k < p.size := by omega
   refine Hd.mono (fun q hq => ⟨hq.1.trans (bubble_perm _ _ _), hq.2⟩) (zmW f (bubble p k (k - l)) (k + 1) (zmT hks (by omega) hb) ((bubble_size _ _ _).trans hs) (by omega) fun i j hij hj => ?_)
   have g : ∀ x, R r (bubble p k (k - l)) x = if x = l then R r p k else if l < x∧x ≤ k then R r p (x - 1) else R r p x := fun x => by
     unfold R
     rw [zjV hks (by omega)]
     have e : k - (k - l) = l := by omega
     rw [e]
     by_cases a1 : x = l
     · rw [if_pos a1, if_pos a1]
     · rw [if_neg a1, if_neg a1]
       by_cases a2 : l < x∧x ≤ k
       · rw [if_pos a2, if_pos a2]
       · rw [if_neg a2, if_neg a2]
   rw [g i, g j]
   by_cases h1 : i = l
   · rw [if_pos h1]
     by_cases h2 : j = l
     · rw [if_pos h2]; exact Int.le_refl _
     · rw [if_neg h2, if_pos (by omega)]
       exact l3 (j - 1) (by omega) (by omega)
   · rw [if_neg h1]
     by_cases h2 : j = l
     · rw [if_pos h2, if_neg (by omega)]
       exact l2 i (by omega)
     · rw [if_neg h2]
       by_cases h3 : l < i∧i ≤ k
       · rw [if_pos h3, if_pos (by omega)]
         exact hu (i - 1) (j - 1) (by omega) (by omega)
       · rw [if_neg h3]
         by_cases h4 : l < j∧j ≤ k
         · rw [if_pos h4]
           exact hu i (j - 1) (by omega) (by omega)
         · rw [if_neg h4]
           exact hu i j hij (by omega)
theorem ziI {n : Nat} (hn : 1 ≤ n) : Bel n (List.toArray (List.range n)) := fun k => by
 rw [Array.getD_eq_getD_getElem?, List.getElem?_toArray]
 by_cases h : k < n
 · rw [List.getElem?_range h]; exact h
 · rw [List.getElem?_eq_none_iff.mpr (by rw [List.length_range]; omega)]; exact hn
theorem sort_ok (hn : 1 ≤ n) : Hd n r (kas_sort n) fun q => q.Perm (List.toArray (List.range n))∧Up r q n := by
 unfold kas_sort
 have hs : (List.toArray (List.range n)).size = n := by simp
 refine Hd.bind (Hd.mono (fun t ht => ?_) (zk6 (ziI hn) hs hn))
 obtain ⟨t1, t2, t3, t4, t5⟩ := ht
 by_cases h : t.1 < n
 · rw [if_pos h]
   have e : max t.1 1 = t.1 := Nat.max_eq_left t3
   rw [e]
   refine Hd.mono (fun q hq => ⟨hq.1.trans t2, hq.2⟩) (zmW (N := n) (n - t.1) t.2 t.1 t1 (t2.size_eq.trans hs) (by omega) t5)
 · rw [if_neg h]
   have e : t.1 = n := by omega
   exact ⟨t2, by rw [← e]; exact t5⟩
end
end Srt
namespace L2.MP
open PySem PySem.Spec PyProof.Rows
theorem zkL : ∀ a : List Int, HT.lexLt a a = false
 | [] => rfl
 | x :: r => by rw [HT.lexLt_cons, if_pos rfl]; exact zkL r
theorem zjJ : ∀ {a b : List Int}, HT.lexLt a b = false→HT.lexLt b a = false→a = b
 | [], [], _, _ => rfl
 | [], _ :: _, h, _ => by rw [HT.lexLt_nil_cons] at h; cases h
 | _ :: _, [], _, h => by rw [HT.lexLt_nil_cons] at h; cases h
 | x :: a, y :: b, h1, h2 => by
   rw [HT.lexLt_cons] at h1 h2
   by_cases e : x = y
   · subst e
     rw [if_pos rfl] at h1 h2
     rw [zjJ h1 h2]
   · rw [if_neg e] at h1
     rw [if_neg (Ne.symm e)] at h2
     have a1 := of_decide_eq_false h1
     have a2 := of_decide_eq_false h2
     omega
theorem zhC : ∀ {a b c : List Int}, HT.lexLt b a = false→HT.lexLt c b = false→HT.lexLt c a = false
 | a, [], c, _, h2 => by
   cases c with
   | nil =>
     cases a with
     | nil => rfl
     | cons x a => rename_i h1; rw [HT.lexLt_nil_cons] at h1; cases h1
   | cons z c =>
     cases a with
     | nil => exact HT.lexLt_cons_nil _ _
     | cons x a => rename_i h1; rw [HT.lexLt_nil_cons] at h1; cases h1
 | a, y :: b, [], _, h2 => by rw [HT.lexLt_nil_cons] at h2; cases h2
 | [], y :: b, z :: c, _, _ => HT.lexLt_cons_nil _ _
 | x :: a, y :: b, z :: c, h1, h2 => by
   rw [HT.lexLt_cons] at h1 h2 ⊢
   by_cases e1 : y = x
   · subst e1
     rw [if_pos rfl] at h1
     by_cases e2 : z = y
     · subst e2
       rw [if_pos rfl] at h2 ⊢
       exact zhC h1 h2
     · rw [if_neg e2] at h2 ⊢; exact h2
   · rw [if_neg e1] at h1
     have a1 := of_decide_eq_false h1
     by_cases e2 : z = y
     · subst e2
       rw [if_neg e1]; exact h1
     · rw [if_neg e2] at h2
       have a2 := of_decide_eq_false h2
       rw [if_neg (by omega)]
       exact decide_eq_false (by omega)
theorem zjI {a b : List Int} (h : HT.lexLt a b = true) : HT.lexLt b a = false := by
 cases e : HT.lexLt b a with
 | false => rfl
 | true =>
   -- b < a and a < b: then not (a < a) breaks
   exfalso
   have : ∀ {a b : List Int}, HT.lexLt a b = true→HT.lexLt b a = true→False := by
     intro a
     induction a with
     | nil => intro b h1 h2; cases b with
       | nil => rw [HT.lexLt_nil_nil] at h1; cases h1
       | cons y b => rw [HT.lexLt_cons_nil] at h2; cases h2
     | cons x a ih => intro b h1 h2; cases b with
       | nil => rw [HT.lexLt_cons_nil] at h1; cases h1
       | cons y b =>
         rw [HT.lexLt_cons] at h1 h2
         by_cases q : x = y
         · subst q
           rw [if_pos rfl] at h1 h2
           exact ih h1 h2
         · rw [if_neg q] at h1
           rw [if_neg (Ne.symm q)] at h2
           have a1 := of_decide_eq_true h1
           have a2 := of_decide_eq_true h2
           omega
   exact this h e
def tle (a b : List Int) : Bool := !HT.lexLt b a
def zij (ts : List (List Int)) : List (List Int) := ts.mergeSort tle
theorem zcy (a b c : List Int) (h1 : tle a b = true) (h2 : tle b c = true) : tle a c = true := by
 unfold tle at *
 rw [Bool.not_eq_true'] at *
 exact zhC h1 h2
theorem zdY (a b : List Int) : (tle a b || tle b a) = true := by
 unfold tle
 cases e : HT.lexLt b a with
 | false => rfl
 | true => rw [zjI e]; rfl
theorem zgW {a b : List Int} (h1 : tle a b = true) (h2 : tle b a = true) : a = b := by
 unfold tle at *
 rw [Bool.not_eq_true'] at *
 exact zjJ h2 h1
def rank (ts : List (List Int)) (i : Nat) : Int := ((ts.countP fun t => HT.lexLt t (ts.getD i [])) : Nat)
theorem zhe {ts : List (List Int)} {i j : Nat} (hi : i < ts.length) : (decide (rank ts i < rank ts j)) = HT.lexLt (ts.getD i []) (ts.getD j []) := by
 unfold rank
 cases e : HT.lexLt (ts.getD i []) (ts.getD j []) with
 | true =>
   refine decide_eq_true ?_
   have le : ts.countP (fun t => HT.lexLt t (ts.getD i [])) < ts.countP (fun t => HT.lexLt t (ts.getD j [])) := by
     have hm : ts.getD i [] ∈ ts := by rw [List.getD_eq_getElem?_getD, List.getElem?_eq_getElem hi]; exact List.getElem_mem hi
     generalize ha : ts.getD i [] = a at *
     generalize hb : ts.getD j [] = b at *
     clear ha hb hi
     have sub : ∀ t, HT.lexLt t a = true→HT.lexLt t b = true := fun t ht => by
       cases q : HT.lexLt t b with
       | true => rfl
       | false =>
         exfalso
         -- b ≤ t, t < a, a < b
         have h1 : HT.lexLt a t = false := zjI ht
         have : HT.lexLt a b = false := by
           have h2 : tle b t = true := by unfold tle; rw [q]; rfl
           have h3 : tle t a = true := by unfold tle; rw [h1]; rfl
           have := zcy b t a h2 h3
           unfold tle at this
           rw [Bool.not_eq_true'] at this
           exact this
         rw [e] at this; cases this
     induction ts with
     | nil => exact absurd hm (by simp)
     | cons t r ih =>
       rw [List.countP_cons, List.countP_cons]
       rcases List.mem_cons.mp hm with q | q
       · subst q
         rw [zkL, e]
         have : r.countP (fun t => HT.lexLt t a) ≤ r.countP (fun t => HT.lexLt t b) := List.countP_mono_left fun t _ ht => sub t ht
         simp only [Bool.false_eq_true, if_false, if_true]
         omega
       · have := ih q
         by_cases c : HT.lexLt t a = true
         · rw [if_pos c, if_pos (sub t c)]; omega
         · rw [if_neg c]; split <;> omega
   omega
 | false =>
   refine decide_eq_false ?_
   have le : ts.countP (fun t => HT.lexLt t (ts.getD j [])) ≤ ts.countP (fun t => HT.lexLt t (ts.getD i [])) := List.countP_mono_left fun t _ ht => by
     cases q : HT.lexLt t (ts.getD i []) with
     | true => rfl
     | false =>
       exfalso
       have h2 : tle (ts.getD j []) (ts.getD i []) = true := by unfold tle; rw [e]; rfl
       have h3 : tle (ts.getD i []) t = true := by unfold tle; rw [q]; rfl
       have h4 := zcy _ _ _ h2 h3
       unfold tle at h4
       rw [ht] at h4; cases h4
   omega
end L2.MP
namespace L2.MP
open PySem PySem.Spec PyProof.Rows
theorem zoI {n : Nat} {r : Nat→Int} {α : Type} {P : α→Prop} {Q : α→Shared→Prop} {s : Shared} {cmp : Nat→Nat→(Bool→Shared→Prop)→Shared→Prop} (hc : ∀ i j, i < n→j < n→∀ C : Bool→Shared→Prop, C (decide (r i < r j)) s→cmp i j C s) (hq : ∀ a, P a→Q a s) :
   ∀ {t : PySem.W.KasT α}, Srt.Hd n r t P→t.kasWp cmp Q s
 | .ret a, h => hq a h
 | .ask i j k, h => hc i j h.1.1 h.1.2 _ (zoI hc hq (t := k _) h.2)
section
variable {prog : Program} {w : World} {A : Around} {E : Value→Shared→Prop} {s : Shared}
theorem zdP {Q : Bool→Shared→Prop} : ∀ {xs ys : List Int} {us ws : List Value} (i : Nat), Vals (xs.map V.int) us→Vals (ys.map V.int) ws→Q (HT.lexLt xs ys) s→PySem.W.KatLex prog w A true (decide (us.length < ws.length)) Q (us.zip ws) i s
 | [], [], _, _, i, .nil, .nil, h => h
 | [], y :: ys, _, _, i, .nil, .cons r t, h => by
   show Q (decide (_ < _)) s
   rw [decide_eq_true (by simp)]; exact h
 | x :: xs, [], _, _, i, .cons r t, .nil, h => by
   show Q (decide (_ < _)) s
   rw [decide_eq_false (by simp)]; exact h
 | x :: xs, y :: ys, _, _, i, .cons r1 t1, .cons r2 t2, h => by
   obtain ⟨a1, rfl⟩ := r1
   obtain ⟨a2, rfl⟩ := r2
   rw [HT.lexLt_cons] at h
   refine SeqAt.EqAt.int_int x a1 y a2 prog w _ _ ?_
   by_cases e : x = y
   · subst e
     rw [if_pos rfl] at h
     rw [beq_self_eq_true, if_pos rfl]
     have := zdP (Q := Q) (i + 1) t1 t2 h
     rw [List.length_cons, List.length_cons]
     have e2 : ∀ a b : Nat, decide (a + 1 < b + 1) = decide (a < b) := fun a b => by
       by_cases q : a < b
       · rw [decide_eq_true q, decide_eq_true (by omega)]
       · rw [decide_eq_false q, decide_eq_false (by omega)]
     rw [e2]
     exact this
   · rw [if_neg e] at h
     have hb : (x == y) = false := by simpa using e
     rw [hb, if_neg Bool.false_ne_true]
     by_cases hi : i = 0
     · subst hi
       exact oneLt_int h
     · have : (true && i == 0) = false := by simpa using hi
       rw [this]
       exact PySem.W.kat_one _ _ (lt_int h)
end
section
variable {X : Cx} {pins : List (Addr × Obj)} {σ : L2.St} {H : Hp} {s : Shared}
def zih (H : Hp) : List V→List (List Int)→Prop := Paired fun v t => ∃ a, v = .ref a∧H a = some (.tup (t.map V.int))∧t ≠ []
theorem zfc : ∀ {xs : List V} {ts : List (List Int)} {i : Nat}, zih H xs ts→i < ts.length→∃ a, xs[i]? = some (.ref a)∧H a = some (.tup ((ts.getD i []).map V.int))∧ts.getD i [] ≠ []
 | _, [], i, _, hi => absurd hi (by simp)
 | _, t :: ts, 0, .cons r q, _ => by
   obtain ⟨a, rfl, ha, hn⟩ := r
   exact ⟨a, rfl, ha, hn⟩
 | _, t :: ts, i + 1, .cons r q, hi => by
   have := zfc (i := i) q (by simpa using hi)
   simpa using this
theorem zoZ {A : Around} {xs : List V} {us : List Value} {ts : List (List Int)} {s' : Shared} (I : Inv X pins σ H s) (hk : ∀ b o, H b ≠ none→s.heap.get? b = some o→s'.heap.get? b = some o) (T : zih H xs ts) (r : Vals xs us) {i j : Nat} (hi : i < ts.length) (hj : j < ts.length) (C : Bool→Shared→Prop)
   (h : C (decide (rank ts i < rank ts j)) s') : PySem.W.kas_ask X.prog X.w A (PyProof.Rows.tuples' true) us i j C s' := by
 rw [zhe hi] at h
 obtain ⟨a, ea, ha, _⟩ := zfc T hi
 obtain ⟨b, eb, hb, _⟩ := zfc T hj
 obtain ⟨u, eu, ru⟩ := r.get ea
 obtain ⟨u2, eu2, ru2⟩ := r.get eb
 cases ru
 cases ru2
 obtain ⟨ia, va, ⟨oa, ga, ca, na, da⟩, _⟩ := I.tuple (SqT.of (K := X.K) ha)
 obtain ⟨ib, vb, ⟨ob, gb, cb, nb, db⟩, _⟩ := I.tuple (SqT.of (K := X.K) hb)
 unfold PySem.W.kas_ask
 rw [List.getD_eq_getElem?_getD, List.getD_eq_getElem?_getD, eu, eu2]
 refine PySem.W.kat_lt (hk _ _ (by rw [ha]; simp) ga) da (hk _ _ (by rw [hb]; simp) gb) db ?_
 have := zdP (prog := X.prog) (w := X.w) (A := A) (Q := C) (s := s') 0 va vb h
 simpa using this
end
end L2.MP
namespace L2.MP
open PySem PySem.Spec PyProof.Rows
section
variable {X : Cx} {pins : List (Addr × Obj)} {σ : L2.St} {H : Hp} {s : Shared}
theorem zhH {h' : Heap} (I : Inv X pins σ H s) (hk : ∀ b o, H b ≠ none→s.heap.get? b = some o→h'.get? b = some o) : ∀ {xs : List V} {us : List Value} {ts : List (List Int)}, zih H xs ts→Vals xs us →
   ∃ fs : List Value, PySem.W.KatTups h' us fs∧fs.length = us.length∧∀ v ∈ fs, ∃ i t, v = Value.int i t
 | _, _, [], .nil, .nil => ⟨[], PySem.W.KatTups.nil, rfl, fun v hv => absurd hv (by simp)⟩
 | _, _, t :: ts, .cons r q, .cons rv rvs => by
   obtain ⟨a, rfl, ha, hn⟩ := r
   cases rv
   obtain ⟨fs, h1, h2, h3⟩ := zhH I hk q rvs
   obtain ⟨its, va, ⟨o, g, c, n, d⟩, _⟩ := I.tuple (SqT.of (K := X.K) ha)
   cases t with
   | nil => exact absurd rfl hn
   | cons x t =>
     cases va with
     | @cons _ u _ us' ru rus =>
       obtain ⟨tk, rfl⟩ := ru
       refine ⟨.int x tk :: fs, PySem.W.KatTups.cons (hk _ _ (by rw [ha]; simp) g) c d (by simp) h1, by rw [List.length_cons, List.length_cons, h2], fun v hv => ?_⟩
       rcases List.mem_cons.mp hv with rfl | hv
       · exact ⟨x, tk, rfl⟩
       · exact h3 v hv
end
end L2.MP
namespace L2.MP
open PySem PySem.Spec PyProof.Rows
theorem zf4 {P : Program} {w : World} {H : Hp} {h : Heap} {a : Addr} {o : HO} (x : zc5 P w H h a o) : ∃ u, h.get? a = some u := by
 cases o with
 | lst xs => obtain ⟨_, _, _, _, e⟩ := x; exact ⟨_, e⟩
 | tup xs => obtain ⟨_, _, _, o, e, _⟩ := x; exact ⟨_, e⟩
 | dK kvs => obtain ⟨_, _, _, _, o, _, _, e, _⟩ := x; exact ⟨_, e⟩
 | dT kvs => obtain ⟨_, _, _, _, o, _, _, e, _⟩ := x; exact ⟨_, e⟩
 | set S n => obtain ⟨o, _, _, _, e, _⟩ := x; exact ⟨_, e⟩
 | ins C dx fs => obtain ⟨_, _, _, e, _⟩ := x; exact ⟨_, e⟩
 | own y => exact x
 | xd fs => obtain ⟨_, ⟨_, _, _, e, _⟩, _⟩ := x; exact ⟨_, e⟩
 | rng lo hi => obtain ⟨_, _, _, e⟩ := x; exact ⟨_, e⟩
 | frz ob u => obtain ⟨e, _⟩ := x; exact ⟨_, e⟩
 | tbl ps => exact ⟨_, x⟩
 | met f y => exact ⟨_, x⟩
 | ext φ => obtain ⟨_, e, _⟩ := x; exact e
theorem zmm {h : Heap} {a : Addr} {m m' : Str→Option Value} (x : h.Ns a m) (y : h.Ns a m') : m = m' := by
 obtain ⟨o, es, ep, ho, hd, _, hm⟩ := x
 obtain ⟨o', es', ep', ho', hd', _, hm'⟩ := y
 rw [ho] at ho'; cases ho'
 rw [hd] at hd'; cases hd'
 funext n
 rw [← hm n, hm' n]
section
variable {X : Cx} {pins : List (Addr × Obj)} {σ : L2.St} {H : Hp} {s : Shared}
theorem Inv.laidAt {h' : Heap} {m : Str→Option Value} {a : Addr} {o : HO} (I : Inv X pins σ H s) (k : ∀ b u, b ≠ X.env.locals→s.heap.get? b = some u→h'.get? b = some u) (ns : ∀ m, s.heap.Ns X.env.locals m→h'.Ns X.env.locals m) (hL : ∃ u, h'.get? X.env.locals = some u)
   (ha : s.heap.get? a = none) (hH : H a = none) (haL : a ≠ X.env.locals) (new : zc5 X.prog X.w (upd H a o) h' a o) : Inv X pins σ (upd H a o) { s with heap := h' } := by
 have na : ∀ b u, s.heap.get? b = some u→b ≠ a := fun b u e z => by rw [z, ha] at e; cases e
 refine Inv.step (t' := s.toks) (ch := []) (g' := s.gens) (d' := s.drawn) I (fun b hb => absurd hb (by simp)) (fun b u h1 _ _ e _ => k b u h1 e) (fun b u h1 _ _ e _ => ⟨u.slots, k b u h1 e⟩) (fun b u _ e n => by rw [zay (na b u e)]; exact n) (fun b u _ e => ?_)
   (fun b xs e => by rw [zay (zaq e hH)]; exact e) (fun b u v e => by rw [zay (zaq e hH)]; exact e) (fun b ps e => ⟨#[], by rw [zay (zaq e hH), e]; simp⟩) ns (fun b u e => ?_) I.bare
 · by_cases hb : b = X.env.locals
   · rw [hb]; exact hL
   · exact ⟨u, k b u hb e⟩
 · by_cases hb : b = a
   · subst hb; rw [zbi] at e; cases e; exact new
   · rw [zay hb] at e
     refine (I.hok b u e).stay (fun c v hc q => k c v (fun z => ?_) q) (fun c q => by rw [zay (zaq q hH)]; exact q) fun c xs q => by rw [zay (zaq q hH)]; exact q
     subst z
     rcases hc with rfl | hc
     · rw [I.free] at e; cases e
     · rw [I.free] at hc; cases hc
theorem zgu {xs : List V} {ts : List (List Int)} {l : Addr} {Q : VK} (I : Inv X pins σ H s) (hl : SqL X.K H l xs) (T : zih H xs ts) (h2 : 2 ≤ ts.length) (h64 : ts.length < 64)
   (h : ∀ (q : Array Nat) (p : Addr), q.Perm (List.toArray (List.range ts.length))→Srt.Up (rank ts) q ts.length→H p = none→Q (.ref p) (upd H p (.lst (q.toList.map fun i => xs.getD i .non)))) :
   wpAny (model X.prog X.w) X.A (call (.builtin "sorted") [.ref l]) (EP X pins σ Q) X.xe s := by
 obtain ⟨its, rv, pl, hz⟩ := I.list hl
 have hlen : its.length = ts.length := by
   have a := rv.length
   have b := Paired.length T
   omega
 obtain ⟨m, F⟩ := I.fr
 have trkL : ∀ b, H b ≠ none→b ≠ X.env.locals := fun b hb z => hb (by rw [z]; exact I.free)
 have trkB : ∀ b, H b ≠ none→X.base.get? b = none := fun b hb => by
   cases e : X.base.get? b with
   | none => rfl
   | some o => exact absurd (I.bs b o e).2 hb
 refine PySem.W.kat_sorted F (zht (g := X.base) (h := s.heap) (L := X.env.locals)) pl.isList (by omega) (by omega) fun D e1 h' F' N' hlt => ?_
 have keep : ∀ {h2 : Heap} {o : Obj}, Fr X.base X.env.locals h2 m→News X.base X.env.locals h2 ((D, o) :: ze5 X.base s.heap X.env.locals)→∀ b u, b ≠ X.env.locals→s.heap.get? b = some u→h2.get? b = some u := fun {h2 o} F2 N2 b u hb e => by
   cases q : X.base.get? b with
   | some v =>
     have z := (I.bs b v q).1
     rw [e] at z; cases z
     exact F2.keep b _ q
   | none => exact (N2 (b, u) (List.mem_cons_of_mem _ (zcf hb q e))).1
 have hk : ∀ b o, H b ≠ none→s.heap.get? b = some o→h'.get? b = some o := fun b o hb e => keep F' N' b o (trkL b hb) e
 have hDD := N' _ List.mem_cons_self
 have hsD : s.heap.get? D = none := by
   cases e : s.heap.get? D with
   | none => rfl
   | some u => exact absurd (hlt _ (zcf hDD.2.1 hDD.2.2 e)) (Nat.lt_irrefl _)
 have hHD : H D = none := by
   cases e : H D with
   | none => rfl
   | some o =>
     obtain ⟨u, hu⟩ := zf4 (I.hok D o e)
     rw [hsD] at hu; cases hu
 obtain ⟨fs, k1, k2, k3⟩ := zhH (h' := h') I hk T rv
 refine PySem.W.kat_kind (s := { s with heap := h' }) (T := .type "int") k1 (by omega) (fun v hv => ?_) rfl ?_
 · obtain ⟨i, t, rfl⟩ := k3 v hv
   exact PySem.W.Looks.of_pure rfl
 have ok := Srt.sort_ok (n := its.length) (r := rank ts) (by omega)
 refine zoI (n := its.length) (r := rank ts) (s := { s with heap := h' }) (fun i j hi hj C hC => zoZ (s' := { s with heap := h' }) I hk T rv (by omega) (by omega) C hC) (fun q hq => ?_) ok
 refine PySem.W.KasFin.intro F' N' (PySem.W.UpdF.head fun p hp => Nat.ne_of_lt (hlt p hp)) fun h2 c F2 N2 => ?_
 have hD2 := (N2 _ List.mem_cons_self).1
 rw [hlen] at hq
 have vals : Vals (q.toList.map fun i => xs.getD i .non) (q.toList.map fun i => its.getD i Value.none) := by
   have hmem : ∀ i ∈ q.toList, i < xs.length := fun i hi => by
     have : i ∈ (List.toArray (List.range ts.length)).toList := (Array.perm_iff_toList_perm.mp hq.1).mem_iff.mp hi
     have hr := rv.length
     simp at this
     omega
   generalize q.toList = ql at hmem
   induction ql with
   | nil => exact .nil
   | cons i r ih =>
     refine .cons ?_ (ih fun j hj => hmem j (List.mem_cons_of_mem _ hj))
     have hi := hmem i List.mem_cons_self
     obtain ⟨u, eu, ru⟩ := rv.get (List.getElem?_eq_getElem hi)
     show RelV (xs.getD i V.non) (its.getD i Value.none)
     rw [List.getD_eq_getElem?_getD, List.getD_eq_getElem?_getD, List.getElem?_eq_getElem hi, eu]
     exact ru
 have hql : q.toList.length = ts.length := by
   have := (Array.perm_iff_toList_perm.mp hq.1).length_eq
   simpa using this
 have J : Inv X pins σ (upd H D (.lst (q.toList.map fun i => xs.getD i .non))) { s with heap := h2 } :=
   Inv.laidAt (m := m) I (keep F2 N2) (fun m' hm' => by rw [zmm hm' F.ns]; exact F2.ns) (let ⟨o, _, _, e, _⟩ := F2.ns; ⟨o, e⟩) hsD hHD hDD.2.1 ⟨by rw [List.length_map, hql]; exact lt64 h64, _, c, vals, hD2⟩
 exact ⟨.ref D, _, J, rfl, h q D hq.1 hq.2 hHD⟩
end
end L2.MP
namespace L2.MP
open PySem PySem.Spec PyProof.Rows
theorem zcC {α : Type} (ts : List α) (d : α) : (List.range ts.length).map (fun i => ts.getD i d) = ts := by
 apply List.ext_getElem
 · simp
 · intro i h1 h2
   simp [List.getD_eq_getElem?_getD, List.getElem?_eq_getElem h2]
theorem zdK {ts : List (List Int)} {q : Array Nat} (hp : q.Perm (List.toArray (List.range ts.length))) (hu : Srt.Up (rank ts) q ts.length) : q.toList.map (fun i => ts.getD i []) = zij ts := by
 have hl := Array.perm_iff_toList_perm.mp hp
 have hl : q.toList.Perm (List.range ts.length) := by simpa using hl
 have hsz : q.toList.length = ts.length := by rw [hl.length_eq, List.length_range]
 have p1 : (q.toList.map fun i => ts.getD i []).Perm ts := by
   have := hl.map fun i => ts.getD i []
   rw [zcC] at this
   exact this
 refine zcA (le := fun a b => tle a b = true) (p1.trans (List.mergeSort_perm ts tle).symm) ?_ (List.pairwise_mergeSort (fun a b c => zcy a b c) zdY ts) fun a _ b _ => zgW
 rw [List.pairwise_iff_getElem]
 intro i j hi hj hij
 rw [List.getElem_map, List.getElem_map]
 rw [List.length_map] at hi hj
 have hu := hu i j (Nat.le_of_lt hij) (by omega)
 have gi : ∀ (k : Nat) (hk : k < q.toList.length), q.getD k 0 = q.toList[k] := fun k hk => by
   rw [Array.getD_eq_getD_getElem?, ← Array.getElem?_toList, List.getElem?_eq_getElem hk]; rfl
 unfold Srt.R at hu
 rw [gi i hi, gi j hj] at hu
 have lt : ∀ k ∈ q.toList, k < ts.length := fun k hk => List.mem_range.mp (hl.mem_iff.mp hk)
 have e := zhe (ts := ts) (i := q.toList[j]) (j := q.toList[i]) (lt _ (List.getElem_mem hj))
 rw [decide_eq_false (by omega)] at e
 unfold tle
 rw [← e]; rfl
end L2.MP
namespace L2.MP
open PySem PySem.Spec PyProof.Rows
def intsOf : List D→Option (List Int)
 | [] => some []
 | .int i :: r => (intsOf r).map fun is => i :: is
 | _ => none
theorem zgF {d : D} {r : List D} {ss : List Int} (h : intsOf (d :: r) = some ss) : ∃ x xs, d = .int x∧intsOf r = some xs∧ss = x :: xs := by
 cases d with
 | int x =>
   obtain ⟨xs, e, h⟩ := zag h
   exact ⟨x, xs, rfl, e, h.symm⟩
 | _ => cases h
def rowOf : D→Option (List Int)
 | .tup ds => (intsOf ds).bind fun t => if (!t.isEmpty) = true then some t else none
 | _ => none
def rowsOf : List D→Option (List (List Int))
 | [] => some []
 | d :: r => (rowOf d).bind fun t => (rowsOf r).map fun ts => t :: ts
def tupD (t : List Int) : D := .tup (t.map D.int)
section
variable {X : Cx} {K : PySem.W.Frag} {H : Hp} {io : List Addr} {st st' : Sto}
theorem ints_rep : ∀ {xs : List V} {ds : List D} {t : List Int}, Reps K H io xs ds→intsOf ds = some t→xs = t.map V.int∧ds = t.map D.int
 | _, [], t, h, e => by cases e; exact ⟨h, rfl⟩
 | _, d :: ds, t, h, e => by
   obtain ⟨y, ys, rfl, h1, h2⟩ := h
   obtain ⟨x, rest, rfl, e2, rfl⟩ := zgF e
   obtain ⟨a, b⟩ := ints_rep h2 e2
   cases (show y = .int x from h1)
   rw [a, b]
   exact ⟨rfl, rfl⟩
theorem zjz : ∀ {xs : List V} {ds : List D} {ts : List (List Int)}, Reps K H io xs ds→rowsOf ds = some ts→zih H xs ts∧ds = ts.map tupD
 | _, [], ts, h, e => by
   cases e; cases (show _ = [] from h); exact ⟨.nil, rfl⟩
 | _, d :: ds, ts, h, e => by
   obtain ⟨y, ys, rfl, h1, h2⟩ := h
   obtain ⟨t, e1, e⟩ := zad e
   obtain ⟨us, e2, e⟩ := zag e
   subst e
   obtain ⟨a, b⟩ := zjz h2 e2
   cases d with
   | tup zs =>
     obtain ⟨t', f1, f2⟩ := zad e1
     obtain ⟨hn, f2⟩ := zao f2
     cases f2
     obtain ⟨p, vs, rfl, hp, rs⟩ := h1
     obtain ⟨q1, q2⟩ := ints_rep rs f1
     subst q1
     refine ⟨.cons ⟨p, rfl, hp, fun z => ?_⟩ a, ?_⟩
     · rw [z] at hn; exact absurd hn (by decide)
     · rw [b, q2]; rfl
   | _ => cases e1
def zd2 : GN
 | [.ref n], st => (zbj st n).bind fun ds => (rowsOf ds).bind fun ts => if (decide (2 ≤ ts.length) && decide (ts.length < 64)) = true then some (.ref st.length, st ++ [.lst ((zij ts).map tupD)]) else none
 | _, _ => none
theorem zfY {xs : List V} {ts : List (List Int)} (r : Reps K H io xs (ts.map tupD)) : ∀ {q : List Nat}, (∀ i ∈ q, i < ts.length)→Reps K H io (q.map fun i => xs.getD i .non) ((q.map fun i => ts.getD i []).map tupD)
 | [], _ => rfl
 | i :: q, h => by
   have hi := h i List.mem_cons_self
   have hg : (ts.map tupD)[i]? = some (tupD (ts.getD i [])) := by
     rw [List.getElem?_map, List.getElem?_eq_getElem hi, List.getD_eq_getElem?_getD, List.getElem?_eq_getElem hi]; rfl
   obtain ⟨v, hv, rv⟩ := r.get hg
   refine ⟨_, _, rfl, ?_, zfY r fun j hj => h j (List.mem_cons_of_mem _ hj)⟩
   show Rep K H io (xs.getD i .non) _
   rw [List.getD_eq_getElem?_getD, hv]
   exact rv
theorem zeZ : zdC X (.builtin "sorted") zd2 := by
 intro pins s σ H xs us Q I r ⟨ds, st, io, d, st', R, S, e, k⟩
 unfold zd2 at e
 split at e
 · rename_i n
   obtain ⟨zs, e0, e⟩ := zad e
   obtain ⟨ts, e1, e⟩ := zad e
   obtain ⟨hl, e⟩ := zao e
   cases e
   rw [Bool.and_eq_true] at hl
   obtain ⟨v, rfl, p, rfl, hp⟩ := R.one
   obtain ⟨u, rfl, ru⟩ := r.one
   cases ru
   obtain ⟨ys, hx, r1⟩ := zaX S hp e0
   obtain ⟨T, hd⟩ := zjz r1 e1
   subst hd
   refine zgu I hx T (of_decide_eq_true hl.1) (of_decide_eq_true hl.2) fun q p' hq hu hf => ?_
   have hm : ∀ i ∈ q.toList, i < ts.length := fun i hi => by
     have := (Array.perm_iff_toList_perm.mp hq).mem_iff.mp hi
     simpa using this
   have rr := zfY r1 hm
   rw [zdK hq hu] at rr
   exact k.lst S rr hf
 · cases e
end
end L2.MP
namespace L2.MP
open PySem PySem.Spec PyProof.Rows
section
variable {X : Cx} {K : PySem.W.Frag} {H : Hp} {io : List Addr} {st st' : Sto} {a b c e : Expr} {es : List Expr} {ma mb mc m : ME} {mm : MA} {pos : Pos} {pins : List (Addr × Obj)} {σ : L2.St} {s : Shared}
def orO {α : Type} : Option α→Option α→Option α
 | some x, _ => some x
 | none, y => y
theorem zbY {α : Type} {x y : Option α} {z : α} (h : orO x y = some z) : x = some z ∨ y = some z := by
 cases x with
 | none => exact .inr h
 | some w => exact .inl h
def orG (g h : G2) : G2 := fun x y st => orO (g x y st) (h x y st)
def orN (g h : GN) : GN := fun xs st => orO (g xs st) (h xs st)
theorem zme {f : Value→Value→Sem Value} {g h : G2} (p : OpM X f g) (q : OpM X f h) : OpM X f (orG g h) := by
 intro pins s σ H x y v u Q I rx ry ⟨dx, dy, st, io, d, st', Rx, Ry, S, e, k⟩
 rcases zbY e with e | e
 · exact p pins s σ H x y v u Q I rx ry ⟨dx, dy, st, io, d, st', Rx, Ry, S, e, k⟩
 · exact q pins s σ H x y v u Q I rx ry ⟨dx, dy, st, io, d, st', Rx, Ry, S, e, k⟩
theorem zeu {f : Value} {g h : GN} (p : zdC X f g) (q : zdC X f h) : zdC X f (orN g h) := by
 intro pins s σ H xs us Q I r ⟨ds, st, io, d, st', R, S, e, k⟩
 rcases zbY e with e | e
 · exact p pins s σ H xs us Q I r ⟨ds, st, io, d, st', R, S, e, k⟩
 · exact q pins s σ H xs us Q I r ⟨ds, st, io, d, st', R, S, e, k⟩
theorem zf9 {g : G2} {ρ : Rho} {x y : D} {s0 s1 s2 : Sto} {r : D × Sto} (h1 : ma ρ s0 = some (x, s1)) (h2 : mb ρ s1 = some (y, s2)) (h3 : g x y s2 = some r) : mBin g ma mb ρ s0 = some r := by
 unfold mBin
 rw [h1]
 show Option.bind (mb ρ s1) _ = _
 rw [h2]
 exact h3
theorem znH {g h : G2} (p : SE X e (mBin g ma mb)) (q : SE X e (mBin h ma mb)) : SE X e (mBin (orG g h) ma mb) := by
 intro pins s σ H Q I ⟨ρ, st, io, d, st', E, S, e, k⟩
 obtain ⟨⟨x, s1⟩, e1, e⟩ := zad e
 obtain ⟨⟨y, s2⟩, e2, e⟩ := zad e
 rcases zbY e with e | e
 · exact p pins s σ H Q I ⟨ρ, st, io, d, st', E, S, zf9 e1 e2 e, k⟩
 · exact q pins s σ H Q I ⟨ρ, st, io, d, st', E, S, zf9 e1 e2 e, k⟩
theorem zkc {g h : G2} (p : SB X e (mTst (mBin g ma mb))) (q : SB X e (mTst (mBin h ma mb))) : SB X e (mTst (mBin (orG g h) ma mb)) := by
 intro pins s σ H Q I ⟨ρ, st, io, d, st', E, S, e, k⟩
 have e := zlz e
 obtain ⟨⟨x, s1⟩, e1, e⟩ := zad e
 obtain ⟨⟨y, s2⟩, e2, e⟩ := zad e
 rcases zbY e with e | e
 · exact p pins s σ H Q I ⟨ρ, st, io, d, st', E, S, by unfold mTst; rw [zf9 e1 e2 e]; rfl, k⟩
 · exact q pins s σ H Q I ⟨ρ, st, io, d, st', E, S, by unfold mTst; rw [zf9 e1 e2 e]; rfl, k⟩
def zoQ : G2 := fun d k st => match d with
 | .ref n => (look st n k).bind fun r => r.map fun v => (v, st)
 | _ => none
def ixA : G2 := orG idxD zoQ
theorem zal (hu : X.A.units + 1 < cLine) (ha : SE X a ma) (hb : SE X b mb) (hs : zii b := by intro _ _; rfl) (hs' : NoSl b := by intro _ _; rfl) : SE X (.Subscript a b pos) (mBin ixA ma mb) :=
 znH (zpG ha hb hs) (show SE X (.Subscript a b pos) (zpn ma mb) from zlR hu ha hb hs')
def dinD (neg : Bool) : G2 := fun k d st => match d with
 | .ref n => (look st n k).map fun r => (.bl (if neg then !r.isSome else r.isSome), st)
 | _ => none
def inA : G2 := orG (orG (inD false) inSD) (dinD false)
def zkC : G2 := orG (inD true) (dinD true)
theorem zlU (hu : X.A.units + 100 < cLine) (ha : SE X a ma) (hb : SE X b mb) (hm : behindInMarks .In b = false := by rfl) : SB X (.Compare a [.In] [b] pos) (mTst (mBin inA ma mb)) :=
 zkc (zbP (zme (zoj hu) zmi) ha hb hm) (show SB X _ (mTst (mDIn false ma mb)) from znO (by omega) ha hb hm)
theorem ziF (hu : X.A.units + 100 < cLine) (ha : SE X a ma) (hb : SE X b mb) (hm : behindInMarks .NotIn b = false := by rfl) : SB X (.Compare a [.NotIn] [b] pos) (mTst (mBin zkC ma mb)) :=
 zkc (zbP (ziQ hu) ha hb hm) (show SB X _ (mTst (mDIn true ma mb)) from ziG (by omega) ha hb hm)
def slA : D→Option Int→Option Int→Sto→Option (D × Sto) := fun x lo hi st => orO (slD x lo hi st) (slS x lo hi st)
def mSlA (m : ME) (l h : MO) : ME := fun ρ st => (m ρ st).bind fun (x, s1) => (l ρ s1).bind fun (lo, s2) => (h ρ s2).bind fun (hi, s3) => slA x lo hi s3
theorem ziC {lo hi : Option Expr} {ml mh : MO} {p2 : Pos} (he : SE X e m) (hl : SO X lo ml) (hu : SO X hi mh) : SE X (.Subscript e (.Slice lo hi none p2) pos) (mSlA m ml mh) := by
 intro pins s σ H Q I ⟨ρ, st, io, d, st', E, S, e0, k⟩
 obtain ⟨⟨x, s1⟩, e1, e0⟩ := zad e0
 obtain ⟨⟨lo', s2⟩, e2, e0⟩ := zad e0
 obtain ⟨⟨hi', s3⟩, e3, e0⟩ := zad e0
 rcases zbY e0 with e0 | e0
 · exact zkb he hl hu pins s σ H Q I ⟨ρ, st, io, d, st', E, S, by simp only [mSl, e1, e2, e3, Option.bind_some]; exact e0, k⟩
 · exact ziB he hl hu pins s σ H Q I ⟨ρ, st, io, d, st', E, S, by simp only [mSlS, e1, e2, e3, Option.bind_some]; exact e0, k⟩
def zin : D→Sto→Option (Wk × Sto)
 | .ref n, s => (zbj s n).map fun ds => (⟨ds, [(n, ds)]⟩, s)
 | .tup ds, s => some (⟨ds, []⟩, s)
 | _, _ => none
def mW (m : ME) : MI := fun ρ st => (m ρ st).bind fun (d, s) => zin d s
theorem zlL {tg l : Expr} (hl : SE X l m) : SI X tg l (mW m) := by
 intro pins s σ H R I ⟨ρ, st, io, W, st', E, S, e0, k⟩
 obtain ⟨⟨d, s1⟩, e1, e0⟩ := zad e0
 cases d with
 | ref n => exact zlM hl pins s σ H R I ⟨ρ, st, io, W, st', E, S, by unfold mWL; rw [e1]; exact e0, k⟩
 | tup ds => exact znE hl pins s σ H R I ⟨ρ, st, io, W, st', E, S, by unfold mWT; rw [e1]; exact e0, k⟩
 | _ => cases e0
def setD : G3 := fun o i v st => match o, i with
 | .ref n, .int k => match st[n]? with
   | some (.lst ds) => (ixN ds.length k).map fun j => st.set n (.lst (ds.set j v))
   | _ => none
 | _, _ => none
theorem zpF : SetM X setD := by
 intro pins s σ H o i v ov iv u Q I ro ri rv ⟨d1, d2, d3, st, io, st', R1, R2, R3, S, e, k⟩
 cases d1 with
 | ref n =>
   cases d2 with
   | int j =>
     unfold setD at e
     dsimp only at e
     split at e
     · rename_i ds e0
       obtain ⟨q, e1, e⟩ := zag e
       cases e
       obtain ⟨p, rfl, hp⟩ := R1
       obtain ⟨ys, hH, r⟩ := S.ob n p _ hp e0
       refine set_list pins s σ H _ _ v ov iv u Q I ro ri rv ⟨p, ys, j, q, rfl, R2, hH, by rw [r.length]; exact e1, ?_⟩
       obtain ⟨E', S'⟩ := zfn (o := .lst (ys.set q v)) (ob := .lst (ds.set q d3)) S hp e0 (fun o u z => by rw [hH] at z; cases z) fun H' T e' => ⟨_, e', (Reps.mono T r).set q (Rep.mono T R3)⟩
       exact k _ [] E' S'
     · cases e
   | _ => cases e
 | _ => cases d2 <;> cases e
def putA (mo mi mv : ME) : MS := fun ρ st => orO (mAsg mv (gSb setD mo mi) ρ st) (zlq mo mi mv ρ st)
theorem zg3 {o i value : Expr} {mo mi mv : ME} {pos' : Pos} (hu : X.A.units + 1 < cLine) (ho : SE X o mo) (hi : SE X i mi) (hv : SE X value mv) (hs : swapsWith value (some (.Subscript o i pos')) pos.line X.env = pure false := by rfl)
   (ha : ∀ v, assign (.Subscript o i pos') X.env v = (do
     let ov ← holding [v] (eval o X.env)
     let iv ← holding [v, ov] (eval i X.env)
     standAt pos'
     holding [v, ov, iv] (setItem ov iv v)
     release [v, ov, iv] []) := by intro _; rfl)
   (hs2 : swapsWithSole [.Subscript o i pos'] value pos.line X.env = pure false := by rfl) (hw : swappedStores [.Subscript o i pos'] value X.env = pure none := by rfl)
   (h1 : (assignEach [.Subscript o i pos'] X.env).map (·.2) = [assign (.Subscript o i pos') X.env] := by rfl) : SS X (.Assign [.Subscript o i pos'] value pos) (putA mo mi mv) := by
 intro pins s σ H N I h
 obtain ⟨ρ, st, io, f, st', E, S, e, w⟩ := zcI.mp h
 rcases zbY e with e | e
 · exact zj6 hv (znG ho hi zpF ha) hs2 hw h1 pins s σ H N I (zlk E S e w)
 · exact zlG hu ho hi hv hs pins s σ H N I (zlk E S e w)
def mPar (i j : Nat) (mm : MA) : MS := fun ρ st => (mm ρ st).bind fun (xs, s) => match xs with
 | [x, y] => some (.nx ((ρ.set i (some x)).set j (some y)), s)
 | _ => none
theorem zny {i j : Nat} {x y : Str} {px py pt : Pos} {kt k2 pt2} (hc : X.calm = true) (hN : X.N.Nodup) (hi : X.N[i]? = some x) (hj : X.N[j]? = some y) (hij : i ≠ j)
   (hx : X.env.scope.names.lookup x = some .local) (hy : X.env.scope.names.lookup y = some .local) (ha : SA X [a, b] mm)
   (hw : swappedStores [.Tuple [.Name x px, .Name y py] kt pt] (.Tuple [a, b] k2 pt2) X.env = pure (some [x, y]) := by rfl)
   (hs : swapsWithSole [.Tuple [.Name x px, .Name y py] kt pt] (.Tuple [a, b] k2 pt2) pos.line X.env = pure false := by rfl) :
   SS X (.Assign [.Tuple [.Name x px, .Name y py] kt pt] (.Tuple [a, b] k2 pt2) pos) (mPar i j mm) := PS.imp (znW hc hN hi hj hij hx hy ha hw hs) fun N σ H h => by
 obtain ⟨ρ, st, io, f, st', E, S, e, w⟩ := zcI.mp h
 obtain ⟨⟨xs, s1⟩, e1, e⟩ := zad e
 match xs, e, e1 with
 | [u, v], e, e1 =>
   cases e
   refine ⟨ρ, st, io, _, _, E, S, e1, fun vs H1 k1 X1 S1 R1 => ?_⟩
   obtain ⟨p, q, rfl, r1, r2⟩ := R1.two
   exact ⟨p, q, rfl, w _ H1 k1 X1 S1 (((E.ext S X1).set i r1).set j r2)⟩
def zbr (P : Program) (w : World) (K : PySem.W.Frag) (mg : Str→Option Value) (base : Heap) (k : Nat) (x : Str) (n : Nat) (g : GN) : Prop :=
 ∃ f fd ps, FnOk P w K mg base CX0 k f fd ps (spM K n g)∧mg x = some (.ref f)∧PySem.W.keepIn K (.ref f) = true∧Binds K fd ps []
def zam (n : Nat) (mm : MA) : Prop := ∀ ρ st xs s, mm ρ st = some (xs, s)→xs.length = n
theorem zam.nil : zam 0 mNil := fun _ _ _ _ h => zkI h
theorem zam.cons {n : Nat} (h : zam n mm) : zam (n + 1) (zae m mm) := fun _ _ _ _ q => ziZ h q
theorem zak {x : Str} {p : Pos} {k n : Nat} {g : GN} (F : zbr X.prog X.w X.K X.mg X.base k x n g) (hr : Room k X.A) (hg : Gl X x) (ha : SA X (e :: es) mm) (hl : zam n mm) (hdb : (x == ("__debug__" : Str)) = false := by decide)
   (he : starEach (e :: es) X.env = (false, eval e X.env) :: starEach es X.env := by rfl) (hpl : (backTo pos (starEach es X.env)).any (·.1) = false := by rfl) (hn : (e :: es).length = n := by rfl) :
   SE X (.Call (.Name x p) (e :: es) [] pos) (zau g mm) := by
 obtain ⟨f, fd, ps, F, hm, hk, hb⟩ := F
 exact zlS F hr hg hm hk hb ha hdb he hpl hn hl
def Laid (K : PySem.W.Frag) (mg : Str→Option Value) (x : Str) (st : Stmt) (ps : List Str) : Prop := ∃ f fd, Fun K x x st f fd∧mg x = some (.ref f)∧Binds K fd ps []
theorem zbQ {P : Program} {w : World} {mg : Str→Option Value} {base : Heap} {x : Str} {st : Stmt} {N ps : List Str} {k : Nat} {m : MS} (L : Laid K mg x st ps) (S : FnScope N ps (zaj st))
   (hbody : ∀ (f : Addr) (cdv : Value) (A : Around) (outer : List Env) (s : Shared) (H : Hp) (E : XK), Room k (A.deeper (envOfC x (zaj st) s.heap.objs.size f cdv)) →
     SSs (cxOf CX0 P w K mg base N x (zaj st) f cdv A outer s H E).nox (zaI st) m) : zbr P w K mg base (k + 1) x ps.length (fnM N.length m) := by
 obtain ⟨f, fd, F, hm, hb⟩ := L
 exact ⟨f, fd, ps, fn_m F S (hbody f), hm, F.kp, hb⟩
end
end L2.MP
namespace L2.MP
open PySem PySem.Spec PyProof.Rows
section
variable {prog : Program} {w : World} {A : Around} {E : Value→Shared→Prop} {s : Shared}
theorem zix {at_ : Addr} {v : Value} {k : Nat} {R : PySem.Fin→Shared→Prop} (g0 : s.heap.get? at_ = some (seqObj "list" #[v] k)) (fin : R (.done (.ret .none)) { s with heap := sortedHeap s.heap at_ [v] #[v] }) :
   wpAny (model prog w) A (Builtin.«list.sort» ⟨[.ref at_], []⟩) R E s := by
 have lt0 := Heap.lt_size g0
 obtain ⟨ep, g1⟩ : ∃ ep, (s.heap.update at_ (Obj.mapSeq fun _ => (#[] : Array Value))).get? at_ = some (seqObj "list" #[] ep) := ⟨_, get?_update_seq g0 fun _ => #[]⟩
 have g2 : (((s.heap.update at_ (Obj.mapSeq fun _ => (#[] : Array Value))).push (seqObj "tuple" #[v] 0)).push (seqObj "list" #[] 0)).get? at_ = some (seqObj "list" #[] ep) := Heap.get?_push_of_some _ (Heap.get?_push_of_some _ g1)
 rw [list_sort_plain]
 refine wpAny_bind (listItems_at g0 rfl (wpAny_bind (listUpdate_at g0 rfl (wpAny_bind (seqEpoch_at g1 rfl (wpAny_bind (wpAny_newTuple (wpAny_bind (wpAny_newList (wpAny_holding ?_))))))))))
 show wpAny (model prog w) A _ R E { s with heap := ((s.heap.update at_ (Obj.mapSeq fun _ => (#[] : Array Value))).push (seqObj "tuple" #[v] 0)).push (seqObj "list" #[] 0) }
 have two : (#[v] : Array Value).size < 2 := by show 1 < 2; decide
 have same : (arrOf (SortSt.mk' general' ((#[v] : Array Value).zip #[v]) #[] 7 none)).map (·.2) = #[v] := by
   show (((#[v] : Array Value).zip #[v]).map (·.2)) = #[v]
   simp
 dsimp only
 rw [if_pos two, if_pos two]
 refine wpAny_bind (wpAny_pure ?_)
 rw [StateT.run_pure]
 refine wpAny_bind (wpAny_pure ?_)
 dsimp only
 rw [same]
 refine wpAny_bind (seqEpoch_at g2 rfl (wpAny_bind (listUpdate_at g2 rfl ?_)))
 simp only [bne_self_eq_false, Bool.false_eq_true, if_false]
 exact wpAny_pure fin
theorem zgv {l : Addr} {v : Value} {R : Value→Shared→Prop} (hl : s.heap.IsList l [v].toArray) (fin : R (.ref (s.heap.objs.size + 1)) { s with heap := sortedAll s.heap [v] #[v] }) :
   wpAny (model prog w) A (call (.builtin "sorted") [.ref l]) R E s := by
 have sz : ((s.heap.push (seqObj "list" #[] 0)).update s.heap.objs.size (Obj.mapSeq (· ++ [v].toArray))).objs.size = s.heap.objs.size + 1 := (Heap.size_update ..).trans (size_push' ..)
 have g0 : (((s.heap.push (seqObj "list" #[] 0)).update s.heap.objs.size (Obj.mapSeq (· ++ [v].toArray))).push (seqObj "list" [v].toArray 0)).get? (s.heap.objs.size + 1) = some (seqObj "list" [v].toArray 0) := by
   rw [← sz]
   exact Heap.get?_push_size _ rfl
 refine Calls.call_function_entry kind_sorted plain_sorted entry_sorted (args_sorted1 _) ?_
 unfold Builtin.«sorted»
 refine wpAny_bind (m := checkCount "sorted" 1 1 _) (wpAny_pure (wpAny_bind (collect_list hl (wpAny_bind (wpAny_newList ?_)))))
 show wpAny _ _ _ _ _ { s with heap := ((s.heap.push (seqObj "list" #[] 0)).update s.heap.objs.size (Obj.mapSeq (· ++ [v].toArray))).push (seqObj "list" [v].toArray 0) }
 rw [sz]
 exact wpAny_bind (wpAny_holding (wpAny_call_entry slot_list_sort ⟨_, g0, rfl⟩ entry_list_sort (zix g0 ⟨_, rfl, wpAny_pure ⟨_, rfl, fin⟩⟩) (args_list_sort _)))
end
section
variable {X : Cx} {K : PySem.W.Frag} {H : Hp} {io : List Addr} {st st' : Sto}
def zdi : GN
 | [.ref n], st => (zbj st n).bind fun ds => if decide (ds.length = 1) = true then some (.ref st.length, st ++ [.lst ds]) else none
 | _, _ => none
theorem ze2 : zdC X (.builtin "sorted") zdi := by
 intro pins s σ H xs us Q I r ⟨ds, st, io, d, st', R, S, e, k⟩
 unfold zdi at e
 split at e
 · rename_i n
   obtain ⟨zs, e0, e⟩ := zad e
   obtain ⟨hl, e⟩ := zao e
   cases e
   obtain ⟨y, rfl⟩ := List.length_eq_one_iff.mp (of_decide_eq_true hl)
   obtain ⟨v, rfl, p, rfl, hp⟩ := R.one
   obtain ⟨u, rfl, ru⟩ := r.one
   cases ru
   obtain ⟨ys, hx, r1⟩ := zaX S hp e0
   obtain ⟨its, rv, pl, hz⟩ := I.list hx
   obtain ⟨y', rfl, ry⟩ := r1.one
   obtain ⟨i, rfl, ri⟩ := rv.one
   refine zgv pl.isList ?_
   obtain ⟨ep, hat⟩ := sortedAll_at s.heap [i] #[i]
   have hfree : H (s.heap.objs.size + 1) = none := I.hok.fresh (Nat.le_succ _)
   refine ⟨.ref (s.heap.objs.size + 1), upd H (s.heap.objs.size + 1) (.lst [y']), I.laid (t' := s.toks) (a := s.heap.objs.size + 1) (fun b o q => sortedAll_old q) (Nat.le_succ _) ⟨by show 1 ≤ sizeLine; decide, [i], ep, rv, by simpa using hat⟩, rfl, ?_⟩
   exact k.lst S r1 hfree
 · cases e
def zb6 : GN := orN zcn (orN zdi zd2)
theorem zcs : zdC X (.builtin "sorted") zb6 := zeu ze0 (zeu ze2 zeZ)
end
end L2.MP
namespace L2.MP
open PySem PySem.Spec PyProof.Rows
section
variable {X : Cx} {pins : List (Addr × Obj)} {σ : L2.St} {H : Hp} {s : Shared}
theorem Inv.freeze {d : Addr} {o : Obj} {u : HO} (I : Inv X pins σ H s) (hd : H d = some u) (g : s.heap.get? d = some o) (n1 : ∀ xs, u ≠ .tup xs) (n2 : ∀ x, u ≠ .own x) (n3 : ∀ o w, u ≠ .frz o w) (n4 : ∀ ps, u ≠ .tbl ps) : Inv X pins σ (upd H d (.frz o u)) s := by
 have ne : ∀ {b : Addr} {v : HO}, H b = some v→v ≠ u→b ≠ d := fun {b v} q nv z => by
   subst z
   rw [hd] at q
   exact nv (Option.some.inj q).symm
 refine Inv.step (h' := s.heap) (t' := s.toks) (g' := s.gens) (d' := s.drawn) (ch := []) I (fun _ z => nomatch z) (fun b v _ _ _ q _ => q) (fun b v _ _ _ q _ => ⟨v.slots, q⟩) (fun b v _ q n => ?_) (fun b v _ q => ⟨v, q⟩) (fun b xs q => ?_) (fun b v w q => ?_) (fun b ps q => ⟨#[], ?_⟩) (fun m hm => hm) (fun b v q => ?_) I.bare
 · have : b ≠ d := fun z => by
     rw [z, hd] at n
     cases n
   rw [zay this]
   exact n
 · rw [zay (ne q (fun z => n1 xs z.symm))]; exact q
 · rw [zay (ne q (fun z => n3 v w z.symm))]; exact q
 · rw [zay (ne q (fun z => n4 ps z.symm)), q]
   simp
 · by_cases hb : b = d
   · subst hb
     rw [zbi] at q
     cases q
     refine ⟨g, ?_⟩
     exact (I.hok b u hd).stay (fun c x _ y => y) (fun c y => by rw [zay (ne y (fun z => n2 b z.symm))]; exact y) fun c xs y => by rw [zay (ne y (fun z => n1 xs z.symm))]; exact y
   · rw [zay hb] at q
     exact (I.hok b v q).stay (fun c x _ y => y) (fun c y => by rw [zay (ne y (fun z => n2 b z.symm))]; exact y) fun c xs y => by rw [zay (ne y (fun z => n1 xs z.symm))]; exact y
end
end L2.MP
namespace L2.MP
open PySem PySem.Spec PyProof.Rows
theorem zh3 {P : Program} {w : World} {H : Hp} {h : Heap} {d : Addr} {o : Obj} {ps : List (List Key × V)} {es : Array DictEntry} {ep : Nat} (x : zc5 P w H h d (.frz o (.dT ps))) (dd : o.data = .dict es ep) :
   h.get? d = some o∧es.size = ps.length∧∀ (i : Nat) (k : List Key) (v : V), ps[i]? = some (k, v)→∃ (en : DictEntry) (b : Addr), es[i]? = some en∧en.key = .ref b∧H b = some (.tup (k.map kV))∧RelV v en.val := by
 obtain ⟨g, z, y, xs, r, o', es', ep', g', ex, dd', et, nd⟩ := x
 rw [g] at g'
 cases g'
 rw [dd] at dd'
 cases dd'
 have hl : es.size = ps.length := by
   have h1 := congrArg List.length et
   have h2 := Paired.length r
   simp at h1
   omega
 refine ⟨g, hl, fun i k v hi => ?_⟩
 have get : ∀ {l : List (List Key × V)} {m : List (List Key × Addr × Value)} {i : Nat}, Paired (fun (p : List Key × V) (q : List Key × Addr × Value) => p.1 = q.1∧H q.2.1 = some (.tup (p.1.map kV))∧RelV p.2 q.2.2) l m→l[i]? = some (k, v)→∃ q, m[i]? = some q∧H q.2.1 = some (.tup (k.map kV))∧RelV v q.2.2 := by
   intro l m i q
   induction q generalizing i with
   | nil => intro e; simp at e
   | cons h t ih =>
     cases i with
     | zero =>
       intro e
       simp at e
       subst e
       exact ⟨_, rfl, h.2.1, h.2.2⟩
     | succ j => intro e; exact ih (by simpa using e)
 obtain ⟨q, hq, h1, h2⟩ := get r hi
 have he : es[i]? = some (entryOfKey (tupleKind (zaw P w)) q) := by
   have : es.toList[i]? = some (entryOfKey (tupleKind (zaw P w)) q) := by rw [et, List.getElem?_map, hq]; rfl
   simpa using this
 exact ⟨_, q.2.1, he, rfl, h1, h2⟩
section
variable {X : Cx} {K : PySem.W.Frag} {H : Hp} {io : List Addr} {m : ME} {st st' : Sto}
def keyD : Key→D
 | .inl i => .int i
 | .inr x => .str x
theorem zfD : ∀ (ks : List Key), Reps K H io (ks.map kV) (ks.map keyD)
 | [] => rfl
 | .inl i :: r => ⟨_, _, rfl, rfl, zfD r⟩
 | .inr x :: r => ⟨_, _, rfl, rfl, zfD r⟩
end
end L2.MP
namespace L2.MP
open PySem PySem.Spec PyProof.Rows
inductive Sr where
 | l (a : Addr) | t (a : Addr)
def Sr.ad : Sr→Addr
 | .l a => a
 | .t a => a
def Sr.ob : Sr→Obj
 | .l a => { cls := .type "list_iterator", data := .fields #[.ref a, .int 0 0] }
 | .t a => { cls := .type "tuple_iterator", data := .fields #[.ref a, .int 0 0] }
def Sr.is (h : Heap) (xs : Array Value) : Sr→Prop
 | .l a => h.IsList a xs
 | .t a => IsTup h a xs
def Sr.at_ (h : Heap) (i : Addr) (k : Nat) : Sr→Prop
 | .l a => h.IsListIter i a k
 | .t a => IsTupIter h i a k
theorem Sr.is_keep {h h' : Heap} {xs : Array Value} {x : Sr} (q : x.is h xs) (k : ∀ u, h.get? x.ad = some u→h'.get? x.ad = some u) : x.is h' xs := by
 cases x with
 | l a => exact Heap.IsList.at q k
 | t a => obtain ⟨o, g, c⟩ := q; exact ⟨o, k o g, c⟩
theorem Sr.at_keep {h h' : Heap} {i : Addr} {n : Nat} {x : Sr} (q : x.at_ h i n) (k : ∀ u, h.get? i = some u→h'.get? i = some u) : x.at_ h' i n := by
 cases x with
 | l a => exact Heap.IsListIter.at q k
 | t a => obtain ⟨o, g, c⟩ := q; exact ⟨o, k o g, c⟩
theorem Sr.at_get {h : Heap} {i : Addr} {n : Nat} {x : Sr} (q : x.at_ h i n) : ∃ o vs, h.get? i = some o∧o.data = .fields vs := by
 cases x with
 | l a => obtain ⟨o, g, c, d⟩ := q; exact ⟨o, _, g, d⟩
 | t a => obtain ⟨o, g, c, d⟩ := q; exact ⟨o, _, g, d⟩
section
variable {prog : Program} {w : World} {A : Around} {E : Value→Shared→Prop} {s : Shared}
theorem Sr.iter {x : Sr} {xs : Array Value} {R : Value→Shared→Prop} (h : x.is s.heap xs) (k : R (.ref s.heap.objs.size) { s with heap := s.heap.push x.ob }) : wpAny (model prog w) A (pyIter (.ref x.ad)) R E s := by
 cases x with
 | l a => exact wpAny_pyIter_list h k
 | t a => exact iter_tuple h k
theorem zhs {it a : Addr} {i : Nat} {xs : Array Value} {v : Value} {R : Value→Shared→Prop} (hit : IsTupIter s.heap it a i) (ht : IsTup s.heap a xs) (hx : xs[i]? = some v)
   (k : ∀ h', IsTupIter h' it a (i + 1)→Heap.SameBut it s.heap h'→R v { s with heap := h' }) : wpAny (model prog w) A (Builtin.SmallTypes.nextOf (.ref it)) R E s := by
 obtain ⟨ro, rg, rc, rd⟩ := id hit
 obtain ⟨to, tg, _, tn, td⟩ := ht
 unfold Builtin.SmallTypes.nextOf
 refine wpAny_bind (wpAny_callSpecial?_slot (name := Str.ofString "__next__") hit.typeIs slot_tupleiter_next (wpAny_call_entry slot_tupleiter_next hit.typeIs entry_tupleiter_next ?_ (args_tupleiter_next _)))
 show wpAny _ _ (field (.ref it) 0 >>= _) _ _ s
 refine wpAny_bind (wpAny_field rg rd (x := .ref a) rfl ?_)
 show wpAny _ _ (if (Value.ref a == Value.none) = true then _ else _) _ _ s
 rw [if_neg (show ¬ (Value.ref a == Value.none) = true from fun z => Bool.false_ne_true z)]
 show wpAny _ _ (field (.ref it) 1 >>= _) _ _ s
 refine wpAny_bind (wpAny_field rg rd (x := .int i 0) rfl ?_)
 show wpAny _ _ (seqItems? (.ref a) >>= _) _ _ s
 refine wpAny_bind (wpAny_seqItems tg td ?_)
 simp only [Int.toNat_natCast, hx]
 refine wpAny_bind (wpAny_setField rg rd (by simp) (wpAny_pure ⟨v, rfl, wpAny_pure (k _ ⟨_, Heap.get?_update_self _ rg (Obj.isFreed_of_fields (Obj.data_mapFields rd _)), (Obj.cls_mapFields ..).trans rc, ?_⟩ (Heap.SameBut.update ..))⟩))
 rw [Obj.data_mapFields rd]
 simp [rawInt]
theorem zep {it a : Addr} {i : Nat} {xs : Array Value} {R : Value→Shared→Prop} (hh : A.handled = none) (hit : IsTupIter s.heap it a i) (ht : IsTup s.heap a xs) (hx : xs[i]? = none)
   (k : ∀ h' e, Heap.ExtBut it s.heap h'→(∃ o, h'.get? e = some o∧o.cls = .type "StopIteration")→E (.ref e) { s with heap := h' }) : wpAny (model prog w) A (Builtin.SmallTypes.nextOf (.ref it)) R E s := by
 obtain ⟨ro, rg, rc, rd⟩ := id hit
 obtain ⟨to, tg, _, tn, td⟩ := ht
 unfold Builtin.SmallTypes.nextOf
 refine wpAny_bind (wpAny_callSpecial?_slot (name := Str.ofString "__next__") hit.typeIs slot_tupleiter_next (wpAny_call_entry slot_tupleiter_next hit.typeIs entry_tupleiter_next ?_ (args_tupleiter_next _)))
 show wpAny _ _ (field (.ref it) 0 >>= _) _ _ s
 refine wpAny_bind (wpAny_field rg rd (x := .ref a) rfl ?_)
 show wpAny _ _ (if (Value.ref a == Value.none) = true then _ else _) _ _ s
 rw [if_neg (show ¬ (Value.ref a == Value.none) = true from fun z => Bool.false_ne_true z)]
 show wpAny _ _ (field (.ref it) 1 >>= _) _ _ s
 refine wpAny_bind (wpAny_field rg rd (x := .int i 0) rfl ?_)
 show wpAny _ _ (seqItems? (.ref a) >>= _) _ _ s
 refine wpAny_bind (wpAny_seqItems tg td ?_)
 simp only [Int.toNat_natCast, hx]
 refine wpAny_bind (wpAny_rule (wpAny_bind (wpAny_setField rg rd (by simp) ?_)))
 show wpAny _ _ (newExc (.type "StopIteration") [] >>= _) _ _ _
 simp only [newExc, newTuple]
 refine wpAny_bind (wpAny_bind (wpAny_newObj_type (wpAny_bind (m := firstArgMember _ _) (wpAny_of_eq (a := Value.none) (by first | rfl | (simp only [firstArgMember]; rfl)) (wpAny_newObj_type ?_ (by size_fits)))) (by size_fits)))
 simp only [raiseNew]
 refine wpAny_bind (wpAny_handled ?_)
 first | rw [show A.in1.handled = none from hh] | rw [hh]
 refine wpAny_bind (wpAny_pure (wpAny_throw ?_))
 exact k _ _ (((Heap.SameBut.update ..).extBut.push _).push _) ⟨_, Heap.get?_push_size _ rfl, rfl⟩
theorem Sr.next {x : Sr} {it : Addr} {i : Nat} {xs : Array Value} {v : Value} {R : Value→Shared→Prop} (hit : x.at_ s.heap it i) (h : x.is s.heap xs) (hx : xs[i]? = some v) (k : ∀ h', x.at_ h' it (i + 1)→Heap.SameBut it s.heap h'→R v { s with heap := h' }) :
   wpAny (model prog w) A (Builtin.SmallTypes.nextOf (.ref it)) R E s := by
 cases x with
 | l a => exact wpAny_nextOf_list_item hit h hx k
 | t a => exact zhs hit h hx k
theorem Sr.stop {x : Sr} {it : Addr} {i : Nat} {xs : Array Value} {R : Value→Shared→Prop} (hh : A.handled = none) (hit : x.at_ s.heap it i) (h : x.is s.heap xs) (hx : xs[i]? = none)
   (k : ∀ h' e, Heap.ExtBut it s.heap h'→(∃ o, h'.get? e = some o∧o.cls = .type "StopIteration")→E (.ref e) { s with heap := h' }) : wpAny (model prog w) A (Builtin.SmallTypes.nextOf (.ref it)) R E s := by
 cases x with
 | l a => exact wpAny_nextOf_list_end hh hit h hx k
 | t a => exact zep hh hit h hx k
end
theorem Sr.at_new {h : Heap} {x : Sr} {i : Addr} (g : h.get? i = some x.ob) : x.at_ h i 0 := by
 cases x with
 | l a => exact ⟨_, g, rfl, rfl⟩
 | t a => exact ⟨_, g, rfl, rfl⟩
abbrev zp1 (h : Heap) (x : Sr) : Heap := h.push x.ob
abbrev zp2 (h : Heap) (x y : Sr) : Heap := (zp1 h x).push y.ob
abbrev zp3 (h : Heap) (x y : Sr) : Heap := (zp2 h x y).push { cls := .type "tuple", data := .seq #[.ref h.objs.size, .ref (zp1 h x).objs.size] }
abbrev zp4 (h : Heap) (x y : Sr) : Heap := (zp3 h x y).push { cls := .type "tuple", data := .seq #[.none, .none] }
abbrev zp5 (h : Heap) (x y : Sr) : Heap := (zp4 h x y).push { cls := .type "zip", data := .fields #[.none, .bool false, .bool false, .ref (zp2 h x y).objs.size, .ref (zp3 h x y).objs.size] }
theorem zil (x y : Sr) (xs ys : Array Value) : Meets (Builtin.«zip.__new__» ⟨[.type "zip", .ref x.ad, .ref y.ad], []⟩) (fun _ R s => x.is s.heap xs∧y.is s.heap ys∧R (.ok (.ret (.ref (zp4 s.heap x y).objs.size))) { s with heap := zp5 s.heap x y }) :=
 .of_wp fun prog w A R s h => by
   obtain ⟨hp, g, d, tk, os⟩ := s
   obtain ⟨h1, h2, h⟩ := h
   have hsub := sub_zip
   have hx : x.is (Shared.heap ⟨hp, g, d, tk, os⟩) xs := h1
   have hy : y.is (Shared.heap ⟨hp.push x.ob, g, d, tk, os⟩) ys := Sr.is_keep h2 fun u q => Heap.get?_push_of_some _ q
   wp_walk using Sr.iter hx, Sr.iter hy
   exact ⟨_, rfl, h⟩
end L2.MP
namespace L2.MP
open PySem PySem.Spec PyProof.Rows
structure Zp (z TI TO i j : Addr) : Prop where
 TIz : TI ≠ z
 TOz : TO ≠ z
 iz : i ≠ z
 jz : j ≠ z
 TIO : TI ≠ TO
 TIi : TI ≠ i
 TIj : TI ≠ j
 TOi : TO ≠ i
 TOj : TO ≠ j
 ij : i ≠ j
theorem neq {a b : Nat} (h : a ≠ b) : (show Addr from a) ≠ (show Addr from b) := h
theorem Zp.new (n : Nat) : Zp (n + 4) (n + 2) (n + 3) n (n + 1) := ⟨neq (by omega), neq (by omega), neq (by omega), neq (by omega), neq (by omega), neq (by omega), neq (by omega), neq (by omega), neq (by omega), neq (by omega)⟩
section
variable {prog : Program} {w : World} {A : Around} {E : Value→Shared→Prop} {s : Shared}
theorem zji {x y : Sr} {xs ys : Array Value} {R : Value→Shared→Prop} (hx : x.is s.heap xs) (hy : y.is s.heap ys)
   (k : ∀ h', IsZip h' (s.heap.objs.size + 4) (s.heap.objs.size + 2) (s.heap.objs.size + 3) .none→IsPair h' (s.heap.objs.size + 2) (.ref s.heap.objs.size) (.ref (s.heap.objs.size + 1))→IsPair h' (s.heap.objs.size + 3) .none .none →
     x.at_ h' s.heap.objs.size 0→y.at_ h' (s.heap.objs.size + 1) 0→(∀ c u, s.heap.get? c = some u→h'.get? c = some u)→R (.ref (s.heap.objs.size + 4)) { s with heap := h' }) : wpAny (model prog w) A (call (.type "zip") [.ref x.ad, .ref y.ad]) R E s := by
 refine callType_new F.called_zip (by decide) (F.typeCall_zip_2 _ _) (F.newCall_zip_2 _ _) (fun obj => F.args_object_init_3 obj _ _) F.entry_zip_new (zil x y xs ys) ⟨hx, hy, ?_⟩
 have e1 : (zp1 s.heap x).objs.size = s.heap.objs.size + 1 := Heap.size_push ..
 have e2 : (zp2 s.heap x y).objs.size = s.heap.objs.size + 2 := (Heap.size_push ..).trans (by rw [e1])
 have e3 : (zp3 s.heap x y).objs.size = s.heap.objs.size + 3 := (Heap.size_push ..).trans (by rw [e2])
 have e4 : (zp4 s.heap x y).objs.size = s.heap.objs.size + 4 := (Heap.size_push ..).trans (by rw [e3])
 have up : ∀ c u, (zp1 s.heap x).get? c = some u→(zp5 s.heap x y).get? c = some u := fun c u q => Heap.get?_push_of_some _ (Heap.get?_push_of_some _ (Heap.get?_push_of_some _ (Heap.get?_push_of_some _ q)))
 have f5 : (zp5 s.heap x y).get? (zp4 s.heap x y).objs.size = some { cls := .type "zip", data := .fields #[.none, .bool false, .bool false, .ref (zp2 s.heap x y).objs.size, .ref (zp3 s.heap x y).objs.size] } := Heap.get?_push_size _ rfl
 have f4 : (zp5 s.heap x y).get? (zp3 s.heap x y).objs.size = some { cls := .type "tuple", data := .seq #[.none, .none] } := Heap.get?_push_of_some _ (Heap.get?_push_size _ rfl)
 have f3 : (zp5 s.heap x y).get? (zp2 s.heap x y).objs.size = some { cls := .type "tuple", data := .seq #[.ref s.heap.objs.size, .ref (zp1 s.heap x).objs.size] } := Heap.get?_push_of_some _ (Heap.get?_push_of_some _ (Heap.get?_push_size _ rfl))
 have f2 : (zp5 s.heap x y).get? (zp1 s.heap x).objs.size = some y.ob := Heap.get?_push_of_some _ (Heap.get?_push_of_some _ (Heap.get?_push_of_some _ (Heap.get?_push_size _ (by cases y <;> rfl))))
 have f1 : (zp5 s.heap x y).get? s.heap.objs.size = some x.ob := up _ _ (Heap.get?_push_size _ (by cases x <;> rfl))
 rw [e2, e3, e4] at f5
 rw [e1, e2] at f3
 rw [e3] at f4
 rw [e1] at f2
 show _∧_
 rw [e4]
 exact ⟨⟨_, f5, rfl⟩, k _ f5 f3 f4 (Sr.at_new f1) (Sr.at_new f2) fun c u q => up c u (Heap.get?_push_of_some _ q)⟩
theorem zj0 {z TI TO i j : Addr} {x y : Sr} {n m : Nat} {xs ys : Array Value} {u v a b : Value} {R : Option Value→Shared→Prop} (D : Zp z TI TO i j) (xz : x.ad ≠ z∧x.ad ≠ TO∧x.ad ≠ i∧x.ad ≠ j) (yz : y.ad ≠ z∧y.ad ≠ TO∧y.ad ≠ i∧y.ad ≠ j)
   (hz : IsZip s.heap z TI TO .none) (hTI : IsPair s.heap TI (.ref i) (.ref j)) (hTO : IsPair s.heap TO a b) (hi : x.at_ s.heap i n) (hj : y.at_ s.heap j m) (hx : x.is s.heap xs) (hy : y.is s.heap ys) (gx : xs[n]? = some u) (gy : ys[m]? = some v)
   (k : ∀ h', IsZip h' z TI TO (rawInt s.heap.objs.size)→IsPair h' TI (.ref i) (.ref j)→IsPair h' TO u v→x.at_ h' i (n + 1)→y.at_ h' j (m + 1)→IsPair h' s.heap.objs.size u v →
     (∀ c o, c ≠ z→c ≠ TO→c ≠ i→c ≠ j→s.heap.get? c = some o→h'.get? c = some o)→R (some (.ref s.heap.objs.size)) { s with heap := h' }) : wpAny (model prog w) A (pyNext (.ref z)) R E s := by
 have ty : s.TypeIs (.ref z) "zip" := ⟨_, hz, rfl⟩
 unfold pyNext
 refine wpAny_bind (wpAny_attempt (wpAny_callSpecial?_slot (name := Str.ofString "__next__") ty F.slot_zip_next (wpAny_call_entry F.slot_zip_next ty F.entry_zip_next ?_ (F.args_zip_next_1 _))))
 show wpAny _ _ (field (.ref z) 2 >>= _) _ _ _
 refine wpAny_bind (wpAny_field hz rfl (x := .bool false) rfl ?_)
 show wpAny _ _ (field (.ref z) 3 >>= _) _ _ _
 refine wpAny_bind (wpAny_field hz rfl (x := .ref TI) rfl (wpAny_bind (wpAny_seqItems hTI rfl ?_)))
 show wpAny _ _ (Builtin.SmallTypes.ownedTupleIsFree (.ref z) >>= _) _ _ _
 unfold Builtin.SmallTypes.ownedTupleIsFree
 refine wpAny_bind (wpAny_bind (wpAny_field hz rfl (x := .none) rfl (wpAny_pure ?_)))
 simp only [if_true]
 refine wpAny_bind (wpAny_rule (wpAny_bind (wpAny_field hz rfl (x := .ref TO) rfl (wpAny_bind (wpAny_setField_rec hz (by simp) fun g1 z1 s1 => ?_)))))
 replace z1 : IsZip g1 z TI TO .ellipsis := z1
 have k1 : ∀ c o, c ≠ z→s.heap.get? c = some o→g1.get? c = some o := fun c o nc q => s1.extBut c o nc q
 simp only [List.zipIdx_cons, List.zipIdx_nil, List.forIn_cons, List.forIn_nil]
 refine wpAny_bind (wpAny_bind (wpAny_bind (wpAny_onRaise ?_)))
 show wpAny _ _ (Builtin.SmallTypes.nextOf (.ref i) >>= _) _ _ _
 refine wpAny_bind (Sr.next (Sr.at_keep hi fun o q => k1 _ o D.iz q) (Sr.is_keep hx fun o q => k1 _ o xz.1 q) gx fun g2 i2 s2 => wpAny_pure ?_)
 have k2 : ∀ c o, c ≠ z→c ≠ i→s.heap.get? c = some o→g2.get? c = some o := fun c o nc ni q => s2.extBut c o ni (k1 c o nc q)
 have o2 : IsPair g2 TO a b := k2 _ _ D.TOz D.TOi hTO
 refine wpAny_bind (wpAny_seqItems o2 rfl (wpAny_bind (wpAny_updateSeq_pair o2 fun g3 o3 s3 => (wpAny_bind (wpAny_letGo (wpAny_pure ?_))))))
 replace o3 : IsPair g3 TO u b := o3
 have k3 : ∀ c o, c ≠ z→c ≠ i→c ≠ TO→s.heap.get? c = some o→g3.get? c = some o := fun c o nc ni nt q => s3.extBut c o nt (k2 c o nc ni q)
 refine wpAny_bind (wpAny_bind (wpAny_onRaise ?_))
 show wpAny _ _ (Builtin.SmallTypes.nextOf (.ref j) >>= _) _ _ _
 refine wpAny_bind (Sr.next (Sr.at_keep hj fun o q => k3 _ o D.jz D.ij.symm D.TOj.symm q) (Sr.is_keep hy fun o q => k3 _ o yz.1 yz.2.2.1 yz.2.1 q) gy fun g4 j4 s4 => wpAny_pure ?_)
 have o4 : IsPair g4 TO u b := s4.extBut _ _ D.TOj o3
 refine wpAny_bind (wpAny_seqItems o4 rfl (wpAny_bind (wpAny_updateSeq_pair o4 fun g5 o5 s5 => (wpAny_bind (wpAny_letGo (wpAny_pure (wpAny_pure ?_)))))))
 replace o5 : IsPair g5 TO u v := o5
 refine wpAny_bind (wpAny_seqItems o5 rfl (wpAny_bind (wpAny_newTuple ?_)))
 have sz : g5.objs.size = s.heap.objs.size := by rw [s5.1, s4.1, s3.1, s2.1, s1.1]
 have z5 : IsZip g5 z TI TO .ellipsis := s5.extBut _ _ D.TOz.symm (s4.extBut _ _ D.jz.symm (s3.extBut _ _ D.TOz.symm (s2.extBut _ _ D.iz.symm z1)))
 have k5 : ∀ c o, c ≠ z→c ≠ TO→c ≠ i→c ≠ j→s.heap.get? c = some o→g5.get? c = some o := fun c o c1 c2 c3 c4 q => s5.extBut c o c2 (s4.extBut c o c4 (k3 c o c1 c3 c2 q))
 have i5 : x.at_ g5 i (n + 1) := Sr.at_keep i2 fun o q => s5.extBut _ _ D.TOi.symm (s4.extBut _ _ D.ij (s3.extBut _ _ D.TOi.symm q))
 have j5 : y.at_ g5 j (m + 1) := Sr.at_keep j4 fun o q => s5.extBut _ _ D.TOj.symm q
 have lz : z < g5.objs.size := Heap.lt_size z5
 show wpAny _ _ (Builtin.SmallTypes.ownedTupleHandOut (.ref z) (.ref g5.objs.size) >>= _) _ _ _
 unfold Builtin.SmallTypes.ownedTupleHandOut
 have z6 : IsZip (g5.push { cls := .type "tuple", data := .seq #[u, v] }) z TI TO .ellipsis := Heap.get?_push_of_some _ z5
 refine wpAny_bind (wpAny_bind (wpAny_setField_rec z6 (by simp) fun g7 z7 s7 => ?_))
 replace z7 : IsZip g7 z TI TO (rawInt g5.objs.size) := z7
 refine wpAny_setField_rec z7 (by simp) fun g8 z8 s8 => ?_
 replace z8 : IsZip g8 z TI TO (rawInt g5.objs.size) := z8
 have up : ∀ c o, c ≠ z→g5.get? c = some o→g8.get? c = some o := fun c o nc q => s8.extBut c o nc (s7.extBut c o nc (Heap.get?_push_of_some _ q))
 have t8 : IsPair g8 g5.objs.size u v := s8.extBut _ _ (Nat.ne_of_gt lz) (s7.extBut _ _ (Nat.ne_of_gt lz) (Heap.get?_push_size _ rfl))
 rw [sz] at z8 t8
 refine wpAny_pure ⟨_, rfl, wpAny_pure ?_⟩
 show R (some (.ref g5.objs.size)) _
 rw [sz]
 exact k g8 z8 (up _ _ D.TIz (k5 _ _ D.TIz D.TIO D.TIi D.TIj hTI)) (up _ _ D.TOz o5) (Sr.at_keep i5 fun o q => up _ o D.iz q) (Sr.at_keep j5 fun o q => up _ o D.jz q) t8 fun c o c1 c2 c3 c4 q => up c o c1 (k5 c o c1 c2 c3 c4 q)
theorem zlw {z TI TO i j : Addr} {x y : Sr} {n m : Nat} {xs ys : Array Value} {a b : Value} {R : Option Value→Shared→Prop} (hh : A.handled = none) (D : Zp z TI TO i j) (xz : x.ad ≠ z∧x.ad ≠ TO∧x.ad ≠ i∧x.ad ≠ j) (yz : y.ad ≠ z∧y.ad ≠ TO∧y.ad ≠ i∧y.ad ≠ j)
   (hz : IsZip s.heap z TI TO .none) (hTI : IsPair s.heap TI (.ref i) (.ref j)) (hTO : IsPair s.heap TO a b) (hi : x.at_ s.heap i n) (hj : y.at_ s.heap j m) (hx : x.is s.heap xs) (hy : y.is s.heap ys) (he : xs[n]? = none ∨ ys[m]? = none)
   (k : ∀ h', (∀ c o, c ≠ z→c ≠ TO→c ≠ i→c ≠ j→s.heap.get? c = some o→h'.get? c = some o)→R none { s with heap := h' }) : wpAny (model prog w) A (pyNext (.ref z)) R E s := by
 have ty : s.TypeIs (.ref z) "zip" := ⟨_, hz, rfl⟩
 have halt : ∀ h' e, (∀ c o, c ≠ z→c ≠ TO→c ≠ i→c ≠ j→s.heap.get? c = some o→h'.get? c = some o)→(∃ o, h'.get? e = some o∧o.cls = .type "StopIteration") →
     wpAny (model prog w) A (do if ← isInstance (.ref e) (.type "StopIteration") then pure none else throw (Value.ref e)) R E { s with heap := h' } := fun h' e q ⟨o, g, c⟩ =>
   wpAny_bind (wpAny_isInstance (T := "StopIteration") (b := true) ⟨o, g, c⟩ isSubtype_stop (wpAny_pure (k h' q)))
 unfold pyNext
 refine wpAny_bind (wpAny_attempt (wpAny_callSpecial?_slot (name := Str.ofString "__next__") ty F.slot_zip_next (wpAny_call_entry F.slot_zip_next ty F.entry_zip_next ?_ (F.args_zip_next_1 _))))
 show wpAny _ _ (field (.ref z) 2 >>= _) _ _ _
 refine wpAny_bind (wpAny_field hz rfl (x := .bool false) rfl ?_)
 show wpAny _ _ (field (.ref z) 3 >>= _) _ _ _
 refine wpAny_bind (wpAny_field hz rfl (x := .ref TI) rfl (wpAny_bind (wpAny_seqItems hTI rfl ?_)))
 show wpAny _ _ (Builtin.SmallTypes.ownedTupleIsFree (.ref z) >>= _) _ _ _
 unfold Builtin.SmallTypes.ownedTupleIsFree
 refine wpAny_bind (wpAny_bind (wpAny_field hz rfl (x := .none) rfl (wpAny_pure ?_)))
 simp only [if_true]
 refine wpAny_bind (wpAny_rule (wpAny_bind (wpAny_field hz rfl (x := .ref TO) rfl (wpAny_bind (wpAny_setField_rec hz (by simp) fun g1 z1 s1 => ?_)))))
 replace z1 : IsZip g1 z TI TO .ellipsis := z1
 have k1 : ∀ c o, c ≠ z→s.heap.get? c = some o→g1.get? c = some o := fun c o nc q => s1.extBut c o nc q
 have sep : ∀ {g : Heap} {e : Addr} {o : Obj}, IsZip g z TI TO .ellipsis→g.get? e = some o→o.cls = .type "StopIteration"→e ≠ z := fun {g e o} q h c r => by
   subst r
   rw [q] at h
   cases h
   simp at c
 simp only [List.zipIdx_cons, List.zipIdx_nil, List.forIn_cons, List.forIn_nil]
 refine wpAny_bind (wpAny_bind (wpAny_bind (wpAny_onRaise ?_)))
 show wpAny _ _ (Builtin.SmallTypes.nextOf (.ref i) >>= _) _ _ _
 cases gx : xs[n]? with
 | none =>
   refine wpAny_bind (Sr.stop hh (Sr.at_keep hi fun o q => k1 _ o D.iz q) (Sr.is_keep hx fun o q => k1 _ o xz.1 q) gx fun g2 e s2 ⟨oe, he, ce⟩ => ?_)
   have z2 : IsZip g2 z TI TO .ellipsis := s2 _ _ D.iz.symm z1
   exact wpAny_setField_rec z2 (by simp) fun g3 _ s3 => halt g3 e (fun c o c1 _ c3 _ q => s3.extBut c o c1 (s2 c o c3 (k1 c o c1 q))) ⟨oe, s3.extBut _ _ (sep z2 he ce) he, ce⟩
 | some u =>
   have gy : ys[m]? = none := he.resolve_left (by rw [gx]; simp)
   refine wpAny_bind (Sr.next (Sr.at_keep hi fun o q => k1 _ o D.iz q) (Sr.is_keep hx fun o q => k1 _ o xz.1 q) gx fun g2 i2 s2 => wpAny_pure ?_)
   have k2 : ∀ c o, c ≠ z→c ≠ i→s.heap.get? c = some o→g2.get? c = some o := fun c o nc ni q => s2.extBut c o ni (k1 c o nc q)
   have o2 : IsPair g2 TO a b := k2 _ _ D.TOz D.TOi hTO
   refine wpAny_bind (wpAny_seqItems o2 rfl (wpAny_bind (wpAny_updateSeq_pair o2 fun g3 o3 s3 => (wpAny_bind (wpAny_letGo (wpAny_pure ?_))))))
   have k3 : ∀ c o, c ≠ z→c ≠ i→c ≠ TO→s.heap.get? c = some o→g3.get? c = some o := fun c o nc ni nt q => s3.extBut c o nt (k2 c o nc ni q)
   refine wpAny_bind (wpAny_bind (wpAny_onRaise ?_))
   show wpAny _ _ (Builtin.SmallTypes.nextOf (.ref j) >>= _) _ _ _
   refine wpAny_bind (Sr.stop hh (Sr.at_keep hj fun o q => k3 _ o D.jz D.ij.symm D.TOj.symm q) (Sr.is_keep hy fun o q => k3 _ o yz.1 yz.2.2.1 yz.2.1 q) gy fun g4 e s4 ⟨oe, he, ce⟩ => ?_)
   have z4 : IsZip g4 z TI TO .ellipsis := s4 _ _ D.jz.symm (s3.extBut _ _ D.TOz.symm (s2.extBut _ _ D.iz.symm z1))
   exact wpAny_setField_rec z4 (by simp) fun g5 _ s5 => halt g5 e (fun c o c1 c2 c3 c4 q => s5.extBut c o c1 (s4 c o c4 (k3 c o c1 c3 c2 q))) ⟨oe, s5.extBut _ _ (sep z4 he ce) he, ce⟩
end
def Sr.sq (H : Hp) (xs : List V) : Sr→Prop
 | .l a => H a = some (.lst xs) ∨ ∃ o, H a = some (.frz o (.lst xs))
 | .t a => H a = some (.tup xs)
theorem Sr.sq_ne {H : Hp} {xs : List V} {x : Sr} {b : Addr} (h : x.sq H xs) (hb : H b = none) : x.ad ≠ b := by
 cases x with
 | l a => rcases h with h | ⟨o, h⟩ <;> exact zaq h hb
 | t a => exact zaq (show H a = some (.tup xs) from h) hb
theorem Sr.sq_inj {H : Hp} {xs ys : List V} {x : Sr} (h : x.sq H xs) (h' : x.sq H ys) : xs = ys := by
 cases x with
 | l a => rcases h with h | ⟨o, h⟩ <;> rcases h' with h' | ⟨o', h'⟩ <;> rw [h] at h' <;> cases h' <;> rfl
 | t a =>
   have h : H a = some (.tup xs) := h
   have h' : H a = some (.tup ys) := h'
   rw [h] at h'
   cases h'
   rfl
theorem Sr.sq_is {X : Cx} {pins : List (Addr × Obj)} {σ : L2.St} {H : Hp} {s : Shared} {xs : List V} {x : Sr} (I : Inv X pins σ H s) (h : x.sq H xs) : ∃ its : List Value, Vals xs its∧x.is s.heap its.toArray := by
 cases x with
 | l a =>
   obtain ⟨its, rv, p, _⟩ := I.list (show SqL X.K H a xs from .inl h)
   exact ⟨its, rv, p.isList⟩
 | t a =>
   obtain ⟨its, rv, p, _⟩ := I.tuple (SqT.of (K := X.K) h)
   exact ⟨its, rv, p⟩
def Itz (x y : Sr) : It :=
 ⟨fun i H => ∃ xs ys u v, x.sq H xs∧y.sq H ys∧xs[i]? = some u∧ys[i]? = some v, fun i H r H' => ∃ p u v, H p = none∧H' = upd H p (.tup [u, v])∧r = .ref p∧(∀ xs, x.sq H xs→xs[i]? = some u)∧∀ ys, y.sq H ys→ys[i]? = some v,
   fun i H => ∃ xs ys, x.sq H xs∧y.sq H ys∧(xs.length ≤ i ∨ ys.length ≤ i)⟩
theorem zj1 {P : Program} {w : World} {K : PySem.W.Frag} {elts : List Expr} {x1} {pos : Pos} (x y : Sr) {z TI TO i j : Addr} (D : Zp z TI TO i j) :
   Turn P w K (.Tuple elts x1 pos) (Itz x y) [z, TI, TO, i, j] z (fun n h => IsZip h z TI TO .none∧IsPair h TI (.ref i) (.ref j)∧(∃ a b, IsPair h TO a b)∧x.at_ h i n∧y.at_ h j n) where
 mem := by simp
 obj := fun n h st b hb => by
   obtain ⟨hz, hTI, ⟨a, c, hTO⟩, hi, hj⟩ := st
   simp only [List.mem_cons, List.not_mem_nil, or_false] at hb
   rcases hb with rfl | rfl | rfl | rfl | rfl
   · exact ⟨_, hz, fun v q => by cases q⟩
   · exact ⟨_, hTI, fun v q => by cases q⟩
   · exact ⟨_, hTO, fun v q => by cases q⟩
   · obtain ⟨o, vs, g, d⟩ := Sr.at_get hi
     exact ⟨o, g, fun v q => by rw [d] at q; cases q⟩
   · obtain ⟨o, vs, g, d⟩ := Sr.at_get hj
     exact ⟨o, g, fun v q => by rw [d] at q; cases q⟩
 keep := fun n h h' st k => by
   obtain ⟨hz, hTI, ⟨a, c, hTO⟩, hi, hj⟩ := st
   exact ⟨k z (by simp) _ hz, k TI (by simp) _ hTI, ⟨a, c, k TO (by simp) _ hTO⟩, Sr.at_keep hi fun o q => k i (by simp) o q, Sr.at_keep hj fun o q => k j (by simp) o q⟩
 item := by
   intro X hP hw hK hc n pins s σ H E I hf st hg
   subst hP hw hK
   obtain ⟨xs, ys, u, v, hx, hy, gu, gv⟩ := hg
   obtain ⟨hz, hTI, ⟨a, c, hTO⟩, hi, hj⟩ := st
   obtain ⟨its, rx, ix⟩ := Sr.sq_is I hx
   obtain ⟨jts, ry, iy⟩ := Sr.sq_is I hy
   obtain ⟨u', gu', ru⟩ := rx.get gu
   obtain ⟨v', gv', rv⟩ := ry.get gv
   have fz := (hf z (by simp)).1
   have fTO := (hf TO (by simp)).1
   have fi := (hf i (by simp)).1
   have fj := (hf j (by simp)).1
   refine zj0 D ⟨Sr.sq_ne hx fz, Sr.sq_ne hx fTO, Sr.sq_ne hx fi, Sr.sq_ne hx fj⟩ ⟨Sr.sq_ne hy fz, Sr.sq_ne hy fTO, Sr.sq_ne hy fi, Sr.sq_ne hy fj⟩ hz hTI hTO hi hj ix iy (u := u') (v := v') (by simpa using gu') (by simpa using gv') fun h1 z1 ti1 to1 i1 j1 t1 k1 => ?_
   refine ⟨_, rfl, wpAny_letOwnedTupleGo_zip (s := { s with heap := h1 }) z1 fun h2 z2 b2 => ?_⟩
   have up : ∀ b o, b ≠ z→h1.get? b = some o→h2.get? b = some o := fun b o nb q => (b2.2 b nb).trans q
   have k2 : ∀ b o, b ∉ [z, TI, TO, i, j]→s.heap.get? b = some o→h2.get? b = some o := fun b o hb q => by
     simp only [List.mem_cons, List.not_mem_nil, or_false, not_or] at hb
     exact up b o hb.1 (k1 b o hb.1 hb.2.2.1 hb.2.2.2.1 hb.2.2.2.2 q)
   have lt : ∀ b ∈ [z, TI, TO, i, j], b < s.heap.objs.size := fun b hb => by
     simp only [List.mem_cons, List.not_mem_nil, or_false] at hb
     rcases hb with rfl | rfl | rfl | rfl | rfl
     · exact Heap.lt_size hz
     · exact Heap.lt_size hTI
     · exact Heap.lt_size hTO
     · obtain ⟨o, vs, g, d⟩ := Sr.at_get hi; exact Heap.lt_size g
     · obtain ⟨o, vs, g, d⟩ := Sr.at_get hj; exact Heap.lt_size g
   have t2 : h2.get? s.heap.objs.size = some { cls := .type "tuple", data := .seq #[u', v'] } := up _ _ (Nat.ne_of_gt (lt z (by simp))) t1
   have st2 : IsZip h2 z TI TO .none∧IsPair h2 TI (.ref i) (.ref j)∧(∃ a b, IsPair h2 TO a b)∧x.at_ h2 i (n + 1)∧y.at_ h2 j (n + 1) :=
     ⟨z2, up _ _ D.TIz ti1, ⟨_, _, up _ _ D.TOz to1⟩, Sr.at_keep i1 fun o q => up _ o D.iz q, Sr.at_keep j1 fun o q => up _ o D.jz q⟩
   refine ⟨.ref s.heap.objs.size, upd H s.heap.objs.size (.tup [u, v]), ?_, rfl, ⟨_, u, v, I.hok.fresh (Nat.le_refl _), rfl, rfl, fun zs h => by rw [Sr.sq_inj h hx]; exact gu, fun zs h => by rw [Sr.sq_inj h hy]; exact gv⟩, st2, fun b hb => ?_⟩
   · refine Inv.turnNew (s := s) (h' := h2) (t' := s.toks) I hf k2 (Nat.le_refl _) (fun b hb ob q => ?_) ⟨by show 2 ≤ sizeLine; decide, [u', v'], .cons ru (.cons rv .nil), ⟨_, t2, rfl, rfl, _, rfl⟩⟩
     simp only [List.mem_cons, List.not_mem_nil, or_false] at hb
     rcases hb with rfl | rfl | rfl | rfl | rfl
     · exact ⟨_, z2⟩
     · exact ⟨_, st2.2.1⟩
     · obtain ⟨_, _, q⟩ := st2.2.2.1; exact ⟨_, q⟩
     · obtain ⟨o, vs, g, d⟩ := Sr.at_get st2.2.2.2.1; exact ⟨o, g⟩
     · obtain ⟨o, vs, g, d⟩ := Sr.at_get st2.2.2.2.2; exact ⟨o, g⟩
   · rw [zay (Nat.ne_of_lt (lt b hb))]
     exact (hf b hb).1
 done := by
   intro X hP hw hK hc n pins s σ H E I hf st hg
   subst hP hw hK
   obtain ⟨xs, ys, hx, hy, he⟩ := hg
   obtain ⟨hz, hTI, ⟨a, c, hTO⟩, hi, hj⟩ := st
   obtain ⟨its, rx, ix⟩ := Sr.sq_is I hx
   obtain ⟨jts, ry, iy⟩ := Sr.sq_is I hy
   have fz := (hf z (by simp)).1
   have fTO := (hf TO (by simp)).1
   have fi := (hf i (by simp)).1
   have fj := (hf j (by simp)).1
   have l1 := rx.length
   have l2 := ry.length
   exact zlw (I.ok.hd hc) D ⟨Sr.sq_ne hx fz, Sr.sq_ne hx fTO, Sr.sq_ne hx fi, Sr.sq_ne hx fj⟩ ⟨Sr.sq_ne hy fz, Sr.sq_ne hy fTO, Sr.sq_ne hy fi, Sr.sq_ne hy fj⟩ hz hTI hTO hi hj ix iy (by
     rcases he with h | h
     · exact .inl (by simp; omega)
     · exact .inr (by simp; omega)) fun h' k => ⟨rfl, Inv.turnAll (t' := s.toks) I hf fun b o hb q => by
       simp only [List.mem_cons, List.not_mem_nil, or_false, not_or] at hb
       exact k b o hb.1 hb.2.2.1 hb.2.2.2.1 hb.2.2.2.2 q⟩
 self := fun _ _ _ _ _ st h => wpAny_pyIter_zip st.1 h
section
variable {X : Cx} {K : PySem.W.Frag} {H : Hp} {io : List Addr} {ma mb : ME} {st st' : Sto}
def seqD (s : Sto) : D→Option (List D × List (Nat × List D))
 | .ref n => (zbj s n).map fun ds => (ds, [(n, ds)])
 | .tup ds => some (ds, [])
 | _ => none
def pairD (a b : List D) : List D := (a.zip b).map fun p => .tup [p.1, p.2]
def zipW (x y : D) (s : Sto) : Option (Wk × Sto) := (seqD s x).bind fun (a, f) => (seqD s y).map fun (b, g) => (⟨pairD a b, f ++ g⟩, s)
def mZip (ma mb : ME) : MI := fun ρ st => (ma ρ st).bind fun (x, s1) => (mb ρ s1).bind fun (y, s2) => zipW x y s2
theorem zg8 {d : D} {v : V} {ds : List D} {g : List (Nat × List D)} (S : StR K H io st) (R : Rep K H io v d) (h : seqD st d = some (ds, g)) : ∃ x : Sr, v = .ref x.ad∧(∃ xs, x.sq H xs) ∧
   ∀ H1 ka s1, Ext io ka H H1→StR K H1 (io ++ ka) s1→(∀ p, p ∈ g→s1[p.1]? = some (.lst p.2) ∨ s1[p.1]? = some (.fz p.2))→∃ xs, x.sq H1 xs∧Reps K H1 (io ++ ka) xs ds := by
 cases d with
 | ref n =>
   obtain ⟨l, e, q⟩ := zag h
   cases q
   obtain ⟨p, rfl, hp⟩ := R
   refine ⟨.l p, rfl, ?_, fun H1 ka s1 X1 S1 hs => ?_⟩
   · unfold zbj at e
     split at e
     · rename_i o he; cases e
       obtain ⟨xs, q, _⟩ := S.ob n p _ hp he
       exact ⟨xs, .inl q⟩
     · rename_i o he; cases e
       obtain ⟨ob, xs, q, _⟩ := S.ob n p _ hp he
       exact ⟨xs, .inr ⟨ob, q⟩⟩
     · cases e
   · rcases hs (n, ds) List.mem_cons_self with q | q
     · obtain ⟨xs, q', r⟩ := S1.ob n p _ (za6 hp) q
       exact ⟨xs, .inl q', r⟩
     · obtain ⟨ob, xs, q', r⟩ := S1.ob n p _ (za6 hp) q
       exact ⟨xs, .inr ⟨ob, q'⟩, r⟩
 | tup ts =>
   cases h
   obtain ⟨p, xs, rfl, hp, r⟩ := R
   exact ⟨.t p, rfl, ⟨xs, hp⟩, fun H1 ka s1 X1 S1 _ => ⟨xs, X1.sqT S p xs hp, r.ext S X1⟩⟩
 | _ => cases h
theorem ziP {a b : List D} {i : Nat} {d : D} (h : (pairD a b)[i]? = some d) : ∃ x y, a[i]? = some x∧b[i]? = some y∧d = .tup [x, y] := by
 unfold pairD at h
 rw [List.getElem?_map] at h
 obtain ⟨⟨x, y⟩, e, q⟩ := zag h
 rw [List.getElem?_zip_eq_some] at e
 exact ⟨x, y, e.1, e.2, q.symm⟩
theorem boot_zip : bootBuiltins "zip" = some (.type "zip") := by decide +kernel
theorem znD {elts : List Expr} {x1} {tp : Pos} {a b : Expr} {p pos : Pos} (hg : Gl X "zip") (hm : X.mg "zip" = none) (ha : SE X a ma) (hb : SE X b mb) (hs : starEach [a, b] X.env = [(false, eval a X.env), (false, eval b X.env)] := by rfl)
   (hs2 : starEach [b] X.env = [(false, eval b X.env)] := by rfl) (hpl : (backTo pos (starEach [b] X.env)).any (·.1) = false := by rfl) : SI X (.Tuple elts x1 tp) (.Call (.Name "zip" p) [a, b] [] pos) (mZip ma mb) := by
 intro pins s σ H R I ⟨ρ, st, io, W, st', E, S, e, k⟩
 obtain ⟨⟨x, s1⟩, e1, e⟩ := zad e
 obtain ⟨⟨y, s2⟩, e2, e⟩ := zad e
 obtain ⟨⟨as, f⟩, e3, e⟩ := zad e
 obtain ⟨⟨bs, g⟩, e4, e⟩ := zag e
 cases e
 have hs1 : starEach [a, b] X.env = (false, eval a X.env) :: starEach [b] X.env := by rw [hs, hs2]
 refine Call_ (zhD I hg hm boot_zip (PyProof.Rows.callWith_type1 (thn (zaa ha (zaa hb zah hs2) hs1 pos pins s σ H (fun vs H' => ∃ ka, Ext io ka H H'∧StR X.K H' (io ++ ka) st'∧Reps X.K H' (io ++ ka) vs [x, y]) I ⟨ρ, st, io, [x, y], st', E, S, zeq e1 (zeq e2 rfl), fun vs H1 k1 X1 S1 R1 => ⟨k1, X1, S1, R1⟩⟩) fun us t1 ⟨vs, H1, I1, r1, k1, X1, S1, R1⟩ => ?_) hs1 hpl))
 obtain ⟨v, u, rfl, Rx, Ry⟩ := R1.two
 obtain ⟨v', u', rfl, rv, ru⟩ := r1.two
 obtain ⟨xx, rfl, ⟨xs, hx⟩, kx⟩ := zg8 S1 Rx e3
 obtain ⟨yy, rfl, ⟨ys, hy⟩, ky⟩ := zg8 S1 Ry e4
 cases rv
 cases ru
 obtain ⟨its, vx, ix⟩ := Sr.sq_is I1 hx
 obtain ⟨jts, vy, iy⟩ := Sr.sq_is I1 hy
 refine zji ix iy fun h' hz hTI hTO hi hj kk => wpAny_pyIter_zip hz ?_
 refine ⟨_, _, _, _, H1, rfl, I1.kept (t' := t1.toks) kk, zj1 xx yy (Zp.new t1.heap.objs.size), ⟨hz, hTI, ⟨_, _, hTO⟩, hi, hj⟩, fun b hb => ?_, ?_⟩
 · have hle : t1.heap.objs.size ≤ b := by
     simp only [List.mem_cons, List.not_mem_nil, or_false] at hb
     rcases hb with rfl | rfl | rfl | rfl | rfl
     · exact Nat.le_add_right _ 4
     · exact Nat.le_add_right _ 2
     · exact Nat.le_add_right _ 3
     · exact Nat.le_refl _
     · exact Nat.le_add_right _ 1
   exact I1.fpOk hle (I1.hok.fresh hle)
 · refine k _ H1 k1 X1 S1 ?_
   have st1 : ∀ {s3 : Sto}, stays ⟨pairD as bs, f ++ g⟩ s3→(∀ p, p ∈ f→s3[p.1]? = some (.lst p.2) ∨ s3[p.1]? = some (.fz p.2))∧∀ p, p ∈ g→s3[p.1]? = some (.lst p.2) ∨ s3[p.1]? = some (.fz p.2) := fun {s3} h => ⟨fun p hp => h p (List.mem_append_left _ hp), fun p hp => h p (List.mem_append_right _ hp)⟩
   have len : ∀ {a b : List D}, (pairD a b).length = min a.length b.length := fun {a b} => by unfold pairD; rw [List.length_map, List.length_zip]
   refine ⟨fun i d H2 k2 s3 hd X2 S2 hs => ?_, fun H2 k2 s3 X2 S2 hs => ?_, fun H2 k2 s3 i hi X2 S2 hs => ?_⟩
   · obtain ⟨xs2, qx, rx⟩ := kx H2 k2 s3 X2 S2 (st1 hs).1
     obtain ⟨ys2, qy, ry⟩ := ky H2 k2 s3 X2 S2 (st1 hs).2
     obtain ⟨dx, dy, g1, g2, rfl⟩ := ziP hd
     obtain ⟨u1, gu, ru⟩ := rx.get g1
     obtain ⟨v1, gv, rv⟩ := ry.get g2
     refine ⟨⟨xs2, ys2, u1, v1, qx, qy, gu, gv⟩, fun r H' yl => ?_⟩
     obtain ⟨q, u2, v2, hq, rfl, rfl, yu, yv⟩ := yl
     have e5 := yu xs2 qx
     have e6 := yv ys2 qy
     rw [gu] at e5
     rw [gv] at e6
     cases e5
     cases e6
     obtain ⟨E', S'⟩ := zf6 (o := .tup [u1, v1]) S2 hq
     rw [List.append_nil] at S'
     refine ⟨E', S', ⟨q, _, rfl, zbi, ?_⟩⟩
     have r2 := ru.ext S2 E'
     have r3 := rv.ext S2 E'
     rw [List.append_nil] at r2 r3
     exact Reps.cons r2 (Reps.cons r3 Reps.nil)
   · obtain ⟨xs2, qx, rx⟩ := kx H2 k2 s3 X2 S2 (st1 hs).1
     obtain ⟨ys2, qy, ry⟩ := ky H2 k2 s3 X2 S2 (st1 hs).2
     refine ⟨xs2, ys2, qx, qy, ?_⟩
     show xs2.length ≤ (pairD as bs).length ∨ ys2.length ≤ (pairD as bs).length
     rw [len, rx.length, ry.length]
     omega
   · obtain ⟨xs2, qx, rx⟩ := kx H2 k2 s3 X2 S2 (st1 hs).1
     obtain ⟨ys2, qy, ry⟩ := ky H2 k2 s3 X2 S2 (st1 hs).2
     refine ⟨xs2, ys2, qx, qy, ?_⟩
     have hi : (pairD as bs).length ≤ i := hi
     rw [len] at hi
     rw [rx.length, ry.length]
     omega
end
end L2.MP
namespace L2.MP
open PySem PySem.Spec PyProof.Rows
def Caps (X : Cx) (fs : List Str) : List Nat→List Str→Prop
 | [], [] => True
 | j :: js, x :: xs => (X.N[j]? = some x∧x ∈ fs)∧Caps X fs js xs
 | _, _ => False
def Outs (X : Cx) : List Str→Prop
 | [] => True
 | x :: xs => (X.env.kindOf x = some .cell ∨ X.env.kindOf x = some .free)∧Outs X xs
theorem Outs.get {X : Cx} : ∀ {fs : List Str} {x : Str}, Outs X fs→x ∈ fs→X.env.kindOf x = some .cell ∨ X.env.kindOf x = some .free
 | [], _, _, m => nomatch m
 | y :: ys, x, h, m => by
   rcases List.mem_cons.mp m with rfl | m
   · exact h.1
   · exact Outs.get h.2 m
theorem Caps.get {X : Cx} {fs : List Str} : ∀ {fr : List Nat} {xs : List Str} {i j : Nat} {x : Str}, Caps X fs fr xs→fr[i]? = some j→xs[i]? = some x→X.N[j]? = some x∧x ∈ fs
 | [], [], i, j, x, _, h, _ => by simp at h
 | [], _ :: _, i, j, x, h, _, _ => h.elim
 | _ :: _, [], i, j, x, h, _, _ => h.elim
 | k :: ks, y :: ys, 0, j, x, h, h1, h2 => by
   simp at h1 h2
   subst h1 h2
   exact h.1
 | k :: ks, y :: ys, i + 1, j, x, h, h1, h2 => Caps.get (i := i) h.2 (by simpa using h1) (by simpa using h2)
theorem zbB {X : Cx} {scope : Scope} {N' : List Str} {nt : Nat} {fr : List Nat} (fs : List Str) (kind : scope.kind = .function) (nd : (scope.names.map (·.1)).Nodup) (hf : scope.names.all (fun p => !(p.2 == NameKind.free) || fs.contains p.1) = true)
   (hb : fs.all (fun x => scope.names.contains (x, NameKind.free)) = true) (len : N'.length = nt + fr.length) (cap : Caps X fs fr (N'.drop nt)) (out : Outs X fs) : CompS X scope N' nt fr := by
 refine ⟨kind, nd, len, fun i j x h1 h2 => ?_, fun x hx => ?_⟩
 · have h2' : (N'.drop nt)[i]? = some x := by rw [List.getElem?_drop]; exact h2
   obtain ⟨a, b⟩ := cap.get h1 h2'
   refine ⟨a, ?_⟩
   have := List.all_eq_true.mp hb x b
   simpa using this
 · have := List.all_eq_true.mp hf _ hx
   have hm : x ∈ fs := by simpa using this
   exact out.get hm
theorem ze4 : bootBuiltins "len" = some (.builtin "len") := by decide +kernel
theorem zoU : bootBuiltins "min" = some (.builtin "min") := by decide +kernel
theorem zew : bootBuiltins "sorted" = some (.builtin "sorted") := by decide +kernel
theorem zoV : bootBuiltins "int" = some (.type "int") := by decide +kernel
theorem zcY : bootBuiltins "tuple" = some (.type "tuple") := by decide +kernel
theorem zid : bootBuiltins "dict" = some (.type "dict") := by decide +kernel
def mulA : G2 := orG mulD zni
theorem zb2 {X : Cx} : OpM X (binaryOp .Mult) mulA := zme zmh zky
end L2.MP
namespace L2.MP
open PySem PySem.Spec PyProof.Rows
theorem zjP {K : PySem.W.Frag} {H : Hp} {io : List Addr} : ∀ (ns : List Int), Reps K H io (ns.map V.int) (ns.map D.int)
 | [] => rfl
 | n :: ns => ⟨_, _, rfl, rfl, zjP ns⟩
theorem zj7 {K : PySem.W.Frag} {H : Hp} {a : Addr} {ns : List Int} {g : GN} {st : Sto} {E : XK} (hO : Only H) (hS : SqL K H a (ns.map V.int)) (e : g [.kl (ns.map D.int)] [] = some (.bl true, st)) : spM K 1 g [.ref a] H (fun v _ => v = .bl true) E := by
 have hF : SqF K H a (ns.map V.int) := by
   rcases hS with (h | h) | h
   · rcases hO a with z | ⟨o, xs, z⟩
     · rw [z] at h; cases h
     · rw [z] at h; cases h
   · exact .inl h
   · exact .inr h
 refine ⟨_, [], [], _, _, rfl, Reps.cons (show Rep K H [] (.ref a) (.kl (ns.map D.int)) from ⟨a, _, rfl, hF, zjP ns⟩) Reps.nil, ⟨rfl, List.nodup_nil, fun n b o h => by simp at h⟩, e, fun v H' ka E' S' R' => R'⟩
end L2.MP
set_option maxHeartbeats 1000000
namespace L2.MP
open PySem
structure Gr (st st' : Sto) : Prop where
 len : st.length ≤ st'.length
 old : ∀ k, k < st.length→st'[k]? = st[k]?
structure Fr (n : Nat) (st st' : Sto) : Prop where
 len : st.length ≤ st'.length
 old : ∀ k, k < st.length→k ≠ n→st'[k]? = st[k]?
theorem Gr.refl (st : Sto) : Gr st st := ⟨Nat.le_refl _, fun _ _ => rfl⟩
theorem Fr.refl (n : Nat) (st : Sto) : Fr n st st := ⟨Nat.le_refl _, fun _ _ _ => rfl⟩
theorem Gr.fr {st st' : Sto} (h : Gr st st') (n : Nat) : Fr n st st' := ⟨h.len, fun k hk _ => h.old k hk⟩
theorem Gr.trans {a b c : Sto} (h : Gr a b) (h' : Gr b c) : Gr a c := ⟨Nat.le_trans h.len h'.len, fun k hk => (h'.old k (Nat.lt_of_lt_of_le hk h.len)).trans (h.old k hk)⟩
theorem Fr.trans {n : Nat} {a b c : Sto} (h : Fr n a b) (h' : Fr n b c) : Fr n a c := ⟨Nat.le_trans h.len h'.len, fun k hk nk => (h'.old k (Nat.lt_of_lt_of_le hk h.len) nk).trans (h.old k hk nk)⟩
theorem Gr.app (st : Sto) (l : List O) : Gr st (st ++ l) := ⟨by simp, fun k hk => List.getElem?_append_left hk⟩
theorem Fr.app (n : Nat) (st : Sto) (l : List O) : Fr n st (st ++ l) := (Gr.app st l).fr n
theorem Fr.set (n : Nat) (st : Sto) (o : O) : Fr n st (st.set n o) := ⟨by simp, fun k _ hk => by rw [List.getElem?_set_ne (fun h => hk h.symm)]⟩
theorem getElem?_lt {α : Type} {l : List α} {n : Nat} {x : α} (h : l[n]? = some x) : n < l.length := (List.getElem?_eq_some_iff.mp h).1
theorem zaY (st : Sto) (o : O) : (st ++ [o])[st.length]? = some o := getElem?_len st o
theorem zbs {W : Wk} {g : MG} {m : MS} : ∀ {ds : List D} {Inv : Nat→Rho→Sto→Prop} {ρ : Rho} {st : Sto}, Inv 0 ρ st→(∀ k ρ s, k ≤ ds.length→Inv k ρ s→walked W s = true) →
   (∀ k d ρ s, ds[k]? = some d→Inv k ρ s→∃ ρ1 s1 ρ2 s2, g d ρ s = some (ρ1, s1)∧m ρ1 s1 = some (.nx ρ2, s2)∧Inv (k + 1) ρ2 s2)→∃ ρ' s', zhA W g m ds ρ st = some (.nx ρ', s')∧Inv ds.length ρ' s'
 | [], Inv, ρ, st, h0, wk, step => ⟨ρ, st, by unfold zhA; rw [if_pos (wk 0 ρ st (Nat.le_refl _) h0)], h0⟩
 | d :: ds, Inv, ρ, st, h0, wk, step => by
   obtain ⟨ρ1, s1, ρ2, s2, e1, e2, h1⟩ := step 0 d ρ st rfl h0
   obtain ⟨ρ', s', e, h⟩ := zbs (W := W) (g := g) (m := m) (ds := ds) (Inv := fun k => Inv (k + 1)) h1 (fun k ρ s hk h => wk (k + 1) ρ s (Nat.succ_le_succ hk) h) (fun k d ρ s hd h => step (k + 1) d ρ s (by simpa using hd) h)
   refine ⟨ρ', s', ?_, h⟩
   unfold zhA
   rw [if_pos (wk 0 ρ st (Nat.zero_le _) h0), e1]
   simp only [Option.bind_some, e2]
   exact e
theorem zk9 {W : Wk} {g : MG} {c : MT} {m : ME} : ∀ {ds : List D} {Inv : Nat→List D→Rho→Sto→Prop} {acc : List D} {ρ : Rho} {st : Sto}, Inv 0 acc ρ st→(∀ k a ρ s, k ≤ ds.length→Inv k a ρ s→walked W s = true) →
   (∀ k d a ρ s, ds[k]? = some d→Inv k a ρ s→∃ ρ1 s1 b s2, g d ρ s = some (ρ1, s1)∧c ρ1 s1 = some (b, s2)∧((b = true∧∃ x s3, m ρ1 s2 = some (x, s3)∧Inv (k + 1) (a ++ [x]) ρ1 s3) ∨ (b = false∧Inv (k + 1) a ρ1 s2))) →
   ∃ xs ρ' s', mCI W g c m ds ρ st = some (xs, s')∧Inv ds.length (acc ++ xs) ρ' s'
 | [], Inv, acc, ρ, st, h0, wk, step => ⟨[], ρ, st, by unfold mCI; rw [if_pos (wk 0 acc ρ st (Nat.le_refl _) h0)], by rw [List.append_nil]; exact h0⟩
 | d :: ds, Inv, acc, ρ, st, h0, wk, step => by
   obtain ⟨ρ1, s1, b, s2, e1, e2, h1⟩ := step 0 d acc ρ st rfl h0
   have wk' : ∀ k a ρ s, k ≤ ds.length→Inv (k + 1) a ρ s→walked W s = true := fun k a ρ s hk h => wk (k + 1) a ρ s (Nat.succ_le_succ hk) h
   have st' : ∀ k d a ρ s, ds[k]? = some d→Inv (k + 1) a ρ s→∃ ρ1 s1 b s2, g d ρ s = some (ρ1, s1)∧c ρ1 s1 = some (b, s2)∧((b = true∧∃ x s3, m ρ1 s2 = some (x, s3)∧Inv (k + 1 + 1) (a ++ [x]) ρ1 s3) ∨ (b = false∧Inv (k + 1 + 1) a ρ1 s2)) := fun k d a ρ s hd h => step (k + 1) d a ρ s (by simpa using hd) h
   rcases h1 with ⟨rfl, x, s3, e3, h1⟩ | ⟨rfl, h1⟩
   · obtain ⟨xs, ρ', s', e, h⟩ := zk9 (W := W) (g := g) (c := c) (m := m) (ds := ds) (Inv := fun k => Inv (k + 1)) h1 wk' st'
     refine ⟨x :: xs, ρ', s', ?_, by simpa using h⟩
     unfold mCI
     rw [if_pos (wk 0 acc ρ st (Nat.zero_le _) h0), e1]
     simp only [Option.bind_some, e2, if_true, e3, e, Option.map_some]
   · obtain ⟨xs, ρ', s', e, h⟩ := zk9 (W := W) (g := g) (c := c) (m := m) (ds := ds) (Inv := fun k => Inv (k + 1)) h1 wk' st'
     refine ⟨xs, ρ', s', ?_, h⟩
     unfold mCI
     rw [if_pos (wk 0 acc ρ st (Nat.zero_le _) h0), e1]
     simp only [Option.bind_some, e2, Bool.false_eq_true, if_false, e]
theorem zgI {W : Wk} {g : MG} {c : MT} {m : ME} {α : Type} {f h : α→D} {R : Rho→Prop} : ∀ {as : List α} {ρ : Rho} {st : Sto}, R ρ→walked W st = true→(∀ a ∈ as, ∀ ρ, R ρ→∃ ρ1, g (f a) ρ st = some (ρ1, st)∧c ρ1 st = some (true, st)∧m ρ1 st = some (h a, st)∧R ρ1) →
   mCI W g c m (as.map f) ρ st = some (as.map h, st)
 | [], ρ, st, r, wk, _ => by unfold mCI; rw [List.map_nil]; simp only [wk, if_true, List.map_nil]
 | a :: as, ρ, st, r, wk, hs => by
   obtain ⟨ρ1, e1, e2, e3, r1⟩ := hs a List.mem_cons_self ρ r
   have e := zgI (W := W) (g := g) (c := c) (m := m) (f := f) (h := h) (R := R) (as := as) r1 wk fun b hb => hs b (List.mem_cons_of_mem _ hb)
   rw [List.map_cons]
   unfold mCI
   rw [if_pos wk, e1]
   simp only [Option.bind_some, e2, if_true, e3, e, Option.map_some, List.map_cons]
theorem zb5 {ds xs : List D} {n : Nat} {s : Sto} (h : s[n]? = some (.lst xs)) : walked ⟨ds, [(n, xs)]⟩ s = true := by
 unfold walked
 simp only [List.all_cons, List.all_nil, Bool.and_true]
 exact zhM h
theorem zax {n : Nat} (h : n ≤ 10000) : fits n = true := by
 unfold fits
 exact decide_eq_true (Nat.le_trans h (by decide))
end L2.MP
namespace L2.MP
theorem zfs {α : Type} (x : α) (y : Option α) : orO (some x) y = some x := rfl
theorem zgN {α : Type} (y : Option α) : orO none y = y := rfl
end L2.MP
namespace L2.MP.Hn
open PySem L2.MP
end L2.MP.Hn
namespace L2.MP
open PySem
section
variable {ρ ρ1 : Rho} {st s1 : Sto} {m n ma mb : ME} {mm : MA} {ms mq : MS} {mt mu : MT} {g : G2} {gn : GN} {d : D} {i j : Nat} {ds : List D} {mg : MG} {mgs : MGs} {ml mh : MO}
theorem zjp : mVar i ρ st = match ρ[i]? with
 | some (some d) => some (d, st)
 | _ => none := rfl
theorem zjr : mCon d ρ st = some (d, st) := rfl
theorem zfI : mBin g ma mb ρ st = (ma ρ st).bind fun p => (mb ρ p.2).bind fun q => g p.1 q.1 q.2 := rfl
theorem zmZ : mTst m ρ st = (m ρ st).bind fun p => match p.1 with
 | .bl b => some (b, p.2)
 | _ => none := rfl
theorem zm2 : znj mt ρ st = (mt ρ st).map fun p => (!p.1, p.2) := rfl
theorem zm6 : zls mt mu ρ st = (mt ρ st).bind fun p => if p.1 = true then mu ρ p.2 else some (false, p.2) := rfl
theorem zo5 : mOrT mt mu ρ st = (mt ρ st).bind fun p => if p.1 = true then some (true, p.2) else mu ρ p.2 := rfl
theorem zjX : zau gn mm ρ st = (mm ρ st).bind fun p => gn p.1 p.2 := rfl
theorem zjW : zae m mm ρ st = (m ρ st).bind fun p => (mm ρ p.2).bind fun q => some (p.1 :: q.1, q.2) := rfl
theorem zm3 : mNil ρ st = some ([], st) := rfl
theorem zo0 : mTup mm ρ st = (mm ρ st).bind fun p => if fits p.1.length = true then some (.tup p.1, p.2) else none := rfl
theorem zo7 : mLst mm ρ st = (mm ρ st).bind fun p => if fits p.1.length = true then some (.ref p.2.length, p.2 ++ [.lst p.1]) else none := rfl
theorem zo2 : mRet m ρ st = (m ρ st).map fun p => (.rt p.1, p.2) := rfl
theorem zlf : mExp m ρ st = (m ρ st).map fun p => (.nx ρ, p.2) := rfl
theorem zex : mAsg m mg ρ st = (m ρ st).bind fun p => (mg p.1 ρ p.2).map fun q => (.nx q.1, q.2) := rfl
theorem zqB : gNm i d ρ st = some (ρ.set i (some d), st) := rfl
theorem zm1 : zdN ρ st = some (.nx ρ, st) := rfl
theorem zo6 : mNeg m ρ st = (m ρ st).bind fun p => negD p.1 p.2 := rfl
theorem zlv : mIf mt ms mq ρ st = (mt ρ st).bind fun p => if p.1 = true then ms ρ p.2 else mq ρ p.2 := rfl
theorem zjq : putA ma mb m ρ st = orO (mAsg m (gSb setD ma mb) ρ st) (zlq ma mb m ρ st) := rfl
theorem zqy {g3 : G3} : gSb g3 ma mb d ρ st = (ma ρ st).bind fun p => (mb ρ p.2).bind fun q => (g3 p.1 q.1 d q.2).map fun s => (ρ, s) := rfl
theorem zqx : gTp i mgs d ρ st = match d with
 | .tup ds => if ds.length = i then mgs ds ρ st else none
 | _ => none := rfl
theorem zo8 : gN0 [] ρ st = some (ρ, st) := rfl
theorem zqC : gC mg mgs (d :: ds) ρ st = (mg d ρ st).bind fun p => mgs ds p.1 p.2 := rfl
theorem zo3 : mR1 m ρ st = (m ρ st).bind fun p => match p.1 with
 | .int j => if small j = true then some (⟨run 0 j.toNat, []⟩, p.2) else none
 | _ => none := rfl
theorem zm0 : zb4 ρ st = some (true, st) := rfl
theorem zaO {mi : MI} {k : Nat} {fr : List Nat} : zcQ mi k fr mg mt m ρ st = (mi ρ st).bind fun p => (mCI p.1 mg mt m p.1.ds (rho0 ρ k fr) p.2).bind fun q => if fits q.1.length = true then some (.ref q.2.length, q.2 ++ [.lst q.1]) else none := rfl
theorem zcj {mi : MI} : mFor mi mg ms ρ st = (mi ρ st).bind fun p => zhA p.1 mg ms p.1.ds ρ p.2 := rfl
theorem zqA : znd ρ st = some (none, st) := rfl
theorem zqz : znc m ρ st = (m ρ st).bind fun p => match p.1 with
 | .int i => some (some i, p.2)
 | _ => none := rfl
theorem zpa : mApp m mm ρ st = (m ρ st).bind fun p => match p.1 with
 | .ref n => (zbj p.2 n).bind fun _ => (mm ρ p.2).bind fun q => zbT p.1 q.1 q.2
 | _ => none := rfl
theorem zo4 : mPar i j mm ρ st = (mm ρ st).bind fun p => match p.1 with
 | [x, y] => some (.nx ((ρ.set i (some x)).set j (some y)), p.2)
 | _ => none := rfl
theorem zmY : mZip ma mb ρ st = (ma ρ st).bind fun p => (mb ρ p.2).bind fun q => zipW p.1 q.1 q.2 := rfl
theorem zlg : zlr true ρ st = some (.ref st.length, st ++ [.dt []]) := rfl
theorem zlh : zlr false ρ st = some (.ref st.length, st ++ [.dk []]) := rfl
theorem zap {r : Option (Fl × Sto)} (h : ms ρ st = some (.nx ρ1, s1)) (k : mq ρ1 s1 = r) : mSeq ms mq ρ st = r := by
 unfold mSeq
 rw [h]
 exact k
theorem zg9 {s : Sto} (h : ms ρ st = some (.rt d, s)) : mSeq ms mq ρ st = some (.rt d, s) := by
 unfold mSeq
 rw [h]
 rfl
theorem zcU {N : Nat} {s : Sto} (h : ms (rho N ds) st = some (.rt d, s)) : fnM N ms ds st = some (d, s) := by
 unfold fnM
 rw [h]
 rfl
theorem zbZ {k : Nat} (h : k ≤ 10000 := by decide) : fits k = true := zax h
theorem zqp : fits 0 = true := zbZ
theorem zqo : fits 1 = true := zbZ
theorem zqn : fits 2 = true := zbZ
theorem zqm : fits 3 = true := zbZ
theorem zql : fits 4 = true := zbZ
theorem zqk : fits 5 = true := zbZ
theorem zqj : fits 6 = true := zbZ
theorem zqi : fits 7 = true := zbZ
theorem zqh : fits 8 = true := zbZ
theorem zbk {k : Int} (h0 : 0 ≤ k) (h1 : k ≤ 1000000) : small k = true := by
 unfold small
 simp
 omega
theorem zcr {n : Nat} {ds : List D} {k : Int} {x : D} (h : st[n]? = some (.lst ds)) (h0 : 0 ≤ k) (hx : ds[k.toNat]? = some x) : ixA (.ref n) (.int k) st = some (x, st) := by
 have hl := getElem?_lt hx
 have h1 : k < ds.length := by omega
 simp [ixA, orG, idxD, zbj, h, atI, ixN, h0, h1, zfs]
 exact (List.getElem?_eq_some_iff.mp hx).2
theorem za2 {ds : List D} {k : Int} {x : D} (h0 : 0 ≤ k) (hx : ds[k.toNat]? = some x) : ixA (.tup ds) (.int k) st = some (x, st) := by
 have hl := getElem?_lt hx
 have h1 : k < ds.length := by omega
 simp [ixA, orG, idxD, atI, ixN, h0, h1, zfs]
 exact (List.getElem?_eq_some_iff.mp hx).2
theorem zp8 {ds : List D} {k : Int} {x : D} (h0 : 0 ≤ k) (hx : ds[k.toNat]? = some x) : ixA (.kl ds) (.int k) st = some (x, st) := by
 have hl := getElem?_lt hx
 have h1 : k < ds.length := by omega
 simp [ixA, orG, idxD, atI, ixN, h0, h1, zfs]
 exact (List.getElem?_eq_some_iff.mp hx).2
theorem zhI {z : Str} {k : Int} {c : Nat} (hz : z.length ≤ 10000) (h0 : 0 ≤ k) (hx : z.cps[k.toNat]? = some c) : ixA (.str z) (.int k) st = some (.str ⟨#[c]⟩, st) := by
 have hl : k.toNat < z.cps.size := (Array.getElem?_eq_some_iff.mp hx).1
 have h1 : k < z.cps.size := by omega
 have hf : fits z.length = true := zax hz
 simp [ixA, orG, idxD, atI, ixN, h0, h1, zfs, hf]
 exact (Array.getElem?_eq_some_iff.mp hx).2
theorem zjK {n : Nat} (h : st[n]? = some (.lst ds)) : lenD [.ref n] st = some (.int ds.length, st) := by simp [lenD, zbj, h]
theorem zgb : lenD [.tup ds] st = some (.int ds.length, st) := rfl
theorem zkN : lenD [.kl ds] st = some (.int ds.length, st) := rfl
theorem zbW {n : Nat} (h : st[n]? = some (.lst ds)) : zdg [.ref n] st = some (.tup ds, st) := by simp [zdg, zbj, h]
theorem add_int (a b : Int) : addD (.int a) (.int b) st = some (.int (a + b), st) := rfl
theorem sub_int (a b : Int) : subD (.int a) (.int b) st = some (.int (a - b), st) := rfl
theorem mul_int {a b : Int} (h : -1000000 ≤ a∧a ≤ 1000000) : mulA (.int a) (.int b) st = some (.int (a * b), st) := by
 have : in64 a = true := by unfold in64; simp; omega
 simp [mulA, orG, mulD, intD, this, zfs]
theorem zjY {a b : List D} (ha : a ≠ []) (h : a.length + b.length ≤ 10000) : addD (.tup a) (.tup b) st = some (.tup (a ++ b), st) := by
 have : fits (a.length + b.length) = true := zax h
 cases a with
 | nil => exact absurd rfl ha
 | cons x a => simp [addD, this] at *
theorem zm8 {a b : Nat} {x y : List D} (ha : st[a]? = some (.lst x)) (hb : st[b]? = some (.lst y)) (h : x.length + y.length ≤ 10000) : addD (.ref a) (.ref b) st = some (.ref st.length, st ++ [.lst (x ++ y)]) := by
 have : fits (x.length + y.length) = true := zax h
 simp [addD, ha, hb, this]
theorem append_at {n : Nat} {x : D} (h : st[n]? = some (.lst ds)) (hl : ds.length ≤ 10000) : zbT (.ref n) [x] st = some (.non, st.set n (.lst (ds ++ [x]))) := by
 have : ds.length < sizeLine := Nat.lt_of_le_of_lt hl (by decide)
 simp [zbT, h, this]
end
end L2.MP
set_option linter.unusedSimpArgs false
set_option maxHeartbeats 2000000
namespace L2.MP.Hn
open PySem L2.MP
end L2.MP.Hn
namespace L2.MP.Hn
open PySem L2.MP
end L2.MP.Hn
namespace L2.MP
open PySem PySem.Builtin PySem.Builtin.Str
theorem len_list (a : Str) : a.length = a.cps.toList.length := rfl
end L2.MP
namespace L2.MP
open PySem
theorem zfM {n : Nat} {st : Sto} {x : Str} (h : PyData.strOk x = true) : toP (n + 1) st (.str x) = some (.str x) := by
 rw [toP]
 simp [h]
theorem eq_int (a b : Int) (st : Sto) : eqD (.int a) (.int b) st = some (.bl (a == b), st) := by
 unfold eqD
 rw [toP, toP]
 simp [PyData.eqv]
end L2.MP
namespace L2.MP.Hn
open PySem L2.MP
abbrev zaH : Str := "abcdefghijklmnopqrstuvwxyz"
theorem zcD : ∀ k : Nat, k < 26→zaH.cps[k]? = some (97 + k) := by decide +kernel
end L2.MP.Hn
namespace L2.MP.Hn
open PySem L2.MP
end L2.MP.Hn
namespace L2.MP
open PySem
def zbq (p : Str × Int) : D := .tup [.str p.1, .int p.2]
def zbv (k : List Str) : D := .tup (k.map D.str)
end L2.MP
namespace L2.MP.Hn
open PySem L2.MP
end L2.MP.Hn
namespace L2.MP.Hn
open PySem L2.MP
theorem zd1 {st : Sto} {l : Nat} {ss : List Str} (hl : st[l]? = some (.lst (ss.map D.str))) (h : ss.length < 64) : zb6 [.ref l] st = some (.ref st.length, st ++ [.lst ((zcZ ss).map D.str)]) := by
 simp [zb6, orN, zcn, zbj, hl, zey, h, zfs]
end L2.MP.Hn
namespace L2.MP
open PySem
theorem zeX : ∀ t : List Int, intsOf (t.map D.int) = some t
 | [] => rfl
 | x :: t => by rw [List.map_cons, intsOf, zeX t]; rfl
theorem zeH : ∀ {rows : List (List Int)}, (∀ r ∈ rows, r ≠ [])→rowsOf (rows.map tupD) = some rows
 | [], _ => rfl
 | r :: rows, h => by
   have hr : rowOf (tupD r) = some r := by
     unfold rowOf tupD
     simp only [zeX, Option.bind_some]
     have : r.isEmpty = false := by
       cases r with
       | nil => exact absurd rfl (h [] List.mem_cons_self)
       | cons a b => rfl
     simp [this]
   rw [List.map_cons, rowsOf, hr, Option.bind_some, zeH fun q hq => h q (List.mem_cons_of_mem _ hq)]
   rfl
theorem zg5 {st : Sto} {l : Nat} {rows : List (List Int)} (hl : st[l]? = some (.lst (rows.map tupD))) (h : ∀ r ∈ rows, r ≠ []) (h64 : rows.length < 64) : zb6 [.ref l] st = some (.ref st.length, st ++ [.lst ((zij rows).map tupD)]) := by
 match rows, hl, h, h64 with
 | [], hl, h, h64 => simp [zb6, orN, zcn, zbj, hl, strsOf, zcZ, zij, zfs]
 | [r], hl, h, h64 =>
   have e : strsOf [tupD r] = none := rfl
   simp [zb6, orN, zcn, zdi, zbj, hl, e, zij, zfs, zgN]
 | r :: q :: rows, hl, h, h64 =>
   have e : strsOf (tupD r :: tupD q :: rows.map tupD) = none := rfl
   have e2 := zeH h
   simp only [List.map_cons] at e2
   simp at h64
   have h2 : rows.length + 1 + 1 < 64 := by omega
   simp [zb6, orN, zcn, zdi, zd2, zbj, hl, e, e2, zfs, zgN, h2]
theorem zeA (rows : List (List Int)) : (zij rows).Perm rows := List.mergeSort_perm _ _
abbrev Tl := Int × Int × Int
def kvOf (t : Tl) : List Key × D := ([Sum.inl t.1, Sum.inl t.2.1], .int t.2.2)
def rowT (t : Tl) : List Int := [t.1, t.2.1, t.2.2]
def zbm (a b : Tl) : Bool := decide (a.1 = b.1) && decide (a.2.1 = b.2.1)
def putT (l : List Tl) (t : Tl) : List Tl := if l.any (fun u => zbm u t) = true then l.map (fun u => if zbm u t = true then t else u) else l ++ [t]
theorem zhF (u t : Tl) : decide ((kvOf u).1 = (kvOf t).1) = zbm u t := by
 unfold kvOf zbm
 by_cases h1 : u.1 = t.1 <;> by_cases h2 : u.2.1 = t.2.1 <;> simp [h1, h2]
theorem zjC (l : List Tl) (t : Tl) : putD (l.map kvOf) (kvOf t).1 (kvOf t).2 = (putT l t).map kvOf := by
 unfold putD putT
 have e : ((l.map kvOf).any fun kv => decide (kv.1 = (kvOf t).1)) = l.any fun u => zbm u t := by
   rw [List.any_map]
   congr 1
   funext u
   exact zhF u t
 rw [e]
 split
 · rw [List.map_map, List.map_map]
   apply List.map_congr_left
   intro u _
   show (if (kvOf u).1 = (kvOf t).1 then _ else _) = kvOf (if zbm u t = true then t else u)
   by_cases h : zbm u t = true
   · have h' : (kvOf u).1 = (kvOf t).1 := of_decide_eq_true ((zhF u t).trans h)
     rw [if_pos h', if_pos h, h']
   · have h' : ¬ (kvOf u).1 = (kvOf t).1 := fun z => h ((zhF u t).symm.trans (decide_eq_true z))
     rw [if_neg h', if_neg h]
 · rw [List.map_append]
   rfl
def PlNd (l : List Tl) : Prop := l.Pairwise fun a b => zbm a b = false
theorem zdI (a b : Tl) : zbm a b = zbm b a := by
 unfold zbm
 by_cases h1 : a.1 = b.1 <;> by_cases h2 : a.2.1 = b.2.1 <;> simp [h1, h2, eq_comm]
theorem zjB {l : List Tl} {t : Tl} (h : PlNd l) : PlNd (putT l t) := by
 unfold putT
 split
 · unfold PlNd at *
   rw [List.pairwise_map]
   refine h.imp fun {a b} hab => ?_
   have eqp : ∀ {a b c : Tl}, zbm a b = true→zbm a c = zbm b c := fun {a b c} q => by
     unfold zbm at *
     simp at q
     rw [q.1, q.2]
   by_cases ha : zbm a t = true
   · by_cases hb : zbm b t = true
     · have h1 : zbm a b = zbm t b := eqp ha
       rw [zdI] at hb
       rw [h1, hb] at hab
       cases hab
     · rw [if_pos ha, if_neg hb, zdI]
       simpa using hb
   · by_cases hb : zbm b t = true
     · rw [if_neg ha, if_pos hb]
       simpa using ha
     · rw [if_neg ha, if_neg hb]
       exact hab
 · rename_i hn
   unfold PlNd at *
   rw [List.pairwise_append]
   refine ⟨h, List.pairwise_singleton _ _, fun a ha b hb => ?_⟩
   rw [List.mem_singleton.mp hb]
   cases e : zbm a t with
   | false => rfl
   | true => exact absurd (List.any_eq_true.mpr ⟨a, ha, e⟩) hn
theorem zfp {P : Tl→Prop} {l : List Tl} {t : Tl} (h : ∀ u ∈ l, P u) (ht : P t) : ∀ u ∈ putT l t, P u := by
 unfold putT
 split
 · intro u hu
   obtain ⟨v, hv, rfl⟩ := List.mem_map.mp hu
   split
   · exact ht
   · exact h v hv
 · intro u hu
   rcases List.mem_append.mp hu with hu | hu
   · exact h u hu
   · rw [List.mem_singleton.mp hu]; exact ht
theorem zfo (l : List Tl) (t : Tl) : (putT l t).length ≤ l.length + 1 := by
 unfold putT
 split
 · rw [List.length_map]; omega
 · simp
theorem zh0 {st : Sto} {t : Nat} {l : List Tl} {x y k : Int} (h : st[t]? = some (.dt (l.map kvOf))) (hl : l.length ≤ 1000) : dput st t (.tup [.int x, .int y]) (.int k) = some (st.set t (.dt ((putT l (x, y, k)).map kvOf))) := by
 have h1 : (l.map kvOf).length < sizeLine := Nat.lt_of_le_of_lt (by rw [List.length_map]; exact hl) (by decide)
 have e := zjC l (x, y, k)
 have e1 : keysOf [.int x, .int y] = some (kvOf (x, y, k)).1 := rfl
 have e2 : D.int k = (kvOf (x, y, k)).2 := rfl
 unfold dput
 simp only [h, e1, Option.bind_some]
 rw [e2, e, if_pos (decide_eq_true h1)]
end L2.MP
namespace L2.MP.Hn
open PySem L2.MP
def zat (ts : List Tl) : D := .tup (ts.map fun t => tupD (rowT t))
end L2.MP.Hn
namespace L2.MP.Hn
open PySem L2.MP
end L2.MP.Hn
namespace L2.MP.Hn
open PySem L2.MP
def zoY (r : List Int) : Tl := (r.getD 0 0, r.getD 1 0, r.getD 2 0)
def srtT (l : List Tl) : List Tl := (zij (l.map rowT)).map zoY
theorem zcz (l : List Tl) : (srtT l).Perm l := by
 have := (zeA (l.map rowT)).map zoY
 rw [List.map_map] at this
 have e : zoY ∘ rowT = id := by funext t; rfl
 rw [e, List.map_id] at this
 exact this
theorem ziw (l : List Tl) : (srtT l).map rowT = zij (l.map rowT) := by
 unfold srtT
 rw [List.map_map]
 conv => rhs; rw [← List.map_id (zij (l.map rowT))]
 apply List.map_congr_left
 intro r hr
 obtain ⟨t, _, rfl⟩ := List.mem_map.mp ((zeA _).mem_iff.mp hr)
 rfl
theorem zby {st : Sto} {l : Nat} {ts : List Tl} (hl : st[l]? = some (.lst (ts.map fun t => tupD (rowT t)))) (h64 : ts.length < 64) : zb6 [.ref l] st = some (.ref st.length, st ++ [.lst ((srtT ts).map fun t => tupD (rowT t))]) := by
 have hl' : st[l]? = some (.lst ((ts.map rowT).map tupD)) := by rw [List.map_map]; exact hl
 have e := zg5 hl' (fun r hr => by obtain ⟨t, _, rfl⟩ := List.mem_map.mp hr; simp [rowT]) (by rw [List.length_map]; exact h64)
 rw [← ziw, List.map_map] at e
 exact e
end L2.MP.Hn
set_option maxHeartbeats 4000000
namespace L2.MP
open PySem PySem.Spec PyProof.Rows
section
variable {X : Cx} {K : PySem.W.Frag} {H : Hp} {io : List Addr} {st st' : Sto} {a b c e : Expr} {es : List Expr} {ma mb mc m : ME} {mm : MA} {pos : Pos}
def zc2 : D→List D→Sto→Option (D × Sto) := fun x xs st => match x, xs with
 | .ref n, [.ref k] => match st[n]?, st[k]? with
   | some (.lst ds), some (.lst zs) => if fits (ds.length + zs.length) = true then some (.non, st.set n (.lst (ds ++ zs))) else none
   | _, _ => none
 | _, _ => none
theorem extend_in {x : D} {xs : List D} {d : D} (h : zc2 x xs st = some (d, st')) : ∃ n k ds zs, x = .ref n∧xs = [.ref k]∧st[n]? = some (.lst ds)∧st[k]? = some (.lst zs)∧ds.length + zs.length ≤ sizeLine∧d = .non∧st' = st.set n (.lst (ds ++ zs)) := by
 unfold zc2 at h
 split at h
 · rename_i n k
   split at h
   · rename_i ds zs e1 e2
     obtain ⟨hf, h⟩ := zao h
     cases h
     exact ⟨n, k, ds, zs, rfl, rfl, e1, e2, of_decide_eq_true hf, rfl, rfl⟩
   · cases h
 · cases h
theorem zhv : MtR X "list.extend" (mtM X.K zc2) := by
 intro pins s σ H x xs v us Q I rx rs ⟨dx, ds, st, io, d, st', Rx, Rs, S, e, k⟩
 obtain ⟨n, j, l, zs, rfl, rfl, e1, e2, hl, rfl, rfl⟩ := extend_in e
 obtain ⟨p, rfl, hp⟩ := Rx
 obtain ⟨w, rfl, Rw⟩ := Rs.one
 obtain ⟨q, rfl, hq⟩ := Rw
 obtain ⟨ys, hH, r⟩ := S.ob n p _ hp e1
 obtain ⟨ws, hB, r2⟩ := S.ob j q _ hq e2
 refine ziX pins s σ H _ _ v us Q I rx rs ⟨p, q, ys, ws, rfl, rfl, hH, hB, by rw [r.length, r2.length]; exact hl, ?_⟩
 obtain ⟨E', S'⟩ := zfn (o := .lst (ys ++ ws)) (ob := .lst (l ++ zs)) S hp e1 (fun o u z => by rw [hH] at z; cases z) fun H' T e' => ⟨_, e', (Reps.mono T r).append (Reps.mono T r2)⟩
 exact k _ _ [] E' S' rfl
def mExt (m : ME) (mm : MA) : ME := fun ρ st => (m ρ st).bind fun (x, s1) => match x with
 | .ref n => (zbj s1 n).bind fun _ => (mm ρ s1).bind fun (xs, s2) => zc2 x xs s2
 | _ => none
theorem ziD {o : Expr} {apos cpos : Pos} (ho : SE X o m) (ha : SA X (e :: es) mm)
   (hbase : attributeBase o "extend" X.env (eval o X.env) = eval o X.env := by rfl)
   (hfew : ((backTo cpos (starEach (e :: es) X.env)).all (fun x => !x.1) && (backToKw cpos (keywordEach [] X.env)).all (fun x => x.1.isSome)
     && decide ((e :: es).length + ([] : List Keyword).length + (if ([] : List Keyword).isEmpty then 0 else 1) < 30)) = true := by rfl)
   (hline : (apos.endLine == cpos.line) = true := by rfl) (hs : starEach (e :: es) X.env = (false, eval e X.env) :: starEach es X.env := by rfl) (hplain : (backTo cpos (starEach es X.env)).any (·.1) = false := by rfl) :
   SE X (.Call (.Attribute o "extend" apos) (e :: es) [] cpos) (mExt m mm) :=
 PE.imp (zph PySem.F.plainAttrs_list PySem.F.slot_list_extend PySem.F.type_list_extend zhv ho ha hbase hfew hline hs hplain) fun σ H Q ⟨ρ, st, io, d, st', E, S, e, k⟩ => by
   obtain ⟨⟨x, s1⟩, e1, e⟩ := zad e
   cases x with
   | ref n =>
     obtain ⟨l, e0, e⟩ := zad e
     obtain ⟨⟨xs, s2⟩, e2, e⟩ := zad e
     refine ⟨ρ, st, io, _, s1, E, S, e1, fun v1 H1 k1 X1 S1 R1 => ⟨zgR R1 S1 e0, ρ, s1, io ++ k1, xs, s2, E.ext S X1, S1, e2, fun vs H2 k2 X2 S2 R2 => ?_⟩⟩
     exact ⟨_, xs, s2, (io ++ k1) ++ k2, d, st', R1.ext S1 X2, R2, S2, e, (k.on S1 X1).on S2 X2⟩
   | _ => cases e
theorem zo9 {ρ : Rho} : mExt m mm ρ st = (m ρ st).bind fun p => match p.1 with
 | .ref n => (zbj p.2 n).bind fun _ => (mm ρ p.2).bind fun q => zc2 p.1 q.1 q.2
 | _ => none := rfl
end
end L2.MP
set_option maxHeartbeats 2000000
namespace L2.MP
open PySem
theorem zgi {W : Wk} {g : MG} {c : MT} {m : ME} {α : Type} {f h : α→D} {p : α→Bool} {R : Rho→Prop} : ∀ {as : List α} {ρ : Rho} {st : Sto}, R ρ→walked W st = true→(∀ a ∈ as, ∀ ρ, R ρ→∃ ρ1, g (f a) ρ st = some (ρ1, st)∧c ρ1 st = some (p a, st)∧(p a = true→m ρ1 st = some (h a, st))∧R ρ1) →
   mCI W g c m (as.map f) ρ st = some ((as.filter p).map h, st)
 | [], ρ, st, r, wk, _ => by unfold mCI; rw [List.map_nil]; simp only [wk, if_true, List.filter_nil, List.map_nil]
 | a :: as, ρ, st, r, wk, hs => by
   obtain ⟨ρ1, e1, e2, e3, r1⟩ := hs a List.mem_cons_self ρ r
   have e := zgi (W := W) (g := g) (c := c) (m := m) (f := f) (h := h) (p := p) (R := R) (as := as) r1 wk fun b hb => hs b (List.mem_cons_of_mem _ hb)
   rw [List.map_cons]
   unfold mCI
   rw [if_pos wk, e1]
   cases hp : p a with
   | true =>
     rw [hp] at e2
     simp only [Option.bind_some, e2, if_true, e3 hp, e, Option.map_some, List.filter_cons, hp, List.map_cons]
   | false =>
     rw [hp] at e2
     simp only [Option.bind_some, e2, Bool.false_eq_true, if_false, e, List.filter_cons, hp]
end L2.MP
namespace L2.MP.Hn
open PySem L2.MP
theorem zgf {st : Sto} {n k : Nat} {ds zs : List D} (h : st[n]? = some (.lst ds)) (h' : st[k]? = some (.lst zs)) (hl : ds.length + zs.length ≤ 10000) : zc2 (.ref n) [.ref k] st = some (.non, st.set n (.lst (ds ++ zs))) := by
 have : fits (ds.length + zs.length) = true := zax hl
 simp [zc2, h, h', this]
end L2.MP.Hn
set_option maxHeartbeats 4000000
namespace L2.MP
open PySem PySem.Spec PyProof.Rows
section
theorem zhX (x : Sr) (o : Obj) (xs : Array Value) : Meets (Builtin.«enumerate.__new__» ⟨[.type "enumerate", .ref x.ad], []⟩) (fun _ R s => s.heap.get? x.ad = some o∧x.is s.heap xs ∧
     R (.ok (.ret (.ref (s.heap.push x.ob).objs.size))) { s with heap := (s.heap.push x.ob).push { cls := .type "enumerate", data := .fields #[.none, .bool false, .ref s.heap.objs.size, rawInt 0, .none, .none] } }) :=
 .of_wp fun prog w A R s h => by
   obtain ⟨hp, g, d, tk, os⟩ := s
   obtain ⟨h1, h2, h⟩ := h
   have hsub := sub_enumerate
   have hx : x.is (Shared.heap ⟨hp, g, d, tk, os⟩) xs := h2
   wp_walk using AutoSeq1.wpAny_loadPart' h1
   refine wpAny_stack_any fun sk => wpAny_pure ?_
   split
   · rename_i c _ _ _ _ _
     cases (c == Value.type "enumerate")
     · wp_walk using AutoSeq1.wpAny_loadPart' h1, Sr.iter hx
       exact ⟨_, rfl, h⟩
     · wp_walk using AutoSeq1.wpAny_loadPart' h1, Sr.iter hx
       exact ⟨_, rfl, h⟩
   · wp_walk using AutoSeq1.wpAny_loadPart' h1, Sr.iter hx
     exact ⟨_, rfl, h⟩
end
section
variable {prog : Program} {w : World} {A : Around} {E : Value→Shared→Prop} {s : Shared}
theorem Sr.is_get {h : Heap} {xs : Array Value} {x : Sr} (q : x.is h xs) : ∃ o, h.get? x.ad = some o := by
 cases x with
 | l a => obtain ⟨o, g, _⟩ := q; exact ⟨o, g⟩
 | t a => obtain ⟨o, g, _⟩ := q; exact ⟨o, g⟩
theorem zia {x : Sr} {xs : Array Value} {R : Value→Shared→Prop} (hx : x.is s.heap xs) (k : ∀ h', IsEnum h' (s.heap.objs.size + 1) s.heap.objs.size 0 .none→x.at_ h' s.heap.objs.size 0→(∀ c u, s.heap.get? c = some u→h'.get? c = some u)→R (.ref (s.heap.objs.size + 1)) { s with heap := h' }) :
   wpAny (model prog w) A (call (.type "enumerate") [.ref x.ad]) R E s := by
 obtain ⟨o, g⟩ := Sr.is_get hx
 refine callType_new F.called_enumerate (by decide) (F.typeCall_enumerate_1 _) (F.newCall_enumerate_1 _) (fun obj => F.args_object_init_2 obj _) F.entry_enumerate_new (zhX x o xs) ⟨g, hx, ?_⟩
 have z1 : (s.heap.push x.ob).objs.size = s.heap.objs.size + 1 := Heap.size_push ..
 have f2 : ((s.heap.push x.ob).push { cls := .type "enumerate", data := .fields #[.none, .bool false, .ref s.heap.objs.size, rawInt 0, .none, .none] }).get? (s.heap.push x.ob).objs.size = some { cls := .type "enumerate", data := .fields #[.none, .bool false, .ref s.heap.objs.size, rawInt 0, .none, .none] } := Heap.get?_push_size _ rfl
 have f1 : ((s.heap.push x.ob).push { cls := .type "enumerate", data := .fields #[.none, .bool false, .ref s.heap.objs.size, rawInt 0, .none, .none] }).get? s.heap.objs.size = some x.ob := Heap.get?_push_of_some _ (Heap.get?_push_size _ (by cases x <;> rfl))
 show _∧_
 rw [z1] at f2 ⊢
 exact ⟨⟨_, f2, rfl⟩, k _ f2 (Sr.at_new f1) fun c u q => Heap.get?_push_of_some _ (Heap.get?_push_of_some _ q)⟩
end
theorem Sr.draws {prog : Program} {w : World} {A : Around} (hh : A.handled = none) (it : Addr) (x : Sr) (hne : x.ad ≠ it) (items : Array Value) : Draws prog w A it [it, x.ad] items.size (fun i v => items[i]? = some v) (fun i h => x.at_ h it i∧x.is h items) where
 live := fun _ _ q => let ⟨o, _, g, _⟩ := Sr.at_get q.1; ⟨o, g⟩
 frame := fun _ _ _ q k => ⟨Sr.at_keep q.1 fun o e => k it (by simp) o e, Sr.is_keep q.2 fun o e => k x.ad (by simp) o e⟩
 item := fun i s Q E hi q k => by
   refine Sr.next q.1 q.2 (v := items[i]) (by simp [hi]) fun h' a b => ?_
   exact k _ h' s.toks (by simp [hi]) ⟨a, Sr.is_keep q.2 fun o e => b.extBut _ _ hne e⟩ b
 done := fun s Q E q k => Sr.stop hh q.1 q.2 (by simp) k
theorem Sr.drawsEnd {prog : Program} {w : World} {A : Around} (hh : A.handled = none) (it : Addr) (x : Sr) (items : Array Value) (n : Nat) (hn : items[n]? = none) : Draws prog w A it [it, x.ad] n (fun _ _ => True) (fun j h => j = n∧x.at_ h it n∧x.is h items) where
 live := fun _ _ q => let ⟨o, _, g, _⟩ := Sr.at_get q.2.1; ⟨o, g⟩
 frame := fun _ _ _ q k => ⟨q.1, Sr.at_keep q.2.1 fun o e => k it (by simp) o e, Sr.is_keep q.2.2 fun o e => k x.ad (by simp) o e⟩
 item := fun i s Q E hi q k => absurd q.1 (Nat.ne_of_lt hi)
 done := fun s Q E q k => Sr.stop hh q.2.1 q.2.2 hn k
def Itn (x : Sr) : It :=
 ⟨fun i H => ∃ xs v, x.sq H xs∧xs[i]? = some v, fun i H r H' => ∃ p v, H p = none∧H' = upd H p (.tup [.int (i : Nat), v])∧r = .ref p∧∀ xs, x.sq H xs→xs[i]? = some v, fun i H => ∃ xs, x.sq H xs∧xs.length ≤ i⟩
theorem zgV {P : Program} {w : World} {K : PySem.W.Frag} {elts : List Expr} {x1} {pos : Pos} (x : Sr) (it e : Addr) (hne : e ≠ it) :
   Turn P w K (.Tuple elts x1 pos) (Itn x) [e, it] e (fun i h => (∃ old, IsEnum h e it (i : Nat) old)∧x.at_ h it i) where
 mem := by simp
 obj := fun i h st b hb => by
   obtain ⟨⟨old, he⟩, hi⟩ := st
   rcases List.mem_cons.mp hb with rfl | hb
   · exact ⟨_, he, fun v z => by cases z⟩
   · rw [List.mem_singleton.mp hb]
     obtain ⟨o, vs, g, d⟩ := Sr.at_get hi
     exact ⟨o, g, fun v z => by rw [d] at z; cases z⟩
 keep := fun i h h' st k => by
   obtain ⟨⟨old, he⟩, hi⟩ := st
   exact ⟨⟨old, k e (by simp) _ he⟩, Sr.at_keep hi fun o q => k it (by simp) o q⟩
 item := by
   intro X hP hw hK hc i pins s σ H E I hf st hg
   subst hP hw hK
   obtain ⟨xs, v, hx, hv⟩ := hg
   obtain ⟨⟨old, he⟩, hi⟩ := st
   obtain ⟨its, rx, ix⟩ := Sr.sq_is I hx
   obtain ⟨v', gv, rv⟩ := rx.get hv
   have fit := (hf it (by simp)).1
   have fe := (hf e (by simp)).1
   have hlt : i < its.toArray.size := by have := (List.getElem?_eq_some_iff.mp gv).1; simpa using this
   refine wpAny_pyNext_enum_itemD (Sr.draws (A := X.A.in1) (I.ok.hd hc) it x (Sr.sq_ne hx fit) its.toArray) he ⟨hi, ix⟩ hlt hne (by
     simp only [List.mem_cons, List.not_mem_nil, or_false, not_or]
     exact ⟨hne, fun z => Sr.sq_ne hx fe z.symm⟩) fun y h1 tk hy he1 st1 t1 z1 k1 => ?_
   have ey : y = v' := by
     have : its[i]? = some y := by simpa using hy
     rw [gv] at this
     exact (Option.some.inj this).symm
   subst ey
   refine ⟨_, rfl, wpAny_letOwnedTupleGo_enum (s := { s with heap := h1, toks := tk + 1 }) he1 fun h2 he2 hb2 => ?_⟩
   have k2 : ∀ b o, b ∉ [e, it]→s.heap.get? b = some o→h2.get? b = some o := fun b o hb q => by
     have n1 : b ≠ e := fun z => hb (by simp [z])
     have n2 : b ≠ it := fun z => hb (by simp [z])
     exact (hb2.2 b n1).trans (k1 b o n1 n2 q)
   have hsz : e ≠ s.heap.objs.size := Nat.ne_of_lt (Heap.lt_size he)
   have t2 : h2.get? s.heap.objs.size = some { cls := .type "tuple", data := .seq #[.int i tk, y] } := (hb2.2 _ hsz.symm).trans t1
   have hi2 : x.at_ h2 it (i + 1) := Sr.at_keep st1.1 fun o q => (hb2.2 it hne.symm).trans q
   refine ⟨.ref s.heap.objs.size, upd H s.heap.objs.size (.tup [.int (i : Nat), v]), ?_, rfl, ⟨_, v, I.hok.fresh (Nat.le_refl _), rfl, rfl, fun ys hy => by rw [Sr.sq_inj hy hx]; exact hv⟩, ⟨⟨_, by exact_mod_cast he2⟩, hi2⟩, fun b hb => ?_⟩
   · exact Inv.turnNew (s := s) (h' := h2) (t' := tk + 1) I hf k2 (Nat.le_refl _) (fun b hb ob q => by
       rcases List.mem_cons.mp hb with rfl | hb
       · exact ⟨_, he2⟩
       · rw [List.mem_singleton.mp hb]
         obtain ⟨o, vs, g, d⟩ := Sr.at_get hi2
         exact ⟨o, g⟩) ⟨by show 2 ≤ sizeLine; decide, [.int i tk, y], .cons ⟨_, rfl⟩ (.cons rv .nil), ⟨_, t2, rfl, rfl, _, rfl⟩⟩
   · rw [zay (fun z => ?_)]
     · exact (hf b hb).1
     · rcases List.mem_cons.mp hb with q | hb
       · exact hsz (q.symm.trans z)
       · have q := List.mem_singleton.mp hb
         obtain ⟨o, vs, g, d⟩ := Sr.at_get hi
         exact (Nat.ne_of_lt (Heap.lt_size g)) (q.symm.trans z)
 done := by
   intro X hP hw hK hc i pins s σ H E I hf st hg
   subst hP hw hK
   obtain ⟨xs, hx, hl⟩ := hg
   obtain ⟨⟨old, he⟩, hi⟩ := st
   obtain ⟨its, rx, ix⟩ := Sr.sq_is I hx
   have l1 := rx.length
   exact wpAny_pyNext_enum_endD (Sr.drawsEnd (A := X.A.in1) (I.ok.hd hc) it x its.toArray i (by simp; omega)) he ⟨rfl, hi, ix⟩ fun h' eb => ⟨rfl, Inv.turnAll (t' := s.toks) I hf fun b o hb q => eb b o (fun z => hb (by simp [z])) q⟩
 self := fun _ _ _ _ _ st h => by
   obtain ⟨⟨old, he⟩, _⟩ := st
   exact wpAny_pyIter_enum he h
section
variable {X : Cx} {K : PySem.W.Frag} {H : Hp} {io : List Addr} {m : ME} {st st' : Sto}
def zpr (x : D) (s : Sto) : Option (Wk × Sto) := (seqD s x).map fun (a, f) => (⟨pairs a, f⟩, s)
def zlp (m : ME) : MI := fun ρ st => (m ρ st).bind fun (x, s1) => zpr x s1
theorem zjy {elts : List Expr} {x1} {tp : Pos} {a : Expr} {p pos : Pos} (hg : Gl X "enumerate") (hm : X.mg "enumerate" = none) (ha : SE X a m) (hs : starEach [a] X.env = [(false, eval a X.env)] := by rfl) :
   SI X (.Tuple elts x1 tp) (.Call (.Name "enumerate" p) [a] [] pos) (zlp m) := by
 intro pins s σ H R I ⟨ρ, st, io, W, st', E, S, e, k⟩
 obtain ⟨⟨x, s1⟩, e1, e⟩ := zad e
 obtain ⟨⟨as, f⟩, e3, e⟩ := zag e
 cases e
 refine Call_ (zhD I hg hm boot_enumerate (PyProof.Rows.callWith_type1 (thn (zaa ha zah hs pos pins s σ H (fun vs H' => ∃ ka, Ext io ka H H'∧StR X.K H' (io ++ ka) st'∧Reps X.K H' (io ++ ka) vs [x]) I ⟨ρ, st, io, [x], st', E, S, zeq e1 rfl, fun vs H1 k1 X1 S1 R1 => ⟨k1, X1, S1, R1⟩⟩) fun us t1 ⟨vs, H1, I1, r1, k1, X1, S1, R1⟩ => ?_) hs rfl))
 obtain ⟨v, rfl, Rx⟩ := R1.one
 obtain ⟨v', rfl, rv⟩ := r1.one
 obtain ⟨xx, rfl, ⟨xs, hx⟩, kx⟩ := zg8 S1 Rx e3
 cases rv
 obtain ⟨its, vx, ix⟩ := Sr.sq_is I1 hx
 refine zia ix fun h' he hi kk => wpAny_pyIter_enum he ?_
 refine ⟨_, _, _, _, H1, rfl, I1.kept (t' := t1.toks) kk, zgV xx t1.heap.objs.size (t1.heap.objs.size + 1) (Nat.succ_ne_self _), ⟨⟨_, he⟩, hi⟩, fun b hb => ?_, ?_⟩
 · have hle : t1.heap.objs.size ≤ b := by
     rcases List.mem_cons.mp hb with q | hb
     · rw [q]; exact Nat.le_succ _
     · rw [List.mem_singleton.mp hb]; exact Nat.le_refl _
   exact I1.fpOk hle (I1.hok.fresh hle)
 · refine k _ H1 k1 X1 S1 ?_
   refine ⟨fun i d H2 k2 s3 hd X2 S2 hs => ?_, fun H2 k2 s3 X2 S2 hs => ?_, fun H2 k2 s3 i hi X2 S2 hs => ?_⟩
   · obtain ⟨xs2, qx, rx⟩ := kx H2 k2 s3 X2 S2 hs
     obtain ⟨dx, g1, rfl⟩ := zf1 hd
     obtain ⟨u1, gu, ru⟩ := rx.get g1
     refine ⟨⟨xs2, u1, qx, gu⟩, fun r H' yl => ?_⟩
     obtain ⟨q, u2, hq, rfl, rfl, yu⟩ := yl
     have e5 := yu xs2 qx
     rw [gu] at e5
     cases e5
     obtain ⟨E', S'⟩ := zf6 (o := .tup [.int (i : Nat), u1]) S2 hq
     rw [List.append_nil] at S'
     refine ⟨E', S', ⟨q, _, rfl, zbi, ?_⟩⟩
     have r2 := ru.ext S2 E'
     rw [List.append_nil] at r2
     exact Reps.cons rfl (Reps.cons r2 Reps.nil)
   · obtain ⟨xs2, qx, rx⟩ := kx H2 k2 s3 X2 S2 hs
     exact ⟨xs2, qx, by show xs2.length ≤ (pairs as).length; rw [pairs_len, rx.length]; exact Nat.le_refl _⟩
   · obtain ⟨xs2, qx, rx⟩ := kx H2 k2 s3 X2 S2 hs
     have hi : (pairs as).length ≤ i := hi
     rw [pairs_len] at hi
     exact ⟨xs2, qx, by rw [rx.length]; exact hi⟩
end
end L2.MP
namespace L2.MP
open PySem PySem.Spec PyProof.Rows
section
variable {X : Cx} {K : PySem.W.Frag} {H : Hp} {io : List Addr} {m : ME} {st st' : Sto}
theorem zm5 {ρ : Rho} : zlp m ρ st = (m ρ st).bind fun p => zpr p.1 p.2 := rfl
end
end L2.MP
namespace L2.MP
open PySem PySem.Spec PyProof.Rows
section
variable {X : Cx} {K : PySem.W.Frag} {H : Hp} {io : List Addr} {m ma mb mc : ME} {st st' : Sto} {a b c : Expr} {pos : Pos}
def zhB (g g' : G2) (ma mb mc : ME) : ME := fun ρ st => (ma ρ st).bind fun (x, s1) => (mb ρ s1).bind fun (y, s2) => (g x y s2).bind fun (z, s3) => match z with
 | .bl q => if q = true then (mc ρ s3).bind fun (w, s4) => g' y w s4 else some (.bl false, s3)
 | _ => none
theorem zgJ {g g' : G2} {σ : L2.St} {H : Hp} {Q : VK} (h : tE K (zhB g g' ma mb mc) σ H Q) : zlD (r2M K g) (r2M K g') (tE K ma) (tE K mb) (tE K mc) σ H Q := by
 obtain ⟨ρ, st, io, d, st', E, S, e, k⟩ := h
 obtain ⟨⟨x, s1⟩, e1, e⟩ := zad e
 obtain ⟨⟨y, s2⟩, e2, e⟩ := zad e
 obtain ⟨⟨z, s3⟩, e3, e⟩ := zad e
 refine ⟨ρ, st, io, x, s1, E, S, e1, fun v1 H1 k1 X1 S1 R1 => ?_⟩
 refine ⟨ρ, s1, io ++ k1, y, s2, E.ext S X1, S1, e2, fun v2 H2 k2 X2 S2 R2 => ?_⟩
 refine ⟨x, y, s2, (io ++ k1) ++ k2, z, s3, R1.ext S1 X2, R2, S2, e3, fun v3 H3 k3 X3 S3 R3 => ?_⟩
 have k' := ((k.on S1 X1).on S2 X2).on S3 X3
 dsimp only at e
 split at e
 · rename_i q
   refine ⟨q, R3, ?_⟩
   cases q with
   | true =>
     rw [if_pos rfl] at e ⊢
     obtain ⟨⟨w, s4⟩, e4, e5⟩ := zad e
     refine ⟨ρ, s3, ((io ++ k1) ++ k2) ++ k3, w, s4, ((E.ext S X1).ext S1 X2).ext S2 X3, S3, e4, fun v4 H4 k4 X4 S4 R4 => ?_⟩
     exact ⟨y, w, s4, (((io ++ k1) ++ k2) ++ k3) ++ k4, d, st', (R2.ext S2 X3).ext S3 X4, R4, S4, e5, k'.on S4 X4⟩
   | false =>
     rw [if_neg Bool.false_ne_true] at e ⊢
     cases e
     exact Bh.now k' S3 rfl
 · cases e
theorem zkd {op op' : CmpOp} {g g' : G2} (ho : OpM X (compareOp op) g) (ho' : OpM X (compareOp op') g') (ha : SE X a ma) (hb : SE X b mb) (hc : SE X c mc) (hm : lastMarks [op, op'] [b, c] = false := by with_unfolding_all rfl) :
   SB X (.Compare a [op, op'] [b, c] pos) (mTst (zhB g g' ma mb mc)) := PT.imp (zkk ho ho' ha hb hc hm) fun _ _ _ h => zgJ (zcx h)
end
end L2.MP
namespace L2.MP
open PySem PySem.Spec PyProof.Rows
abbrev Spr := Str × Int
def encL (xs : List Nat) (i : Int) : List Int := (xs.map fun (c : Nat) => (c : Int)) ++ [-1, i]
def enc (t : Spr) : List Int := encL t.1.cps.toList t.2
theorem zjQ (i j : Int) : ∀ xs ys : List Nat, HT.lexLt (encL xs i) (encL ys j) = if xs = ys then decide (i < j) else decide (xs < ys)
 | [], [] => by
   show HT.lexLt [-1, i] [-1, j] = _
   rw [HT.lexLt_cons, if_pos rfl, HT.lexLt_cons, HT.lexLt_nil_nil, if_pos rfl]
   by_cases h : i = j
   · simp [h]
   · simp [h]
 | [], y :: ys => by
   show HT.lexLt (-1 :: [i]) ((y : Int) :: encL ys j) = _
   have h1 : ¬ (-1 : Int) = (y : Int) := by omega
   have h2 : (-1 : Int) < (y : Int) := by omega
   rw [HT.lexLt_cons, if_neg h1, decide_eq_true h2]
   simp
 | x :: xs, [] => by
   show HT.lexLt ((x : Int) :: encL xs i) (-1 :: [j]) = _
   have h1 : ¬ (x : Int) = (-1 : Int) := by omega
   have h2 : ¬ (x : Int) < (-1 : Int) := by omega
   rw [HT.lexLt_cons, if_neg h1, decide_eq_false h2]
   simp
 | x :: xs, y :: ys => by
   show HT.lexLt ((x : Int) :: encL xs i) ((y : Int) :: encL ys j) = _
   rw [HT.lexLt_cons, zjQ i j xs ys]
   by_cases h : x = y
   · subst h
     rw [if_pos rfl]
     by_cases h2 : xs = ys
     · subst h2
       simp
     · have : ¬ x :: xs = x :: ys := fun z => h2 (List.cons.inj z).2
       rw [if_neg h2, if_neg this]
       congr 1
       simp [List.cons_lt_cons_iff]
   · have h1 : ¬ (x : Int) = (y : Int) := by omega
     have : ¬ x :: xs = y :: ys := fun z => h (List.cons.inj z).1
     rw [if_neg h1, if_neg this]
     by_cases h2 : x < y
     · have h3 : (x : Int) < (y : Int) := by omega
       have h4 : x :: xs < y :: ys := List.cons_lt_cons_iff.mpr (.inl h2)
       rw [decide_eq_true h3, decide_eq_true h4]
     · have h3 : ¬ (x : Int) < (y : Int) := by omega
       have h4 : ¬ x :: xs < y :: ys := fun z => by
         rcases List.cons_lt_cons_iff.mp z with q | q
         · exact h2 q
         · exact h q.1
       rw [decide_eq_false h3, decide_eq_false h4]
theorem zmL {a b : Spr} (h : enc a = enc b) : a = b := by
 have i1 : tle (enc a) (enc b) = true := by rw [h]; unfold tle; rw [zkL]; rfl
 obtain ⟨x, i⟩ := a
 obtain ⟨y, j⟩ := b
 unfold enc encL at h
 have hl := congrArg List.length h
 simp at hl
 obtain ⟨h1, h2⟩ := List.append_inj h (by simp [hl])
 have e1 : x.cps.toList = y.cps.toList := by
   have inj : ∀ {l m : List Nat}, l.map (fun (c : Nat) => (c : Int)) = m.map (fun (c : Nat) => (c : Int))→l = m := by
     intro l
     induction l with
     | nil => intro m q; cases m with
       | nil => rfl
       | cons c m => cases q
     | cons c l ih => intro m q; cases m with
       | nil => cases q
       | cons e m =>
         rw [List.map_cons, List.map_cons] at q
         obtain ⟨q1, q2⟩ := List.cons.inj q
         rw [ih q2, Int.ofNat_inj.mp q1]
   exact inj h1
 have e2 : i = j := by
   obtain ⟨_, q⟩ := List.cons.inj h2
   exact (List.cons.inj q).1
 rw [zfO e1, e2]
def ple (a b : Spr) : Bool := tle (enc a) (enc b)
def znb (ts : List Spr) : List Spr := ts.mergeSort ple
theorem zg6 (ts : List Spr) : (znb ts).Perm ts := List.mergeSort_perm ts ple
theorem ziy (ts : List Spr) : (znb ts).Pairwise fun a b => ple a b = true := List.pairwise_mergeSort (fun a b c => zcy (enc a) (enc b) (enc c)) (fun a b => zdY (enc a) (enc b)) ts
theorem zkn {a b : Spr} (h1 : ple a b = true) (h2 : ple b a = true) : a = b := zmL (zgW h1 h2)
section
variable {prog : Program} {w : World} {A : Around} {E : Value→Shared→Prop} {s : Shared}
theorem zi7 {Q : Bool→Shared→Prop} {a b : Str} {i j : Int} {t1 t2 t3 t4 : Tok} (h : Q (HT.lexLt (enc (a, i)) (enc (b, j))) s) : PySem.W.KatLex prog w A true false Q [(.str a t1, .str b t2), (.int i t3, .int j t4)] 0 s := by
 unfold enc at h
 rw [zjQ] at h
 refine SeqAt.EqAt.str_str a t1 b t2 prog w _ _ ?_
 by_cases e : a = b
 · subst e
   rw [if_pos rfl] at h
   rw [beq_self_eq_true, if_pos rfl]
   refine SeqAt.EqAt.int_int i t3 j t4 prog w _ _ ?_
   by_cases e : i = j
   · subst e
     rw [beq_self_eq_true, if_pos rfl]
     rw [decide_eq_false (Int.lt_irrefl _)] at h
     exact h
   · have hb : (i == j) = false := by simpa using e
     rw [hb, if_neg Bool.false_ne_true]
     exact PySem.W.kat_one _ _ (lt_int h)
 · have hb : (a == b) = false := by simpa using e
   have hc : ¬ a.cps.toList = b.cps.toList := fun z => e (zfO z)
   rw [if_neg hc] at h
   rw [hb, if_neg Bool.false_ne_true]
   exact oneLt_str h
end
section
variable {X : Cx} {pins : List (Addr × Obj)} {σ : L2.St} {H : Hp} {s : Shared}
def zm9 (H : Hp) : List V→List Spr→Prop := Paired fun v t => ∃ a, v = .ref a∧H a = some (.tup [.str t.1, .int t.2])
def si0 : Spr := (⟨#[]⟩, 0)
theorem zhh : ∀ {xs : List V} {ts : List Spr} {i : Nat}, zm9 H xs ts→i < ts.length→∃ a, xs[i]? = some (.ref a)∧H a = some (.tup [.str (ts.getD i si0).1, .int (ts.getD i si0).2])
 | _, [], i, _, hi => absurd hi (by simp)
 | _, t :: ts, 0, .cons r q, _ => by
   obtain ⟨a, rfl, ha⟩ := r
   exact ⟨a, rfl, ha⟩
 | _, t :: ts, i + 1, .cons r q, hi => by
   have := zhh (i := i) q (by simpa using hi)
   simpa using this
theorem zhY {ts : List Spr} {i : Nat} (hi : i < ts.length) : (ts.map enc).getD i [] = enc (ts.getD i si0) := by
 rw [List.getD_eq_getElem?_getD, List.getElem?_map, List.getElem?_eq_getElem hi, List.getD_eq_getElem?_getD, List.getElem?_eq_getElem hi]
 rfl
theorem zmX {A : Around} {xs : List V} {us : List Value} {ts : List Spr} {s' : Shared} (I : Inv X pins σ H s) (hk : ∀ b o, H b ≠ none→s.heap.get? b = some o→s'.heap.get? b = some o) (T : zm9 H xs ts) (r : Vals xs us) {i j : Nat} (hi : i < ts.length) (hj : j < ts.length) (C : Bool→Shared→Prop)
   (h : C (decide (rank (ts.map enc) i < rank (ts.map enc) j)) s') : PySem.W.kas_ask X.prog X.w A (PyProof.Rows.tuples' true) us i j C s' := by
 rw [zhe (by rw [List.length_map]; exact hi), zhY hi, zhY hj] at h
 obtain ⟨a, ea, ha⟩ := zhh T hi
 obtain ⟨b, eb, hb⟩ := zhh T hj
 obtain ⟨u, eu, ru⟩ := r.get ea
 obtain ⟨u2, eu2, ru2⟩ := r.get eb
 cases ru
 cases ru2
 obtain ⟨ia, va, ⟨oa, ga, ca, na, da⟩, _⟩ := I.tuple (SqT.of (K := X.K) ha)
 obtain ⟨ib, vb, ⟨ob, gb, cb, nb, db⟩, _⟩ := I.tuple (SqT.of (K := X.K) hb)
 unfold PySem.W.kas_ask
 rw [List.getD_eq_getElem?_getD, List.getD_eq_getElem?_getD, eu, eu2]
 refine PySem.W.kat_lt (hk _ _ (by rw [ha]; simp) ga) da (hk _ _ (by rw [hb]; simp) gb) db ?_
 cases va with
 | cons r1 t1 =>
   cases t1 with
   | cons r2 t2 =>
     cases t2
     cases vb with
     | cons r3 t3 =>
       cases t3 with
       | cons r4 t4 =>
         cases t4
         obtain ⟨_, rfl⟩ := r1
         obtain ⟨_, rfl⟩ := r2
         obtain ⟨_, rfl⟩ := r3
         obtain ⟨_, rfl⟩ := r4
         exact zi7 h
theorem zjL {h' : Heap} (I : Inv X pins σ H s) (hk : ∀ b o, H b ≠ none→s.heap.get? b = some o→h'.get? b = some o) : ∀ {xs : List V} {us : List Value} {ts : List Spr}, zm9 H xs ts→Vals xs us →
   ∃ fs : List Value, PySem.W.KatTups h' us fs∧fs.length = us.length∧∀ v ∈ fs, ∃ i t, v = Value.str i t
 | _, _, [], .nil, .nil => ⟨[], PySem.W.KatTups.nil, rfl, fun v hv => absurd hv (by simp)⟩
 | _, _, t :: ts, .cons r q, .cons rv rvs => by
   obtain ⟨a, rfl, ha⟩ := r
   cases rv
   obtain ⟨fs, h1, h2, h3⟩ := zjL I hk q rvs
   obtain ⟨its, va, ⟨o, g, c, n, d⟩, _⟩ := I.tuple (SqT.of (K := X.K) ha)
   cases va with
   | @cons _ u _ us' ru rus =>
     obtain ⟨tk, rfl⟩ := ru
     refine ⟨.str t.1 tk :: fs, PySem.W.KatTups.cons (hk _ _ (by rw [ha]; simp) g) c d (by simp) h1, by rw [List.length_cons, List.length_cons, h2], fun v hv => ?_⟩
     rcases List.mem_cons.mp hv with rfl | hv
     · exact ⟨t.1, tk, rfl⟩
     · exact h3 v hv
theorem zg4 {xs : List V} {ts : List Spr} {l : Addr} {Q : VK} (I : Inv X pins σ H s) (hl : SqL X.K H l xs) (T : zm9 H xs ts) (h2 : 2 ≤ ts.length) (h64 : ts.length < 64)
   (h : ∀ (q : Array Nat) (p : Addr), q.Perm (List.toArray (List.range ts.length))→Srt.Up (rank (ts.map enc)) q ts.length→H p = none→Q (.ref p) (upd H p (.lst (q.toList.map fun i => xs.getD i .non)))) :
   wpAny (model X.prog X.w) X.A (call (.builtin "sorted") [.ref l]) (EP X pins σ Q) X.xe s := by
 obtain ⟨its, rv, pl, hz⟩ := I.list hl
 have hlen : its.length = ts.length := by
   have a := rv.length
   have b := Paired.length T
   omega
 obtain ⟨m, F⟩ := I.fr
 have trkL : ∀ b, H b ≠ none→b ≠ X.env.locals := fun b hb z => hb (by rw [z]; exact I.free)
 have trkB : ∀ b, H b ≠ none→X.base.get? b = none := fun b hb => by
   cases e : X.base.get? b with
   | none => rfl
   | some o => exact absurd (I.bs b o e).2 hb
 refine PySem.W.kat_sorted F (zht (g := X.base) (h := s.heap) (L := X.env.locals)) pl.isList (by omega) (by omega) fun D e1 h' F' N' hlt => ?_
 have keep : ∀ {h2 : Heap} {o : Obj}, PyProof.Rows.Fr X.base X.env.locals h2 m→News X.base X.env.locals h2 ((D, o) :: ze5 X.base s.heap X.env.locals)→∀ b u, b ≠ X.env.locals→s.heap.get? b = some u→h2.get? b = some u := fun {h2 o} F2 N2 b u hb e => by
   cases q : X.base.get? b with
   | some v =>
     have z := (I.bs b v q).1
     rw [e] at z; cases z
     exact F2.keep b _ q
   | none => exact (N2 (b, u) (List.mem_cons_of_mem _ (zcf hb q e))).1
 have hk : ∀ b o, H b ≠ none→s.heap.get? b = some o→h'.get? b = some o := fun b o hb e => keep F' N' b o (trkL b hb) e
 have hDD := N' _ List.mem_cons_self
 have hsD : s.heap.get? D = none := by
   cases e : s.heap.get? D with
   | none => rfl
   | some u => exact absurd (hlt _ (zcf hDD.2.1 hDD.2.2 e)) (Nat.lt_irrefl _)
 have hHD : H D = none := by
   cases e : H D with
   | none => rfl
   | some o =>
     obtain ⟨u, hu⟩ := zf4 (I.hok D o e)
     rw [hsD] at hu; cases hu
 obtain ⟨fs, k1, k2, k3⟩ := zjL (h' := h') I hk T rv
 refine PySem.W.kat_kind (s := { s with heap := h' }) (T := .type "str") k1 (by omega) (fun v hv => ?_) rfl ?_
 · obtain ⟨i, t, rfl⟩ := k3 v hv
   exact PySem.W.Looks.of_pure rfl
 have ok := Srt.sort_ok (n := its.length) (r := rank (ts.map enc)) (by omega)
 refine zoI (n := its.length) (r := rank (ts.map enc)) (s := { s with heap := h' }) (fun i j hi hj C hC => zmX (s' := { s with heap := h' }) I hk T rv (by omega) (by omega) C hC) (fun q hq => ?_) ok
 refine PySem.W.KasFin.intro F' N' (PySem.W.UpdF.head fun p hp => Nat.ne_of_lt (hlt p hp)) fun h2 c F2 N2 => ?_
 have hD2 := (N2 _ List.mem_cons_self).1
 rw [hlen] at hq
 have vals : Vals (q.toList.map fun i => xs.getD i .non) (q.toList.map fun i => its.getD i Value.none) := by
   have hmem : ∀ i ∈ q.toList, i < xs.length := fun i hi => by
     have : i ∈ (List.toArray (List.range ts.length)).toList := (Array.perm_iff_toList_perm.mp hq.1).mem_iff.mp hi
     have hr := rv.length
     simp at this
     omega
   generalize q.toList = ql at hmem
   induction ql with
   | nil => exact .nil
   | cons i r ih =>
     refine .cons ?_ (ih fun j hj => hmem j (List.mem_cons_of_mem _ hj))
     have hi := hmem i List.mem_cons_self
     obtain ⟨u, eu, ru⟩ := rv.get (List.getElem?_eq_getElem hi)
     show RelV (xs.getD i V.non) (its.getD i Value.none)
     rw [List.getD_eq_getElem?_getD, List.getD_eq_getElem?_getD, List.getElem?_eq_getElem hi, eu]
     exact ru
 have hql : q.toList.length = ts.length := by
   have := (Array.perm_iff_toList_perm.mp hq.1).length_eq
   simpa using this
 have J : Inv X pins σ (upd H D (.lst (q.toList.map fun i => xs.getD i .non))) { s with heap := h2 } :=
   Inv.laidAt (m := m) I (keep F2 N2) (fun m' hm' => by rw [zmm hm' F.ns]; exact F2.ns) (let ⟨o, _, _, e, _⟩ := F2.ns; ⟨o, e⟩) hsD hHD hDD.2.1 ⟨by rw [List.length_map, hql]; exact lt64 h64, _, c, vals, hD2⟩
 exact ⟨.ref D, _, J, rfl, h q D hq.1 hq.2 hHD⟩
end
theorem zfm {ts : List Spr} {q : Array Nat} (hp : q.Perm (List.toArray (List.range ts.length))) (hu : Srt.Up (rank (ts.map enc)) q ts.length) : q.toList.map (fun i => ts.getD i si0) = znb ts := by
 have hl := Array.perm_iff_toList_perm.mp hp
 have hl : q.toList.Perm (List.range ts.length) := by simpa using hl
 have e := zdK (ts := ts.map enc) (q := q) (by rw [List.length_map]; exact hp) (by rw [List.length_map]; exact hu)
 have p1 : (q.toList.map fun i => ts.getD i si0).Perm ts := by
   have := hl.map fun i => ts.getD i si0
   rw [zcC] at this
   exact this
 refine zcA (le := fun a b => ple a b = true) (p1.trans (zg6 ts).symm) ?_ (ziy ts) fun a _ b _ => zkn
 have e2 : (q.toList.map fun i => ts.getD i si0).map enc = zij (ts.map enc) := by
   rw [← e, List.map_map]
   apply List.map_congr_left
   intro i hi
   rw [zhY (List.mem_range.mp (hl.mem_iff.mp hi))]
   rfl
 have e3 : ((q.toList.map fun i => ts.getD i si0).map enc).Pairwise fun a b => tle a b = true := by
   rw [e2]
   exact List.pairwise_mergeSort (fun a b c => zcy a b c) zdY _
 rw [List.pairwise_map] at e3
 exact e3
def siOf : D→Option Spr
 | .tup [.str x, .int i] => some (x, i)
 | _ => none
def znC : List D→Option (List Spr)
 | [] => some []
 | d :: r => (siOf d).bind fun t => (znC r).map fun ts => t :: ts
def siD (t : Spr) : D := .tup [.str t.1, .int t.2]
section
variable {X : Cx} {K : PySem.W.Frag} {H : Hp} {io : List Addr} {st st' : Sto}
theorem zlJ : ∀ {xs : List V} {ds : List D} {ts : List Spr}, Reps K H io xs ds→znC ds = some ts→zm9 H xs ts∧ds = ts.map siD
 | _, [], ts, h, e => by
   cases e; cases (show _ = [] from h); exact ⟨.nil, rfl⟩
 | _, d :: ds, ts, h, e => by
   obtain ⟨y, ys, rfl, h1, h2⟩ := h
   obtain ⟨t, e1, e⟩ := zad e
   obtain ⟨us, e2, e⟩ := zag e
   subst e
   obtain ⟨a, b⟩ := zlJ h2 e2
   unfold siOf at e1
   split at e1
   · rename_i x i
     cases e1
     obtain ⟨p, vs, rfl, hp, rs⟩ := h1
     obtain ⟨v1, w1, rfl, q1, rs⟩ := rs
     obtain ⟨v2, w2, rfl, q2, rs⟩ := rs
     cases (show w2 = [] from rs)
     cases (show v1 = .str x from q1)
     cases (show v2 = .int i from q2)
     exact ⟨.cons ⟨p, rfl, hp⟩ a, by rw [b]; rfl⟩
   · cases e1
def zfg : GN
 | [.ref n], st => (zbj st n).bind fun ds => (znC ds).bind fun ts => if (decide (2 ≤ ts.length) && decide (ts.length < 64)) = true then some (.ref st.length, st ++ [.lst ((znb ts).map siD)]) else none
 | _, _ => none
theorem zeJ {xs : List V} {ts : List Spr} (r : Reps K H io xs (ts.map siD)) : ∀ {q : List Nat}, (∀ i ∈ q, i < ts.length)→Reps K H io (q.map fun i => xs.getD i .non) ((q.map fun i => ts.getD i si0).map siD)
 | [], _ => rfl
 | i :: q, h => by
   have hi := h i List.mem_cons_self
   have hg : (ts.map siD)[i]? = some (siD (ts.getD i si0)) := by
     rw [List.getElem?_map, List.getElem?_eq_getElem hi, List.getD_eq_getElem?_getD, List.getElem?_eq_getElem hi]; rfl
   obtain ⟨v, hv, rv⟩ := r.get hg
   refine ⟨_, _, rfl, ?_, zeJ r fun j hj => h j (List.mem_cons_of_mem _ hj)⟩
   show Rep K H io (xs.getD i .non) _
   rw [List.getD_eq_getElem?_getD, hv]
   exact rv
theorem ze1 : zdC X (.builtin "sorted") zfg := by
 intro pins s σ H xs us Q I r ⟨ds, st, io, d, st', R, S, e, k⟩
 unfold zfg at e
 split at e
 · rename_i n
   obtain ⟨zs, e0, e⟩ := zad e
   obtain ⟨ts, e1, e⟩ := zad e
   obtain ⟨hl, e⟩ := zao e
   cases e
   rw [Bool.and_eq_true] at hl
   obtain ⟨v, rfl, p, rfl, hp⟩ := R.one
   obtain ⟨u, rfl, ru⟩ := r.one
   cases ru
   obtain ⟨ys, hx, r1⟩ := zaX S hp e0
   obtain ⟨T, hd⟩ := zlJ r1 e1
   subst hd
   refine zg4 I hx T (of_decide_eq_true hl.1) (of_decide_eq_true hl.2) fun q p' hq hu hf => ?_
   have hm : ∀ i ∈ q.toList, i < ts.length := fun i hi => by
     have := (Array.perm_iff_toList_perm.mp hq).mem_iff.mp hi
     simpa using this
   have rr := zeJ r1 hm
   rw [zfm hq hu] at rr
   exact k.lst S rr hf
 · cases e
def zfQ : GN := orN zb6 zfg
theorem zfG : zdC X (.builtin "sorted") zfQ := zeu zcs ze1
end
end L2.MP
namespace L2.MP
open PySem PySem.Spec PyProof.Rows
section
variable {X : Cx} {K : PySem.W.Frag} {H : Hp} {io : List Addr} {m mk : ME} {st st' : Sto} {e se : Expr} {te : TE} {ts : TO} {p2 pos : Pos}
theorem zfJ {x : V} {u : Value} : ∀ {xs : List V} {us : List Value}, Vals xs us→RelV x u→Vals (xs ++ [x]) (us ++ [u])
 | [], _, .nil, r => .cons r .nil
 | y :: xs, _, .cons z t, r => .cons z (zfJ t r)
theorem zgP : ∀ {xs : List V} {us : List Value}, Vals xs us→Vals xs.reverse us.reverse
 | [], _, .nil => .nil
 | x :: xs, _, .cons r t => by
   rw [List.reverse_cons, List.reverse_cons]
   exact zfJ (zgP t) r
theorem zfV : ∀ {xs : List V} {ds : List D} {x : V} {d : D}, Reps K H io xs ds→Rep K H io x d→Reps K H io (xs ++ [x]) (ds ++ [d])
 | _, [], x, d, h, r => by
   cases (show _ = [] from h)
   exact ⟨x, [], rfl, r, rfl⟩
 | _, e :: ds, x, d, h, r => by
   obtain ⟨y, ys, rfl, h1, h2⟩ := h
   exact ⟨y, ys ++ [x], rfl, h1, zfV h2 r⟩
theorem zhd : ∀ {ds : List D} {xs : List V}, Reps K H io xs ds→Reps K H io xs.reverse ds.reverse
 | [], xs, h => by
   cases (show xs = [] from h)
   exact rfl
 | d :: ds, xs, h => by
   obtain ⟨y, ys, rfl, h1, h2⟩ := h
   rw [List.reverse_cons, List.reverse_cons]
   exact zfV (zhd h2) h1
end
end L2.MP
namespace L2.MP
open PySem PySem.Spec PyProof.Rows
theorem zfA : typeLookup (.type "list") "keys" = pure none := by rw [typeLookup_type, builtinLookup_eq_fast]; kernel_rfl
theorem zcg : entryFor table "dict.update.loop" = some Builtin.«dict.update.loop» := entryFor_of_fast (by kernel_rfl)
theorem za0 : plainId "dict.update.loop" = true := by decide +kernel
section
variable {prog : Program} {w : World} {A : Around} {E : Value→Shared→Prop} {s : Shared} {a : Addr}
theorem zgc {Q : Option Value→Shared→Prop} {xs : Array Value} {k : Nat} {sl : Array (Option Value)} (hx : s.heap.get? a = some { cls := .type "list", dict := none, data := .seq xs k, slots := sl }) (hA : A.handled = none)
   (h : ∀ h' tk, (∀ b u, s.heap.get? b = some u→h'.get? b = some u)→Q none { s with heap := h', toks := tk }) : wpAny (model prog w) A (getAttr? (.ref a) "keys") Q E s := by
 obtain ⟨hp, g, d, tk, os⟩ := s
 have hT : ∀ tk', (⟨hp, g, d, tk', os⟩ : Shared).TypeIs (.ref a) "list" := fun _ => ⟨_, hx, rfl⟩
 have f1 := sub_AttributeError
 have f3 := F.slot_list_getattribute.lookup
 have f4 := F.slot_list_getattribute.bind (.ref a)
 have f5 := am_list_getattr_none
 unfold getAttr? getAttrBy? getAttrBy
 repeat (any_goals (first | assumption | exact hT _ | ((with_reducible show wpAny _ _ (call (Value.builtin "list.__getattribute__") _ _) _ _ _); refine call_meets F.slot_list_getattribute (hT _) am_entry_list_getattribute (F.args_list_getattribute_2 _ _) (meets_getattribute_miss_list a xs k sl _ _ zfA (by decide +kernel)) ⟨hx, hA, fun h' tk' e hx' => ?_⟩) | wp_step))
 obtain ⟨t', u', he⟩ := hx'.there
 show wpAny _ _ (getattributeRaised _ _ _ _ _ _ _) _ _ _
 unfold getattributeRaised
 repeat (any_goals (first | assumption | wp_step))
 exact h _ _ hx'.keeps
def ze6 (prog : Program) (w : World) (h : Heap) (v : Value) (kv : Key × Value) : Prop := ∃ p kx, v = .ref p∧IsTup h p #[kx, kv.2]∧(zaw prog w).is kv.1 kx = true
theorem ze6.keep {h h' : Heap} {v : Value} {kv : Key × Value} (q : ze6 prog w h v kv) (k : ∀ b o, v = .ref b→h.get? b = some o→h'.get? b = some o) : ze6 prog w h' v kv := by
 obtain ⟨p, kx, rfl, ⟨o, g, c⟩, i⟩ := q
 exact ⟨p, kx, rfl, ⟨o, k p o rfl g, c⟩, i⟩
theorem zdp {p : Addr} {xs : Array Value} {Q : List Value→Shared→Prop} (ht : IsTup s.heap p xs) (h : Q xs.toList s) : wpAny (model prog w) A (Builtin.Dict.pairItems (.ref p)) Q E s := by
 obtain ⟨hp, g, d, tk, os⟩ := s
 obtain ⟨o, g0, c, n, dd⟩ := ht
 have hT : (⟨hp, g, d, tk, os⟩ : Shared).TypeIs (.ref p) "tuple" := ⟨_, g0, c⟩
 unfold Builtin.Dict.pairItems seqItems?
 repeat (any_goals (first | assumption | wp_step))
 rw [dd]
 exact wpAny_pure (wpAny_pure h)
end
end L2.MP
namespace L2.MP
open PySem PySem.Spec PyProof.Rows
section
variable {prog : Program} {w : World} {A : Around} {E : Value→Shared→Prop} {s : Shared} {a : Addr}
theorem zg1 {K : Type} [DecidableEq K] (kvs : List (K × Value)) (k : K) (v : Value) : (stored kvs k v).length ≤ kvs.length + 1 := by
 unfold stored
 split <;> simp
theorem zdr {K : Type} [DecidableEq K] : ∀ (more kvs : List (K × Value)), (merged kvs more).length ≤ kvs.length + more.length
 | [], kvs => by show kvs.length ≤ kvs.length + 0; omega
 | p :: r, kvs => by
   have h1 := zdr r (stored kvs p.1 p.2)
   have h2 := zg1 kvs p.1 p.2
   show (merged (stored kvs p.1 p.2) r).length ≤ _
   rw [List.length_cons]
   omega
theorem zqs {R : Result→Shared→Prop} {D I l : Addr} {its : List Value} {kvs : List (Key × Value)} {h0 : Heap} (hh : A.in1.handled = none) (hl : its.length = kvs.length) (hz : kvs.length ≤ sizeLine) (hDI : D ≠ I) (hlD : l ≠ D) (hlI : l ≠ I) :
   ∀ (k i : Nat) (s : Shared), kvs.length - i = k→i ≤ kvs.length→s.heap.IsListIter I l i→s.heap.IsList l its.toArray→s.heap.DictOf (zaw prog w) D (merged [] (kvs.take i)) →
   (∀ (j : Nat) (v : Value) (kv : Key × Value), its[j]? = some v→kvs[j]? = some kv→ze6 prog w s.heap v kv∧v ≠ .ref D∧v ≠ .ref I)→(∀ b o, b ≠ D→b ≠ I→h0.get? b = some o→s.heap.get? b = some o) →
   (∀ h' tk, h'.DictOf (zaw prog w) D (merged [] kvs)→(∀ b o, b ≠ D→b ≠ I→h0.get? b = some o→h'.get? b = some o)→R (.ok (.ret .none)) { s with heap := h', toks := tk }) →
   codeAny (model prog w) A (.builtin "dict.update.loop" ⟨[.ref D, .ref I, rawInt i, .none], []⟩) R s := by
 intro k
 induction k with
 | zero =>
   intro i s hk hi hit hlist hd hp h0k hR
   have hin : i = kvs.length := by omega
   subst hin
   refine codeAny_builtin zcg ?_
   rw [Around.under_plainId za0 _]
   show wpAny _ A.in1 (pyNext (.ref I) >>= _) _ _ s
   refine wpAny_bind (wpAny_pyNext_list_end hh hit hlist (by simp [hl]) fun h' hx => ?_)
   show wpAny _ A.in1 (Builtin.Dict.addKeywords D [] >>= fun _ => ret .none) _ _ _
   refine wpAny_bind (wpAny_pure (wpAny_pure ?_))
   rw [List.take_length] at hd
   refine hR h' s.toks ?_ fun b o h1 h2 e => hx b o h2 (h0k b o h1 h2 e)
   obtain ⟨o, es, ep, ho, r⟩ := hd
   exact ⟨o, es, ep, hx D o hDI ho, r⟩
 | succ k ih =>
   intro i s hk hi hit hlist hd hp h0k hR
   have hlt : i < kvs.length := by omega
   have hlt' : i < its.length := by omega
   refine codeAny_builtin zcg ?_
   rw [Around.under_plainId za0 _]
   show wpAny _ A.in1 (pyNext (.ref I) >>= _) _ _ s
   have hv : its[i]? = some its[i] := List.getElem?_eq_getElem hlt'
   have hkv : kvs[i]? = some kvs[i] := List.getElem?_eq_getElem hlt
   refine wpAny_bind (wpAny_pyNext_list_item (x := its[i]) hit hlist (by simp [hlt']) fun h' hit' hx => ?_)
   obtain ⟨pa, nD, nI⟩ := hp i _ _ hv hkv
   have pa' : ze6 prog w h' its[i] kvs[i] := pa.keep fun b o e g => hx.extBut b o (fun z => nI (by rw [e, z])) g
   obtain ⟨p, kx, ep, tp, ik⟩ := pa'
   have hd' : h'.DictOf (zaw prog w) D (merged [] (kvs.take i)) := by
     obtain ⟨o, es, ep, ho, r⟩ := hd
     exact ⟨o, es, ep, hx.extBut D o hDI ho, r⟩
   have hlen : (merged [] (kvs.take i)).length ≤ sizeLine := by
     have := zdr (kvs.take i) []
     rw [List.length_take, List.length_nil] at this
     omega
   rw [ep]
   refine wpAny_bind (wpAny_holding (wpAny_bind (wpAny_tryCatch (zdp (s := { s with heap := h' }) tp ?_))))
   refine wpAny_holding (wpAny_dictSet_pairs (s := { s with heap := h' }) ik hd' (fun h2 hd2 hs2 => ?_) hlen)
   have hI2 : ∀ b o, b ≠ D→h'.get? b = some o→h2.get? b = some o := fun b o hb e => hs2.extBut b o hb e
   have e1 : stored (merged [] (kvs.take i)) kvs[i].1 kvs[i].2 = merged [] (kvs.take (i + 1)) := (merged_take_succ [] kvs i _ hkv).symm
   refine wpAny_pure ⟨plainId_quiet za0 _, ?_⟩
   refine ih (i + 1) { s with heap := h2, toks := s.toks + 1 } (by omega) (by omega) ?_ ?_ (by rw [← e1]; exact hd2) (fun j v kv h1 h2' => ?_) (fun b o b1 b2 e => hI2 b o b1 (hx.extBut b o b2 (h0k b o b1 b2 e))) fun h3 tk3 d3 k3 => hR h3 tk3 d3 k3
   · exact Heap.IsListIter.at hit' fun u e => hI2 I u (Ne.symm hDI) e
   · exact Heap.IsList.at (Heap.IsList.at hlist fun u e => hx.extBut l u hlI e) fun u e => hI2 l u hlD e
   · obtain ⟨q, q1, q2⟩ := hp j v kv h1 h2'
     exact ⟨(q.keep fun b o e g => hx.extBut b o (fun z => q2 (by rw [e, z])) g).keep fun b o e g => hI2 b o (fun z => q1 (by rw [e, z])) g, q1, q2⟩
theorem ze3 {l : Addr} {its : List Value} {kvs : List (Key × Value)} {Q : Value→Shared→Prop} (hh : A.handled = none) (hpl : PlainL s.heap l its.toArray) (hl : its.length = kvs.length) (hz : kvs.length ≤ sizeLine)
   (hp : ∀ (j : Nat) (v : Value) (kv : Key × Value), its[j]? = some v→kvs[j]? = some kv→ze6 prog w s.heap v kv)
   (h : ∀ h' tk, h'.DictOf (zaw prog w) s.heap.objs.size (merged [] kvs)→(∀ b o, s.heap.get? b = some o→h'.get? b = some o)→Q (.ref s.heap.objs.size) { s with heap := h', toks := tk }) :
   wpAny (model prog w) A (call (.type "dict") [.ref l]) Q E s := by
 refine callType_codes (Q₁ := fun obj s₁ => obj = .ref s.heap.objs.size∧s₁ = { s with heap := s.heap.push { cls := .type "dict", data := .dict #[] } }) F.kt_called_dict (F.kt_typeCall_dict_1 _) F.entry_dict_init (kt_code_dict_new _ ⟨rfl, rfl⟩) ?_
 rintro obj s₁ ⟨rfl, rfl⟩
 have hnew : (s.heap.push { cls := .type "dict", data := .dict #[] }).DictOf (zaw prog w) s.heap.objs.size [] := Heap.DictOf.new s.heap
 have k1 : ∀ b o, s.heap.get? b = some o→(s.heap.push { cls := .type "dict", data := .dict #[] }).get? b = some o := fun b o e => Heap.get?_push_of_some _ e
 have hpl1 := hpl.keeps k1
 obtain ⟨⟨cl, di, da, sl⟩, n, g1, c1, c2, c3⟩ := id hpl1
 simp only at c1 c2 c3
 subst c1 c2 c3
 have hlt : ∀ b o, s.heap.get? b = some o→b < s.heap.objs.size := fun b o e => Heap.lt_size e
 have hll : l < s.heap.objs.size := by obtain ⟨o, _, g, _⟩ := hpl; exact hlt l o g
 refine ⟨hnew.typeIs, F.args_dict_init_2 _ _, ?_⟩
 unfold Builtin.«dict.__init__»
 refine wpAny_bind ?_
 unfold Builtin.Dict.selfAndRest
 refine wpAny_bind (wpAny_notOrdered_dict hnew.typeIs ?_)
 show wpAny _ _ (pure (s.heap.objs.size, [Value.ref l])) _ _ _
 refine wpAny_pure ?_
 show wpAny _ _ (Builtin.Dict.updateFrom "dict.__init__" s.heap.objs.size (.ref l) [] .none) _ _ _
 unfold Builtin.Dict.updateFrom
 refine wpAny_bind (wpAny_typeOf (show Shared.TypeIs { s with heap := s.heap.push { cls := .type "dict", data := .dict #[] } } (.ref l) "list" from ⟨_, g1, rfl⟩) ?_)
 rw [if_pos (by decide)]
 refine wpAny_bind (zgc g1 hh fun h2 tk2 k2 => ?_)
 have hpl2 := hpl1.keeps k2
 have hd2 : h2.DictOf (zaw prog w) s.heap.objs.size [] := by
   obtain ⟨o, es, ep, ho, r⟩ := hnew
   exact ⟨o, es, ep, k2 _ o ho, r⟩
 have hsz : s.heap.objs.size < h2.objs.size := by
   obtain ⟨o, es, ep, ho, r⟩ := hd2
   exact Heap.lt_size ho
 simp only [Option.isNone_none, if_true]
 refine wpAny_bind (wpAny_rule ?_)
 refine wpAny_bind (Sr.iter (x := .l l) (s := { s with heap := h2, toks := tk2 }) (xs := its.toArray) hpl2.isList ?_)
 have k3 : ∀ b o, h2.get? b = some o→(h2.push (Sr.ob (.l l))).get? b = some o := fun b o e => Heap.get?_push_of_some _ e
 refine wpAny_pure ⟨plainId_quiet za0 _, ?_⟩
 have n1 : s.heap.objs.size ≠ h2.objs.size := Nat.ne_of_lt hsz
 have n2 : l ≠ s.heap.objs.size := Nat.ne_of_lt hll
 have n3 : l ≠ h2.objs.size := Nat.ne_of_lt (Nat.lt_trans hll hsz)
 show codeAny (model prog w) A.in1 (.builtin "dict.update.loop" ⟨[.ref s.heap.objs.size, .ref h2.objs.size, rawInt (0 : Nat), .none], []⟩) _ { s with heap := h2.push (Sr.ob (.l l)), toks := tk2 }
 refine zqs (A := A.in1) (h0 := s.heap) (l := l) (its := its) (kvs := kvs) (D := s.heap.objs.size) (I := h2.objs.size) hh hl hz n1 n2 n3 kvs.length 0 { s with heap := h2.push (Sr.ob (.l l)), toks := tk2 } rfl (Nat.zero_le _) ?_ (hpl2.keeps k3).isList ?_ (fun j v kv e1 e2 => ?_) (fun b o _ _ e => k3 b o (k2 b o (k1 b o e))) (fun h' tk d' k' => ?_)
 · exact Sr.at_new (x := .l l) (Heap.get?_push_size _ rfl)
 · obtain ⟨o, es, ep, ho, r⟩ := hd2
   exact ⟨o, es, ep, k3 _ o ho, r⟩
 · have q := hp j v kv e1 e2
   have nn : ∀ b, v = .ref b→b < s.heap.objs.size := fun b e => by
     obtain ⟨p, kx, rfl, ⟨o, g, _⟩, _⟩ := q
     cases e
     exact hlt _ o g
   refine ⟨q.keep fun b o _ g => k3 b o (k2 b o (k1 b o g)), fun e => ?_, fun e => ?_⟩
   · exact absurd (nn _ e) (Nat.lt_irrefl _)
   · exact absurd (nn _ e) (Nat.not_lt_of_lt hsz)
 · exact ⟨rfl, h h' tk d' fun b o e => k' b o (Nat.ne_of_lt (hlt b o e)) (Nat.ne_of_lt (Nat.lt_trans (hlt b o e) hsz)) e⟩
end
end L2.MP
namespace L2.MP
open PySem PySem.Spec PyProof.Rows
def prOf : D→Option (Key × D)
 | .tup [k, v] => (keyOf k).map fun q => (q, v)
 | _ => none
def zlm : List D→Option (List (Key × D))
 | [] => some []
 | d :: r => (prOf d).bind fun t => (zlm r).map fun ts => t :: ts
def zeT (kvs more : List (Key × D)) : List (Key × D) := more.foldl (fun acc kv => putD acc kv.1 kv.2) kvs
section
variable {X : Cx} {K : PySem.W.Frag} {H : Hp} {io : List Addr} {st st' : Sto} {pins : List (Addr × Obj)} {σ : L2.St} {s : Shared}
theorem zhy : ∀ {more : List (Key × V)} {mds : List (Key × D)} {kvs : List (Key × V)} {kds : List (Key × D)}, KR Key K H io more mds→KR Key K H io kvs kds→KR Key K H io (zdF kvs more) (zeT kds mds) := by
 intro more mds kvs kds r
 unfold KR at r
 induction r generalizing kvs kds with
 | nil => intro q; exact q
 | @cons p q ps qs h t ih =>
   intro r0
   have e : KR Key K H io (putK kvs p.1 p.2) (putD kds q.1 q.2) := by
     rw [← h.1]
     exact KR.put r0 p.1 h.2
   exact ih e
theorem zkm (I : Inv X pins σ H s) : ∀ {ys : List V} {ds : List D} {kds : List (Key × D)} {its : List Value}, Reps X.K H io ys ds→zlm ds = some kds→Vals ys its →
   ∃ (kvV : List (Key × V)) (kvs : List (Key × Value)), KR Key X.K H io kvV kds∧KV kvV kvs∧its.length = kvs.length∧kvs.length = kds.length∧∀ (j : Nat) (v : Value) (kv : Key × Value), its[j]? = some v→kvs[j]? = some kv→ze6 X.prog X.w s.heap v kv
 | _, [], kds, _, h, e, r => by
   cases e
   cases (show _ = [] from h)
   cases r
   exact ⟨[], [], .nil, .nil, rfl, rfl, fun j v kv h => by simp at h⟩
 | _, d :: ds, kds, _, h, e, r => by
   obtain ⟨y, ys, rfl, h1, h2⟩ := h
   obtain ⟨t, e1, e⟩ := zad e
   obtain ⟨ts, e2, e⟩ := zag e
   subst e
   cases r with
   | @cons _ u _ us ru rus =>
     obtain ⟨kvV, kvs, a1, a2, a3, a4, a5⟩ := zkm I h2 e2 rus
     unfold prOf at e1
     split at e1
     · rename_i k v
       obtain ⟨q, eq1, e1⟩ := zag e1
       subst e1
       obtain ⟨p, vs, rfl, hp, rs⟩ := h1
       obtain ⟨v1, w1, rfl, q1, rs⟩ := rs
       obtain ⟨v2, w2, rfl, q2, rs⟩ := rs
       cases (show w2 = [] from rs)
       have ek := zde q1 eq1
       subst ek
       cases ru
       obtain ⟨ia, va, ht, _⟩ := I.tuple (SqT.of (K := X.K) hp)
       cases va with
       | cons r1 t1 =>
         cases t1 with
         | cons r2 t2 =>
           cases t2
           rename_i u1 u2
           refine ⟨(q, v2) :: kvV, (q, u2) :: kvs, .cons ⟨rfl, q2⟩ a1, .cons ⟨rfl, r2⟩ a2, by rw [List.length_cons, List.length_cons, a3], by rw [List.length_cons, List.length_cons, a4], fun j v kv e1 e2 => ?_⟩
           cases j with
           | zero =>
             cases e1
             cases e2
             exact ⟨p, u1, rfl, ht, zkR r1⟩
           | succ j => exact a5 j v kv e1 e2
     · cases e1
def znm : GN
 | [.ref n], st => (zbj st n).bind fun ds => (zlm ds).bind fun kds => if fits kds.length = true then some (.ref st.length, st ++ [.dk (zeT [] kds)]) else none
 | _, _ => none
theorem zib (hc : X.calm = true) : zdC X (.type "dict") znm := by
 intro pins s σ H xs us Q I r ⟨ds, st, io, d, st', R, S, e, k⟩
 unfold znm at e
 split at e
 · rename_i n
   obtain ⟨zs, e0, e⟩ := zad e
   obtain ⟨kds, e1, e⟩ := zad e
   obtain ⟨hf, e⟩ := zao e
   cases e
   obtain ⟨v, rfl, p, rfl, hp⟩ := R.one
   obtain ⟨u, rfl, ru⟩ := r.one
   cases ru
   obtain ⟨ys, hx, r1⟩ := zaX S hp e0
   obtain ⟨its, rv, pl, hz⟩ := I.list hx
   obtain ⟨kvV, kvs, a1, a2, a3, a4, a5⟩ := zkm I r1 e1 rv
   have hzk : kvs.length ≤ sizeLine := by
     rw [a4]
     exact of_decide_eq_true hf
   refine ze3 (I.ok.hd hc) pl a3 hzk a5 fun h' tk d' kk => ?_
   have hlV : kvV.length = kvs.length := Paired.length a2
   have hm : (zdF [] kvV).length ≤ sizeLine := by
     have := zb7 kvV []
     rw [List.length_nil] at this
     omega
   have hd : (s.heap.objs.size == sysModules) = false := beq_eq_false_iff_ne.mpr (Ne.symm (Nat.ne_of_lt I.big))
   refine ⟨.ref s.heap.objs.size, _, I.laid (a := s.heap.objs.size) (o := .dK (zdF [] kvV)) (t' := tk) kk (Nat.le_refl _) (zk5 hm hd (a2.merge .nil) d'), rfl, ?_⟩
   obtain ⟨E', S'⟩ := zhu (o := .dK (zdF [] kvV)) (ob := .dk (zeT [] kds)) S (I.hok.fresh (Nat.le_refl _)) fun H' T e => ⟨_, e, zhy (KR.mono T a1) .nil⟩
   exact k _ _ [s.heap.objs.size] E' S' ⟨s.heap.objs.size, rfl, by rw [← S.len]; exact getElem?_len io _⟩
 · cases e
end
end L2.MP
namespace L2.MP
open PySem PySem.Spec PyProof.Rows
def Itw (n : Nat) (f : Nat→Option V) : It := ⟨fun i _ => i < n, fun i H v H' => H' = H∧f i = some v, fun i _ => n ≤ i⟩
def zhG : List String := ["enumerate", "zip", "dict_itemiterator", "dict_reverseitemiterator", "odict_iterator", "itertools.zip_longest", "itertools.pairwise"]
theorem zgS {P : Program} {w : World} {K : PySem.W.Frag} {tg : Expr} (it : Addr) (n : Nat) (f : Nat→Option V) {R : Nat→Value→Prop} {T : Nat→Heap→Prop} (W : ∀ A : Around, A.handled = none→Walks P w A it [it] [it] n R T)
   (hr : ∀ i v, R i v→∃ x, f i = some x∧RelV x v) (hob : ∀ i h, T i h→∃ o nm vs, h.get? it = some o∧o.cls = .type nm∧o.data = .fields vs∧zhG.contains nm = false)
   (hself : ∀ (A : Around) (i : Nat) (s : Shared) (Q : Value→Shared→Prop) (E : Value→Shared→Prop), T i s.heap→Q (.ref it) s→wpAny (model P w) A (pyIter (.ref it)) Q E s) :
   Turn P w K tg (Itw n f) [it] it (fun i h => i ≤ n∧T i h) where
 mem := by simp
 obj := fun i h st b hb => by
   have e : b = it := by simpa using hb
   subst e
   obtain ⟨o, nm, vs, e, c, d, _⟩ := hob i h st.2
   exact ⟨o, e, fun v z => by rw [d] at z; cases z⟩
 keep := fun i h h' st k => ⟨st.1, (W {} rfl).frame i h h' st.2 k⟩
 item := by
   intro X hP hw hK hc i pins s σ H E I hf st hg
   subst hP hw hK
   obtain ⟨f0, f1, f2, f3, f4, f5⟩ := hf it (by simp)
   refine (W X.A (I.ok.hd hc)).item i s _ _ hg st.2 fun v h' tk hv st' kk => ?_
   obtain ⟨x, hx, rx⟩ := hr i v hv
   have I1 : Inv X pins σ H { s with heap := h', toks := tk } := I.turned (fun b o hb e => kk b o (by simpa using hb) e) f0 f1 f3 f4 f5
   obtain ⟨o, nm, vs, e, c, d, hn⟩ := hob (i + 1) h' st'
   exact ⟨_, rfl, zmF (s := { s with heap := h', toks := tk }) e c d hn ⟨x, H, I1, rx, ⟨rfl, hx⟩, ⟨hg, st'⟩, fun b hb => (hf b hb).1⟩⟩
 done := by
   intro X hP hw hK hc i pins s σ H E I hf st hg
   subst hP hw hK
   obtain ⟨f0, f1, f2, f3, f4, f5⟩ := hf it (by simp)
   have e : i = n := Nat.le_antisymm st.1 hg
   subst e
   exact (W X.A (I.ok.hd hc)).done s _ _ st.2 fun h' tk kk => ⟨rfl, I.turned (fun b o hb e => kk b o (by simpa using hb) e) f0 f1 f3 f4 f5⟩
 self := fun A i s Q E st h => hself A i s Q E st.2 h
theorem zoC {K : PySem.W.Frag} {H : Hp} {io : List Addr} {ds : List D} {n : Nat} {f : Nat→Option V} (hn : n = ds.length) (hf : ∀ i d, ds[i]? = some d→∃ v, f i = some v∧∀ H io, Rep K H io v d) : ItOk K H io ⟨ds, []⟩ (Itw n f) where
 go := fun i d H1 k1 s hd X1 S1 hs => by
   have hi : i < ds.length := (List.getElem?_eq_some_iff.mp hd).1
   refine ⟨by show i < n; omega, fun x H' y => ?_⟩
   obtain ⟨rfl, y⟩ := y
   obtain ⟨v, hv, rv⟩ := hf i d hd
   rw [hv] at y
   cases y
   exact ⟨Ext.refl, S1, rv _ _⟩
 stop := fun H1 k1 s X1 S1 hs => by show n ≤ ds.length; omega
 stop' := fun H1 k1 s i hi X1 S1 hs => by
   show n ≤ i
   have hi : ds.length ≤ i := hi
   omega
section
variable {X : Cx} {K : PySem.W.Frag} {H : Hp} {io : List Addr} {st st' : Sto} {a b c e : Expr} {es : List Expr} {ma mb mc m : ME} {mm : MA} {mt : MT} {ms : MS} {pos : Pos} {tg : Expr} {body : List Stmt}
def signs (z : Str) : List D := z.cps.toList.map fun c => D.str ⟨#[c]⟩
def zll (z : Str) (i : Nat) : Option V := z.cps[i]?.map fun c => V.str ⟨#[c]⟩
theorem zim {P : Program} {w : World} {A : Around} (hh : A.handled = none) (I : Addr) (x : Str) (t : Tok) : Walks P w A I [I] [I] x.cps.size (SignAt x) (fun i h => h.IsStrIter I (strIterType x) x t i) := by
 unfold strIterType
 cases x.cps.all (· < 128)
 · exact Walks.strWide hh I x t
 · exact Walks.strAscii hh I x t
theorem zj2 {P : Program} {w : World} {K : PySem.W.Frag} {tg : Expr} (it : Addr) (x : Str) (t : Tok) : Turn P w K tg (Itw x.cps.size (zll x)) [it] it (fun i h => i ≤ x.cps.size∧h.IsStrIter it (strIterType x) x t i) :=
 zgS it x.cps.size (zll x) (fun A hA => zim hA it x t) (fun i v ⟨c, u, hc, hv⟩ => ⟨.str ⟨#[c]⟩, by unfold zll; rw [hc]; rfl, u, hv⟩)
   (fun i h ⟨o, e, c, d⟩ => ⟨o, _, _, e, c, d, by unfold strIterType; split <;> decide⟩) fun A i s Q E st h => by
     unfold strIterType at st
     split at st
     · exact wpAny_pyIter_striter_ascii st h
     · exact wpAny_pyIter_striter_wide st h
def iStr (tl : TE) : TI := fun σ H R => tl σ H fun x H1 => ∃ z, x = .str z∧R (Itw z.cps.size (zll z)) H1
theorem zn1 {l : Expr} {tl : TE} (hl : PE X l tl) : PI X tg l (iStr tl) := by
 intro pins s σ H R I h
 refine thn (hl pins s σ H _ I h) fun v s1 ⟨x, H1, I1, r1, q1⟩ => ?_
 obtain ⟨z, e, q⟩ := q1
 subst e
 obtain ⟨t, rfl⟩ := r1
 refine wpAny_pyIter_strU ?_
 refine ⟨s1.heap.objs.size, [s1.heap.objs.size], _, _, H1, rfl, I1.kept (t' := s1.toks) fun b o e => Heap.get?_push_of_some _ e, zj2 _ z t, ⟨Nat.zero_le _, _, Heap.get?_push_size _ rfl, rfl, rfl⟩, fun b hb => ?_, q⟩
 have e : b = s1.heap.objs.size := by simpa using hb
 subst e
 exact I1.fpOk (Nat.le_refl _) (I1.hok.fresh (Nat.le_refl _))
theorem signs_get {z : Str} {i : Nat} {d : D} (h : (signs z)[i]? = some d) : ∃ v, zll z i = some v∧∀ H io, Rep K H io v d := by
 unfold signs at h
 rw [List.getElem?_map] at h
 obtain ⟨c, hc, e⟩ := zag h
 subst e
 refine ⟨.str ⟨#[c]⟩, ?_, fun H io => rfl⟩
 unfold zll
 rw [Array.getElem?_toList] at hc
 rw [hc]
 rfl
theorem ziA (z : Str) : z.cps.size = (signs z).length := by unfold signs; rw [List.length_map, Array.length_toList]
def mWS (m : ME) : MI := fun ρ st => (m ρ st).bind fun (d, s) => match d with
 | .str z => some (⟨signs z, []⟩, s)
 | _ => none
theorem znF {l : Expr} (hl : SE X l m) : SI X tg l (mWS m) := PI.imp (zn1 hl) fun σ H R ⟨ρ, st, io, W, st', E, S, e, k⟩ => by
 obtain ⟨⟨d, s1⟩, e1, e⟩ := zad e
 dsimp only at e
 split at e
 · rename_i z
   cases e
   refine ⟨ρ, st, io, _, _, E, S, e1, fun v H1 k1 X1 S1 R1 => ?_⟩
   exact ⟨z, R1, k _ H1 k1 X1 S1 (zoC (ziA z) fun i d h => signs_get h)⟩
 · cases e
def mWA (m : ME) : MI := fun ρ st => (m ρ st).bind fun (d, s) => orO (zin d s) (match d with | .str z => some (⟨signs z, []⟩, s) | _ => none)
theorem zcL {l : Expr} (hl : SE X l m) : SI X tg l (mWA m) := by
 intro pins s σ H R I ⟨ρ, st, io, W, st', E, S, e0, k⟩
 obtain ⟨⟨d, s1⟩, e1, e0⟩ := zad e0
 rcases zbY e0 with e0 | e0
 · exact zlL hl pins s σ H R I ⟨ρ, st, io, W, st', E, S, by unfold mW; rw [e1]; exact e0, k⟩
 · exact znF hl pins s σ H R I ⟨ρ, st, io, W, st', E, S, by unfold mWS; rw [e1]; exact e0, k⟩
end
end L2.MP
namespace L2.MP
open PySem PySem.Spec PyProof.Rows
section
variable {X : Cx} {K : PySem.W.Frag} {H : Hp} {io : List Addr} {st st' : Sto} {a b c e : Expr} {es : List Expr} {ma mb mc m : ME} {mm : MA} {mt : MT} {ms : MS} {pos : Pos} {tg : Expr} {body : List Stmt}
def slK : D→Option Int→Option Int→Sto→Option (D × Sto) := fun x lo hi st => match x with
 | .kl ds => some (.ref st.length, st ++ [.lst (cutD ds lo hi)])
 | _ => none
def slB : D→Option Int→Option Int→Sto→Option (D × Sto) := fun x lo hi st => orO (slA x lo hi st) (slK x lo hi st)
def mSlB (m : ME) (l h : MO) : ME := fun ρ st => (m ρ st).bind fun (x, s1) => (l ρ s1).bind fun (lo, s2) => (h ρ s2).bind fun (hi, s3) => slB x lo hi s3
theorem zfS {lo hi : Option Expr} {ml mh : MO} {p2 : Pos} (he : SE X e m) (hl : SO X lo ml) (hu : SO X hi mh) : SE X (.Subscript e (.Slice lo hi none p2) pos) (mSlB m ml mh) := by
 intro pins s σ H Q I ⟨ρ, st, io, d, st', E, S, e0, k⟩
 obtain ⟨⟨x, s1⟩, e1, e0⟩ := zad e0
 obtain ⟨⟨lo', s2⟩, e2, e0⟩ := zad e0
 obtain ⟨⟨hi', s3⟩, e3, e0⟩ := zad e0
 rcases zbY e0 with e0 | e0
 · exact ziC he hl hu pins s σ H Q I ⟨ρ, st, io, d, st', E, S, by simp only [mSlA, e1, e2, e3, Option.bind_some]; exact e0, k⟩
 · refine zfr zjw he hl hu pins s σ H Q I ?_
   refine ⟨ρ, st, io, x, s1, E, S, e1, fun v1 H1 k1 X1 S1 R1 => ⟨ρ, s1, io ++ k1, lo', s2, E.ext S X1, S1, e2, fun H2 k2 X2 S2 => ⟨ρ, s2, (io ++ k1) ++ k2, hi', s3, (E.ext S X1).ext S1 X2, S2, e3, fun H3 k3 X3 S3 => ?_⟩⟩⟩
   have R3 := (R1.ext S1 X2).ext S2 X3
   have k' := ((k.on S1 X1).on S2 X2).on S3 X3
   cases x with
   | kl ds =>
     cases e0
     obtain ⟨p, xs, rfl, hx, r⟩ := R3
     exact ⟨p, xs, rfl, hx.sq, fun q hq => k'.lst S3 (zh4 r _ _) hq⟩
   | _ => cases e0
def zjH : G2
 | .str i, .str j, st => some (.bl (!(!(Builtin.Str.occurrences j i 0 j.length 1).isEmpty)), st)
 | _, _, _ => none
theorem zhn : OpM X (compareOp .NotIn) zjH := by
 intro pins s σ H x y v u Q I rx ry ⟨dx, dy, st, io, d, st', Rx, Ry, S, e, k⟩
 cases dx with
 | str i =>
   cases dy with
   | str j => cases e; exact zft pins s σ H x y v u Q I rx ry ⟨i, j, Rx, Ry, k.now S rfl⟩
   | _ => cases e
 | _ => cases e
def zeo : G2 := orG zkC zjH
theorem zfT (hu : X.A.units + 100 < cLine) (ha : SE X a ma) (hb : SE X b mb) (hm : behindInMarks .NotIn b = false := by rfl) : SB X (.Compare a [.NotIn] [b] pos) (mTst (mBin zeo ma mb)) :=
 zkc (ziF hu ha hb hm) (zbP zhn ha hb hm)
end
end L2.MP
namespace PySem.F
end PySem.F
namespace PySem
open Builtin
end PySem
namespace L2.MP
open PySem PySem.Spec PyProof.Rows
end L2.MP
namespace L2.MP
open PySem PySem.Spec PyProof.Rows
section
variable {ρ ρ1 : Rho} {st s1 : Sto} {m n o ma mb : ME} {mm : MA} {ms mq : MS} {mt mu : MT} {d : D} {ml mh : MO}
theorem zqw : mWA m ρ st = (m ρ st).bind fun p => orO (zin p.1 p.2) (match p.1 with | .str z => some (⟨signs z, []⟩, p.2) | _ => none) := rfl
theorem zo1 : mSlB m ml mh ρ st = (m ρ st).bind fun p => (ml ρ p.2).bind fun q => (mh ρ q.2).bind fun r => slB p.1 q.1 r.1 r.2 := rfl
end
end L2.MP
namespace L2.MP
open PySem PySem.Spec PyProof.Rows
theorem zmU : bootBuiltins "sum" = some (.builtin "sum") := by decide +kernel
theorem zic : bootBuiltins "repr" = some (.builtin "repr") := by decide +kernel
theorem zoW : bootBuiltins "any" = some (.builtin "any") := by decide +kernel
section
variable {X : Cx} {K : PySem.W.Frag} {H : Hp} {io : List Addr} {st st' : Sto} {a b c e : Expr} {es : List Expr} {ma mb mc m : ME} {mm : MA} {pos : Pos} {pins : List (Addr × Obj)} {σ : L2.St} {s : Shared}
def zmA : List D→Option (List Int)
 | [] => some []
 | .int i :: r => (zmA r).map fun is => i :: is
 | _ => none
theorem zhL : ∀ {ys : List V} {its : List Value} {ds : List D} {ns : List Int}, Reps K H io ys ds→Vals ys its→zmA ds = some ns→its.length = ns.length∧∀ (j : Nat) (v : Value), its[j]? = some v→∃ t, v = Value.int (ns.getD j 0) t
 | _, _, [], ns, h, r, e => by
   cases e
   cases (show _ = [] from h)
   cases r
   exact ⟨rfl, fun j v h => by simp at h⟩
 | _, _, d :: ds, ns, h, r, e => by
   obtain ⟨y, ys, rfl, h1, h2⟩ := h
   cases d with
   | int i =>
     obtain ⟨is, e2, e⟩ := zag e
     subst e
     cases r with
     | cons r1 r2 =>
       cases (show y = .int i from h1)
       obtain ⟨t, rfl⟩ := r1
       obtain ⟨l, q⟩ := zhL h2 r2 e2
       refine ⟨by simp [l], fun j v hj => ?_⟩
       cases j with
       | zero => cases hj; exact ⟨t, rfl⟩
       | succ j => simpa using q j v (by simpa using hj)
   | _ => cases e
def zeB (i : Int) : Bool := decide (-1000000 ≤ i) && decide (i ≤ 1000000)
def sumC : GN
 | [.ref n], st => (zbj st n).bind fun ds => (zmA ds).bind fun ns => if (ns.all zeB && decide (ns.length ≤ 100000)) = true then some (.int ns.sum, st) else none
 | _, _ => none
theorem zed : ∀ (ns : List Int) (j : Nat), j ≤ ns.length→preSum (fun i => ns.getD i 0) j = (ns.take j).sum
 | ns, 0, _ => by simp [preSum]
 | ns, j + 1, h => by
   have hj : j < ns.length := h
   have e1 : (ns.take (j + 1)).sum = (ns.take j).sum + ns[j] := by
     rw [List.take_add_one, List.getElem?_eq_getElem hj]
     simp only [Option.toList_some, List.sum_append, List.sum_cons, List.sum_nil, Int.add_zero]
   rw [preSum, zed ns j (by omega), e1]
   simp only [List.getD_eq_getElem?_getD, List.getElem?_eq_getElem hj, Option.getD_some]
theorem zfN : ∀ {ns : List Int}, ns.all zeB = true→-1000000 * (ns.length : Int) ≤ ns.sum∧ns.sum ≤ 1000000 * (ns.length : Int)
 | [], _ => by simp
 | i :: ns, h => by
   rw [List.all_cons, Bool.and_eq_true] at h
   obtain ⟨h1, h2⟩ := h
   unfold zeB at h1
   rw [Bool.and_eq_true] at h1
   have a1 := of_decide_eq_true h1.1
   have a2 := of_decide_eq_true h1.2
   have ih := zfN h2
   rw [List.sum_cons, List.length_cons]
   push_cast
   omega
theorem zgj (hc : X.calm = true) : zdC X (.builtin "sum") sumC := by
 intro pins s σ H xs us Q I r ⟨ds, st, io, d, st', R, S, e, k⟩
 unfold sumC at e
 split at e
 · rename_i n
   obtain ⟨ts, e0, e⟩ := zad e
   obtain ⟨ns, e1, e⟩ := zad e
   obtain ⟨hf, e⟩ := zao e
   cases e
   rw [Bool.and_eq_true] at hf
   have hall := hf.1
   have hlen := of_decide_eq_true hf.2
   obtain ⟨v, rfl, p, rfl, hp⟩ := R.one
   obtain ⟨u, rfl, ru⟩ := r.one
   cases ru
   obtain ⟨ys, hx, r1⟩ := zaX S hp e0
   obtain ⟨its, rv, pl, hz⟩ := I.list hx
   obtain ⟨hl, hval⟩ := zhL r1 rv e1
   refine call_sum_walk (wpAny_pyIter_list pl.isList ?_)
   have hlt : p < s.heap.objs.size := by
     obtain ⟨o, _, e, _⟩ := pl
     exact Heap.lt_size e
   refine ⟨_, _, _, _, _, _, fun i => ns.getD i 0, rfl, Walks.list (A := X.A.in1) (I.ok.hd hc) s.heap.objs.size p (Nat.ne_of_lt hlt) its.toArray, ⟨⟨_, Heap.get?_push_size _ rfl, rfl, rfl⟩, ?_⟩, ?_, ?_, ?_, fun h' tk t' hk => ?_⟩
   · obtain ⟨o, nn, e, c, dd, sq⟩ := pl
     exact ⟨o, Heap.get?_push_of_some _ e, c, nn, sq⟩
   · intro b hb
     rw [Heap.size_push]
     simp at hb
     rcases hb with hb | hb
     · rw [hb]; exact Nat.lt_succ_self _
     · rw [hb]; exact Nat.lt_succ_of_lt hlt
   · intro i v hv
     exact hval i v (by simpa using hv)
   · intro j hj
     have hj : j < ns.length := by simpa [hl] using hj
     have b1 : zeB (ns.getD j 0) = true := by
       rw [List.getD_eq_getElem?_getD, List.getElem?_eq_getElem hj]
       exact List.all_eq_true.mp hall _ (List.getElem_mem hj)
     have b2 : (ns.take (j + 1)).all zeB = true := List.all_eq_true.mpr fun x hx => List.all_eq_true.mp hall x (List.mem_of_mem_take hx)
     have b3 := zfN b2
     rw [zed ns (j + 1) hj]
     unfold zeB at b1
     rw [Bool.and_eq_true] at b1
     have a1 := of_decide_eq_true b1.1
     have a2 := of_decide_eq_true b1.2
     have hl2 : (ns.take (j + 1)).length ≤ 100000 := by rw [List.length_take]; omega
     unfold InLong
     dsimp only
     omega
   · refine ⟨.int _, H, I.kept (t' := tk) fun b o q => hk b o ?_ (Heap.get?_push_of_some _ q), ⟨t', rfl⟩, ?_⟩
     · simp
       exact Nat.ne_of_lt (Heap.lt_size q)
     · have e2 : preSum (fun i => ns.getD i 0) its.toArray.size = ns.sum := by
         rw [List.size_toArray, hl, zed ns ns.length (Nat.le_refl _), List.take_length]
       rw [e2]
       exact k.now S rfl
 · cases e
def zjA : GN
 | [x], st => (toP 100 st x).bind fun p => if (PyData.showable p && !p.hasDict && fits p.shown.length) = true then some (.str p.shown, st) else none
 | _, _ => none
theorem zdv (hg : X.A.guards = some []) (hu : X.A.units + 110 < cLine) : zdC X (.builtin "repr") zjA := by
 intro pins s σ H xs us Q I r ⟨ds, st, io, d, st', R, S, e, k⟩
 unfold zjA at e
 split at e
 · rename_i x
   obtain ⟨p, e1, e⟩ := zad e
   obtain ⟨hf, e⟩ := zao e
   cases e
   rw [Bool.and_eq_true, Bool.and_eq_true] at hf
   obtain ⟨⟨h1, h2⟩, h3⟩ := hf
   have hz : p.shown.length ≤ sizeLine := of_decide_eq_true h3
   have hnd : p.hasDict = false := by simpa using h2
   obtain ⟨v, rfl, rx⟩ := R.one
   obtain ⟨u, rfl, ru⟩ := r.one
   have hdep := (zdh e1).2
   obtain ⟨as, rd⟩ := zbA I S rx ru e1
   have fin : ∀ h' u tk, (∀ b o, s.heap.get? b = some o→h'.get? b = some o)→EP X pins σ Q (.str p.shown u) { s with heap := h', toks := tk } := fun h' u tk hk => ⟨.str p.shown, H, I.kept (t' := tk) fun b o q => hk b o q, ⟨u, rfl⟩, k.now S rfl⟩
   cases u with
   | ref a => exact repr_of_reads' rd h1 (fun z => by rw [hnd] at z; cases z) hg (by omega) (fun b o q => q) fin hz
   | int i t =>
     cases rd
     exact PySem.P.repr_of_int (by simpa [PyData.showable] using h1) (fin s.heap s.toks _ fun b o q => q)
   | str z t =>
     cases rd
     exact PySem.P.repr_of_str (fin s.heap s.toks _ fun b o q => q) (by simpa [PyData.shown] using hz)
   | bool b =>
     cases rd
     exact PySem.P.repr_of_bool (fin s.heap s.toks _ fun b o q => q)
   | none =>
     cases rd
     exact PySem.P.repr_of_none (fin s.heap s.toks _ fun b o q => q)
   | _ => cases rd
 · cases e
end
end L2.MP
namespace L2.MP
open PySem PySem.Spec PyProof.Rows
section
variable {prog : Program} {w : World} {A : Around} {E : Value→Shared→Prop} {s : Shared}
theorem zi4 {d : Addr} {o : Obj} {es : Array DictEntry} {ep : Nat} {R : Value→Shared→Prop} (ty : s.TypeIs (.ref d) "dict") (hd : (d == sysModules) = false) (g : s.heap.get? d = some o) (dd : o.data = .dict es ep)
   (k : R (.ref s.heap.objs.size) { s with heap := s.heap.push { cls := .type "dict_keyiterator", data := .fields #[.ref d, .int 0 0, .int es.size 0, .int ep 0] } }) : wpAny (model prog w) A (pyIter (.ref d)) R E s := by
 refine wpAny_pyIter_slot ty F.slot_dict_iter (wpAny_call_entry F.slot_dict_iter ty F.entry_dict_iter ?go (F.args_dict_iter_1 _))
 unfold Builtin.«dict.__iter__»
 refine wpAny_bind ?_
 unfold Builtin.Dict.dictSlotNone
 refine wpAny_bind (wpAny_notOrdered_dict ty ?_)
 show wpAny _ _ (pure (Value.ref d)) _ _ s
 refine wpAny_pure ?_
 show wpAny _ _ (Builtin.Dict.showsAll d >>= _) _ _ s
 unfold Builtin.Dict.showsAll
 rw [if_neg (by rw [hd]; exact Bool.false_ne_true)]
 refine wpAny_bind (wpAny_pure (wpAny_bind (wpAny_dictEntries g dd (wpAny_bind (wpAny_dictEpoch g dd ?_)))))
 refine wpAny_bind (wpAny_newObj_type (wpAny_pure ⟨_, rfl, "dict_keyiterator", _, ⟨_, Heap.get?_push_size _ rfl, rfl⟩, F.slot_dict_keyiterator_next.lookup, ?_⟩))
 simpa [rawInt] using k
theorem zi3 {it d : Addr} {i ep : Nat} {o : Obj} {es : Array DictEntry} {en : DictEntry} {R : Option Value→Shared→Prop} (hit : s.heap.IsKeyIter it d i es.size ep) (g : s.heap.get? d = some o) (dd : o.data = .dict es ep) (hx : es[i]? = some en)
   (k : ∀ h', h'.IsKeyIter it d (i + 1) es.size ep→Heap.SameBut it s.heap h'→R (some en.key) { s with heap := h' }) : wpAny (model prog w) A (pyNext (.ref it)) R E s := by
 obtain ⟨io, ig, ic, idt⟩ := id hit
 have own : Builtin.Dict_items.ownsTuple "dict_keyiterator" = false := by decide
 unfold pyNext
 refine wpAny_bind (wpAny_attempt (wpAny_callSpecial?_slot (name := Str.ofString "__next__") hit.typeIs F.slot_dict_keyiterator_next (wpAny_call_entry F.slot_dict_keyiterator_next hit.typeIs F.entry_dict_keyiterator_next ?_ (F.args_dict_keyiterator_next_1 _))))
 refine wpAny_bind (wpAny_pure (wpAny_bind (wpAny_bind ?_)))
 refine wpAny_bind (wpAny_typeNameOfWhole_keyiter hit.typeIs (wpAny_pure (wpAny_bind (wpAny_fieldsOf ig idt ?_))))
 simp only [own, Bool.false_eq_true, if_false]
 show wpAny _ _ (if (Value.ref d == Value.none) = true then _ else _) _ _ s
 rw [if_neg (show ¬ (Value.ref d == Value.none) = true from fun z => Bool.false_ne_true z)]
 refine wpAny_bind (wpAny_pure (wpAny_bind (wpAny_dictEntries g dd ?_)))
 rw [if_neg (by simp)]
 refine wpAny_bind (wpAny_pure (wpAny_bind (wpAny_dictEpoch g dd ?_)))
 rw [if_neg (by simp)]
 refine wpAny_pure ?_
 have ni : ¬ ((i : Int) < 0) := by omega
 simp only [ni, if_false, Int.toNat_natCast, hx]
 refine wpAny_bind (wpAny_bind (wpAny_typeNameOfWhole_keyiter hit.typeIs (wpAny_pure (wpAny_bind (wpAny_isOneOf_keyiter hit.typeIs ?_)))))
 show wpAny _ _ (setField (.ref it) 1 (rawInt ((i : Int) + 1)) >>= _) _ _ s
 refine wpAny_bind (wpAny_setField ig idt (by simp) ?_)
 have h2 : (s.heap.update it (Obj.mapFields (·.setIfInBounds 1 (rawInt ((i : Int) + 1))))).IsKeyIter it d (i + 1) es.size ep := ⟨_, Heap.get?_update_self _ ig (Obj.isFreed_of_fields (Obj.data_mapFields idt _)), (Obj.cls_mapFields ..).trans ic, by rw [Obj.data_mapFields idt]; simp [rawInt]⟩
 refine wpAny_bind (wpAny_holding (wpAny_bind (wpAny_isOneOf_keyiter (s := { s with heap := s.heap.update it (Obj.mapFields (·.setIfInBounds 1 (rawInt ((i : Int) + 1)))) }) h2.typeIs ?_)))
 show wpAny _ _ (pure en.key) _ _ _
 exact wpAny_pure (wpAny_pure ⟨_, rfl, wpAny_pure (k _ h2 (Heap.SameBut.update ..))⟩)
theorem zi2 {it d : Addr} {i ep : Nat} {o : Obj} {es : Array DictEntry} {R : Option Value→Shared→Prop} (hh : A.handled = none) (hit : s.heap.IsKeyIter it d i es.size ep) (g : s.heap.get? d = some o) (dd : o.data = .dict es ep) (hx : es[i]? = none)
   (k : ∀ h', Heap.ExtBut it s.heap h'→R none { s with heap := h' }) : wpAny (model prog w) A (pyNext (.ref it)) R E s := by
 obtain ⟨io, ig, ic, idt⟩ := id hit
 have own : Builtin.Dict_items.ownsTuple "dict_keyiterator" = false := by decide
 unfold pyNext
 refine wpAny_bind (wpAny_attempt (wpAny_callSpecial?_slot (name := Str.ofString "__next__") hit.typeIs F.slot_dict_keyiterator_next (wpAny_call_entry F.slot_dict_keyiterator_next hit.typeIs F.entry_dict_keyiterator_next ?_ (F.args_dict_keyiterator_next_1 _))))
 refine wpAny_bind (wpAny_pure (wpAny_bind (wpAny_bind ?_)))
 refine wpAny_bind (wpAny_typeNameOfWhole_keyiter hit.typeIs (wpAny_pure (wpAny_bind (wpAny_fieldsOf ig idt ?_))))
 simp only [own, Bool.false_eq_true, if_false]
 show wpAny _ _ (if (Value.ref d == Value.none) = true then _ else _) _ _ s
 rw [if_neg (show ¬ (Value.ref d == Value.none) = true from fun z => Bool.false_ne_true z)]
 refine wpAny_bind (wpAny_pure (wpAny_bind (wpAny_dictEntries g dd ?_)))
 rw [if_neg (by simp)]
 refine wpAny_bind (wpAny_pure (wpAny_bind (wpAny_dictEpoch g dd ?_)))
 rw [if_neg (by simp)]
 refine wpAny_pure ?_
 have ni : ¬ ((i : Int) < 0) := by omega
 simp only [ni, if_false, Int.toNat_natCast, hx]
 refine wpAny_bind (wpAny_bind (wpAny_typeNameOfWhole_keyiter hit.typeIs (wpAny_pure ?_)))
 show wpAny _ _ (setField (.ref it) 0 .none >>= _) _ _ s
 refine wpAny_bind (wpAny_setField ig idt (by simp) ?_)
 show wpAny _ _ (newExc (.type "StopIteration") [] >>= _) _ _ _
 simp only [newExc, newTuple]
 refine wpAny_bind (wpAny_bind (wpAny_newObj_type (wpAny_bind (m := firstArgMember _ _) (wpAny_of_eq (a := Value.none) (by first | rfl | (simp only [firstArgMember]; rfl)) (wpAny_newObj_type ?_ (by size_fits)))) (by size_fits)))
 simp only [raiseNew]
 refine wpAny_bind (wpAny_handled ?_)
 rw [show A.in1.handled = none from hh]
 refine wpAny_bind (wpAny_pure (wpAny_throw ?_))
 refine wpAny_bind (wpAny_isInstance (T := "StopIteration") (b := true) ⟨_, Heap.get?_push_size _ rfl, rfl⟩ isSubtype_stop (wpAny_pure ?_))
 exact k _ (((Heap.SameBut.update ..).extBut.push _).push _)
end
def Itk (o : Obj) (d : Addr) : It :=
 ⟨fun i H => ∃ ps p, H d = some (.frz o (.dT ps))∧ps[i]? = some p, fun i H x H' => ∃ b ps k v, H' = H∧x = .ref b∧H d = some (.frz o (.dT ps))∧ps[i]? = some (k, v)∧H b = some (.tup (k.map kV)),
   fun i H => ∃ ps, H d = some (.frz o (.dT ps))∧ps.length ≤ i⟩
theorem zir {P : Program} {w : World} {K : PySem.W.Frag} {tg : Expr} {o : Obj} {es : Array DictEntry} {ep : Nat} (d it : Addr) (dd : o.data = .dict es ep) :
   Turn P w K tg (Itk o d) [it] it (fun i h => h.IsKeyIter it d i es.size ep) where
 mem := by simp
 obj := fun i h st b hb => by
   obtain ⟨ob, e, c, dt⟩ := st
   rw [List.mem_singleton.mp hb]
   exact ⟨_, e, fun v z => by rw [dt] at z; cases z⟩
 keep := fun i h h' st k => st.at fun ob e => k it (by simp) ob e
 item := by
   intro X hP hw hK hc i pins s σ H E I hf st hg
   subst hP hw hK
   obtain ⟨ps, ⟨k, v⟩, hq, hx⟩ := hg
   obtain ⟨g, hl, ent⟩ := zh3 (I.hok d _ hq) dd
   obtain ⟨en, b, he, hkey, hb, hv⟩ := ent i k v hx
   obtain ⟨f0, f1, f2, f3, f4, f5⟩ := hf it (by simp)
   refine zi3 st g dd he fun h' st' sb => ?_
   have I1 : Inv X pins σ H { s with heap := h' } := I.turned (t' := s.toks) (fun b o hb e => (sb.2 b hb).trans e) f0 f1 f3 f4 f5
   obtain ⟨ob, e, c, dt⟩ := id st'
   exact ⟨en.key, rfl, zmF (s := { s with heap := h' }) e c dt (by decide) ⟨.ref b, H, I1, by rw [hkey]; rfl, ⟨b, ps, k, v, rfl, rfl, hq, hx, hb⟩, st', fun b hb => (hf b hb).1⟩⟩
 done := by
   intro X hP hw hK hc i pins s σ H E I hf st hg
   subst hP hw hK
   obtain ⟨ps, hq, hx⟩ := hg
   obtain ⟨g, hl, _⟩ := zh3 (I.hok d _ hq) dd
   obtain ⟨f0, f1, f2, f3, f4, f5⟩ := hf it (by simp)
   exact zi2 (I.ok.hd hc) st g dd (by simp; omega) fun h' eb => ⟨rfl, I.turned (t' := s.toks) (fun b o hb e => eb b o hb e) f0 f1 f3 f4 f5⟩
 self := fun _ _ _ _ _ st h => wpAny_pyIter_keyiter st h
section
variable {X : Cx} {K : PySem.W.Frag} {H : Hp} {io : List Addr} {m : ME} {st st' : Sto} {tg : Expr}
def zdO (kvs : List (List Key × D)) : List D := kvs.map fun p => .tup (p.1.map keyD)
def zlj : D→Sto→Option (Wk × Sto)
 | .ref n, s => match s[n]? with
   | some (.dt kvs) => some (⟨zdO kvs, []⟩, s.set n (.ft kvs))
   | _ => none
 | _, _ => none
theorem zoG {n : Nat} {p : Addr} {o : Obj} {ps : List (List Key × V)} {kvs : List (List Key × D)} (S : StR K H io st) (hn : io[n]? = some p) (hp : H p = some (.frz o (.dT ps))) (r : KR (List Key) K H io ps kvs) : ItOk K H io ⟨zdO kvs, []⟩ (Itk o p) where
 go := fun i d H1 k1 s hd X1 S1 hs => by
   have h1 := X1.frz _ _ _ hp
   have hd : (zdO kvs)[i]? = some d := hd
   unfold zdO at hd
   rw [List.getElem?_map] at hd
   obtain ⟨⟨k, y⟩, hk, rfl⟩ := zag hd
   have get : ∀ {l : List (List Key × V)} {m : List (List Key × D)} {i : Nat}, KR (List Key) K H io l m→m[i]? = some (k, y)→∃ v, l[i]? = some (k, v) := by
     intro l m i q
     induction q generalizing i with
     | nil => intro e; simp at e
     | @cons a b _ _ h t ih =>
       cases i with
       | zero =>
         intro e
         simp at e
         subst e
         obtain ⟨a1, a2⟩ := a
         have z : a1 = k := h.1
         subst z
         exact ⟨a2, rfl⟩
       | succ j => intro e; exact ih (by simpa using e)
   obtain ⟨v, hv⟩ := get r hk
   refine ⟨⟨ps, _, h1, hv⟩, fun x H' y' => ?_⟩
   obtain ⟨b, ps', k', v', rfl, rfl, h1', hv', hb⟩ := y'
   rw [h1] at h1'
   cases h1'
   rw [hv] at hv'
   cases hv'
   exact ⟨Ext.refl, S1, ⟨b, _, rfl, hb, zfD k⟩⟩
 stop := fun H1 k1 s X1 S1 hs => ⟨ps, X1.frz _ _ _ hp, by show ps.length ≤ (zdO kvs).length; unfold zdO; rw [List.length_map, KR.length r]; exact Nat.le_refl _⟩
 stop' := fun H1 k1 s i hi X1 S1 hs => ⟨ps, X1.frz _ _ _ hp, by have hi : (zdO kvs).length ≤ i := hi; unfold zdO at hi; rw [List.length_map, ← KR.length r] at hi; exact hi⟩
def mWK (m : ME) : MI := fun ρ st => (m ρ st).bind fun (d, s) => zlj d s
theorem zjx {o : Expr} (ho : SE X o m) : SI X tg o (mWK m) := by
 intro pins s σ H R I ⟨ρ, st, io, W, st', E, S, e, k⟩
 obtain ⟨⟨d, s1⟩, e1, e⟩ := zad e
 cases d with
 | ref n =>
   unfold zlj at e
   dsimp only at e
   split at e
   · rename_i kvs en
     cases e
     refine thn (ho pins s σ H (fun v H' => ∃ ka, Ext io ka H H'∧StR X.K H' (io ++ ka) s1∧Rep X.K H' (io ++ ka) v (.ref n)) I ⟨ρ, st, io, _, s1, E, S, e1, fun v1 H1 k1 X1 S1 R1 => ⟨k1, X1, S1, R1⟩⟩) fun v s2 ⟨x, H1, I1, r1, k1, X1, S1, R1⟩ => ?_
     obtain ⟨p, rfl, hp⟩ := R1
     cases r1
     obtain ⟨ps, hH, r⟩ := S1.ob n p _ hp en
     obtain ⟨t1, t2, hs⟩ := zkS I1 (.inr ⟨ps, .inl hH⟩)
     obtain ⟨_, _, xs, _, o, es, ep, g, _, dd, _, _⟩ := I1.hok p _ hH
     refine zi4 (o := o) (es := es) (ep := ep) t1 hs g dd ?_
     have J := I1.kept (t' := s2.toks) (h' := s2.heap.push { cls := .type "dict_keyiterator", data := .fields #[.ref p, .int 0 0, .int es.size 0, .int ep 0] }) fun b u q => Heap.get?_push_of_some _ q
     have J2 := Inv.freeze J hH (Heap.get?_push_of_some _ g) (by simp) (by simp) (by simp) (by simp)
     obtain ⟨X2, S2⟩ := zfn (o := .frz o (.dT ps)) (ob := .ft kvs) S1 hp en (fun o u z => by rw [hH] at z; cases z) fun H' T e' => ⟨o, ps, e', KR.mono T r⟩
     refine ⟨_, [_], _, _, _, rfl, J2, zir p _ dd, ⟨_, Heap.get?_push_size _ rfl, rfl, rfl⟩, fun b hb => ?_, ?_⟩
     · rw [List.mem_singleton.mp hb]
       refine I1.fpOk (Nat.le_refl _) ?_
       rw [zay (Ne.symm (Nat.ne_of_lt (Heap.lt_size g)))]
       exact I1.hok.fresh (Nat.le_refl _)
     · have hn' : ((io ++ k1) ++ [])[n]? = some p := by rw [List.append_nil]; exact hp
       have r2 := KR.mono (ka := []) (X2.kp S1) r
       have ok := zoG S2 hn' zbi r2
       refine k _ _ (k1 ++ []) (X1.trans S1 X2) (by rw [← List.append_assoc]; exact S2) (by rw [← List.append_assoc]; exact ok)
   · cases e
 | _ => cases e
def zkM (st : Sto) (n : Nat) (k : D) : Option (Option D) := match st[n]? with
 | some (.ft kvs) => match k with
   | .tup ds => (keysOf ds).map fun q => valD kvs q
   | _ => none
 | _ => none
theorem zga {n : Nat} {p : Addr} {k : D} {y : V} {r : Option D} (S : StR K H io st) (hp : io[n]? = some p) (ry : Rep K H io y k) (h : zkM st n k = some r) : ∃ o, DGet H p y o∧((r = none∧o = none) ∨ ∃ d v, r = some d∧o = some v∧Rep K H io v d) := by
 unfold zkM at h
 split at h
 · rename_i kvs e
   split at h
   · rename_i ds
     obtain ⟨q, e1, h⟩ := zag h
     subst h
     obtain ⟨ob, ps, hH, r⟩ := S.ob n p _ hp e
     obtain ⟨b, xs, rfl, hb, rs⟩ := ry
     have ex := zbS rs e1
     subst ex
     refine ⟨_, .inr ⟨ps, q, b, .inr ⟨ob, hH⟩, rfl, hb, rfl⟩, ?_⟩
     rcases KR.val r q with ⟨h1, h2⟩ | ⟨d, v, h1, h2, h3⟩
     · exact .inl ⟨h1, h2⟩
     · exact .inr ⟨d, v, h1, h2, h3⟩
   · cases h
 · cases h
end
end L2.MP
namespace L2.MP
open PySem PySem.Spec PyProof.Rows
section
variable {prog : Program} {w : World} {A : Around} {E : Value→Shared→Prop} {s : Shared}
theorem zgM {sl : Addr} {t : Tok} {n : Nat} {Q : Int × Int × Nat→Shared→Prop} (hs : s.heap.IsSliceOf sl .none .none (.int (-1) t)) (h : Q ((n : Int) - 1, -1, n) s) : wpAny (model prog w) A (Builtin.Slice.sliceApplied (.ref sl) (pure (n : Int))) Q E s := by
 obtain ⟨os, hos, hcs, hds⟩ := id hs
 unfold Builtin.Slice.sliceApplied Builtin.Slice.sliceFields
 refine wpAny_bind (wpAny_bind (wpAny_field hos hds (x := .none) rfl (wpAny_bind (wpAny_field hos hds (x := .none) rfl (wpAny_bind (wpAny_field hos hds (x := .int (-1) t) rfl (wpAny_pure ?_)))))))
 refine wpAny_bind (HT.slicePart_ (.int (-1) t) ?_)
 show wpAny _ _ (if ((-1 : Int) == 0) = true then _ else _) _ _ s
 rw [if_neg (by decide)]
 refine wpAny_bind (HT.slicePart_ .none (wpAny_bind (HT.slicePart_ .none (wpAny_bind (wpAny_pure ?_)))))
 have e1 : Builtin.Slice.sliceAdjust none none (-1) (n : Int) = ((n : Int) - 1, -1) := by
   unfold Builtin.Slice.sliceAdjust
   simp
 have e2 : Builtin.Slice.slicePlaces ((n : Int) - 1) (-1) (-1) = n := by
   unfold Builtin.Slice.slicePlaces
   have h1 : ¬ ((-1 : Int) > 0) := by decide
   simp only [h1, if_false]
   by_cases hn : (-1 : Int) < (n : Int) - 1
   · simp [hn]
   · simp [hn]
     omega
 show wpAny _ _ (match Builtin.Slice.sliceAdjust none none (-1) (n : Int) with | (lo, hi) => pure (lo, (-1 : Int), Builtin.Slice.slicePlaces lo hi (-1))) _ _ s
 rw [e1]
 show wpAny _ _ (pure ((n : Int) - 1, (-1 : Int), Builtin.Slice.slicePlaces ((n : Int) - 1) (-1) (-1))) _ _ s
 rw [e2]
 exact wpAny_pure h
theorem zhV {α β : Type} {f g : α→Option β} : ∀ {l : List α}, (∀ x ∈ l, f x = g x)→l.filterMap f = l.filterMap g
 | [], _ => rfl
 | a :: l, h => by
   rw [List.filterMap_cons, List.filterMap_cons, h a List.mem_cons_self, zhV fun x hx => h x (List.mem_cons_of_mem _ hx)]
theorem zko (xs : Array Value) : ((List.range xs.size).filterMap fun (m : Nat) => xs[(((xs.size : Int) - 1) + (m : Int) * -1).toNat]?).toArray = xs.toList.reverse.toArray := by
 congr 1
 have e : ∀ m ∈ List.range xs.size, xs[(((xs.size : Int) - 1) + (m : Int) * -1).toNat]? = xs[xs.size - 1 - m]? := fun m hm => by
   have := List.mem_range.mp hm
   have : (((xs.size : Int) - 1) + (m : Int) * -1).toNat = xs.size - 1 - m := by omega
   rw [this]
 rw [zhV e]
 have h2 : (List.range xs.size).filterMap (fun m => xs[xs.size - 1 - m]?) = ((List.range xs.size).map fun k => xs.size - 1 - k).filterMap (xs[·]?) := by
   rw [List.filterMap_map]
   rfl
 rw [h2, PySem.W.krv_range, List.filterMap_reverse, PySem.W.krv_all]
theorem zdd {t sl : Addr} {items : Array Value} {tk : Tok} {Q : Value→Shared→Prop} (ht : IsTup s.heap t items) (hs : s.heap.IsSliceOf sl .none .none (.int (-1) tk))
   (h : Q (.ref s.heap.objs.size) { s with heap := s.heap.push { cls := .type "tuple", data := .seq items.toList.reverse.toArray } }) (hsz : items.size ≤ sizeLine) : wpAny (model prog w) A (getItem (.ref t) (.ref sl)) Q E s := by
 have htake : sizeOk (.seq items.toList.reverse.toArray) := by
   show items.toList.reverse.toArray.size ≤ sizeLine
   rw [List.size_toArray, List.length_reverse, Array.length_toList]
   exact hsz
 obtain ⟨os, hos, hcs, hds⟩ := id hs
 have hTs : s.TypeIs (.ref sl) "slice" := ⟨os, hos, hcs⟩
 unfold getItem
 try with_reducible refine wpAny_holding ?_
 first | refine wpAny_bind (wpAny_pure ?_) | skip
 refine wpAny_bind (wpAny_sequenceKey ht.typeIs (by decide) ?_)
 refine wpAny_bind (wpAny_callSpecial?_slot (name := Str.ofString "__getitem__") ht.typeIs PyProof.Rows.slot_tuple_getitem (wpAny_call_entry PyProof.Rows.slot_tuple_getitem ht.typeIs entry_tuple_getitem ?_ (args_tuple_getitem _ _)))
 show wpAny _ _ (Builtin.Tuple.tupleItemsOf (.ref t) >>= _) _ _ s
 refine wpAny_bind (tupleItemsOf_ ht ?_)
 refine wpAny_bind (wpAny_typeOf hTs ?_)
 rw [if_pos (by decide)]
 refine wpAny_bind (zgM hs ?_)
 have hno : ¬ ((((items.size : Int) - 1) == 0 && (-1 : Int) == 1 && items.size == items.size) = true) := by
   intro q
   rw [Bool.and_eq_true, Bool.and_eq_true] at q
   exact absurd q.1.2 (by decide)
 show wpAny _ _ (if (((items.size : Int) - 1) == 0 && (-1 : Int) == 1 && items.size == items.size) = true then _ else _) _ _ s
 rw [if_neg hno, zko]
 first
   | exact wpAny_bind (m := Builtin.Tuple.tupleExact _) (wpAny_newObj_type (wpAny_pure ⟨_, rfl, wpAny_pure h⟩) htake)
   | exact wpAny_bind (m := Builtin.Tuple.tupleExact _) (wpAny_newObj_type (wpAny_bind (wpAny_pure (wpAny_pure ⟨_, rfl, wpAny_pure h⟩))) htake)
   | exact wpAny_bind (wpAny_bind (m := Builtin.Tuple.tupleExact _) (wpAny_newObj_type (wpAny_pure (wpAny_pure ⟨_, rfl, wpAny_pure h⟩)) htake))
   | exact wpAny_bind (wpAny_bind (m := Builtin.Tuple.tupleExact _) (wpAny_newObj_type (wpAny_pure ⟨_, rfl, wpAny_pure h⟩) htake))
end
section
variable {X : Cx} {K : PySem.W.Frag} {H : Hp} {io : List Addr} {st st' : Sto} {a b c e : Expr} {es : List Expr} {ma mb mc m mk : ME} {mm : MA} {pos : Pos} {pins : List (Addr × Obj)} {σ : L2.St} {s : Shared}
def znk (st : Sto) (n : Nat) (k : D) : Option (Option D) := orO (look st n k) (zkM st n k)
theorem zi0 {n : Nat} {p : Addr} {k : D} {y : V} {r : Option D} (S : StR K H io st) (hp : io[n]? = some p) (ry : Rep K H io y k) (h : znk st n k = some r) : ∃ o, DGet H p y o∧((r = none∧o = none) ∨ ∃ d v, r = some d∧o = some v∧Rep K H io v d) := by
 rcases zbY h with h | h
 · exact zfz S hp ry h
 · exact zga S hp ry h
def zi8 (st : Sto) (n : Nat) : Bool := match st[n]? with
 | some (.dk _) => true
 | some (.dt _) => true
 | some (.fk _) => true
 | some (.ft _) => true
 | _ => false
theorem zhK {n : Nat} {p : Addr} (S : StR K H io st) (hp : io[n]? = some p) (h : zi8 st n = true) : IsD H p := by
 unfold zi8 at h
 split at h
 · rename_i kvs e; obtain ⟨ps, q, _⟩ := S.ob n p _ hp e; exact .inl ⟨ps, .inl q⟩
 · rename_i kvs e; obtain ⟨ps, q, _⟩ := S.ob n p _ hp e; exact .inr ⟨ps, .inl q⟩
 · rename_i kvs e; obtain ⟨o, ps, q, _⟩ := S.ob n p _ hp e; exact .inl ⟨ps, .inr ⟨o, q⟩⟩
 · rename_i kvs e; obtain ⟨o, ps, q, _⟩ := S.ob n p _ hp e; exact .inr ⟨ps, .inr ⟨o, q⟩⟩
 · cases h
def zkJ (md mk : ME) : ME := fun ρ st => (md ρ st).bind fun (d, s1) => match d with
 | .ref n => if zi8 s1 n = true then (mk ρ s1).bind fun (k, s2) => (znk s2 n k).map fun r => (r.getD .non, s2) else none
 | _ => none
theorem zlQ {o : Expr} {md : ME} {apos cpos : Pos} (hu : X.A.units + 1 < cLine) (ho : SE X o md) (he : SE X e mk) (mm : M1 X o "get" apos e cpos := by exact ⟨rfl, rfl, rfl, rfl⟩) : SE X (.Call (.Attribute o "get" apos) [e] [] cpos) (zkJ md mk) :=
 PE.imp (zku hu ho he mm) fun σ H Q ⟨ρ, st, io, d, st', E, S, e, k⟩ => by
   obtain ⟨⟨x, s1⟩, e1, e⟩ := zad e
   cases x with
   | ref n =>
     obtain ⟨hd, e⟩ := zao e
     obtain ⟨⟨y, s2⟩, e2, e⟩ := zad e
     obtain ⟨r, e3, e⟩ := zag e
     cases e
     refine ⟨ρ, st, io, _, s1, E, S, e1, fun v1 H1 k1 X1 S1 R1 => ?_⟩
     obtain ⟨p, rfl, hp⟩ := R1
     refine ⟨p, rfl, zhK S1 hp hd, ρ, s1, io ++ k1, y, _, E.ext S X1, S1, e2, fun v2 H2 k2 X2 S2 R2 => ?_⟩
     obtain ⟨o, g, z⟩ := zi0 S2 (za6 hp) R2 e3
     refine ⟨o, g, ?_⟩
     rcases z with ⟨rfl, rfl⟩ | ⟨d', v, rfl, rfl, rv⟩
     · exact ((k.on S1 X1).on S2 X2).now S2 rfl
     · exact ((k.on S1 X1).on S2 X2).now S2 rv
   | _ => cases e
def zjT : G2 := fun d k st => match d with
 | .ref n => (zkM st n k).bind fun r => r.map fun v => (v, st)
 | _ => none
theorem zha {o i : Expr} {md mk : ME} (hu : X.A.units + 1 < cLine) (ho : SE X o md) (hi : SE X i mk) (hs : NoSl i := by intro _ _; rfl) : SE X (.Subscript o i pos) (mBin zjT md mk) := PE.imp (zjG hu ho hi hs) fun σ H Q ⟨ρ, st, io, d, st', E, S, e, k⟩ => by
 obtain ⟨⟨x, s1⟩, e1, e⟩ := zad e
 obtain ⟨⟨y, s2⟩, e2, e⟩ := zad e
 cases x with
 | ref n =>
   obtain ⟨r, e3, e⟩ := zad (show (zkM s2 n y).bind _ = some (d, st') from e)
   obtain ⟨w, e4, e⟩ := zag e
   cases e
   subst e4
   refine ⟨ρ, st, io, _, s1, E, S, e1, fun v1 H1 k1 X1 S1 R1 => ⟨ρ, s1, io ++ k1, y, _, E.ext S X1, S1, e2, fun v2 H2 k2 X2 S2 R2 => ?_⟩⟩
   obtain ⟨p, rfl, hp⟩ := R1
   obtain ⟨o, g, ⟨z, _⟩ | ⟨d', v, hd, hv, rv⟩⟩ := zga S2 (za6 hp) R2 e3
   · cases z
   · cases hd
     subst hv
     exact ⟨p, v, rfl, g, ((k.on S1 X1).on S2 X2).now S2 rv⟩
 | _ => cases e
def zpx (K : PySem.W.Frag) (te : TE) (ts : TO) : TE := fun σ H Q => te σ H fun x H1 => ts σ H1 fun k H2 => k = some (-1)∧∃ a xs, x = .ref a∧H2 a = some (.tup xs)∧∀ p, H2 p = none→Q (.ref p) (upd H2 p (.tup xs.reverse))
theorem zma {te : TE} {ts : TO} {p2 : Pos} {se : Expr} (he : PE X e te) (hs : PO X (some se) ts) : PE X (.Subscript e (.Slice none none (some se) p2) pos) (zpx X.K te ts) := by
 intro pins s σ H Q I h
 refine Subscript_ (thn (he pins s σ H _ I h) fun v s1 ⟨x, H1, I1, r1, q1⟩ => ?_)
 refine wpAny_Slice ?_
 rw [evalPart_none]
 refine wpAny_pure (wpAny_pure ?_)
 refine thn (hs pins s1 σ H1 _ I1 q1) fun vs s3 ⟨k, H3, I3, pk, hk, a, xs, hx, hq, q3⟩ => ?_
 subst hk
 subst hx
 cases r1
 have I4 : Inv X pins σ H3 { s3 with heap := s3.heap.push { cls := .type "slice", data := .fields #[.none, .none, vs] } } := I3.kept (t' := s3.toks) fun b ob q => Heap.get?_push_of_some _ q
 obtain ⟨its, r, ht, hz⟩ := I4.tuple (SqT.of (K := X.K) hq)
 have hlen := r.length
 show wpAny (model X.prog X.w) X.A (subscriptTail e (.Slice none none (some se) p2) (.ref a) (.ref s3.heap.objs.size)) (EP X pins σ Q) X.xe { s3 with heap := s3.heap.push { cls := .type "slice", data := .fields #[.none, .none, vs] } }
 cases pk with
 | int i ti =>
 refine tail_any (ops := [.ref a, .ref s3.heap.objs.size]) ht.typeIs PyProof.Rows.slot_tuple_getitem.lookup ?_ (by with_unfolding_all rfl)
 refine zdd ht (Heap.IsSliceOf.new ..) ?_ (by rw [List.size_toArray]; omega)
 refine ⟨.ref (s3.heap.push { cls := .type "slice", data := .fields #[.none, .none, .int (-1) ti] }).objs.size, _, I4.laid (t' := s3.toks) (o := .tup xs.reverse) (fun b ob q => Heap.get?_push_of_some _ q) (Nat.le_refl _) ?_, rfl, q3 _ (I4.hok.fresh (Nat.le_refl _))⟩
 exact ⟨by rw [List.length_reverse]; exact hz, _, zgP r, zcv.new _ _⟩
def zov (m mk : ME) : ME := fun ρ st => (m ρ st).bind fun (x, s1) => (mk ρ s1).bind fun (k, s2) => match x, k with
 | .tup ds, .int i => if (decide (i = -1)) = true then some (.tup ds.reverse, s2) else none
 | _, _ => none
theorem zlO {p2 : Pos} {se : Expr} (he : SE X e m) (hk : SE X se mk) : SE X (.Subscript e (.Slice none none (some se) p2) pos) (zov m mk) :=
 PE.imp (zma he (zjF hk)) fun σ H Q ⟨ρ, st, io, d, st', E, S, e, k⟩ => by
   obtain ⟨⟨x, s1⟩, e1, e⟩ := zad e
   obtain ⟨⟨y, s2⟩, e2, e⟩ := zad e
   refine ⟨ρ, st, io, x, s1, E, S, e1, fun v1 H1 k1 X1 S1 R1 => ?_⟩
   refine ⟨ρ, s1, io ++ k1, y, s2, E.ext S X1, S1, e2, fun v2 H2 k2 X2 S2 R2 => ?_⟩
   cases x with
   | tup ds =>
     cases y with
     | int i =>
       obtain ⟨hi, e⟩ := zao e
       cases e
       have hi1 := of_decide_eq_true hi
       subst hi1
       obtain ⟨p, xs, rfl, hp, r⟩ := R1.ext S1 X2
       exact ⟨_, R2, rfl, p, xs, rfl, hp, fun l hl => ((k.on S1 X1).on S2 X2).tup S2 (zhd r) hl⟩
     | _ => cases e
   | _ => cases e
end
end L2.MP
namespace L2.MP
open PySem PySem.Spec PyProof.Rows
theorem zeU : typeLookup (.type "tuple") "keys" = pure none := by rw [typeLookup_type, builtinLookup_eq_fast]; kernel_rfl
structure Fill (prog : Program) (w : World) (A : Around) (D I : Addr) (n : Nat) (key val : Nat→Value) (T : Nat→Heap→Prop) : Prop where
 keep : ∀ i h h', T i h→(∀ b o, b ≠ I→h.get? b = some o→h'.get? b = some o)→T i h'
 step : ∀ i (s : Shared) (Q : Unit→Shared→Prop) (E : Value→Shared→Prop), i < n→T i s.heap→(∀ h' tk, T (i + 1) h'→Heap.SameBut D s.heap h'→Q () { s with heap := h', toks := tk })→wpAny (model prog w) A (dictSet D (key i) (val i)) Q E s
section
variable {prog : Program} {w : World} {A : Around} {E : Value→Shared→Prop} {s : Shared} {a : Addr}
theorem zhE {Q : Option Value→Shared→Prop} {xs : Array Value} {k : Nat} {sl : Array (Option Value)} (hx : s.heap.get? a = some { cls := .type "tuple", dict := none, data := .seq xs k, slots := sl }) (hA : A.handled = none)
   (h : ∀ h' tk, (∀ b u, s.heap.get? b = some u→h'.get? b = some u)→Q none { s with heap := h', toks := tk }) : wpAny (model prog w) A (getAttr? (.ref a) "keys") Q E s := by
 obtain ⟨hp, g, d, tk, os⟩ := s
 have hT : ∀ tk', (⟨hp, g, d, tk', os⟩ : Shared).TypeIs (.ref a) "tuple" := fun _ => ⟨_, hx, rfl⟩
 have f1 := sub_AttributeError
 have f3 := F.slot_tuple_getattribute.lookup
 have f4 := F.slot_tuple_getattribute.bind (.ref a)
 have f5 := am_tuple_getattr_none
 unfold getAttr? getAttrBy? getAttrBy
 repeat (any_goals (first | assumption | exact hT _ | ((with_reducible show wpAny _ _ (call (Value.builtin "tuple.__getattribute__") _ _) _ _ _); refine call_meets F.slot_tuple_getattribute (hT _) am_entry_tuple_getattribute (F.args_tuple_getattribute_2 _ _) (meets_getattribute_miss_tuple a xs k sl _ _ zeU (by decide +kernel)) ⟨hx, hA, fun h' tk' e hx' => ?_⟩) | wp_step))
 obtain ⟨t', u', he⟩ := hx'.there
 show wpAny _ _ (getattributeRaised _ _ _ _ _ _ _) _ _ _
 unfold getattributeRaised
 repeat (any_goals (first | assumption | wp_step))
 exact h _ _ hx'.keeps
theorem Sr.nextN {x : Sr} {it : Addr} {i : Nat} {xs : Array Value} {v : Value} {R : Option Value→Shared→Prop} (hit : x.at_ s.heap it i) (h : x.is s.heap xs) (hx : xs[i]? = some v) (k : ∀ h', x.at_ h' it (i + 1)→Heap.SameBut it s.heap h'→R (some v) { s with heap := h' }) :
   wpAny (model prog w) A (pyNext (.ref it)) R E s := by
 cases x with
 | l a => exact wpAny_pyNext_list_item hit h hx k
 | t a => exact wpAny_pyNext_tuple_item (show s.heap.IsTupleIter it a i from hit) (show s.heap.IsTuple a xs from h) hx k
theorem Sr.stopN {x : Sr} {it : Addr} {i : Nat} {xs : Array Value} {R : Option Value→Shared→Prop} (hh : A.handled = none) (hit : x.at_ s.heap it i) (h : x.is s.heap xs) (hx : xs[i]? = none) (k : ∀ h', Heap.ExtBut it s.heap h'→R none { s with heap := h' }) :
   wpAny (model prog w) A (pyNext (.ref it)) R E s := by
 cases x with
 | l a => exact wpAny_pyNext_list_end hh hit h hx k
 | t a => exact wpAny_pyNext_tuple_end hh (show s.heap.IsTupleIter it a i from hit) (show s.heap.IsTuple a xs from h) hx k
theorem zqd {R : Result→Shared→Prop} {D I : Addr} {x : Sr} {its : List Value} {n : Nat} {key val : Nat→Value} {T : Nat→Heap→Prop} {h0 : Heap} (F : Fill prog w A.in1 D I n key val T) (hh : A.in1.handled = none) (hl : its.length = n) (hDI : D ≠ I) (hxD : x.ad ≠ D) (hxI : x.ad ≠ I) :
   ∀ (k i : Nat) (s : Shared), n - i = k→i ≤ n→x.at_ s.heap I i→x.is s.heap its.toArray→T i s.heap →
   (∀ (j : Nat) (v : Value), its[j]? = some v→∃ p, v = .ref p∧IsTup s.heap p #[key j, val j]∧p ≠ D∧p ≠ I)→(∀ b o, b ≠ D→b ≠ I→h0.get? b = some o→s.heap.get? b = some o) →
   (∀ h' tk, T n h'→(∀ b o, b ≠ D→b ≠ I→h0.get? b = some o→h'.get? b = some o)→R (.ok (.ret .none)) { s with heap := h', toks := tk }) →
   codeAny (model prog w) A (.builtin "dict.update.loop" ⟨[.ref D, .ref I, rawInt i, .none], []⟩) R s := by
 intro k
 induction k with
 | zero =>
   intro i s hk hi hit hlist hd hp h0k hR
   have hin : i = n := by omega
   subst hin
   refine codeAny_builtin zcg ?_
   rw [Around.under_plainId za0 _]
   show wpAny _ A.in1 (pyNext (.ref I) >>= _) _ _ s
   refine wpAny_bind (Sr.stopN hh hit hlist (by simp [hl]) fun h' hx => ?_)
   show wpAny _ A.in1 (Builtin.Dict.addKeywords D [] >>= fun _ => ret .none) _ _ _
   exact wpAny_bind (wpAny_pure (wpAny_pure (hR h' s.toks (F.keep _ _ _ hd fun b o hb e => hx b o hb e) fun b o h1 h2 e => hx b o h2 (h0k b o h1 h2 e))))
 | succ k ih =>
   intro i s hk hi hit hlist hd hp h0k hR
   have hlt : i < n := by omega
   have hlt' : i < its.length := by omega
   refine codeAny_builtin zcg ?_
   rw [Around.under_plainId za0 _]
   show wpAny _ A.in1 (pyNext (.ref I) >>= _) _ _ s
   have hv : its[i]? = some its[i] := List.getElem?_eq_getElem hlt'
   refine wpAny_bind (Sr.nextN (v := its[i]) hit hlist (by simp [hlt']) fun h' hit' hx => ?_)
   obtain ⟨p, ep, tp, nD, nI⟩ := hp i _ hv
   have tp' : IsTup h' p #[key i, val i] := by
     obtain ⟨o, g, c⟩ := tp
     exact ⟨o, hx.extBut p o nI g, c⟩
   have hd' : T i h' := F.keep _ _ _ hd fun b o hb e => hx.extBut b o hb e
   rw [ep]
   refine wpAny_bind (wpAny_holding (wpAny_bind (wpAny_tryCatch (zdp (s := { s with heap := h' }) tp' ?_))))
   refine wpAny_holding (F.step i { s with heap := h' } _ _ hlt hd' fun h2 tk2 hd2 hs2 => ?_)
   have hI2 : ∀ b o, b ≠ D→h'.get? b = some o→h2.get? b = some o := fun b o hb e => hs2.extBut b o hb e
   refine wpAny_pure ⟨plainId_quiet za0 _, ?_⟩
   refine ih (i + 1) { s with heap := h2, toks := tk2 } (by omega) (by omega) ?_ ?_ hd2 (fun j v h1 => ?_) (fun b o b1 b2 e => hI2 b o b1 (hx.extBut b o b2 (h0k b o b1 b2 e))) fun h3 tk3 d3 k3 => hR h3 tk3 d3 k3
   · exact Sr.at_keep hit' fun u e => hI2 I u (Ne.symm hDI) e
   · exact Sr.is_keep (Sr.is_keep hlist fun u e => hx.extBut _ u hxI e) fun u e => hI2 _ u hxD e
   · obtain ⟨q, e, ⟨o, g, c⟩, q1, q2⟩ := hp j v h1
     exact ⟨q, e, ⟨o, hI2 q o q1 (hx.extBut q o q2 g), c⟩, q1, q2⟩
def Sr.pl (h : Heap) (xs : Array Value) : Sr→Prop
 | .l a => PlainL h a xs
 | .t a => zcv h a xs
theorem Sr.pl_is {h : Heap} {xs : Array Value} {x : Sr} (q : x.pl h xs) : x.is h xs := by
 cases x with
 | l a => exact PlainL.isList q
 | t a => exact zcv.t q
theorem Sr.pl_keep {h h' : Heap} {xs : Array Value} {x : Sr} (q : x.pl h xs) (k : ∀ b u, h.get? b = some u→h'.get? b = some u) : x.pl h' xs := by
 cases x with
 | l a => exact PlainL.keeps q k
 | t a => exact zcv.keeps q k
theorem zc4 {x : Sr} {its : List Value} {n : Nat} {key val : Nat→Value} {T : Nat→Heap→Prop} {Q : Value→Shared→Prop} (hh : A.handled = none) (hpl : x.pl s.heap its.toArray) (hl : its.length = n)
   (hF : ∀ I : Addr, s.heap.objs.size < I→Fill prog w A.in1.in1 s.heap.objs.size I n key val T) (h0 : T 0 (s.heap.push { cls := .type "dict", data := .dict #[] }))
   (hp : ∀ (j : Nat) (v : Value), its[j]? = some v→∃ p, v = .ref p∧IsTup s.heap p #[key j, val j])
   (h : ∀ h' tk, T n h'→(∀ b o, s.heap.get? b = some o→h'.get? b = some o)→Q (.ref s.heap.objs.size) { s with heap := h', toks := tk }) :
   wpAny (model prog w) A (call (.type "dict") [.ref x.ad]) Q E s := by
 refine callType_codes (Q₁ := fun obj s₁ => obj = .ref s.heap.objs.size∧s₁ = { s with heap := s.heap.push { cls := .type "dict", data := .dict #[] } }) F.kt_called_dict (F.kt_typeCall_dict_1 _) F.entry_dict_init (kt_code_dict_new _ ⟨rfl, rfl⟩) ?_
 rintro obj s₁ ⟨rfl, rfl⟩
 have hnt : Shared.TypeIs { s with heap := s.heap.push { cls := .type "dict", data := .dict #[] } } (.ref s.heap.objs.size) "dict" := ⟨_, Heap.get?_push_size _ rfl, rfl⟩
 have k1 : ∀ b o, s.heap.get? b = some o→(s.heap.push { cls := .type "dict", data := .dict #[] }).get? b = some o := fun b o e => Heap.get?_push_of_some _ e
 have hpl1 := Sr.pl_keep hpl k1
 have hlt : ∀ b o, s.heap.get? b = some o→b < s.heap.objs.size := fun b o e => Heap.lt_size e
 have hll : x.ad < s.heap.objs.size := by obtain ⟨o, g⟩ := Sr.is_get (Sr.pl_is hpl); exact hlt _ o g
 refine ⟨hnt, F.args_dict_init_2 _ _, ?_⟩
 unfold Builtin.«dict.__init__»
 refine wpAny_bind ?_
 unfold Builtin.Dict.selfAndRest
 refine wpAny_bind (wpAny_notOrdered_dict hnt ?_)
 show wpAny _ _ (pure (s.heap.objs.size, [Value.ref x.ad])) _ _ _
 refine wpAny_pure ?_
 show wpAny _ _ (Builtin.Dict.updateFrom "dict.__init__" s.heap.objs.size (.ref x.ad) [] .none) _ _ _
 unfold Builtin.Dict.updateFrom
 have rest : ∀ (h2 : Heap) (tk2 : Nat), (∀ b u, (s.heap.push { cls := .type "dict", data := .dict #[] }).get? b = some u→h2.get? b = some u) →
     codeAny (model prog w) A.in1 (.builtin "dict.update.loop" ⟨[.ref s.heap.objs.size, .ref h2.objs.size, rawInt (0 : Nat), .none], []⟩) (wants (fun r s₂ => r = .none∧Q (.ref s.heap.objs.size) s₂) E) { s with heap := h2.push x.ob, toks := tk2 } := by
   intro h2 tk2 k2
   have hpl2 := Sr.pl_keep hpl1 k2
   have hsz : s.heap.objs.size < h2.objs.size := by
     obtain ⟨o, ho, _⟩ := hnt
     exact Heap.lt_size (k2 _ o ho)
   have k3 : ∀ b o, h2.get? b = some o→(h2.push x.ob).get? b = some o := fun b o e => Heap.get?_push_of_some _ e
   have n1 : s.heap.objs.size ≠ h2.objs.size := Nat.ne_of_lt hsz
   have n2 : x.ad ≠ s.heap.objs.size := Nat.ne_of_lt hll
   have n3 : x.ad ≠ h2.objs.size := Nat.ne_of_lt (Nat.lt_trans hll hsz)
   have FF := hF h2.objs.size hsz
   refine zqd (A := A.in1) (h0 := s.heap) (x := x) (its := its) FF hh hl n1 n2 n3 n 0 { s with heap := h2.push x.ob, toks := tk2 } rfl (Nat.zero_le _) ?_ (Sr.pl_is (Sr.pl_keep hpl2 k3)) ?_ (fun j v e1 => ?_) (fun b o _ _ e => k3 b o (k2 b o (k1 b o e))) (fun h' tk d' k' => ?_)
   · exact Sr.at_new (Heap.get?_push_size _ (by cases x <;> rfl))
   · exact FF.keep _ _ _ h0 fun b o _ e => k3 b o (k2 b o e)
   · obtain ⟨p, e, ⟨o, g, c⟩⟩ := hp j v e1
     exact ⟨p, e, ⟨o, k3 p o (k2 p o (k1 p o g)), c⟩, Nat.ne_of_lt (hlt p o g), Nat.ne_of_lt (Nat.lt_trans (hlt p o g) hsz)⟩
   · exact ⟨rfl, h h' tk d' fun b o e => k' b o (Nat.ne_of_lt (hlt b o e)) (Nat.ne_of_lt (Nat.lt_trans (hlt b o e) hsz)) e⟩
 cases x with
 | l a =>
   obtain ⟨⟨cl, di, da, sl⟩, nn, g1, c1, c2, c3⟩ := id hpl1
   simp only at c1 c2 c3
   subst c1 c2 c3
   refine wpAny_bind (wpAny_typeOf (show Shared.TypeIs { s with heap := s.heap.push { cls := .type "dict", data := .dict #[] } } (.ref a) "list" from ⟨_, g1, rfl⟩) ?_)
   rw [if_pos (by decide)]
   refine wpAny_bind (zgc g1 hh fun h2 tk2 k2 => ?_)
   simp only [Option.isNone_none, if_true]
   refine wpAny_bind (wpAny_rule ?_)
   refine wpAny_bind (Sr.iter (x := .l a) (s := { s with heap := h2, toks := tk2 }) (xs := its.toArray) (Sr.pl_is (x := .l a) (Sr.pl_keep (x := .l a) hpl1 k2)) ?_)
   exact wpAny_pure ⟨plainId_quiet za0 _, rest h2 tk2 k2⟩
 | t a =>
   obtain ⟨⟨cl, di, da, sl⟩, g1, c1, c2, nn, c3⟩ := id hpl1
   simp only at c1 c2 c3
   subst c1 c2 c3
   refine wpAny_bind (wpAny_typeOf (show Shared.TypeIs { s with heap := s.heap.push { cls := .type "dict", data := .dict #[] } } (.ref a) "tuple" from ⟨_, g1, rfl⟩) ?_)
   rw [if_pos (by decide)]
   refine wpAny_bind (zhE g1 hh fun h2 tk2 k2 => ?_)
   simp only [Option.isNone_none, if_true]
   refine wpAny_bind (wpAny_rule ?_)
   refine wpAny_bind (Sr.iter (x := .t a) (s := { s with heap := h2, toks := tk2 }) (xs := its.toArray) (Sr.pl_is (x := .t a) (Sr.pl_keep (x := .t a) hpl1 k2)) ?_)
   exact wpAny_pure ⟨plainId_quiet za0 _, rest h2 tk2 k2⟩
end
end L2.MP
namespace L2.MP
open PySem PySem.Spec PyProof.Rows
abbrev TE3 := List Key × Addr × Value
def zhg (acc xs : List TE3) : List TE3 := xs.foldl (fun acc x => storedH acc x.1 x.2.1 x.2.2) acc
theorem zgs {acc : List TE3} {k : List Key} {a : Addr} {v : Value} {x : TE3} (h : x ∈ storedH acc k a v) : (∃ y ∈ acc, y.1 = x.1∧y.2.1 = x.2.1) ∨ (x.1 = k∧x.2.1 = a) := by
 unfold storedH at h
 split at h
 · obtain ⟨y, hy, e⟩ := List.mem_map.mp h
   refine .inl ⟨y, hy, ?_⟩
   rw [← e]
   unfold putAt
   split <;> exact ⟨rfl, rfl⟩
 · rcases List.mem_append.mp h with h | h
   · exact .inl ⟨x, h, rfl, rfl⟩
   · rw [List.mem_singleton.mp h]
     exact .inr ⟨rfl, rfl⟩
theorem zfX : ∀ {xs acc : List TE3} {x : TE3}, x ∈ zhg acc xs→(∃ y ∈ acc, y.1 = x.1∧y.2.1 = x.2.1) ∨ ∃ y ∈ xs, y.1 = x.1∧y.2.1 = x.2.1
 | [], acc, x, h => .inl ⟨x, h, rfl, rfl⟩
 | z :: zs, acc, x, h => by
   rcases zfX (xs := zs) (acc := storedH acc z.1 z.2.1 z.2.2) h with ⟨y, hy, e1, e2⟩ | ⟨y, hy, e⟩
   · rcases zgs hy with ⟨u, hu, f1, f2⟩ | ⟨f1, f2⟩
     · exact .inl ⟨u, hu, f1.trans e1, f2.trans e2⟩
     · exact .inr ⟨z, List.mem_cons_self, f1.symm.trans e1, f2.symm.trans e2⟩
   · exact .inr ⟨y, List.mem_cons_of_mem _ hy, e⟩
theorem zgt (acc : List TE3) (k : List Key) (a : Addr) (v : Value) : (storedH acc k a v).length ≤ acc.length + 1 := by
 unfold storedH
 split <;> simp
theorem zeb : ∀ (xs acc : List TE3), (zhg acc xs).length ≤ acc.length + xs.length
 | [], acc => by show acc.length ≤ acc.length + 0; omega
 | z :: zs, acc => by
   have h1 := zeb zs (storedH acc z.1 z.2.1 z.2.2)
   have h2 := zgt acc z.1 z.2.1 z.2.2
   show (zhg (storedH acc z.1 z.2.1 z.2.2) zs).length ≤ _
   rw [List.length_cons]
   omega
theorem zhf {xs : List TE3} {i : Nat} {x : TE3} (e : xs[i]? = some x) : zhg [] (xs.take (i + 1)) = storedH (zhg [] (xs.take i)) x.1 x.2.1 x.2.2 := by
 rw [List.take_add_one, e]
 unfold zhg
 rw [List.foldl_append]
 rfl
def kAt (xs : List TE3) (i : Nat) : Value := match xs[i]? with | some x => .ref x.2.1 | none => .none
def vAt (xs : List TE3) (i : Nat) : Value := match xs[i]? with | some x => x.2.2 | none => .none
section
variable {prog : Program} {w : World} {A : Around} {E : Value→Shared→Prop} {s : Shared} {a : Addr}
def FT (prog : Program) (w : World) (D : Addr) (xs : List TE3) (i : Nat) (h : Heap) : Prop :=
 h.DictOfH (tupleKind (zaw prog w)) D (zhg [] (xs.take i))∧∀ x ∈ xs, (tupleKind (zaw prog w)).is h x.1 x.2.1
theorem zfE {h h' : Heap} {k : List Key} {b : Addr} (q : (tupleKind (zaw prog w)).is h k b) (kk : ∀ o, h.get? b = some o→h'.get? b = some o) : (tupleKind (zaw prog w)).is h' k b := by
 obtain ⟨o, its, n, h1, r⟩ := q
 exact ⟨o, its, n, kk o h1, r⟩
theorem zqq {D I : Addr} {xs : List TE3} (hu : A.units < cLine) (hDI : D ≠ I) (hI : ∀ x ∈ xs, x.2.1 ≠ I) (hD : ∀ x ∈ xs, x.2.1 ≠ D) (hz : xs.length ≤ sizeLine) : Fill prog w A D I xs.length (kAt xs) (vAt xs) (FT prog w D xs) where
 keep := fun i h h' ⟨⟨o, es, ep, ho, hc, hd, he, his, hn⟩, hk⟩ k => by
   have all : ∀ x ∈ xs, (tupleKind (zaw prog w)).is h' x.1 x.2.1 := fun x hx => zfE (hk x hx) fun o e => k _ o (hI x hx) e
   refine ⟨⟨o, es, ep, k _ o hDI ho, hc, hd, he, fun x hx => ?_, hn⟩, all⟩
   rcases zfX hx with ⟨y, hy, _⟩ | ⟨y, hy, e1, e2⟩
   · exact nomatch hy
   · have := all y (List.mem_of_mem_take hy)
     rw [e1, e2] at this
     exact this
 step := fun i s Q E hi ⟨hd, hk⟩ h => by
   have e : xs[i]? = some xs[i] := List.getElem?_eq_getElem hi
   have ek : kAt xs i = .ref xs[i].2.1 := by unfold kAt; rw [e]
   have ev : vAt xs i = xs[i].2.2 := by unfold vAt; rw [e]
   rw [ek, ev]
   have hl : (zhg [] (xs.take i)).length ≤ sizeLine := by
     have := zeb (xs.take i) []
     rw [List.length_take, List.length_nil] at this
     omega
   refine wpAny_dictSet_heap (hsz := hl) hu (hk _ (List.getElem_mem hi)) hd fun h' hd' hs => h h' _ ⟨?_, fun x hx => ?_⟩ hs
   · rw [zhf e]
     exact hd'
   · exact zfE (hk x hx) fun o g => hs.extBut _ o (hD x hx) g
end
def zeR {κ : Type} [DecidableEq κ] (kvs more : List (κ × V)) : List (κ × V) := more.foldl (fun acc kv => putK acc kv.1 kv.2) kvs
def zeS (kvs more : List (List Key × D)) : List (List Key × D) := more.foldl (fun acc kv => putD acc kv.1 kv.2) kvs
def zpg : D→Option (List Key × D)
 | .tup [.tup ks, v] => (keysOf ks).map fun q => (q, v)
 | _ => none
def zfq : List D→Option (List (List Key × D))
 | [] => some []
 | d :: r => (zpg d).bind fun t => (zfq r).map fun ts => t :: ts
section
variable {X : Cx} {K : PySem.W.Frag} {H : Hp} {io : List Addr} {st st' : Sto} {pins : List (Addr × Obj)} {σ : L2.St} {s : Shared}
theorem zkG : ∀ {more : List (List Key × V)} {mx : List TE3} {kvs : List (List Key × V)} {xs : List TE3}, KT H more mx→KT H kvs xs→KT H (zeR kvs more) (zhg xs mx) := by
 intro more mx kvs xs r
 induction r generalizing kvs xs with
 | nil => intro q; exact q
 | @cons p q ps qs h t ih =>
   intro r0
   have e : KT H (putK kvs p.1 p.2) (storedH xs q.1 q.2.1 q.2.2) := by
     rw [← h.1]
     exact KT.put r0 p.1 h.2.1 h.2.2
   exact ih e
theorem ziY : ∀ {more : List (List Key × V)} {mds : List (List Key × D)} {kvs : List (List Key × V)} {kds : List (List Key × D)}, KR (List Key) K H io more mds→KR (List Key) K H io kvs kds→KR (List Key) K H io (zeR kvs more) (zeS kds mds) := by
 intro more mds kvs kds r
 unfold KR at r
 induction r generalizing kvs kds with
 | nil => intro q; exact q
 | @cons p q ps qs h t ih =>
   intro r0
   have e : KR (List Key) K H io (putK kvs p.1 p.2) (putD kds q.1 q.2) := by
     rw [← h.1]
     exact KR.put r0 p.1 h.2
   exact ih e
theorem zjD (I : Inv X pins σ H s) : ∀ {ys : List V} {ds : List D} {kds : List (List Key × D)} {its : List Value}, Reps X.K H io ys ds→zfq ds = some kds→Vals ys its →
   ∃ (kvV : List (List Key × V)) (xs : List TE3), KR (List Key) X.K H io kvV kds∧KT H kvV xs∧its.length = xs.length∧xs.length = kds.length∧∀ (j : Nat) (v : Value) (x : TE3), its[j]? = some v→xs[j]? = some x→∃ p, v = .ref p∧IsTup s.heap p #[.ref x.2.1, x.2.2]
 | _, [], kds, _, h, e, r => by
   cases e
   cases (show _ = [] from h)
   cases r
   exact ⟨[], [], .nil, .nil, rfl, rfl, fun j v kv h => by simp at h⟩
 | _, d :: ds, kds, _, h, e, r => by
   obtain ⟨y, ys, rfl, h1, h2⟩ := h
   obtain ⟨t, e1, e⟩ := zad e
   obtain ⟨ts, e2, e⟩ := zag e
   subst e
   cases r with
   | @cons _ u _ us ru rus =>
     obtain ⟨kvV, xs, a1, a2, a3, a4, a5⟩ := zjD I h2 e2 rus
     unfold zpg at e1
     split at e1
     · rename_i ks v
       obtain ⟨q, eq1, e1⟩ := zag e1
       subst e1
       obtain ⟨p, vs, rfl, hp, rs⟩ := h1
       obtain ⟨v1, w1, rfl, q1, rs⟩ := rs
       obtain ⟨v2, w2, rfl, q2, rs⟩ := rs
       cases (show w2 = [] from rs)
       obtain ⟨b, zs, rfl, hb, rz⟩ := q1
       have ek := zbS rz eq1
       subst ek
       cases ru
       obtain ⟨ia, va, ht, _⟩ := I.tuple (SqT.of (K := X.K) hp)
       cases va with
       | cons r1 t1 =>
         cases t1 with
         | cons r2 t2 =>
           cases t2
           rename_i u1 u2
           cases (show u1 = Value.ref b from r1)
           refine ⟨(q, v2) :: kvV, (q, b, u2) :: xs, .cons ⟨rfl, q2⟩ a1, .cons ⟨rfl, hb, r2⟩ a2, by rw [List.length_cons, List.length_cons, a3], by rw [List.length_cons, List.length_cons, a4], fun j v kv e1 e2 => ?_⟩
           cases j with
           | zero =>
             cases e1
             cases e2
             exact ⟨p, rfl, ht⟩
           | succ j => exact a5 j v kv e1 e2
     · cases e1
theorem zpJ {k : Nat} {A : Around} (hr : Room k A) : A.units + 2 < cLine := by have := hr.un; omega
def zmN : GN
 | [.ref n], st => (zbj st n).bind fun ds => (zfq ds).bind fun kds => if fits kds.length = true then some (.ref st.length, st ++ [.dt (zeS [] kds)]) else none
 | [.tup ds], st => (zfq ds).bind fun kds => if fits kds.length = true then some (.ref st.length, st ++ [.dt (zeS [] kds)]) else none
 | _, _ => none
theorem zh1 {x : Sr} {ys : List V} {ds : List D} {kds : List (List Key × D)} {its : List Value} {A : Around} {Q : Value→Shared→Prop} {E : Value→Shared→Prop} (I : Inv X pins σ H s) (hh : A.handled = none) (hu : A.units + 2 < cLine) (pl : x.pl s.heap its.toArray) (rv : Vals ys its) (r1 : Reps X.K H io ys ds) (e1 : zfq ds = some kds) (hf : kds.length ≤ sizeLine)
   (h : ∀ s' kvV, Inv X pins σ (upd H s.heap.objs.size (.dT (zeR [] kvV))) s'→KR (List Key) X.K H io kvV kds→Q (.ref s.heap.objs.size) s') : wpAny (model X.prog X.w) A (call (.type "dict") [.ref x.ad]) Q E s := by
 obtain ⟨kvV, xs, a1, a2, a3, a4, a5⟩ := zjD I r1 e1 rv
 have hz : xs.length ≤ sizeLine := by rw [a4]; exact hf
 have hkey : ∀ y ∈ xs, (tupleKind (zaw X.prog X.w)).is s.heap y.1 y.2.1 := by
   clear a5 a4 a3 hz a1
   induction a2 with
   | nil => intro y hy; exact nomatch hy
   | @cons p q ps qs hq t ih =>
     intro y hy
     rcases List.mem_cons.mp hy with e | hy
     · subst e
       exact zeV I.hok (by rw [← hq.1]; exact hq.2.1)
     · exact ih y hy
 have hlt : ∀ y ∈ xs, y.2.1 < s.heap.objs.size := fun y hy => by
   obtain ⟨o, _, _, g, _⟩ := hkey y hy
   exact Heap.lt_size g
 refine zc4 (T := FT X.prog X.w s.heap.objs.size xs) (key := kAt xs) (val := vAt xs) hh pl a3 (fun i hi => zqq hu (Nat.ne_of_lt hi) (fun y hy => Nat.ne_of_lt (Nat.lt_trans (hlt y hy) hi)) (fun y hy => Nat.ne_of_lt (hlt y hy)) hz) ⟨Heap.DictOfH.new s.heap, fun y hy => zfE (hkey y hy) fun o g => Heap.get?_push_of_some _ g⟩ (fun j v e => ?_) fun h' tk d' kk => ?_
 · have hj : j < xs.length := by
     rw [← a3]
     exact (List.getElem?_eq_some_iff.mp e).1
   have ex : xs[j]? = some xs[j] := List.getElem?_eq_getElem hj
   obtain ⟨p, ep, tp⟩ := a5 j v _ e ex
   refine ⟨p, ep, ?_⟩
   unfold kAt vAt
   rw [ex]
   exact tp
 · have hlV : kvV.length = xs.length := Paired.length a2
   obtain ⟨⟨o, es, ep, ho, hc, hdd, he, his, hn⟩, _⟩ := d'
   rw [List.take_length] at he his hn
   have km : KT H (zeR [] kvV) (zhg [] xs) := zkG a2 .nil
   have hm : (zeR [] kvV).length ≤ sizeLine := by
     have := zeb xs []
     rw [Paired.length km]
     rw [List.length_nil] at this
     omega
   have hd : (s.heap.objs.size == sysModules) = false := beq_eq_false_iff_ne.mpr (Ne.symm (Nat.ne_of_lt I.big))
   refine h _ kvV (I.laid (a := s.heap.objs.size) (o := .dT (zeR [] kvV)) (t' := tk) kk (Nat.le_refl _) ⟨hm, hd, zhg [] xs, ?_, o, es, ep, ho, hc, hdd, he, hn⟩) a1
   exact KT.keeps km fun b ys e => by
     rw [zay (zaq e (I.hok.fresh (Nat.le_refl _)))]
     exact e
theorem zgK (hc : X.calm = true) (hu : X.A.units + 2 < cLine) : zdC X (.type "dict") zmN := by
 intro pins s σ H xs us Q I r ⟨ds, st, io, d, st', R, S, e, k⟩
 have fin : ∀ (kds : List (List Key × D)), (d, st') = (D.ref st.length, st ++ [O.dt (zeS [] kds)])→∀ s' kvV, Inv X pins σ (upd H s.heap.objs.size (.dT (zeR [] kvV))) s'→KR (List Key) X.K H io kvV kds→∃ v H', Inv X pins σ H' s'∧RelV v (.ref s.heap.objs.size)∧Q v H' := fun kds ed s' kvV I' a1 => by
   cases ed
   obtain ⟨E', S'⟩ := zhu (o := .dT (zeR [] kvV)) (ob := .dt (zeS [] kds)) S (I.hok.fresh (Nat.le_refl _)) fun H' T e => ⟨_, e, ziY (KR.mono T a1) .nil⟩
   exact ⟨.ref s.heap.objs.size, _, I', rfl, k _ _ [s.heap.objs.size] E' S' ⟨s.heap.objs.size, rfl, by rw [← S.len]; exact getElem?_len io _⟩⟩
 unfold zmN at e
 split at e
 · rename_i n
   obtain ⟨zs, e0, e⟩ := zad e
   obtain ⟨kds, e1, e⟩ := zad e
   obtain ⟨hf, e⟩ := zao e
   obtain ⟨v, rfl, p, rfl, hp⟩ := R.one
   obtain ⟨u, rfl, ru⟩ := r.one
   cases ru
   obtain ⟨ys, hx, r1⟩ := zaX S hp e0
   obtain ⟨its, rv, pl, hz⟩ := I.list hx
   exact zh1 (x := .l p) I (I.ok.hd hc) hu pl rv r1 e1 (of_decide_eq_true hf) (fin kds (by cases e; rfl))
 · rename_i zs
   obtain ⟨kds, e1, e⟩ := zad e
   obtain ⟨hf, e⟩ := zao e
   obtain ⟨v, rfl, p, ys, rfl, hp, r1⟩ := R.one
   obtain ⟨u, rfl, ru⟩ := r.one
   cases ru
   obtain ⟨hz, its, rv, pl⟩ := (show zc5 X.prog X.w H s.heap p (.tup ys) from I.hok p _ hp)
   exact zh1 (x := .t p) I (I.ok.hd hc) hu pl rv r1 e1 (of_decide_eq_true hf) (fin kds (by cases e; rfl))
 · cases e
end
end L2.MP
namespace L2.MP
open PySem PySem.Spec PyProof.Rows
theorem zhb {k : Nat} {A : Around} (hr : Room k A) : A.units + 110 < cLine := by have := hr.un; omega
section
variable {X : Cx}
def mulB : G2 := intD (fun i j => decide (Builtin.Int.intBits i ≤ 2 ^ 20) && decide (Builtin.Int.intBits j ≤ 2 ^ 20)) fun i j => .int (i * j)
theorem zeL : OpM X (binaryOp .Mult) mulB := zdM (C := fun i j => Builtin.Int.intBits i ≤ 2 ^ 20∧Builtin.Int.intBits j ≤ 2 ^ 20) (opI fun i j _ _ _ _ _ hc q => PyProof.Rows.mul_int q (IntMulOk.of_bits hc.1 hc.2)) fun i j h => by
   rw [Bool.and_eq_true] at h
   exact ⟨of_decide_eq_true h.1, of_decide_eq_true h.2⟩
def neS : G2
 | .str x, .str y, st => some (.bl (x != y), st)
 | _, _, _ => none
theorem zmg : OpM X (compareOp .NotEq) neS := by
 intro pins s σ H x y v u Q I rx ry ⟨dx, dy, st, io, d, st', Rx, Ry, S, e, k⟩
 unfold neS at e
 split at e
 · cases e
   cases (show x = _ from Rx)
   cases (show y = _ from Ry)
   obtain ⟨t, rfl⟩ := rx
   obtain ⟨t', rfl⟩ := ry
   exact PyProof.Rows.ne_str ⟨.bl _, H, I, rfl, k.now S rfl⟩
 · cases e
end
section
variable {prog : Program} {w : World} {A : Around} {E : Value→Shared→Prop} {s : Shared} {a : Addr}
def FK (prog : Program) (w : World) (D : Addr) (kvs : List (Key × Value)) (i : Nat) (h : Heap) : Prop := h.DictOf (zaw prog w) D (merged [] (kvs.take i))
def xAt (xs : List Value) (i : Nat) : Value := match xs[i]? with | some x => x | none => .none
def wAt (xs : List (Key × Value)) (i : Nat) : Value := match xs[i]? with | some x => x.2 | none => .none
theorem zqr {D I : Addr} {kvs : List (Key × Value)} {kxs : List Value} (hDI : D ≠ I) (hz : kvs.length ≤ sizeLine) (hk : ∀ (j : Nat) (kv : Key × Value), kvs[j]? = some kv→(zaw prog w).is kv.1 (xAt kxs j) = true) : Fill prog w A D I kvs.length (xAt kxs) (wAt kvs) (FK prog w D kvs) where
 keep := fun i h h' ⟨o, es, ep, ho, r⟩ k => ⟨o, es, ep, k D o hDI ho, r⟩
 step := fun i s Q E hi hd h => by
   have e : kvs[i]? = some kvs[i] := List.getElem?_eq_getElem hi
   have ev : wAt kvs i = kvs[i].2 := by unfold wAt; rw [e]
   rw [ev]
   have hl : (merged [] (kvs.take i)).length ≤ sizeLine := by
     have := zdr (kvs.take i) []
     rw [List.length_take, List.length_nil] at this
     omega
   refine wpAny_dictSet_pairs (hk i _ e) hd (fun h' hd' hs => h h' _ ?_ hs) hl
   have e1 : stored (merged [] (kvs.take i)) kvs[i].1 kvs[i].2 = merged [] (kvs.take (i + 1)) := (merged_take_succ [] kvs i _ e).symm
   unfold FK
   rw [← e1]
   exact hd'
theorem zf0 {h : Heap} : ∀ {its : List Value} {kvs : List (Key × Value)}, its.length = kvs.length→(∀ (j : Nat) (v : Value) (kv : Key × Value), its[j]? = some v→kvs[j]? = some kv→ze6 prog w h v kv) →
   ∃ kxs : List Value, ∀ (j : Nat) (v : Value) (kv : Key × Value), its[j]? = some v→kvs[j]? = some kv→∃ p, v = .ref p∧IsTup h p #[xAt kxs j, kv.2]∧(zaw prog w).is kv.1 (xAt kxs j) = true
 | [], kvs, _, _ => ⟨[], fun j v kv e => by simp at e⟩
 | v :: its, [], e, _ => by cases e
 | v :: its, kv :: kvs, e, hp => by
   obtain ⟨kxs, hk⟩ := zf0 (its := its) (kvs := kvs) (by simpa using e) fun j u q e1 e2 => hp (j + 1) u q e1 e2
   obtain ⟨p, kx, e1, e2, e3⟩ := hp 0 v kv rfl rfl
   refine ⟨kx :: kxs, fun j u q f1 f2 => ?_⟩
   cases j with
   | zero =>
     cases f1
     cases f2
     exact ⟨p, e1, e2, e3⟩
   | succ j => exact hk j u q f1 f2
end
section
variable {X : Cx} {K : PySem.W.Frag} {H : Hp} {io : List Addr} {st st' : Sto} {pins : List (Addr × Obj)} {σ : L2.St} {s : Shared}
def znl : GN
 | [.tup ds], st => (zlm ds).bind fun kds => if fits kds.length = true then some (.ref st.length, st ++ [.dk (zeT [] kds)]) else none
 | _, _ => none
theorem zgL (hc : X.calm = true) : zdC X (.type "dict") znl := by
 intro pins s σ H xs us Q I r ⟨ds, st, io, d, st', R, S, e, k⟩
 unfold znl at e
 split at e
 · rename_i zs
   obtain ⟨kds, e1, e⟩ := zad e
   obtain ⟨hf, e⟩ := zao e
   cases e
   obtain ⟨v, rfl, p, ys, rfl, hp, r1⟩ := R.one
   obtain ⟨u, rfl, ru⟩ := r.one
   cases ru
   obtain ⟨hz, its, rv, pl⟩ := (show zc5 X.prog X.w H s.heap p (.tup ys) from I.hok p _ hp)
   obtain ⟨kvV, kvs, a1, a2, a3, a4, a5⟩ := zkm I r1 e1 rv
   have hzk : kvs.length ≤ sizeLine := by
     rw [a4]
     exact of_decide_eq_true hf
   obtain ⟨kxs, hk⟩ := zf0 a3 a5
   have hkk : ∀ (j : Nat) (kv : Key × Value), kvs[j]? = some kv→(zaw X.prog X.w).is kv.1 (xAt kxs j) = true := fun j kv e => by
     have hj : j < its.length := by rw [a3]; exact (List.getElem?_eq_some_iff.mp e).1
     obtain ⟨_, _, _, q⟩ := hk j _ kv (List.getElem?_eq_getElem hj) e
     exact q
   refine zc4 (x := .t p) (T := FK X.prog X.w s.heap.objs.size kvs) (key := xAt kxs) (val := wAt kvs) (I.ok.hd hc) pl a3 (fun i hi => zqr (Nat.ne_of_lt hi) hzk hkk) (Heap.DictOf.new s.heap) (fun j v e => ?_) fun h' tk d' kk => ?_
   · have hj : j < kvs.length := by
       rw [← a3]
       exact (List.getElem?_eq_some_iff.mp e).1
     have ex : kvs[j]? = some kvs[j] := List.getElem?_eq_getElem hj
     obtain ⟨p', ep, tp, _⟩ := hk j v _ e ex
     refine ⟨p', ep, ?_⟩
     unfold wAt
     rw [ex]
     exact tp
   · have d' : h'.DictOf (zaw X.prog X.w) s.heap.objs.size (merged [] kvs) := by
       have : FK X.prog X.w s.heap.objs.size kvs kvs.length h' := d'
       unfold FK at this
       rwa [List.take_length] at this
     have hlV : kvV.length = kvs.length := Paired.length a2
     have hm : (zdF [] kvV).length ≤ sizeLine := by
       have := zb7 kvV []
       rw [List.length_nil] at this
       omega
     have hd : (s.heap.objs.size == sysModules) = false := beq_eq_false_iff_ne.mpr (Ne.symm (Nat.ne_of_lt I.big))
     refine ⟨.ref s.heap.objs.size, _, I.laid (a := s.heap.objs.size) (o := .dK (zdF [] kvV)) (t' := tk) kk (Nat.le_refl _) (zk5 hm hd (a2.merge .nil) d'), rfl, ?_⟩
     obtain ⟨E', S'⟩ := zhu (o := .dK (zdF [] kvV)) (ob := .dk (zeT [] kds)) S (I.hok.fresh (Nat.le_refl _)) fun H' T e => ⟨_, e, zhy (KR.mono T a1) .nil⟩
     exact k _ _ [s.heap.objs.size] E' S' ⟨s.heap.objs.size, rfl, by rw [← S.len]; exact getElem?_len io _⟩
 · cases e
def zmO : GN := orN znm znl
theorem zdV (hc : X.calm = true) : zdC X (.type "dict") zmO := zeu (zib hc) (zgL hc)
end
end L2.MP
namespace L2.MP
open PySem PySem.Spec PyProof.Rows
section
variable {prog : Program} {w : World} {A : Around} {E : Value→Shared→Prop}
theorem zmK : entryFor table "any.loop" = some Builtin.«any.loop» := F.entry_any_loop
theorem ziL : plainId "any.loop" = true := F.plain_any_loop
def isT (z : Str) : Bool := (z.length : Int) != 0
theorem zm7 {R : Result→Shared→Prop} {I l : Addr} {its : List Value} (hh : A.in1.handled = none) (hlI : l ≠ I) : ∀ (ss : List Str) (i : Nat) (s : Shared), StrsAre (its.drop i) ss→(∀ z ∈ ss, z.length ≤ sizeLine)→s.heap.IsListIter I l i→s.heap.IsList l its.toArray →
   (∀ h' tk, (∀ b o, b ≠ I→s.heap.get? b = some o→h'.get? b = some o)→R (.ok (.ret (.bool (ss.any isT)))) { s with heap := h', toks := tk })→codeAny (model prog w) A (.builtin "any.loop" ⟨[.ref I], []⟩) R s := by
 intro ss
 induction ss with
 | nil =>
   intro i s hs hz hit hl hR
   have hd : its.drop i = [] := by generalize its.drop i = d at hs; cases hs; rfl
   have hn : its[i]? = none := List.getElem?_eq_none (by have := congrArg List.length hd; simp at this; omega)
   refine codeAny_builtin zmK (by
     rw [Around.under_plainId ziL _]
     refine wpAny_bind (wpAny_pyNext_list_end hh hit hl (by simpa using hn) fun h' hx => wpAny_bind (wpAny_rule (wpAny_pure ?_)))
     exact hR h' s.toks fun b o hb e => hx b o hb e)
 | cons z zs ih =>
   intro i s hs hz hit hl hR
   obtain ⟨t, rest, hd, hr⟩ : ∃ t rest, its.drop i = .str z t :: rest∧StrsAre rest zs := by
     generalize its.drop i = d at hs
     cases hs with
     | cons y t r => exact ⟨t, _, rfl, r⟩
   have hx : its[i]? = some (.str z t) := by
     have := congrArg (fun l => l[0]?) hd
     simpa using this
   have hd2 : its.drop (i + 1) = rest := by
     have := congrArg List.tail hd
     simpa using this
   have hsl : sizeLine = 16777216 := sizeLine_eq
   have hzl := hz z List.mem_cons_self
   refine codeAny_builtin zmK (by
     rw [Around.under_plainId ziL _]
     refine wpAny_bind (wpAny_pyNext_list_item hit hl (by simpa using hx) fun h' hit' hx' => wpAny_bind (wpAny_holding (PySem.P.truthy_str (by omega) (wpAny_bind (wpAny_letGo ?_)))))
     have kp : ∀ b o, b ≠ I→s.heap.get? b = some o→h'.get? b = some o := fun b o hb e => hx'.extBut b o hb e
     show wpAny _ _ (if isT z = true then _ else _) _ _ _
     cases hb : isT z with
     | true =>
       rw [if_pos rfl]
       refine wpAny_bind (wpAny_rule (wpAny_pure ?_))
       have q := hR h' (s.toks + 1 + 1) kp
       rw [List.any_cons, hb] at q
       exact q
     | false =>
       rw [if_neg (by decide)]
       refine wpAny_pure ⟨plainId_quiet ziL _, ih (i + 1) _ (by rw [hd2]; exact hr) (fun u hu => hz u (List.mem_cons_of_mem _ hu)) hit' (Heap.IsList.at hl fun u e => kp l u hlI e) fun h2 tk2 k2 => ?_⟩
       have q := hR h2 tk2 fun b o hb' e => k2 b o hb' (kp b o hb' e)
       rw [List.any_cons, hb] at q
       exact q)
end
section
variable {X : Cx} {K : PySem.W.Frag} {H : Hp} {io : List Addr} {st st' : Sto} {pins : List (Addr × Obj)} {σ : L2.St} {s : Shared}
def anyT : GN
 | [.ref n], st => (zbj st n).bind fun ds => (strsOf ds).bind fun ss => if (ss.all fun z => decide (z.length ≤ sizeLine)) = true then some (.bl (ss.any isT), st) else none
 | _, _ => none
theorem zjm (hc : X.calm = true) : zdC X (.builtin "any") anyT := by
 intro pins s σ H xs us Q I r ⟨ds, st, io, d, st', R, S, e, k⟩
 unfold anyT at e
 split at e
 · rename_i n
   obtain ⟨ts, e0, e⟩ := zad e
   obtain ⟨ss, e1, e⟩ := zad e
   obtain ⟨hall, e⟩ := zao e
   cases e
   obtain ⟨v, rfl, p, rfl, hp⟩ := R.one
   obtain ⟨u, rfl, ru⟩ := r.one
   cases ru
   obtain ⟨ys, hx, r1⟩ := zaX S hp e0
   obtain ⟨its, rv, pl, hz⟩ := I.list hx
   have hs := zff r1 rv e1
   have hlt : p < s.heap.objs.size := by
     obtain ⟨o, _, e, _⟩ := pl
     exact Heap.lt_size e
   have hzz : ∀ z ∈ ss, z.length ≤ sizeLine := fun z hz => of_decide_eq_true (List.all_eq_true.mp hall z hz)
   refine call_function_tree F.kind_any F.plain_any F.entry_any (F.args_any1 _) (by
     unfold Builtin.«any»
     refine wpAny_bind (m := oneArg "any" _) (wpAny_pure (wpAny_bind (wpAny_pyIter_list pl.isList (wpAny_pure ⟨plainId_quiet ziL _, ?_⟩))))
     refine zm7 (I.ok.hd hc) (Nat.ne_of_lt hlt) ss 0 _ (by simpa using hs) hzz ⟨_, Heap.get?_push_size _ rfl, rfl, rfl⟩ (pl.keeps fun b o e => Heap.get?_push_of_some _ e).isList fun h' tk kk => ?_
     exact ⟨.bl _, H, I.kept (t' := tk) fun b o q => kk b o (Nat.ne_of_lt (Heap.lt_size q)) (Heap.get?_push_of_some _ q), rfl, k.now S rfl⟩)
 · cases e
end
end L2.MP
namespace L2.MP
open PySem PySem.Spec PyProof.Rows
def zcV {κ α : Type} [DecidableEq κ] (kvs : List (κ × α)) (q : κ) : List (κ × α) := kvs.eraseIdx (kvs.findIdx fun kv => decide (kv.1 = q))
theorem zdo {α β : Type} {R : α→β→Prop} : ∀ {l : List α} {m : List β} (j : Nat), Paired R l m→Paired R (l.eraseIdx j) (m.eraseIdx j) := by
 intro l m j h
 induction h generalizing j with
 | nil => exact .nil
 | cons z t ih =>
   cases j with
   | zero => exact t
   | succ j => exact .cons z (ih j)
theorem zeK {κ α β : Type} [DecidableEq κ] {R : κ × α→κ × β→Prop} (hR : ∀ p q, R p q→p.1 = q.1) {l : List (κ × α)} {m : List (κ × β)} (q : κ) (h : Paired R l m) : (l.findIdx fun kv => decide (kv.1 = q)) = m.findIdx fun kv => decide (kv.1 = q) := by
 induction h with
 | nil => rfl
 | @cons a b l m z t ih => rw [List.findIdx_cons, List.findIdx_cons, hR _ _ z, ih]
theorem zcE {α β : Type} (f : α→β) : ∀ (l : List α) (k : Nat), (l.map f).eraseIdx k = (l.eraseIdx k).map f
 | [], _ => rfl
 | _ :: _, 0 => rfl
 | a :: l, k + 1 => by
   show f a :: (l.map f).eraseIdx k = f a :: (l.eraseIdx k).map f
   rw [zcE f l k]
theorem zmB {κ α : Type} [DecidableEq κ] {k : κ} {p : α} : ∀ {xs : List (κ × α)} {j : Nat}, (xs.map (·.1)).Nodup→xs[j]? = some (k, p)→(xs.findIdx fun kv => decide (kv.1 = k)) = j
 | [], j, _, h => by simp at h
 | x :: xs, 0, _, h => by
   have h : x = (k, p) := by simpa using h
   rw [List.findIdx_cons, h, decide_eq_true rfl]
   rfl
 | x :: xs, j + 1, hn, h => by
   have h : xs[j]? = some (k, p) := by simpa using h
   rw [List.map_cons, List.nodup_cons] at hn
   have hne : ¬ x.1 = k := fun e => hn.1 (List.mem_map.mpr ⟨(k, p), List.mem_of_getElem? h, e.symm⟩)
   rw [List.findIdx_cons, decide_eq_false hne, zmB hn.2 h]
   rfl
section
variable {prog : Program} {w : World} {A : Around} {E : Value→Shared→Prop} {s : Shared} {K : Type} [DecidableEq K] {knd : HeapKind prog w K}
theorem zpv {d a : Addr} {xs : List (K × Addr × Value)} {k : K} {Q : Option DictEntry→Shared→Prop} (hu : knd.room A) (hkey : knd.is s.heap k a) (hm : s.heap.DictOfH knd d xs) (hz : xs.length ≤ sizeLine) (hin : ∃ (j : Nat) (p : Addr × Value), xs[j]? = some (k, p))
   (hQ : ∀ (j : Nat) (p : Addr × Value) h', xs[j]? = some (k, p)→h'.DictOfH knd d (xs.eraseIdx j)→Heap.SameBut d s.heap h'→Q (some ⟨knd.hash k, .ref p.1, p.2⟩) { s with heap := h', toks := s.toks + knd.draws k }) :
   wpAny (model prog w) A (Builtin.Dict.takeOut d (.ref a)) Q E s := by
 obtain ⟨o, es, ep, ho, hc, hd, he, his, hn⟩ := hm
 have hes : es.size ≤ sizeLine := by have e := size_of_entries he; omega
 unfold Builtin.Dict.takeOut
 try with_reducible refine wpAny_holding ?_
 refine wpAny_bind (knd.pyHash hu hkey (wpAny_bind (wpAny_dictFind_heap (s := { s with toks := s.toks + knd.draws k }) hu hkey ho hd he his hn (fun hno => ?_) fun j p hj => ?_)))
 · obtain ⟨j, p, hj⟩ := hin
   exact absurd hj (hno j p)
 · refine wpAny_bind (wpAny_dictEntries (s := { s with toks := s.toks + knd.draws k }) ho hd ?_)
   rw [entry_at he j, hj]
   refine wpAny_bind (wpAny_updateDictKeys (hz := hes) (s := { s with toks := s.toks + knd.draws k }) ho hd (wpAny_pure (hQ j p _ hj ⟨_, _, ep + 1, Heap.get?_update_self _ ho (Obj.isFreed_of_dict (Obj.data_mapDictKeys hd _)), hc.mapDictKeys _, Obj.data_mapDictKeys hd _, ?_, ?_, ?_⟩ (Heap.SameBut.update ..))))
   · have e1 : (es.eraseIdxIfInBounds j).toList = es.toList.eraseIdx j := by obtain ⟨l⟩ := es; simp
     rw [e1, he, zcE]
   · intro x hx
     exact knd.keeps (his x (List.mem_of_mem_eraseIdx hx)) ho hd (Heap.SameBut.update ..)
   · rw [← zcE]
     exact hn.sublist (List.eraseIdx_sublist _ _)
theorem zkH (d a : Addr) : MeetsIn prog w (Builtin.«dict.pop» ⟨[.ref d, .ref a], []⟩) (fun A R s => knd.room A.in1∧∃ k xs, knd.is s.heap k a∧s.heap.DictOfH knd d xs∧xs.length ≤ sizeLine∧(∃ (j : Nat) (p : Addr × Value), xs[j]? = some (k, p)) ∧
   ∀ (j : Nat) (p : Addr × Value) h' tk, xs[j]? = some (k, p)→h'.DictOfH knd d (xs.eraseIdx j)→Heap.SameBut d s.heap h'→R (.ok (.ret p.2)) { s with heap := h', toks := tk }) :=
 .of_wp fun A R s ⟨hu, k, xs, hkey, hm, hz, hin, h⟩ => by
   unfold Builtin.«dict.pop»
   refine wpAny_bind ?_
   unfold Builtin.Dict.keyAndDefault
   refine wpAny_bind (wpAny_notOrdered_dict hm.typeIs (wpAny_pure ?_))
   have hp : (keyPart (Value.ref a)).isSome = false := rfl
   obtain ⟨o, es, ep, ho, hc, hd, he, his, hn⟩ := id hm
   have hne : es.isEmpty = false := by
     obtain ⟨j, p, hj⟩ := hin
     have h1 := size_of_entries he
     have h2 : j < xs.length := (List.getElem?_eq_some_iff.mp hj).1
     rw [Array.isEmpty_eq_false_iff]
     intro e
     rw [e] at h1
     simp at h1
     omega
   simp only [hp, Bool.false_eq_true, if_false]
   refine wpAny_bind (wpAny_dictEntries ho hd (wpAny_bind (wpAny_pure ?_)))
   simp only [hne, Bool.false_eq_true, if_false]
   refine wpAny_bind (zpv hu hkey hm hz hin fun j p h' hj hd' hs => ?_)
   rw [show (some (⟨knd.hash k, .ref p.1, p.2⟩ : DictEntry)).isNone = false from rfl]
   refine wpAny_bind (wpAny_letGo (wpAny_pure ⟨p.2, rfl, ?_⟩))
   exact h j p h' _ hj hd' hs
end
section
variable {X : Cx} {K : PySem.W.Frag} {H : Hp} {io : List Addr} {st st' : Sto} {pins : List (Addr × Obj)} {σ : L2.St} {s : Shared} {m mk : ME} {e : Expr} {pos : Pos}
theorem zly {kvs : List (List Key × V)} {xs : List (List Key × Addr × Value)} {k : List Key} {v : V} (r : KT H kvs xs) (l : valV kvs k = some v) : ∃ (j : Nat) (p : Addr × Value), xs[j]? = some (k, p) := by
 have h := r.val k
 rw [l] at h
 cases ha : atKey xs k with
 | none => rw [ha] at h; exact h.elim
 | some p =>
   unfold atKey at ha
   obtain ⟨x, hx, hp⟩ := zag ha
   have hk : x.1 = k := by have h0 := List.find?_some hx; simpa using h0
   obtain ⟨j, hj, e⟩ := List.getElem_of_mem (List.mem_of_find?_eq_some hx)
   exact ⟨j, x.2, by rw [List.getElem?_eq_getElem hj, e, ← hk]⟩
theorem zoR {A : Around} {E : Value→Shared→Prop} {a b : Addr} {kvs : List (List Key × V)} {k : List Key} {v : V} {Q : Value→Shared→Prop} (hu : A.units + 1 < cLine) (I : Inv X pins σ H s) (e : H a = some (.dT kvs)) (eb : H b = some (.tup (k.map kV))) (l : valV kvs k = some v)
   (h : ∀ w' s', Inv X pins σ (upd H a (.dT (zcV kvs k))) s'→RelV v w'→Q w' s') : wpAny (model X.prog X.w) A (call (.builtin "dict.pop") [.ref a, .ref b]) Q E s := by
 obtain ⟨z, hd, xs, rel, dd⟩ := zps I.hok e
 have hz : xs.length ≤ sizeLine := by rw [← Paired.length rel]; exact z
 refine call_meetsIn PySem.F.slot_dict_pop dd.typeIs PySem.F.entry_dict_pop (PySem.F.args_dict_pop_2 _ _) (zkH (knd := tupleKind (zaw X.prog X.w)) a b) ⟨tupleKind_room_in1 hu, k, xs, zeV I.hok eb, dd, hz, zly rel l, fun j p h' tk hj dd' hs => h _ _ ?_ ?_⟩
 · obtain ⟨q, es, ep, hq, h2, h3, h4, _, h5⟩ := dd'
   have hn : (xs.map (·.1)).Nodup := by obtain ⟨_, _, _, _, _, _, _, _, hn⟩ := dd; exact hn
   have hi : (kvs.findIdx fun kv => decide (kv.1 = k)) = j := (zeK (fun p q z => z.1) k rel).trans (zmB hn hj)
   have hl : (zcV kvs k).length ≤ sizeLine := Nat.le_trans (List.length_eraseIdx_le _ _) z
   have rel' : KT H (zcV kvs k) (xs.eraseIdx j) := by
     unfold zcV
     rw [hi]
     exact zdo j rel
   refine zh2 I (by rw [e]; exact True.intro) hs ⟨q, hq⟩ ⟨hl, hd, _, rel'.keeps fun c ys ec => ?_, q, es, ep, hq, h2, h3, h4, h5⟩
   rw [zay (zne ec e (fun z => nomatch z))]
   exact ec
 · have hn : (xs.map (·.1)).Nodup := by obtain ⟨_, _, _, _, _, _, _, _, hn⟩ := dd; exact hn
   have h1 := rel.val k
   rw [l, atKey_of_get hn hj] at h1
   exact h1
def zns (td ty : TE) : TE := fun σ H Q => td σ H fun x H1 => ∃ a, x = .ref a∧IsD H1 a∧ty σ H1 fun y H2 => ∃ kvs k b v, H2 a = some (.dT kvs)∧y = .ref b∧H2 b = some (.tup (k.map kV))∧valV kvs k = some v∧Q v (upd H2 a (.dT (zcV kvs k)))
theorem zks {o : Expr} {apos cpos : Pos} {td ty : TE} (hu : X.A.units + 1 < cLine) (ho : PE X o td) (he : PE X e ty) (m : M1 X o "pop" apos e cpos) : PE X (.Call (.Attribute o "pop" apos) [e] [] cpos) (zns td ty) := by
 intro pins s σ H Q I h
 refine wpAny_Call_method m.base m.few m.line PySem.F.plainAttrs_dict PySem.F.slot_dict_pop PySem.F.type_dict_pop (thn (ho pins s σ H _ I h) fun u s1 ⟨x, H1, I1, rx, a, ex, d, q1⟩ => ?_)
 subst ex
 obtain rfl : u = Value.ref a := rx
 obtain ⟨t1, t2, _⟩ := zkS I1 d
 refine ⟨t1, t2, ?_⟩
 rw [m.trees]
 refine Calls.callWith_builtin rfl (Calls.evalArgs_plain (Calls.spliced_cons (thn (he pins s1 σ H1 _ I1 q1) fun iv s2 ⟨y, H2, I2, ry, kvs, k, b, v, ea, ey, eb, l, q2⟩ => Calls.spliced_nil ?_)))
 subst ey
 obtain rfl : iv = Value.ref b := ry
 exact zoR hu I2 ea eb l fun w' s3 I3 rw' => ⟨v, _, I3, rw', q2⟩
def zmv (md mk : ME) : ME := fun ρ st => (md ρ st).bind fun (d, s1) => match d with
 | .ref n => if zi8 s1 n = true then (mk ρ s1).bind fun (k, s2) => match k, s2[n]? with
     | .tup ds, some (.dt kvs) => (keysOf ds).bind fun q => (valD kvs q).map fun v => (v, s2.set n (.dt (zcV kvs q)))
     | _, _ => none
   else none
 | _ => none
theorem zlP {o : Expr} {md : ME} {apos cpos : Pos} (hu : X.A.units + 1 < cLine) (ho : SE X o md) (he : SE X e mk) (mm : M1 X o "pop" apos e cpos := by exact ⟨rfl, rfl, rfl, rfl⟩) : SE X (.Call (.Attribute o "pop" apos) [e] [] cpos) (zmv md mk) :=
 PE.imp (zks hu ho he mm) fun σ H Q ⟨ρ, st, io, d, st', E, S, e, k⟩ => by
   obtain ⟨⟨x, s1⟩, e1, e⟩ := zad e
   cases x with
   | ref n =>
     obtain ⟨hd, e⟩ := zao e
     obtain ⟨⟨y, s2⟩, e2, e⟩ := zad e
     refine ⟨ρ, st, io, _, s1, E, S, e1, fun v1 H1 k1 X1 S1 R1 => ?_⟩
     obtain ⟨p, rfl, hp⟩ := R1
     refine ⟨p, rfl, zhK S1 hp hd, ρ, s1, io ++ k1, y, _, E.ext S X1, S1, e2, fun v2 H2 k2 X2 S2 R2 => ?_⟩
     dsimp only at e
     split at e
     · rename_i ds kvs ek
       obtain ⟨q, eq1, e⟩ := zad e
       obtain ⟨v, ev, e⟩ := zag e
       cases e
       have hp2 := za6 (ka := k2) hp
       obtain ⟨ps, hH, r⟩ := S2.ob n p _ hp2 ek
       obtain ⟨b, xs, rfl, hb, rs⟩ := R2
       have ex := zbS rs eq1
       subst ex
       rcases KR.val r q with ⟨z, _⟩ | ⟨d', v', hd', hv', rv⟩
       · rw [ev] at z; cases z
       · rw [ev] at hd'
         cases hd'
         refine ⟨ps, q, b, v', hH, rfl, hb, hv', ?_⟩
         obtain ⟨E', S'⟩ := zfn (o := .dT (zcV ps q)) (ob := .dt (zcV kvs q)) S2 hp2 ek (fun o u z => by rw [hH] at z; cases z) fun H' T e' => ⟨_, e', by
           have hi := zeK (fun p q z => z.1) q (KR.mono (ka := []) T r)
           unfold zcV
           rw [hi]
           exact zdo _ (KR.mono T r)⟩
         exact ((k.on S1 X1).on S2 X2) _ _ [] E' S' (by
           have := Rep.ext S2 E' rv
           exact this)
     · cases e
   | _ => cases e
end
end L2.MP
namespace L2.MP.Hb
open PySem L2.MP
end L2.MP.Hb
set_option maxHeartbeats 2000000
namespace L2.MP
open PySem
theorem zfL {f : D→Option PyData} (hf : ∀ x : Int, f (.int x) = some (.int x)) : ∀ as : List Int, toPs f (as.map D.int) = some (as.map PyData.int)
 | [] => rfl
 | x :: as => by
   rw [List.map_cons, toPs, hf x, Option.bind_some, zfL hf as]
   rfl
theorem zdX {n : Nat} {st : Sto} {k : Nat} {as : List Int} (hk : st[k]? = some (.lst (as.map D.int))) : toP (n + 2) st (.ref k) = some (.list (as.map PyData.int)) := by
 rw [toP]
 simp only [zbj, hk, Option.bind_some]
 rw [zfL (fun x => by rw [toP])]
 rfl
end L2.MP
namespace L2.MP.Hb
open PySem L2.MP
end L2.MP.Hb
namespace L2.MP.Hb
open PySem L2.MP
end L2.MP.Hb
namespace L2.MP.Hb
open PySem L2.MP
abbrev sgD (c : Nat) : D := .str ⟨#[c]⟩
end L2.MP.Hb
namespace L2.MP.Hb
open PySem L2.MP
theorem zh9 (c : Nat) : ∀ (k : Nat) (a : Array Nat), ((List.replicate k #[c]).foldl (· ++ ·) a).toList = a.toList ++ List.replicate k c
 | 0, a => by simp
 | k + 1, a => by
   rw [List.replicate_succ, List.foldl_cons, zh9 c k (a ++ #[c])]
   simp [List.replicate_succ]
theorem zfW {c : Nat} {n : Int} (h1 : 1 ≤ n) : (repS ⟨#[c]⟩ n).cps.toList = List.replicate n.toNat c := by
 unfold repS
 rw [if_neg (by omega)]
 by_cases hn : n = 1
 · subst hn
   rfl
 · rw [if_neg]
   · exact zh9 c n.toNat #[]
   · simp [hn]
     show ¬ ((⟨#[c]⟩ : Str).length = 0)
     show ¬ (1 = 0)
     decide
theorem zcP {c : Nat} {n : Int} {st : Sto} (h1 : 1 ≤ n) (h2 : n ≤ 1000) : mulA (sgD c) (.int n) st = some (.str (repS ⟨#[c]⟩ n), st) := by
 have hl : (repS ⟨#[c]⟩ n).length = n.toNat := by rw [len_list, zfW h1, List.length_replicate]
 have e1 : (⟨#[c]⟩ : Str).length = 1 := rfl
 have hz : sizeLine = 16777216 := sizeLine_eq
 have : (decide (-(2 ^ 62) ≤ n) && decide (n < 2 ^ 20) && decide ((⟨#[c]⟩ : Str).length * n.toNat ≤ sizeLine) && decide ((repS ⟨#[c]⟩ n).length ≤ sizeLine)) = true := by
   rw [hl, e1, hz]
   rw [decide_eq_true (show -(2 ^ 62) ≤ n by omega), decide_eq_true (show n < 2 ^ 20 by omega), decide_eq_true (show 1 * n.toNat ≤ 16777216 by omega), decide_eq_true (show n.toNat ≤ 16777216 by omega)]
   rfl
 show mulA (.str ⟨#[c]⟩) (.int n) st = _
 unfold mulA orG mulD intD
 dsimp only
 rw [zgN]
 unfold zni
 dsimp only
 rw [if_pos this]
end L2.MP.Hb
namespace L2.MP.Hb
open PySem L2.MP
end L2.MP.Hb
namespace L2.MP.Hb
open PySem L2.MP
end L2.MP.Hb
namespace L2.MP.Hb
open PySem L2.MP
end L2.MP.Hb
set_option maxHeartbeats 4000000
namespace L2.MP.Hb
open PySem L2.MP
end L2.MP.Hb
namespace L2.MP.Hd
open PySem L2.MP
def zcl : MS := mSeq (mAsg (mBin ixA (mVar 0) (mCon (.int 0))) (gNm 1)) (mSeq (mAsg (mBin ixA (mVar 0) (mCon (.int 1))) (gNm 2)) (mRet (mTup (zae (mTup (zae (mVar 1) (zae (mBin addD (mVar 2) (mCon (.int 1))) (mNil)))) (zae (mTup (zae (mBin addD (mVar 1) (mCon (.int 1))) (zae (mVar 2) (mNil)))) (zae (mTup (zae (mVar 1) (zae (mBin subD (mVar 2) (mCon (.int 1))) (mNil)))) (zae (mTup (zae (mBin subD (mVar 1) (mCon (.int 1))) (zae (mVar 2) (mNil)))) (mNil))))))))
def za8 : GN := fnM 3 zcl
def zdx : MS := mSeq (mAsg (mBin ixA (mBin ixA (mVar 0) (mCon (.int 0))) (mCon (.int 2))) (gNm 2)) (mSeq (mIf (mTst (zhB leD ltD (mCon (.int 0)) (mVar 1) (zau lenD (zae (mVar 2) (mNil))))) (mRet (mSlB (mBin ixA (mVar 2) (mVar 1)) (znc (mCon (.int 1))) (znd))) (zdN)) (mRet (mTup (zae (mCon (.str "")) (zae (mCon (.str "")) (zae (mCon (.str "")) (zae (mCon (.str "")) (mNil))))))))
def zb8 : GN := fnM 3 zdx
def za3 : MS := putA (mVar 1) (mTup (zae (mVar 2) (zae (mVar 3) (mNil)))) (mVar 4)
def zcd : MS := mSeq (mAsg (zlr true) (gNm 1)) (mSeq (mFor (mWA (mVar 0)) (gTp 3 (gC (gNm 2) (gC (gNm 3) (gC (gNm 4) (gN0))))) (za3)) (mRet (mVar 1)))
def zbg : GN := fnM 5 zcd
def zaF : MS := mIf (mTst (mBin inA (mVar 5) (mVar 1))) (mExp (mApp (mVar 3) (zae (mBin ixA (zau zb8 (zae (mVar 0) (zae (mBin ixA (mVar 1) (mVar 5)) (mNil)))) (mBin modD (mBin addD (mVar 4) (mCon (.int 2))) (mCon (.int 4)))) (mNil)))) (mExp (mApp (mVar 3) (zae (mCon (.str "")) (mNil))))
def zcH : MS := mSeq (mAsg (mLst (mNil)) (gNm 3)) (mSeq (mFor (zlp (zau za8 (zae (mVar 2) (mNil)))) (gTp 2 (gC (gNm 4) (gC (gNm 5) (gN0)))) (zaF)) (mRet (mVar 3)))
def zbf : GN := fnM 6 zcH
def zaB : ME := mBin ixA (mVar 2) (mVar 0)
def zaA : MT := zls (mTst (mBin eqD (mVar 0) (mVar 1))) (mTst (mBin neD (mVar 0) (mCon (.str ""))))
def zbO : MS := mRet (zau sumC (zae (zcQ (mZip (mVar 1) (mVar 2)) 2 [0] (gTp 2 (gC (gNm 0) (gC (gNm 1) (gN0)))) (zaA) (zaB)) (mNil)))
def zaz : GN := fnM 3 zbO
def zcc : MS := mSeq (mAsg (mIte (mTst (mBin ltD (mVar 1) (zau lenD (zae (mVar 0) (mNil))))) (mBin ixA (mVar 0) (mVar 1)) (mCon (.int 0))) (gNm 2)) (mSeq (mAsg (mBin mulB (mBin mulB (mBin mulB (mBin mulB (mBin powB (mCon (.int 10)) (mCon (.int 60))) (mBin powB (mCon (.int 10)) (mCon (.int 60)))) (mBin powB (mCon (.int 10)) (mCon (.int 60)))) (mBin powB (mCon (.int 10)) (mCon (.int 60)))) (mBin powB (mCon (.int 10)) (mCon (.int 60)))) (gNm 3)) (mSeq (mAsg (mBin mulB (mBin modD (mVar 2) (mVar 3)) (zau intC (zae (mBin geD (mVar 2) (mBin powB (mCon (.int 10)) (mCon (.int 18)))) (mNil)))) (gNm 4)) (mRet (mLst (zae (mVar 4) (zae (mBin modD (mBin addD (mBin modD (mVar 2) (mCon (.int 2305843009213693951))) (mBin mulA (mCon (.int 7919)) (mVar 1))) (mCon (.int 2305843009213693951))) (zae (mCon (.int 0)) (mNil))))))))
def zbN : GN := fnM 5 zcc
def zbF : MS := mSeq (mIf (mTst (mBin gtD (mBin ixA (mVar 0) (mCon (.int 0))) (mCon (.int 0)))) (mSeq (mAsg (mBin modD (mBin ixA (mVar 0) (mCon (.int 0))) (mVar 1)) (gNm 2)) (mSeq (putA (mVar 0) (mCon (.int 0)) (mBin zik (mBin ixA (mVar 0) (mCon (.int 0))) (mVar 1))) (mRet (mVar 2)))) (zdN)) (mSeq (putA (mVar 0) (mCon (.int 2)) (mBin addD (mBin ixA (mVar 0) (mCon (.int 2))) (mCon (.int 1)))) (mSeq (mAsg (mBin modD (mBin mulA (mBin addD (mBin addD (mBin ixA (mVar 0) (mCon (.int 1))) (mBin mulA (mBin mulA (mCon (.int 104729)) (mBin ixA (mVar 0) (mCon (.int 2)))) (mBin ixA (mVar 0) (mCon (.int 2))))) (mBin mulA (mCon (.int 31)) (mBin ixA (mVar 0) (mCon (.int 2))))) (mCon (.int 48271))) (mCon (.int 2305843009213693921))) (gNm 3)) (mSeq (mAsg (mBin modD (mBin mulA (mVar 3) (mBin addD (mBin modD (mVar 3) (mCon (.int 1000003))) (mBin mulA (mCon (.int 39373)) (mBin ixA (mVar 0) (mCon (.int 2)))))) (mCon (.int 2305843009213693907))) (gNm 3)) (mRet (mBin modD (mBin addD (mBin zik (mVar 3) (mCon (.int 65537))) (mBin zik (mVar 3) (mCon (.int 1000033)))) (mVar 1))))))
def zac : GN := fnM 4 zbF
def zaU : ME := mBin mulA (mBin ixA (mVar 1) (mVar 2)) (mBin addD (mVar 0) (mCon (.int 1)))
def zaT : ME := mBin mulA (mBin ixA (mVar 1) (mBin modD (mBin addD (mVar 2) (mBin mulA (mVar 3) (mVar 0))) (mCon (.int 26)))) (mBin addD (mCon (.int 1)) (mBin modD (mBin addD (mBin mulA (mVar 0) (mVar 0)) (mVar 2)) (mCon (.int 8))))
def zca : MS := mSeq (mAsg (mCon (.str "abcdefghijklmnopqrstuvwxyz")) (gNm 2)) (mSeq (mAsg (mTup (zae (zau zac (zae (mVar 0) (zae (mCon (.int 26)) (mNil)))) (zae (mBin ixA (mLst (zae (mCon (.int 1)) (zae (mCon (.int 3)) (zae (mCon (.int 5)) (zae (mCon (.int 7)) (zae (mCon (.int 9)) (zae (mCon (.int 11)) (mNil)))))))) (zau zac (zae (mVar 0) (zae (mCon (.int 6)) (mNil))))) (mNil)))) (gTp 2 (gC (gNm 3) (gC (gNm 4) (gN0))))) (mSeq (mIf (mTst (mBin eqD (zau zac (zae (mVar 0) (zae (mCon (.int 3)) (mNil)))) (mCon (.int 0)))) (mRet (zcQ (mR1 (mVar 1)) 1 [2, 3] (gNm 0) (zb4) (zaU))) (zdN)) (mRet (zau zb6 (zae (zcQ (mR1 (mVar 1)) 1 [2, 3, 4] (gNm 0) (zb4) (zaT)) (mNil))))))
def zbL : GN := fnM 5 zca
def zaR : ME := mBin ixA (mBin addD (mLst (zae (mCon (.str "")) (mNil))) (mVar 1)) (zau zac (zae (mVar 2) (zae (mBin addD (zau lenD (zae (mVar 1) (mNil))) (mCon (.int 1))) (mNil))))
def zdz : MS := mSeq (mAsg (mBin ixA (mLst (zae (mCon (.str "")) (zae (mBin ixA (mCon (.str "abcdefghijklmnopqrstuvwxyz0123456789")) (zau zac (zae (mVar 0) (zae (mCon (.int 36)) (mNil))))) (mNil)))) (zau zac (zae (mVar 0) (zae (mCon (.int 2)) (mNil))))) (gNm 2)) (mSeq (mAsg (zcQ (mR1 (mCon (.int 4))) 1 [1, 0] (gNm 0) (zb4) (zaR)) (gNm 3)) (mRet (mTup (zae (mVar 2) (zae (mBin ixA (mVar 3) (mCon (.int 0))) (zae (mBin ixA (mVar 3) (mCon (.int 1))) (zae (mBin ixA (mVar 3) (mCon (.int 2))) (zae (mBin ixA (mVar 3) (mCon (.int 3))) (mNil)))))))))
def zb0 : GN := fnM 4 zdz
def zaV : ME := mTup (zae (mVar 0) (zae (mBin ixA (mLst (zae (mCon (.int 1)) (zae (mCon (.int 2)) (zae (mCon (.int 1)) (zae (mBin addD (mCon (.int 1)) (zau zac (zae (mVar 1) (zae (mCon (.int 4)) (mNil))))) (mNil)))))) (zau zac (zae (mVar 1) (zae (mCon (.int 4)) (mNil))))) (mNil)))
def zba : ME := zau zb0 (zae (mVar 1) (zae (mVar 2) (mNil)))
def zcb : MS := mSeq (mAsg (zau zbL (zae (mVar 0) (zae (mBin addD (mCon (.int 1)) (zau zac (zae (mVar 0) (zae (mCon (.int 4)) (mNil))))) (mNil)))) (gNm 1)) (mSeq (mAsg (mBin ixA (mLst (zae (mCon (.int 1)) (zae (mCon (.int 1)) (zae (mCon (.int 2)) (zae (mCon (.int 2)) (zae (mCon (.int 1)) (zae (mCon (.int 3)) (zae (mCon (.int 4)) (zae (mCon (.int 2)) (mNil)))))))))) (zau zac (zae (mVar 0) (zae (mCon (.int 8)) (mNil))))) (gNm 2)) (mSeq (mAsg (zau zdg (zae (zcQ (mWA (mVar 1)) 1 [0] (gNm 0) (zb4) (zaV)) (mNil))) (gNm 3)) (mSeq (mAsg (zcQ (mR1 (mBin addD (mCon (.int 1)) (zau zac (zae (mVar 0) (zae (mBin ixA (mLst (zae (mCon (.int 3)) (zae (mCon (.int 5)) (zae (mCon (.int 5)) (zae (mCon (.int 12)) (mNil)))))) (zau zac (zae (mVar 0) (zae (mCon (.int 4)) (mNil))))) (mNil)))))) 1 [0, 1] (gNm 0) (zb4) (zba)) (gNm 4)) (mSeq (mIf (mTst (mBin eqD (zau zac (zae (mVar 0) (zae (mCon (.int 6)) (mNil)))) (mCon (.int 0)))) (mExp (mApp (mVar 4) (zae (mBin ixA (mVar 4) (zau zac (zae (mVar 0) (zae (zau lenD (zae (mVar 4) (mNil))) (mNil))))) (mNil)))) (zdN)) (mRet (mTup (zae (mVar 2) (zae (mVar 3) (zae (zau zdg (zae (mVar 4) (mNil))) (mNil))))))))))
def zbM : GN := fnM 5 zcb
def zaM : MS := mSeq (mAsg (mTup (zae (zau zac (zae (mVar 0) (zae (mBin ixA (mVar 2) (mCon (.int 0))) (mNil)))) (zae (zau zac (zae (mVar 0) (zae (mBin ixA (mVar 2) (mCon (.int 1))) (mNil)))) (mNil)))) (gNm 6)) (putA (mVar 4) (mVar 6) (zau zac (zae (mVar 0) (zae (zau lenD (zae (mBin ixA (mVar 1) (mCon (.int 2))) (mNil))) (mNil)))))
def zaD : ME := mBin addD (mVar 0) (mTup (zae (mBin zjT (mVar 1) (mVar 0)) (mNil)))
def zb9 : MS := mSeq (mAsg (zlr true) (gNm 4)) (mSeq (mFor (mR1 (zau zac (zae (mVar 0) (zae (mBin addD (mVar 3) (mCon (.int 1))) (mNil))))) (gNm 5) (zaM)) (mRet (zau zdg (zae (zau zb6 (zae (zcQ (mWK (mVar 4)) 1 [4] (gNm 0) (zb4) (zaD)) (mNil))) (mNil)))))
def zas : GN := fnM 7 zb9
def zci : MS := mSeq (mAsg (zau zbM (zae (mVar 0) (mNil))) (gNm 1)) (mSeq (mAsg (mTup (zae (mBin addD (mCon (.int 1)) (zau zac (zae (mVar 0) (zae (mCon (.int 5)) (mNil))))) (zae (mBin addD (mCon (.int 1)) (zau zac (zae (mVar 0) (zae (mBin ixA (mLst (zae (mCon (.int 5)) (zae (mCon (.int 5)) (zae (mCon (.int 5)) (zae (mCon (.int 12)) (mNil)))))) (zau zac (zae (mVar 0) (zae (mCon (.int 4)) (mNil))))) (mNil))))) (mNil)))) (gNm 2)) (mSeq (mIf (mTst (mBin eqD (zau zac (zae (mVar 0) (zae (mCon (.int 2)) (mNil)))) (mCon (.int 0)))) (mAsg (zov (mVar 2) (mNeg (mCon (.int 1)))) (gNm 2)) (zdN)) (mRet (mTup (zae (mVar 1) (zae (mVar 2) (zae (zau zas (zae (mVar 0) (zae (mVar 1) (zae (mVar 2) (zae (mBin ixA (mLst (zae (mCon (.int 1)) (zae (mCon (.int 2)) (zae (mCon (.int 6)) (mNil))))) (zau zac (zae (mVar 0) (zae (mCon (.int 3)) (mNil))))) (mNil)))))) (mNil))))))))
def zch : GN := fnM 3 zci
def za9 : ME := mTup (zae (mTup (zae (mVar 0) (zae (mVar 1) (mNil)))) (zae (mVar 2) (mNil)))
def zc7 : MS := mRet (zau zmN (zae (zcQ (mWA (mVar 0)) 3 [] (gTp 3 (gC (gNm 0) (gC (gNm 1) (gC (gNm 2) (gN0))))) (zb4) (za9)) (mNil)))
def zbn : GN := fnM 1 zc7
def zdy : MS := mSeq (mAsg (mVar 0) (gTp 2 (gC (gNm 2) (gC (gNm 3) (gN0))))) (mRet (mBin ixA (mLst (zae (mTup (zae (mVar 2) (zae (mBin addD (mVar 3) (mCon (.int 1))) (mNil)))) (zae (mTup (zae (mBin addD (mVar 2) (mCon (.int 1))) (zae (mVar 3) (mNil)))) (zae (mTup (zae (mVar 2) (zae (mBin subD (mVar 3) (mCon (.int 1))) (mNil)))) (zae (mTup (zae (mBin subD (mVar 2) (mCon (.int 1))) (zae (mVar 3) (mNil)))) (mNil)))))) (mVar 1)))
def zaG : GN := fnM 4 zdy
def zaL : MS := mSeq (mAsg (zkJ (mVar 1) (zau zaG (zae (mVar 2) (zae (mVar 6) (mNil))))) (gNm 7)) (mSeq (mAsg (mBin ixA (mBin ixA (mVar 4) (mVar 3)) (mBin addD (mVar 6) (mCon (.int 1)))) (gNm 8)) (mIf (zls (mTst (mBin zln (mVar 7) (mCon .non))) (zls (mTst (mBin neD (mVar 8) (mCon (.str "")))) (mTst (mBin eqD (mBin ixA (mBin ixA (mVar 4) (mVar 7)) (mBin addD (mBin modD (mBin addD (mVar 6) (mCon (.int 2))) (mCon (.int 4))) (mCon (.int 1)))) (mVar 8))))) (mExp (mApp (mVar 5) (zae (mVar 6) (mNil)))) (zdN)))
def zc6 : MS := mSeq (mPar 4 5 (zae (mBin ixA (mBin ixA (mVar 0) (mCon (.int 0))) (mCon (.int 2))) (zae (mLst (mNil)) (mNil)))) (mSeq (mFor (mR1 (mCon (.int 4))) (gNm 6) (zaL)) (mRet (mVar 5)))
def zbK : GN := fnM 9 zc6
def zbE : ME := mBin ixA (mVar 1) (mBin ixA (mBin ixA (mBin ixA (mBin ixA (mVar 2) (mCon (.int 0))) (mCon (.int 2))) (mVar 3)) (mBin addD (mVar 0) (mCon (.int 1))))
def zdB : MS := mSeq (mAsg (zau zbK (zae (mVar 0) (zae (mVar 1) (zae (mVar 2) (zae (mVar 3) (mNil)))))) (gNm 4)) (mSeq (mIf (mTst (mBin eqD (mVar 4) (mLst (mNil)))) (mRet (mCon (.int 0))) (zdN)) (mSeq (mAsg (zau zmO (zae (mBin ixA (mBin ixA (mVar 0) (mCon (.int 0))) (mCon (.int 1))) (mNil))) (gNm 5)) (mRet (zau sumC (zae (zcQ (mWA (mVar 4)) 1 [5, 0, 3] (gNm 0) (zb4) (zbE)) (mNil))))))
def zbV : GN := fnM 6 zdB
end L2.MP.Hd
namespace L2.MP
open PySem
def EVs := And.intro @zjp (And.intro @zjr (And.intro @zfI (And.intro @zmZ (And.intro @zm2 (And.intro @zm6 (And.intro @zo5 (And.intro @zjX (And.intro @zjW (And.intro @zm3 (And.intro @zo0 (And.intro @zo7 (And.intro @zo2 (And.intro @zlf (And.intro @zex (And.intro @zqB (And.intro @zm1 (And.intro @zo6 (And.intro @zlv (And.intro @zjq (And.intro @zqy (And.intro @zqx (And.intro @zo8 (And.intro @zqC (And.intro @zo3 (And.intro @zm0 (And.intro @zcj (And.intro @zqA (And.intro @zqz (And.intro @zpa (And.intro @zo4 (And.intro @zmY (And.intro @zlg (And.intro @zlh (And.intro @zfs (And.intro @zgN (And.intro @zqp (And.intro @zqo (And.intro @zqn (And.intro @zqm (And.intro @zql (And.intro @zqk (And.intro @zqj (And.intro @zqi (And.intro @zqh (And.intro @add_int (And.intro @sub_int (And.intro @zqw (And.intro @zo1 @zm5))))))))))))))))))))))))))))))))))))))))))))))))
end L2.MP
namespace L2.MP.Hd
open PySem L2.MP
def PotD (n m : Nat) (st : Sto) : Prop := ∃ a b c : Int, st[n]? = some (.lst [.int a, .int b, .int c])∧0 ≤ a∧0 ≤ b∧b < 2305843009213693951∧0 ≤ c∧c ≤ (m : Int)
theorem PotD.lt {n m : Nat} {st : Sto} (h : PotD n m st) : n < st.length := by
 obtain ⟨a, b, c, e, _⟩ := h
 exact getElem?_lt e
theorem PotD.ne {n m : Nat} {st : Sto} (h : PotD n m st) : st.length ≠ n := Nat.ne_of_gt h.lt
theorem PotD.gr {n m : Nat} {st st' : Sto} (h : PotD n m st) (g : Gr st st') : PotD n m st' := by
 obtain ⟨a, b, c, e, r⟩ := h
 exact ⟨a, b, c, (g.old n (getElem?_lt e)).trans e, r⟩
theorem PotD.up {n m k : Nat} {st : Sto} (h : PotD n m st) (hk : m ≤ k) : PotD n k st := by
 obtain ⟨a, b, c, e, h1, h2, h3, h4, h5⟩ := h
 exact ⟨a, b, c, e, h1, h2, h3, h4, by omega⟩
theorem PotD.set {n m l : Nat} {st : Sto} {o : O} (h : PotD n m st) (hl : l ≠ n) : PotD n m (st.set l o) := by
 obtain ⟨a, b, c, e, r⟩ := h
 exact ⟨a, b, c, by rw [List.getElem?_set_ne hl]; exact e, r⟩
theorem zpm {a b : Int} {st : Sto} (h : in64 a = true) : mulA (.int a) (.int b) st = some (.int (a * b), st) := by simp [mulA, orG, mulD, intD, h, zfs]
theorem mul_r {a b : Int} {st : Sto} (h : in64 b = true) : mulA (.int a) (.int b) st = some (.int (a * b), st) := by simp [mulA, orG, mulD, intD, h, zfs]
theorem zgO {a b : Int} {st : Sto} (h : 0 < b) : modD (.int a) (.int b) st = some (.int (a % b), st) := by simp [modD, intD, h]
theorem zoP {a b : Int} {st : Sto} (h : 0 < b) (h2 : b < 340282366920938463463374607431768211456) : zik (.int a) (.int b) st = some (.int (a / b), st) := by simp [zik, intD, h, h2]
theorem zoc {n : Nat} {a b c many : Int} {st s1 : Sto} (i0 : ixA (.ref n) (.int 0) st = some (.int a, st)) (ha : 0 < a) (e1 : modD (.int a) (.int many) st = some (.int b, st)) (e2 : zik (.int a) (.int many) st = some (.int c, st)) (hs : setD (.ref n) (.int 0) (.int c) st = some s1) : zbF [some (.ref n), some (.int many), none, none] st = some (.rt (.int b), s1) := by
 unfold zbF
 refine zg9 ?_
 have et : mTst (mBin gtD (mBin ixA (mVar 0) (mCon (.int 0))) (mCon (.int 0))) [some (.ref n), some (.int many), none, none] st = some (true, st) := by simp [rho, EVs, ltD, leD, gtD, geD, cmpD, intC, rho0, zaO, i0, ha]
 rw [zlv, et]
 refine zap (ρ1 := [some (.ref n), some (.int many), some (.int b), none]) (s1 := st) (by simp [rho, EVs, ltD, leD, gtD, geD, cmpD, intC, rho0, zaO, i0, e1]) ?_
 refine zap (ρ1 := [some (.ref n), some (.int many), some (.int b), none]) (s1 := s1) (by simp [rho, EVs, ltD, leD, gtD, geD, cmpD, intC, rho0, zaO, i0, e2, hs]) ?_
 simp [rho, EVs, ltD, leD, gtD, geD, cmpD, intC, rho0, zaO]
theorem zot {n : Nat} {a b c d m1 m2 x1 x2 x3 x4 x5 x6 x7 x8 r many : Int} {st s1 : Sto} (i0 : ixA (.ref n) (.int 0) st = some (.int a, st)) (ha : ¬ 0 < a) (i2 : ixA (.ref n) (.int 2) st = some (.int c, st)) (hd : c + 1 = d) (hs : setD (.ref n) (.int 2) (.int d) st = some s1)
   (j1 : ixA (.ref n) (.int 1) s1 = some (.int b, s1)) (j2 : ixA (.ref n) (.int 2) s1 = some (.int d, s1))
   (e1 : mulA (.int 104729) (.int d) s1 = some (.int x1, s1)) (e2 : mulA (.int x1) (.int d) s1 = some (.int x2, s1)) (e3 : mulA (.int 31) (.int d) s1 = some (.int x3, s1)) (e4 : mulA (.int (b + x2 + x3)) (.int 48271) s1 = some (.int x4, s1)) (e5 : modD (.int x4) (.int 2305843009213693921) s1 = some (.int m1, s1))
   (e6 : modD (.int m1) (.int 1000003) s1 = some (.int x5, s1)) (e7 : mulA (.int 39373) (.int d) s1 = some (.int x6, s1)) (e8 : mulA (.int m1) (.int (x5 + x6)) s1 = some (.int x7, s1)) (e9 : modD (.int x7) (.int 2305843009213693907) s1 = some (.int m2, s1))
   (e10 : zik (.int m2) (.int 65537) s1 = some (.int x8, s1)) {x9 : Int} (e11 : zik (.int m2) (.int 1000033) s1 = some (.int x9, s1)) (e12 : modD (.int (x8 + x9)) (.int many) s1 = some (.int r, s1)) :
   zbF [some (.ref n), some (.int many), none, none] st = some (.rt (.int r), s1) := by
 unfold zbF
 have et : mTst (mBin gtD (mBin ixA (mVar 0) (mCon (.int 0))) (mCon (.int 0))) [some (.ref n), some (.int many), none, none] st = some (false, st) := by simp [rho, EVs, ltD, leD, gtD, geD, cmpD, intC, rho0, zaO, i0, ha]
 refine zap (ρ1 := [some (.ref n), some (.int many), none, none]) (s1 := st) (by rw [zlv, et]; rfl) ?_
 refine zap (ρ1 := [some (.ref n), some (.int many), none, none]) (s1 := s1) (by simp [rho, EVs, ltD, leD, gtD, geD, cmpD, intC, rho0, zaO, i2, hd, hs]) ?_
 refine zap (ρ1 := [some (.ref n), some (.int many), none, some (.int m1)]) (s1 := s1) (by simp [rho, EVs, ltD, leD, gtD, geD, cmpD, intC, rho0, zaO, j1, j2, e1, e2, e3, e4, e5]) ?_
 refine zap (ρ1 := [some (.ref n), some (.int many), none, some (.int m2)]) (s1 := s1) (by simp [rho, EVs, ltD, leD, gtD, geD, cmpD, intC, rho0, zaO, j2, e6, e7, e8, e9]) ?_
 simp [rho, EVs, ltD, leD, gtD, geD, cmpD, intC, rho0, zaO, e10, e11, e12]
theorem zaZ {n m : Nat} {st : Sto} {many : Int} (h : PotD n m st) (hm : m ≤ 1000000) (h1 : 0 < many) (h2 : many < 18446744073709551616) : ∃ (r : Int) (st' : Sto), zac [.ref n, .int many] st = some (.int r, st')∧0 ≤ r∧r < many∧PotD n (m + 1) st'∧Fr n st st' := by
 obtain ⟨a, b, c, e, ha, hb, hb2, hc, hc2⟩ := h
 have hn := getElem?_lt e
 have i0 : ixA (.ref n) (.int 0) st = some (.int a, st) := zcr e (by decide) rfl
 by_cases h0 : 0 < a
 · have hs : setD (.ref n) (.int 0) (.int (a / many)) st = some (st.set n (.lst [.int (a / many), .int b, .int c])) := by simp [setD, e, ixN]
   have ed : zik (.int a) (.int many) st = some (.int (a / many), st) := zoP h1 (by omega)
   exact ⟨a % many, _, zcU (zoc i0 h0 (zgO h1) ed hs), Int.emod_nonneg _ (by omega), Int.emod_lt_of_pos _ h1, ⟨a / many, b, c, by simp [hn], Int.ediv_nonneg ha (by omega), hb, hb2, hc, by omega⟩, Fr.set _ _ _⟩
 · have i2 : ixA (.ref n) (.int 2) st = some (.int c, st) := zcr e (by decide) rfl
   obtain ⟨d, hd⟩ : ∃ d, c + 1 = d := ⟨_, rfl⟩
   have hs : setD (.ref n) (.int 2) (.int d) st = some (st.set n (.lst [.int a, .int b, .int d])) := by simp [setD, e, ixN]
   have e' : (st.set n (.lst [.int a, .int b, .int d]))[n]? = some (.lst [.int a, .int b, .int d]) := by simp [hn]
   have f : Fr n st (st.set n (.lst [.int a, .int b, .int d])) := Fr.set _ _ _
   generalize st.set n (.lst [.int a, .int b, .int d]) = s1 at hs e' f
   have j1 : ixA (.ref n) (.int 1) s1 = some (.int b, s1) := zcr e' (by decide) rfl
   have j2 : ixA (.ref n) (.int 2) s1 = some (.int d, s1) := zcr e' (by decide) rfl
   have k1 : in64 d = true := by unfold in64; simp; omega
   have k2 : in64 48271 = true := by decide
   have k3 : ∀ x : Int, in64 (x % 2305843009213693921) = true := fun x => by
     have h1 := Int.emod_nonneg x (show (2305843009213693921 : Int) ≠ 0 by decide)
     have h2 := Int.emod_lt_of_pos x (show (0 : Int) < 2305843009213693921 by decide)
     unfold in64; simp; omega
   refine ⟨_, s1, zcU (zot i0 h0 i2 hd hs j1 j2 (mul_r k1) (mul_r k1) (mul_r k1) (mul_r k2) (zgO (by decide)) (zgO (by decide)) (mul_r k1) (zpm (k3 _)) (zgO (by decide)) (zoP (by decide) (by decide)) (zoP (by decide) (by decide)) (zgO h1)), Int.emod_nonneg _ (by omega), Int.emod_lt_of_pos _ h1, ⟨a, b, d, e', ha, hb, hb2, by omega, by omega⟩, f⟩
theorem zoO (st : Sto) : ∃ F : Int, 0 < F∧F.natAbs < 2 ^ 1100∧∀ ρ : Rho, mBin mulB (mBin mulB (mBin mulB (mBin mulB (mBin powB (mCon (.int 10)) (mCon (.int 60))) (mBin powB (mCon (.int 10)) (mCon (.int 60)))) (mBin powB (mCon (.int 10)) (mCon (.int 60)))) (mBin powB (mCon (.int 10)) (mCon (.int 60)))) (mBin powB (mCon (.int 10)) (mCon (.int 60))) ρ st = some (.int F, st) :=
 ⟨10 ^ 300, by decide +kernel, by decide +kernel, fun ρ => by
   have e0 : mBin powB (mCon (.int 10)) (mCon (.int 60)) ρ st = some (.int (10 ^ 60), st) := by
     rw [zfI]
     simp only [zjr, Option.bind_some]
     have : (decide ((0 : Int) ≤ 60) && decide ((Builtin.Int.intBits 10 : Int) * 60 ≤ 2 ^ 27)) = true := by decide +kernel
     unfold powB intD
     dsimp only
     rw [if_pos this]
     rfl
   have e1 : ∀ (i j k : Nat), i + j = k→(decide (Builtin.Int.intBits ((10 : Int) ^ i) ≤ 2 ^ 20) && decide (Builtin.Int.intBits ((10 : Int) ^ j) ≤ 2 ^ 20)) = true→mulB (.int (10 ^ i)) (.int (10 ^ j)) st = some (.int (10 ^ k), st) := fun i j k hk h => by
     unfold mulB intD
     dsimp only
     rw [if_pos h, ← hk, Int.pow_add]
   have q1 := e1 60 60 120 rfl (by decide +kernel)
   have q2 := e1 120 60 180 rfl (by decide +kernel)
   have q3 := e1 180 60 240 rfl (by decide +kernel)
   have q4 := e1 240 60 300 rfl (by decide +kernel)
   have h0 := e0
   generalize (10 : Int) ^ 60 = a1 at *
   generalize (10 : Int) ^ 120 = a2 at *
   generalize (10 : Int) ^ 180 = a3 at *
   generalize (10 : Int) ^ 240 = a4 at *
   generalize (10 : Int) ^ 300 = a5 at *
   simp only [zfI, zjr, Option.bind_some] at e0
   simp only [zfI, zjr, Option.bind_some, e0, q1, q2, q3, q4]⟩
theorem zpu (ρ : Rho) (st : Sto) : mBin powB (mCon (.int 10)) (mCon (.int 18)) ρ st = some (.int 1000000000000000000, st) := rfl
theorem zkE {a b : Int} {st : Sto} (ha : Builtin.Int.intBits a ≤ 2 ^ 20) (hb : b = 0 ∨ b = 1) : mulB (.int a) (.int b) st = some (.int (a * b), st) := by
 have h1 : Builtin.Int.intBits b ≤ 2 ^ 20 := by rcases hb with rfl | rfl <;> decide +kernel
 unfold mulB intD
 dsimp only
 rw [if_pos]
 rw [decide_eq_true ha, decide_eq_true h1]
 rfl
theorem zmV {a F : Int} (h0 : 0 ≤ a) (h1 : a < F) (hF : F.natAbs < 2 ^ 1100) : Builtin.Int.intBits a ≤ 2 ^ 20 := by
 have h2 : a.natAbs < F.natAbs := by omega
 exact Nat.le_trans (PyProof.Rows.intBits_le (Nat.lt_trans h2 hF)) (by decide)
theorem zm4 {c : MT} {m n : ME} {ρ : Rho} {st : Sto} : mIte c m n ρ st = (c ρ st).bind fun p => if p.1 = true then m ρ p.2 else n ρ p.2 := rfl
theorem zlc {ds : List D} {k cell F own b x2 x3 : Int} {st : Sto}
   (e0 : mIte (mTst (mBin ltD (mVar 1) (zau lenD (zae (mVar 0) (mNil))))) (mBin ixA (mVar 0) (mVar 1)) (mCon (.int 0)) [some (.kl ds), some (.int k), none, none, none] st = some (.int cell, st))
   (e1 : mBin mulB (mBin mulB (mBin mulB (mBin mulB (mBin powB (mCon (.int 10)) (mCon (.int 60))) (mBin powB (mCon (.int 10)) (mCon (.int 60)))) (mBin powB (mCon (.int 10)) (mCon (.int 60)))) (mBin powB (mCon (.int 10)) (mCon (.int 60)))) (mBin powB (mCon (.int 10)) (mCon (.int 60))) [some (.kl ds), some (.int k), some (.int cell), none, none] st = some (.int F, st))
   (e2 : mBin mulB (mBin modD (mVar 2) (mVar 3)) (zau intC (zae (mBin geD (mVar 2) (mBin powB (mCon (.int 10)) (mCon (.int 18)))) (mNil))) [some (.kl ds), some (.int k), some (.int cell), some (.int F), none] st = some (.int own, st))
   (e3 : modD (.int cell) (.int 2305843009213693951) st = some (.int x2, st)) (e4 : mulA (.int 7919) (.int k) st = some (.int x3, st)) (e5 : modD (.int (x2 + x3)) (.int 2305843009213693951) st = some (.int b, st)) :
   zcc [some (.kl ds), some (.int k), none, none, none] st = some (.rt (.ref st.length), st ++ [.lst [.int own, .int b, .int 0]]) := by
 unfold zcc
 refine zap (ρ1 := [some (.kl ds), some (.int k), some (.int cell), none, none]) (s1 := st) (by rw [zex, e0]; rfl) ?_
 refine zap (ρ1 := [some (.kl ds), some (.int k), some (.int cell), some (.int F), none]) (s1 := st) (by rw [zex, e1]; rfl) ?_
 refine zap (ρ1 := [some (.kl ds), some (.int k), some (.int cell), some (.int F), some (.int own)]) (s1 := st) (by rw [zex, e2]; rfl) ?_
 simp [rho, EVs, ltD, leD, gtD, geD, cmpD, intC, rho0, zaO, e3, e4, e5]
theorem zod {ds : List D} {k cell F : Int} {st : Sto} (h0 : 0 < F) (hF : F.natAbs < 2 ^ 1100) : ∃ own : Int, 0 ≤ own∧mBin mulB (mBin modD (mVar 2) (mVar 3)) (zau intC (zae (mBin geD (mVar 2) (mBin powB (mCon (.int 10)) (mCon (.int 18)))) (mNil))) [some (.kl ds), some (.int k), some (.int cell), some (.int F), none] st = some (.int own, st) := by
 have m0 := Int.emod_nonneg cell (show F ≠ 0 by omega)
 have m1 := Int.emod_lt_of_pos cell h0
 have e1 := zgO (a := cell) (st := st) h0
 generalize cell % F = x at m0 m1 e1
 have hb := zmV m0 m1 hF
 have e18 := zpu [some (.kl ds), some (.int k), some (.int cell), some (.int F), none] st
 have ei : ∃ j : Int, (j = 0 ∨ j = 1)∧zau intC (zae (mBin geD (mVar 2) (mBin powB (mCon (.int 10)) (mCon (.int 18)))) (mNil)) [some (.kl ds), some (.int k), some (.int cell), some (.int F), none] st = some (.int j, st) := by
   generalize mBin powB (mCon (.int 10)) (mCon (.int 18)) = P18 at e18
   refine ⟨if decide (1000000000000000000 ≤ cell) = true then 1 else 0, by split <;> simp, ?_⟩
   rw [zjX, zjW, zfI]
   simp only [zjp, List.getElem?_cons_succ, List.getElem?_cons_zero, Option.bind_some, e18, geD, cmpD, zm3]
   rfl
 obtain ⟨j, hj, ej⟩ := ei
 refine ⟨x * j, by rcases hj with rfl | rfl <;> omega, ?_⟩
 have em := zkE (a := x) (b := j) (st := st) hb hj
 rw [zfI, zfI]
 simp only [zjp, List.getElem?_cons_succ, List.getElem?_cons_zero, Option.bind_some, e1]
 rw [ej]
 simp only [Option.bind_some]
 exact em
theorem zld {ns : List Int} {k : Int} {st : Sto} (h0 : 0 ≤ k) (h1 : k ≤ 1000) : ∃ st', zbN [.kl (ns.map D.int), .int k] st = some (.ref st.length, st')∧PotD st.length 0 st'∧Gr st st' := by
 obtain ⟨F, F0, F1, eF⟩ := zoO st
 have ec : ∃ cell : Int, mIte (mTst (mBin ltD (mVar 1) (zau lenD (zae (mVar 0) (mNil))))) (mBin ixA (mVar 0) (mVar 1)) (mCon (.int 0)) [some (.kl (ns.map D.int)), some (.int k), none, none, none] st = some (.int cell, st) := by
   by_cases hk : k < (ns.length : Int)
   · have hk' : k.toNat < ns.length := by omega
     have ex : ixA (.kl (ns.map D.int)) (.int k) st = some (.int ns[k.toNat], st) := zp8 h0 (by rw [List.getElem?_map, List.getElem?_eq_getElem hk']; rfl)
     exact ⟨ns[k.toNat], by rw [zm4]; simp [rho, EVs, ltD, leD, gtD, geD, cmpD, intC, rho0, zaO, zkN, hk, ex]⟩
   · exact ⟨0, by rw [zm4]; simp [rho, EVs, ltD, leD, gtD, geD, cmpD, intC, rho0, zaO, zkN, hk]⟩
 obtain ⟨cell, ec⟩ := ec
 obtain ⟨own, o0, eo⟩ := zod (ds := ns.map D.int) (k := k) (cell := cell) (st := st) F0 F1
 have b0 := Int.emod_nonneg (cell % 2305843009213693951 + 7919 * k) (show (2305843009213693951 : Int) ≠ 0 by decide)
 have b1 := Int.emod_lt_of_pos (cell % 2305843009213693951 + 7919 * k) (show (0 : Int) < 2305843009213693951 by decide)
 exact ⟨_, zcU (zlc ec (eF _) eo (zgO (by decide)) (zpm (by decide)) (zgO (by decide))), ⟨own, _, 0, zaY _ _, o0, b0, b1, by decide, by decide⟩, Gr.app _ _⟩
end L2.MP.Hd
namespace L2.MP.Hd
open PySem L2.MP
open L2.MP.Hb (zcP zfW sgD)
abbrev zaH : Str := Hn.zaH
theorem zcD : ∀ k : Nat, k < 26→zaH.cps[k]? = some (97 + k) := Hn.zcD
structure NmOk (x : Str) : Prop where
 len : x.cps.toList.length ≤ 8
 ab : ∀ c ∈ x.cps.toList, 48 ≤ c∧c ≤ 122
theorem zjs {x : Str} (h : ∀ c ∈ x.cps.toList, 48 ≤ c∧c ≤ 122) : PyData.strOk x = true := by
 unfold PyData.strOk
 rw [Array.all_eq_true']
 intro c hc
 have := h c (by simpa using hc)
 simp
 omega
theorem zcO : NmOk "" := ⟨by decide, by decide⟩
theorem zmp {c : Nat} {k : Int} (h1 : 1 ≤ k) (h8 : k ≤ 8) (c1 : 48 ≤ c) (c2 : c ≤ 122) : NmOk (repS ⟨#[c]⟩ k) := by
 refine ⟨by rw [zfW h1, List.length_replicate]; omega, fun x hx => ?_⟩
 rw [zfW h1] at hx
 rw [List.eq_of_mem_replicate hx]
 exact ⟨c1, c2⟩
theorem ziJ {m : ME} {ρ : Rho} {st : Sto} {k : Nat} (e : m ρ st = some (.int (k : Int), st)) (hk : k ≤ 1000) : mR1 m ρ st = some (⟨run 0 k, []⟩, st) := by
 have sm : small (k : Int) = true := zbk (by omega) (by omega)
 rw [zo3, e, Option.bind_some]
 simp only [sm, if_true]
 rw [Int.toNat_natCast]
theorem zkh {m : ME} {ρ : Rho} {st s1 : Sto} {k : Nat} {M : Int} (hM : M = (k : Int)) (e : m ρ st = some (.int M, s1)) (hk : k ≤ 1000) : mR1 m ρ st = some (⟨run 0 k, []⟩, s1) := by
 have sm : small M = true := zbk (by omega) (by omega)
 rw [zo3, e, Option.bind_some]
 simp only [sm, if_true]
 rw [hM, Int.toNat_natCast]
theorem run_map (k : Nat) : run 0 k = (List.range k).map fun (i : Nat) => D.int (i : Int) := by
 unfold run
 apply List.map_congr_left
 intro i _
 rw [Int.zero_add]
theorem zcM {j k : Nat} {d : D} (h : (run 0 j)[k]? = some d) : k < j∧d = .int (k : Int) := by
 have hk := getElem?_lt h
 rw [zbz] at hk
 rw [run_map, List.getElem?_map, List.getElem?_range hk] at h
 exact ⟨hk, by cases h; rfl⟩
theorem ziV {x r1 : Int} {c : Nat} {st : Sto} {y : D} (ix1 : ∀ s : Sto, ixA (.str zaH) (.int r1) s = some (sgD c, s)) (em : mulA (sgD c) (.int (x + 1)) st = some (y, st)) : zaU [some (.int x), some (.str zaH), some (.int r1)] st = some (y, st) := by
 unfold zaU
 simp [rho, EVs, ltD, leD, gtD, geD, cmpD, intC, rho0, ix1, em]
theorem ziW {m : Nat} {r1 : Int} {st : Sto} (hm : m ≤ 8) (r10 : 0 ≤ r1) (r11 : r1 < 26) : ∃ ts : List Str, ts.length = m∧(∀ x ∈ ts, NmOk x)∧mCI ⟨run 0 m, []⟩ (gNm 0) zb4 zaU (run 0 m) [none, some (.str zaH), some (.int r1)] st = some (ts.map D.str, st) := by
 have ix1 : ∀ s : Sto, ixA (.str zaH) (.int r1) s = some (sgD (97 + r1.toNat), s) := fun s => zhI (by decide) r10 (zcD _ (by omega))
 have c1 : 48 ≤ 97 + r1.toNat := by omega
 have c2 : 97 + r1.toNat ≤ 122 := by omega
 generalize 97 + r1.toNat = c at ix1 c1 c2
 refine ⟨(List.range m).map fun (i : Nat) => repS ⟨#[c]⟩ ((i : Int) + 1), by simp, fun x hx => ?_, ?_⟩
 · obtain ⟨i, hi, rfl⟩ := List.mem_map.mp hx
   have := List.mem_range.mp hi
   exact zmp (by omega) (by omega) c1 c2
 have : ∀ W : Wk, walked W st = true→mCI W (gNm 0) zb4 zaU (run 0 m) [none, some (.str zaH), some (.int r1)] st = some (((List.range m).map fun (i : Nat) => repS ⟨#[c]⟩ ((i : Int) + 1)).map D.str, st) := by
   intro W hW
   rw [run_map, List.map_map]
   refine zgI (R := fun ρ => ∃ x, ρ = [x, some (.str zaH), some (.int r1)]) ⟨none, rfl⟩ hW fun i hi ρ hρ => ?_
   obtain ⟨x, rfl⟩ := hρ
   have hi := List.mem_range.mp hi
   have em := zcP (c := c) (n := (i : Int) + 1) (st := st) (by omega) (by omega)
   exact ⟨[some (.int (i : Int)), some (.str zaH), some (.int r1)], by simp [rho, EVs, ltD, leD, gtD, geD, cmpD, intC, rho0], rfl, ziV ix1 em, ⟨_, rfl⟩⟩
 exact this _ rfl
theorem ziT {x r1 w p1 p2 q1 q2 : Int} {c : Nat} {st : Sto} {y : D} (e1 : mulA (.int w) (.int x) st = some (.int p1, st)) (e2 : modD (.int (r1 + p1)) (.int 26) st = some (.int p2, st)) (ex : ixA (.str zaH) (.int p2) st = some (sgD c, st)) (e3 : mulA (.int x) (.int x) st = some (.int q1, st)) (e4 : modD (.int (q1 + r1)) (.int 8) st = some (.int q2, st)) (em : mulA (sgD c) (.int (1 + q2)) st = some (y, st)) : zaT [some (.int x), some (.str zaH), some (.int r1), some (.int w)] st = some (y, st) := by
 unfold zaT
 simp [rho, EVs, ltD, leD, gtD, geD, cmpD, intC, rho0, e1, e2, ex, e3, e4, em]
theorem ziU {m : Nat} {r1 w : Int} {st : Sto} (hm : m ≤ 8) (hw0 : 0 ≤ w) (hw1 : w ≤ 11) : ∃ ts : List Str, ts.length = m∧(∀ x ∈ ts, NmOk x)∧mCI ⟨run 0 m, []⟩ (gNm 0) zb4 zaT (run 0 m) [none, some (.str zaH), some (.int r1), some (.int w)] st = some (ts.map D.str, st) := by
 have key := zk9 (W := ⟨run 0 m, []⟩) (g := gNm 0) (c := zb4) (m := zaT) (ds := run 0 m) (acc := []) (st := st) (ρ := [none, some (.str zaH), some (.int r1), some (.int w)])
   (Inv := fun k a ρ s => (∃ x, ρ = [x, some (.str zaH), some (.int r1), some (.int w)])∧(∃ ts : List Str, a = ts.map D.str∧ts.length = k∧∀ x ∈ ts, NmOk x)∧s = st)
   ⟨⟨none, rfl⟩, ⟨[], rfl, rfl, by simp⟩, rfl⟩ (fun _ _ _ _ _ _ => rfl) (fun k d a ρ s hd hI => by
     obtain ⟨⟨x, rfl⟩, ⟨ts, rfl, hl, hn⟩, rfl⟩ := hI
     obtain ⟨hk, rfl⟩ := zcM hd
     have e1 : mulA (.int w) (.int (k : Int)) s = some (.int (w * (k : Int)), s) := mul_int (by omega)
     have e2 : modD (.int (r1 + w * (k : Int))) (.int 26) s = some (.int ((r1 + w * (k : Int)) % 26), s) := zgO (by decide)
     have h1 := Int.emod_lt_of_pos (r1 + w * (k : Int)) (show (0 : Int) < 26 by decide)
     have h2 := Int.emod_nonneg (r1 + w * (k : Int)) (show (26 : Int) ≠ 0 by decide)
     have e3 : mulA (.int (k : Int)) (.int (k : Int)) s = some (.int ((k : Int) * (k : Int)), s) := mul_int (by omega)
     have e4 : modD (.int ((k : Int) * (k : Int) + r1)) (.int 8) s = some (.int (((k : Int) * (k : Int) + r1) % 8), s) := zgO (by decide)
     have h3 := Int.emod_lt_of_pos ((k : Int) * (k : Int) + r1) (show (0 : Int) < 8 by decide)
     have h4 := Int.emod_nonneg ((k : Int) * (k : Int) + r1) (show (8 : Int) ≠ 0 by decide)
     generalize (r1 + w * (k : Int)) % 26 = p2 at e2 h1 h2
     generalize ((k : Int) * (k : Int) + r1) % 8 = q2 at e4 h3 h4
     have ex : ixA (.str zaH) (.int p2) s = some (sgD (97 + p2.toNat), s) := zhI (by decide) h2 (zcD _ (by omega))
     have em := zcP (c := 97 + p2.toNat) (n := 1 + q2) (st := s) (by omega) (by omega)
     refine ⟨[some (.int (k : Int)), some (.str zaH), some (.int r1), some (.int w)], s, true, s, rfl, rfl, .inl ⟨rfl, .str (repS ⟨#[97 + p2.toNat]⟩ (1 + q2)), s, ziT e1 e2 ex e3 e4 em, ⟨_, rfl⟩, ⟨ts ++ [repS ⟨#[97 + p2.toNat]⟩ (1 + q2)], by simp, by simp [hl], fun x hx => ?_⟩, rfl⟩⟩
     rcases List.mem_append.mp hx with hx | hx
     · exact hn x hx
     · rw [List.mem_singleton.mp hx]; exact zmp (by omega) (by omega) (by omega) (by omega))
 obtain ⟨xs, ρ', s', ec, _, ⟨ts, hx, hl, hn⟩, rfl⟩ := key
 rw [List.nil_append] at hx
 subst hx
 exact ⟨ts, by rw [hl, zbz], hn, ec⟩
theorem zkD {n m k : Nat} {st : Sto} {M : Int} (hM : M = (k : Int)) (h : PotD n m st) (h1 : k ≤ 8) (hm : m ≤ 900000) : ∃ (ss : List Str) (l : Nat) (st' : Sto), zbL [.ref n, .int M] st = some (.ref l, st')∧st'[l]? = some (.lst (ss.map D.str))∧ss.length = k∧(∀ x ∈ ss, NmOk x)∧l ≠ n∧PotD n (m + 3) st'∧Fr n st st' := by
 obtain ⟨r1, s1, e1, r10, r11, p1, f1⟩ := zaZ (many := 26) h (by omega) (by decide) (by decide)
 have p2 := p1.gr (Gr.app s1 [.lst [.int 1, .int 3, .int 5, .int 7, .int 9, .int 11]])
 have f2 := Fr.app n s1 [.lst [.int 1, .int 3, .int 5, .int 7, .int 9, .int 11]]
 have a2 := zaY s1 (.lst [.int 1, .int 3, .int 5, .int 7, .int 9, .int 11])
 have hn2 := p1.ne
 generalize hs2 : s1 ++ [O.lst [.int 1, .int 3, .int 5, .int 7, .int 9, .int 11]] = s2 at p2 f2 a2
 obtain ⟨r3, s3, e3, r30, r31, p3, f3⟩ := zaZ (many := 6) p2 (by omega) (by decide) (by decide)
 have a3 := (f3.old _ (getElem?_lt a2) hn2).trans a2
 obtain ⟨w, hw, hw0, hw1⟩ : ∃ w : Int, [D.int 1, .int 3, .int 5, .int 7, .int 9, .int 11][r3.toNat]? = some (.int w)∧0 ≤ w∧w ≤ 11 := by
   have : r3 = 0 ∨ r3 = 1 ∨ r3 = 2 ∨ r3 = 3 ∨ r3 = 4 ∨ r3 = 5 := by omega
   rcases this with rfl | rfl | rfl | rfl | rfl | rfl <;> exact ⟨_, rfl, by decide, by decide⟩
 have i3 : ixA (.ref s1.length) (.int r3) s3 = some (.int w, s3) := zcr a3 r30 hw
 obtain ⟨r4, s4, e4, r40, r41, p4, f4⟩ := zaZ (many := 3) p3 (by omega) (by decide) (by decide)
 have f14 : Fr n st s4 := ((f1.trans f2).trans f3).trans f4
 have g1 : mAsg (mTup (zae (zau zac (zae (mVar 0) (zae (mCon (.int 26)) (mNil)))) (zae (mBin ixA (mLst (zae (mCon (.int 1)) (zae (mCon (.int 3)) (zae (mCon (.int 5)) (zae (mCon (.int 7)) (zae (mCon (.int 9)) (zae (mCon (.int 11)) (mNil)))))))) (zau zac (zae (mVar 0) (zae (mCon (.int 6)) (mNil))))) (mNil)))) (gTp 2 (gC (gNm 3) (gC (gNm 4) (gN0))))
     [some (.ref n), some (.int M), some (.str zaH), none, none] st = some (.nx [some (.ref n), some (.int M), some (.str zaH), some (.int r1), some (.int w)], s3) := by
   simp [rho, EVs, ltD, leD, gtD, geD, cmpD, intC, rho0, e1, hs2, e3, i3]
 by_cases hr : r4 = 0
 · subst hr
   obtain ⟨ts, ht, hn, ec⟩ := ziW (st := s4) h1 r10 r11
   have fl : fits (ts.map D.str).length = true := zax (by simp; omega)
   refine ⟨ts, s4.length, s4 ++ [.lst (ts.map D.str)], zcU ?_, zaY _ _, ht, hn, p4.ne, p4.gr (Gr.app _ _), f14.trans (Fr.app _ _ _)⟩
   generalize ts.map D.str = A at ec fl
   unfold zca
   refine zap (ρ1 := [some (.ref n), some (.int M), some (.str zaH), none, none]) (s1 := st) (by simp [rho, EVs, ltD, leD, gtD, geD, cmpD, intC, rho0]) ?_
   refine zap g1 (zg9 ?_)
   have ecm : zcQ (mR1 (mVar 1)) 1 [2, 3] (gNm 0) (zb4) (zaU) [some (.ref n), some (.int M), some (.str zaH), some (.int r1), some (.int w)] s4 = some (.ref s4.length, s4 ++ [.lst A]) := by
     rw [zaO, zkh (s1 := s4) (k := k) hM (by simp [rho, EVs, ltD, leD, gtD, geD, cmpD, intC, rho0]) (by omega)]
     simp only [Option.bind_some]
     rw [show rho0 [some (.ref n), some (.int M), some (.str zaH), some (.int r1), some (.int w)] 1 [2, 3] = [none, some (.str zaH), some (.int r1)] from rfl, ec]
     simp only [Option.bind_some, fl, if_true]
   simp [rho, EVs, ltD, leD, gtD, geD, cmpD, intC, rho0, e4, eq_int, ecm]
 · obtain ⟨ts, ht, hn, ec⟩ := ziU (r1 := r1) (st := s4) h1 hw0 hw1
   have fl : fits (ts.map D.str).length = true := zax (by simp; omega)
   have p5 := p4.gr (Gr.app s4 [.lst (ts.map D.str)])
   have es := Hn.zd1 (zaY s4 (.lst (ts.map D.str))) (by omega)
   have f5 := Fr.app n s4 [.lst (ts.map D.str)]
   have hp : (zcZ ts).Perm ts := List.mergeSort_perm _ _
   generalize hs5 : s4 ++ [O.lst (ts.map D.str)] = s5 at p5 es f5
   refine ⟨zcZ ts, s5.length, s5 ++ [.lst ((zcZ ts).map D.str)], zcU ?_, zaY _ _, by rw [← ht]; exact hp.length_eq, fun x hx => hn x (hp.mem_iff.mp hx), p5.ne, p5.gr (Gr.app _ _), (f14.trans f5).trans (Fr.app _ _ _)⟩
   generalize (zcZ ts).map D.str = B at es
   generalize ts.map D.str = A at ec fl hs5
   unfold zca
   refine zap (ρ1 := [some (.ref n), some (.int M), some (.str zaH), none, none]) (s1 := st) (by simp [rho, EVs, ltD, leD, gtD, geD, cmpD, intC, rho0]) ?_
   refine zap g1 ?_
   refine zap (ρ1 := [some (.ref n), some (.int M), some (.str zaH), some (.int r1), some (.int w)]) (s1 := s4) (by simp [rho, EVs, ltD, leD, gtD, geD, cmpD, intC, rho0, e4, eq_int, hr]) ?_
   have ecm : zcQ (mR1 (mVar 1)) 1 [2, 3, 4] (gNm 0) (zb4) (zaT) [some (.ref n), some (.int M), some (.str zaH), some (.int r1), some (.int w)] s4 = some (.ref s4.length, s5) := by
     rw [zaO, zkh (s1 := s4) (k := k) hM (by simp [rho, EVs, ltD, leD, gtD, geD, cmpD, intC, rho0]) (by omega)]
     simp only [Option.bind_some]
     rw [show rho0 [some (.ref n), some (.int M), some (.str zaH), some (.int r1), some (.int w)] 1 [2, 3, 4] = [none, some (.str zaH), some (.int r1), some (.int w)] from rfl, ec]
     simp only [Option.bind_some, fl, if_true, hs5]
   simp [rho, EVs, ltD, leD, gtD, geD, cmpD, intC, rho0, ecm, es]
end L2.MP.Hd
namespace L2.MP.Hd
open PySem L2.MP
open L2.MP.Hb (sgD)
abbrev sg36 : Str := "abcdefghijklmnopqrstuvwxyz0123456789"
theorem zlN : ∀ k : Nat, k < 36→∃ c, sg36.cps[k]? = some c∧48 ≤ c∧c ≤ 122 := by
 have : ∀ k : Nat, k < 36→(match sg36.cps[k]? with | some c => decide (48 ≤ c∧c ≤ 122) | none => false) = true := by decide +kernel
 intro k hk
 have := this k hk
 split at this
 · rename_i c e
   exact ⟨c, e, of_decide_eq_true this⟩
 · cases this
structure KdOk (ss : List Str) (k : List Str) : Prop where
 ex : ∃ f ds, k = f :: ds∧NmOk f∧ds.length = 4∧∀ x ∈ ds, NmOk x∧(x = "" ∨ x ∈ ss)
theorem zlK {lN a : Nat} {r c : Int} {s s1 s2 s3 : Sto} {v : Option D} {n : Nat} {y : D} (hs1 : s ++ [.lst [.str ""]] = s1) (ea : addD (.ref s.length) (.ref lN) s1 = some (.ref a, s2)) (el : lenD [.ref lN] s2 = some (.int c, s2)) (en : zac [.ref n, .int (c + 1)] s2 = some (.int r, s3)) (ex : ixA (.ref a) (.int r) s3 = some (y, s3)) :
   zaR [v, some (.ref lN), some (.ref n)] s = some (y, s3) := by
 unfold zaR
 simp [rho, EVs, ltD, leD, gtD, geD, cmpD, intC, rho0, hs1, ea, el, en, ex]
theorem zka {n m lN : Nat} {ss : List Str} {st : Sto} (h : PotD n m st) (hN : st[lN]? = some (.lst (ss.map D.str))) (h1 : lN ≠ n) (hl : ss.length ≤ 100) (hn : ∀ x ∈ ss, NmOk x) (hm : m ≤ 800000) :
   ∃ (ds : List Str) (st' : Sto), mCI ⟨run 0 4, []⟩ (gNm 0) zb4 zaR (run 0 4) [none, some (.ref lN), some (.ref n)] st = some (ds.map D.str, st')∧ds.length = 4∧(∀ x ∈ ds, NmOk x∧(x = "" ∨ x ∈ ss))∧PotD n (m + 4) st'∧Fr n st st' := by
 have key := zk9 (W := ⟨run 0 4, []⟩) (g := gNm 0) (c := zb4) (m := zaR) (ds := run 0 4) (acc := []) (st := st) (ρ := [none, some (.ref lN), some (.ref n)])
   (Inv := fun k a ρ s => (∃ x, ρ = [x, some (.ref lN), some (.ref n)])∧(∃ ds : List Str, a = ds.map D.str∧ds.length = k∧∀ x ∈ ds, NmOk x∧(x = "" ∨ x ∈ ss))∧PotD n (m + k) s∧Fr n st s)
   ⟨⟨_, rfl⟩, ⟨[], rfl, rfl, by simp⟩, h, Fr.refl _ _⟩ (fun _ _ _ _ _ _ => rfl) (fun k d a ρ s hd hI => by
     obtain ⟨⟨x, rfl⟩, ⟨ds, rfl, hlen, hok⟩, hp, hf⟩ := hI
     have hk4 := (zcM hd).1
     have hN0 : s[lN]? = some (.lst (ss.map D.str)) := (hf.old _ (getElem?_lt hN) h1).trans hN
     have a1 := zaY s (.lst [.str ""])
     have hN1 : (s ++ [O.lst [D.str ""]])[lN]? = some (.lst (ss.map D.str)) := by rw [List.getElem?_append_left (getElem?_lt hN0)]; exact hN0
     have p1 := hp.gr (Gr.app s [.lst [.str ""]])
     have f1 := Fr.app n s [.lst [.str ""]]
     generalize hs1 : s ++ [O.lst [D.str ""]] = s1 at a1 hN1 p1 f1
     have ea := zm8 a1 hN1 (by simp; omega)
     have a2 := zaY s1 (.lst ([.str ""] ++ ss.map D.str))
     have hN2 : (s1 ++ [O.lst ([.str ""] ++ ss.map D.str)])[lN]? = some (.lst (ss.map D.str)) := by rw [List.getElem?_append_left (getElem?_lt hN1)]; exact hN1
     have p2 := p1.gr (Gr.app s1 [.lst ([.str ""] ++ ss.map D.str)])
     have f2 := Fr.app n s1 [.lst ([.str ""] ++ ss.map D.str)]
     have hn1 := p1.ne
     generalize hs2 : s1 ++ [O.lst ([.str ""] ++ ss.map D.str)] = s2 at a2 hN2 p2 f2 ea
     have el := zjK hN2
     rw [List.length_map] at el
     obtain ⟨r, s3, e3, r0, r1, p3, f3⟩ := zaZ (many := (ss.length : Int) + 1) p2 (by omega) (by omega) (by omega)
     have a3 := (f3.old _ (getElem?_lt a2) hn1).trans a2
     have hr : r.toNat < ((("" : Str)) :: ss).length := by simp; omega
     have hm : [D.str ""] ++ ss.map D.str = ((("" : Str)) :: ss).map D.str := rfl
     rw [hm] at a3
     have ex := zcr (x := .str ((("" : Str)) :: ss)[r.toNat]) a3 r0 (by rw [List.getElem?_map, List.getElem?_eq_getElem hr]; rfl)
     have hmem : ((("" : Str)) :: ss)[r.toNat] ∈ ("" : Str) :: ss := List.getElem_mem hr
     generalize ((("" : Str)) :: ss)[r.toNat] = y at ex hmem
     have hy : NmOk y∧(y = "" ∨ y ∈ ss) := by
       rcases List.mem_cons.mp hmem with rfl | h
       · exact ⟨zcO, .inl rfl⟩
       · exact ⟨hn y h, .inr h⟩
     refine ⟨[some d, some (.ref lN), some (.ref n)], s, true, s, by simp [rho, EVs, ltD, leD, gtD, geD, cmpD, intC, rho0], rfl, .inl ⟨rfl, .str y, s3, zlK hs1 ea el e3 ex, ⟨_, rfl⟩, ⟨ds ++ [y], by simp, by simp [hlen], fun x hx => ?_⟩, p3, ((hf.trans f1).trans f2).trans f3⟩⟩
     rcases List.mem_append.mp hx with hx | hx
     · exact hok x hx
     · rw [List.mem_singleton.mp hx]; exact hy)
 obtain ⟨xs, ρ', s', ec, _, ⟨ds, hx, hlen, hok⟩, hp, hf⟩ := key
 rw [List.nil_append] at hx
 subst hx
 rw [zbz] at hlen hp
 exact ⟨ds, s', ec, hlen, hok, hp, hf⟩
theorem zmz {n m lN : Nat} {ss : List Str} {st : Sto} (h : PotD n m st) (hN : st[lN]? = some (.lst (ss.map D.str))) (h1 : lN ≠ n) (hl : ss.length ≤ 100) (hn : ∀ x ∈ ss, NmOk x) (hm : m ≤ 700000) :
   ∃ (k : List Str) (st' : Sto), zb0 [.ref n, .ref lN] st = some (zbv k, st')∧KdOk ss k∧PotD n (m + 6) st'∧Fr n st st' := by
 obtain ⟨r1, s1, e1, r10, r11, p1, f1⟩ := zaZ (many := 36) h (by omega) (by decide) (by decide)
 obtain ⟨c1, g1, c10, c11⟩ := zlN r1.toNat (by omega)
 have i1 : ixA (.str sg36) (.int r1) s1 = some (sgD c1, s1) := zhI (by decide) r10 g1
 have a2 := zaY s1 (.lst [.str "", sgD c1])
 have p2 := p1.gr (Gr.app s1 [.lst [.str "", sgD c1]])
 have f2 := Fr.app n s1 [.lst [.str "", sgD c1]]
 have hn2 := p1.ne
 generalize hs2 : s1 ++ [O.lst [D.str "", sgD c1]] = s2 at a2 p2 f2
 obtain ⟨r3, s3, e3, r30, r31, p3, f3⟩ := zaZ (many := 2) p2 (by omega) (by decide) (by decide)
 have a3 := (f3.old _ (getElem?_lt a2) hn2).trans a2
 obtain ⟨x, hx, fx⟩ : ∃ x : Str, [D.str "", sgD c1][r3.toNat]? = some (.str x)∧NmOk x := by
   have : r3 = 0 ∨ r3 = 1 := by omega
   rcases this with rfl | rfl
   · exact ⟨"", rfl, zcO⟩
   · exact ⟨⟨#[c1]⟩, rfl, ⟨by simp, by simp; omega⟩⟩
 have i3 : ixA (.ref s1.length) (.int r3) s3 = some (.str x, s3) := zcr a3 r30 hx
 have f13 : Fr n st s3 := (f1.trans f2).trans f3
 have hN3 := (f13.old _ (getElem?_lt hN) h1).trans hN
 obtain ⟨ds, s4, e4, hds, hok, p4, f4⟩ := zka p3 hN3 h1 hl hn (by omega)
 have fd : fits (ds.map D.str).length = true := zax (by simp; omega)
 match ds, hds, hok, e4, fd with
 | [a, b, c, d], _, hok, e4, fd =>
   have a5 := zaY s4 (.lst [.str a, .str b, .str c, .str d])
   have p5 := p4.gr (Gr.app s4 [.lst [.str a, .str b, .str c, .str d]])
   have f5 := Fr.app n s4 [.lst [.str a, .str b, .str c, .str d]]
   have e4 : mCI ⟨run 0 4, []⟩ (gNm 0) zb4 zaR (run 0 4) [none, some (.ref lN), some (.ref n)] s3 = some ([.str a, .str b, .str c, .str d], s4) := e4
   generalize hs5 : s4 ++ [O.lst [.str a, .str b, .str c, .str d]] = s5 at a5 p5 f5
   have j0 : ixA (.ref s4.length) (.int 0) s5 = some (.str a, s5) := zcr a5 (by decide) rfl
   have j1 : ixA (.ref s4.length) (.int 1) s5 = some (.str b, s5) := zcr a5 (by decide) rfl
   have j2 : ixA (.ref s4.length) (.int 2) s5 = some (.str c, s5) := zcr a5 (by decide) rfl
   have j3 : ixA (.ref s4.length) (.int 3) s5 = some (.str d, s5) := zcr a5 (by decide) rfl
   refine ⟨[x, a, b, c, d], s5, zcU ?_, ⟨x, [a, b, c, d], rfl, fx, rfl, hok⟩, p5.up (by omega), (f13.trans f4).trans f5⟩
   unfold zdz
   refine zap (ρ1 := [some (.ref n), some (.ref lN), some (.str x), none]) (s1 := s3) (by simp [rho, EVs, ltD, leD, gtD, geD, cmpD, intC, rho0, e1, i1, hs2, e3, i3]) ?_
   have ecm : zcQ (mR1 (mCon (.int 4))) 1 [1, 0] (gNm 0) (zb4) (zaR) [some (.ref n), some (.ref lN), some (.str x), none] s3 = some (.ref s4.length, s5) := by
     rw [zaO, ziJ (k := 4) rfl (by decide)]
     simp only [Option.bind_some]
     rw [show rho0 [some (.ref n), some (.ref lN), some (.str x), none] 1 [1, 0] = [none, some (.ref lN), some (.ref n)] from rfl, e4]
     simp only [Option.bind_some, List.length_cons, List.length_nil, hs5]
     rfl
   refine zap (ρ1 := [some (.ref n), some (.ref lN), some (.str x), some (.ref s4.length)]) (s1 := s5) (by rw [zex, ecm]; rfl) ?_
   simp [rho, EVs, ltD, leD, gtD, geD, cmpD, intC, rho0, j0, j1, j2, j3, zbv]
def zcT (e : Int) (stk : List (Str × Int)) (ks : List (List Str)) : D := .tup [.int e, .tup (stk.map zbq), .tup (ks.map zbv)]
structure HsOk (e : Int) (stk : List (Str × Int)) (ks : List (List Str)) : Prop where
 e0 : 1 ≤ e
 e1 : e ≤ 4
 sl : stk.length ≤ 8
 nm : ∀ p ∈ stk, NmOk p.1∧1 ≤ p.2∧p.2 ≤ 4
 lo : 1 ≤ ks.length
 hi : ks.length ≤ 13
 kd : ∀ k ∈ ks, KdOk (stk.map (·.1)) k
theorem zj5 {n a : Nat} {nm : D} {r r2 y : Int} {s s1 s2 s3 : Sto} (e1 : zac [.ref n, .int 4] s = some (.int r, s1)) (hs2 : s1 ++ [.lst [.int 1, .int 2, .int 1, .int (1 + r)]] = s2) (e2 : zac [.ref n, .int 4] s2 = some (.int r2, s3)) (ex : ixA (.ref s1.length) (.int r2) s3 = some (.int y, s3)) : zaV [some nm, some (.ref n)] s = some (.tup [nm, .int y], s3) := by
 unfold zaV
 simp [rho, EVs, ltD, leD, gtD, geD, cmpD, intC, rho0, e1, hs2, e2, ex]
theorem ziv {n m lN : Nat} {ss : List Str} {st : Sto} (h : PotD n m st) (hN : st[lN]? = some (.lst (ss.map D.str))) (h1 : lN ≠ n) (hl : ss.length ≤ 8) (hn : ∀ x ∈ ss, NmOk x) (hm : m ≤ 800000) :
   ∃ (stk : List (Str × Int)) (st' : Sto), mCI ⟨ss.map D.str, [(lN, ss.map D.str)]⟩ (gNm 0) zb4 zaV (ss.map D.str) [none, some (.ref n)] st = some (stk.map zbq, st')∧stk.map (·.1) = ss∧(∀ p ∈ stk, NmOk p.1∧1 ≤ p.2∧p.2 ≤ 4)∧PotD n (m + 16) st'∧Fr n st st' := by
 have key := zk9 (W := ⟨ss.map D.str, [(lN, ss.map D.str)]⟩) (g := gNm 0) (c := zb4) (m := zaV) (ds := ss.map D.str) (acc := []) (st := st) (ρ := [none, some (.ref n)])
   (Inv := fun k a ρ s => (∃ x, ρ = [x, some (.ref n)])∧(∃ stk : List (Str × Int), a = stk.map zbq∧stk.map (·.1) = ss.take k∧∀ p ∈ stk, NmOk p.1∧1 ≤ p.2∧p.2 ≤ 4)∧PotD n (m + 2 * k) s∧Fr n st s)
   ⟨⟨_, rfl⟩, ⟨[], rfl, by simp, by simp⟩, h, Fr.refl _ _⟩ (fun k a ρ s _ hI => zb5 ((hI.2.2.2.old _ (getElem?_lt hN) h1).trans hN)) (fun k d a ρ s hd hI => by
     obtain ⟨⟨x, rfl⟩, ⟨stk, rfl, htk, hok⟩, hp, hf⟩ := hI
     rw [List.getElem?_map] at hd
     obtain ⟨nm, hnm, rfl⟩ := zag hd
     have hk := getElem?_lt hnm
     obtain ⟨r, s1, e1, r0, r1, p1, f1⟩ := zaZ (many := 4) hp (by omega) (by decide) (by decide)
     have a2 := zaY s1 (.lst [.int 1, .int 2, .int 1, .int (1 + r)])
     have p2 := p1.gr (Gr.app s1 [.lst [.int 1, .int 2, .int 1, .int (1 + r)]])
     have f2 := Fr.app n s1 [.lst [.int 1, .int 2, .int 1, .int (1 + r)]]
     have hn2 := p1.ne
     generalize hs2 : s1 ++ [O.lst [.int 1, .int 2, .int 1, .int (1 + r)]] = s2 at a2 p2 f2
     obtain ⟨r2, s3, e3, r20, r21, p3, f3⟩ := zaZ (many := 4) p2 (by omega) (by decide) (by decide)
     have a3 := (f3.old _ (getElem?_lt a2) hn2).trans a2
     obtain ⟨y, hy, y0, y1⟩ : ∃ y : Int, [D.int 1, .int 2, .int 1, .int (1 + r)][r2.toNat]? = some (.int y)∧1 ≤ y∧y ≤ 4 := by
       have : r2 = 0 ∨ r2 = 1 ∨ r2 = 2 ∨ r2 = 3 := by omega
       rcases this with rfl | rfl | rfl | rfl
       · exact ⟨1, rfl, by decide, by decide⟩
       · exact ⟨2, rfl, by decide, by decide⟩
       · exact ⟨1, rfl, by decide, by decide⟩
       · exact ⟨1 + r, rfl, by omega, by omega⟩
     have ex : ixA (.ref s1.length) (.int r2) s3 = some (.int y, s3) := zcr a3 r20 hy
     refine ⟨[some (.str nm), some (.ref n)], s, true, s, rfl, rfl, .inl ⟨rfl, zbq (nm, y), s3, zj5 (a := 0) e1 hs2 e3 ex, ⟨_, rfl⟩, ⟨stk ++ [(nm, y)], by simp, ?_, fun p hp => ?_⟩, p3.up (by omega), ((hf.trans f1).trans f2).trans f3⟩⟩
     · rw [List.map_append, htk, List.take_add_one, hnm]
       rfl
     · rcases List.mem_append.mp hp with hp | hp
       · exact hok p hp
       · rw [List.mem_singleton.mp hp]; exact ⟨hn nm (List.mem_of_getElem? hnm), y0, y1⟩)
 obtain ⟨xs, ρ', s', ec, _, ⟨stk, hx, htk, hok⟩, hp, hf⟩ := key
 rw [List.nil_append] at hx
 subst hx
 rw [List.length_map] at htk hp
 rw [List.take_length] at htk
 exact ⟨stk, s', ec, htk, hok, hp.up (by omega), hf⟩
theorem zkQ {n m lN j : Nat} {ss : List Str} {st : Sto} (h : PotD n m st) (hN : st[lN]? = some (.lst (ss.map D.str))) (h1 : lN ≠ n) (hl : ss.length ≤ 8) (hn : ∀ x ∈ ss, NmOk x) (hm : m ≤ 600000) (hj : j ≤ 12) :
   ∃ (ks : List (List Str)) (st' : Sto), mCI ⟨run 0 j, []⟩ (gNm 0) zb4 zba (run 0 j) [none, some (.ref n), some (.ref lN)] st = some (ks.map zbv, st')∧ks.length = j∧(∀ k ∈ ks, KdOk ss k)∧PotD n (m + 72) st'∧Fr n st st' := by
 have key := zk9 (W := ⟨run 0 j, []⟩) (g := gNm 0) (c := zb4) (m := zba) (ds := run 0 j) (acc := []) (st := st) (ρ := [none, some (.ref n), some (.ref lN)])
   (Inv := fun i a ρ s => (∃ x, ρ = [x, some (.ref n), some (.ref lN)])∧(∃ ks : List (List Str), a = ks.map zbv∧ks.length = i∧∀ k ∈ ks, KdOk ss k)∧PotD n (m + 6 * i) s∧Fr n st s)
   ⟨⟨_, rfl⟩, ⟨[], rfl, rfl, by simp⟩, h, Fr.refl _ _⟩ (fun _ _ _ _ _ _ => rfl) (fun i d a ρ s hd hI => by
     obtain ⟨⟨x, rfl⟩, ⟨ks, rfl, hlen, hok⟩, hp, hf⟩ := hI
     have hi := (zcM hd).1
     obtain ⟨k, s1, e1, hk, p1, f1⟩ := zmz hp ((hf.old _ (getElem?_lt hN) h1).trans hN) h1 (by omega) hn (by omega)
     refine ⟨[some d, some (.ref n), some (.ref lN)], s, true, s, rfl, rfl, .inl ⟨rfl, zbv k, s1, ?_, ⟨_, rfl⟩, ⟨ks ++ [k], by simp, by simp [hlen], fun y hy => ?_⟩, p1.up (by omega), hf.trans f1⟩⟩
     · unfold zba
       simp [rho, EVs, ltD, leD, gtD, geD, cmpD, intC, rho0, e1]
     · rcases List.mem_append.mp hy with hy | hy
       · exact hok y hy
       · rw [List.mem_singleton.mp hy]; exact hk)
 obtain ⟨xs, ρ', s', ec, _, ⟨ks, hx, hlen, hok⟩, hp, hf⟩ := key
 rw [List.nil_append] at hx
 subst hx
 rw [zbz] at hlen hp
 exact ⟨ks, s', ec, hlen, hok, hp.up (by omega), hf⟩
theorem zfZ {n m : Nat} {st : Sto} {xs : List Int} {lo hi : Int} (h : PotD n m st) (hm : m ≤ 900000) (hx : 1 ≤ xs.length) (hx2 : xs.length ≤ 100) (hb : ∀ x ∈ xs, lo ≤ x∧x ≤ hi) : ∃ (r y : Int) (st' : Sto), zac [.ref n, .int (xs.length : Int)] (st ++ [.lst (xs.map D.int)]) = some (.int r, st')∧ixA (.ref st.length) (.int r) st' = some (.int y, st')∧lo ≤ y∧y ≤ hi∧PotD n (m + 1) st'∧Fr n st st' := by
 have a1 := zaY st (.lst (xs.map D.int))
 have p1 := h.gr (Gr.app st [.lst (xs.map D.int)])
 have f1 := Fr.app n st [.lst (xs.map D.int)]
 have hn := h.ne
 generalize st ++ [O.lst (xs.map D.int)] = s1 at a1 p1 f1
 obtain ⟨r, s2, e2, r0, r1, p2, f2⟩ := zaZ (many := (xs.length : Int)) p1 (by omega) (by omega) (by omega)
 have a2 := (f2.old _ (getElem?_lt a1) hn).trans a1
 have hr : r.toNat < xs.length := by omega
 have hy := hb _ (List.getElem_mem hr)
 exact ⟨r, xs[r.toNat], s2, e2, zcr a2 r0 (by rw [List.getElem?_map, List.getElem?_eq_getElem hr]; rfl), hy.1, hy.2, p2, f1.trans f2⟩
theorem zkU {n m : Nat} {st : Sto} (h : PotD n m st) (hm : m ≤ 100000) : ∃ (e : Int) (stk : List (Str × Int)) (ks : List (List Str)) (st' : Sto), zbM [.ref n] st = some (zcT e stk ks, st')∧HsOk e stk ks∧PotD n (m + 200) st'∧Fr n st st' := by
 obtain ⟨r1, s1, e1, r10, r11, p1, f1⟩ := zaZ (many := 4) h (by omega) (by decide) (by decide)
 obtain ⟨ss, lN, s2, e2, at2, hss, hnm, n1, p2, f2⟩ := zkD (k := (1 + r1).toNat) (M := 1 + r1) (by omega) p1 (by omega) (by omega)
 obtain ⟨r3, y3, s3, e3, x3, y30, y31, p3, f3⟩ := zfZ (xs := [1, 1, 2, 2, 1, 3, 4, 2]) (lo := 1) (hi := 4) p2 (by omega) (by decide) (by decide) (by decide)
 have nm3 := (f3.old _ (getElem?_lt at2) n1).trans at2
 obtain ⟨stk, s4, e4, hstk, hsok, p4, f4⟩ := ziv p3 nm3 n1 (by omega) hnm (by omega)
 have lstk : stk.length = ss.length := by rw [← hstk, List.length_map]
 have a5 := zaY s4 (.lst (stk.map zbq))
 have p5 := p4.gr (Gr.app s4 [.lst (stk.map zbq)])
 have f5 := Fr.app n s4 [.lst (stk.map zbq)]
 have fs : fits (stk.map zbq).length = true := zax (by rw [List.length_map]; omega)
 generalize hs5 : s4 ++ [O.lst (stk.map zbq)] = s5 at a5 p5 f5
 have et := zbW a5
 obtain ⟨r6, y6, s6, e6, x6, y60, y61, p6, f6⟩ := zfZ (xs := [3, 5, 5, 12]) (lo := 3) (hi := 12) p5 (by omega) (by decide) (by decide) (by decide)
 obtain ⟨r7, s7, e7, r70, r71, p7, f7⟩ := zaZ (many := y6) p6 (by omega) (by omega) (by omega)
 have nm7 := (((f4.trans f5).trans (f6.trans f7)).old _ (getElem?_lt nm3) n1).trans nm3
 obtain ⟨ks, s8, e8, hks, hkok, p8, f8⟩ := zkQ (j := (1 + r7).toNat) p7 nm7 n1 (by omega) hnm (by omega) (by omega)
 have a9 := zaY s8 (.lst (ks.map zbv))
 have p9 := p8.gr (Gr.app s8 [.lst (ks.map zbv)])
 have f9 := Fr.app n s8 [.lst (ks.map zbv)]
 have fk : fits (ks.map zbv).length = true := zax (by rw [List.length_map]; omega)
 have hn9 := p8.ne
 generalize hs9 : s8 ++ [O.lst (ks.map zbv)] = s9 at a9 p9 f9
 obtain ⟨r10', s10, e10, r100, r101, p10, f10⟩ := zaZ (many := 6) p9 (by omega) (by decide) (by decide)
 have a10 := (f10.old _ (getElem?_lt a9) hn9).trans a9
 have f110 : Fr n st s10 := ((f1.trans f2).trans (f3.trans f4)).trans (((f5.trans f6).trans (f7.trans f8)).trans (f9.trans f10))
 have sm : small (1 + r7) = true := zbk (by omega) (by omega)
 have ecm1 : zcQ (mWA (mVar 1)) 1 [0] (gNm 0) (zb4) (zaV) [some (.ref n), some (.ref lN), some (.int y3), none, none] s3 = some (.ref s4.length, s5) := by
   have : mWA (mVar 1) [some (.ref n), some (.ref lN), some (.int y3), none, none] s3 = some (⟨ss.map D.str, [(lN, ss.map D.str)]⟩, s3) := by simp [rho, EVs, ltD, leD, gtD, geD, cmpD, intC, rho0, zin, zbj, nm3]
   rw [zaO, this]
   simp only [Option.bind_some]
   rw [show rho0 [some (.ref n), some (.ref lN), some (.int y3), none, none] 1 [0] = [none, some (.ref n)] from rfl, e4]
   simp only [Option.bind_some, fs, if_true, hs5]
 have ecm2 : zcQ (mR1 (mBin addD (mCon (.int 1)) (zau zac (zae (mVar 0) (zae (mBin ixA (mLst (zae (mCon (.int 3)) (zae (mCon (.int 5)) (zae (mCon (.int 5)) (zae (mCon (.int 12)) (mNil)))))) (zau zac (zae (mVar 0) (zae (mCon (.int 4)) (mNil))))) (mNil)))))) 1 [0, 1] (gNm 0) (zb4) (zba) [some (.ref n), some (.ref lN), some (.int y3), some (.tup (stk.map zbq)), none] s5 = some (.ref s8.length, s9) := by
   have e6' : zac [.ref n, .int 4] (s5 ++ [.lst [.int 3, .int 5, .int 5, .int 12]]) = some (.int r6, s6) := e6
   have : mR1 (mBin addD (mCon (.int 1)) (zau zac (zae (mVar 0) (zae (mBin ixA (mLst (zae (mCon (.int 3)) (zae (mCon (.int 5)) (zae (mCon (.int 5)) (zae (mCon (.int 12)) (mNil)))))) (zau zac (zae (mVar 0) (zae (mCon (.int 4)) (mNil))))) (mNil))))) [some (.ref n), some (.ref lN), some (.int y3), some (.tup (stk.map zbq)), none] s5 = some (⟨run 0 (1 + r7).toNat, []⟩, s7) := by simp [rho, EVs, ltD, leD, gtD, geD, cmpD, intC, rho0, e6', x6, e7, sm]
   rw [zaO, this]
   simp only [Option.bind_some]
   rw [show rho0 [some (.ref n), some (.ref lN), some (.int y3), some (.tup (stk.map zbq)), none] 1 [0, 1] = [none, some (.ref n), some (.ref lN)] from rfl, e8]
   simp only [Option.bind_some, fk, if_true, hs9]
 have e3' : zac [.ref n, .int 8] (s2 ++ [.lst [.int 1, .int 1, .int 2, .int 2, .int 1, .int 3, .int 4, .int 2]]) = some (.int r3, s3) := e3
 have pre : ∀ {R : Option (Fl × Sto)}, mSeq (mIf (mTst (mBin eqD (zau zac (zae (mVar 0) (zae (mCon (.int 6)) (mNil)))) (mCon (.int 0)))) (mExp (mApp (mVar 4) (zae (mBin ixA (mVar 4) (zau zac (zae (mVar 0) (zae (zau lenD (zae (mVar 4) (mNil))) (mNil))))) (mNil)))) (zdN)) (mRet (mTup (zae (mVar 2) (zae (mVar 3) (zae (zau zdg (zae (mVar 4) (mNil))) (mNil))))))
     [some (.ref n), some (.ref lN), some (.int y3), some (.tup (stk.map zbq)), some (.ref s8.length)] s9 = R→zcb (rho 5 [.ref n]) st = R := fun hR => by
   unfold zcb
   refine zap (ρ1 := [some (.ref n), some (.ref lN), none, none, none]) (s1 := s2) (by simp [rho, EVs, ltD, leD, gtD, geD, cmpD, intC, rho0, e1, e2]) ?_
   refine zap (ρ1 := [some (.ref n), some (.ref lN), some (.int y3), none, none]) (s1 := s3) (by simp [rho, EVs, ltD, leD, gtD, geD, cmpD, intC, rho0, e3', x3]) ?_
   refine zap (ρ1 := [some (.ref n), some (.ref lN), some (.int y3), some (.tup (stk.map zbq)), none]) (s1 := s5) (by simp [rho, EVs, ltD, leD, gtD, geD, cmpD, intC, rho0, ecm1, et]) ?_
   exact zap (ρ1 := [some (.ref n), some (.ref lN), some (.int y3), some (.tup (stk.map zbq)), some (.ref s8.length)]) (s1 := s9) (by rw [zex, ecm2]; rfl) hR
 have kd' : ∀ k ∈ ks, KdOk (stk.map (·.1)) k := by rw [hstk]; exact hkok
 by_cases hr : r10' = 0
 · subst hr
   have el := zjK a10
   rw [List.length_map] at el
   obtain ⟨r11', s11, e11, r110, r111, p11, f11⟩ := zaZ (many := (ks.length : Int)) p10 (by omega) (by omega) (by omega)
   have a11 := (f11.old _ (getElem?_lt a10) hn9).trans a10
   have hlt : r11'.toNat < ks.length := by omega
   have ex : ixA (.ref s8.length) (.int r11') s11 = some (zbv ks[r11'.toNat], s11) := zcr a11 r110 (by rw [List.getElem?_map, List.getElem?_eq_getElem hlt]; rfl)
   have hmem : ks[r11'.toNat] ∈ ks := List.getElem_mem hlt
   generalize ks[r11'.toNat] = k0 at ex hmem
   have ea := append_at (x := zbv k0) a11 (by rw [List.length_map]; omega)
   have a12 : (s11.set s8.length (.lst (ks.map zbv ++ [zbv k0])))[s8.length]? = some (.lst (ks.map zbv ++ [zbv k0])) := by simp [getElem?_lt a11]
   have et2 := zbW a12
   have hlen8 : st.length ≤ s8.length := (((f1.trans f2).trans (f3.trans f4)).trans ((f5.trans f6).trans (f7.trans f8))).len
   refine ⟨y3, stk, ks ++ [k0], s11.set s8.length (.lst (ks.map zbv ++ [zbv k0])), zcU (pre ?_), ⟨y30, y31, by omega, hsok, by simp, by simp; omega, fun k hk => ?_⟩, (p11.set hn9).up (by omega), ?_⟩
   · generalize s11.set s8.length (.lst (ks.map zbv ++ [zbv k0])) = s12 at *
     refine zap (ρ1 := [some (.ref n), some (.ref lN), some (.int y3), some (.tup (stk.map zbq)), some (.ref s8.length)]) (s1 := s12) (by simp [rho, EVs, ltD, leD, gtD, geD, cmpD, intC, rho0, e10, eq_int, el, e11, ex, ea, zbj, a10]) ?_
     simp [rho, EVs, ltD, leD, gtD, geD, cmpD, intC, rho0, et2, zcT]
   · rcases List.mem_append.mp hk with hk | hk
     · exact kd' k hk
     · rw [List.mem_singleton.mp hk]; exact kd' k0 hmem
   · have f := f110.trans f11
     exact ⟨by rw [List.length_set]; exact f.len, fun k hk hkn => by rw [List.getElem?_set_ne (by omega)]; exact f.old k hk hkn⟩
 · have et2 := zbW a10
   refine ⟨y3, stk, ks, s10, zcU (pre ?_), ⟨y30, y31, by omega, hsok, by omega, by omega, kd'⟩, p10.up (by omega), f110⟩
   refine zap (ρ1 := [some (.ref n), some (.ref lN), some (.int y3), some (.tup (stk.map zbq)), some (.ref s8.length)]) (s1 := s10) (by simp [rho, EVs, ltD, leD, gtD, geD, cmpD, intC, rho0, e10, eq_int, hr]) ?_
   simp [rho, EVs, ltD, leD, gtD, geD, cmpD, intC, rho0, et2, zcT]
end L2.MP.Hd
namespace L2.MP.Hd
open PySem L2.MP
open L2.MP.Hn (zat zby srtT zcz)
def zdw (w h kn : Int) (t : Tl) : Prop := 0 ≤ t.1∧t.1 < w∧0 ≤ t.2.1∧t.2.1 < h∧0 ≤ t.2.2∧t.2.2 < kn
theorem zio : ∀ {l : List Tl} {t : Tl}, PlNd l→t ∈ l→valD (l.map kvOf) (kvOf t).1 = some (.int t.2.2)
 | [], t, _, h => by cases h
 | u :: l, t, nd, h => by
   have nd' : (∀ b ∈ l, zbm u b = false)∧PlNd l := List.pairwise_cons.mp nd
   unfold valD
   rw [List.map_cons, List.find?_cons, zhF]
   rcases List.mem_cons.mp h with rfl | h
   · have : zbm t t = true := by unfold zbm; simp
     rw [this]
     rfl
   · rw [nd'.1 t h]
     exact zio nd'.2 h
structure SInv (n t m : Nat) (w h kn : Int) (st0 : Sto) (l : List Tl) (s : Sto) : Prop where
 at_ : s[t]? = some (.dt (l.map kvOf))
 ok : ∀ u ∈ l, zdw w h kn u
 nd : PlNd l
 pot : PotD n m s
 fr : Fr n st0 s
abbrev srho (n : Nat) (hd : D) (w h most : Int) (t : Nat) (v u : Option D) : Rho := [some (.ref n), some hd, some (.tup [.int w, .int h]), some (.int most), some (.ref t), v, u]
theorem zki {n t : Nat} {w h most x y k K : Int} {hd KK : D} {s s1 s2 s3 s4 : Sto} {v u : Option D} (ew : ixA (.tup [.int w, .int h]) (.int 0) s = some (.int w, s)) (e1 : zac [.ref n, .int w] s = some (.int x, s1)) (eh : ixA (.tup [.int w, .int h]) (.int 1) s1 = some (.int h, s1)) (e2 : zac [.ref n, .int h] s1 = some (.int y, s2)) (e3 : ixA hd (.int 2) s2 = some (KK, s2)) (e4 : lenD [KK] s2 = some (.int K, s2)) (e5 : zac [.ref n, .int K] s2 = some (.int k, s3)) (ed : dput s3 t (.tup [.int x, .int y]) (.int k) = some s4) :
   zaM (srho n hd w h most t v u) s = some (.nx (srho n hd w h most t v (some (.tup [.int x, .int y]))), s4) := by
 unfold zaM
 refine zap (ρ1 := srho n hd w h most t v (some (.tup [.int x, .int y]))) (s1 := s2) (by simp [srho, rho, EVs, ltD, leD, gtD, geD, cmpD, intC, rho0, zaO, ew, e1, eh, e2]) ?_
 rw [zjq]
 have c1 : mAsg (zau zac (zae (mVar 0) (zae (zau lenD (zae (mBin ixA (mVar 1) (mCon (.int 2))) (mNil))) (mNil)))) (gSb setD (mVar 4) (mVar 6)) (srho n hd w h most t v (some (.tup [.int x, .int y]))) s2 = none := by
   simp [srho, rho, EVs, ltD, leD, gtD, geD, cmpD, intC, rho0, zaO, e3, e4, e5, setD]
 rw [c1, zgN]
 unfold zlq
 simp [srho, rho, EVs, ltD, leD, gtD, geD, cmpD, intC, rho0, zaO, e3, e4, e5, ed]
theorem zg2 {n t m : Nat} {w h most : Int} {a b : D} {ks : List D} {st0 s : Sto} {l : List Tl} {v u : Option D} (q : SInv n t m w h ks.length st0 l s) (ht : t ≠ n) (ht0 : st0.length ≤ t) (hw : 0 < w) (hw2 : w ≤ 1000) (hh : 0 < h) (hh2 : h ≤ 1000) (hk : 0 < ks.length) (hk2 : ks.length < 100000) (hl : l.length ≤ 1000) (hm : m ≤ 900000) :
   ∃ (l' : List Tl) (u' : Option D) (s' : Sto), zaM (srho n (.tup [a, b, .tup ks]) w h most t v u) s = some (.nx (srho n (.tup [a, b, .tup ks]) w h most t v u'), s')∧SInv n t (m + 3) w h ks.length st0 l' s'∧l'.length ≤ l.length + 1 := by
 obtain ⟨x, s1, e1, x0, x1, p1, f1⟩ := zaZ (many := w) q.pot (by omega) hw (by omega)
 obtain ⟨y, s2, e2, y0, y1, p2, f2⟩ := zaZ (many := h) p1 (by omega) hh (by omega)
 obtain ⟨k, s3, e3, k0, k1, p3, f3⟩ := zaZ (many := ks.length) p2 (by omega) (by omega) (by omega)
 have f13 := (f1.trans f2).trans f3
 have at3 := (f13.old _ (getElem?_lt q.at_) ht).trans q.at_
 have ed := zh0 (x := x) (y := y) (k := k) at3 hl
 have hlt := getElem?_lt at3
 have fr3 := q.fr.trans f13
 refine ⟨putT l (x, y, k), _, s3.set t (.dt ((putT l (x, y, k)).map kvOf)), zki (za2 (by decide) rfl) e1 (za2 (by decide) rfl) e2 (za2 (by decide) rfl) zgb e3 ed, ⟨by simp [hlt], zfp q.ok ⟨x0, x1, y0, y1, k0, k1⟩, zjB q.nd, p3.set ht, ⟨by have := fr3.len; simpa using this, fun j hj nj => by rw [List.getElem?_set_ne (by omega)]; exact fr3.old j hj nj⟩⟩, zfo _ _⟩
theorem zhj {x y k : Int} {t : Nat} {s : Sto} (hk : zjT (.ref t) (.tup [.int x, .int y]) s = some (.int k, s)) : zaD [some (.tup [.int x, .int y]), some (.ref t)] s = some (.tup [.int x, .int y, .int k], s) := by
 have ea : addD (.tup [.int x, .int y]) (.tup [.int k]) s = some (.tup [.int x, .int y, .int k], s) := zjY (by simp) (by simp)
 unfold zaD
 simp [rho, EVs, ltD, leD, gtD, geD, cmpD, intC, rho0, hk, ea]
theorem zcJ {n m : Nat} {w h most : Int} {a b : D} {ks : List D} {st : Sto} (hp : PotD n m st) (hw : 0 < w) (hw2 : w ≤ 1000) (hh : 0 < h) (hh2 : h ≤ 1000) (hk : 0 < ks.length) (hk2 : ks.length < 100000) (hm : 0 ≤ most) (hm2 : most < 60) (hmm : m ≤ 800000) :
   ∃ (ts : List Tl) (st' : Sto), zas [.ref n, .tup [a, b, .tup ks], .tup [.int w, .int h], .int most] st = some (zat ts, st')∧(∀ t ∈ ts, zdw w h ks.length t)∧(ts.length : Int) ≤ most∧PotD n (m + 181) st'∧Fr n st st' := by
 have ht : st.length ≠ n := hp.ne
 have p0 := hp.gr (Gr.app st [.dt []])
 obtain ⟨r, s1, e1, r0, r1, p1, f1⟩ := zaZ (many := most + 1) p0 (by omega) (by omega) (by omega)
 have at1 : s1[st.length]? = some (.dt (([] : List Tl).map kvOf)) := (f1.old _ (by simp) ht).trans (zaY st _)
 have key := zbs (W := ⟨run 0 r.toNat, []⟩) (g := gNm 5) (m := zaM) (ds := run 0 r.toNat) (ρ := srho n (.tup [a, b, .tup ks]) w h most st.length none none) (st := s1)
   (Inv := fun k ρ s => ∃ (l : List Tl) (v u : Option D), ρ = srho n (.tup [a, b, .tup ks]) w h most st.length v u∧l.length ≤ k∧SInv n st.length (m + 1 + 3 * k) w h ks.length st l s)
   ⟨[], none, none, rfl, Nat.le_refl _, ⟨at1, by simp, List.Pairwise.nil, p1, (Fr.app _ _ _).trans f1⟩⟩ (fun _ _ _ _ _ => rfl) (fun k d ρ s hd hI => by
     obtain ⟨l, v, u, rfl, hl, q⟩ := hI
     have hkl := (zcM hd).1
     obtain ⟨l', u', s', e, q', hl'⟩ := zg2 (most := most) (a := a) (b := b) (v := some d) (u := u) q ht (Nat.le_refl _) hw hw2 hh hh2 hk hk2 (by omega) (by omega)
     exact ⟨_, s, _, s', rfl, e, l', some d, u', rfl, by omega, q'⟩)
 obtain ⟨ρ', s2, e2, l, v, u, rfl, hl, q⟩ := key
 rw [zbz] at hl q
 have hlt := getElem?_lt q.at_
 have ewk : zlj (.ref st.length) s2 = some (⟨zdO (l.map kvOf), []⟩, s2.set st.length (.ft (l.map kvOf))) := by
   unfold zlj
   simp only [q.at_]
 have a3 : (s2.set st.length (.ft (l.map kvOf)))[st.length]? = some (.ft (l.map kvOf)) := by simp [hlt]
 have fr3 : Fr n st (s2.set st.length (.ft (l.map kvOf))) := ⟨by have := q.fr.len; simpa using this, fun j hj nj => by rw [List.getElem?_set_ne (by omega)]; exact q.fr.old j hj nj⟩
 have p3 : PotD n (m + 1 + 3 * r.toNat) (s2.set st.length (.ft (l.map kvOf))) := q.pot.set ht
 generalize hs3 : s2.set st.length (.ft (l.map kvOf)) = s3 at ewk a3 fr3 p3
 have eit : zdO (l.map kvOf) = l.map fun t => D.tup [.int t.1, .int t.2.1] := by
   unfold zdO
   rw [List.map_map]
   rfl
 have ec : mCI ⟨zdO (l.map kvOf), []⟩ (gNm 0) zb4 zaD (zdO (l.map kvOf)) [none, some (.ref st.length)] s3 = some (l.map fun t => tupD (rowT t), s3) := by
   rw [eit]
   refine zgI (R := fun ρ => ∃ x, ρ = [x, some (.ref st.length)]) ⟨none, rfl⟩ rfl fun t ht ρ hρ => ?_
   obtain ⟨x, rfl⟩ := hρ
   have hv := zio q.nd ht
   have hk : zjT (.ref st.length) (.tup [.int t.1, .int t.2.1]) s3 = some (.int t.2.2, s3) := by
     have e1 : keysOf [.int t.1, .int t.2.1] = some (kvOf t).1 := rfl
     simp only [zjT, zkM, a3, e1, Option.map_some, Option.bind_some, hv]
   exact ⟨[some (.tup [.int t.1, .int t.2.1]), some (.ref st.length)], rfl, rfl, zhj hk, ⟨_, rfl⟩⟩
 have fl : fits (l.map fun t => tupD (rowT t)).length = true := zax (by rw [List.length_map]; omega)
 have a4 := zaY s3 (.lst (l.map fun t => tupD (rowT t)))
 have es := zby a4 (by omega)
 have p4 := p3.gr (Gr.app s3 [.lst (l.map fun t => tupD (rowT t))])
 have f4 := Fr.app n s3 [.lst (l.map fun t => tupD (rowT t))]
 have hperm := zcz l
 generalize hs4 : s3 ++ [O.lst (l.map fun t => tupD (rowT t))] = s4 at es p4 f4
 have et := zbW (zaY s4 (.lst ((srtT l).map fun t => tupD (rowT t))))
 refine ⟨srtT l, s4 ++ [.lst ((srtT l).map fun t => tupD (rowT t))], zcU ?_, fun t ht => q.ok t (hperm.mem_iff.mp ht), by rw [hperm.length_eq]; omega, (p4.gr (Gr.app _ _)).up (by omega), (fr3.trans f4).trans (Fr.app _ _ _)⟩
 have sm : small r = true := zbk r0 (by omega)
 unfold zb9 zat
 generalize ((srtT l).map fun t => tupD (rowT t)) = B at es et
 generalize (l.map fun t => tupD (rowT t)) = A at ec fl hs4
 generalize zdO (l.map kvOf) = KD at ec ewk
 refine zap (ρ1 := srho n (.tup [a, b, .tup ks]) w h most st.length none none) (s1 := st ++ [.dt []]) (by simp [srho, rho, EVs, ltD, leD, gtD, geD, cmpD, intC, rho0]) ?_
 refine zap (ρ1 := srho n (.tup [a, b, .tup ks]) w h most st.length v u) (s1 := s2) (by
   have : mR1 (zau zac (zae (mVar 0) (zae (mBin addD (mVar 3) (mCon (.int 1))) (mNil)))) (srho n (.tup [a, b, .tup ks]) w h most st.length none none) (st ++ [.dt []]) = some (⟨run 0 r.toNat, []⟩, s1) := by simp [srho, rho, EVs, ltD, leD, gtD, geD, cmpD, intC, rho0, e1, sm]
   rw [zcj, this]
   exact e2) ?_
 have ecm : zcQ (mWK (mVar 4)) 1 [4] (gNm 0) (zb4) (zaD) (srho n (.tup [a, b, .tup ks]) w h most st.length v u) s2 = some (.ref s3.length, s4) := by
   have : mWK (mVar 4) (srho n (.tup [a, b, .tup ks]) w h most st.length v u) s2 = some (⟨KD, []⟩, s3) := ewk
   rw [zaO, this]
   simp only [Option.bind_some]
   rw [show rho0 (srho n (.tup [a, b, .tup ks]) w h most st.length v u) 1 [4] = [none, some (.ref st.length)] from rfl, ec]
   simp only [Option.bind_some, fl, if_true, hs4]
 simp [rho, EVs, ltD, leD, gtD, geD, cmpD, intC, rho0, ecm, es, et]
structure FlOk (w h : Int) : Prop where
 w0 : 1 ≤ w
 w1 : w ≤ 12
 h0 : 1 ≤ h
 h1 : h ≤ 12
def bedD (e : Int) (stk : List (Str × Int)) (ks : List (List Str)) (w h : Int) (sd : List Tl) : D := .tup [zcT e stk ks, .tup [.int w, .int h], zat sd]
theorem zoX {n m : Nat} {st : Sto} (hp : PotD n m st) (hm : m ≤ 100000) : ∃ (e : Int) (stk : List (Str × Int)) (ks : List (List Str)) (w h : Int) (sd : List Tl) (st' : Sto), zch [.ref n] st = some (bedD e stk ks w h sd, st')∧HsOk e stk ks∧FlOk w h∧(∀ t ∈ sd, zdw w h ks.length t)∧sd.length ≤ 6∧PotD n (m + 400) st'∧Fr n st st' := by
 obtain ⟨e, stk, ks, s1, e1, hs, p1, f1⟩ := zkU hp hm
 obtain ⟨r2, s2, e2, r20, r21, p2, f2⟩ := zaZ (many := 5) p1 (by omega) (by decide) (by decide)
 obtain ⟨r3, y3, s3, e3, x3, y30, y31, p3, f3⟩ := zfZ (xs := [5, 5, 5, 12]) (lo := 5) (hi := 12) p2 (by omega) (by decide) (by decide) (by decide)
 obtain ⟨r4, s4, e4, r40, r41, p4, f4⟩ := zaZ (many := y3) p3 (by omega) (by omega) (by omega)
 obtain ⟨r5, s5, e5, r50, r51, p5, f5⟩ := zaZ (many := 2) p4 (by omega) (by decide) (by decide)
 obtain ⟨r6, y6, s6, e6, x6, y60, y61, p6, f6⟩ := zfZ (xs := [1, 2, 6]) (lo := 1) (hi := 6) p5 (by omega) (by decide) (by decide) (by decide)
 have e3' : zac [.ref n, .int 4] (s2 ++ [.lst [.int 5, .int 5, .int 5, .int 12]]) = some (.int r3, s3) := e3
 have e6' : zac [.ref n, .int 3] (s5 ++ [.lst [.int 1, .int 2, .int 6]]) = some (.int r6, s6) := e6
 have k1 := hs.lo
 have k2 := hs.hi
 have f16 : Fr n st s6 := ((f1.trans f2).trans (f3.trans f4)).trans (f5.trans f6)
 obtain ⟨w, h, hwh, hfl⟩ : ∃ w h : Int, (∀ R : Option (Fl × Sto), mRet (mTup (zae (mVar 1) (zae (mVar 2) (zae (zau zas (zae (mVar 0) (zae (mVar 1) (zae (mVar 2) (zae (mBin ixA (mLst (zae (mCon (.int 1)) (zae (mCon (.int 2)) (zae (mCon (.int 6)) (mNil))))) (zau zac (zae (mVar 0) (zae (mCon (.int 3)) (mNil))))) (mNil)))))) (mNil))))) [some (.ref n), some (zcT e stk ks), some (.tup [.int w, .int h])] s5 = R→zci (rho 3 [.ref n]) st = R)∧FlOk w h := by
   generalize zcT e stk ks = hd at *
   by_cases hr : r5 = 0
   · subst hr
     refine ⟨1 + r4, 1 + r2, fun R hR => ?_, by omega, by omega, by omega, by omega⟩
     unfold zci
     refine zap (ρ1 := [some (.ref n), some hd, none]) (s1 := s1) (by simp [rho, EVs, ltD, leD, gtD, geD, cmpD, intC, rho0, e1]) ?_
     refine zap (ρ1 := [some (.ref n), some hd, some (.tup [.int (1 + r2), .int (1 + r4)])]) (s1 := s4) (by simp [rho, EVs, ltD, leD, gtD, geD, cmpD, intC, rho0, e2, e3', x3, e4]) ?_
     refine zap (ρ1 := [some (.ref n), some hd, some (.tup [.int (1 + r4), .int (1 + r2)])]) (s1 := s5) ?_ hR
     have er : ∀ s : Sto, zov (mVar 2) (mNeg (mCon (.int 1))) [some (.ref n), some hd, some (.tup [.int (1 + r2), .int (1 + r4)])] s = some (.tup [.int (1 + r4), .int (1 + r2)], s) := fun s => rfl
     simp [rho, EVs, ltD, leD, gtD, geD, cmpD, intC, rho0, e5, eq_int, er]
   · refine ⟨1 + r2, 1 + r4, fun R hR => ?_, by omega, by omega, by omega, by omega⟩
     unfold zci
     refine zap (ρ1 := [some (.ref n), some hd, none]) (s1 := s1) (by simp [rho, EVs, ltD, leD, gtD, geD, cmpD, intC, rho0, e1]) ?_
     refine zap (ρ1 := [some (.ref n), some hd, some (.tup [.int (1 + r2), .int (1 + r4)])]) (s1 := s4) (by simp [rho, EVs, ltD, leD, gtD, geD, cmpD, intC, rho0, e2, e3', x3, e4]) ?_
     refine zap (ρ1 := [some (.ref n), some hd, some (.tup [.int (1 + r2), .int (1 + r4)])]) (s1 := s5) (by simp [rho, EVs, ltD, leD, gtD, geD, cmpD, intC, rho0, e5, eq_int, hr]) hR
 have := hfl.w0; have := hfl.w1; have := hfl.h0; have := hfl.h1
 obtain ⟨sd, s7, e7, hsd, hsl, p7, f7⟩ := zcJ (w := w) (h := h) (most := y6) (a := .int e) (b := .tup (stk.map zbq)) (ks := ks.map zbv) p6 (by omega) (by omega) (by omega) (by omega) (by rw [List.length_map]; omega) (by rw [List.length_map]; omega) (by omega) (by omega) (by omega)
 have e7 : zas [.ref n, zcT e stk ks, .tup [.int w, .int h], .int y6] s6 = some (zat sd, s7) := e7
 rw [List.length_map] at hsd
 refine ⟨e, stk, ks, w, h, sd, s7, zcU (hwh _ ?_), hs, hfl, hsd, by omega, p7.up (by omega), f16.trans f7⟩
 unfold bedD
 generalize zcT e stk ks = hd at *
 simp [rho, EVs, ltD, leD, gtD, geD, cmpD, intC, rho0, e6', x6, e7]
end L2.MP.Hd
namespace L2.MP.Hd
open PySem L2.MP
open L2.MP.Hn (zat)
theorem zpp {x y : Int} {d : Nat} {kvs : List (List Key × D)} {st : Sto} (h : st[d]? = some (.dt kvs)) : inA (.tup [.int x, .int y]) (.ref d) st = some (.bl (valD kvs [.inl x, .inl y]).isSome, st) := by
 have e0 : toP 50 st (.ref d) = none := by rw [toP]; simp [zbj, h]
 have e1 : inD false (.tup [.int x, .int y]) (.ref d) st = none := by
   unfold inD
   rw [e0]
   cases toP 50 st (.tup [.int x, .int y]) <;> rfl
 have e2 : inSD (.tup [.int x, .int y]) (.ref d) st = none := rfl
 unfold inA orG
 rw [show orO (inD false (.tup [.int x, .int y]) (.ref d) st) (inSD (.tup [.int x, .int y]) (.ref d) st) = none by rw [e1, e2]; rfl, zgN]
 simp [dinD, look, h, keysOf, keyOf]
theorem zp9 {x y : Int} {d : Nat} {kvs : List (List Key × D)} {v : D} {st : Sto} (h : st[d]? = some (.dt kvs)) (hv : valD kvs [.inl x, .inl y] = some v) : ixA (.ref d) (.tup [.int x, .int y]) st = some (v, st) := by
 have e1 : idxD (.ref d) (.tup [.int x, .int y]) st = none := by simp [idxD, zbj, h]
 unfold ixA orG
 rw [e1, zgN]
 simp [zoQ, look, h, keysOf, keyOf, hv]
theorem eq_str {a b : Str} {st : Sto} (ha : PyData.strOk a = true) (hb : PyData.strOk b = true) : eqD (.str a) (.str b) st = some (.bl (a == b), st) := by
 unfold eqD
 rw [zfM ha, zfM hb]
 simp [PyData.eqv]
theorem ne_str {a b : Str} {st : Sto} (ha : PyData.strOk a = true) (hb : PyData.strOk b = true) : neD (.str a) (.str b) st = some (.bl (a != b), st) := by
 unfold neD
 rw [zfM ha, zfM hb]
 simp [PyData.eqv, bne]
def byPl (ts : List Tl) : List Tl := ts.foldl putT []
theorem zhx : ∀ (ts acc : List Tl), zeS (acc.map kvOf) (ts.map kvOf) = (ts.foldl putT acc).map kvOf
 | [], acc => rfl
 | t :: ts, acc => by
   show zeS (putD (acc.map kvOf) (kvOf t).1 (kvOf t).2) (ts.map kvOf) = _
   rw [zjC]
   exact zhx ts (putT acc t)
theorem fold_all {P : Tl→Prop} : ∀ {ts acc : List Tl}, (∀ t ∈ acc, P t)→(∀ t ∈ ts, P t)→∀ t ∈ ts.foldl putT acc, P t
 | [], acc, h, _ => h
 | t :: ts, acc, h, h' => fold_all (ts := ts) (acc := putT acc t) (zfp h (h' t List.mem_cons_self)) fun u hu => h' u (List.mem_cons_of_mem _ hu)
theorem zhT : ∀ (ts acc : List Tl), (ts.foldl putT acc).length ≤ acc.length + ts.length
 | [], acc => by simp
 | t :: ts, acc => by
   have h1 := zhT ts (putT acc t)
   have h2 := zfo acc t
   simp only [List.foldl_cons, List.length_cons]
   omega
def fnd (P : List Tl) (x y : Int) : Option Int := (P.find? fun t => decide (t.1 = x) && decide (t.2.1 = y)).map fun t => t.2.2
theorem zdH (x y : Int) : ∀ P : List Tl, valD (P.map kvOf) [.inl x, .inl y] = (fnd P x y).map D.int
 | [] => rfl
 | t :: P => by
   have ih := zdH x y P
   have hk : decide ((kvOf t).1 = [Sum.inl x, Sum.inl y]) = (decide (t.1 = x) && decide (t.2.1 = y)) := zhF t (x, y, 0)
   unfold valD fnd at *
   rw [List.map_cons, List.find?_cons, List.find?_cons, hk]
   cases decide (t.1 = x) && decide (t.2.1 = y) with
   | true => rfl
   | false => exact ih
theorem zhU {P : List Tl} {x y k : Int} (h : fnd P x y = some k) : ∃ t ∈ P, t.2.2 = k := by
 unfold fnd at h
 obtain ⟨t, e, h⟩ := zag h
 exact ⟨t, List.mem_of_find?_eq_some e, h⟩
theorem zow {t : Tl} {s : Sto} : za9 [some (.int t.1), some (.int t.2.1), some (.int t.2.2)] s = some (.tup [.tup [.int t.1, .int t.2.1], .int t.2.2], s) := rfl
theorem zl5 : ∀ ts : List Tl, zfq (ts.map fun t => .tup [.tup [.int t.1, .int t.2.1], .int t.2.2]) = some (ts.map kvOf)
 | [] => rfl
 | t :: ts => by
   have ih := zl5 ts
   rw [List.map_cons, zfq, ih]
   rfl
theorem zj3 {t : Tl} {a b c : Option D} {st : Sto} {r : Rho} : gTp 3 (gC (gNm 0) (gC (gNm 1) (gC (gNm 2) (gN0)))) (tupD (rowT t)) (a :: b :: c :: r) st = some (some (.int t.1) :: some (.int t.2.1) :: some (.int t.2.2) :: r, st) := rfl
theorem zkK {ts : List Tl} {st : Sto} (hl : ts.length ≤ 1000) : ∃ (l : Nat) (st' : Sto), zbn [zat ts] st = some (.ref l, st')∧st'[l]? = some (.dt ((byPl ts).map kvOf))∧Gr st st' := by
 have ec : mCI ⟨ts.map fun t => tupD (rowT t), []⟩ (gTp 3 (gC (gNm 0) (gC (gNm 1) (gC (gNm 2) (gN0))))) zb4 za9 (ts.map fun t => tupD (rowT t)) [none, none, none] st = some (ts.map fun t => .tup [.tup [.int t.1, .int t.2.1], .int t.2.2], st) := by
   have : ∀ W : Wk, walked W st = true→mCI W (gTp 3 (gC (gNm 0) (gC (gNm 1) (gC (gNm 2) (gN0))))) zb4 za9 (ts.map fun t => tupD (rowT t)) [none, none, none] st = some (ts.map fun t => .tup [.tup [.int t.1, .int t.2.1], .int t.2.2], st) := by
     intro W hW
     refine zgI (R := fun ρ => ∃ x y z, ρ = [x, y, z]) ⟨none, none, none, rfl⟩ hW fun t ht ρ hρ => ?_
     obtain ⟨x, y, z, rfl⟩ := hρ
     exact ⟨_, zj3, rfl, zow, _, _, _, rfl⟩
   exact this _ rfl
 have fl : fits (ts.map fun t => D.tup [.tup [.int t.1, .int t.2.1], .int t.2.2]).length = true := zax (by rw [List.length_map]; omega)
 have a1 := zaY st (.lst (ts.map fun t => .tup [.tup [.int t.1, .int t.2.1], .int t.2.2]))
 have fk : fits (ts.map kvOf).length = true := zax (by rw [List.length_map]; omega)
 have g1 := Gr.app st [.lst (ts.map fun t => .tup [.tup [.int t.1, .int t.2.1], .int t.2.2])]
 generalize hs1 : st ++ [O.lst (ts.map fun t => .tup [.tup [.int t.1, .int t.2.1], .int t.2.2])] = s1 at a1 g1
 have ed : zmN [.ref st.length] s1 = some (.ref s1.length, s1 ++ [.dt ((byPl ts).map kvOf)]) := by
   unfold zmN
   have hm : zeS [] (ts.map kvOf) = (byPl ts).map kvOf := zhx ts []
   simp only [zbj, a1, Option.bind_some, zl5, fk, if_true, hm]
 refine ⟨s1.length, s1 ++ [.dt ((byPl ts).map kvOf)], zcU ?_, zaY _ _, g1.trans (Gr.app _ _)⟩
 unfold zc7 zat
 generalize (ts.map fun t => tupD (rowT t)) = T at *
 generalize (ts.map fun t => D.tup [.tup [.int t.1, .int t.2.1], .int t.2.2]) = A at *
 have ecm : zcQ (mWA (mVar 0)) 3 [] (gTp 3 (gC (gNm 0) (gC (gNm 1) (gC (gNm 2) (gN0))))) (zb4) (za9) (rho 1 [.tup T]) st = some (.ref st.length, s1) := by
   have : mWA (mVar 0) (rho 1 [.tup T]) st = some (⟨T, []⟩, st) := by simp [rho, EVs, ltD, leD, gtD, geD, cmpD, intC, rho0, zin]
   rw [zaO, this]
   simp only [Option.bind_some]
   rw [show rho0 (rho 1 [.tup T]) 3 [] = [none, none, none] from rfl, ec]
   simp only [Option.bind_some, fl, if_true, hs1]
 simp [rho, EVs, ltD, leD, gtD, geD, cmpD, intC, rho0] at ecm ⊢
 simp [rho, EVs, ltD, leD, gtD, geD, cmpD, intC, rho0, ecm, ed]
theorem znS {n : Nat} {x y k : Int} {T : D} {s s' : Sto} (ed : dput s n (.tup [.int x, .int y]) (.int k) = some s') : za3 [some T, some (.ref n), some (.int x), some (.int y), some (.int k)] s = some (.nx [some T, some (.ref n), some (.int x), some (.int y), some (.int k)], s') := by
 unfold za3
 rw [zjq]
 have c1 : mAsg (mVar 4) (gSb setD (mVar 1) (mTup (zae (mVar 2) (zae (mVar 3) (mNil))))) [some T, some (.ref n), some (.int x), some (.int y), some (.int k)] s = none := by
   simp [rho, EVs, ltD, leD, gtD, geD, cmpD, intC, rho0, setD]
 rw [c1, zgN]
 unfold zlq
 simp [rho, EVs, ltD, leD, gtD, geD, cmpD, intC, rho0, ed]
theorem zoB {ts : List Tl} {st : Sto} (hl : ts.length ≤ 500) : ∃ (st' : Sto), zbg [zat ts] st = some (.ref st.length, st')∧st'[st.length]? = some (.dt ((byPl ts).map kvOf))∧Gr st st' := by
 have key := zbs (W := ⟨ts.map fun t => tupD (rowT t), []⟩) (g := gTp 3 (gC (gNm 2) (gC (gNm 3) (gC (gNm 4) (gN0))))) (m := za3) (ds := ts.map fun t => tupD (rowT t)) (ρ := [some (zat ts), some (.ref st.length), none, none, none]) (st := st ++ [.dt []])
   (Inv := fun k ρ s => (∃ a b c, ρ = [some (zat ts), some (.ref st.length), a, b, c])∧s[st.length]? = some (.dt (((ts.take k).foldl putT []).map kvOf))∧Gr st s)
   ⟨⟨_, _, _, rfl⟩, zaY _ _, Gr.app _ _⟩ (fun _ _ _ _ _ => rfl) (fun k d ρ s hd hI => by
     obtain ⟨⟨a, b, c, rfl⟩, hat, hg⟩ := hI
     rw [List.getElem?_map] at hd
     obtain ⟨t, ht, rfl⟩ := zag hd
     have hl2 : ((ts.take k).foldl putT []).length ≤ 1000 := by
       have := zhT (ts.take k) []
       rw [List.length_take, List.length_nil] at this
       omega
     have ed := zh0 (x := t.1) (y := t.2.1) (k := t.2.2) hat hl2
     refine ⟨[some (zat ts), some (.ref st.length), some (.int t.1), some (.int t.2.1), some (.int t.2.2)], s, _, _, rfl, znS ed, ⟨_, _, _, rfl⟩, ?_, ?_⟩
     · rw [List.getElem?_set_self (getElem?_lt hat), List.take_add_one, ht, List.foldl_append]
       rfl
     · exact ⟨by rw [List.length_set]; exact hg.len, fun j hj => by rw [List.getElem?_set_ne (by omega)]; exact hg.old j hj⟩)
 obtain ⟨ρ', s', el, ⟨a, b, c, rfl⟩, hat, hg⟩ := key
 rw [List.length_map, List.take_length] at hat
 refine ⟨s', zcU ?_, hat, hg⟩
 unfold zcd
 refine zap (ρ1 := [some (zat ts), some (.ref st.length), none, none, none]) (s1 := st ++ [.dt []]) (by simp [rho, EVs, ltD, leD, gtD, geD, cmpD, intC, rho0]) ?_
 refine zap (ρ1 := [some (zat ts), some (.ref st.length), a, b, c]) (s1 := s') (by
   have : mWA (mVar 0) [some (zat ts), some (.ref st.length), none, none, none] (st ++ [.dt []]) = some (⟨ts.map fun t => tupD (rowT t), []⟩, st ++ [.dt []]) := by unfold zat; simp [rho, EVs, ltD, leD, gtD, geD, cmpD, intC, rho0, zin]
   rw [zcj, this]
   exact el) ?_
 simp [rho, EVs, ltD, leD, gtD, geD, cmpD, intC, rho0]
end L2.MP.Hd
namespace L2.MP.Hd
open PySem L2.MP
open L2.MP.Hn (zat)
def sds (ks : List (List Str)) (k : Int) : List Str := (ks.getD k.toNat []).tail
structure BedAt (bed : D) (stk : List (Str × Int)) (ks : List (List Str)) : Prop where
 h : ∃ hs : D, (∀ s : Sto, ixA bed (.int 0) s = some (hs, s))∧(∀ s : Sto, ixA hs (.int 1) s = some (.tup (stk.map zbq), s))∧∀ s : Sto, ixA hs (.int 2) s = some (.tup (ks.map zbv), s)
structure KsOk (ss : List Str) (ks : List (List Str)) : Prop where
 hi : ks.length ≤ 100
 kd : ∀ k ∈ ks, KdOk ss k
theorem zc1 {ss : List Str} {ks : List (List Str)} {k : Int} (h : KsOk ss ks) (h0 : 0 ≤ k) (h1 : k < (ks.length : Int)) : ∃ f a b c d : Str, ks[k.toNat]? = some [f, a, b, c, d]∧sds ks k = [a, b, c, d]∧∀ x ∈ [a, b, c, d], NmOk x∧(x = "" ∨ x ∈ ss) := by
 have hk : k.toNat < ks.length := by omega
 obtain ⟨f, ds, e, hf, hl, hok⟩ := (h.kd _ (List.getElem_mem hk)).ex
 have e' : ks[k.toNat]? = some (f :: ds) := by rw [List.getElem?_eq_getElem hk, e]
 have es : sds ks k = ds := by
   unfold sds
   rw [List.getD_eq_getElem?_getD, e']
   rfl
 match ds, hl, hok, e', es with
 | [a, b, c, d], _, hok, e', es => exact ⟨f, a, b, c, d, e', es, hok⟩
theorem zj9 {bed hs KK kd sl : D} {k K : Int} {st : Sto} (i0 : ixA bed (.int 0) st = some (hs, st)) (i2 : ixA hs (.int 2) st = some (KK, st)) (el : lenD [KK] st = some (.int K, st)) (h0 : 0 ≤ k) (h1 : k < K) (ik : ixA KK (.int k) st = some (kd, st)) (es : slB kd (some 1) none st = some (sl, st)) : zdx [some bed, some (.int k), none] st = some (.rt sl, st) := by
 unfold zdx
 refine zap (ρ1 := [some bed, some (.int k), some KK]) (s1 := st) (by simp [rho, EVs, ltD, leD, gtD, geD, cmpD, intC, rho0, i0, i2]) (zg9 ?_)
 have et : mTst (zhB leD ltD (mCon (.int 0)) (mVar 1) (zau lenD (zae (mVar 2) (mNil)))) [some bed, some (.int k), some KK] st = some (true, st) := by
   rw [zmZ]
   unfold zhB
   simp [rho, EVs, ltD, leD, gtD, geD, cmpD, intC, rho0, el, h0, h1]
 rw [zlv, et]
 simp [rho, EVs, ltD, leD, gtD, geD, cmpD, intC, rho0, ik, es]
theorem zgw {bed : D} {stk : List (Str × Int)} {ss : List Str} {ks : List (List Str)} {k : Int} {st : Sto} (hb : BedAt bed stk ks) (h : KsOk ss ks) (h0 : 0 ≤ k) (h1 : k < (ks.length : Int)) : zb8 [bed, .int k] st = some (.tup ((sds ks k).map D.str), st) := by
 obtain ⟨hs, i0, _, i2⟩ := hb.h
 obtain ⟨f, a, b, c, d, e, es, _⟩ := zc1 h h0 h1
 rw [es]
 refine zcU (zj9 (i0 st) (i2 st) zgb h0 (by rw [List.length_map]; exact h1) (za2 h0 (by rw [List.getElem?_map, e]; rfl)) ?_)
 rfl
theorem zjo {x y : Int} {st : Sto} : za8 [.tup [.int x, .int y]] st = some (.tup [.tup [.int x, .int (y + 1)], .tup [.int (x + 1), .int y], .tup [.int x, .int (y - 1)], .tup [.int (x - 1), .int y]], st) := by
 have i0 : ixA (.tup [.int x, .int y]) (.int 0) st = some (.int x, st) := za2 (by decide) rfl
 have i1 : ixA (.tup [.int x, .int y]) (.int 1) st = some (.int y, st) := za2 (by decide) rfl
 refine zcU ?_
 unfold zcl
 refine zap (ρ1 := [some (.tup [.int x, .int y]), some (.int x), none]) (s1 := st) (by simp [rho, EVs, ltD, leD, gtD, geD, cmpD, intC, rho0, i0]) ?_
 refine zap (ρ1 := [some (.tup [.int x, .int y]), some (.int x), some (.int y)]) (s1 := st) (by simp [rho, EVs, ltD, leD, gtD, geD, cmpD, intC, rho0, i1]) ?_
 simp [rho, EVs, ltD, leD, gtD, geD, cmpD, intC, rho0]
def nmF (ks : List (List Str)) (P : List Tl) (p : Int × Int) (j : Nat) : Str := match fnd P p.1 p.2 with
 | some k => (sds ks k).getD j ""
 | none => ""
theorem zqa {bed pl nr L0 : D} {d l : Nat} {J I k : Int} {s : Sto} {L : List D} {y : D} {sl : D} (h1 : inA nr (.ref d) s = some (.bl true, s)) (hl : s[l]? = some (.lst L)) (hx : ixA (.ref d) nr s = some (.int k, s)) (hs : zb8 [bed, .int k] s = some (sl, s)) (hm : modD (.int (J + 2)) (.int 4) s = some (.int I, s)) (hy : ixA sl (.int I) s = some (y, s)) (ha : zbT (.ref l) [y] s = some (.non, s.set l (.lst (L ++ [y])))) :
   zaF [some bed, some (.ref d), some pl, some (.ref l), some (.int J), some nr] s = some (.nx [some bed, some (.ref d), some pl, some (.ref l), some (.int J), some nr], s.set l (.lst (L ++ [y]))) := by
 unfold zaF
 simp [rho, EVs, ltD, leD, gtD, geD, cmpD, intC, rho0, h1, zbj, hl, hx, hs, hm, hy, ha]
theorem zoe {bed pl nr : D} {d l : Nat} {J : Int} {s : Sto} {L : List D} (h1 : inA nr (.ref d) s = some (.bl false, s)) (hl : s[l]? = some (.lst L)) (ha : zbT (.ref l) [.str ""] s = some (.non, s.set l (.lst (L ++ [.str ""])))) :
   zaF [some bed, some (.ref d), some pl, some (.ref l), some (.int J), some nr] s = some (.nx [some bed, some (.ref d), some pl, some (.ref l), some (.int J), some nr], s.set l (.lst (L ++ [.str ""]))) := by
 unfold zaF
 simp [rho, EVs, ltD, leD, gtD, geD, cmpD, intC, rho0, h1, zbj, hl, ha]
theorem zf5 {bed pl : D} {stk : List (Str × Int)} {ss : List Str} {ks : List (List Str)} {P : List Tl} {d l : Nat} {J I a b : Int} {j : Nat} {s : Sto} {L : List D} (hb : BedAt bed stk ks) (h : KsOk ss ks) (hP : ∀ t ∈ P, 0 ≤ t.2.2∧t.2.2 < (ks.length : Int)) (hd : s[d]? = some (.dt (P.map kvOf))) (hl : s[l]? = some (.lst L)) (hL : L.length ≤ 10) (hI : (J + 2) % 4 = I) (hj : I = (j : Int)) (hj4 : j < 4) :
   zaF [some bed, some (.ref d), some pl, some (.ref l), some (.int J), some (.tup [.int a, .int b])] s = some (.nx [some bed, some (.ref d), some pl, some (.ref l), some (.int J), some (.tup [.int a, .int b])], s.set l (.lst (L ++ [.str (nmF ks P (a, b) j)]))) := by
 have hin := zpp (x := a) (y := b) hd
 have hv := zdH a b P
 unfold nmF
 cases hf : fnd P a b with
 | none =>
   rw [hf] at hv
   rw [hv] at hin
   exact zoe hin hl (append_at hl (by omega))
 | some k =>
   rw [hf] at hv
   have hv : valD (P.map kvOf) [.inl a, .inl b] = some (.int k) := hv
   rw [hv] at hin
   obtain ⟨t, ht, rfl⟩ := zhU hf
   obtain ⟨k0, k1⟩ := hP t ht
   obtain ⟨f, x0, x1, x2, x3, e, es, _⟩ := zc1 h k0 k1
   refine zqa (L0 := .non) hin hl (zp9 hd hv) (zgw hb h k0 k1) (by rw [zgO (by decide), hI]) (za2 (by omega) ?_) (append_at hl (by omega))
   show ((sds ks t.2.2).map D.str)[I.toNat]? = some (D.str ((sds ks t.2.2).getD j ""))
   rw [es, hj, Int.toNat_natCast]
   match j, hj4 with
   | 0, _ => rfl
   | 1, _ => rfl
   | 2, _ => rfl
   | 3, _ => rfl
def names4 (ks : List (List Str)) (P : List Tl) (x y : Int) : List Str := [nmF ks P (x, y + 1) 2, nmF ks P (x + 1, y) 3, nmF ks P (x, y - 1) 0, nmF ks P (x - 1, y) 1]
theorem zhW {e : ME} {ρ : Rho} {st s : Sto} {ds : List D} (h : e ρ st = some (.tup ds, s)) : zlp e ρ st = some (⟨pairs ds, []⟩, s) := by
 unfold zlp
 rw [h]
 rfl
theorem zjc {bed : D} {stk : List (Str × Int)} {ss : List Str} {ks : List (List Str)} {P : List Tl} {d : Nat} {x y : Int} {st : Sto} (hb : BedAt bed stk ks) (h : KsOk ss ks) (hP : ∀ t ∈ P, 0 ≤ t.2.2∧t.2.2 < (ks.length : Int)) (hd : st[d]? = some (.dt (P.map kvOf))) :
   ∃ st', zbf [bed, .ref d, .tup [.int x, .int y]] st = some (.ref st.length, st')∧st'[st.length]? = some (.lst ((names4 ks P x y).map D.str))∧Gr st st' := by
 have hdl := getElem?_lt hd
 have key := zbs (W := ⟨pairs [.tup [.int x, .int (y + 1)], .tup [.int (x + 1), .int y], .tup [.int x, .int (y - 1)], .tup [.int (x - 1), .int y]], []⟩) (g := gTp 2 (gC (gNm 4) (gC (gNm 5) (gN0)))) (m := zaF) (ds := [D.tup [.int 0, .tup [.int x, .int (y + 1)]], .tup [.int 1, .tup [.int (x + 1), .int y]], .tup [.int 2, .tup [.int x, .int (y - 1)]], .tup [.int 3, .tup [.int (x - 1), .int y]]]) (ρ := [some bed, some (.ref d), some (.tup [.int x, .int y]), some (.ref st.length), none, none]) (st := st ++ [.lst []])
   (Inv := fun k ρ s => (∃ a b, ρ = [some bed, some (.ref d), some (.tup [.int x, .int y]), some (.ref st.length), a, b])∧s[st.length]? = some (.lst (((names4 ks P x y).take k).map D.str))∧Gr st s)
   ⟨⟨_, _, rfl⟩, zaY _ _, Gr.app _ _⟩ (fun _ _ _ _ _ => rfl) (fun k dd ρ s hdd hI => by
     obtain ⟨⟨u, v, rfl⟩, hat, hg⟩ := hI
     have hd' := (hg.old _ hdl).trans hd
     have hL : (((names4 ks P x y).take k).map D.str).length ≤ 10 := by rw [List.length_map, List.length_take]; simp [names4]; omega
     have gr : ∀ o : O, Gr st (s.set st.length o) := fun o => ⟨by rw [List.length_set]; exact hg.len, fun j hj => by rw [List.getElem?_set_ne (by omega)]; exact hg.old j hj⟩
     have at' : ∀ o : O, (s.set st.length o)[st.length]? = some o := fun o => List.getElem?_set_self (getElem?_lt hat)
     match k, hdd with
     | 0, hdd =>
       cases hdd
       exact ⟨_, s, _, _, rfl, zf5 (pl := .tup [.int x, .int y]) (I := 2) (j := 2) hb h hP hd' hat hL (by decide) rfl (by decide), ⟨_, _, rfl⟩, at' _, gr _⟩
     | 1, hdd =>
       cases hdd
       exact ⟨_, s, _, _, rfl, zf5 (pl := .tup [.int x, .int y]) (I := 3) (j := 3) hb h hP hd' hat hL (by decide) rfl (by decide), ⟨_, _, rfl⟩, at' _, gr _⟩
     | 2, hdd =>
       cases hdd
       exact ⟨_, s, _, _, rfl, zf5 (pl := .tup [.int x, .int y]) (I := 0) (j := 0) hb h hP hd' hat hL (by decide) rfl (by decide), ⟨_, _, rfl⟩, at' _, gr _⟩
     | 3, hdd =>
       cases hdd
       exact ⟨_, s, _, _, rfl, zf5 (pl := .tup [.int x, .int y]) (I := 1) (j := 1) hb h hP hd' hat hL (by decide) rfl (by decide), ⟨_, _, rfl⟩, at' _, gr _⟩
     | k + 4, hdd => exact absurd hdd (by simp))
 obtain ⟨ρ', s', el, ⟨u, v, rfl⟩, hat, hg⟩ := key
 refine ⟨s', zcU ?_, hat, hg⟩
 unfold zcH
 refine zap (ρ1 := [some bed, some (.ref d), some (.tup [.int x, .int y]), some (.ref st.length), none, none]) (s1 := st ++ [.lst []]) (by simp [rho, EVs, ltD, leD, gtD, geD, cmpD, intC, rho0]) ?_
 refine zap (ρ1 := [some bed, some (.ref d), some (.tup [.int x, .int y]), some (.ref st.length), u, v]) (s1 := s') (by
   have ec : zau za8 (zae (mVar 2) (mNil)) [some bed, some (.ref d), some (.tup [.int x, .int y]), some (.ref st.length), none, none] (st ++ [.lst []]) = some (.tup [.tup [.int x, .int (y + 1)], .tup [.int (x + 1), .int y], .tup [.int x, .int (y - 1)], .tup [.int (x - 1), .int y]], st ++ [.lst []]) := by
     have := zjo (x := x) (y := y) (st := st ++ [.lst []])
     simp [rho, EVs, ltD, leD, gtD, geD, cmpD, intC, rho0, this]
   rw [zcj, zhW ec]
   exact el) ?_
 simp [rho, EVs, ltD, leD, gtD, geD, cmpD, intC, rho0]
def okJ (S N : List Str) (j : Nat) : Bool := S.getD j "" != "" && S.getD j "" == N.getD j ""
def alike (S N : List Str) : List Nat := (List.range 4).filter (okJ S N)
theorem zes : PyData.strOk ("" : Str) = true := by decide +kernel
theorem nm_F {ss : List Str} {ks : List (List Str)} {P : List Tl} (h : KsOk ss ks) (hP : ∀ t ∈ P, 0 ≤ t.2.2∧t.2.2 < (ks.length : Int)) (p : Int × Int) (j : Nat) : NmOk (nmF ks P p j) := by
 unfold nmF
 split
 · rename_i k hf
   obtain ⟨t, ht, rfl⟩ := zhU hf
   obtain ⟨k0, k1⟩ := hP t ht
   obtain ⟨f, a, b, c, d, e, es, hok⟩ := zc1 h k0 k1
   rw [es, List.getD_eq_getElem?_getD]
   cases hg : [a, b, c, d][j]? with
   | none => exact zcO
   | some x => exact (hok x (List.mem_of_getElem? hg)).1
 · exact zcO
end L2.MP.Hd
namespace L2.MP.Hd
open PySem L2.MP
open L2.MP.Hn (zat)
def kvS (p : Str × Int) : Key × D := (.inr p.1, .int p.2)
def stD (stk : List (Str × Int)) : List (Key × D) := zeT [] (stk.map kvS)
theorem zlx {κ : Type} [DecidableEq κ] : ∀ (kvs : List (κ × D)) (k q : κ) (d : D), valD (putD kvs k d) q = if q = k then some d else valD kvs q := by
 intro kvs k q d
 unfold putD
 by_cases h : (kvs.any fun kv => decide (kv.1 = k)) = true
 · rw [if_pos h]
   induction kvs with
   | nil => simp at h
   | cons p r ih =>
     unfold valD at *
     rw [List.map_cons, List.find?_cons, List.find?_cons]
     by_cases hp : p.1 = k
     · simp only [hp, if_true]
       by_cases hq : q = k
       · simp [hq]
       · have : ¬ k = q := fun e => hq e.symm
         simp only [this, decide_false, hq, if_false]
         clear h ih
         induction r with
         | nil => rfl
         | cons u r ih2 =>
           rw [List.map_cons, List.find?_cons, List.find?_cons]
           by_cases hu : u.1 = k
           · simp only [hu, if_true, this, decide_false]
             exact ih2
           · simp only [hu, if_false]
             by_cases huq : u.1 = q
             · simp [huq]
             · simp only [huq, decide_false]
               exact ih2
     · simp only [hp, if_false]
       by_cases hpq : p.1 = q
       · have : ¬ q = k := fun e => hp (hpq.trans e)
         simp [hpq, this]
       · simp only [hpq, decide_false]
         refine ih ?_
         rw [List.any_cons] at h
         simpa [hp] using h
 · rw [if_neg h]
   unfold valD
   rw [List.find?_append]
   by_cases hq : q = k
   · subst hq
     have : kvs.find? (fun kv => decide (kv.1 = q)) = none := by
       rw [List.find?_eq_none]
       intro x hx hx2
       exact h (List.any_eq_true.mpr ⟨x, hx, hx2⟩)
     simp [this]
   · have : ¬ k = q := fun e => hq e.symm
     simp [hq, this]
def okV (d : Option D) : Prop := ∃ v : Int, d = some (.int v)∧1 ≤ v∧v ≤ 4
theorem zf8 {q : Str} : ∀ {more : List (Str × Int)} {acc : List (Key × D)}, (∀ p ∈ more, 1 ≤ p.2∧p.2 ≤ 4)→(okV (valD acc (.inr q)) ∨ q ∈ more.map (·.1))→okV (valD (zeT acc (more.map kvS)) (.inr q))
 | [], acc, _, h => by
   rcases h with h | h
   · exact h
   · cases h
 | p :: r, acc, hv, h => by
   show okV (valD (zeT (putD acc (.inr p.1) (.int p.2)) (r.map kvS)) (.inr q))
   refine zf8 (fun u hu => hv u (List.mem_cons_of_mem _ hu)) ?_
   rw [zlx]
   by_cases e : q = p.1
   · subst e
     rw [if_pos rfl]
     have := hv p List.mem_cons_self
     exact .inl ⟨p.2, rfl, this.1, this.2⟩
   · have e' : ¬ (Sum.inr q : Key) = .inr p.1 := fun z => e (by injection z)
     rw [if_neg e']
     rcases h with h | h
     · exact .inl h
     · rcases List.mem_cons.mp h with h | h
       · exact absurd h e
       · exact .inr h
def sv (stk : List (Str × Int)) (a : Str) : Int := match valD (stD stk) (.inr a) with | some (.int v) => v | _ => 0
theorem zna {stk : List (Str × Int)} {a : Str} (h : ∀ p ∈ stk, 1 ≤ p.2∧p.2 ≤ 4) (ha : a ∈ stk.map (·.1)) : valD (stD stk) (.inr a) = some (.int (sv stk a))∧1 ≤ sv stk a∧sv stk a ≤ 4 := by
 obtain ⟨v, e, h1, h2⟩ := zf8 (acc := []) h (.inr ha)
 have e : valD (stD stk) (.inr a) = some (.int v) := e
 have : sv stk a = v := by unfold sv; rw [e]
 rw [this]
 exact ⟨e, h1, h2⟩
theorem zjE : ∀ stk : List (Str × Int), zlm (stk.map zbq) = some (stk.map kvS)
 | [] => rfl
 | p :: r => by
   have ih := zjE r
   rw [List.map_cons, zlm, ih]
   rfl
theorem zjS {stk : List (Str × Int)} {st : Sto} (hl : stk.length ≤ 1000) : zmO [.tup (stk.map zbq)] st = some (.ref st.length, st ++ [.dk (stD stk)]) := by
 have fk : fits (stk.map kvS).length = true := zax (by rw [List.length_map]; omega)
 have e1 : znm [.tup (stk.map zbq)] st = none := rfl
 unfold zmO orN
 rw [e1, zgN]
 unfold znl
 simp only [zjE, Option.bind_some, fk, if_true]
 rfl
theorem zpo {d : Nat} {kvs : List (Key × D)} {a : Str} {v : D} {st : Sto} (h : st[d]? = some (.dk kvs)) (hv : valD kvs (.inr a) = some v) : ixA (.ref d) (.str a) st = some (v, st) := by
 have e1 : idxD (.ref d) (.str a) st = none := by simp [idxD, zbj, h]
 unfold ixA orG
 rw [e1, zgN]
 simp [zoQ, look, h, keyOf, hv]
theorem zjO : ∀ ns : List Int, zmA (ns.map D.int) = some ns
 | [] => rfl
 | n :: r => by
   have ih := zjO r
   rw [List.map_cons, zmA, ih]
   rfl
theorem zlE {ns : List Int} {l : Nat} {st : Sto} (hl : st[l]? = some (.lst (ns.map D.int))) (h : ∀ n ∈ ns, 0 ≤ n∧n ≤ 100) (hn : ns.length ≤ 100) : sumC [.ref l] st = some (.int ns.sum, st) := by
 have h1 : (ns.all zeB && decide (ns.length ≤ 100000)) = true := by
   rw [Bool.and_eq_true]
   refine ⟨List.all_eq_true.mpr fun n hn => ?_, decide_eq_true (by omega)⟩
   have := h n hn
   unfold zeB
   simp
   omega
 unfold sumC
 simp only [zbj, hl, Option.bind_some, zjO, h1, if_true]
theorem znn {a b : Str} {K : Option D} {s : Sto} (ha : PyData.strOk a = true) (hb : PyData.strOk b = true) : zaA [some (.str a), some (.str b), K] s = some (a == b && a != "", s) := by
 have e1 := eq_str (st := s) ha hb
 have e2 := ne_str (st := s) ha zes
 unfold zaA
 cases h : a == b with
 | true => simp [rho, EVs, ltD, leD, gtD, geD, cmpD, intC, rho0, e1, e2, h]
 | false => simp [rho, EVs, ltD, leD, gtD, geD, cmpD, intC, rho0, e1, e2, h]
theorem znw {a b : Str} {d : Nat} {v : D} {s : Sto} (h : ixA (.ref d) (.str a) s = some (v, s)) : zaB [some (.str a), some (.str b), some (.ref d)] s = some (v, s) := by
 unfold zaB
 simp [rho, EVs, ltD, leD, gtD, geD, cmpD, intC, rho0, h]
def togs (S N : List Str) : List (Str × Str) := (S.zip N).filter fun p => p.1 == p.2 && p.1 != ""
theorem zgq {stk : List (Str × Int)} {S N : List Str} {d l : Nat} {st : Sto} (hstk : ∀ p ∈ stk, 1 ≤ p.2∧p.2 ≤ 4) (hS : S.length ≤ 4) (oS : ∀ x ∈ S, NmOk x∧(x = "" ∨ x ∈ stk.map (·.1))) (oN : ∀ x ∈ N, PyData.strOk x = true) (hd : st[d]? = some (.dk (stD stk))) (hl : st[l]? = some (.lst (N.map D.str))) :
   ∃ st', zaz [.ref d, .tup (S.map D.str), .ref l] st = some (.int ((togs S N).map fun p => sv stk p.1).sum, st')∧Gr st st' := by
 have hz : pairD (S.map D.str) (N.map D.str) = (S.zip N).map fun p => D.tup [.str p.1, .str p.2] := by
   unfold pairD
   rw [List.zip_map, List.map_map]
   rfl
 have hmem : ∀ p ∈ S.zip N, p.1 ∈ S∧p.2 ∈ N := fun p hp => by
   obtain ⟨a, b⟩ := p
   exact List.of_mem_zip hp
 have hw : walked ⟨(S.zip N).map fun p => D.tup [.str p.1, .str p.2], [(l, N.map D.str)]⟩ st = true := zb5 hl
 have ec : mCI ⟨(S.zip N).map fun p => D.tup [.str p.1, .str p.2], [(l, N.map D.str)]⟩ (gTp 2 (gC (gNm 0) (gC (gNm 1) (gN0)))) zaA zaB ((S.zip N).map fun p => D.tup [.str p.1, .str p.2]) [none, none, some (.ref d)] st = some ((togs S N).map fun p => D.int (sv stk p.1), st) := by
   refine zgi (R := fun ρ => ∃ x y, ρ = [x, y, some (.ref d)]) ⟨none, none, rfl⟩ hw fun p hp ρ hρ => ?_
   obtain ⟨x, y, rfl⟩ := hρ
   obtain ⟨h1, h2⟩ := hmem p hp
   refine ⟨[some (.str p.1), some (.str p.2), some (.ref d)], rfl, znn (zjs (oS _ h1).1.ab) (oN _ h2), fun hc => ?_, _, _, rfl⟩
   have hne : p.1 ≠ "" := by
     rw [Bool.and_eq_true] at hc
     simpa using hc.2
   have hin : p.1 ∈ stk.map (·.1) := by
     rcases (oS _ h1).2 with h | h
     · exact absurd h hne
     · exact h
   exact znw (zpo hd (zna hstk hin).1)
 have hm : ((togs S N).map fun p => D.int (sv stk p.1)) = ((togs S N).map fun p => sv stk p.1).map D.int := by rw [List.map_map]; rfl
 rw [hm] at ec
 have hlen : (togs S N).length ≤ 4 := by
   refine Nat.le_trans (List.length_filter_le _ _) ?_
   rw [List.length_zip]
   omega
 have hall : ∀ n ∈ (togs S N).map (fun p => sv stk p.1), 0 ≤ n∧n ≤ 100 := fun n hn => by
   obtain ⟨p, hp, rfl⟩ := List.mem_map.mp hn
   obtain ⟨hp1, hc⟩ := List.mem_filter.mp hp
   obtain ⟨h1, h2⟩ := hmem p hp1
   have hne : p.1 ≠ "" := by
     rw [Bool.and_eq_true] at hc
     simpa using hc.2
   have hin : p.1 ∈ stk.map (·.1) := by
     rcases (oS _ h1).2 with h | h
     · exact absurd h hne
     · exact h
   have := zna hstk hin
   omega
 have es := zlE (zaY st (.lst (((togs S N).map fun p => sv stk p.1).map D.int))) hall (by rw [List.length_map]; omega)
 have fl : fits (((togs S N).map fun p => sv stk p.1).map D.int).length = true := zax (by rw [List.length_map, List.length_map]; omega)
 generalize ((togs S N).map fun p => sv stk p.1).sum = R at *
 generalize ((togs S N).map fun p => sv stk p.1).map D.int = A at *
 refine ⟨st ++ [.lst A], zcU ?_, Gr.app _ _⟩
 rw [← hz] at ec
 generalize S.map D.str = SS at *
 generalize hNN : N.map D.str = NN at *
 unfold zbO
 have ecm : zcQ (mZip (mVar 1) (mVar 2)) 2 [0] (gTp 2 (gC (gNm 0) (gC (gNm 1) (gN0)))) (zaA) (zaB) [some (.ref d), some (.tup SS), some (.ref l)] st = some (.ref st.length, st ++ [.lst A]) := by
   have : mZip (mVar 1) (mVar 2) [some (.ref d), some (.tup SS), some (.ref l)] st = some (⟨pairD SS NN, [(l, NN)]⟩, st) := by
     rw [zmY]
     simp [zjp, zipW, seqD, zbj, hl]
   rw [zaO, this]
   simp only [Option.bind_some]
   rw [show rho0 [some (.ref d), some (.tup SS), some (.ref l)] 2 [0] = [none, none, some (.ref d)] from rfl, ec]
   simp only [Option.bind_some, fl, if_true]
 simp [rho, EVs, ltD, leD, gtD, geD, cmpD, intC, rho0, ecm, es]
end L2.MP.Hd
namespace L2.MP.Hd
open PySem L2.MP
open L2.MP.Hn (zat)
theorem zjt {x y J a b : Int} {s : Sto} (h0 : 0 ≤ J) (h : [D.tup [.int x, .int (y + 1)], .tup [.int (x + 1), .int y], .tup [.int x, .int (y - 1)], .tup [.int (x - 1), .int y]][J.toNat]? = some (.tup [.int a, .int b])) : ∃ s', zaG [.tup [.int x, .int y], .int J] s = some (.tup [.int a, .int b], s')∧Gr s s' := by
 have ex := zcr (zaY s (.lst [.tup [.int x, .int (y + 1)], .tup [.int (x + 1), .int y], .tup [.int x, .int (y - 1)], .tup [.int (x - 1), .int y]])) h0 h
 refine ⟨s ++ [.lst [.tup [.int x, .int (y + 1)], .tup [.int (x + 1), .int y], .tup [.int x, .int (y - 1)], .tup [.int (x - 1), .int y]]], zcU ?_, Gr.app _ _⟩
 unfold zdy
 refine zap (ρ1 := [some (.tup [.int x, .int y]), some (.int J), some (.int x), some (.int y)]) (s1 := s) (by simp [rho, EVs, ltD, leD, gtD, geD, cmpD, intC, rho0]) ?_
 simp [rho, EVs, ltD, leD, gtD, geD, cmpD, intC, rho0, ex]
theorem zoJ {d : Nat} {kvs : List (List Key × D)} {a b : Int} {mk : ME} {ρ : Rho} {s s1 : Sto} {md : ME} (hm : md ρ s = some (.ref d, s)) (h : s[d]? = some (.dt kvs)) (hk : mk ρ s = some (.tup [.int a, .int b], s1)) (h1 : s1[d]? = some (.dt kvs)) : zkJ md mk ρ s = some ((valD kvs [.inl a, .inl b]).getD .non, s1) := by
 have e1 : zi8 s d = true := by unfold zi8; rw [h]
 have e2 : znk s1 d (.tup [.int a, .int b]) = some (valD kvs [.inl a, .inl b]) := by
   unfold znk
   have : look s1 d (.tup [.int a, .int b]) = some (valD kvs [.inl a, .inl b]) := by
     unfold look
     simp only [h1]
     rfl
   rw [this, zfs]
 unfold zkJ
 rw [hm]
 simp only [Option.bind_some, e1, if_true]
 rw [hk]
 simp only [Option.bind_some, e2, Option.map_some]
section
variable {bed KK pl kd mineD : D} {d l n : Nat} {k J I : Int} {s s1 : Sto} {a7 a8 : Option D} {L : List D} {mine : Str}
theorem zmn (hg : zkJ (mVar 1) (zau zaG (zae (mVar 2) (zae (mVar 6) (mNil)))) [some bed, some (.ref d), some pl, some (.int k), some KK, some (.ref l), some (.int J), a7, a8] s = some (.non, s1))
   (hk : ixA KK (.int k) s1 = some (kd, s1)) (hm : ixA kd (.int (J + 1)) s1 = some (.str mine, s1)) :
   zaL [some bed, some (.ref d), some pl, some (.int k), some KK, some (.ref l), some (.int J), a7, a8] s = some (.nx [some bed, some (.ref d), some pl, some (.int k), some KK, some (.ref l), some (.int J), some .non, some (.str mine)], s1) := by
 unfold zaL
 refine zap (ρ1 := [some bed, some (.ref d), some pl, some (.int k), some KK, some (.ref l), some (.int J), some .non, a8]) (s1 := s1) (by rw [zex, hg]; rfl) ?_
 refine zap (ρ1 := [some bed, some (.ref d), some pl, some (.int k), some KK, some (.ref l), some (.int J), some .non, some (.str mine)]) (s1 := s1) (by simp [rho, EVs, ltD, leD, gtD, geD, cmpD, intC, rho0, hk, hm]) ?_
 simp [rho, EVs, ltD, leD, gtD, geD, cmpD, intC, rho0, zln, zlu]
theorem zlH {o : Int} {od : D} {os : Str} (hg : zkJ (mVar 1) (zau zaG (zae (mVar 2) (zae (mVar 6) (mNil)))) [some bed, some (.ref d), some pl, some (.int k), some KK, some (.ref l), some (.int J), a7, a8] s = some (.int o, s1))
   (hk : ixA KK (.int k) s1 = some (kd, s1)) (hm : ixA kd (.int (J + 1)) s1 = some (.str mine, s1)) (sm : PyData.strOk mine = true) (so : PyData.strOk os = true) (hI : modD (.int (J + 2)) (.int 4) s1 = some (.int I, s1)) (ho : ixA KK (.int o) s1 = some (od, s1)) (hos : ixA od (.int (I + 1)) s1 = some (.str os, s1)) (hl : s1[l]? = some (.lst L)) (hL : L.length ≤ 10) :
   zaL [some bed, some (.ref d), some pl, some (.int k), some KK, some (.ref l), some (.int J), a7, a8] s = some (.nx [some bed, some (.ref d), some pl, some (.int k), some KK, some (.ref l), some (.int J), some (.int o), some (.str mine)], if (mine != "" && os == mine) = true then s1.set l (.lst (L ++ [.int J])) else s1) := by
 have e1 := ne_str (st := s1) sm zes
 have e2 := eq_str (st := s1) so sm
 have ea := append_at (x := .int J) hl (by omega)
 unfold zaL
 refine zap (ρ1 := [some bed, some (.ref d), some pl, some (.int k), some KK, some (.ref l), some (.int J), some (.int o), a8]) (s1 := s1) (by rw [zex, hg]; rfl) ?_
 refine zap (ρ1 := [some bed, some (.ref d), some pl, some (.int k), some KK, some (.ref l), some (.int J), some (.int o), some (.str mine)]) (s1 := s1) (by simp [rho, EVs, ltD, leD, gtD, geD, cmpD, intC, rho0, hk, hm]) ?_
 cases h1 : mine != "" with
 | false => simp [rho, EVs, ltD, leD, gtD, geD, cmpD, intC, rho0, zln, zlu, e1, h1]
 | true =>
   cases h2 : os == mine with
   | false => simp [rho, EVs, ltD, leD, gtD, geD, cmpD, intC, rho0, zln, zlu, e1, h1, hI, ho, hos, e2, h2]
   | true => simp [rho, EVs, ltD, leD, gtD, geD, cmpD, intC, rho0, zln, zlu, e1, h1, hI, ho, hos, e2, h2, zbj, hl, ea]
end
theorem zer {bed : D} {ss : List Str} {ks : List (List Str)} {P : List Tl} {d l : Nat} {x y k J I a b : Int} {i j : Nat} {s : Sto} {L : List D} {a7 a8 : Option D} (h : KsOk ss ks) (hP : ∀ t ∈ P, 0 ≤ t.2.2∧t.2.2 < (ks.length : Int)) (k0 : 0 ≤ k) (k1 : k < (ks.length : Int)) (hd : s[d]? = some (.dt (P.map kvOf))) (hl : s[l]? = some (.lst L)) (hL : L.length ≤ 10)
   (hJ : J = (i : Int)) (hi : i < 4) (hI : (J + 2) % 4 = I) (hj : I = (j : Int)) (hj4 : j < 4) (hp : [D.tup [.int x, .int (y + 1)], .tup [.int (x + 1), .int y], .tup [.int x, .int (y - 1)], .tup [.int (x - 1), .int y]][J.toNat]? = some (.tup [.int a, .int b])) :
   ∃ (b7 b8 : Option D) (s' : Sto), zaL [some bed, some (.ref d), some (.tup [.int x, .int y]), some (.int k), some (.tup (ks.map zbv)), some (.ref l), some (.int J), a7, a8] s = some (.nx [some bed, some (.ref d), some (.tup [.int x, .int y]), some (.int k), some (.tup (ks.map zbv)), some (.ref l), some (.int J), b7, b8], s') ∧
     s'[l]? = some (.lst (if ((sds ks k).getD i "" != "" && (sds ks k).getD i "" == nmF ks P (a, b) j) = true then L ++ [.int J] else L))∧Fr l s s' := by
 obtain ⟨s1, e1, g1⟩ := zjt (x := x) (y := y) (s := s) (by omega) hp
 have hd1 := (g1.old _ (getElem?_lt hd)).trans hd
 have hl1 := (g1.old _ (getElem?_lt hl)).trans hl
 have eg := zoJ (a := a) (b := b) (s1 := s1) (md := mVar 1) (mk := zau zaG (zae (mVar 2) (zae (mVar 6) (mNil)))) (ρ := [some bed, some (.ref d), some (.tup [.int x, .int y]), some (.int k), some (.tup (ks.map zbv)), some (.ref l), some (.int J), a7, a8]) rfl hd (by simp [rho, EVs, ltD, leD, gtD, geD, cmpD, intC, rho0, e1]) hd1
 have hv := zdH a b P
 obtain ⟨f, x0, x1, x2, x3, e, es, hok⟩ := zc1 h k0 k1
 have ek : ixA (.tup (ks.map zbv)) (.int k) s1 = some (zbv [f, x0, x1, x2, x3], s1) := za2 k0 (by rw [List.getElem?_map, e]; rfl)
 have em : ixA (zbv [f, x0, x1, x2, x3]) (.int (J + 1)) s1 = some (.str ((sds ks k).getD i ""), s1) := by
   refine za2 (by omega) ?_
   rw [es]
   have : (J + 1).toNat = i + 1 := by omega
   rw [this]
   match i, hi with
   | 0, _ => rfl
   | 1, _ => rfl
   | 2, _ => rfl
   | 3, _ => rfl
 have sm : NmOk ((sds ks k).getD i "") := by
   rw [es, List.getD_eq_getElem?_getD]
   cases hg : [x0, x1, x2, x3][i]? with
   | none => exact zcO
   | some u => exact (hok u (List.mem_of_getElem? hg)).1
 generalize (sds ks k).getD i "" = mine at em sm ⊢
 cases hf : fnd P a b with
 | none =>
   have en : nmF ks P (a, b) j = "" := by unfold nmF; rw [hf]
   rw [hf] at hv
   rw [hv] at eg
   refine ⟨_, _, s1, zmn eg ek em, ?_, g1.fr l⟩
   rw [en]
   have : (mine != "" && mine == "") = false := by
     cases h : mine == "" <;> simp [bne, h]
   rw [this]
   exact hl1
 | some o =>
   have en : nmF ks P (a, b) j = (sds ks o).getD j "" := by unfold nmF; rw [hf]
   rw [hf] at hv
   rw [hv] at eg
   obtain ⟨t, ht, rfl⟩ := zhU hf
   obtain ⟨o0, o1⟩ := hP t ht
   obtain ⟨f', z0, z1, z2, z3, e', es', hok'⟩ := zc1 h o0 o1
   have eo : ixA (.tup (ks.map zbv)) (.int t.2.2) s1 = some (zbv [f', z0, z1, z2, z3], s1) := za2 o0 (by rw [List.getElem?_map, e']; rfl)
   have eos : ixA (zbv [f', z0, z1, z2, z3]) (.int (I + 1)) s1 = some (.str ((sds ks t.2.2).getD j ""), s1) := by
     refine za2 (by omega) ?_
     rw [es']
     have : (I + 1).toNat = j + 1 := by omega
     rw [this]
     match j, hj4 with
     | 0, _ => rfl
     | 1, _ => rfl
     | 2, _ => rfl
     | 3, _ => rfl
   have so : NmOk ((sds ks t.2.2).getD j "") := by
     rw [es', List.getD_eq_getElem?_getD]
     cases hg : [z0, z1, z2, z3][j]? with
     | none => exact zcO
     | some u => exact (hok' u (List.mem_of_getElem? hg)).1
   rw [en]
   generalize (sds ks t.2.2).getD j "" = os at eos so ⊢
   have eg : zkJ (mVar 1) (zau zaG (zae (mVar 2) (zae (mVar 6) (mNil)))) [some bed, some (.ref d), some (.tup [.int x, .int y]), some (.int k), some (.tup (ks.map zbv)), some (.ref l), some (.int J), a7, a8] s = some (.int t.2.2, s1) := eg
   have rd := zlH eg ek em (zjs sm.ab) (zjs so.ab) (by rw [zgO (by decide), hI]) eo eos hl1 hL
   have hsym : (mine != "" && os == mine) = (mine != "" && mine == os) := by
     have : (os == mine) = (mine == os) := by
       by_cases hq : os = mine
       · subst hq; rfl
       · rw [beq_false_of_ne hq, beq_false_of_ne fun z => hq z.symm]
     rw [this]
   rw [hsym] at rd
   refine ⟨_, _, _, rd, ?_, ?_⟩
   · by_cases hc : (mine != "" && mine == os) = true
     · rw [if_pos hc, if_pos hc, List.getElem?_set_self (getElem?_lt hl1)]
     · rw [if_neg hc, if_neg hc]; exact hl1
   · by_cases hc : (mine != "" && mine == os) = true
     · rw [if_pos hc]; exact (g1.fr l).trans (Fr.set _ _ _)
     · rw [if_neg hc]; exact g1.fr l
def fl (p : Nat→Bool) (k : Nat) : List D := ((List.range k).filter p).map fun (i : Nat) => D.int (i : Int)
theorem zdR (p : Nat→Bool) (k : Nat) : fl p (k + 1) = if p k = true then fl p k ++ [.int (k : Int)] else fl p k := by
 unfold fl
 rw [List.range_succ, List.filter_append, List.map_append]
 by_cases h : p k = true
 · rw [if_pos h]; simp [h]
 · rw [if_neg h]; simp [h]
theorem zfC {bed : D} {stk : List (Str × Int)} {ss : List Str} {ks : List (List Str)} {P : List Tl} {d : Nat} {x y k : Int} {st : Sto} (hb : BedAt bed stk ks) (h : KsOk ss ks) (hP : ∀ t ∈ P, 0 ≤ t.2.2∧t.2.2 < (ks.length : Int)) (k0 : 0 ≤ k) (k1 : k < (ks.length : Int)) (hd : st[d]? = some (.dt (P.map kvOf))) :
   ∃ st', zbK [bed, .ref d, .tup [.int x, .int y], .int k] st = some (.ref st.length, st')∧st'[st.length]? = some (.lst ((alike (sds ks k) (names4 ks P x y)).map fun (i : Nat) => D.int (i : Int)))∧Gr st st' := by
 obtain ⟨hs, i0, _, i2⟩ := hb.h
 have hdl := getElem?_lt hd
 have key := zbs (W := ⟨run 0 4, []⟩) (g := gNm 6) (m := zaL) (ds := [D.int 0, .int 1, .int 2, .int 3]) (ρ := [some bed, some (.ref d), some (.tup [.int x, .int y]), some (.int k), some (.tup (ks.map zbv)), some (.ref st.length), none, none, none]) (st := st ++ [.lst []])
   (Inv := fun i ρ s => (∃ a b c, ρ = [some bed, some (.ref d), some (.tup [.int x, .int y]), some (.int k), some (.tup (ks.map zbv)), some (.ref st.length), a, b, c])∧s[st.length]? = some (.lst (fl (okJ (sds ks k) (names4 ks P x y)) i))∧Gr st s)
   ⟨⟨_, _, _, rfl⟩, zaY _ _, Gr.app _ _⟩ (fun _ _ _ _ _ => rfl) (fun i dd ρ s hdd hI => by
     obtain ⟨⟨u, v, w, rfl⟩, hat, hg⟩ := hI
     have hd' := (hg.old _ hdl).trans hd
     have hL : (fl (okJ (sds ks k) (names4 ks P x y)) i).length ≤ 10 := by
       have h1 : (fl (okJ (sds ks k) (names4 ks P x y)) i).length ≤ i := by
         unfold fl
         rw [List.length_map]
         exact Nat.le_trans (List.length_filter_le _ _) (by simp)
       have := getElem?_lt hdd
       simp at this
       omega
     have fin : ∀ s' : Sto, Fr st.length s s'→Gr st s' := fun s' f => ⟨Nat.le_trans hg.len f.len, fun j hj => (f.old j (Nat.lt_of_lt_of_le hj hg.len) (by omega)).trans (hg.old j hj)⟩
     match i, hdd with
     | 0, hdd =>
       cases hdd
       obtain ⟨b7, b8, s', e, hat', f⟩ := zer (bed := bed) (I := 2) (i := 0) (j := 2) (a := x) (b := y + 1) (x := x) (y := y) (a7 := v) (a8 := w) h hP k0 k1 hd' hat hL rfl (by decide) (by decide) rfl (by decide) rfl
       exact ⟨_, s, _, s', rfl, e, ⟨_, _, _, rfl⟩, by rw [zdR]; exact hat', fin s' f⟩
     | 1, hdd =>
       cases hdd
       obtain ⟨b7, b8, s', e, hat', f⟩ := zer (bed := bed) (I := 3) (i := 1) (j := 3) (a := x + 1) (b := y) (x := x) (y := y) (a7 := v) (a8 := w) h hP k0 k1 hd' hat hL rfl (by decide) (by decide) rfl (by decide) rfl
       exact ⟨_, s, _, s', rfl, e, ⟨_, _, _, rfl⟩, by rw [zdR]; exact hat', fin s' f⟩
     | 2, hdd =>
       cases hdd
       obtain ⟨b7, b8, s', e, hat', f⟩ := zer (bed := bed) (I := 0) (i := 2) (j := 0) (a := x) (b := y - 1) (x := x) (y := y) (a7 := v) (a8 := w) h hP k0 k1 hd' hat hL rfl (by decide) (by decide) rfl (by decide) rfl
       exact ⟨_, s, _, s', rfl, e, ⟨_, _, _, rfl⟩, by rw [zdR]; exact hat', fin s' f⟩
     | 3, hdd =>
       cases hdd
       obtain ⟨b7, b8, s', e, hat', f⟩ := zer (bed := bed) (I := 1) (i := 3) (j := 1) (a := x - 1) (b := y) (x := x) (y := y) (a7 := v) (a8 := w) h hP k0 k1 hd' hat hL rfl (by decide) (by decide) rfl (by decide) rfl
       exact ⟨_, s, _, s', rfl, e, ⟨_, _, _, rfl⟩, by rw [zdR]; exact hat', fin s' f⟩
     | i + 4, hdd => exact absurd hdd (by simp))
 obtain ⟨ρ', s', el, ⟨u, v, w, rfl⟩, hat, hg⟩ := key
 refine ⟨s', zcU ?_, hat, hg⟩
 have i0' := i0 st
 have i2' := i2 st
 generalize ks.map zbv = KK at *
 unfold zc6
 refine zap (ρ1 := [some bed, some (.ref d), some (.tup [.int x, .int y]), some (.int k), some (.tup KK), some (.ref st.length), none, none, none]) (s1 := st ++ [.lst []]) (by simp [rho, EVs, ltD, leD, gtD, geD, cmpD, intC, rho0, i0', i2']) ?_
 refine zap (ρ1 := [some bed, some (.ref d), some (.tup [.int x, .int y]), some (.int k), some (.tup KK), some (.ref st.length), u, v, w]) (s1 := s') (by
   rw [zcj, ziJ (k := 4) rfl (by decide)]
   exact el) ?_
 simp [rho, EVs, ltD, leD, gtD, geD, cmpD, intC, rho0]
theorem zqu {bed hs kd : D} {KK : D} {e : Nat} {k J : Int} {mine : Str} {v : D} {s : Sto} (i0 : ixA bed (.int 0) s = some (hs, s)) (i2 : ixA hs (.int 2) s = some (KK, s)) (ik : ixA KK (.int k) s = some (kd, s)) (ij : ixA kd (.int (J + 1)) s = some (.str mine, s)) (iv : ixA (.ref e) (.str mine) s = some (v, s)) : zbE [some (.int J), some (.ref e), some bed, some (.int k)] s = some (v, s) := by
 unfold zbE
 simp [rho, EVs, ltD, leD, gtD, geD, cmpD, intC, rho0, i0, i2, ik, ij, iv]
theorem eq_nil {l m : Nat} {js : List Nat} {st : Sto} (hl : st[l]? = some (.lst (js.map fun (i : Nat) => D.int (i : Int)))) (hm : st[m]? = some (.lst [])) : eqD (.ref l) (.ref m) st = some (.bl js.isEmpty, st) := by
 have e : (js.map fun (i : Nat) => D.int (i : Int)) = (js.map fun (i : Nat) => (i : Int)).map D.int := by rw [List.map_map]; rfl
 rw [e] at hl
 unfold eqD
 rw [zdX (n := 98) hl, zdX (n := 98) (as := []) hm]
 cases js <;> rfl
theorem zi1 {bed : D} {stk : List (Str × Int)} {ks : List (List Str)} {P : List Tl} {d : Nat} {x y k : Int} {st : Sto} (hb : BedAt bed stk ks) (h : KsOk (stk.map (·.1)) ks) (hstk : ∀ p ∈ stk, 1 ≤ p.2∧p.2 ≤ 4) (hsl : stk.length ≤ 1000) (hP : ∀ t ∈ P, 0 ≤ t.2.2∧t.2.2 < (ks.length : Int)) (k0 : 0 ≤ k) (k1 : k < (ks.length : Int)) (hd : st[d]? = some (.dt (P.map kvOf))) :
   ∃ st', zbV [bed, .ref d, .tup [.int x, .int y], .int k] st = some (.int ((alike (sds ks k) (names4 ks P x y)).map fun i => sv stk ((sds ks k).getD i "")).sum, st')∧Gr st st' := by
 obtain ⟨s1, e1, a1, g1⟩ := zfC (x := x) (y := y) hb h hP k0 k1 hd
 obtain ⟨hs, i0, i1, i2⟩ := id hb.h
 have hmem : ∀ i ∈ alike (sds ks k) (names4 ks P x y), i < 4∧(sds ks k).getD i "" ≠ "" := fun i hi => by
   obtain ⟨h1, h2⟩ := List.mem_filter.mp hi
   unfold okJ at h2
   rw [Bool.and_eq_true] at h2
   exact ⟨List.mem_range.mp h1, by simpa using h2.1⟩
 have hle : (alike (sds ks k) (names4 ks P x y)).length ≤ 4 := by
   have := List.length_filter_le (okJ (sds ks k) (names4 ks P x y)) (List.range 4)
   rw [List.length_range] at this
   exact this
 obtain ⟨f, x0, x1, x2, x3, e, es, hok⟩ := zc1 h k0 k1
 generalize alike (sds ks k) (names4 ks P x y) = js at *
 have a2 : (s1 ++ [O.lst []])[st.length]? = some (.lst (js.map fun (i : Nat) => D.int (i : Int))) := by rw [List.getElem?_append_left (getElem?_lt a1)]; exact a1
 have en := eq_nil a2 (zaY s1 (.lst []))
 have g2 := Gr.app s1 [.lst []]
 generalize hs2 : s1 ++ [O.lst []] = s2 at *
 by_cases hj : js = []
 · subst hj
   refine ⟨s2, zcU ?_, g1.trans g2⟩
   unfold zdB
   refine zap (ρ1 := [some bed, some (.ref d), some (.tup [.int x, .int y]), some (.int k), some (.ref st.length), none]) (s1 := s1) (by simp [rho, EVs, ltD, leD, gtD, geD, cmpD, intC, rho0, e1]) (zg9 ?_)
   simp [rho, EVs, ltD, leD, gtD, geD, cmpD, intC, rho0, hs2, en]
 · have hne : js.isEmpty = false := by cases js with
     | nil => exact absurd rfl hj
     | cons a b => rfl
   rw [hne] at en
   have ed := zjS (stk := stk) (st := s2) hsl
   have a3 := zaY s2 (.dk (stD stk))
   have a2' : (s2 ++ [O.dk (stD stk)])[st.length]? = some (.lst (js.map fun (i : Nat) => D.int (i : Int))) := by rw [List.getElem?_append_left (getElem?_lt a2)]; exact a2
   have g3 := Gr.app s2 [.dk (stD stk)]
   generalize hs3 : s2 ++ [O.dk (stD stk)] = s3 at *
   have side : ∀ i ∈ js, (sds ks k).getD i "" ∈ stk.map (·.1) := fun i hi => by
     obtain ⟨h1, h2⟩ := hmem i hi
     rw [es] at h2 ⊢
     have hx : [x0, x1, x2, x3].getD i "" ∈ [x0, x1, x2, x3] := by
       rw [List.getD_eq_getElem?_getD]
       cases hg : [x0, x1, x2, x3][i]? with
       | none =>
         rw [List.getD_eq_getElem?_getD, hg] at h2
         exact absurd rfl h2
       | some u => exact List.mem_of_getElem? hg
     rcases (hok _ hx).2 with h3 | h3
     · exact absurd h3 h2
     · exact h3
   have ec : mCI ⟨js.map fun (i : Nat) => D.int (i : Int), [(st.length, js.map fun (i : Nat) => D.int (i : Int))]⟩ (gNm 0) zb4 zbE (js.map fun (i : Nat) => D.int (i : Int)) [none, some (.ref s2.length), some bed, some (.int k)] s3 = some (js.map fun i => D.int (sv stk ((sds ks k).getD i "")), s3) := by
     refine zgI (R := fun ρ => ∃ x, ρ = [x, some (.ref s2.length), some bed, some (.int k)]) ⟨none, rfl⟩ (zb5 a2') fun i hi ρ hρ => ?_
     obtain ⟨u, rfl⟩ := hρ
     have ek : ixA (.tup (ks.map zbv)) (.int k) s3 = some (zbv [f, x0, x1, x2, x3], s3) := za2 k0 (by rw [List.getElem?_map, e]; rfl)
     have ij : ixA (zbv [f, x0, x1, x2, x3]) (.int ((i : Int) + 1)) s3 = some (.str ((sds ks k).getD i ""), s3) := by
       refine za2 (by omega) ?_
       rw [es]
       have : ((i : Int) + 1).toNat = i + 1 := by omega
       rw [this]
       match i, (hmem i hi).1 with
       | 0, _ => rfl
       | 1, _ => rfl
       | 2, _ => rfl
       | 3, _ => rfl
     exact ⟨[some (.int (i : Int)), some (.ref s2.length), some bed, some (.int k)], rfl, rfl, zqu (i0 s3) (i2 s3) ek ij (zpo a3 (zna hstk (side i hi)).1), _, rfl⟩
   have hm : (js.map fun i => D.int (sv stk ((sds ks k).getD i ""))) = (js.map fun i => sv stk ((sds ks k).getD i "")).map D.int := by rw [List.map_map]; rfl
   rw [hm] at ec
   have hall : ∀ n ∈ js.map (fun i => sv stk ((sds ks k).getD i "")), 0 ≤ n∧n ≤ 100 := fun n hn => by
     obtain ⟨i, hi, rfl⟩ := List.mem_map.mp hn
     have := zna hstk (side i hi)
     omega
   have esm := zlE (zaY s3 (.lst ((js.map fun i => sv stk ((sds ks k).getD i "")).map D.int))) hall (by rw [List.length_map]; omega)
   have fl' : fits ((js.map fun i => sv stk ((sds ks k).getD i "")).map D.int).length = true := zax (by rw [List.length_map, List.length_map]; omega)
   generalize (js.map fun i => sv stk ((sds ks k).getD i "")).sum = R at *
   generalize (js.map fun i => sv stk ((sds ks k).getD i "")).map D.int = A at *
   refine ⟨s3 ++ [.lst A], zcU ?_, ((g1.trans g2).trans g3).trans (Gr.app _ _)⟩
   generalize (js.map fun (i : Nat) => D.int (i : Int)) = JJ at *
   unfold zdB
   refine zap (ρ1 := [some bed, some (.ref d), some (.tup [.int x, .int y]), some (.int k), some (.ref st.length), none]) (s1 := s1) (by simp [rho, EVs, ltD, leD, gtD, geD, cmpD, intC, rho0, e1]) ?_
   refine zap (ρ1 := [some bed, some (.ref d), some (.tup [.int x, .int y]), some (.int k), some (.ref st.length), none]) (s1 := s2) (by simp [rho, EVs, ltD, leD, gtD, geD, cmpD, intC, rho0, hs2, en]) ?_
   refine zap (ρ1 := [some bed, some (.ref d), some (.tup [.int x, .int y]), some (.int k), some (.ref st.length), some (.ref s2.length)]) (s1 := s3) (by simp [rho, EVs, ltD, leD, gtD, geD, cmpD, intC, rho0, i0, i1, ed]) ?_
   have ecm : zcQ (mWA (mVar 4)) 1 [5, 0, 3] (gNm 0) (zb4) (zbE) [some bed, some (.ref d), some (.tup [.int x, .int y]), some (.int k), some (.ref st.length), some (.ref s2.length)] s3 = some (.ref s3.length, s3 ++ [.lst A]) := by
     have : mWA (mVar 4) [some bed, some (.ref d), some (.tup [.int x, .int y]), some (.int k), some (.ref st.length), some (.ref s2.length)] s3 = some (⟨JJ, [(st.length, JJ)]⟩, s3) := by simp [rho, EVs, ltD, leD, gtD, geD, cmpD, intC, rho0, zin, zbj, a2']
     rw [zaO, this]
     simp only [Option.bind_some]
     rw [show rho0 [some bed, some (.ref d), some (.tup [.int x, .int y]), some (.int k), some (.ref st.length), some (.ref s2.length)] 1 [5, 0, 3] = [none, some (.ref s2.length), some bed, some (.int k)] from rfl, ec]
     simp only [Option.bind_some, fl', if_true]
   simp [rho, EVs, ltD, leD, gtD, geD, cmpD, intC, rho0, ecm, esm]
theorem zit {stk : List (Str × Int)} {S N : List Str} (hS : S.length = 4) (hN : N.length = 4) : ((togs S N).map fun p => sv stk p.1) = (alike S N).map fun i => sv stk (S.getD i "") := by
 match S, N, hS, hN with
 | [a, b, c, d], [a', b', c', d'], _, _ =>
   have e : List.range 4 = [0, 1, 2, 3] := rfl
   have f0 : okJ [a, b, c, d] [a', b', c', d'] 0 = (a == a' && a != "") := Bool.and_comm _ _
   have f1 : okJ [a, b, c, d] [a', b', c', d'] 1 = (b == b' && b != "") := Bool.and_comm _ _
   have f2 : okJ [a, b, c, d] [a', b', c', d'] 2 = (c == c' && c != "") := Bool.and_comm _ _
   have f3 : okJ [a, b, c, d] [a', b', c', d'] 3 = (d == d' && d != "") := Bool.and_comm _ _
   unfold togs alike
   rw [e]
   simp only [List.zip_cons_cons, List.zip_nil_left, List.filter_cons, List.filter_nil, f0, f1, f2, f3]
   cases (a == a' && a != "") <;> cases (b == b' && b != "") <;> cases (c == c' && c != "") <;> cases (d == d' && d != "") <;> rfl
end L2.MP.Hd
namespace L2.MP.Hd
open PySem L2.MP
open L2.MP.Hn (zat)
structure TameP (w : Nat) (p : PyData) : Prop where
 lay : p.canLay0 = true
 int : p.intsShort 13 = true
 shw : p.showable = true
 wt : p.weight ≤ w
def Tame (w k : Nat) (d : D) : Prop := ∃ p, (∀ (m : Nat) (st : Sto), toP (m + k) st d = some p)∧TameP w p
theorem zfe {i : Int} (h0 : 0 ≤ i) (h1 : i ≤ 100) : Tame 8 1 (.int i) := by
 refine ⟨.int i, fun m st => by rw [toP], by simp only [PyData.canLay0], ?_, ?_, ?_⟩
 · simp only [PyData.intsShort]
   exact decide_eq_true (PyData.shown_int_le (by omega))
 · simp only [PyData.showable]
   refine decide_eq_true ?_
   by_cases hz : i.natAbs = 0
   · rw [hz]; decide
   · exact Nat.lt_of_lt_of_le ((Nat.log2_lt hz).mpr (show i.natAbs < 2 ^ 7 by omega)) (by decide)
 · simp only [PyData.weight]
   split
   · exact Nat.zero_le _
   · rename_i hz
     have hz : i.natAbs ≠ 0 := by simp at hz; omega
     have := (Nat.log2_lt hz).mpr (show i.natAbs < 2 ^ 7 by omega)
     omega
theorem zgY {w k : Nat} : ∀ {ds : List D}, (∀ d ∈ ds, Tame w k d)→∃ ps : List PyData, (∀ (m : Nat) (st : Sto), toPs (toP (m + k) st) ds = some ps)∧PyData.canLayAll0 ps = true∧PyData.intsShortAll 13 ps = true∧PyData.showableAll ps = true∧PyData.weightAll ps ≤ (w + 1) * ds.length
 | [], _ => ⟨[], fun _ _ => rfl, by simp only [PyData.canLayAll0], by simp only [PyData.intsShortAll], by simp only [PyData.showableAll], by simp only [PyData.weightAll]; omega⟩
 | d :: ds, h => by
   obtain ⟨p, e, t⟩ := h d List.mem_cons_self
   obtain ⟨ps, e1, e2, e3, e4, e5⟩ := zgY (ds := ds) fun x hx => h x (List.mem_cons_of_mem _ hx)
   refine ⟨p :: ps, fun m st => ?_, ?_, ?_, ?_, ?_⟩
   · rw [toPs, e, Option.bind_some, e1]; rfl
   · simp only [PyData.canLayAll0, t.lay, e2]; rfl
   · simp only [PyData.intsShortAll, t.int, e3]; rfl
   · simp only [PyData.showableAll, t.shw, e4]; rfl
   · simp only [PyData.weightAll, List.length_cons]
     have := t.wt
     rw [Nat.mul_add]
     omega
theorem zgX {w k L : Nat} {ds : List D} (h : ∀ d ∈ ds, Tame w k d) (hl : ds.length ≤ L) : Tame ((w + 1) * L) (k + 1) (.tup ds) := by
 obtain ⟨ps, e1, e2, e3, e4, e5⟩ := zgY h
 refine ⟨.tuple ps, fun m st => ?_, by simp only [PyData.canLay0]; exact e2, by simp only [PyData.intsShort]; exact e3, by simp only [PyData.showable]; exact e4, ?_⟩
 · rw [show m + (k + 1) = (m + k) + 1 by omega, toP, e1]
   rfl
 · simp only [PyData.weight]
   exact Nat.le_trans e5 (Nat.mul_le_mul_left _ hl)
theorem zlV {w k : Nat} {d : D} (h : Tame w k d) (hw : w ≤ 1000000) (hk : k ≤ 100) : ∃ z : Str, ∀ st : Sto, zjA [d] st = some (.str z, st) := by
 obtain ⟨p, e, t⟩ := h
 refine ⟨p.shown, fun st => ?_⟩
 have e' := e (100 - k) st
 rw [show 100 - k + k = 100 by omega] at e'
 have hd : p.hasDict = false := PyData.hasDict_of_canLay p t.lay
 have hf : fits p.shown.length = true := by
   unfold fits
   refine decide_eq_true (PyData.shown_fits (B := 13) (by decide) (by decide) (PyData.leavesShort_of_canLay0 13 p t.lay t.int) (Nat.le_trans t.wt (Nat.le_trans hw (by decide))))
 unfold zjA
 simp only [e', Option.bind_some, t.shw, hd, hf]
 rfl
theorem zms {z : Str} {st : Sto} : neS (.str z) (.str z) st = some (.bl false, st) := by
 unfold neS
 simp
def plD (p : Int × Int) : D := .tup [.int p.1, .int p.2]
end L2.MP.Hd
namespace L2.MP.stickytiles_k11_growings
open PySem L2.MP L2.MP.Hd
def zaS : MS := mIf (mTst (mBin geD (zau zaz (zae (mVar 1) (zae (mSlB (mVar 7) (znc (mCon (.int 1))) (znd)) (zae (mVar 2) (mNil))))) (mBin ixA (mVar 4) (mCon (.int 0))))) (mExp (mApp (mVar 5) (zae (mTup (zae (mBin ixA (mVar 3) (mCon (.int 0))) (zae (mBin ixA (mVar 3) (mCon (.int 1))) (zae (mVar 6) (mNil))))) (mNil)))) (zdN)
def zce : MS := mSeq (mAsg (mBin ixA (mVar 0) (mCon (.int 0))) (gNm 4)) (mSeq (mAsg (mLst (mNil)) (gNm 5)) (mSeq (mIf (znj (mTst (zau anyT (zae (mVar 2) (mNil))))) (mRet (mVar 5)) (zdN)) (mSeq (mFor (zlp (mBin ixA (mVar 4) (mCon (.int 2)))) (gTp 2 (gC (gNm 6) (gC (gNm 7) (gN0)))) (zaS)) (mRet (mVar 5)))))
def zbp : GN := fnM 8 zce
def zbc : MS := mIf (mTst (mBin zeo (mTup (zae (mVar 6) (zae (mVar 7) (mNil)))) (mVar 4))) (mSeq (mAsg (zau zbf (zae (mVar 0) (zae (mVar 4) (zae (mTup (zae (mVar 6) (zae (mVar 7) (mNil)))) (mNil))))) (gNm 8)) (mExp (mExt (mVar 5) (zae (zau zbp (zae (mVar 0) (zae (mVar 3) (zae (mVar 8) (zae (mTup (zae (mVar 6) (zae (mVar 7) (mNil)))) (mNil)))))) (mNil))))) (zdN)
def zcu : MS := mFor (mR1 (mBin ixA (mVar 2) (mCon (.int 1)))) (gNm 7) (zbc)
def ze8 : MS := mSeq (mAsg (mBin ixA (mVar 0) (mCon (.int 1))) (gNm 2)) (mSeq (mAsg (zau zmO (zae (mBin ixA (mBin ixA (mVar 0) (mCon (.int 0))) (mCon (.int 1))) (mNil))) (gNm 3)) (mSeq (mAsg (zau zbg (zae (mVar 1) (mNil))) (gNm 4)) (mSeq (mAsg (mLst (mNil)) (gNm 5)) (mSeq (mFor (mR1 (mBin ixA (mVar 2) (mCon (.int 0)))) (gNm 6) (zcu)) (mRet (zau zdg (zae (mVar 5) (mNil))))))))
def zbD : GN := fnM 9 ze8
def zbb : ME := mVar 0
def zaK : MT := mTst (mBin inA (zau zaG (zae (mTup (zae (mVar 1) (zae (mVar 2) (mNil)))) (zae (mVar 0) (mNil)))) (mVar 3))
def za7 : MS := mSeq (mAsg (zcQ (mR1 (mCon (.int 4))) 1 [3, 4, 1] (gNm 0) (zaK) (zbb)) (gNm 5)) (mIf (zls (mTst (mBin zeo (mTup (zae (mVar 3) (zae (mVar 4) (mNil)))) (mVar 1))) (mTst (mBin neD (mVar 5) (mLst (mNil))))) (mExp (mApp (mVar 2) (zae (mTup (zae (mVar 3) (zae (mVar 4) (mNil)))) (mNil)))) (zdN))
def zbR : MS := mFor (mR1 (mBin ixA (mBin ixA (mVar 0) (mCon (.int 1))) (mCon (.int 1)))) (gNm 4) (za7)
def zc8 : MS := mSeq (mAsg (mLst (mNil)) (gNm 2)) (mSeq (mFor (mR1 (mBin ixA (mBin ixA (mVar 0) (mCon (.int 1))) (mCon (.int 0)))) (gNm 3) (zbR)) (mRet (mVar 2)))
def zbo : GN := fnM 6 zc8
def zbd : MS := mIf (mTst (mBin geD (zau zbV (zae (mVar 0) (zae (mVar 1) (zae (mVar 3) (zae (mVar 4) (mNil)))))) (mBin ixA (mBin ixA (mVar 0) (mCon (.int 0))) (mCon (.int 0))))) (mExp (mApp (mVar 2) (zae (mBin addD (mVar 3) (mTup (zae (mVar 4) (mNil)))) (mNil)))) (zdN)
def zbJ : MS := mFor (mR1 (zau lenD (zae (mBin ixA (mBin ixA (mVar 0) (mCon (.int 0))) (mCon (.int 2))) (mNil)))) (gNm 4) (zbd)
def zdW : MS := mSeq (mAsg (mLst (mNil)) (gNm 2)) (mSeq (mFor (mWA (zau zbo (zae (mVar 0) (zae (mVar 1) (mNil))))) (gNm 3) (zbJ)) (mRet (mVar 2)))
def zbU : GN := fnM 5 zdW
def zbe : MS := putA (mVar 2) (mTup (zae (mVar 3) (zae (mVar 4) (mNil)))) (zau zac (zae (mVar 0) (zae (zau lenD (zae (mBin ixA (mBin ixA (mVar 1) (mCon (.int 0))) (mCon (.int 2))) (mNil))) (mNil))))
def zbu : MS := mFor (mR1 (mBin ixA (mBin ixA (mVar 1) (mCon (.int 1))) (mCon (.int 1)))) (gNm 4) (zbe)
def zb1 : ME := mBin addD (mVar 0) (mTup (zae (mBin zjT (mVar 1) (mVar 0)) (mNil)))
def zdA : MS := mSeq (mAsg (zlr true) (gNm 2)) (mSeq (mFor (mR1 (mBin ixA (mBin ixA (mVar 1) (mCon (.int 1))) (mCon (.int 0)))) (gNm 3) (zbu)) (mSeq (mIf (mTst (mBin eqD (zau zac (zae (mVar 0) (zae (mCon (.int 2)) (mNil)))) (mCon (.int 0)))) (mExp (zmv (mVar 2) (mTup (zae (zau zac (zae (mVar 0) (zae (mBin ixA (mBin ixA (mVar 1) (mCon (.int 1))) (mCon (.int 0))) (mNil)))) (zae (zau zac (zae (mVar 0) (zae (mBin ixA (mBin ixA (mVar 1) (mCon (.int 1))) (mCon (.int 1))) (mNil)))) (mNil)))))) (zdN)) (mRet (zau zdg (zae (zau zfQ (zae (zcQ (mWK (mVar 2)) 1 [2] (gNm 0) (zb4) (zb1)) (mNil))) (mNil))))))
def zbC : GN := fnM 5 zdA
def ze7 : MS := mSeq (mAsg (zau zjA (zae (zau zdg (zae (zau zbU (zae (mVar 3) (zae (zau zbn (zae (mVar 5) (mNil))) (mNil)))) (mNil))) (mNil))) (gNm 6)) (mIf (mOrT (mTst (mBin neS (zau zjA (zae (zau zbD (zae (mVar 3) (zae (mVar 5) (mNil)))) (mNil))) (mVar 6))) (mTst (mBin neS (zau zjA (zae (zau zbD (zae (mVar 3) (zae (mVar 5) (mNil)))) (mNil))) (mVar 6)))) (mRet (mCon (.bl false))) (zdN))
def zgp : MS := mSeq (mAsg (zau zbN (zae (mVar 0) (zae (mVar 1) (mNil)))) (gNm 2)) (mSeq (mAsg (zau zch (zae (mVar 2) (mNil))) (gNm 3)) (mSeq (mAsg (mLst (zae (mBin ixA (mVar 3) (mCon (.int 2))) (zae (zau zas (zae (mVar 2) (zae (mBin ixA (mVar 3) (mCon (.int 0))) (zae (mBin ixA (mVar 3) (mCon (.int 1))) (zae (mCon (.int 9)) (mNil)))))) (zae (zau zas (zae (mVar 2) (zae (mBin ixA (mVar 3) (mCon (.int 0))) (zae (mBin ixA (mVar 3) (mCon (.int 1))) (zae (mCon (.int 3)) (mNil)))))) (mNil))))) (gNm 4)) (mSeq (mIf (mTst (mBin ltD (mBin mulA (mBin ixA (mBin ixA (mVar 3) (mCon (.int 1))) (mCon (.int 0))) (mBin ixA (mBin ixA (mVar 3) (mCon (.int 1))) (mCon (.int 1)))) (mCon (.int 30)))) (mExp (mApp (mVar 4) (zae (zau zbC (zae (mVar 2) (zae (mVar 3) (mNil)))) (mNil)))) (zdN)) (mFor (mWA (mVar 4)) (gNm 5) (ze7)))))
def zpt : MS := mSeq (mFor (mR1 (mBin addD (mCon (.int 1)) (zau zmu (zae (mCon (.int 3)) (zae (zau lenD (zae (mVar 0) (mNil))) (mNil)))))) (gNm 1) (zgp)) (mRet (mCon (.bl true)))
def zli : GN := fnM 7 zpt
end L2.MP.stickytiles_k11_growings
set_option maxHeartbeats 8000000
namespace L2.MP.stickytiles_k11_growings
open PySem L2 L2.MP L2.MP.Hd PySem.Spec PyProof.Rows
def top (i : Nat) : Stmt := PySem.Challenge.pw_stickytiles_k11_growings.main.body.getD i (.Pass ⟨0, 0, 0, 0⟩)
section
variable {P : Program} {w : World} {K : PySem.W.Frag} {mg : Str→Option Value} {base : Heap}
theorem nd_0 : (["place", "x", "y"] : List Str).Nodup := by decide +kernel
theorem nd_1 : (["bed", "kind", "kinds"] : List Str).Nodup := by decide +kernel
theorem nd_2 : (["standing", "kinds", "x", "y", "kind"] : List Str).Nodup := by decide +kernel
theorem nd_3 : (["bed", "standing_kinds", "place", "names", "side", "near"] : List Str).Nodup := by decide +kernel
theorem nd_4 : (["side", "name", "strengths"] : List Str).Nodup := by decide +kernel
theorem nd_5 : (["bed", "strengths", "names", "place", "house", "found", "number", "kind"] : List Str).Nodup := by decide +kernel
theorem nd_6 : (["bed", "standing", "floor", "strengths", "standing_kinds", "found", "x", "y", "names"] : List Str).Nodup := by decide +kernel
theorem nd_7 : (["_law_script", "_law_k", "_law_cell", "_law_far", "_law_own"] : List Str).Nodup := by decide +kernel
theorem nd_8 : (["_law_pot", "_law_many", "_law_digit", "_law_mixed"] : List Str).Nodup := by decide +kernel
theorem nd_9 : (["_law_pot", "_law_many", "_law_letters", "_law_first", "_law_step_here"] : List Str).Nodup := by decide +kernel
theorem zp7 : (["_law_k", "_law_letters", "_law_first"] : List Str).Nodup := by decide +kernel
theorem zp6 : (["_law_k", "_law_letters", "_law_first", "_law_step_here"] : List Str).Nodup := by decide +kernel
theorem zpl : (["_law_pot", "_law_names_here", "_law_face", "_law_sides_here"] : List Str).Nodup := by decide +kernel
theorem zp0 : (["_law_side", "_law_names_here", "_law_pot"] : List Str).Nodup := by decide +kernel
theorem znh : (["_law_pot", "_law_names_here", "_law_enough", "_law_sticks", "_law_kinds"] : List Str).Nodup := by decide +kernel
theorem zpZ : (["_law_name", "_law_pot"] : List Str).Nodup := by decide +kernel
theorem zpY : (["_law_k", "_law_pot", "_law_names_here"] : List Str).Nodup := by decide +kernel
theorem zos : (["_law_pot", "_law_house_here", "_law_floor", "_law_most", "_law_there", "_law_k", "_law_place"] : List Str).Nodup := by decide +kernel
theorem zpk : (["_law_place", "_law_there"] : List Str).Nodup := by decide +kernel
theorem zor : (["_law_pot", "_law_house_here", "_law_floor"] : List Str).Nodup := by decide +kernel
theorem zoq : (["_law_x", "_law_y", "_law_kind_here"] : List Str).Nodup := by decide +kernel
theorem zpj : (["_law_place", "_law_side", "_law_x", "_law_y"] : List Str).Nodup := by decide +kernel
theorem zng : (["_law_bed_here", "_law_there", "_law_place", "_law_kind_here", "_law_kinds", "_law_found", "_law_side", "_law_other", "_law_mine"] : List Str).Nodup := by decide +kernel
theorem zpi : (["_law_bed_here", "_law_there", "_law_place", "_law_kind_here", "_law_sides_here", "_law_strengths"] : List Str).Nodup := by decide +kernel
theorem zpX : (["_law_side", "_law_strengths", "_law_bed_here", "_law_kind_here"] : List Str).Nodup := by decide +kernel
theorem znf : (["_law_bed_here", "_law_there", "_law_found", "_law_x", "_law_y", "_law_beside"] : List Str).Nodup := by decide +kernel
theorem zpW : (["_law_side", "_law_x", "_law_y", "_law_there"] : List Str).Nodup := by decide +kernel
theorem zop : (["_law_bed_here", "_law_there", "_law_found", "_law_place", "_law_kind_here"] : List Str).Nodup := by decide +kernel
theorem zoo : (["_law_pot", "_law_bed_here", "_law_there", "_law_x", "_law_y"] : List Str).Nodup := by decide +kernel
theorem zlo : (["_law_script", "_law_k", "_law_pot", "_law_bed_here", "_law_some", "_law_standing_here", "_law_due"] : List Str).Nodup := by decide +kernel
theorem zdm : FnScope ["place", "x", "y"] ["place"] (zaj (top 1)) := ⟨rfl, rfl, rfl, by decide +kernel, rfl, by decide +kernel, by decide +kernel⟩
theorem zdq (L : Laid K mg "places_around" (top 1) ["place"]) : zbr P w K mg base 1 "places_around" 1 za8 :=
 zbQ (k := 0) L zdm fun f cdv A outer s H E hr => zai (zaP (i := 1) nd_0 rfl (by first | exact Or.inl rfl | exact Or.inr rfl) (zal (zaC hr) (zab 0) (zaf))) (zai (zaP (i := 2) nd_0 rfl (by first | exact Or.inl rfl | exact Or.inr rfl) (zal (zaC hr) (zab 0) (zaf))) (zan (zbh (za5 (zaa (za5 (zaa (zab 1) (zaa (zar zaE (zab 2) (zaf)) (zah)))) (zaa (za5 (zaa (zar zaE (zab 1) (zaf)) (zaa (zab 2) (zah)))) (zaa (za5 (zaa (zab 1) (zaa (zar zf2 (zab 2) (zaf)) (zah)))) (zaa (za5 (zaa (zar zf2 (zab 1) (zaf)) (zaa (zab 2) (zah)))) (zah)))))))))
theorem zgx : FnScope ["bed", "kind", "kinds"] ["bed", "kind"] (zaj (top 2)) := ⟨rfl, rfl, rfl, by decide +kernel, rfl, by decide +kernel, by decide +kernel⟩
theorem zgA (L : Laid K mg "sides_of" (top 2) ["bed", "kind"]) (b_len : mg "len" = none) : zbr P w K mg base 1 "sides_of" 2 zb8 :=
 zbQ (k := 0) L zgx fun f cdv A outer s H E hr => zai (zaP (i := 2) nd_1 rfl (by first | exact Or.inl rfl | exact Or.inr rfl) (zal (zaC hr) (zal (zaC hr) (zab 0) (zaf)) (zaf))) (zai (ze9 (zkd zoi zkz (zaf) (zab 1) (zaW zbI rfl b_len ze4 (zaa (zab 2) (zah)))) (zan (zbh (zfS (zal (zaC hr) (zab 2) (zab 1)) (zju (zaf)) (zjv)))) (zbx)) (zan (zbh (za5 (zaa (zdl) (zaa (zdl) (zaa (zdl) (zaa (zdl) (zah)))))))))
theorem zda : FnScope ["standing", "kinds", "x", "y", "kind"] ["standing"] (zaj (top 3)) := ⟨rfl, rfl, rfl, by decide +kernel, rfl, by decide +kernel, by decide +kernel⟩
theorem zdc (L : Laid K mg "kinds_by_place" (top 3) ["standing"]) : zbr P w K mg base 1 "kinds_by_place" 1 zbg :=
 zbQ (k := 0) L zda fun f cdv A outer s H E hr => zai (zaP (i := 1) nd_2 rfl (by first | exact Or.inl rfl | exact Or.inr rfl) (zfj)) (zai (zcm PassesOwn.never rfl (zcL (zab 0)) (zfi rfl (za4 (zav (i := 2) nd_2 rfl (by first | exact Or.inl rfl | exact Or.inr rfl)) (za4 (zav (i := 3) nd_2 rfl (by first | exact Or.inl rfl | exact Or.inr rfl)) (za4 (zav (i := 4) nd_2 rfl (by first | exact Or.inl rfl | exact Or.inr rfl)) (zdk))))) (zan (zg3 (zaC hr) (zab 1) (za5 (zaa (zab 2) (zaa (zab 3) (zah)))) (zab 4)))) (zan (zbh (zab 1))))
theorem zdD : FnScope ["bed", "standing_kinds", "place", "names", "side", "near"] ["bed", "standing_kinds", "place"] (zaj (top 4)) := ⟨rfl, rfl, rfl, by decide +kernel, rfl, by decide +kernel, by decide +kernel⟩
theorem zdE (L : Laid K mg "names_facing" (top 4) ["bed", "standing_kinds", "place"]) (b_enumerate : mg "enumerate" = none) (h_places_around : zbr P w K mg base 1 "places_around" 1 za8) (h_sides_of : zbr P w K mg base 1 "sides_of" 2 zb8) : zbr P w K mg base 2 "names_facing" 3 zbf :=
 zbQ (k := 1) L zdD fun f cdv A outer s H E hr => zai (zaP (i := 3) nd_3 rfl (by first | exact Or.inl rfl | exact Or.inr rfl) (zbX (zah))) (zai (zcm PassesOwn.never rfl (zjy rfl b_enumerate (zak h_places_around (hr.mono (by decide)) rfl (zaa (zab 2) (zah)) (zam.cons zam.nil))) (zfi rfl (za4 (zav (i := 4) nd_3 rfl (by first | exact Or.inl rfl | exact Or.inr rfl)) (za4 (zav (i := 5) nd_3 rfl (by first | exact Or.inl rfl | exact Or.inr rfl)) (zdk)))) (zan (ze9 (zlU (zbH hr) (zab 5) (zab 1)) (zan (zck (zbG (zab 3) (zaa (zal (zaC hr) (zak h_sides_of (hr.mono (by decide)) rfl (zaa (zab 0) (zaa (zal (zaC hr) (zab 1) (zab 5)) (zah))) (zam.cons (zam.cons zam.nil))) (zar zb3 (zar zaE (zab 4) (zaf)) (zaf))) (zah))))) (zan (zck (zbG (zab 3) (zaa (zdl) (zah)))))))) (zan (zbh (zab 3))))
theorem zco : FnScope ["strengths", "sides", "names"] ["strengths", "sides", "names"] (zaj (top 5)) := ⟨rfl, rfl, rfl, by decide +kernel, rfl, by decide +kernel, by decide +kernel⟩
theorem zcq (L : Laid K mg "strength_together" (top 5) ["strengths", "sides", "names"]) (b_zip : mg "zip" = none) (b_sum : mg "sum" = none) : zbr P w K mg base 1 "strength_together" 3 zaz :=
 zbQ (k := 0) L zco fun f cdv A outer s H E hr => zan (zbh (zaW (zgj rfl) rfl b_sum zmU (zaa (zc0 rfl rfl (zbB (N' := ["side", "name", "strengths"]) (nt := 2) (fr := [0]) ["strengths"] rfl (by decide +kernel) (by decide +kernel) (by decide +kernel) rfl ⟨⟨rfl, by decide⟩, trivial⟩ ⟨by first | exact Or.inl rfl | exact Or.inr rfl, trivial⟩) (znD rfl b_zip (zab 1) (zab 2)) (fun C s0 H0 fp => zfi rfl (za4 (zav (i := 0) nd_4 rfl (by first | exact Or.inl rfl | exact Or.inr rfl)) (za4 (zav (i := 1) nd_4 rfl (by first | exact Or.inl rfl | exact Or.inr rfl)) (zdk)))) (fun C s0 H0 fp => zlT (SW.sb (zis (zbP (zfv (zbH hr)) (zab 0) (zab 1) rfl) (zg0 (zbP (zkx (zbH hr)) (zab 0) (zdl) rfl))))) (fun C s0 H0 fp => zal (zaC hr) (zab 2) (zab 0))) (zah))))
theorem zea : FnScope ["bed", "strengths", "names", "place", "house", "found", "number", "kind"] ["bed", "strengths", "names", "place"] (zaj (top 6)) := ⟨rfl, rfl, rfl, by decide +kernel, rfl, by decide +kernel, by decide +kernel⟩
theorem zem (L : Laid K mg "growings_at" (top 6) ["bed", "strengths", "names", "place"]) (b_any : mg "any" = none) (b_enumerate : mg "enumerate" = none) (h_strength_together : zbr P w K mg base 1 "strength_together" 3 zaz) : zbr P w K mg base 2 "growings_at" 4 zbp :=
 zbQ (k := 1) L zea fun f cdv A outer s H E hr => zai (zaP (i := 4) nd_5 rfl (by first | exact Or.inl rfl | exact Or.inr rfl) (zal (zaC hr) (zab 0) (zaf))) (zai (zaP (i := 5) nd_5 rfl (by first | exact Or.inl rfl | exact Or.inr rfl) (zbX (zah))) (zai (ze9 (znN (zpH (zaW (zjm rfl) rfl b_any zoW (zaa (zab 2) (zah))))) (zan (zbh (zab 5))) (zbx)) (zai (zcm PassesOwn.never rfl (zjy rfl b_enumerate (zal (zaC hr) (zab 4) (zaf))) (zfi rfl (za4 (zav (i := 6) nd_5 rfl (by first | exact Or.inl rfl | exact Or.inr rfl)) (za4 (zav (i := 7) nd_5 rfl (by first | exact Or.inl rfl | exact Or.inr rfl)) (zdk)))) (zan (ze9 (zbP zkA (zak h_strength_together (hr.mono (by decide)) rfl (zaa (zab 1) (zaa (zfS (zab 7) (zju (zaf)) (zjv)) (zaa (zab 2) (zah)))) (zam.cons (zam.cons (zam.cons zam.nil)))) (zal (zaC hr) (zab 4) (zaf)) rfl) (zan (zck (zbG (zab 5) (zaa (za5 (zaa (zal (zaC hr) (zab 3) (zaf)) (zaa (zal (zaC hr) (zab 3) (zaf)) (zaa (zab 6) (zah))))) (zah))))) (zbx)))) (zan (zbh (zab 5))))))
theorem zgz : FnScope ["bed", "standing", "floor", "strengths", "standing_kinds", "found", "x", "y", "names"] ["bed", "standing"] (zaj (top 7)) := ⟨rfl, rfl, rfl, by decide +kernel, rfl, by decide +kernel, by decide +kernel⟩
theorem zgC (L : Laid K mg "growings" (top 7) ["bed", "standing"]) (b_dict : mg "dict" = none) (b_range : mg "range" = none) (b_tuple : mg "tuple" = none) (h_kinds_by_place : zbr P w K mg base 1 "kinds_by_place" 1 zbg) (h_names_facing : zbr P w K mg base 2 "names_facing" 3 zbf) (h_growings_at : zbr P w K mg base 2 "growings_at" 4 zbp) : zbr P w K mg base 3 "growings" 2 zbD :=
 zbQ (k := 2) L zgz fun f cdv A outer s H E hr => zai (zaP (i := 2) nd_6 rfl (by first | exact Or.inl rfl | exact Or.inr rfl) (zal (zaC hr) (zab 0) (zaf))) (zai (zaP (i := 3) nd_6 rfl (by first | exact Or.inl rfl | exact Or.inr rfl) (zbl (zdV rfl) rfl b_dict zid (zaa (zal (zaC hr) (zal (zaC hr) (zab 0) (zaf)) (zaf)) (zah)))) (zai (zaP (i := 4) nd_6 rfl (by first | exact Or.inl rfl | exact Or.inr rfl) (zak h_kinds_by_place (hr.mono (by decide)) rfl (zaa (zab 1) (zah)) (zam.cons zam.nil))) (zai (zaP (i := 5) nd_6 rfl (by first | exact Or.inl rfl | exact Or.inr rfl) (zbX (zah))) (zai (zcm PassesOwn.never rfl (zaQ rfl b_range (zal (zaC hr) (zab 2) (zaf))) (zav (i := 6) nd_6 rfl (by first | exact Or.inl rfl | exact Or.inr rfl)) (zan (zcm PassesOwn.never rfl (zaQ rfl b_range (zal (zaC hr) (zab 2) (zaf))) (zav (i := 7) nd_6 rfl (by first | exact Or.inl rfl | exact Or.inr rfl)) (zan (ze9 (zfT (zbH hr) (za5 (zaa (zab 6) (zaa (zab 7) (zah)))) (zab 4)) (zai (zaP (i := 8) nd_6 rfl (by first | exact Or.inl rfl | exact Or.inr rfl) (zak h_names_facing (hr.mono (by decide)) rfl (zaa (zab 0) (zaa (zab 4) (zaa (za5 (zaa (zab 6) (zaa (zab 7) (zah)))) (zah)))) (zam.cons (zam.cons (zam.cons zam.nil))))) (zan (zck (ziD (zab 5) (zaa (zak h_growings_at (hr.mono (by decide)) rfl (zaa (zab 0) (zaa (zab 3) (zaa (zab 8) (zaa (za5 (zaa (zab 6) (zaa (zab 7) (zah)))) (zah))))) (zam.cons (zam.cons (zam.cons (zam.cons zam.nil))))) (zah)))))) (zbx)))))) (zan (zbh (zbl zbw rfl b_tuple zcY (zaa (zab 5) (zah)))))))))
theorem zd8 : FnScope ["_law_script", "_law_k", "_law_cell", "_law_far", "_law_own"] ["_law_script", "_law_k"] (zaj (top 9)) := ⟨rfl, rfl, rfl, by decide +kernel, rfl, by decide +kernel, by decide +kernel⟩
theorem zel (L : Laid K mg "_law_begin" (top 9) ["_law_script", "_law_k"]) (b_len : mg "len" = none) (b_int : mg "int" = none) : zbr P w K mg base 1 "_law_begin" 2 zbN :=
 zbQ (k := 0) L zd8 fun f cdv A outer s H E hr => zai (zaP (i := 2) nd_7 rfl (by first | exact Or.inl rfl | exact Or.inr rfl) (znK (zbP zkz (zab 1) (zaW zbI rfl b_len ze4 (zaa (zab 0) (zah))) rfl) (zal (zaC hr) (zab 0) (zab 1)) (zaf))) (zai (zaP (i := 3) nd_7 rfl (by first | exact Or.inl rfl | exact Or.inr rfl) (zar zeL (zar zeL (zar zeL (zar zeL (zar zdL (zaf) (zaf)) (zar zdL (zaf) (zaf))) (zar zdL (zaf) (zaf))) (zar zdL (zaf) (zaf))) (zar zdL (zaf) (zaf)))) (zai (zaP (i := 4) nd_7 rfl (by first | exact Or.inl rfl | exact Or.inr rfl) (zar zeL (zar zb3 (zab 2) (zab 3)) (zbl zjl rfl b_int zoV (zaa (znL zkA (zab 2) (zar zdL (zaf) (zaf)) rfl) (zah))))) (zan (zbh (zbX (zaa (zab 4) (zaa (zar zb3 (zar zaE (zar zb3 (zab 2) (zaf)) (zar zb2 (zaf) (zab 1))) (zaf)) (zaa (zaf) (zah)))))))))
theorem zeG : FnScope ["_law_pot", "_law_many", "_law_digit", "_law_mixed"] ["_law_pot", "_law_many"] (zaj (top 10)) := ⟨rfl, rfl, rfl, by decide +kernel, rfl, by decide +kernel, by decide +kernel⟩
theorem zeQ (L : Laid K mg "_law_draw" (top 10) ["_law_pot", "_law_many"]) : zbr P w K mg base 1 "_law_draw" 2 zac :=
 zbQ (k := 0) L zeG fun f cdv A outer s H E hr => zai (ze9 (zbP zok (zal (zaC hr) (zab 0) (zaf)) (zaf) rfl) (zai (zaP (i := 2) nd_8 rfl (by first | exact Or.inl rfl | exact Or.inr rfl) (zar zb3 (zal (zaC hr) (zab 0) (zaf)) (zab 1))) (zai (zg3 (zaC hr) (zab 0) (zaf) (zar zfu (zal (zaC hr) (zab 0) (zaf)) (zab 1))) (zan (zbh (zab 2))))) (zbx)) (zai (zg3 (zaC hr) (zab 0) (zaf) (zar zaE (zal (zaC hr) (zab 0) (zaf)) (zaf))) (zai (zaP (i := 3) nd_8 rfl (by first | exact Or.inl rfl | exact Or.inr rfl) (zar zb3 (zar zb2 (zar zaE (zar zaE (zal (zaC hr) (zab 0) (zaf)) (zar zb2 (zar zb2 (zaf) (zal (zaC hr) (zab 0) (zaf))) (zal (zaC hr) (zab 0) (zaf)))) (zar zb2 (zaf) (zal (zaC hr) (zab 0) (zaf)))) (zaf)) (zaf))) (zai (zaP (i := 3) nd_8 rfl (by first | exact Or.inl rfl | exact Or.inr rfl) (zar zb3 (zar zb2 (zab 3) (zar zaE (zar zb3 (zab 3) (zaf)) (zar zb2 (zaf) (zal (zaC hr) (zab 0) (zaf))))) (zaf))) (zan (zbh (zar zb3 (zar zaE (zar zfu (zab 3) (zaf)) (zar zfu (zab 3) (zaf))) (zab 1)))))))
theorem zd4 : FnScope ["_law_pot", "_law_many", "_law_letters", "_law_first", "_law_step_here"] ["_law_pot", "_law_many"] (zaj (top 11)) := ⟨rfl, rfl, rfl, by decide +kernel, rfl, by decide +kernel, by decide +kernel⟩
theorem zeh (L : Laid K mg "_law_names" (top 11) ["_law_pot", "_law_many"]) (b_range : mg "range" = none) (b_sorted : mg "sorted" = none) (h_q_law_draw : zbr P w K mg base 1 "_law_draw" 2 zac) : zbr P w K mg base 2 "_law_names" 2 zbL :=
 zbQ (k := 1) L zd4 fun f cdv A outer s H E hr => zai (zaP (i := 2) nd_9 rfl (by first | exact Or.inl rfl | exact Or.inr rfl) (zdl)) (zai (zj6 (za5 (zaa (zak h_q_law_draw (hr.mono (by decide)) rfl (zaa (zab 0) (zaa (zaf) (zah))) (zam.cons (zam.cons zam.nil))) (zaa (zal (zaC hr) (zbX (zaa (zaf) (zaa (zaf) (zaa (zaf) (zaa (zaf) (zaa (zaf) (zaa (zaf) (zah)))))))) (zak h_q_law_draw (hr.mono (by decide)) rfl (zaa (zab 0) (zaa (zaf) (zah))) (zam.cons (zam.cons zam.nil)))) (zah)))) (zfi rfl (za4 (zav (i := 3) nd_9 rfl (by first | exact Or.inl rfl | exact Or.inr rfl)) (za4 (zav (i := 4) nd_9 rfl (by first | exact Or.inl rfl | exact Or.inr rfl)) (zdk))))) (zai (ze9 (zbP (zfv (zbH hr)) (zak h_q_law_draw (hr.mono (by decide)) rfl (zaa (zab 0) (zaa (zaf) (zah))) (zam.cons (zam.cons zam.nil))) (zaf) rfl) (zan (zbh (zc0 rfl rfl (zbB (N' := ["_law_k", "_law_letters", "_law_first"]) (nt := 1) (fr := [2, 3]) ["_law_letters", "_law_first"] rfl (by decide +kernel) (by decide +kernel) (by decide +kernel) rfl ⟨⟨rfl, by decide⟩, ⟨⟨rfl, by decide⟩, trivial⟩⟩ ⟨by first | exact Or.inl rfl | exact Or.inr rfl, ⟨by first | exact Or.inl rfl | exact Or.inr rfl, trivial⟩⟩) (zaQ rfl b_range (zab 1)) (fun C s0 H0 fp => zav (i := 0) zp7 rfl (by first | exact Or.inl rfl | exact Or.inr rfl)) (fun C s0 H0 fp => zd9) (fun C s0 H0 fp => zar zb2 (zal (zaC hr) (zab 1) (zab 2)) (zar zaE (zab 0) (zaf)))))) (zbx)) (zan (zbh (zaW zcs rfl b_sorted zew (zaa (zc0 rfl rfl (zbB (N' := ["_law_k", "_law_letters", "_law_first", "_law_step_here"]) (nt := 1) (fr := [2, 3, 4]) ["_law_letters", "_law_first", "_law_step_here"] rfl (by decide +kernel) (by decide +kernel) (by decide +kernel) rfl ⟨⟨rfl, by decide⟩, ⟨⟨rfl, by decide⟩, ⟨⟨rfl, by decide⟩, trivial⟩⟩⟩ ⟨by first | exact Or.inl rfl | exact Or.inr rfl, ⟨by first | exact Or.inl rfl | exact Or.inr rfl, ⟨by first | exact Or.inl rfl | exact Or.inr rfl, trivial⟩⟩⟩) (zaQ rfl b_range (zab 1)) (fun C s0 H0 fp => zav (i := 0) zp6 rfl (by first | exact Or.inl rfl | exact Or.inr rfl)) (fun C s0 H0 fp => zd9) (fun C s0 H0 fp => zar zb2 (zal (zaC hr) (zab 1) (zar zb3 (zar zaE (zab 2) (zar zb2 (zab 3) (zab 0))) (zaf))) (zar zaE (zaf) (zar zb3 (zar zaE (zar zb2 (zab 0) (zab 0)) (zab 2)) (zaf))))) (zah)))))))
theorem zeE : FnScope ["_law_pot", "_law_names_here", "_law_face", "_law_sides_here"] ["_law_pot", "_law_names_here"] (zaj (top 12)) := ⟨rfl, rfl, rfl, by decide +kernel, rfl, by decide +kernel, by decide +kernel⟩
theorem zeO (L : Laid K mg "_law_kind" (top 12) ["_law_pot", "_law_names_here"]) (b_range : mg "range" = none) (b_len : mg "len" = none) (h_q_law_draw : zbr P w K mg base 1 "_law_draw" 2 zac) : zbr P w K mg base 2 "_law_kind" 2 zb0 :=
 zbQ (k := 1) L zeE fun f cdv A outer s H E hr => zai (zaP (i := 2) zpl rfl (by first | exact Or.inl rfl | exact Or.inr rfl) (zal (zaC hr) (zbX (zaa (zdl) (zaa (zal (zaC hr) (zdl) (zak h_q_law_draw (hr.mono (by decide)) rfl (zaa (zab 0) (zaa (zaf) (zah))) (zam.cons (zam.cons zam.nil)))) (zah)))) (zak h_q_law_draw (hr.mono (by decide)) rfl (zaa (zab 0) (zaa (zaf) (zah))) (zam.cons (zam.cons zam.nil))))) (zai (zcK (i := 3) rfl rfl (zbB (N' := ["_law_side", "_law_names_here", "_law_pot"]) (nt := 1) (fr := [1, 0]) ["_law_names_here", "_law_pot"] rfl (by decide +kernel) (by decide +kernel) (by decide +kernel) rfl ⟨⟨rfl, by decide⟩, ⟨⟨rfl, by decide⟩, trivial⟩⟩ ⟨by first | exact Or.inl rfl | exact Or.inr rfl, ⟨by first | exact Or.inl rfl | exact Or.inr rfl, trivial⟩⟩) (zaQ rfl b_range (zaf)) (fun C s0 H0 fp => zav (i := 0) zp0 rfl (by first | exact Or.inl rfl | exact Or.inr rfl)) (fun C s0 H0 fp => zd9) (fun C s0 H0 fp => zal (zaC hr) (zar zaE (zbX (zaa (zdl) (zah))) (zab 1)) (zak h_q_law_draw (hr.mono (by decide)) rfl (zaa (zab 2) (zaa (zar zaE (zaW zbI rfl b_len ze4 (zaa (zab 1) (zah))) (zaf)) (zah))) (zam.cons (zam.cons zam.nil)))) zpl rfl rfl) (zan (zbh (za5 (zaa (zab 2) (zaa (zal (zaC hr) (zab 3) (zaf)) (zaa (zal (zaC hr) (zab 3) (zaf)) (zaa (zal (zaC hr) (zab 3) (zaf)) (zaa (zal (zaC hr) (zab 3) (zaf)) (zah))))))))))
theorem zd6 : FnScope ["_law_pot", "_law_names_here", "_law_enough", "_law_sticks", "_law_kinds"] ["_law_pot"] (zaj (top 13)) := ⟨rfl, rfl, rfl, by decide +kernel, rfl, by decide +kernel, by decide +kernel⟩
theorem zej (L : Laid K mg "_law_house" (top 13) ["_law_pot"]) (b_tuple : mg "tuple" = none) (b_range : mg "range" = none) (b_len : mg "len" = none) (h_q_law_draw : zbr P w K mg base 1 "_law_draw" 2 zac) (h_q_law_names : zbr P w K mg base 2 "_law_names" 2 zbL) (h_q_law_kind : zbr P w K mg base 2 "_law_kind" 2 zb0) : zbr P w K mg base 3 "_law_house" 1 zbM :=
 zbQ (k := 2) L zd6 fun f cdv A outer s H E hr => zai (zaP (i := 1) znh rfl (by first | exact Or.inl rfl | exact Or.inr rfl) (zak h_q_law_names (hr.mono (by decide)) rfl (zaa (zab 0) (zaa (zar zaE (zaf) (zak h_q_law_draw (hr.mono (by decide)) rfl (zaa (zab 0) (zaa (zaf) (zah))) (zam.cons (zam.cons zam.nil)))) (zah))) (zam.cons (zam.cons zam.nil)))) (zai (zaP (i := 2) znh rfl (by first | exact Or.inl rfl | exact Or.inr rfl) (zal (zaC hr) (zbX (zaa (zaf) (zaa (zaf) (zaa (zaf) (zaa (zaf) (zaa (zaf) (zaa (zaf) (zaa (zaf) (zaa (zaf) (zah)))))))))) (zak h_q_law_draw (hr.mono (by decide)) rfl (zaa (zab 0) (zaa (zaf) (zah))) (zam.cons (zam.cons zam.nil))))) (zai (zaP (i := 3) znh rfl (by first | exact Or.inl rfl | exact Or.inr rfl) (zbl zbw rfl b_tuple zcY (zaa (zc0 rfl rfl (zbB (N' := ["_law_name", "_law_pot"]) (nt := 1) (fr := [0]) ["_law_pot"] rfl (by decide +kernel) (by decide +kernel) (by decide +kernel) rfl ⟨⟨rfl, by decide⟩, trivial⟩ ⟨by first | exact Or.inl rfl | exact Or.inr rfl, trivial⟩) (zcL (zab 1)) (fun C s0 H0 fp => zav (i := 0) zpZ rfl (by first | exact Or.inl rfl | exact Or.inr rfl)) (fun C s0 H0 fp => zd9) (fun C s0 H0 fp => za5 (zaa (zab 0) (zaa (zal (zaC hr) (zbX (zaa (zaf) (zaa (zaf) (zaa (zaf) (zaa (zar zaE (zaf) (zak h_q_law_draw (hr.mono (by decide)) rfl (zaa (zab 1) (zaa (zaf) (zah))) (zam.cons (zam.cons zam.nil)))) (zah)))))) (zak h_q_law_draw (hr.mono (by decide)) rfl (zaa (zab 1) (zaa (zaf) (zah))) (zam.cons (zam.cons zam.nil)))) (zah))))) (zah)))) (zai (zcK (i := 4) rfl rfl (zbB (N' := ["_law_k", "_law_pot", "_law_names_here"]) (nt := 1) (fr := [0, 1]) ["_law_pot", "_law_names_here"] rfl (by decide +kernel) (by decide +kernel) (by decide +kernel) rfl ⟨⟨rfl, by decide⟩, ⟨⟨rfl, by decide⟩, trivial⟩⟩ ⟨by first | exact Or.inl rfl | exact Or.inr rfl, ⟨by first | exact Or.inl rfl | exact Or.inr rfl, trivial⟩⟩) (zaQ rfl b_range (zar zaE (zaf) (zak h_q_law_draw (hr.mono (by decide)) rfl (zaa (zab 0) (zaa (zal (zaC hr) (zbX (zaa (zaf) (zaa (zaf) (zaa (zaf) (zaa (zaf) (zah)))))) (zak h_q_law_draw (hr.mono (by decide)) rfl (zaa (zab 0) (zaa (zaf) (zah))) (zam.cons (zam.cons zam.nil)))) (zah))) (zam.cons (zam.cons zam.nil))))) (fun C s0 H0 fp => zav (i := 0) zpY rfl (by first | exact Or.inl rfl | exact Or.inr rfl)) (fun C s0 H0 fp => zd9) (fun C s0 H0 fp => zak h_q_law_kind (hr.mono (by decide)) rfl (zaa (zab 1) (zaa (zab 2) (zah))) (zam.cons (zam.cons zam.nil))) znh rfl rfl) (zai (ze9 (zbP (zfv (zbH hr)) (zak h_q_law_draw (hr.mono (by decide)) rfl (zaa (zab 0) (zaa (zaf) (zah))) (zam.cons (zam.cons zam.nil))) (zaf) rfl) (zan (zck (zbG (zab 4) (zaa (zal (zaC hr) (zab 4) (zak h_q_law_draw (hr.mono (by decide)) rfl (zaa (zab 0) (zaa (zaW zbI rfl b_len ze4 (zaa (zab 4) (zah))) (zah))) (zam.cons (zam.cons zam.nil)))) (zah))))) (zbx)) (zan (zbh (za5 (zaa (zab 2) (zaa (zab 3) (zaa (zbl zbw rfl b_tuple zcY (zaa (zab 4) (zah))) (zah)))))))))))
theorem zc9 : FnScope ["_law_pot", "_law_house_here", "_law_floor", "_law_most", "_law_there", "_law_k", "_law_place"] ["_law_pot", "_law_house_here", "_law_floor", "_law_most"] (zaj (top 14)) := ⟨rfl, rfl, rfl, by decide +kernel, rfl, by decide +kernel, by decide +kernel⟩
theorem zdb (L : Laid K mg "_law_standing" (top 14) ["_law_pot", "_law_house_here", "_law_floor", "_law_most"]) (b_range : mg "range" = none) (b_len : mg "len" = none) (b_sorted : mg "sorted" = none) (b_tuple : mg "tuple" = none) (h_q_law_draw : zbr P w K mg base 1 "_law_draw" 2 zac) : zbr P w K mg base 2 "_law_standing" 4 zas :=
 zbQ (k := 1) L zc9 fun f cdv A outer s H E hr => zai (zaP (i := 4) zos rfl (by first | exact Or.inl rfl | exact Or.inr rfl) (zfj)) (zai (zcm PassesOwn.never rfl (zaQ rfl b_range (zak h_q_law_draw (hr.mono (by decide)) rfl (zaa (zab 0) (zaa (zar zaE (zab 3) (zaf)) (zah))) (zam.cons (zam.cons zam.nil)))) (zav (i := 5) zos rfl (by first | exact Or.inl rfl | exact Or.inr rfl)) (zai (zaP (i := 6) zos rfl (by first | exact Or.inl rfl | exact Or.inr rfl) (za5 (zaa (zak h_q_law_draw (hr.mono (by decide)) rfl (zaa (zab 0) (zaa (zal (zaC hr) (zab 2) (zaf)) (zah))) (zam.cons (zam.cons zam.nil))) (zaa (zak h_q_law_draw (hr.mono (by decide)) rfl (zaa (zab 0) (zaa (zal (zaC hr) (zab 2) (zaf)) (zah))) (zam.cons (zam.cons zam.nil))) (zah))))) (zan (zg3 (zaC hr) (zab 4) (zab 6) (zak h_q_law_draw (hr.mono (by decide)) rfl (zaa (zab 0) (zaa (zaW zbI rfl b_len ze4 (zaa (zal (zaC hr) (zab 1) (zaf)) (zah))) (zah))) (zam.cons (zam.cons zam.nil))))))) (zan (zbh (zbl zbw rfl b_tuple zcY (zaa (zaW zcs rfl b_sorted zew (zaa (zc0 rfl rfl (zbB (N' := ["_law_place", "_law_there"]) (nt := 1) (fr := [4]) ["_law_there"] rfl (by decide +kernel) (by decide +kernel) (by decide +kernel) rfl ⟨⟨rfl, by decide⟩, trivial⟩ ⟨by first | exact Or.inl rfl | exact Or.inr rfl, trivial⟩) (zjx (zab 4)) (fun C s0 H0 fp => zav (i := 0) zpk rfl (by first | exact Or.inl rfl | exact Or.inr rfl)) (fun C s0 H0 fp => zd9) (fun C s0 H0 fp => zar zaE (zab 0) (za5 (zaa (zha (zaC hr) (zab 1) (zab 0)) (zah))))) (zah))) (zah))))))
theorem zfl : FnScope ["_law_pot", "_law_house_here", "_law_floor"] ["_law_pot"] (zaj (top 15)) := ⟨rfl, rfl, rfl, by decide +kernel, rfl, by decide +kernel, by decide +kernel⟩
theorem zfx (L : Laid K mg "_law_bed" (top 15) ["_law_pot"]) (h_q_law_house : zbr P w K mg base 3 "_law_house" 1 zbM) (h_q_law_draw : zbr P w K mg base 1 "_law_draw" 2 zac) (h_q_law_standing : zbr P w K mg base 2 "_law_standing" 4 zas) : zbr P w K mg base 4 "_law_bed" 1 zch :=
 zbQ (k := 3) L zfl fun f cdv A outer s H E hr => zai (zaP (i := 1) zor rfl (by first | exact Or.inl rfl | exact Or.inr rfl) (zak h_q_law_house (hr.mono (by decide)) rfl (zaa (zab 0) (zah)) (zam.cons zam.nil))) (zai (zaP (i := 2) zor rfl (by first | exact Or.inl rfl | exact Or.inr rfl) (za5 (zaa (zar zaE (zaf) (zak h_q_law_draw (hr.mono (by decide)) rfl (zaa (zab 0) (zaa (zaf) (zah))) (zam.cons (zam.cons zam.nil)))) (zaa (zar zaE (zaf) (zak h_q_law_draw (hr.mono (by decide)) rfl (zaa (zab 0) (zaa (zal (zaC hr) (zbX (zaa (zaf) (zaa (zaf) (zaa (zaf) (zaa (zaf) (zah)))))) (zak h_q_law_draw (hr.mono (by decide)) rfl (zaa (zab 0) (zaa (zaf) (zah))) (zam.cons (zam.cons zam.nil)))) (zah))) (zam.cons (zam.cons zam.nil)))) (zah))))) (zai (ze9 (zbP (zfv (zbH hr)) (zak h_q_law_draw (hr.mono (by decide)) rfl (zaa (zab 0) (zaa (zaf) (zah))) (zam.cons (zam.cons zam.nil))) (zaf) rfl) (zan (zaP (i := 2) zor rfl (by first | exact Or.inl rfl | exact Or.inr rfl) (zlO (zab 2) (znJ (zaf))))) (zbx)) (zan (zbh (za5 (zaa (zab 1) (zaa (zab 2) (zaa (zak h_q_law_standing (hr.mono (by decide)) rfl (zaa (zab 0) (zaa (zab 1) (zaa (zab 2) (zaa (zal (zaC hr) (zbX (zaa (zaf) (zaa (zaf) (zaa (zaf) (zah))))) (zak h_q_law_draw (hr.mono (by decide)) rfl (zaa (zab 0) (zaa (zaf) (zah))) (zam.cons (zam.cons zam.nil)))) (zah))))) (zam.cons (zam.cons (zam.cons (zam.cons zam.nil))))) (zah)))))))))
theorem zd5 : FnScope ["_law_standing_here"] ["_law_standing_here"] (zaj (top 16)) := ⟨rfl, rfl, rfl, by decide +kernel, rfl, by decide +kernel, by decide +kernel⟩
theorem zei (L : Laid K mg "_law_lying" (top 16) ["_law_standing_here"]) (b_dict : mg "dict" = none) : zbr P w K mg base 1 "_law_lying" 1 zbn :=
 zbQ (k := 0) L zd5 fun f cdv A outer s H E hr => zan (zbh (zbl (zgK rfl (zpJ hr)) rfl b_dict zid (zaa (zc0 rfl rfl (zbB (N' := ["_law_x", "_law_y", "_law_kind_here"]) (nt := 3) (fr := []) [] rfl (by decide +kernel) (by decide +kernel) (by decide +kernel) rfl trivial trivial) (zcL (zab 0)) (fun C s0 H0 fp => zfi rfl (za4 (zav (i := 0) zoq rfl (by first | exact Or.inl rfl | exact Or.inr rfl)) (za4 (zav (i := 1) zoq rfl (by first | exact Or.inl rfl | exact Or.inr rfl)) (za4 (zav (i := 2) zoq rfl (by first | exact Or.inl rfl | exact Or.inr rfl)) (zdk))))) (fun C s0 H0 fp => zd9) (fun C s0 H0 fp => za5 (zaa (za5 (zaa (zab 0) (zaa (zab 1) (zah)))) (zaa (zab 2) (zah))))) (zah))))
theorem zeD : FnScope ["_law_place", "_law_side", "_law_x", "_law_y"] ["_law_place", "_law_side"] (zaj (top 17)) := ⟨rfl, rfl, rfl, by decide +kernel, rfl, by decide +kernel, by decide +kernel⟩
theorem zeN (L : Laid K mg "_law_step" (top 17) ["_law_place", "_law_side"]) : zbr P w K mg base 1 "_law_step" 2 zaG :=
 zbQ (k := 0) L zeD fun f cdv A outer s H E hr => zai (zj6 (zab 0) (zfi rfl (za4 (zav (i := 2) zpj rfl (by first | exact Or.inl rfl | exact Or.inr rfl)) (za4 (zav (i := 3) zpj rfl (by first | exact Or.inl rfl | exact Or.inr rfl)) (zdk))))) (zan (zbh (zal (zaC hr) (zbX (zaa (za5 (zaa (zab 2) (zaa (zar zaE (zab 3) (zaf)) (zah)))) (zaa (za5 (zaa (zar zaE (zab 2) (zaf)) (zaa (zab 3) (zah)))) (zaa (za5 (zaa (zab 2) (zaa (zar zf2 (zab 3) (zaf)) (zah)))) (zaa (za5 (zaa (zar zf2 (zab 2) (zaf)) (zaa (zab 3) (zah)))) (zah)))))) (zab 1))))
theorem zd3 : FnScope ["_law_bed_here", "_law_there", "_law_place", "_law_kind_here", "_law_kinds", "_law_found", "_law_side", "_law_other", "_law_mine"] ["_law_bed_here", "_law_there", "_law_place", "_law_kind_here"] (zaj (top 18)) := ⟨rfl, rfl, rfl, by decide +kernel, rfl, by decide +kernel, by decide +kernel⟩
theorem zeg (L : Laid K mg "_law_sides" (top 18) ["_law_bed_here", "_law_there", "_law_place", "_law_kind_here"]) (b_range : mg "range" = none) (h_q_law_step : zbr P w K mg base 1 "_law_step" 2 zaG) : zbr P w K mg base 2 "_law_sides" 4 zbK :=
 zbQ (k := 1) L zd3 fun f cdv A outer s H E hr => zai (zny (i := 4) (j := 5) rfl zng rfl rfl (by decide) rfl rfl (zaa (zal (zaC hr) (zal (zaC hr) (zab 0) (zaf)) (zaf)) (zaa (zbX (zah)) (zah)))) (zai (zcm PassesOwn.never rfl (zaQ rfl b_range (zaf)) (zav (i := 6) zng rfl (by first | exact Or.inl rfl | exact Or.inr rfl)) (zai (zaP (i := 7) zng rfl (by first | exact Or.inl rfl | exact Or.inr rfl) (zlQ (zaC hr) (zab 1) (zak h_q_law_step (hr.mono (by decide)) rfl (zaa (zab 2) (zaa (zab 6) (zah))) (zam.cons (zam.cons zam.nil))))) (zai (zaP (i := 8) zng rfl (by first | exact Or.inl rfl | exact Or.inr rfl) (zal (zaC hr) (zal (zaC hr) (zab 4) (zab 3)) (zar zaE (zab 6) (zaf)))) (zan (ze9 (SW.sb (zis (zbP zkw (zab 7) (znI) rfl) (zis (zbP (zkx (zbH hr)) (zab 8) (zdl) rfl) (zg0 (zbP (zfv (zbH hr)) (zal (zaC hr) (zal (zaC hr) (zab 4) (zab 7)) (zar zaE (zar zb3 (zar zaE (zab 6) (zaf)) (zaf)) (zaf))) (zab 8) rfl))))) (zan (zck (zbG (zab 5) (zaa (zab 6) (zah))))) (zbx)))))) (zan (zbh (zab 5))))
theorem zgy : FnScope ["_law_bed_here", "_law_there", "_law_place", "_law_kind_here", "_law_sides_here", "_law_strengths"] ["_law_bed_here", "_law_there", "_law_place", "_law_kind_here"] (zaj (top 19)) := ⟨rfl, rfl, rfl, by decide +kernel, rfl, by decide +kernel, by decide +kernel⟩
theorem zgB (L : Laid K mg "_law_by" (top 19) ["_law_bed_here", "_law_there", "_law_place", "_law_kind_here"]) (b_dict : mg "dict" = none) (b_sum : mg "sum" = none) (h_q_law_sides : zbr P w K mg base 2 "_law_sides" 4 zbK) : zbr P w K mg base 3 "_law_by" 4 zbV :=
 zbQ (k := 2) L zgy fun f cdv A outer s H E hr => zai (zaP (i := 4) zpi rfl (by first | exact Or.inl rfl | exact Or.inr rfl) (zak h_q_law_sides (hr.mono (by decide)) rfl (zaa (zab 0) (zaa (zab 1) (zaa (zab 2) (zaa (zab 3) (zah))))) (zam.cons (zam.cons (zam.cons (zam.cons zam.nil)))))) (zai (ze9 (zbP (zfv (zbH hr)) (zab 4) (zbX (zah)) rfl) (zan (zbh (zaf))) (zbx)) (zai (zaP (i := 5) zpi rfl (by first | exact Or.inl rfl | exact Or.inr rfl) (zbl (zdV rfl) rfl b_dict zid (zaa (zal (zaC hr) (zal (zaC hr) (zab 0) (zaf)) (zaf)) (zah)))) (zan (zbh (zaW (zgj rfl) rfl b_sum zmU (zaa (zc0 rfl rfl (zbB (N' := ["_law_side", "_law_strengths", "_law_bed_here", "_law_kind_here"]) (nt := 1) (fr := [5, 0, 3]) ["_law_strengths", "_law_bed_here", "_law_kind_here"] rfl (by decide +kernel) (by decide +kernel) (by decide +kernel) rfl ⟨⟨rfl, by decide⟩, ⟨⟨rfl, by decide⟩, ⟨⟨rfl, by decide⟩, trivial⟩⟩⟩ ⟨by first | exact Or.inl rfl | exact Or.inr rfl, ⟨by first | exact Or.inl rfl | exact Or.inr rfl, ⟨by first | exact Or.inl rfl | exact Or.inr rfl, trivial⟩⟩⟩) (zcL (zab 4)) (fun C s0 H0 fp => zav (i := 0) zpX rfl (by first | exact Or.inl rfl | exact Or.inr rfl)) (fun C s0 H0 fp => zd9) (fun C s0 H0 fp => zal (zaC hr) (zab 1) (zal (zaC hr) (zal (zaC hr) (zal (zaC hr) (zal (zaC hr) (zab 2) (zaf)) (zaf)) (zab 3)) (zar zaE (zab 0) (zaf))))) (zah)))))))
theorem zd7 : FnScope ["_law_bed_here", "_law_there", "_law_found", "_law_x", "_law_y", "_law_beside"] ["_law_bed_here", "_law_there"] (zaj (top 20)) := ⟨rfl, rfl, rfl, by decide +kernel, rfl, by decide +kernel, by decide +kernel⟩
theorem zek (L : Laid K mg "_law_empty" (top 20) ["_law_bed_here", "_law_there"]) (b_range : mg "range" = none) (h_q_law_step : zbr P w K mg base 1 "_law_step" 2 zaG) : zbr P w K mg base 2 "_law_empty" 2 zbo :=
 zbQ (k := 1) L zd7 fun f cdv A outer s H E hr => zai (zaP (i := 2) znf rfl (by first | exact Or.inl rfl | exact Or.inr rfl) (zbX (zah))) (zai (zcm PassesOwn.never rfl (zaQ rfl b_range (zal (zaC hr) (zal (zaC hr) (zab 0) (zaf)) (zaf))) (zav (i := 3) znf rfl (by first | exact Or.inl rfl | exact Or.inr rfl)) (zan (zcm PassesOwn.never rfl (zaQ rfl b_range (zal (zaC hr) (zal (zaC hr) (zab 0) (zaf)) (zaf))) (zav (i := 4) znf rfl (by first | exact Or.inl rfl | exact Or.inr rfl)) (zai (zcK (i := 5) rfl rfl (zbB (N' := ["_law_side", "_law_x", "_law_y", "_law_there"]) (nt := 1) (fr := [3, 4, 1]) ["_law_x", "_law_y", "_law_there"] rfl (by decide +kernel) (by decide +kernel) (by decide +kernel) rfl ⟨⟨rfl, by decide⟩, ⟨⟨rfl, by decide⟩, ⟨⟨rfl, by decide⟩, trivial⟩⟩⟩ ⟨by first | exact Or.inl rfl | exact Or.inr rfl, ⟨by first | exact Or.inl rfl | exact Or.inr rfl, ⟨by first | exact Or.inl rfl | exact Or.inr rfl, trivial⟩⟩⟩) (zaQ rfl b_range (zaf)) (fun C s0 H0 fp => zav (i := 0) zpW rfl (by first | exact Or.inl rfl | exact Or.inr rfl)) (fun C s0 H0 fp => zlT (zlU (zbH hr) (zak h_q_law_step (hr.mono (by decide)) rfl (zaa (za5 (zaa (zab 1) (zaa (zab 2) (zah)))) (zaa (zab 0) (zah))) (zam.cons (zam.cons zam.nil))) (zab 3))) (fun C s0 H0 fp => zab 0) znf rfl rfl) (zan (ze9 (SW.sb (zis (zfT (zbH hr) (za5 (zaa (zab 3) (zaa (zab 4) (zah)))) (zab 1)) (zg0 (zbP (zkx (zbH hr)) (zab 5) (zbX (zah)) rfl)))) (zan (zck (zbG (zab 2) (zaa (za5 (zaa (zab 3) (zaa (zab 4) (zah)))) (zah))))) (zbx))))))) (zan (zbh (zab 2))))
theorem zfk : FnScope ["_law_bed_here", "_law_there", "_law_found", "_law_place", "_law_kind_here"] ["_law_bed_here", "_law_there"] (zaj (top 21)) := ⟨rfl, rfl, rfl, by decide +kernel, rfl, by decide +kernel, by decide +kernel⟩
theorem zfw (L : Laid K mg "_law_may" (top 21) ["_law_bed_here", "_law_there"]) (b_len : mg "len" = none) (b_range : mg "range" = none) (h_q_law_empty : zbr P w K mg base 2 "_law_empty" 2 zbo) (h_q_law_by : zbr P w K mg base 3 "_law_by" 4 zbV) : zbr P w K mg base 4 "_law_may" 2 zbU :=
 zbQ (k := 3) L zfk fun f cdv A outer s H E hr => zai (zaP (i := 2) zop rfl (by first | exact Or.inl rfl | exact Or.inr rfl) (zbX (zah))) (zai (zcm PassesOwn.never rfl (zcL (zak h_q_law_empty (hr.mono (by decide)) rfl (zaa (zab 0) (zaa (zab 1) (zah))) (zam.cons (zam.cons zam.nil)))) (zav (i := 3) zop rfl (by first | exact Or.inl rfl | exact Or.inr rfl)) (zan (zcm PassesOwn.never rfl (zaQ rfl b_range (zaW zbI rfl b_len ze4 (zaa (zal (zaC hr) (zal (zaC hr) (zab 0) (zaf)) (zaf)) (zah)))) (zav (i := 4) zop rfl (by first | exact Or.inl rfl | exact Or.inr rfl)) (zan (ze9 (zbP zkA (zak h_q_law_by (hr.mono (by decide)) rfl (zaa (zab 0) (zaa (zab 1) (zaa (zab 3) (zaa (zab 4) (zah))))) (zam.cons (zam.cons (zam.cons (zam.cons zam.nil))))) (zal (zaC hr) (zal (zaC hr) (zab 0) (zaf)) (zaf)) rfl) (zan (zck (zbG (zab 2) (zaa (zar zaE (zab 3) (za5 (zaa (zab 4) (zah)))) (zah))))) (zbx)))))) (zan (zbh (zab 2))))
theorem zeF : FnScope ["_law_pot", "_law_bed_here", "_law_there", "_law_x", "_law_y"] ["_law_pot", "_law_bed_here"] (zaj (top 22)) := ⟨rfl, rfl, rfl, by decide +kernel, rfl, by decide +kernel, by decide +kernel⟩
theorem zeP (L : Laid K mg "_law_full" (top 22) ["_law_pot", "_law_bed_here"]) (b_range : mg "range" = none) (b_len : mg "len" = none) (b_sorted : mg "sorted" = none) (b_tuple : mg "tuple" = none) (h_q_law_draw : zbr P w K mg base 1 "_law_draw" 2 zac) : zbr P w K mg base 2 "_law_full" 2 zbC :=
 zbQ (k := 1) L zeF fun f cdv A outer s H E hr => zai (zaP (i := 2) zoo rfl (by first | exact Or.inl rfl | exact Or.inr rfl) (zfj)) (zai (zcm PassesOwn.never rfl (zaQ rfl b_range (zal (zaC hr) (zal (zaC hr) (zab 1) (zaf)) (zaf))) (zav (i := 3) zoo rfl (by first | exact Or.inl rfl | exact Or.inr rfl)) (zan (zcm PassesOwn.never rfl (zaQ rfl b_range (zal (zaC hr) (zal (zaC hr) (zab 1) (zaf)) (zaf))) (zav (i := 4) zoo rfl (by first | exact Or.inl rfl | exact Or.inr rfl)) (zan (zg3 (zaC hr) (zab 2) (za5 (zaa (zab 3) (zaa (zab 4) (zah)))) (zak h_q_law_draw (hr.mono (by decide)) rfl (zaa (zab 0) (zaa (zaW zbI rfl b_len ze4 (zaa (zal (zaC hr) (zal (zaC hr) (zab 1) (zaf)) (zaf)) (zah))) (zah))) (zam.cons (zam.cons zam.nil)))))))) (zai (ze9 (zbP (zfv (zbH hr)) (zak h_q_law_draw (hr.mono (by decide)) rfl (zaa (zab 0) (zaa (zaf) (zah))) (zam.cons (zam.cons zam.nil))) (zaf) rfl) (zan (zck (zlP (zaC hr) (zab 2) (za5 (zaa (zak h_q_law_draw (hr.mono (by decide)) rfl (zaa (zab 0) (zaa (zal (zaC hr) (zal (zaC hr) (zab 1) (zaf)) (zaf)) (zah))) (zam.cons (zam.cons zam.nil))) (zaa (zak h_q_law_draw (hr.mono (by decide)) rfl (zaa (zab 0) (zaa (zal (zaC hr) (zal (zaC hr) (zab 1) (zaf)) (zaf)) (zah))) (zam.cons (zam.cons zam.nil))) (zah))))))) (zbx)) (zan (zbh (zbl zbw rfl b_tuple zcY (zaa (zaW zfG rfl b_sorted zew (zaa (zc0 rfl rfl (zbB (N' := ["_law_place", "_law_there"]) (nt := 1) (fr := [2]) ["_law_there"] rfl (by decide +kernel) (by decide +kernel) (by decide +kernel) rfl ⟨⟨rfl, by decide⟩, trivial⟩ ⟨by first | exact Or.inl rfl | exact Or.inr rfl, trivial⟩) (zjx (zab 2)) (fun C s0 H0 fp => zav (i := 0) zpk rfl (by first | exact Or.inl rfl | exact Or.inr rfl)) (fun C s0 H0 fp => zd9) (fun C s0 H0 fp => zar zaE (zab 0) (za5 (zaa (zha (zaC hr) (zab 1) (zab 0)) (zah))))) (zah))) (zah)))))))
theorem znM : FnScope ["_law_script", "_law_k", "_law_pot", "_law_bed_here", "_law_some", "_law_standing_here", "_law_due"] ["_law_script"] (zaj (top 23)) := ⟨rfl, rfl, rfl, by decide +kernel, rfl, by decide +kernel, by decide +kernel⟩
theorem zoN {f : Addr} {fd : FuncData} (F : Fun K "law" "law" (top 23) f fd) (b_len : mg "len" = none) (b_min : mg "min" = none) (b_range : mg "range" = none) (b_tuple : mg "tuple" = none) (b_repr : mg "repr" = none) (h_q_law_begin : zbr P w K mg base 1 "_law_begin" 2 zbN) (h_q_law_bed : zbr P w K mg base 4 "_law_bed" 1 zch) (h_q_law_standing : zbr P w K mg base 2 "_law_standing" 4 zas) (h_q_law_full : zbr P w K mg base 2 "_law_full" 2 zbC) (h_q_law_lying : zbr P w K mg base 1 "_law_lying" 1 zbn) (h_q_law_may : zbr P w K mg base 4 "_law_may" 2 zbU) (h_growings : zbr P w K mg base 3 "growings" 2 zbD) : FnOk P w K mg base CX0 5 f fd ["_law_script"] (spM K 1 zli) :=
 fn_m (k := 4) F znM fun cdv A outer s H E hr => zai (zcm PassesOwn.never rfl (zaQ rfl b_range (zar zaE (zaf) (zaW (zjj rfl) rfl b_min zoU (zaa (zaf) (zaa (zaW zbI rfl b_len ze4 (zaa (zab 0) (zah))) (zah)))))) (zav (i := 1) zlo rfl (by first | exact Or.inl rfl | exact Or.inr rfl)) (zai (zaP (i := 2) zlo rfl (by first | exact Or.inl rfl | exact Or.inr rfl) (zak h_q_law_begin (hr.mono (by decide)) rfl (zaa (zab 0) (zaa (zab 1) (zah))) (zam.cons (zam.cons zam.nil)))) (zai (zaP (i := 3) zlo rfl (by first | exact Or.inl rfl | exact Or.inr rfl) (zak h_q_law_bed (hr.mono (by decide)) rfl (zaa (zab 2) (zah)) (zam.cons zam.nil))) (zai (zaP (i := 4) zlo rfl (by first | exact Or.inl rfl | exact Or.inr rfl) (zbX (zaa (zal (zaC hr) (zab 3) (zaf)) (zaa (zak h_q_law_standing (hr.mono (by decide)) rfl (zaa (zab 2) (zaa (zal (zaC hr) (zab 3) (zaf)) (zaa (zal (zaC hr) (zab 3) (zaf)) (zaa (zaf) (zah))))) (zam.cons (zam.cons (zam.cons (zam.cons zam.nil))))) (zaa (zak h_q_law_standing (hr.mono (by decide)) rfl (zaa (zab 2) (zaa (zal (zaC hr) (zab 3) (zaf)) (zaa (zal (zaC hr) (zab 3) (zaf)) (zaa (zaf) (zah))))) (zam.cons (zam.cons (zam.cons (zam.cons zam.nil))))) (zah)))))) (zai (ze9 (zbP zkz (zar zb2 (zal (zaC hr) (zal (zaC hr) (zab 3) (zaf)) (zaf)) (zal (zaC hr) (zal (zaC hr) (zab 3) (zaf)) (zaf))) (zaf) rfl) (zan (zck (zbG (zab 4) (zaa (zak h_q_law_full (hr.mono (by decide)) rfl (zaa (zab 2) (zaa (zab 3) (zah))) (zam.cons (zam.cons zam.nil))) (zah))))) (zbx)) (zan (zcm PassesOwn.never rfl (zcL (zab 4)) (zav (i := 5) zlo rfl (by first | exact Or.inl rfl | exact Or.inr rfl)) (zai (zaP (i := 6) zlo rfl (by first | exact Or.inl rfl | exact Or.inr rfl) (zaW (zdv hr.gd (zhb hr)) rfl b_repr zic (zaa (zbl zbw rfl b_tuple zcY (zaa (zak h_q_law_may (hr.mono (by decide)) rfl (zaa (zab 3) (zaa (zak h_q_law_lying (hr.mono (by decide)) rfl (zaa (zab 5) (zah)) (zam.cons zam.nil)) (zah))) (zam.cons (zam.cons zam.nil))) (zah))) (zah)))) (zan (ze9 (SW.sb (zpE (zbP zmg (zaW (zdv hr.gd (zhb hr)) rfl b_repr zic (zaa (zak h_growings (hr.mono (by decide)) rfl (zaa (zab 3) (zaa (zab 5) (zah))) (zam.cons (zam.cons zam.nil))) (zah))) (zab 6) rfl) (znv (zbP zmg (zaW (zdv hr.gd (zhb hr)) rfl b_repr zic (zaa (zak h_growings (hr.mono (by decide)) rfl (zaa (zab 3) (zaa (zab 5) (zah))) (zam.cons (zam.cons zam.nil))) (zah))) (zab 6) rfl)))) (zan (zbh (zpe))) (zbx))))))))))) (zan (zbh (zpe)))
end
end L2.MP.stickytiles_k11_growings
namespace L2.MP.stickytiles_k11_growings
open PySem L2 L2.MP L2.MP.Hd PySem.Spec PyProof.Rows
theorem zpb {P : Program} {w : World} {K : PySem.W.Frag} {mg : Str→Option Value} {base : Heap} {f : Addr} {fd : FuncData} (b_len : mg "len" = none) (b_enumerate : mg "enumerate" = none) (b_zip : mg "zip" = none) (b_sum : mg "sum" = none) (b_any : mg "any" = none) (b_dict : mg "dict" = none) (b_range : mg "range" = none) (b_tuple : mg "tuple" = none) (b_int : mg "int" = none) (b_sorted : mg "sorted" = none) (b_min : mg "min" = none) (b_repr : mg "repr" = none) (L_places_around : Laid K mg "places_around" (top 1) ["place"]) (L_sides_of : Laid K mg "sides_of" (top 2) ["bed", "kind"]) (L_kinds_by_place : Laid K mg "kinds_by_place" (top 3) ["standing"]) (L_names_facing : Laid K mg "names_facing" (top 4) ["bed", "standing_kinds", "place"]) (L_strength_together : Laid K mg "strength_together" (top 5) ["strengths", "sides", "names"]) (L_growings_at : Laid K mg "growings_at" (top 6) ["bed", "strengths", "names", "place"]) (L_growings : Laid K mg "growings" (top 7) ["bed", "standing"]) (L_q_law_begin : Laid K mg "_law_begin" (top 9) ["_law_script", "_law_k"]) (L_q_law_draw : Laid K mg "_law_draw" (top 10) ["_law_pot", "_law_many"]) (L_q_law_names : Laid K mg "_law_names" (top 11) ["_law_pot", "_law_many"]) (L_q_law_kind : Laid K mg "_law_kind" (top 12) ["_law_pot", "_law_names_here"]) (L_q_law_house : Laid K mg "_law_house" (top 13) ["_law_pot"]) (L_q_law_standing : Laid K mg "_law_standing" (top 14) ["_law_pot", "_law_house_here", "_law_floor", "_law_most"]) (L_q_law_bed : Laid K mg "_law_bed" (top 15) ["_law_pot"]) (L_q_law_lying : Laid K mg "_law_lying" (top 16) ["_law_standing_here"]) (L_q_law_step : Laid K mg "_law_step" (top 17) ["_law_place", "_law_side"]) (L_q_law_sides : Laid K mg "_law_sides" (top 18) ["_law_bed_here", "_law_there", "_law_place", "_law_kind_here"]) (L_q_law_by : Laid K mg "_law_by" (top 19) ["_law_bed_here", "_law_there", "_law_place", "_law_kind_here"]) (L_q_law_empty : Laid K mg "_law_empty" (top 20) ["_law_bed_here", "_law_there"]) (L_q_law_may : Laid K mg "_law_may" (top 21) ["_law_bed_here", "_law_there"]) (L_q_law_full : Laid K mg "_law_full" (top 22) ["_law_pot", "_law_bed_here"]) (F : Fun K "law" "law" (top 23) f fd) : FnOk P w K mg base CX0 5 f fd ["_law_script"] (spM K 1 zli) := by
 have h_places_around := zdq (P := P) (w := w) (base := base) L_places_around
 have h_sides_of := zgA (P := P) (w := w) (base := base) L_sides_of b_len
 have h_kinds_by_place := zdc (P := P) (w := w) (base := base) L_kinds_by_place
 have h_names_facing := zdE (P := P) (w := w) (base := base) L_names_facing b_enumerate  h_places_around h_sides_of
 have h_strength_together := zcq (P := P) (w := w) (base := base) L_strength_together b_zip b_sum
 have h_growings_at := zem (P := P) (w := w) (base := base) L_growings_at b_any b_enumerate  h_strength_together
 have h_growings := zgC (P := P) (w := w) (base := base) L_growings b_dict b_range b_tuple  h_kinds_by_place h_names_facing h_growings_at
 have h_q_law_begin := zel (P := P) (w := w) (base := base) L_q_law_begin b_len b_int
 have h_q_law_draw := zeQ (P := P) (w := w) (base := base) L_q_law_draw
 have h_q_law_names := zeh (P := P) (w := w) (base := base) L_q_law_names b_range b_sorted  h_q_law_draw
 have h_q_law_kind := zeO (P := P) (w := w) (base := base) L_q_law_kind b_range b_len  h_q_law_draw
 have h_q_law_house := zej (P := P) (w := w) (base := base) L_q_law_house b_tuple b_range b_len  h_q_law_draw h_q_law_names h_q_law_kind
 have h_q_law_standing := zdb (P := P) (w := w) (base := base) L_q_law_standing b_range b_len b_sorted b_tuple  h_q_law_draw
 have h_q_law_bed := zfx (P := P) (w := w) (base := base) L_q_law_bed   h_q_law_house h_q_law_draw h_q_law_standing
 have h_q_law_lying := zei (P := P) (w := w) (base := base) L_q_law_lying b_dict
 have h_q_law_step := zeN (P := P) (w := w) (base := base) L_q_law_step
 have h_q_law_sides := zeg (P := P) (w := w) (base := base) L_q_law_sides b_range  h_q_law_step
 have h_q_law_by := zgB (P := P) (w := w) (base := base) L_q_law_by b_dict b_sum  h_q_law_sides
 have h_q_law_empty := zek (P := P) (w := w) (base := base) L_q_law_empty b_range  h_q_law_step
 have h_q_law_may := zfw (P := P) (w := w) (base := base) L_q_law_may b_len b_range  h_q_law_empty h_q_law_by
 have h_q_law_full := zeP (P := P) (w := w) (base := base) L_q_law_full b_range b_len b_sorted b_tuple  h_q_law_draw
 exact zoN F b_len b_min b_range b_tuple b_repr h_q_law_begin h_q_law_bed h_q_law_standing h_q_law_full h_q_law_lying h_q_law_may h_growings
theorem all_mk {l : PySem.W.OpenLaw} {w : World} {K : PySem.W.Frag} {h : Heap} {mg : Str→Option Value} {fa : Addr} (X : K.In h) (G : h.Ns mainGlobals mg) (hfa : mg "law" = some (.ref fa)) {f0 f1 f2 f3 f4 f5 f6 f7 f8 f9 f10 f11 f12 f13 f14 f15 f16 f17 f18 f19 f20 f21 : Addr} {od0 an0 od1 an1 od2 an2 od3 an3 od4 an4 od5 an5 od6 an6 od7 an7 od8 an8 od9 an9 od10 an10 od11 an11 od12 an12 od13 an13 od14 an14 od15 an15 od16 an16 od17 an17 od18 an18 od19 an19 od20 an20 od21 an21 : Option Addr} {sl0 sl1 sl2 sl3 sl4 sl5 sl6 sl7 sl8 sl9 sl10 sl11 sl12 sl13 sl14 sl15 sl16 sl17 sl18 sl19 sl20 sl21 : Array (Option Value)} {oc0 kV0 dc0 pm0 cd0 ct0 oc1 kV1 dc1 pm1 cd1 ct1 oc2 kV2 dc2 pm2 cd2 ct2 oc3 kV3 dc3 pm3 cd3 ct3 oc4 kV4 dc4 pm4 cd4 ct4 oc5 kV5 dc5 pm5 cd5 ct5 oc6 kV6 dc6 pm6 cd6 ct6 oc7 kV7 dc7 pm7 cd7 ct7 oc8 kV8 dc8 pm8 cd8 ct8 oc9 kV9 dc9 pm9 cd9 ct9 oc10 kV10 dc10 pm10 cd10 ct10 oc11 kV11 dc11 pm11 cd11 ct11 oc12 kV12 dc12 pm12 cd12 ct12 oc13 kV13 dc13 pm13 cd13 ct13 oc14 kV14 dc14 pm14 cd14 ct14 oc15 kV15 dc15 pm15 cd15 ct15 oc16 kV16 dc16 pm16 cd16 ct16 oc17 kV17 dc17 pm17 cd17 ct17 oc18 kV18 dc18 pm18 cd18 ct18 oc19 kV19 dc19 pm19 cd19 ct19 oc20 kV20 dc20 pm20 cd20 ct20 oc21 kV21 dc21 pm21 cd21 ct21 : Value}
   (a0 : PySem.W.nsIn K mainGlobals "places_around" = some (some (.ref f0))) (l0 : K.lookup f0 = some ⟨oc0, od0, .func (PySem.W.fnOf "places_around" "places_around" (zaN (top 1)) (zaI (top 1)) (zaj (top 1)) .none kV0 dc0 pm0 an0 cd0 ct0), sl0⟩) (c0 : PySem.W.codeIn K cd0 "places_around" = true) (k0 : PySem.W.keepIn K (.ref f0) = true)
   (a1 : PySem.W.nsIn K mainGlobals "sides_of" = some (some (.ref f1))) (l1 : K.lookup f1 = some ⟨oc1, od1, .func (PySem.W.fnOf "sides_of" "sides_of" (zaN (top 2)) (zaI (top 2)) (zaj (top 2)) .none kV1 dc1 pm1 an1 cd1 ct1), sl1⟩) (c1 : PySem.W.codeIn K cd1 "sides_of" = true) (k1 : PySem.W.keepIn K (.ref f1) = true)
   (a2 : PySem.W.nsIn K mainGlobals "kinds_by_place" = some (some (.ref f2))) (l2 : K.lookup f2 = some ⟨oc2, od2, .func (PySem.W.fnOf "kinds_by_place" "kinds_by_place" (zaN (top 3)) (zaI (top 3)) (zaj (top 3)) .none kV2 dc2 pm2 an2 cd2 ct2), sl2⟩) (c2 : PySem.W.codeIn K cd2 "kinds_by_place" = true) (k2 : PySem.W.keepIn K (.ref f2) = true)
   (a3 : PySem.W.nsIn K mainGlobals "names_facing" = some (some (.ref f3))) (l3 : K.lookup f3 = some ⟨oc3, od3, .func (PySem.W.fnOf "names_facing" "names_facing" (zaN (top 4)) (zaI (top 4)) (zaj (top 4)) .none kV3 dc3 pm3 an3 cd3 ct3), sl3⟩) (c3 : PySem.W.codeIn K cd3 "names_facing" = true) (k3 : PySem.W.keepIn K (.ref f3) = true)
   (a4 : PySem.W.nsIn K mainGlobals "strength_together" = some (some (.ref f4))) (l4 : K.lookup f4 = some ⟨oc4, od4, .func (PySem.W.fnOf "strength_together" "strength_together" (zaN (top 5)) (zaI (top 5)) (zaj (top 5)) .none kV4 dc4 pm4 an4 cd4 ct4), sl4⟩) (c4 : PySem.W.codeIn K cd4 "strength_together" = true) (k4 : PySem.W.keepIn K (.ref f4) = true)
   (a5 : PySem.W.nsIn K mainGlobals "growings_at" = some (some (.ref f5))) (l5 : K.lookup f5 = some ⟨oc5, od5, .func (PySem.W.fnOf "growings_at" "growings_at" (zaN (top 6)) (zaI (top 6)) (zaj (top 6)) .none kV5 dc5 pm5 an5 cd5 ct5), sl5⟩) (c5 : PySem.W.codeIn K cd5 "growings_at" = true) (k5 : PySem.W.keepIn K (.ref f5) = true)
   (a6 : PySem.W.nsIn K mainGlobals "growings" = some (some (.ref f6))) (l6 : K.lookup f6 = some ⟨oc6, od6, .func (PySem.W.fnOf "growings" "growings" (zaN (top 7)) (zaI (top 7)) (zaj (top 7)) .none kV6 dc6 pm6 an6 cd6 ct6), sl6⟩) (c6 : PySem.W.codeIn K cd6 "growings" = true) (k6 : PySem.W.keepIn K (.ref f6) = true)
   (a7 : PySem.W.nsIn K mainGlobals "_law_begin" = some (some (.ref f7))) (l7 : K.lookup f7 = some ⟨oc7, od7, .func (PySem.W.fnOf "_law_begin" "_law_begin" (zaN (top 9)) (zaI (top 9)) (zaj (top 9)) .none kV7 dc7 pm7 an7 cd7 ct7), sl7⟩) (c7 : PySem.W.codeIn K cd7 "_law_begin" = true) (k7 : PySem.W.keepIn K (.ref f7) = true)
   (a8 : PySem.W.nsIn K mainGlobals "_law_draw" = some (some (.ref f8))) (l8 : K.lookup f8 = some ⟨oc8, od8, .func (PySem.W.fnOf "_law_draw" "_law_draw" (zaN (top 10)) (zaI (top 10)) (zaj (top 10)) .none kV8 dc8 pm8 an8 cd8 ct8), sl8⟩) (c8 : PySem.W.codeIn K cd8 "_law_draw" = true) (k8 : PySem.W.keepIn K (.ref f8) = true)
   (a9 : PySem.W.nsIn K mainGlobals "_law_names" = some (some (.ref f9))) (l9 : K.lookup f9 = some ⟨oc9, od9, .func (PySem.W.fnOf "_law_names" "_law_names" (zaN (top 11)) (zaI (top 11)) (zaj (top 11)) .none kV9 dc9 pm9 an9 cd9 ct9), sl9⟩) (c9 : PySem.W.codeIn K cd9 "_law_names" = true) (k9 : PySem.W.keepIn K (.ref f9) = true)
   (a10 : PySem.W.nsIn K mainGlobals "_law_kind" = some (some (.ref f10))) (l10 : K.lookup f10 = some ⟨oc10, od10, .func (PySem.W.fnOf "_law_kind" "_law_kind" (zaN (top 12)) (zaI (top 12)) (zaj (top 12)) .none kV10 dc10 pm10 an10 cd10 ct10), sl10⟩) (c10 : PySem.W.codeIn K cd10 "_law_kind" = true) (k10 : PySem.W.keepIn K (.ref f10) = true)
   (a11 : PySem.W.nsIn K mainGlobals "_law_house" = some (some (.ref f11))) (l11 : K.lookup f11 = some ⟨oc11, od11, .func (PySem.W.fnOf "_law_house" "_law_house" (zaN (top 13)) (zaI (top 13)) (zaj (top 13)) .none kV11 dc11 pm11 an11 cd11 ct11), sl11⟩) (c11 : PySem.W.codeIn K cd11 "_law_house" = true) (k11 : PySem.W.keepIn K (.ref f11) = true)
   (a12 : PySem.W.nsIn K mainGlobals "_law_standing" = some (some (.ref f12))) (l12 : K.lookup f12 = some ⟨oc12, od12, .func (PySem.W.fnOf "_law_standing" "_law_standing" (zaN (top 14)) (zaI (top 14)) (zaj (top 14)) .none kV12 dc12 pm12 an12 cd12 ct12), sl12⟩) (c12 : PySem.W.codeIn K cd12 "_law_standing" = true) (k12 : PySem.W.keepIn K (.ref f12) = true)
   (a13 : PySem.W.nsIn K mainGlobals "_law_bed" = some (some (.ref f13))) (l13 : K.lookup f13 = some ⟨oc13, od13, .func (PySem.W.fnOf "_law_bed" "_law_bed" (zaN (top 15)) (zaI (top 15)) (zaj (top 15)) .none kV13 dc13 pm13 an13 cd13 ct13), sl13⟩) (c13 : PySem.W.codeIn K cd13 "_law_bed" = true) (k13 : PySem.W.keepIn K (.ref f13) = true)
   (a14 : PySem.W.nsIn K mainGlobals "_law_lying" = some (some (.ref f14))) (l14 : K.lookup f14 = some ⟨oc14, od14, .func (PySem.W.fnOf "_law_lying" "_law_lying" (zaN (top 16)) (zaI (top 16)) (zaj (top 16)) .none kV14 dc14 pm14 an14 cd14 ct14), sl14⟩) (c14 : PySem.W.codeIn K cd14 "_law_lying" = true) (k14 : PySem.W.keepIn K (.ref f14) = true)
   (a15 : PySem.W.nsIn K mainGlobals "_law_step" = some (some (.ref f15))) (l15 : K.lookup f15 = some ⟨oc15, od15, .func (PySem.W.fnOf "_law_step" "_law_step" (zaN (top 17)) (zaI (top 17)) (zaj (top 17)) .none kV15 dc15 pm15 an15 cd15 ct15), sl15⟩) (c15 : PySem.W.codeIn K cd15 "_law_step" = true) (k15 : PySem.W.keepIn K (.ref f15) = true)
   (a16 : PySem.W.nsIn K mainGlobals "_law_sides" = some (some (.ref f16))) (l16 : K.lookup f16 = some ⟨oc16, od16, .func (PySem.W.fnOf "_law_sides" "_law_sides" (zaN (top 18)) (zaI (top 18)) (zaj (top 18)) .none kV16 dc16 pm16 an16 cd16 ct16), sl16⟩) (c16 : PySem.W.codeIn K cd16 "_law_sides" = true) (k16 : PySem.W.keepIn K (.ref f16) = true)
   (a17 : PySem.W.nsIn K mainGlobals "_law_by" = some (some (.ref f17))) (l17 : K.lookup f17 = some ⟨oc17, od17, .func (PySem.W.fnOf "_law_by" "_law_by" (zaN (top 19)) (zaI (top 19)) (zaj (top 19)) .none kV17 dc17 pm17 an17 cd17 ct17), sl17⟩) (c17 : PySem.W.codeIn K cd17 "_law_by" = true) (k17 : PySem.W.keepIn K (.ref f17) = true)
   (a18 : PySem.W.nsIn K mainGlobals "_law_empty" = some (some (.ref f18))) (l18 : K.lookup f18 = some ⟨oc18, od18, .func (PySem.W.fnOf "_law_empty" "_law_empty" (zaN (top 20)) (zaI (top 20)) (zaj (top 20)) .none kV18 dc18 pm18 an18 cd18 ct18), sl18⟩) (c18 : PySem.W.codeIn K cd18 "_law_empty" = true) (k18 : PySem.W.keepIn K (.ref f18) = true)
   (a19 : PySem.W.nsIn K mainGlobals "_law_may" = some (some (.ref f19))) (l19 : K.lookup f19 = some ⟨oc19, od19, .func (PySem.W.fnOf "_law_may" "_law_may" (zaN (top 21)) (zaI (top 21)) (zaj (top 21)) .none kV19 dc19 pm19 an19 cd19 ct19), sl19⟩) (c19 : PySem.W.codeIn K cd19 "_law_may" = true) (k19 : PySem.W.keepIn K (.ref f19) = true)
   (a20 : PySem.W.nsIn K mainGlobals "_law_full" = some (some (.ref f20))) (l20 : K.lookup f20 = some ⟨oc20, od20, .func (PySem.W.fnOf "_law_full" "_law_full" (zaN (top 22)) (zaI (top 22)) (zaj (top 22)) .none kV20 dc20 pm20 an20 cd20 ct20), sl20⟩) (c20 : PySem.W.codeIn K cd20 "_law_full" = true) (k20 : PySem.W.keepIn K (.ref f20) = true)
   (a21 : PySem.W.nsIn K mainGlobals "law" = some (some (.ref f21))) (l21 : K.lookup f21 = some ⟨oc21, od21, .func (PySem.W.fnOf "law" "law" (zaN (top 23)) (zaI (top 23)) (zaj (top 23)) .none kV21 dc21 pm21 an21 cd21 ct21), sl21⟩) (c21 : PySem.W.codeIn K cd21 "law" = true) (k21 : PySem.W.keepIn K (.ref f21) = true)
   (z0 : PySem.W.nsIn K mainGlobals "len" = some none)
   (z1 : PySem.W.nsIn K mainGlobals "enumerate" = some none)
   (z2 : PySem.W.nsIn K mainGlobals "zip" = some none)
   (z3 : PySem.W.nsIn K mainGlobals "sum" = some none)
   (z4 : PySem.W.nsIn K mainGlobals "any" = some none)
   (z5 : PySem.W.nsIn K mainGlobals "dict" = some none)
   (z6 : PySem.W.nsIn K mainGlobals "range" = some none)
   (z7 : PySem.W.nsIn K mainGlobals "tuple" = some none)
   (z8 : PySem.W.nsIn K mainGlobals "int" = some none)
   (z9 : PySem.W.nsIn K mainGlobals "sorted" = some none)
   (z10 : PySem.W.nsIn K mainGlobals "min" = some none)
   (z11 : PySem.W.nsIn K mainGlobals "repr" = some none) :
   ∃ fd : FuncData, (∀ (s : Shared) (v : Value), BindsTo s fd ⟨[v], []⟩ [("_law_script", v)])∧∀ base : Heap, K.In base→base.Ns mainGlobals mg→FnOk l.prog w K mg base CX0 5 fa fd ["_law_script"] (spM K 1 zli) := by
 have e := hfa.symm.trans (PySem.W.mg_of X G a21)
 cases e
 have L0 : Laid K mg "places_around" (top 1) ["place"] := ⟨_, _, zaJ (st := top 1) l0 c0 k0, PySem.W.mg_of X G a0, (zaJ (st := top 1) l0 c0 k0).binds (ps := ["place"]) fun _ _ _ _ _ _ us hl => match us, hl with | [_], _ => rfl⟩
 have L1 : Laid K mg "sides_of" (top 2) ["bed", "kind"] := ⟨_, _, zaJ (st := top 2) l1 c1 k1, PySem.W.mg_of X G a1, (zaJ (st := top 2) l1 c1 k1).binds (ps := ["bed", "kind"]) fun _ _ _ _ _ _ us hl => match us, hl with | [_, _], _ => rfl⟩
 have L2 : Laid K mg "kinds_by_place" (top 3) ["standing"] := ⟨_, _, zaJ (st := top 3) l2 c2 k2, PySem.W.mg_of X G a2, (zaJ (st := top 3) l2 c2 k2).binds (ps := ["standing"]) fun _ _ _ _ _ _ us hl => match us, hl with | [_], _ => rfl⟩
 have L3 : Laid K mg "names_facing" (top 4) ["bed", "standing_kinds", "place"] := ⟨_, _, zaJ (st := top 4) l3 c3 k3, PySem.W.mg_of X G a3, (zaJ (st := top 4) l3 c3 k3).binds (ps := ["bed", "standing_kinds", "place"]) fun _ _ _ _ _ _ us hl => match us, hl with | [_, _, _], _ => rfl⟩
 have L4 : Laid K mg "strength_together" (top 5) ["strengths", "sides", "names"] := ⟨_, _, zaJ (st := top 5) l4 c4 k4, PySem.W.mg_of X G a4, (zaJ (st := top 5) l4 c4 k4).binds (ps := ["strengths", "sides", "names"]) fun _ _ _ _ _ _ us hl => match us, hl with | [_, _, _], _ => rfl⟩
 have L5 : Laid K mg "growings_at" (top 6) ["bed", "strengths", "names", "place"] := ⟨_, _, zaJ (st := top 6) l5 c5 k5, PySem.W.mg_of X G a5, (zaJ (st := top 6) l5 c5 k5).binds (ps := ["bed", "strengths", "names", "place"]) fun _ _ _ _ _ _ us hl => match us, hl with | [_, _, _, _], _ => rfl⟩
 have L6 : Laid K mg "growings" (top 7) ["bed", "standing"] := ⟨_, _, zaJ (st := top 7) l6 c6 k6, PySem.W.mg_of X G a6, (zaJ (st := top 7) l6 c6 k6).binds (ps := ["bed", "standing"]) fun _ _ _ _ _ _ us hl => match us, hl with | [_, _], _ => rfl⟩
 have L7 : Laid K mg "_law_begin" (top 9) ["_law_script", "_law_k"] := ⟨_, _, zaJ (st := top 9) l7 c7 k7, PySem.W.mg_of X G a7, (zaJ (st := top 9) l7 c7 k7).binds (ps := ["_law_script", "_law_k"]) fun _ _ _ _ _ _ us hl => match us, hl with | [_, _], _ => rfl⟩
 have L8 : Laid K mg "_law_draw" (top 10) ["_law_pot", "_law_many"] := ⟨_, _, zaJ (st := top 10) l8 c8 k8, PySem.W.mg_of X G a8, (zaJ (st := top 10) l8 c8 k8).binds (ps := ["_law_pot", "_law_many"]) fun _ _ _ _ _ _ us hl => match us, hl with | [_, _], _ => rfl⟩
 have L9 : Laid K mg "_law_names" (top 11) ["_law_pot", "_law_many"] := ⟨_, _, zaJ (st := top 11) l9 c9 k9, PySem.W.mg_of X G a9, (zaJ (st := top 11) l9 c9 k9).binds (ps := ["_law_pot", "_law_many"]) fun _ _ _ _ _ _ us hl => match us, hl with | [_, _], _ => rfl⟩
 have L10 : Laid K mg "_law_kind" (top 12) ["_law_pot", "_law_names_here"] := ⟨_, _, zaJ (st := top 12) l10 c10 k10, PySem.W.mg_of X G a10, (zaJ (st := top 12) l10 c10 k10).binds (ps := ["_law_pot", "_law_names_here"]) fun _ _ _ _ _ _ us hl => match us, hl with | [_, _], _ => rfl⟩
 have L11 : Laid K mg "_law_house" (top 13) ["_law_pot"] := ⟨_, _, zaJ (st := top 13) l11 c11 k11, PySem.W.mg_of X G a11, (zaJ (st := top 13) l11 c11 k11).binds (ps := ["_law_pot"]) fun _ _ _ _ _ _ us hl => match us, hl with | [_], _ => rfl⟩
 have L12 : Laid K mg "_law_standing" (top 14) ["_law_pot", "_law_house_here", "_law_floor", "_law_most"] := ⟨_, _, zaJ (st := top 14) l12 c12 k12, PySem.W.mg_of X G a12, (zaJ (st := top 14) l12 c12 k12).binds (ps := ["_law_pot", "_law_house_here", "_law_floor", "_law_most"]) fun _ _ _ _ _ _ us hl => match us, hl with | [_, _, _, _], _ => rfl⟩
 have L13 : Laid K mg "_law_bed" (top 15) ["_law_pot"] := ⟨_, _, zaJ (st := top 15) l13 c13 k13, PySem.W.mg_of X G a13, (zaJ (st := top 15) l13 c13 k13).binds (ps := ["_law_pot"]) fun _ _ _ _ _ _ us hl => match us, hl with | [_], _ => rfl⟩
 have L14 : Laid K mg "_law_lying" (top 16) ["_law_standing_here"] := ⟨_, _, zaJ (st := top 16) l14 c14 k14, PySem.W.mg_of X G a14, (zaJ (st := top 16) l14 c14 k14).binds (ps := ["_law_standing_here"]) fun _ _ _ _ _ _ us hl => match us, hl with | [_], _ => rfl⟩
 have L15 : Laid K mg "_law_step" (top 17) ["_law_place", "_law_side"] := ⟨_, _, zaJ (st := top 17) l15 c15 k15, PySem.W.mg_of X G a15, (zaJ (st := top 17) l15 c15 k15).binds (ps := ["_law_place", "_law_side"]) fun _ _ _ _ _ _ us hl => match us, hl with | [_, _], _ => rfl⟩
 have L16 : Laid K mg "_law_sides" (top 18) ["_law_bed_here", "_law_there", "_law_place", "_law_kind_here"] := ⟨_, _, zaJ (st := top 18) l16 c16 k16, PySem.W.mg_of X G a16, (zaJ (st := top 18) l16 c16 k16).binds (ps := ["_law_bed_here", "_law_there", "_law_place", "_law_kind_here"]) fun _ _ _ _ _ _ us hl => match us, hl with | [_, _, _, _], _ => rfl⟩
 have L17 : Laid K mg "_law_by" (top 19) ["_law_bed_here", "_law_there", "_law_place", "_law_kind_here"] := ⟨_, _, zaJ (st := top 19) l17 c17 k17, PySem.W.mg_of X G a17, (zaJ (st := top 19) l17 c17 k17).binds (ps := ["_law_bed_here", "_law_there", "_law_place", "_law_kind_here"]) fun _ _ _ _ _ _ us hl => match us, hl with | [_, _, _, _], _ => rfl⟩
 have L18 : Laid K mg "_law_empty" (top 20) ["_law_bed_here", "_law_there"] := ⟨_, _, zaJ (st := top 20) l18 c18 k18, PySem.W.mg_of X G a18, (zaJ (st := top 20) l18 c18 k18).binds (ps := ["_law_bed_here", "_law_there"]) fun _ _ _ _ _ _ us hl => match us, hl with | [_, _], _ => rfl⟩
 have L19 : Laid K mg "_law_may" (top 21) ["_law_bed_here", "_law_there"] := ⟨_, _, zaJ (st := top 21) l19 c19 k19, PySem.W.mg_of X G a19, (zaJ (st := top 21) l19 c19 k19).binds (ps := ["_law_bed_here", "_law_there"]) fun _ _ _ _ _ _ us hl => match us, hl with | [_, _], _ => rfl⟩
 have L20 : Laid K mg "_law_full" (top 22) ["_law_pot", "_law_bed_here"] := ⟨_, _, zaJ (st := top 22) l20 c20 k20, PySem.W.mg_of X G a20, (zaJ (st := top 22) l20 c20 k20).binds (ps := ["_law_pot", "_law_bed_here"]) fun _ _ _ _ _ _ us hl => match us, hl with | [_, _], _ => rfl⟩
 exact ⟨_, fun s v => .of_eq rfl, fun base _ _ => zpb (PySem.W.mg_none_of X G z0) (PySem.W.mg_none_of X G z1) (PySem.W.mg_none_of X G z2) (PySem.W.mg_none_of X G z3) (PySem.W.mg_none_of X G z4) (PySem.W.mg_none_of X G z5) (PySem.W.mg_none_of X G z6) (PySem.W.mg_none_of X G z7) (PySem.W.mg_none_of X G z8) (PySem.W.mg_none_of X G z9) (PySem.W.mg_none_of X G z10) (PySem.W.mg_none_of X G z11) L0 L1 L2 L3 L4 L5 L6 L7 L8 L9 L10 L11 L12 L13 L14 L15 L16 L17 L18 L19 L20 (zaJ (st := top 23) l21 c21 k21)⟩
end L2.MP.stickytiles_k11_growings
set_option maxHeartbeats 4000000
namespace L2.MP.stickytiles_k11_growings
open PySem L2.MP L2.MP.Hd
open L2.MP.Hn (zat)
theorem zhq {x y : Int} {d : Nat} {kvs : List (List Key × D)} {st : Sto} (h : st[d]? = some (.dt kvs)) : zeo (.tup [.int x, .int y]) (.ref d) st = some (.bl (!(valD kvs [.inl x, .inl y]).isSome), st) := by
 have e0 : toP 50 st (.ref d) = none := by rw [toP]; simp [zbj, h]
 have e1 : inD true (.tup [.int x, .int y]) (.ref d) st = none := by
   unfold inD
   rw [e0]
   cases toP 50 st (.tup [.int x, .int y]) <;> rfl
 unfold zeo orG zkC orG
 rw [e1, zgN]
 simp [dinD, look, h, keysOf, keyOf, zfs]
def tD (t : Tl) : D := tupD (rowT t)
def sth (stk : List (Str × Int)) (ks : List (List Str)) (P : List Tl) (x y : Int) (k : Nat) : Int := ((togs (sds ks (k : Int)) (names4 ks P x y)).map fun p => sv stk p.1).sum
def gK (e : Int) (stk : List (Str × Int)) (ks : List (List Str)) (P : List Tl) (x y : Int) (n : Nat) : List Tl := ((List.range n).filter fun k => decide (e ≤ sth stk ks P x y k)).map fun (k : Nat) => (x, y, (k : Int))
theorem zge (e : Int) (stk : List (Str × Int)) (ks : List (List Str)) (P : List Tl) (x y : Int) (n : Nat) : gK e stk ks P x y (n + 1) = if e ≤ sth stk ks P x y n then gK e stk ks P x y n ++ [(x, y, (n : Int))] else gK e stk ks P x y n := by
 unfold gK
 rw [List.range_succ, List.filter_append, List.map_append]
 by_cases h : e ≤ sth stk ks P x y n
 · rw [if_pos h]; simp [h]
 · rw [if_neg h]; simp [h]
theorem zhQ (e : Int) (stk : List (Str × Int)) (ks : List (List Str)) (P : List Tl) (x y : Int) (n : Nat) : (gK e stk ks P x y n).length ≤ n := by
 unfold gK
 rw [List.length_map]
 exact Nat.le_trans (List.length_filter_le _ _) (by simp)
theorem zki {bed pl hs sl : D} {d ln l : Nat} {num E R a b : Int} {kd : D} {L : List D} {s s1 : Sto} (es : slB kd (some 1) none s = some (sl, s)) (e1 : zaz [.ref d, sl, .ref ln] s = some (.int R, s1)) (ie : ixA hs (.int 0) s1 = some (.int E, s1)) (hR : E ≤ R) (hl : s1[l]? = some (.lst L)) (i0 : ixA pl (.int 0) s1 = some (.int a, s1)) (i1 : ixA pl (.int 1) s1 = some (.int b, s1)) (ea : zbT (.ref l) [.tup [.int a, .int b, .int num]] s1 = some (.non, s1.set l (.lst (L ++ [.tup [.int a, .int b, .int num]])))) :
   zaS [some bed, some (.ref d), some (.ref ln), some pl, some hs, some (.ref l), some (.int num), some kd] s = some (.nx [some bed, some (.ref d), some (.ref ln), some pl, some hs, some (.ref l), some (.int num), some kd], s1.set l (.lst (L ++ [.tup [.int a, .int b, .int num]]))) := by
 unfold zaS
 simp [rho, EVs, ltD, leD, gtD, geD, cmpD, intC, rho0, es, e1, ie, hR, zbj, hl, i0, i1, ea]
theorem zlI {bed pl hs sl : D} {d ln l : Nat} {num E R : Int} {kd : D} {s s1 : Sto} (es : slB kd (some 1) none s = some (sl, s)) (e1 : zaz [.ref d, sl, .ref ln] s = some (.int R, s1)) (ie : ixA hs (.int 0) s1 = some (.int E, s1)) (hR : ¬ E ≤ R) :
   zaS [some bed, some (.ref d), some (.ref ln), some pl, some hs, some (.ref l), some (.int num), some kd] s = some (.nx [some bed, some (.ref d), some (.ref ln), some pl, some hs, some (.ref l), some (.int num), some kd], s1) := by
 unfold zaS
 simp [rho, EVs, ltD, leD, gtD, geD, cmpD, intC, rho0, es, e1, ie, hR]
structure Ctx (bed : D) (e : Int) (stk : List (Str × Int)) (ks : List (List Str)) (w h : Int) : Prop where
 at_ : ∃ hs : D, (∀ s : Sto, ixA bed (.int 0) s = some (hs, s))∧(∀ s : Sto, ixA hs (.int 0) s = some (.int e, s))∧(∀ s : Sto, ixA hs (.int 1) s = some (.tup (stk.map zbq), s))∧∀ s : Sto, ixA hs (.int 2) s = some (.tup (ks.map zbv), s)
 fl : ∀ s : Sto, ixA bed (.int 1) s = some (.tup [.int w, .int h], s)
 hs : HsOk e stk ks
 fo : FlOk w h
theorem Ctx.bed {bed : D} {e w h : Int} {stk : List (Str × Int)} {ks : List (List Str)} (c : Ctx bed e stk ks w h) : BedAt bed stk ks := let ⟨hs, i0, _, i1, i2⟩ := c.at_; ⟨hs, i0, i1, i2⟩
theorem Ctx.ks {bed : D} {e w h : Int} {stk : List (Str × Int)} {ks : List (List Str)} (c : Ctx bed e stk ks w h) : KsOk (stk.map (·.1)) ks := ⟨by have := c.hs.hi; omega, c.hs.kd⟩
theorem Ctx.stk {bed : D} {e w h : Int} {stk : List (Str × Int)} {ks : List (List Str)} (c : Ctx bed e stk ks w h) : ∀ p ∈ stk, 1 ≤ p.2∧p.2 ≤ 4 := fun p hp => (c.hs.nm p hp).2
theorem noth {S : List Str} : togs S [("" : Str), ("" : Str), ("" : Str), ("" : Str)] = [] := by
 unfold togs
 rw [List.filter_eq_nil_iff]
 intro p hp
 obtain ⟨a, b⟩ := p
 have hb : b = "" := by
   have := (List.of_mem_zip hp).2
   simpa using this
 subst hb
 cases h : a == "" with
 | true => simp [bne, h]
 | false => simp [h]
theorem zmG {e : Int} {stk : List (Str × Int)} {ks : List (List Str)} {P : List Tl} {x y : Int} (he : 1 ≤ e) (h : names4 ks P x y = [("" : Str), ("" : Str), ("" : Str), ("" : Str)]) (n : Nat) : gK e stk ks P x y n = [] := by
 unfold gK
 have : (List.range n).filter (fun k => decide (e ≤ sth stk ks P x y k)) = [] := by
   rw [List.filter_eq_nil_iff]
   intro k _
   unfold sth
   rw [h, noth]
   simp
   omega
 rw [this]
 rfl
theorem zqv {bed : D} {e w h : Int} {stk : List (Str × Int)} {ks : List (List Str)} {P : List Tl} {x y : Int} {d ln : Nat} {st : Sto} (c : Ctx bed e stk ks w h) (hP : ∀ t ∈ P, 0 ≤ t.2.2∧t.2.2 < (ks.length : Int)) (hd : st[d]? = some (.dk (stD stk))) (hn : st[ln]? = some (.lst ((names4 ks P x y).map D.str))) :
   ∃ st', zbp [bed, .ref d, .ref ln, .tup [.int x, .int y]] st = some (.ref st.length, st')∧st'[st.length]? = some (.lst ((gK e stk ks P x y ks.length).map tD))∧Gr st st' := by
 obtain ⟨hs, i0, ie, _, i2⟩ := c.at_
 have hstr : strsOf ((names4 ks P x y).map D.str) = some (names4 ks P x y) := zey _
 have hN : ∀ u ∈ names4 ks P x y, NmOk u := fun u hu => by
   simp [names4] at hu
   rcases hu with rfl | rfl | rfl | rfl <;> exact nm_F c.ks hP _ _
 have hsz : sizeLine = 16777216 := sizeLine_eq
 have hall : ((names4 ks P x y).all fun z => decide (z.length ≤ sizeLine)) = true := List.all_eq_true.mpr fun u hu => decide_eq_true (by
   have := (hN u hu).len
   rw [len_list, hsz]
   omega)
 have hn1 : (st ++ [O.lst []])[ln]? = some (.lst ((names4 ks P x y).map D.str)) := by rw [List.getElem?_append_left (getElem?_lt hn)]; exact hn
 have ea : anyT [.ref ln] (st ++ [O.lst []]) = some (.bl ((names4 ks P x y).any isT), st ++ [O.lst []]) := by
   unfold anyT
   simp only [zbj, hn1, Option.bind_some, hstr, hall, if_true]
 have hd1 : (st ++ [O.lst []])[d]? = some (.dk (stD stk)) := by rw [List.getElem?_append_left (getElem?_lt hd)]; exact hd
 have a1 := zaY st (.lst [])
 have g1 := Gr.app st [.lst []]
 have s1l : (st ++ [O.lst []]).length = st.length + 1 := by simp
 generalize hs1 : st ++ [O.lst []] = s1 at *
 by_cases hany : (names4 ks P x y).any isT = true
 · rw [hany] at ea
   have hdl := getElem?_lt hd
   have hnl := getElem?_lt hn
   have key := zbs (W := ⟨pairs (ks.map zbv), []⟩) (g := gTp 2 (gC (gNm 6) (gC (gNm 7) (gN0)))) (m := zaS) (ds := pairs (ks.map zbv)) (ρ := [some bed, some (.ref d), some (.ref ln), some (.tup [.int x, .int y]), some hs, some (.ref st.length), none, none]) (st := s1)
     (Inv := fun k ρ s => (∃ a b, ρ = [some bed, some (.ref d), some (.ref ln), some (.tup [.int x, .int y]), some hs, some (.ref st.length), a, b])∧s[st.length]? = some (.lst ((gK e stk ks P x y k).map tD))∧Gr st s)
     ⟨⟨_, _, rfl⟩, a1, g1⟩ (fun _ _ _ _ _ => rfl) (fun k dd ρ s hdd hI => by
       obtain ⟨⟨u, v, rfl⟩, hat, hg⟩ := hI
       obtain ⟨kd, hkd, rfl⟩ := zf1 hdd
       rw [List.getElem?_map] at hkd
       obtain ⟨kk, hkk, rfl⟩ := zag hkd
       have hk := getElem?_lt hkk
       have k1 : ((k : Nat) : Int) < (ks.length : Int) := by omega
       obtain ⟨f, b0, b1, b2, b3, ek, es, hok⟩ := zc1 c.ks (k := (k : Int)) (by omega) k1
       have hkk' : kk = [f, b0, b1, b2, b3] := by
         rw [Int.toNat_natCast, hkk] at ek
         exact Option.some.inj ek
       subst hkk'
       have esl : slB (zbv [f, b0, b1, b2, b3]) (some 1) none s = some (.tup ((sds ks (k : Int)).map D.str), s) := by rw [es]; rfl
       obtain ⟨s2, e2, g2⟩ := zgq (S := sds ks (k : Int)) (N := names4 ks P x y) (st := s) c.stk (by rw [es]; exact Nat.le_refl _) (fun u hu => by rw [es] at hu; exact hok u hu) (fun u hu => zjs (hN u hu).ab) ((hg.old _ hdl).trans hd) ((hg.old _ hnl).trans hn)
       have hat2 := (g2.old _ (getElem?_lt hat)).trans hat
       have gg := hg.trans g2
       have hlen := zhQ e stk ks P x y k
       have k13 := c.hs.hi
       by_cases hR : e ≤ sth stk ks P x y k
       · have eap := append_at (x := .tup [.int x, .int y, .int (k : Int)]) hat2 (by rw [List.length_map]; omega)
         refine ⟨_, s, _, _, rfl, zki esl e2 (ie _) hR hat2 (za2 (by decide) rfl) (za2 (by decide) rfl) eap, ⟨_, _, rfl⟩, ?_, ⟨by rw [List.length_set]; exact gg.len, fun j hj => by rw [List.getElem?_set_ne (by omega)]; exact gg.old j hj⟩⟩
         rw [List.getElem?_set_self (getElem?_lt hat2), zge, if_pos hR, List.map_append]
         rfl
       · refine ⟨_, s, _, _, rfl, zlI esl e2 (ie _) hR, ⟨_, _, rfl⟩, ?_, gg⟩
         rw [zge, if_neg hR]
         exact hat2)
   obtain ⟨ρ', s', el, ⟨u, v, rfl⟩, hat, hg⟩ := key
   have hpl : (pairs (ks.map zbv)).length = ks.length := by unfold pairs; simp
   rw [hpl] at hat
   refine ⟨s', zcU ?_, hat, hg⟩
   unfold zce
   refine zap (ρ1 := [some bed, some (.ref d), some (.ref ln), some (.tup [.int x, .int y]), some hs, none, none, none]) (s1 := st) (by simp [rho, EVs, ltD, leD, gtD, geD, cmpD, intC, rho0, i0]) ?_
   refine zap (ρ1 := [some bed, some (.ref d), some (.ref ln), some (.tup [.int x, .int y]), some hs, some (.ref st.length), none, none]) (s1 := s1) (by simp [rho, EVs, ltD, leD, gtD, geD, cmpD, intC, rho0, hs1]) ?_
   refine zap (ρ1 := [some bed, some (.ref d), some (.ref ln), some (.tup [.int x, .int y]), some hs, some (.ref st.length), none, none]) (s1 := s1) (by simp [rho, EVs, ltD, leD, gtD, geD, cmpD, intC, rho0, ea]) ?_
   refine zap (ρ1 := [some bed, some (.ref d), some (.ref ln), some (.tup [.int x, .int y]), some hs, some (.ref st.length), u, v]) (s1 := s') (by
     have ec : mBin ixA (mVar 4) (mCon (.int 2)) [some bed, some (.ref d), some (.ref ln), some (.tup [.int x, .int y]), some hs, some (.ref st.length), none, none] s1 = some (.tup (ks.map zbv), s1) := by simp [rho, EVs, ltD, leD, gtD, geD, cmpD, intC, rho0, i2]
     rw [zcj, zhW ec]
     exact el) ?_
   simp [rho, EVs, ltD, leD, gtD, geD, cmpD, intC, rho0]
 · have hf : (names4 ks P x y).any isT = false := by simpa using hany
   rw [hf] at ea
   have hem : ∀ u ∈ names4 ks P x y, u = "" := fun u hu => by
     have h1 : isT u = false := by
       rw [List.any_eq_false] at hf
       simpa using hf u hu
     unfold isT at h1
     have h2 : u.length = 0 := by simpa using h1
     refine zfO ?_
     have h3 : u.cps.toList.length = 0 := by rw [← len_list]; exact h2
     rw [List.length_eq_zero_iff.mp h3]
     rfl
   have h4 : names4 ks P x y = [("" : Str), ("" : Str), ("" : Str), ("" : Str)] := by
     have q0 := hem (nmF ks P (x, y + 1) 2) (by simp [names4])
     have q1 := hem (nmF ks P (x + 1, y) 3) (by simp [names4])
     have q2 := hem (nmF ks P (x, y - 1) 0) (by simp [names4])
     have q3 := hem (nmF ks P (x - 1, y) 1) (by simp [names4])
     unfold names4
     rw [q0, q1, q2, q3]
   have hnil : gK e stk ks P x y ks.length = [] := zmG c.hs.e0 h4 _
   refine ⟨s1, zcU ?_, by rw [hnil]; exact a1, g1⟩
   unfold zce
   refine zap (ρ1 := [some bed, some (.ref d), some (.ref ln), some (.tup [.int x, .int y]), some hs, none, none, none]) (s1 := st) (by simp [rho, EVs, ltD, leD, gtD, geD, cmpD, intC, rho0, i0]) ?_
   refine zap (ρ1 := [some bed, some (.ref d), some (.ref ln), some (.tup [.int x, .int y]), some hs, some (.ref st.length), none, none]) (s1 := s1) (by simp [rho, EVs, ltD, leD, gtD, geD, cmpD, intC, rho0, hs1]) (zg9 ?_)
   simp [rho, EVs, ltD, leD, gtD, geD, cmpD, intC, rho0, ea]
end L2.MP.stickytiles_k11_growings
namespace L2.MP.stickytiles_k11_growings
open PySem L2.MP L2.MP.Hd
open L2.MP.Hn (zat zgf)
section
variable (e : Int) (stk : List (Str × Int)) (ks : List (List Str)) (P : List Tl)
def gA (x y : Int) : List Tl := if (fnd P x y).isSome = true then [] else gK e stk ks P x y ks.length
def gC (x : Int) (m : Nat) : List Tl := ((List.range m).map fun (j : Nat) => gA e stk ks P x (j : Int)).flatten
def gF (h : Int) (n : Nat) : List Tl := ((List.range n).map fun (i : Nat) => gC e stk ks P (i : Int) h.toNat).flatten
theorem zhS (x : Int) (m : Nat) : gC e stk ks P x (m + 1) = gC e stk ks P x m ++ gA e stk ks P x (m : Int) := by
 unfold gC
 rw [List.range_succ, List.map_append, List.flatten_append]
 simp
theorem zhR (h : Int) (n : Nat) : gF e stk ks P h (n + 1) = gF e stk ks P h n ++ gC e stk ks P (n : Int) h.toNat := by
 unfold gF
 rw [List.range_succ, List.map_append, List.flatten_append]
 simp
theorem zoM (x y : Int) : (gA e stk ks P x y).length ≤ ks.length := by
 unfold gA
 split
 · exact Nat.zero_le _
 · exact zhQ ..
theorem zkX (x : Int) : ∀ m : Nat, (gC e stk ks P x m).length ≤ m * ks.length
 | 0 => by simp [gC]
 | m + 1 => by
   have h1 := zkX x m
   have h2 := zoM e stk ks P x (m : Int)
   rw [zhS, List.length_append, Nat.add_mul]
   omega
theorem zkW (h : Int) : ∀ n : Nat, (gF e stk ks P h n).length ≤ n * (h.toNat * ks.length)
 | 0 => by simp [gF]
 | n + 1 => by
   have h1 := zkW h n
   have h2 := zkX e stk ks P (n : Int) h.toNat
   rw [zhR, List.length_append, Nat.add_mul]
   omega
end
section
variable {bed T fl nmD : D} {d l s3 : Nat} {x y w h : Int} {a8 : Option D} {s s1 s2 : Sto} {A : List D} {k : Nat} {L : List D}
theorem zj4 (h1 : zeo (.tup [.int x, .int y]) (.ref d) s = some (.bl false, s)) :
   zbc [some bed, some T, some fl, some (.ref s3), some (.ref d), some (.ref l), some (.int x), some (.int y), a8] s = some (.nx [some bed, some T, some fl, some (.ref s3), some (.ref d), some (.ref l), some (.int x), some (.int y), a8], s) := by
 unfold zbc
 simp [rho, EVs, ltD, leD, gtD, geD, cmpD, intC, rho0, h1]
theorem zmE {ln : Nat} (h1 : zeo (.tup [.int x, .int y]) (.ref d) s = some (.bl true, s)) (e1 : zbf [bed, .ref d, .tup [.int x, .int y]] s = some (.ref ln, s1)) (hl : s1[l]? = some (.lst L)) (e2 : zbp [bed, .ref s3, .ref ln, .tup [.int x, .int y]] s1 = some (.ref k, s2)) (e3 : zc2 (.ref l) [.ref k] s2 = some (.non, s2.set l (.lst (L ++ A)))) :
   zbc [some bed, some T, some fl, some (.ref s3), some (.ref d), some (.ref l), some (.int x), some (.int y), a8] s = some (.nx [some bed, some T, some fl, some (.ref s3), some (.ref d), some (.ref l), some (.int x), some (.int y), some (.ref ln)], s2.set l (.lst (L ++ A))) := by
 unfold zbc
 have et : mTst (mBin zeo (mTup (zae (mVar 6) (zae (mVar 7) (mNil)))) (mVar 4)) [some bed, some T, some fl, some (.ref s3), some (.ref d), some (.ref l), some (.int x), some (.int y), a8] s = some (true, s) := by simp [rho, EVs, ltD, leD, gtD, geD, cmpD, intC, rho0, h1]
 rw [zlv, et]
 refine zap (ρ1 := [some bed, some T, some fl, some (.ref s3), some (.ref d), some (.ref l), some (.int x), some (.int y), some (.ref ln)]) (s1 := s1) (by simp [rho, EVs, ltD, leD, gtD, geD, cmpD, intC, rho0, e1]) ?_
 rw [zlf, zo9]
 simp [rho, EVs, ltD, leD, gtD, geD, cmpD, intC, rho0, zbj, hl, e2, e3]
end
theorem zon {bed T fl : D} {e w h : Int} {stk : List (Str × Int)} {ks : List (List Str)} {P : List Tl} {x y : Int} {d sd l : Nat} {a8 : Option D} {st0 s : Sto} {L : List Tl} (c : Ctx bed e stk ks w h) (hP : ∀ t ∈ P, 0 ≤ t.2.2∧t.2.2 < (ks.length : Int)) (hd : s[d]? = some (.dt (P.map kvOf))) (hsd : s[sd]? = some (.dk (stD stk))) (hl : s[l]? = some (.lst (L.map tD))) (hL : L.length ≤ 9000) (h0 : st0.length ≤ l) (hdl : d ≠ l) (hsl : sd ≠ l) (g0 : Gr st0 s) :
   ∃ (b8 : Option D) (s' : Sto), zbc [some bed, some T, some fl, some (.ref sd), some (.ref d), some (.ref l), some (.int x), some (.int y), a8] s = some (.nx [some bed, some T, some fl, some (.ref sd), some (.ref d), some (.ref l), some (.int x), some (.int y), b8], s')∧s'[l]? = some (.lst ((L ++ gA e stk ks P x y).map tD))∧s'[d]? = s[d]?∧s'[sd]? = s[sd]?∧Gr st0 s' := by
 have hin := zhq (x := x) (y := y) hd
 rw [zdH, Option.isSome_map] at hin
 unfold gA
 cases hf : (fnd P x y).isSome with
 | true =>
   rw [hf] at hin
   exact ⟨a8, s, zj4 hin, by simpa using hl, rfl, rfl, g0⟩
 | false =>
   rw [hf] at hin
   obtain ⟨s1, e1, a1, g1⟩ := zjc (x := x) (y := y) c.bed c.ks hP hd
   have hsd1 := (g1.old _ (getElem?_lt hsd)).trans hsd
   have hl1 := (g1.old _ (getElem?_lt hl)).trans hl
   obtain ⟨s2, e2, a2, g2⟩ := zqv c hP hsd1 a1
   have hl2 := (g2.old _ (getElem?_lt hl1)).trans hl1
   have hk := zhQ e stk ks P x y ks.length
   have k13 := c.hs.hi
   have e3 := zgf hl2 a2 (by rw [List.length_map, List.length_map]; omega)
   have g := (g0.trans g1).trans g2
   refine ⟨_, _, zmE hin e1 hl1 e2 e3, ?_, ?_, ?_, ⟨by rw [List.length_set]; exact g.len, fun j hj => by rw [List.getElem?_set_ne (by omega)]; exact g.old j hj⟩⟩
   · rw [List.getElem?_set_self (getElem?_lt hl2)]
     simp
   · rw [List.getElem?_set_ne (Ne.symm hdl)]
     exact (g2.old _ (Nat.lt_of_lt_of_le (getElem?_lt hd) g1.len)).trans (g1.old _ (getElem?_lt hd))
   · rw [List.getElem?_set_ne (Ne.symm hsl)]
     exact (g2.old _ (Nat.lt_of_lt_of_le (getElem?_lt hsd) g1.len)).trans (g1.old _ (getElem?_lt hsd))
theorem zdQ {bed : D} {e w h : Int} {stk : List (Str × Int)} {ks : List (List Str)} {ts : List Tl} {st : Sto} (c : Ctx bed e stk ks w h) (hts : ts.length ≤ 500) (hP : ∀ t ∈ byPl ts, 0 ≤ t.2.2∧t.2.2 < (ks.length : Int)) :
   ∃ st', zbD [bed, zat ts] st = some (.tup ((gF e stk ks (byPl ts) h w.toNat).map tD), st')∧Gr st st' := by
 obtain ⟨hs, i0, ie, i1, i2⟩ := c.at_
 have f1 := c.fo.w0; have f2 := c.fo.w1; have f3 := c.fo.h0; have f4 := c.fo.h1
 have k13 := c.hs.hi
 have ed := zjS (stk := stk) (st := st) (by have := c.hs.sl; omega)
 have a1 := zaY st (.dk (stD stk))
 have g1 := Gr.app st [.dk (stD stk)]
 generalize hs1 : st ++ [O.dk (stD stk)] = s1 at *
 obtain ⟨s2, e2, a2, g2⟩ := zoB (ts := ts) (st := s1) hts
 have a12 := (g2.old _ (getElem?_lt a1)).trans a1
 have l1 : st.length < s2.length := getElem?_lt a12
 have l2 : s1.length < s2.length := getElem?_lt a2
 have a3 := zaY s2 (.lst [])
 have a23 : (s2 ++ [O.lst []])[s1.length]? = some (.dt ((byPl ts).map kvOf)) := by rw [List.getElem?_append_left l2]; exact a2
 have a13 : (s2 ++ [O.lst []])[st.length]? = some (.dk (stD stk)) := by rw [List.getElem?_append_left l1]; exact a12
 have g3 := (g1.trans g2).trans (Gr.app s2 [.lst []])
 generalize hs3 : s2 ++ [O.lst []] = s3 at *
 have h12 : h.toNat ≤ 12 := by omega
 have bound : ∀ n m : Nat, n ≤ 12→m ≤ h.toNat→(gF e stk ks (byPl ts) h n ++ gC e stk ks (byPl ts) (n : Int) m).length ≤ 9000 := fun n m hn hm => by
   have b1 := zkW e stk ks (byPl ts) h n
   have b2 := zkX e stk ks (byPl ts) (n : Int) m
   have b3 : n * (h.toNat * ks.length) ≤ 12 * (12 * 13) := Nat.mul_le_mul hn (Nat.mul_le_mul h12 k13)
   have b4 : m * ks.length ≤ 12 * 13 := Nat.mul_le_mul (by omega) k13
   rw [List.length_append]
   omega
 have key := zbs (W := ⟨run 0 w.toNat, []⟩) (g := gNm 6) (m := zcu) (ds := run 0 w.toNat) (ρ := [some bed, some (zat ts), some (.tup [.int w, .int h]), some (.ref st.length), some (.ref s1.length), some (.ref s2.length), none, none, none]) (st := s3)
   (Inv := fun k ρ s => (∃ a b cc, ρ = [some bed, some (zat ts), some (.tup [.int w, .int h]), some (.ref st.length), some (.ref s1.length), some (.ref s2.length), a, b, cc])∧s[s2.length]? = some (.lst ((gF e stk ks (byPl ts) h k).map tD))∧s[s1.length]? = some (.dt ((byPl ts).map kvOf))∧s[st.length]? = some (.dk (stD stk))∧Gr st s)
   ⟨⟨_, _, _, rfl⟩, a3, a23, a13, g3⟩ (fun _ _ _ _ _ => rfl) (fun k dd ρ s hdd hI => by
     obtain ⟨⟨u, v, q, rfl⟩, hat, hdt, hdk, hg⟩ := hI
     obtain ⟨hk, rfl⟩ := zcM hdd
     have key2 := zbs (W := ⟨run 0 h.toNat, []⟩) (g := gNm 7) (m := zbc) (ds := run 0 h.toNat) (ρ := [some bed, some (zat ts), some (.tup [.int w, .int h]), some (.ref st.length), some (.ref s1.length), some (.ref s2.length), some (.int (k : Int)), v, q]) (st := s)
       (Inv := fun j ρ s => (∃ b cc, ρ = [some bed, some (zat ts), some (.tup [.int w, .int h]), some (.ref st.length), some (.ref s1.length), some (.ref s2.length), some (.int (k : Int)), b, cc])∧s[s2.length]? = some (.lst ((gF e stk ks (byPl ts) h k ++ gC e stk ks (byPl ts) (k : Int) j).map tD))∧s[s1.length]? = some (.dt ((byPl ts).map kvOf))∧s[st.length]? = some (.dk (stD stk))∧Gr st s)
       ⟨⟨_, _, rfl⟩, by simpa [Hd.sds, gC] using hat, hdt, hdk, hg⟩ (fun _ _ _ _ _ => rfl) (fun j dd ρ s hdd hI => by
         obtain ⟨⟨v, q, rfl⟩, hat, hdt, hdk, hg⟩ := hI
         obtain ⟨hj, rfl⟩ := zcM hdd
         obtain ⟨b8, s', e', hat', hdt', hdk', hg'⟩ := zon (T := zat ts) (fl := .tup [.int w, .int h]) (x := (k : Int)) (y := (j : Int)) (a8 := q) c hP hdt hdk hat (bound k j (by omega) (by omega)) (by omega) (by omega) (by omega) hg
         exact ⟨_, s, _, s', rfl, e', ⟨_, _, rfl⟩, by rw [zhS, ← List.append_assoc]; exact hat', hdt'.trans hdt, hdk'.trans hdk, hg'⟩)
     obtain ⟨ρ', s', el, ⟨v', q', rfl⟩, hat', hdt', hdk', hg'⟩ := key2
     rw [zbz] at hat'
     refine ⟨[some bed, some (zat ts), some (.tup [.int w, .int h]), some (.ref st.length), some (.ref s1.length), some (.ref s2.length), some (.int (k : Int)), v, q], s, [some bed, some (zat ts), some (.tup [.int w, .int h]), some (.ref st.length), some (.ref s1.length), some (.ref s2.length), some (.int (k : Int)), v', q'], s', rfl, ?_, ⟨_, _, _, rfl⟩, by rw [zhR]; exact hat', hdt', hdk', hg'⟩
     have sm : small h = true := zbk (by omega) (by omega)
     have i1' : ixA (.tup [.int w, .int h]) (.int 1) s = some (.int h, s) := za2 (by decide) rfl
     unfold zcu
     generalize zat ts = T at *
     have : mR1 (mBin ixA (mVar 2) (mCon (.int 1))) [some bed, some T, some (.tup [.int w, .int h]), some (.ref st.length), some (.ref s1.length), some (.ref s2.length), some (.int (k : Int)), v, q] s = some (⟨run 0 h.toNat, []⟩, s) := by
       generalize (k : Int) = kk
       simp [rho, EVs, ltD, leD, gtD, geD, cmpD, intC, rho0, i1', sm]
     show mFor _ _ _ [some bed, some T, some (.tup [.int w, .int h]), some (.ref st.length), some (.ref s1.length), some (.ref s2.length), some (.int (k : Int)), v, q] s = _
     rw [zcj, this]
     exact el)
 obtain ⟨ρ', s', el, ⟨u, v, q, rfl⟩, hat, hdt, hdk, hg⟩ := key
 rw [zbz] at hat
 have et := zbW hat
 refine ⟨s', zcU ?_, hg⟩
 have sm : small w = true := zbk (by omega) (by omega)
 have hfl := c.fl st
 have j0 : ixA (.tup [.int w, .int h]) (.int 0) s3 = some (.int w, s3) := za2 (by decide) rfl
 generalize zat ts = T at *
 generalize (gF e stk ks (byPl ts) h w.toNat).map tD = A at *
 unfold ze8
 refine zap (ρ1 := [some bed, some T, some (.tup [.int w, .int h]), none, none, none, none, none, none]) (s1 := st) (by simp [rho, EVs, ltD, leD, gtD, geD, cmpD, intC, rho0, hfl]) ?_
 refine zap (ρ1 := [some bed, some T, some (.tup [.int w, .int h]), some (.ref st.length), none, none, none, none, none]) (s1 := s1) (by simp [rho, EVs, ltD, leD, gtD, geD, cmpD, intC, rho0, i0, i1, ed]) ?_
 refine zap (ρ1 := [some bed, some T, some (.tup [.int w, .int h]), some (.ref st.length), some (.ref s1.length), none, none, none, none]) (s1 := s2) (by simp [rho, EVs, ltD, leD, gtD, geD, cmpD, intC, rho0, e2]) ?_
 refine zap (ρ1 := [some bed, some T, some (.tup [.int w, .int h]), some (.ref st.length), some (.ref s1.length), some (.ref s2.length), none, none, none]) (s1 := s3) (by simp [rho, EVs, ltD, leD, gtD, geD, cmpD, intC, rho0, hs3]) ?_
 refine zap (ρ1 := [some bed, some T, some (.tup [.int w, .int h]), some (.ref st.length), some (.ref s1.length), some (.ref s2.length), u, v, q]) (s1 := s') (by
   have : mR1 (mBin ixA (mVar 2) (mCon (.int 0))) [some bed, some T, some (.tup [.int w, .int h]), some (.ref st.length), some (.ref s1.length), some (.ref s2.length), none, none, none] s3 = some (⟨run 0 w.toNat, []⟩, s3) := by simp [rho, EVs, ltD, leD, gtD, geD, cmpD, intC, rho0, j0, sm]
   rw [zcj, this]
   exact el) ?_
 simp [rho, EVs, ltD, leD, gtD, geD, cmpD, intC, rho0, et]
end L2.MP.stickytiles_k11_growings
namespace L2.MP.stickytiles_k11_growings
open PySem L2.MP L2.MP.Hd
def nb (x y : Int) : Nat→Int × Int
 | 0 => (x, y + 1)
 | 1 => (x + 1, y)
 | 2 => (x, y - 1)
 | _ => (x - 1, y)
def pres (P : List Tl) (x y : Int) (j : Nat) : Bool := (fnd P (nb x y j).1 (nb x y j).2).isSome
def okE (P : List Tl) (x y : Int) : Bool := !(fnd P x y).isSome && !((List.range 4).filter (pres P x y)).isEmpty
theorem zmo {ks : List (List Str)} {P : List Tl} {x y : Int} (h : (List.range 4).filter (pres P x y) = []) : names4 ks P x y = [("" : Str), ("" : Str), ("" : Str), ("" : Str)] := by
 rw [List.filter_eq_nil_iff] at h
 have n0 : fnd P x (y + 1) = none := by simpa [pres, nb] using h 0 (by decide)
 have n1 : fnd P (x + 1) y = none := by simpa [pres, nb] using h 1 (by decide)
 have n2 : fnd P x (y - 1) = none := by simpa [pres, nb] using h 2 (by decide)
 have n3 : fnd P (x - 1) y = none := by simpa [pres, nb] using h 3 (by decide)
 unfold names4 nmF
 simp only [n0, n1, n2, n3]
theorem zqf {e : Int} {stk : List (Str × Int)} {ks : List (List Str)} {P : List Tl} {x y : Int} (he : 1 ≤ e) : gA e stk ks P x y = if okE P x y = true then gK e stk ks P x y ks.length else [] := by
 unfold gA okE
 cases hf : (fnd P x y).isSome with
 | true => simp
 | false =>
   cases hn : ((List.range 4).filter (pres P x y)) with
   | nil => simp [zmG he (zmo hn)]
   | cons a b => simp
section
variable (P : List Tl)
def eC (x : Int) (m : Nat) : List (Int × Int) := ((List.range m).filter fun (j : Nat) => okE P x (j : Int)).map fun (j : Nat) => (x, (j : Int))
def eF (h : Int) (n : Nat) : List (Int × Int) := ((List.range n).map fun (i : Nat) => eC P (i : Int) h.toNat).flatten
theorem zjR (x : Int) (m : Nat) : eC P x (m + 1) = if okE P x (m : Int) = true then eC P x m ++ [(x, (m : Int))] else eC P x m := by
 unfold eC
 rw [List.range_succ, List.filter_append, List.map_append]
 by_cases h : okE P x (m : Int) = true
 · rw [if_pos h]; simp [h]
 · rw [if_neg h]; simp [h]
theorem zhZ (h : Int) (n : Nat) : eF P h (n + 1) = eF P h n ++ eC P (n : Int) h.toNat := by
 unfold eF
 rw [List.range_succ, List.map_append, List.flatten_append]
 simp
theorem zmM (x : Int) (m : Nat) : (eC P x m).length ≤ m := by
 unfold eC
 rw [List.length_map]
 exact Nat.le_trans (List.length_filter_le _ _) (by simp)
theorem zk0 (h : Int) : ∀ n : Nat, (eF P h n).length ≤ n * h.toNat
 | 0 => by simp [eF]
 | n + 1 => by
   have h1 := zk0 h n
   have h2 := zmM P (n : Int) h.toNat
   rw [zhZ, List.length_append, Nat.add_mul]
   omega
end
def mays (e : Int) (stk : List (Str × Int)) (ks : List (List Str)) (P : List Tl) (ps : List (Int × Int)) : List Tl := (ps.map fun p => gK e stk ks P p.1 p.2 ks.length).flatten
theorem zfy (e : Int) (stk : List (Str × Int)) (ks : List (List Str)) (P : List Tl) (a b : List (Int × Int)) : mays e stk ks P (a ++ b) = mays e stk ks P a ++ mays e stk ks P b := by
 unfold mays
 rw [List.map_append, List.flatten_append]
theorem zmI {e : Int} {stk : List (Str × Int)} {ks : List (List Str)} {P : List Tl} {x : Int} (he : 1 ≤ e) : ∀ m : Nat, gC e stk ks P x m = mays e stk ks P (eC P x m)
 | 0 => rfl
 | m + 1 => by
   rw [zhS, zjR, zmI he m, zqf he]
   by_cases h : okE P x (m : Int) = true
   · rw [if_pos h, if_pos h, zfy]
     simp [mays]
   · rw [if_neg h, if_neg h, List.append_nil]
theorem zmH {e h : Int} {stk : List (Str × Int)} {ks : List (List Str)} {P : List Tl} (he : 1 ≤ e) : ∀ n : Nat, gF e stk ks P h n = mays e stk ks P (eF P h n)
 | 0 => rfl
 | n + 1 => by rw [zhR, zhZ, zmH he n, zmI he, zfy]
theorem ne_nil {l m : Nat} {js : List Nat} {st : Sto} (hl : st[l]? = some (.lst (js.map fun (i : Nat) => D.int (i : Int)))) (hm : st[m]? = some (.lst [])) : neD (.ref l) (.ref m) st = some (.bl !js.isEmpty, st) := by
 have e : (js.map fun (i : Nat) => D.int (i : Int)) = (js.map fun (i : Nat) => (i : Int)).map D.int := by rw [List.map_map]; rfl
 rw [e] at hl
 unfold neD
 rw [zdX (n := 98) hl, zdX (n := 98) (as := []) hm]
 cases js <;> rfl
theorem zmq {x y J a b : Int} {d : Nat} {q : Bool} {s s1 : Sto} (e1 : zaG [.tup [.int x, .int y], .int J] s = some (.tup [.int a, .int b], s1)) (e2 : inA (.tup [.int a, .int b]) (.ref d) s1 = some (.bl q, s1)) : zaK [some (.int J), some (.int x), some (.int y), some (.ref d)] s = some (q, s1) := by
 unfold zaK
 simp [rho, EVs, ltD, leD, gtD, geD, cmpD, intC, rho0, e1, e2]
theorem zmr {P : List Tl} {x y : Int} {d : Nat} {st : Sto} (hd : st[d]? = some (.dt (P.map kvOf))) : ∃ st', mCI ⟨run 0 4, []⟩ (gNm 0) zaK zbb (run 0 4) [none, some (.int x), some (.int y), some (.ref d)] st = some (((List.range 4).filter (pres P x y)).map fun (i : Nat) => D.int (i : Int), st')∧Gr st st' := by
 have key := zk9 (W := ⟨run 0 4, []⟩) (g := gNm 0) (c := zaK) (m := zbb) (ds := run 0 4) (acc := []) (st := st) (ρ := [none, some (.int x), some (.int y), some (.ref d)])
   (Inv := fun k a ρ s => (∃ u, ρ = [u, some (.int x), some (.int y), some (.ref d)])∧a = fl (pres P x y) k∧Gr st s)
   ⟨⟨_, rfl⟩, rfl, Gr.refl _⟩ (fun _ _ _ _ _ _ => rfl) (fun k dd a ρ s hdd hI => by
     obtain ⟨⟨u, rfl⟩, rfl, hg⟩ := hI
     obtain ⟨hk, rfl⟩ := zcM hdd
     have hp : [D.tup [.int x, .int (y + 1)], .tup [.int (x + 1), .int y], .tup [.int x, .int (y - 1)], .tup [.int (x - 1), .int y]][((k : Nat) : Int).toNat]? = some (.tup [.int (nb x y k).1, .int (nb x y k).2]) := by
       rw [Int.toNat_natCast]
       match k, hk with
       | 0, _ => rfl
       | 1, _ => rfl
       | 2, _ => rfl
       | 3, _ => rfl
     obtain ⟨s1, e1, g1⟩ := zjt (s := s) (J := (k : Int)) (by omega) hp
     have hg1 := hg.trans g1
     have ein := zpp (x := (nb x y k).1) (y := (nb x y k).2) ((hg1.old _ (getElem?_lt hd)).trans hd)
     rw [zdH, Option.isSome_map] at ein
     have rd := zmq e1 ein
     cases hq : (fnd P (nb x y k).1 (nb x y k).2).isSome with
     | true =>
       rw [hq] at rd
       refine ⟨[some (.int (k : Int)), some (.int x), some (.int y), some (.ref d)], s, true, s1, rfl, rd, .inl ⟨rfl, .int (k : Int), s1, rfl, ⟨_, rfl⟩, ?_, hg1⟩⟩
       rw [zdR, if_pos (show pres P x y k = true from hq)]
     | false =>
       rw [hq] at rd
       refine ⟨[some (.int (k : Int)), some (.int x), some (.int y), some (.ref d)], s, false, s1, rfl, rd, .inr ⟨rfl, ⟨_, rfl⟩, ?_, hg1⟩⟩
       rw [zdR, if_neg (show ¬ pres P x y k = true by unfold pres; rw [hq]; decide)])
 obtain ⟨xs, ρ', s', ec, _, hx, hg⟩ := key
 rw [List.nil_append] at hx
 subst hx
 exact ⟨s', ec, hg⟩
theorem zmR {bed : D} {d l lb : Nat} {x y : Int} {q1 q2 : Bool} {a5 : Option D} {L : List D} {s s1 s2 : Sto} (ec : zcQ (mR1 (mCon (.int 4))) 1 [3, 4, 1] (gNm 0) (zaK) (zbb) [some bed, some (.ref d), some (.ref l), some (.int x), some (.int y), a5] s = some (.ref lb, s1)) (e1 : zeo (.tup [.int x, .int y]) (.ref d) s1 = some (.bl q1, s1)) (hs2 : s1 ++ [.lst []] = s2) (e2 : neD (.ref lb) (.ref s1.length) s2 = some (.bl q2, s2)) (hl : s2[l]? = some (.lst L)) (ea : zbT (.ref l) [.tup [.int x, .int y]] s2 = some (.non, s2.set l (.lst (L ++ [.tup [.int x, .int y]])))) :
   za7 [some bed, some (.ref d), some (.ref l), some (.int x), some (.int y), a5] s = some (.nx [some bed, some (.ref d), some (.ref l), some (.int x), some (.int y), some (.ref lb)], if q1 = true then (if q2 = true then s2.set l (.lst (L ++ [.tup [.int x, .int y]])) else s2) else s1) := by
 unfold za7
 refine zap (ρ1 := [some bed, some (.ref d), some (.ref l), some (.int x), some (.int y), some (.ref lb)]) (s1 := s1) (by rw [zex, ec]; rfl) ?_
 cases q1 with
 | false => simp [rho, EVs, ltD, leD, gtD, geD, cmpD, intC, rho0, e1]
 | true =>
   cases q2 with
   | false => simp [rho, EVs, ltD, leD, gtD, geD, cmpD, intC, rho0, e1, hs2, e2]
   | true => simp [rho, EVs, ltD, leD, gtD, geD, cmpD, intC, rho0, e1, hs2, e2, zbj, hl, ea]
theorem zmS {bed : D} {P : List Tl} {x y : Int} {d l : Nat} {a5 : Option D} {st0 s : Sto} {L : List (Int × Int)} (hd : s[d]? = some (.dt (P.map kvOf))) (hl : s[l]? = some (.lst (L.map plD))) (hL : L.length ≤ 9000) (h0 : st0.length ≤ l) (hdl : d ≠ l) (g0 : Gr st0 s) :
   ∃ (b5 : Option D) (s' : Sto), za7 [some bed, some (.ref d), some (.ref l), some (.int x), some (.int y), a5] s = some (.nx [some bed, some (.ref d), some (.ref l), some (.int x), some (.int y), b5], s')∧s'[l]? = some (.lst ((if okE P x y = true then L ++ [(x, y)] else L).map plD))∧s'[d]? = s[d]?∧Gr st0 s' := by
 obtain ⟨s1, e1, g1⟩ := zmr (x := x) (y := y) hd
 have hle : ((List.range 4).filter (pres P x y)).length ≤ 4 := by
   have := List.length_filter_le (pres P x y) (List.range 4)
   rw [List.length_range] at this
   exact this
 have fl' : fits (((List.range 4).filter (pres P x y)).map fun (i : Nat) => D.int (i : Int)).length = true := zax (by rw [List.length_map]; omega)
 have a2 := zaY s1 (.lst (((List.range 4).filter (pres P x y)).map fun (i : Nat) => D.int (i : Int)))
 have g2 := g1.trans (Gr.app s1 [.lst (((List.range 4).filter (pres P x y)).map fun (i : Nat) => D.int (i : Int))])
 have ec : zcQ (mR1 (mCon (.int 4))) 1 [3, 4, 1] (gNm 0) (zaK) (zbb) [some bed, some (.ref d), some (.ref l), some (.int x), some (.int y), a5] s = some (.ref s1.length, s1 ++ [.lst (((List.range 4).filter (pres P x y)).map fun (i : Nat) => D.int (i : Int))]) := by
   rw [zaO, ziJ (k := 4) rfl (by decide)]
   simp only [Option.bind_some]
   rw [show rho0 [some bed, some (.ref d), some (.ref l), some (.int x), some (.int y), a5] 1 [3, 4, 1] = [none, some (.int x), some (.int y), some (.ref d)] from rfl, e1]
   simp only [Option.bind_some, fl', if_true]
 generalize s1 ++ [O.lst (((List.range 4).filter (pres P x y)).map fun (i : Nat) => D.int (i : Int))] = s2 at *
 have hin := zhq (x := x) (y := y) ((g2.old _ (getElem?_lt hd)).trans hd)
 rw [zdH, Option.isSome_map] at hin
 have a3 : (s2 ++ [O.lst []])[s1.length]? = some (.lst (((List.range 4).filter (pres P x y)).map fun (i : Nat) => D.int (i : Int))) := by rw [List.getElem?_append_left (getElem?_lt a2)]; exact a2
 have en := ne_nil a3 (zaY s2 (.lst []))
 have g3 := g2.trans (Gr.app s2 [.lst []])
 have hl2 := (g2.old _ (getElem?_lt hl)).trans hl
 have hl3 := (g3.old _ (getElem?_lt hl)).trans hl
 have hd2 := g2.old _ (getElem?_lt hd)
 have hd3 := g3.old _ (getElem?_lt hd)
 have ea := append_at (x := .tup [.int x, .int y]) hl3 (by rw [List.length_map]; omega)
 have rd := zmR ec hin rfl en hl3 ea
 generalize s2 ++ [O.lst []] = s3 at *
 refine ⟨_, _, rd, ?_, ?_, ?_⟩
 · unfold okE
   cases (fnd P x y).isSome with
   | true => simpa using hl2
   | false =>
     cases ((List.range 4).filter (pres P x y)).isEmpty with
     | true => simpa using hl3
     | false =>
       simp only [Bool.not_false, if_true, Bool.and_true]
       rw [List.getElem?_set_self (getElem?_lt hl3), List.map_append]
       rfl
 · cases (fnd P x y).isSome with
   | true => simpa using hd2
   | false =>
     cases ((List.range 4).filter (pres P x y)).isEmpty with
     | true => simpa using hd3
     | false =>
       simp only [Bool.not_false, if_true]
       rw [List.getElem?_set_ne (Ne.symm hdl)]
       exact hd3
 · cases (fnd P x y).isSome with
   | true => simpa using g0.trans g2
   | false =>
     cases ((List.range 4).filter (pres P x y)).isEmpty with
     | true => simpa using g0.trans g3
     | false =>
       simp only [Bool.not_false, if_true]
       have g := g0.trans g3
       exact ⟨by rw [List.length_set]; exact g.len, fun j hj => by rw [List.getElem?_set_ne (by omega)]; exact g.old j hj⟩
theorem zes {bed : D} {e w h : Int} {stk : List (Str × Int)} {ks : List (List Str)} {P : List Tl} {d : Nat} {st : Sto} (c : Ctx bed e stk ks w h) (hd : st[d]? = some (.dt (P.map kvOf))) :
   ∃ st', zbo [bed, .ref d] st = some (.ref st.length, st')∧st'[st.length]? = some (.lst ((eF P h w.toNat).map plD))∧Gr st st' := by
 have f1 := c.fo.w0; have f2 := c.fo.w1; have f3 := c.fo.h0; have f4 := c.fo.h1
 have hdl := getElem?_lt hd
 have h12 : h.toNat ≤ 12 := by omega
 have bound : ∀ n m : Nat, n ≤ 12→m ≤ h.toNat→(eF P h n ++ eC P (n : Int) m).length ≤ 9000 := fun n m hn hm => by
   have b1 := zk0 P h n
   have b2 := zmM P (n : Int) m
   have b3 : n * h.toNat ≤ 12 * 12 := Nat.mul_le_mul hn h12
   rw [List.length_append]
   omega
 have hd1 : (st ++ [O.lst []])[d]? = some (.dt (P.map kvOf)) := by rw [List.getElem?_append_left hdl]; exact hd
 have key := zbs (W := ⟨run 0 w.toNat, []⟩) (g := gNm 3) (m := zbR) (ds := run 0 w.toNat) (ρ := [some bed, some (.ref d), some (.ref st.length), none, none, none]) (st := st ++ [.lst []])
   (Inv := fun k ρ s => (∃ a b cc, ρ = [some bed, some (.ref d), some (.ref st.length), a, b, cc])∧s[st.length]? = some (.lst ((eF P h k).map plD))∧s[d]? = some (.dt (P.map kvOf))∧Gr st s)
   ⟨⟨_, _, _, rfl⟩, zaY _ _, hd1, Gr.app _ _⟩ (fun _ _ _ _ _ => rfl) (fun k dd ρ s hdd hI => by
     obtain ⟨⟨u, v, q, rfl⟩, hat, hdt, hg⟩ := hI
     obtain ⟨hk, rfl⟩ := zcM hdd
     have key2 := zbs (W := ⟨run 0 h.toNat, []⟩) (g := gNm 4) (m := za7) (ds := run 0 h.toNat) (ρ := [some bed, some (.ref d), some (.ref st.length), some (.int (k : Int)), v, q]) (st := s)
       (Inv := fun j ρ s => (∃ b cc, ρ = [some bed, some (.ref d), some (.ref st.length), some (.int (k : Int)), b, cc])∧s[st.length]? = some (.lst ((eF P h k ++ eC P (k : Int) j).map plD))∧s[d]? = some (.dt (P.map kvOf))∧Gr st s)
       ⟨⟨_, _, rfl⟩, by simpa [eC] using hat, hdt, hg⟩ (fun _ _ _ _ _ => rfl) (fun j dd ρ s hdd hI => by
         obtain ⟨⟨v, q, rfl⟩, hat, hdt, hg⟩ := hI
         obtain ⟨hj, rfl⟩ := zcM hdd
         obtain ⟨b5, s', e', hat', hdt', hg'⟩ := zmS (bed := bed) (x := (k : Int)) (y := (j : Int)) (a5 := q) hdt hat (bound k j (by omega) (by omega)) (Nat.le_refl _) (by omega) hg
         refine ⟨[some bed, some (.ref d), some (.ref st.length), some (.int (k : Int)), some (.int (j : Int)), q], s, _, s', rfl, e', ⟨_, _, rfl⟩, ?_, hdt'.trans hdt, hg'⟩
         rw [hat', zjR]
         by_cases ho : okE P (k : Int) (j : Int) = true
         · rw [if_pos ho, if_pos ho, List.append_assoc]
         · rw [if_neg ho, if_neg ho])
     obtain ⟨ρ', s', el, ⟨v', q', rfl⟩, hat', hdt', hg'⟩ := key2
     rw [zbz] at hat'
     refine ⟨[some bed, some (.ref d), some (.ref st.length), some (.int (k : Int)), v, q], s, [some bed, some (.ref d), some (.ref st.length), some (.int (k : Int)), v', q'], s', rfl, ?_, ⟨_, _, _, rfl⟩, by rw [zhZ]; exact hat', hdt', hg'⟩
     have sm : small h = true := zbk (by omega) (by omega)
     have hfl := c.fl s
     have i1' : ixA (.tup [.int w, .int h]) (.int 1) s = some (.int h, s) := za2 (by decide) rfl
     unfold zbR
     have : mR1 (mBin ixA (mBin ixA (mVar 0) (mCon (.int 1))) (mCon (.int 1))) [some bed, some (.ref d), some (.ref st.length), some (.int (k : Int)), v, q] s = some (⟨run 0 h.toNat, []⟩, s) := by
       generalize (k : Int) = kk
       simp [rho, EVs, ltD, leD, gtD, geD, cmpD, intC, rho0, hfl, i1', sm]
     rw [zcj, this]
     exact el)
 obtain ⟨ρ', s', el, ⟨u, v, q, rfl⟩, hat, hdt, hg⟩ := key
 rw [zbz] at hat
 refine ⟨s', zcU ?_, hat, hg⟩
 have sm : small w = true := zbk (by omega) (by omega)
 have hfl := c.fl (st ++ [.lst []])
 have j0 : ixA (.tup [.int w, .int h]) (.int 0) (st ++ [.lst []]) = some (.int w, st ++ [.lst []]) := za2 (by decide) rfl
 unfold zc8
 refine zap (ρ1 := [some bed, some (.ref d), some (.ref st.length), none, none, none]) (s1 := st ++ [.lst []]) (by simp [rho, EVs, ltD, leD, gtD, geD, cmpD, intC, rho0]) ?_
 refine zap (ρ1 := [some bed, some (.ref d), some (.ref st.length), u, v, q]) (s1 := s') (by
   have : mR1 (mBin ixA (mBin ixA (mVar 0) (mCon (.int 1))) (mCon (.int 0))) [some bed, some (.ref d), some (.ref st.length), none, none, none] (st ++ [.lst []]) = some (⟨run 0 w.toNat, []⟩, st ++ [.lst []]) := by simp [rho, EVs, ltD, leD, gtD, geD, cmpD, intC, rho0, hfl, j0, sm]
   rw [zcj, this]
   exact el) ?_
 simp [rho, EVs, ltD, leD, gtD, geD, cmpD, intC, rho0]
end L2.MP.stickytiles_k11_growings
namespace L2.MP.stickytiles_k11_growings
open PySem L2.MP L2.MP.Hd
open L2.MP.Hn (zat zby srtT zcz)
theorem znx {stk : List (Str × Int)} {ks : List (List Str)} {P : List Tl} {x y : Int} {k : Nat} (h : (sds ks (k : Int)).length = 4) : ((alike (sds ks (k : Int)) (names4 ks P x y)).map fun i => sv stk ((sds ks (k : Int)).getD i "")).sum = sth stk ks P x y k := by
 unfold sth
 rw [zit h rfl]
theorem zmt {bed hs pl : D} {d l : Nat} {K E R : Int} {v : D} {L : List D} {s s1 : Sto} (e1 : zbV [bed, .ref d, pl, .int K] s = some (.int R, s1)) (i0 : ixA bed (.int 0) s1 = some (hs, s1)) (ie : ixA hs (.int 0) s1 = some (.int E, s1)) (hR : E ≤ R) (hl : s1[l]? = some (.lst L)) (ea : addD pl (.tup [.int K]) s1 = some (v, s1)) (eap : zbT (.ref l) [v] s1 = some (.non, s1.set l (.lst (L ++ [v])))) :
   zbd [some bed, some (.ref d), some (.ref l), some pl, some (.int K)] s = some (.nx [some bed, some (.ref d), some (.ref l), some pl, some (.int K)], s1.set l (.lst (L ++ [v]))) := by
 unfold zbd
 simp [rho, EVs, ltD, leD, gtD, geD, cmpD, intC, rho0, e1, i0, ie, hR, zbj, hl, ea, eap]
theorem zkF {bed hs pl : D} {d l : Nat} {K E R : Int} {s s1 : Sto} (e1 : zbV [bed, .ref d, pl, .int K] s = some (.int R, s1)) (i0 : ixA bed (.int 0) s1 = some (hs, s1)) (ie : ixA hs (.int 0) s1 = some (.int E, s1)) (hR : ¬ E ≤ R) :
   zbd [some bed, some (.ref d), some (.ref l), some pl, some (.int K)] s = some (.nx [some bed, some (.ref d), some (.ref l), some pl, some (.int K)], s1) := by
 unfold zbd
 simp [rho, EVs, ltD, leD, gtD, geD, cmpD, intC, rho0, e1, i0, ie, hR]
theorem zdn {bed : D} {e w h : Int} {stk : List (Str × Int)} {ks : List (List Str)} {P : List Tl} {p : Int × Int} {d l : Nat} {a4 : Option D} {st0 s : Sto} {L : List Tl} (c : Ctx bed e stk ks w h) (hP : ∀ t ∈ P, 0 ≤ t.2.2∧t.2.2 < (ks.length : Int)) (hd : s[d]? = some (.dt (P.map kvOf))) (hl : s[l]? = some (.lst (L.map tD))) (hL : L.length ≤ 9000) (h0 : st0.length ≤ l) (hdl : d ≠ l) (g0 : Gr st0 s) :
   ∃ (b4 : Option D) (s' : Sto), zbJ [some bed, some (.ref d), some (.ref l), some (plD p), a4] s = some (.nx [some bed, some (.ref d), some (.ref l), some (plD p), b4], s')∧s'[l]? = some (.lst ((L ++ gK e stk ks P p.1 p.2 ks.length).map tD))∧Fr l s s' := by
 obtain ⟨hs, i0, ie, i1, i2⟩ := c.at_
 have k13 := c.hs.hi
 have key := zbs (W := ⟨run 0 ks.length, []⟩) (g := gNm 4) (m := zbd) (ds := run 0 ks.length) (ρ := [some bed, some (.ref d), some (.ref l), some (plD p), a4]) (st := s)
   (Inv := fun k ρ s' => (∃ a, ρ = [some bed, some (.ref d), some (.ref l), some (plD p), a])∧s'[l]? = some (.lst ((L ++ gK e stk ks P p.1 p.2 k).map tD))∧Fr l s s')
   ⟨⟨_, rfl⟩, by simpa [gK] using hl, Fr.refl _ _⟩ (fun _ _ _ _ _ => rfl) (fun k dd ρ s' hdd hI => by
     obtain ⟨⟨u, rfl⟩, hat, hf⟩ := hI
     obtain ⟨hk, rfl⟩ := zcM hdd
     have k1 : ((k : Nat) : Int) < (ks.length : Int) := by omega
     obtain ⟨f, b0, b1, b2, b3, ek, es, hok⟩ := zc1 c.ks (k := (k : Int)) (by omega) k1
     have hd' := (hf.old _ (getElem?_lt hd) hdl).trans hd
     obtain ⟨s2, e2, g2⟩ := zi1 (x := p.1) (y := p.2) c.bed c.ks c.stk (by have := c.hs.sl; omega) hP (by omega) k1 hd'
     rw [znx (by rw [es]; rfl)] at e2
     have hat2 := (g2.old _ (getElem?_lt hat)).trans hat
     have hlen := zhQ e stk ks P p.1 p.2 k
     by_cases hR : e ≤ sth stk ks P p.1 p.2 k
     · have ea : addD (.tup [.int p.1, .int p.2]) (.tup [.int (k : Int)]) s2 = some (tD (p.1, p.2, (k : Int)), s2) := zjY (by simp) (by simp)
       have eap := append_at (x := tD (p.1, p.2, (k : Int))) hat2 (by rw [List.length_map, List.length_append]; omega)
       refine ⟨_, s', _, _, rfl, zmt e2 (i0 _) (ie _) hR hat2 ea eap, ⟨_, rfl⟩, ?_, (hf.trans (g2.fr l)).trans (Fr.set _ _ _)⟩
       rw [List.getElem?_set_self (getElem?_lt hat2), zge, if_pos hR]
       simp
     · refine ⟨_, s', _, _, rfl, zkF e2 (i0 _) (ie _) hR, ⟨_, rfl⟩, ?_, hf.trans (g2.fr l)⟩
       rw [zge, if_neg hR]
       exact hat2)
 obtain ⟨ρ', s', el, ⟨u, rfl⟩, hat, hf⟩ := key
 rw [zbz] at hat
 refine ⟨u, s', ?_, hat, hf⟩
 have el' : lenD [.tup (ks.map zbv)] s = some (.int (ks.length : Int), s) := by rw [zgb, List.length_map]
 have hr : mR1 (zau lenD (zae (mBin ixA (mBin ixA (mVar 0) (mCon (.int 0))) (mCon (.int 2))) (mNil))) [some bed, some (.ref d), some (.ref l), some (plD p), a4] s = some (⟨run 0 ks.length, []⟩, s) := by
   refine ziJ (k := ks.length) ?_ (by omega)
   generalize (ks.length : Int) = K at *
   simp [rho, EVs, ltD, leD, gtD, geD, cmpD, intC, rho0, i0, i2, el']
 unfold zbJ
 rw [zcj, hr]
 exact el
theorem zou {bed : D} {e w h : Int} {stk : List (Str × Int)} {ks : List (List Str)} {P : List Tl} {d : Nat} {st : Sto} (c : Ctx bed e stk ks w h) (hP : ∀ t ∈ P, 0 ≤ t.2.2∧t.2.2 < (ks.length : Int)) (hd : st[d]? = some (.dt (P.map kvOf))) :
   ∃ st', zbU [bed, .ref d] st = some (.ref st.length, st')∧st'[st.length]? = some (.lst ((mays e stk ks P (eF P h w.toNat)).map tD))∧Gr st st' := by
 have f1 := c.fo.w0; have f2 := c.fo.w1; have f3 := c.fo.h0; have f4 := c.fo.h1
 have k13 := c.hs.hi
 have hdl := getElem?_lt hd
 have hd1 : (st ++ [O.lst []])[d]? = some (.dt (P.map kvOf)) := by rw [List.getElem?_append_left hdl]; exact hd
 have a1 := zaY st (.lst [])
 have g1 := Gr.app st [.lst []]
 have l1 : (st ++ [O.lst []]).length = st.length + 1 := by simp
 generalize hs1 : st ++ [O.lst []] = s1 at *
 obtain ⟨s2, e2, a2, g2⟩ := zes c hd1
 have a12 := (g2.old _ (getElem?_lt a1)).trans a1
 have hd2 := (g2.old _ (getElem?_lt hd1)).trans hd1
 have hlen := zk0 P h w.toNat
 have h144 : (eF P h w.toNat).length ≤ 144 := Nat.le_trans hlen (Nat.mul_le_mul (show w.toNat ≤ 12 by omega) (show h.toNat ≤ 12 by omega))
 generalize eF P h w.toNat = ps at *
 have bound : ∀ i : Nat, (mays e stk ks P (ps.take i)).length ≤ 9000 := fun i => by
   have : ∀ qs : List (Int × Int), (mays e stk ks P qs).length ≤ qs.length * 13 := by
     intro qs
     induction qs with
     | nil => simp [mays]
     | cons q qs ih =>
       have h1 := zhQ e stk ks P q.1 q.2 ks.length
       have h2 : (mays e stk ks P (q :: qs)).length = (gK e stk ks P q.1 q.2 ks.length).length + (mays e stk ks P qs).length := by simp [mays]
       rw [h2, List.length_cons, Nat.add_mul]
       omega
   have h1 := this (ps.take i)
   have h2 : (ps.take i).length ≤ 144 := by rw [List.length_take]; omega
   omega
 have key := zbs (W := ⟨ps.map plD, [(s1.length, ps.map plD)]⟩) (g := gNm 3) (m := zbJ) (ds := ps.map plD) (ρ := [some bed, some (.ref d), some (.ref st.length), none, none]) (st := s2)
   (Inv := fun i ρ s => (∃ a b, ρ = [some bed, some (.ref d), some (.ref st.length), a, b])∧s[st.length]? = some (.lst ((mays e stk ks P (ps.take i)).map tD))∧Fr st.length s2 s)
   ⟨⟨_, _, rfl⟩, a12, Fr.refl _ _⟩ (fun i ρ s _ hI => zb5 ((hI.2.2.old _ (getElem?_lt a2) (by omega)).trans a2)) (fun i dd ρ s hdd hI => by
     obtain ⟨⟨u, v, rfl⟩, hat, hf⟩ := hI
     rw [List.getElem?_map] at hdd
     obtain ⟨p, hp, rfl⟩ := zag hdd
     obtain ⟨b4, s', e', hat', hf'⟩ := zdn (st0 := []) (p := p) (a4 := v) c hP ((hf.old _ (getElem?_lt hd2) (by omega)).trans hd2) hat (bound i) (Nat.zero_le _) (by omega) ⟨Nat.zero_le _, fun j hj => absurd hj (Nat.not_lt_zero _)⟩
     refine ⟨_, s, _, s', rfl, e', ⟨_, _, rfl⟩, ?_, hf.trans hf'⟩
     rw [hat', List.take_add_one, hp, zfy]
     simp [mays])
 obtain ⟨ρ', s', el, ⟨u, v, rfl⟩, hat, hf⟩ := key
 rw [List.length_map, List.take_length] at hat
 refine ⟨s', zcU ?_, hat, ?_⟩
 · generalize ps.map plD = PS at *
   unfold zdW
   refine zap (ρ1 := [some bed, some (.ref d), some (.ref st.length), none, none]) (s1 := s1) (by simp [rho, EVs, ltD, leD, gtD, geD, cmpD, intC, rho0, hs1]) ?_
   refine zap (ρ1 := [some bed, some (.ref d), some (.ref st.length), u, v]) (s1 := s') (by
     have ew : mWA (zau zbo (zae (mVar 0) (zae (mVar 1) (mNil)))) [some bed, some (.ref d), some (.ref st.length), none, none] s1 = some (⟨PS, [(s1.length, PS)]⟩, s2) := by simp [rho, EVs, ltD, leD, gtD, geD, cmpD, intC, rho0, e2, zin, zbj, a2]
     rw [zcj, ew]
     exact el) ?_
   simp [rho, EVs, ltD, leD, gtD, geD, cmpD, intC, rho0]
 · have g := g1.trans g2
   exact ⟨Nat.le_trans g.len hf.len, fun j hj => (hf.old j (Nat.lt_of_lt_of_le hj g.len) (by omega)).trans (g.old j hj)⟩
end L2.MP.stickytiles_k11_growings
namespace L2.MP.stickytiles_k11_growings
open PySem L2.MP L2.MP.Hd
open L2.MP.Hn (zat zby srtT zcz)
def Has (l : List Tl) (x y : Int) : Prop := ∃ t ∈ l, t.1 = x∧t.2.1 = y
theorem zmC {l : List Tl} {t : Tl} {x y : Int} (h : Has l x y) : Has (putT l t) x y := by
 obtain ⟨u, hu, h1, h2⟩ := h
 unfold putT
 split
 · by_cases hs : zbm u t = true
   · refine ⟨t, List.mem_map.mpr ⟨u, hu, by rw [if_pos hs]⟩, ?_⟩
     unfold zbm at hs
     simp at hs
     exact ⟨hs.1 ▸ h1, hs.2 ▸ h2⟩
   · exact ⟨u, List.mem_map.mpr ⟨u, hu, by rw [if_neg hs]⟩, h1, h2⟩
 · exact ⟨u, List.mem_append_left _ hu, h1, h2⟩
theorem zmD (l : List Tl) (t : Tl) : Has (putT l t) t.1 t.2.1 := by
 unfold putT
 split
 · rename_i h
   obtain ⟨u, hu, hs⟩ := List.any_eq_true.mp h
   exact ⟨t, List.mem_map.mpr ⟨u, hu, by rw [if_pos hs]⟩, rfl, rfl⟩
 · exact ⟨t, List.mem_append_right _ List.mem_cons_self, rfl, rfl⟩
structure FInv (n t m : Nat) (w h kn : Int) (st0 : Sto) (l : List Tl) (c : Nat) (s : Sto) : Prop where
 at_ : s[t]? = some (.dt (l.map kvOf))
 ok : ∀ u ∈ l, zdw w h kn u
 nd : PlNd l
 len : l.length ≤ c
 pot : PotD n (m + c) s
 fr : Fr n st0 s
theorem zla {n t : Nat} {bed hs KK : D} {x y k K : Int} {s s1 s2 : Sto} (i0 : ixA bed (.int 0) s = some (hs, s)) (i2 : ixA hs (.int 2) s = some (KK, s)) (el : lenD [KK] s = some (.int K, s)) (e1 : zac [.ref n, .int K] s = some (.int k, s1)) (ed : dput s1 t (.tup [.int x, .int y]) (.int k) = some s2) :
   zbe [some (.ref n), some bed, some (.ref t), some (.int x), some (.int y)] s = some (.nx [some (.ref n), some bed, some (.ref t), some (.int x), some (.int y)], s2) := by
 unfold zbe
 rw [zjq]
 have c1 : mAsg (zau zac (zae (mVar 0) (zae (zau lenD (zae (mBin ixA (mBin ixA (mVar 1) (mCon (.int 0))) (mCon (.int 2))) (mNil))) (mNil)))) (gSb setD (mVar 2) (mTup (zae (mVar 3) (zae (mVar 4) (mNil))))) [some (.ref n), some bed, some (.ref t), some (.int x), some (.int y)] s = none := by
   simp [rho, EVs, ltD, leD, gtD, geD, cmpD, intC, rho0, i0, i2, el, e1, setD]
 rw [c1, zgN]
 unfold zlq
 simp [rho, EVs, ltD, leD, gtD, geD, cmpD, intC, rho0, i0, i2, el, e1, ed]
theorem zlb {bed : D} {e w h : Int} {stk : List (Str × Int)} {ks : List (List Str)} {n t m c0 : Nat} {x y : Int} {l : List Tl} {st0 s : Sto} (c : Ctx bed e stk ks w h) (q : FInv n t m w h ks.length st0 l c0 s) (ht : t ≠ n) (h0 : st0.length ≤ t) (hm : m + c0 ≤ 900000) (hc : c0 ≤ 900) (hx : 0 ≤ x∧x < w) (hy : 0 ≤ y∧y < h) :
   ∃ (l' : List Tl) (s' : Sto), zbe [some (.ref n), some bed, some (.ref t), some (.int x), some (.int y)] s = some (.nx [some (.ref n), some bed, some (.ref t), some (.int x), some (.int y)], s')∧FInv n t m w h ks.length st0 l' (c0 + 1) s'∧Has l' x y∧∀ a b, Has l a b→Has l' a b := by
 obtain ⟨hs, i0, ie, i1, i2⟩ := c.at_
 have k1 := c.hs.lo; have k2 := c.hs.hi
 obtain ⟨k, s1, e1, k0, kl, p1, f1⟩ := zaZ (many := (ks.length : Int)) q.pot (by omega) (by omega) (by omega)
 have at1 := (f1.old _ (getElem?_lt q.at_) ht).trans q.at_
 have ed := zh0 (x := x) (y := y) (k := k) at1 (by have := q.len; omega)
 have fr1 := q.fr.trans f1
 have hlen := zfo l (x, y, k)
 refine ⟨putT l (x, y, k), _, zla (i0 _) (i2 _) (by rw [zgb, List.length_map]) e1 ed, ⟨by rw [List.getElem?_set_self (getElem?_lt at1)], zfp q.ok ⟨hx.1, hx.2, hy.1, hy.2, k0, kl⟩, zjB q.nd, by have := q.len; omega, p1.set ht, ⟨by rw [List.length_set]; exact fr1.len, fun j hj nj => by rw [List.getElem?_set_ne (by omega)]; exact fr1.old j hj nj⟩⟩, zmD l (x, y, k), fun a b hab => zmC hab⟩
theorem zmQ {bed : D} {e w h : Int} {stk : List (Str × Int)} {ks : List (List Str)} {n t m c0 : Nat} {x : Int} {a4 : Option D} {l : List Tl} {st0 s : Sto} (c : Ctx bed e stk ks w h) (q : FInv n t m w h ks.length st0 l c0 s) (ht : t ≠ n) (h0 : st0.length ≤ t) (hm : m + c0 ≤ 800000) (hc : c0 ≤ 800) (hx : 0 ≤ x∧x < w) :
   ∃ (l' : List Tl) (b4 : Option D) (s' : Sto), zbu [some (.ref n), some bed, some (.ref t), some (.int x), a4] s = some (.nx [some (.ref n), some bed, some (.ref t), some (.int x), b4], s')∧FInv n t m w h ks.length st0 l' (c0 + h.toNat) s'∧(∀ j : Nat, j < h.toNat→Has l' x (j : Int))∧∀ a b, Has l a b→Has l' a b := by
 have f3 := c.fo.h0; have f4 := c.fo.h1
 have key := zbs (W := ⟨run 0 h.toNat, []⟩) (g := gNm 4) (m := zbe) (ds := run 0 h.toNat) (ρ := [some (.ref n), some bed, some (.ref t), some (.int x), a4]) (st := s)
   (Inv := fun k ρ s' => ∃ (b : Option D) (l' : List Tl), ρ = [some (.ref n), some bed, some (.ref t), some (.int x), b]∧FInv n t m w h ks.length st0 l' (c0 + k) s'∧(∀ j : Nat, j < k→Has l' x (j : Int))∧∀ a b, Has l a b→Has l' a b)
   ⟨a4, l, rfl, q, fun j hj => absurd hj (Nat.not_lt_zero _), fun _ _ z => z⟩ (fun _ _ _ _ _ => rfl) (fun k dd ρ s' hdd hI => by
     obtain ⟨b, l', rfl, q', hh, hk⟩ := hI
     obtain ⟨hkk, rfl⟩ := zcM hdd
     obtain ⟨l2, s2, e2, q2, hn, hk2⟩ := zlb (x := x) (y := (k : Int)) c q' ht h0 (by omega) (by omega) hx (by omega)
     refine ⟨_, s', _, s2, rfl, e2, _, l2, rfl, q2, fun j hj => ?_, fun a b z => hk2 a b (hk a b z)⟩
     rcases Nat.lt_succ_iff_lt_or_eq.mp hj with hj | rfl
     · exact hk2 _ _ (hh j hj)
     · exact hn)
 obtain ⟨ρ', s', el, b, l', rfl, q', hh, hk⟩ := key
 rw [zbz] at q' hh
 refine ⟨l', b, s', ?_, q', hh, hk⟩
 have sm : small h = true := zbk (by omega) (by omega)
 have hfl := c.fl s
 have i1' : ixA (.tup [.int w, .int h]) (.int 1) s = some (.int h, s) := za2 (by decide) rfl
 unfold zbu
 have : mR1 (mBin ixA (mBin ixA (mVar 1) (mCon (.int 1))) (mCon (.int 1))) [some (.ref n), some bed, some (.ref t), some (.int x), a4] s = some (⟨run 0 h.toNat, []⟩, s) := by simp [rho, EVs, ltD, leD, gtD, geD, cmpD, intC, rho0, hfl, i1', sm]
 rw [zcj, this]
 exact el
theorem zoH {l : List Tl} {q : List Key} : zcV (l.map kvOf) q = (l.eraseIdx ((l.map kvOf).findIdx fun kv => decide (kv.1 = q))).map kvOf := by
 unfold zcV
 rw [zcE]
theorem znZ {n t : Nat} {bed : D} {x y w h : Int} {v : D} {q : List Key} {kvs : List (List Key × D)} {a3 a4 : Option D} {s s1 s2 : Sto} (hfl : ∀ s : Sto, ixA bed (.int 1) s = some (.tup [.int w, .int h], s)) (hd : zi8 s t = true) (e1 : zac [.ref n, .int w] s = some (.int x, s1)) (e2 : zac [.ref n, .int h] s1 = some (.int y, s2)) (ht : s2[t]? = some (.dt kvs)) (hq : keysOf [.int x, .int y] = some q) (hv : valD kvs q = some v) :
   zmv (mVar 2) (mTup (zae (zau zac (zae (mVar 0) (zae (mBin ixA (mBin ixA (mVar 1) (mCon (.int 1))) (mCon (.int 0))) (mNil)))) (zae (zau zac (zae (mVar 0) (zae (mBin ixA (mBin ixA (mVar 1) (mCon (.int 1))) (mCon (.int 1))) (mNil)))) (mNil)))) [some (.ref n), some bed, some (.ref t), a3, a4] s = some (v, s2.set t (.dt (zcV kvs q))) := by
 have i0 : ixA (.tup [.int w, .int h]) (.int 0) s = some (.int w, s) := za2 (by decide) rfl
 have i1 : ixA (.tup [.int w, .int h]) (.int 1) s1 = some (.int h, s1) := za2 (by decide) rfl
 have em : mTup (zae (zau zac (zae (mVar 0) (zae (mBin ixA (mBin ixA (mVar 1) (mCon (.int 1))) (mCon (.int 0))) (mNil)))) (zae (zau zac (zae (mVar 0) (zae (mBin ixA (mBin ixA (mVar 1) (mCon (.int 1))) (mCon (.int 1))) (mNil)))) (mNil))) [some (.ref n), some bed, some (.ref t), a3, a4] s = some (.tup [.int x, .int y], s2) := by
   simp [rho, EVs, ltD, leD, gtD, geD, cmpD, intC, rho0, hfl, i0, i1, e1, e2]
 have ev : mVar 2 [some (.ref n), some bed, some (.ref t), a3, a4] s = some (.ref t, s) := rfl
 unfold zmv
 rw [ev]
 simp only [Option.bind_some, hd, if_true]
 rw [em]
 simp only [Option.bind_some, ht, hq, hv, Option.map_some]
theorem zmJ {bed : D} {e w h : Int} {stk : List (Str × Int)} {ks : List (List Str)} {n m : Nat} {st : Sto} (c : Ctx bed e stk ks w h) (hp : PotD n m st) (hm : m ≤ 100000) (hwh : w * h < 30) :
   ∃ (ts : List Tl) (st' : Sto), zbC [.ref n, bed] st = some (zat ts, st')∧(∀ t ∈ ts, zdw w h ks.length t)∧ts.length ≤ 30∧Fr n st st' := by
 have f1 := c.fo.w0; have f2 := c.fo.w1; have f3 := c.fo.h0; have f4 := c.fo.h1
 have ht : st.length ≠ n := hp.ne
 have hcnt : w.toNat * h.toNat < 30 := by
   have : ((w.toNat * h.toNat : Nat) : Int) = w * h := by rw [Int.natCast_mul, Int.toNat_of_nonneg (by omega), Int.toNat_of_nonneg (by omega)]
   omega
 have key := zbs (W := ⟨run 0 w.toNat, []⟩) (g := gNm 3) (m := zbu) (ds := run 0 w.toNat) (ρ := [some (.ref n), some bed, some (.ref st.length), none, none]) (st := st ++ [.dt []])
   (Inv := fun k ρ s' => ∃ (a b : Option D) (l' : List Tl), ρ = [some (.ref n), some bed, some (.ref st.length), a, b]∧FInv n st.length m w h ks.length st l' (k * h.toNat) s'∧∀ i j : Nat, i < k→j < h.toNat→Has l' (i : Int) (j : Int))
   ⟨none, none, [], rfl, ⟨zaY _ _, by simp, List.Pairwise.nil, by simp, (hp.gr (Gr.app _ _)).up (by omega), Fr.app _ _ _⟩, fun i j hi => absurd hi (Nat.not_lt_zero _)⟩ (fun _ _ _ _ _ => rfl) (fun k dd ρ s' hdd hI => by
     obtain ⟨a, b, l', rfl, q', hh⟩ := hI
     obtain ⟨hkk, rfl⟩ := zcM hdd
     have hb : k * h.toNat ≤ 12 * 12 := Nat.mul_le_mul (by omega) (by omega)
     obtain ⟨l2, b4, s2, e2, q2, hn, hk2⟩ := zmQ (x := (k : Int)) (a4 := b) c q' ht (Nat.le_refl _) (by omega) (by omega) (by omega)
     refine ⟨_, s', _, s2, rfl, e2, _, _, l2, rfl, ?_, fun i j hi hj => ?_⟩
     · rw [Nat.add_mul, Nat.one_mul]
       exact q2
     · rcases Nat.lt_succ_iff_lt_or_eq.mp hi with hi | rfl
       · exact hk2 _ _ (hh i j hi hj)
       · exact hn j hj)
 obtain ⟨ρ', s2, el, a3, a4, l, rfl, q, hh⟩ := key
 rw [zbz] at q hh
 obtain ⟨r, s3, e3, r0, r1, p3, g3⟩ := zaZ (many := 2) q.pot (by omega) (by decide) (by decide)
 have at3 := (g3.old _ (getElem?_lt q.at_) ht).trans q.at_
 have fr3 := q.fr.trans g3
 have dic : zi8 s3 st.length = true := by unfold zi8; rw [at3]
 -- behind the if: some of the tiles
 have hif : ∃ (l' : List Tl) (s5 : Sto), mIf (mTst (mBin eqD (zau zac (zae (mVar 0) (zae (mCon (.int 2)) (mNil)))) (mCon (.int 0)))) (mExp (zmv (mVar 2) (mTup (zae (zau zac (zae (mVar 0) (zae (mBin ixA (mBin ixA (mVar 1) (mCon (.int 1))) (mCon (.int 0))) (mNil)))) (zae (zau zac (zae (mVar 0) (zae (mBin ixA (mBin ixA (mVar 1) (mCon (.int 1))) (mCon (.int 1))) (mNil)))) (mNil)))))) (zdN) [some (.ref n), some bed, some (.ref st.length), a3, a4] s2 = some (.nx [some (.ref n), some bed, some (.ref st.length), a3, a4], s5)∧s5[st.length]? = some (.dt (l'.map kvOf))∧l'.Sublist l∧Fr n st s5 := by
   by_cases hr : r = 0
   · subst hr
     obtain ⟨x, s4, e4, x0, x1, p4, g4⟩ := zaZ (many := w) p3 (by omega) (by omega) (by omega)
     obtain ⟨y, s5, e5, y0, y1, p5, g5⟩ := zaZ (many := h) p4 (by omega) (by omega) (by omega)
     have at5 := ((g4.trans g5).old _ (getElem?_lt at3) ht).trans at3
     obtain ⟨t, htm, t1, t2⟩ := hh x.toNat y.toNat (by omega) (by omega)
     rw [Int.toNat_of_nonneg x0] at t1
     rw [Int.toNat_of_nonneg y0] at t2
     have hv := zio q.nd htm
     have hq : keysOf [.int x, .int y] = some (kvOf t).1 := by unfold kvOf; rw [t1, t2]; rfl
     have ep := znZ (a3 := a3) (a4 := a4) c.fl dic e4 e5 at5 hq hv
     have fr5 := fr3.trans (g4.trans g5)
     refine ⟨_, s5.set st.length (.dt (zcV (l.map kvOf) (kvOf t).1)), ?_, by rw [List.getElem?_set_self (getElem?_lt at5), zoH], List.eraseIdx_sublist _ _, ⟨by rw [List.length_set]; exact fr5.len, fun j hj nj => by rw [List.getElem?_set_ne (by omega)]; exact fr5.old j hj nj⟩⟩
     have et : mTst (mBin eqD (zau zac (zae (mVar 0) (zae (mCon (.int 2)) (mNil)))) (mCon (.int 0))) [some (.ref n), some bed, some (.ref st.length), a3, a4] s2 = some (true, s3) := by simp [rho, EVs, ltD, leD, gtD, geD, cmpD, intC, rho0, e3, eq_int]
     rw [zlv, et]
     simp only [Option.bind_some, if_true]
     rw [zlf, ep]
     rfl
   · exact ⟨l, s3, by simp [rho, EVs, ltD, leD, gtD, geD, cmpD, intC, rho0, e3, eq_int, hr], at3, List.Sublist.refl _, fr3⟩
 obtain ⟨l', s5, e5, at5, hsub, fr5⟩ := hif
 have ok' : ∀ u ∈ l', zdw w h ks.length u := fun u hu => q.ok u (hsub.subset hu)
 have nd' : PlNd l' := List.Pairwise.sublist hsub q.nd
 have len' : l'.length ≤ 30 := by have h1 := hsub.length_le; have h2 := q.len; omega
 have hlt := getElem?_lt at5
 have ewk : zlj (.ref st.length) s5 = some (⟨zdO (l'.map kvOf), []⟩, s5.set st.length (.ft (l'.map kvOf))) := by
   unfold zlj
   simp only [at5]
 have a6 : (s5.set st.length (.ft (l'.map kvOf)))[st.length]? = some (.ft (l'.map kvOf)) := by simp [hlt]
 have fr6 : Fr n st (s5.set st.length (.ft (l'.map kvOf))) := ⟨by rw [List.length_set]; exact fr5.len, fun j hj nj => by rw [List.getElem?_set_ne (by omega)]; exact fr5.old j hj nj⟩
 generalize hs6 : s5.set st.length (.ft (l'.map kvOf)) = s6 at ewk a6 fr6
 have eit : zdO (l'.map kvOf) = l'.map fun t => D.tup [.int t.1, .int t.2.1] := by
   unfold zdO
   rw [List.map_map]
   rfl
 have ec : mCI ⟨zdO (l'.map kvOf), []⟩ (gNm 0) zb4 zb1 (zdO (l'.map kvOf)) [none, some (.ref st.length)] s6 = some (l'.map fun t => tupD (rowT t), s6) := by
   rw [eit]
   refine zgI (R := fun ρ => ∃ x, ρ = [x, some (.ref st.length)]) ⟨none, rfl⟩ rfl fun t htm ρ hρ => ?_
   obtain ⟨x, rfl⟩ := hρ
   have hv := zio nd' htm
   have hk : zjT (.ref st.length) (.tup [.int t.1, .int t.2.1]) s6 = some (.int t.2.2, s6) := by
     have e1 : keysOf [.int t.1, .int t.2.1] = some (kvOf t).1 := rfl
     simp only [zjT, zkM, a6, e1, Option.map_some, Option.bind_some, hv]
   exact ⟨[some (.tup [.int t.1, .int t.2.1]), some (.ref st.length)], rfl, rfl, (zhj hk : zaD _ _ = _), ⟨_, rfl⟩⟩
 have fl : fits (l'.map fun t => tupD (rowT t)).length = true := zax (by rw [List.length_map]; omega)
 have a7 := zaY s6 (.lst (l'.map fun t => tupD (rowT t)))
 have es : zfQ [.ref s6.length] (s6 ++ [.lst (l'.map fun t => tupD (rowT t))]) = some (.ref (s6 ++ [O.lst (l'.map fun t => tupD (rowT t))]).length, (s6 ++ [O.lst (l'.map fun t => tupD (rowT t))]) ++ [.lst ((srtT l').map fun t => tupD (rowT t))]) := by
   unfold zfQ orN
   rw [zby a7 (by omega), zfs]
 have f7 := Fr.app n s6 [.lst (l'.map fun t => tupD (rowT t))]
 have hperm := zcz l'
 generalize hs7 : s6 ++ [O.lst (l'.map fun t => tupD (rowT t))] = s7 at es f7
 have et := zbW (zaY s7 (.lst ((srtT l').map fun t => tupD (rowT t))))
 refine ⟨srtT l', s7 ++ [.lst ((srtT l').map fun t => tupD (rowT t))], zcU ?_, fun t htm => ok' t (hperm.mem_iff.mp htm), by rw [hperm.length_eq]; exact len', (fr6.trans f7).trans (Fr.app _ _ _)⟩
 unfold zdA zat
 generalize ((srtT l').map fun t => tupD (rowT t)) = B at es et
 generalize (l'.map fun t => tupD (rowT t)) = A at ec fl hs7
 generalize zdO (l'.map kvOf) = KD at ec ewk
 have sm : small w = true := zbk (by omega) (by omega)
 have hfl := c.fl (st ++ [.dt []])
 have j0 : ixA (.tup [.int w, .int h]) (.int 0) (st ++ [.dt []]) = some (.int w, st ++ [.dt []]) := za2 (by decide) rfl
 refine zap (ρ1 := [some (.ref n), some bed, some (.ref st.length), none, none]) (s1 := st ++ [.dt []]) (by simp [rho, EVs, ltD, leD, gtD, geD, cmpD, intC, rho0]) ?_
 refine zap (ρ1 := [some (.ref n), some bed, some (.ref st.length), a3, a4]) (s1 := s2) (by
   have : mR1 (mBin ixA (mBin ixA (mVar 1) (mCon (.int 1))) (mCon (.int 0))) [some (.ref n), some bed, some (.ref st.length), none, none] (st ++ [.dt []]) = some (⟨run 0 w.toNat, []⟩, st ++ [.dt []]) := by simp [rho, EVs, ltD, leD, gtD, geD, cmpD, intC, rho0, hfl, j0, sm]
   rw [zcj, this]
   exact el) ?_
 refine zap e5 ?_
 have ecm : zcQ (mWK (mVar 2)) 1 [2] (gNm 0) (zb4) (zb1) [some (.ref n), some bed, some (.ref st.length), a3, a4] s5 = some (.ref s6.length, s7) := by
   have : mWK (mVar 2) [some (.ref n), some bed, some (.ref st.length), a3, a4] s5 = some (⟨KD, []⟩, s6) := ewk
   rw [zaO, this]
   simp only [Option.bind_some]
   rw [show rho0 [some (.ref n), some bed, some (.ref st.length), a3, a4] 1 [2] = [none, some (.ref st.length)] from rfl, ec]
   simp only [Option.bind_some, fl, if_true, hs7]
 simp [rho, EVs, ltD, leD, gtD, geD, cmpD, intC, rho0, ecm, es, et]
end L2.MP.stickytiles_k11_growings
namespace L2.MP.stickytiles_k11_growings
open PySem L2.MP L2.MP.Hd
open L2.MP.Hn (zat)
theorem zoT {e : Int} {stk : List (Str × Int)} {ks : List (List Str)} {w h : Int} {sd : List Tl} (hs : HsOk e stk ks) (hf : FlOk w h) : Ctx (bedD e stk ks w h sd) e stk ks w h :=
 ⟨⟨zcT e stk ks, fun s => za2 (by decide) rfl, fun s => za2 (by decide) rfl, fun s => za2 (by decide) rfl, fun s => za2 (by decide) rfl⟩, fun s => za2 (by decide) rfl, hs, hf⟩
theorem zoL {e : Int} {stk : List (Str × Int)} {ks : List (List Str)} {P : List Tl} {x y : Int} {t : Tl} (h : t ∈ gA e stk ks P x y) : t.1 = x∧t.2.1 = y∧0 ≤ t.2.2∧t.2.2 < (ks.length : Int) := by
 unfold gA at h
 split at h
 · cases h
 · unfold gK at h
   obtain ⟨k, hk, rfl⟩ := List.mem_map.mp h
   have := List.mem_range.mp (List.mem_filter.mp hk).1
   exact ⟨rfl, rfl, by show (0 : Int) ≤ (k : Int); omega, by show (k : Int) < _; omega⟩
theorem zoK {e h : Int} {stk : List (Str × Int)} {ks : List (List Str)} {P : List Tl} {n : Nat} {t : Tl} (ht : t ∈ gF e stk ks P h n) : 0 ≤ t.1∧t.1 < (n : Int)∧0 ≤ t.2.1∧t.2.1 < (h.toNat : Int)∧0 ≤ t.2.2∧t.2.2 < (ks.length : Int) := by
 unfold gF at ht
 obtain ⟨q, hq, ht⟩ := List.mem_flatten.mp ht
 obtain ⟨i, hi, rfl⟩ := List.mem_map.mp hq
 unfold gC at ht
 obtain ⟨q, hq, ht⟩ := List.mem_flatten.mp ht
 obtain ⟨j, hj, rfl⟩ := List.mem_map.mp hq
 have hi := List.mem_range.mp hi
 have hj := List.mem_range.mp hj
 obtain ⟨h1, h2, h3, h4⟩ := zoL ht
 omega
theorem zlA {e w h : Int} {stk : List (Str × Int)} {ks : List (List Str)} {P : List Tl} (hs : HsOk e stk ks) (hf : FlOk w h) : Tame 52416 3 (.tup ((gF e stk ks P h w.toNat).map tD)) := by
 have f1 := hf.w0; have f2 := hf.w1; have f3 := hf.h0; have f4 := hf.h1; have k13 := hs.hi
 refine zgX (w := 27) (k := 2) (L := 1872) (fun d hd => ?_) ?_
 · obtain ⟨t, ht, rfl⟩ := List.mem_map.mp hd
   obtain ⟨h1, h2, h3, h4, h5, h6⟩ := zoK ht
   refine zgX (w := 8) (k := 1) (L := 3) (fun d hd => ?_) (by simp [rowT])
   simp [rowT] at hd
   rcases hd with rfl | rfl | rfl
   · exact zfe h1 (by omega)
   · exact zfe h3 (by omega)
   · exact zfe h5 (by omega)
 · rw [List.length_map]
   refine Nat.le_trans (zkW e stk ks P h w.toNat) ?_
   exact Nat.mul_le_mul (show w.toNat ≤ 12 by omega) (Nat.mul_le_mul (show h.toNat ≤ 12 by omega) k13)
theorem zmw {a0 a1 a2 a4 a6 : Option D} {bed T : D} {d l : Nat} {A : List D} {z : Str} {s s1 s2 s3 s4 : Sto} (e1 : zbn [T] s = some (.ref d, s1)) (e2 : zbU [bed, .ref d] s1 = some (.ref l, s2)) (et : zdg [.ref l] s2 = some (.tup A, s2)) (rz : ∀ st : Sto, zjA [.tup A] st = some (.str z, st)) (e3 : zbD [bed, T] s2 = some (.tup A, s3)) (e4 : zbD [bed, T] s3 = some (.tup A, s4)) :
   ze7 [a0, a1, a2, some bed, a4, some T, a6] s = some (.nx [a0, a1, a2, some bed, a4, some T, some (.str z)], s4) := by
 unfold ze7
 refine zap (ρ1 := [a0, a1, a2, some bed, a4, some T, some (.str z)]) (s1 := s2) (by simp [rho, EVs, ltD, leD, gtD, geD, cmpD, intC, rho0, e1, e2, et, rz]) ?_
 simp [rho, EVs, ltD, leD, gtD, geD, cmpD, intC, rho0, e3, e4, rz, zms]
theorem zmx {a0 a1 a2 a4 a6 : Option D} {bed : D} {e w h : Int} {stk : List (Str × Int)} {ks : List (List Str)} {ts : List Tl} {s : Sto} (c : Ctx bed e stk ks w h) (hts : ∀ t ∈ ts, zdw w h ks.length t) (hl : ts.length ≤ 60) :
   ∃ (x : Option D) (s' : Sto), ze7 [a0, a1, a2, some bed, a4, some (zat ts), a6] s = some (.nx [a0, a1, a2, some bed, a4, some (zat ts), x], s')∧Gr s s' := by
 have hP : ∀ t ∈ byPl ts, 0 ≤ t.2.2∧t.2.2 < (ks.length : Int) := fun t ht => by
   have : zdw w h ks.length t := fold_all (P := zdw w h ks.length) (by simp) hts t ht
   exact ⟨this.2.2.2.2.1, this.2.2.2.2.2⟩
 obtain ⟨d, s1, e1, a1', g1⟩ := zkK (ts := ts) (st := s) (by omega)
 obtain ⟨s2, e2, a2', g2⟩ := zou c hP a1'
 rw [← zmH c.hs.e0] at a2'
 have et := zbW a2'
 obtain ⟨z, rz⟩ := zlV (zlA (P := byPl ts) c.hs c.fo) (by decide) (by decide)
 obtain ⟨s3, e3, g3⟩ := zdQ (ts := ts) (st := s2) c (by omega) hP
 obtain ⟨s4, e4, g4⟩ := zdQ (ts := ts) (st := s3) c (by omega) hP
 exact ⟨_, s4, zmw e1 e2 et rz e3 e4, ((g1.trans g2).trans g3).trans g4⟩
theorem zke {ns : List Int} {k : Int} {a2 a3 a4 a5 a6 : Option D} {s : Sto} (h0 : 0 ≤ k) (h1 : k ≤ 1000) :
   ∃ (b2 b3 b4 b5 b6 : Option D) (s' : Sto), zgp [some (.kl (ns.map D.int)), some (.int k), a2, a3, a4, a5, a6] s = some (.nx [some (.kl (ns.map D.int)), some (.int k), b2, b3, b4, b5, b6], s') := by
 obtain ⟨s1, e1, p1, g1⟩ := zld (ns := ns) (k := k) (st := s) h0 h1
 generalize hn : s.length = n at *
 obtain ⟨e, stk, ks, w, h, sd, s2, e2, hs, hf, hsd, lsd, p2, f2⟩ := zoX p1 (by omega)
 have f1' := hf.w0; have f2' := hf.w1; have f3' := hf.h0; have f4' := hf.h1; have k1 := hs.lo; have k2 := hs.hi
 obtain ⟨ts, s3, e3, hts, lts, p3, f3⟩ := zcJ (w := w) (h := h) (most := 9) (a := .int e) (b := .tup (stk.map zbq)) (ks := ks.map zbv) p2 (by omega) (by omega) (by omega) (by omega) (by rw [List.length_map]; omega) (by rw [List.length_map]; omega) (by decide) (by decide) (by omega)
 have e3 : zas [.ref n, zcT e stk ks, .tup [.int w, .int h], .int 9] s2 = some (zat ts, s3) := e3
 obtain ⟨us, s4, e4, hus, lus, p4, f4⟩ := zcJ (w := w) (h := h) (most := 3) (a := .int e) (b := .tup (stk.map zbq)) (ks := ks.map zbv) p3 (by omega) (by omega) (by omega) (by omega) (by rw [List.length_map]; omega) (by rw [List.length_map]; omega) (by decide) (by decide) (by omega)
 have e4 : zas [.ref n, zcT e stk ks, .tup [.int w, .int h], .int 3] s3 = some (zat us, s4) := e4
 rw [List.length_map] at hts hus
 have c : Ctx (bedD e stk ks w h sd) e stk ks w h := zoT hs hf
 have hb0 : ∀ s : Sto, ixA (bedD e stk ks w h sd) (.int 0) s = some (zcT e stk ks, s) := fun s => za2 (by decide) rfl
 have hb1 : ∀ s : Sto, ixA (bedD e stk ks w h sd) (.int 1) s = some (.tup [.int w, .int h], s) := c.fl
 have hb2 : ∀ s : Sto, ixA (bedD e stk ks w h sd) (.int 2) s = some (zat sd, s) := fun s => za2 (by decide) rfl
 have a5' := zaY s4 (.lst ([sd, ts, us].map zat))
 have p5 := p4.gr (Gr.app s4 [.lst ([sd, ts, us].map zat)])
 have hn5 := p4.ne
 have hs5 : s4 ++ [O.lst [zat sd, zat ts, zat us]] = s4 ++ [O.lst ([sd, ts, us].map zat)] := rfl
 have hall : ∀ v ∈ [sd, ts, us], (∀ t ∈ v, zdw w h ks.length t)∧v.length ≤ 60 := fun v hv => by
   simp at hv
   rcases hv with rfl | rfl | rfl
   · exact ⟨hsd, by omega⟩
   · exact ⟨hts, by omega⟩
   · exact ⟨hus, by omega⟩
 have l3 : ([sd, ts, us].map zat).length ≤ 10 := by simp
 generalize [sd, ts, us] = vs at *
 generalize hs6 : s4 ++ [O.lst (vs.map zat)] = s5 at *
 have i0 : ∀ s : Sto, ixA (.tup [.int w, .int h]) (.int 0) s = some (.int w, s) := fun s => za2 (by decide) rfl
 have i1 : ∀ s : Sto, ixA (.tup [.int w, .int h]) (.int 1) s = some (.int h, s) := fun s => za2 (by decide) rfl
 have em : mulA (.int w) (.int h) s5 = some (.int (w * h), s5) := mul_int (by omega)
 have hif : ∃ (vs' : List (List Tl)) (s7 : Sto), mIf (mTst (mBin ltD (mBin mulA (mBin ixA (mBin ixA (mVar 3) (mCon (.int 1))) (mCon (.int 0))) (mBin ixA (mBin ixA (mVar 3) (mCon (.int 1))) (mCon (.int 1)))) (mCon (.int 30)))) (mExp (mApp (mVar 4) (zae (zau zbC (zae (mVar 2) (zae (mVar 3) (mNil)))) (mNil)))) (zdN) [some (.kl (ns.map D.int)), some (.int k), some (.ref n), some (bedD e stk ks w h sd), some (.ref s4.length), a5, a6] s5 = some (.nx [some (.kl (ns.map D.int)), some (.int k), some (.ref n), some (bedD e stk ks w h sd), some (.ref s4.length), a5, a6], s7)∧s7[s4.length]? = some (.lst (vs'.map zat))∧∀ v ∈ vs', (∀ t ∈ v, zdw w h ks.length t)∧v.length ≤ 60 := by
   by_cases hwh : w * h < 30
   · obtain ⟨fs, s6, e6, hfs, lfs, f6⟩ := zmJ c p5 (by omega) hwh
     have a6' := (f6.old _ (getElem?_lt a5') hn5).trans a5'
     have ea := append_at (x := zat fs) a6' (by omega)
     refine ⟨vs ++ [fs], s6.set s4.length (.lst (vs.map zat ++ [zat fs])), ?_, by rw [List.getElem?_set_self (getElem?_lt a6')]; simp, fun v hv => ?_⟩
     · generalize bedD e stk ks w h sd = bed at *
       generalize zat fs = FS at *
       generalize vs.map zat = VS at *
       generalize ns.map D.int = NS at *
       simp [rho, EVs, ltD, leD, gtD, geD, cmpD, intC, rho0, hb1, i0, i1, em, hwh, zbj, a5', e6, ea]
     · rcases List.mem_append.mp hv with hv | hv
       · exact hall v hv
       · rw [List.mem_singleton.mp hv]; exact ⟨hfs, by omega⟩
   · refine ⟨vs, s5, ?_, a5', hall⟩
     generalize bedD e stk ks w h sd = bed at *
     generalize ns.map D.int = NS at *
     simp [rho, EVs, ltD, leD, gtD, geD, cmpD, intC, rho0, hb1, i0, i1, em, hwh]
 obtain ⟨vs', s7, e7, a7, hall'⟩ := hif
 have key := zbs (W := ⟨vs'.map zat, [(s4.length, vs'.map zat)]⟩) (g := gNm 5) (m := ze7) (ds := vs'.map zat) (ρ := [some (.kl (ns.map D.int)), some (.int k), some (.ref n), some (bedD e stk ks w h sd), some (.ref s4.length), a5, a6]) (st := s7)
   (Inv := fun i ρ s' => (∃ u v, ρ = [some (.kl (ns.map D.int)), some (.int k), some (.ref n), some (bedD e stk ks w h sd), some (.ref s4.length), u, v])∧Gr s7 s')
   ⟨⟨_, _, rfl⟩, Gr.refl _⟩ (fun i ρ s' _ hI => zb5 ((hI.2.old _ (getElem?_lt a7)).trans a7)) (fun i dd ρ s' hdd hI => by
     obtain ⟨⟨u, v, rfl⟩, g⟩ := hI
     rw [List.getElem?_map] at hdd
     obtain ⟨t, ht, rfl⟩ := zag hdd
     obtain ⟨hT, hL⟩ := hall' t (List.mem_of_getElem? ht)
     obtain ⟨x, s8, e8, g8⟩ := zmx (a0 := some (.kl (ns.map D.int))) (a1 := some (.int k)) (a2 := some (.ref n)) (a4 := some (.ref s4.length)) (a6 := v) (ts := t) (s := s') c hT hL
     exact ⟨[some (.kl (ns.map D.int)), some (.int k), some (.ref n), some (bedD e stk ks w h sd), some (.ref s4.length), some (zat t), v], s', _, s8, rfl, e8, ⟨_, _, rfl⟩, g.trans g8⟩)
 obtain ⟨ρ', s8, el, ⟨u, v, rfl⟩, g8⟩ := key
 refine ⟨some (.ref n), some (bedD e stk ks w h sd), some (.ref s4.length), u, v, s8, ?_⟩
 generalize bedD e stk ks w h sd = bed at *
 generalize zcT e stk ks = hd at *
 generalize ns.map D.int = NS at *
 generalize vs'.map zat = VS at *
 unfold zgp
 refine zap (ρ1 := [some (.kl NS), some (.int k), some (.ref n), a3, a4, a5, a6]) (s1 := s1) (by simp [rho, EVs, ltD, leD, gtD, geD, cmpD, intC, rho0, e1]) ?_
 refine zap (ρ1 := [some (.kl NS), some (.int k), some (.ref n), some bed, a4, a5, a6]) (s1 := s2) (by simp [rho, EVs, ltD, leD, gtD, geD, cmpD, intC, rho0, e2]) ?_
 refine zap (ρ1 := [some (.kl NS), some (.int k), some (.ref n), some bed, some (.ref s4.length), a5, a6]) (s1 := s5) (by
   rw [← hs5]
   generalize zat sd = S1 at *
   generalize zat ts = S2 at *
   generalize zat us = S3 at *
   simp [rho, EVs, ltD, leD, gtD, geD, cmpD, intC, rho0, hb0, hb1, hb2, e3, e4]) ?_
 refine zap e7 ?_
 have ew : mWA (mVar 4) [some (.kl NS), some (.int k), some (.ref n), some bed, some (.ref s4.length), a5, a6] s7 = some (⟨VS, [(s4.length, VS)]⟩, s7) := by simp [rho, EVs, ltD, leD, gtD, geD, cmpD, intC, rho0, zin, zbj, a7]
 rw [zcj, ew]
 exact el
theorem zkO (ns : List Int) (hl : ns.length ≤ 63) : ∃ st, zli [.kl (ns.map D.int)] [] = some (.bl true, st) := by
 obtain ⟨M, hM, hM4⟩ : ∃ M : Nat, (1 + (if (ns.length : Int) < 3 then (ns.length : Int) else 3)) = (M : Int)∧M ≤ 4 := by
   by_cases h : (ns.length : Int) < 3
   · exact ⟨1 + ns.length, by rw [if_pos h]; omega, by omega⟩
   · exact ⟨4, by rw [if_neg h]; rfl, by omega⟩
 have key := zbs (W := ⟨run 0 M, []⟩) (g := gNm 1) (m := zgp) (ds := run 0 M) (ρ := [some (.kl (ns.map D.int)), none, none, none, none, none, none]) (st := [])
   (Inv := fun i ρ s => ∃ a b c d e f, ρ = [some (.kl (ns.map D.int)), a, b, c, d, e, f]) ⟨_, _, _, _, _, _, rfl⟩ (fun _ _ _ _ _ => rfl) (fun i dd ρ s hd hI => by
     obtain ⟨a1, a2, a3, a4, a5, a6, rfl⟩ := hI
     obtain ⟨hi, rfl⟩ := zcM hd
     obtain ⟨b2, b3, b4, b5, b6, s', e⟩ := zke (ns := ns) (k := (i : Int)) (a2 := a2) (a3 := a3) (a4 := a4) (a5 := a5) (a6 := a6) (s := s) (by omega) (by omega)
     exact ⟨[some (.kl (ns.map D.int)), some (.int (i : Int)), a2, a3, a4, a5, a6], s, _, s', rfl, e, _, _, _, _, _, _, rfl⟩)
 obtain ⟨ρ', s2, el, a1, a2, a3, a4, a5, a6, rfl⟩ := key
 refine ⟨s2, zcU ?_⟩
 unfold zpt
 have elen : lenD [.kl (ns.map D.int)] [] = some (.int (ns.length : Int), []) := by rw [zkN, List.length_map]
 have er : mR1 (mBin addD (mCon (.int 1)) (zau zmu (zae (mCon (.int 3)) (zae (zau lenD (zae (mVar 0) (mNil))) (mNil))))) [some (.kl (ns.map D.int)), none, none, none, none, none, none] [] = some (⟨run 0 M, []⟩, []) := by
   refine zkh (s1 := []) (k := M) hM ?_ (by omega)
   generalize ns.map D.int = NS at *
   generalize (ns.length : Int) = K at *
   simp [rho, EVs, ltD, leD, gtD, geD, cmpD, intC, rho0, elen, zmu]
 refine zap (ρ1 := [some (.kl (ns.map D.int)), a1, a2, a3, a4, a5, a6]) (s1 := s2) (by
   show mFor _ _ _ [some (.kl (ns.map D.int)), none, none, none, none, none, none] [] = _
   rw [zcj, er]
   exact el) ?_
 simp [rho, EVs, ltD, leD, gtD, geD, cmpD, intC, rho0]
end L2.MP.stickytiles_k11_growings
namespace L2.MP.stickytiles_k11_growings
open PySem L2 L2.MP PySem.Spec PyProof.Rows
theorem znz {K : PySem.W.Frag} {H : Hp} {a : Addr} {ns : List Int} (hl : ns.length ≤ 63) (hO : Only H) (hS : SqL K H a (ns.map V.int)) : spM K 1 zli [.ref a] H (fun v _ => v = .bl true) fun _ _ _ => False := by
 obtain ⟨st, e⟩ := zkO ns hl
 exact zj7 hO hS e
theorem walk {l : PySem.W.OpenLaw} {q : Program} {loose : List Str} {XP : (Str→Option Value)→Heap→Prop} {YP : World→Heap→Prop} {d : DefRec} {K : Params→PySem.W.Frag} (hn : l.most = some 63) (hdf : d.params.defaults = [])
   (hY : ∀ (w : World) (h : Heap), YP w h→(K w.params).In h)
   (F : ∀ (w : World) (mg : Str→Option Value) (fa : Addr) (h : Heap), (K w.params).In h→h.Ns mainGlobals mg→mg d.name = some (.ref fa) →
     ∃ fd : FuncData, (∀ (s : Shared) (u : Value), BindsTo s fd ⟨[u], []⟩ [("_law_script", u)])∧∀ base : Heap, (K w.params).In base→base.Ns mainGlobals mg→FnOk l.prog w (K w.params) mg base CX0 5 fa fd ["_law_script"] (spM (K w.params) 1 zli)) :
   PySem.W.WalkO q loose XP YP l.row.toRowW d [] (fun f vs => PySem.call f vs) :=
 L2.walk_of (n := 63) (k := 5) (x := "_law_script") (CX := fun _ => CX0) (sp := fun w => spM (K w.params) 1 zli) hn (by decide) hdf ⟨rfl, by decide, by decide, rfl⟩ hY F (fun _ _ a ns hl hO hS => znz hl hO hS) fun _ _ _ _ _ z => z
end L2.MP.stickytiles_k11_growings
open PySem PySem.W PyProof.Rows
set_option maxRecDepth 100000 in
set_option maxHeartbeats 0 in
theorem PySem.Challenge.cw_stickytiles_k11_growings_holds : PySem.Challenge.rw_stickytiles_k11_growings.Holds := by
 w_on; o_law; k_head; (case hw => w_witness2)
 k_fill
 refine L2.MP.stickytiles_k11_growings.walk (l := PySem.Challenge.rw_stickytiles_k11_growings) rfl rfl (fun w h Y => PySem.W.kIn_of Y) ?F
 case F =>
   intro w mg fa h KX G hmg
   refine' L2.MP.stickytiles_k11_growings.all_mk KX G hmg ?a0 ?l0 ?c0 ?k0 ?a1 ?l1 ?c1 ?k1 ?a2 ?l2 ?c2 ?k2 ?a3 ?l3 ?c3 ?k3 ?a4 ?l4 ?c4 ?k4 ?a5 ?l5 ?c5 ?k5 ?a6 ?l6 ?c6 ?k6 ?a7 ?l7 ?c7 ?k7 ?a8 ?l8 ?c8 ?k8 ?a9 ?l9 ?c9 ?k9 ?a10 ?l10 ?c10 ?k10 ?a11 ?l11 ?c11 ?k11 ?a12 ?l12 ?c12 ?k12 ?a13 ?l13 ?c13 ?k13 ?a14 ?l14 ?c14 ?k14 ?a15 ?l15 ?c15 ?k15 ?a16 ?l16 ?c16 ?k16 ?a17 ?l17 ?c17 ?k17 ?a18 ?l18 ?c18 ?k18 ?a19 ?l19 ?c19 ?k19 ?a20 ?l20 ?c20 ?k20 ?a21 ?l21 ?c21 ?k21 ?z0 ?z1 ?z2 ?z3 ?z4 ?z5 ?z6 ?z7 ?z8 ?z9 ?z10 ?z11
   (case a0 => k_is); (case l0 => k_is); (case c0 => k_is); (case k0 => k_is)
   (case a1 => k_is); (case l1 => k_is); (case c1 => k_is); (case k1 => k_is)
   (case a2 => k_is); (case l2 => k_is); (case c2 => k_is); (case k2 => k_is)
   (case a3 => k_is); (case l3 => k_is); (case c3 => k_is); (case k3 => k_is)
   (case a4 => k_is); (case l4 => k_is); (case c4 => k_is); (case k4 => k_is)
   (case a5 => k_is); (case l5 => k_is); (case c5 => k_is); (case k5 => k_is)
   (case a6 => k_is); (case l6 => k_is); (case c6 => k_is); (case k6 => k_is)
   (case a7 => k_is); (case l7 => k_is); (case c7 => k_is); (case k7 => k_is)
   (case a8 => k_is); (case l8 => k_is); (case c8 => k_is); (case k8 => k_is)
   (case a9 => k_is); (case l9 => k_is); (case c9 => k_is); (case k9 => k_is)
   (case a10 => k_is); (case l10 => k_is); (case c10 => k_is); (case k10 => k_is)
   (case a11 => k_is); (case l11 => k_is); (case c11 => k_is); (case k11 => k_is)
   (case a12 => k_is); (case l12 => k_is); (case c12 => k_is); (case k12 => k_is)
   (case a13 => k_is); (case l13 => k_is); (case c13 => k_is); (case k13 => k_is)
   (case a14 => k_is); (case l14 => k_is); (case c14 => k_is); (case k14 => k_is)
   (case a15 => k_is); (case l15 => k_is); (case c15 => k_is); (case k15 => k_is)
   (case a16 => k_is); (case l16 => k_is); (case c16 => k_is); (case k16 => k_is)
   (case a17 => k_is); (case l17 => k_is); (case c17 => k_is); (case k17 => k_is)
   (case a18 => k_is); (case l18 => k_is); (case c18 => k_is); (case k18 => k_is)
   (case a19 => k_is); (case l19 => k_is); (case c19 => k_is); (case k19 => k_is)
   (case a20 => k_is); (case l20 => k_is); (case c20 => k_is); (case k20 => k_is)
   (case a21 => k_is); (case l21 => k_is); (case c21 => k_is); (case k21 => k_is)
   (case z0 => k_is); (case z1 => k_is); (case z2 => k_is); (case z3 => k_is); (case z4 => k_is); (case z5 => k_is); (case z6 => k_is); (case z7 => k_is); (case z8 => k_is); (case z9 => k_is); (case z10 => k_is); (case z11 => k_is)
