import PyProof.Rows.All
import Wide.All
import OpenK.AllK
import Wide.FinOn
import Lean
import PyProof.EqAt
import PyProof.EqKinds
import PyProof.TupleCall
import KE.KRevSl
import PyProof.AttrMissHeap
import KE.KDictOf
import PyProof.StrWalks
import PyProof.ListStr
import PyProof.EnumMake
import PyProof.Rows.Range3
import PyProof.Rows.StrIndexOr
import KE.KRevIter
import PyProof.SumWalk
import PyProof.ReprRoads
import PyProof.DictWalks
import PyProof.FitsBits
import PyProof.CallStr
import PyProof.Rows.FStr
import PyProof.Rows.StrNews
import KE.KIntText
import PyProof.Rows.MinMaxN
import PyProof.StrCalls
import PyProof.StrLawsIn
import PyProof.Rows.StrLawsPart
import PyProof.StrLawsChain
import PyProof.Rows.StrIntSpec
import PyProof.StrLawsTight
import PyProof.Rows.ReprOcc
import PyProof.Rows.StrSplitAre
import PySem.Challenge.RW_stickytiles_k81_texts_of_no_row
set_option Elab.async false
set_option linter.all false
set_option maxRecDepth 100000
namespace L2
open PySem PySem.Spec PyProof.Rows
abbrev Key := Sum Int Str
def keyIs : Key → Value → Bool
  | .inl k, v => Value.isInt k v
  | .inr x, v => Value.isStrOf x v
def keyH (w : World) : Key → Int
  | .inl k => hashInt k
  | .inr x => hashStr w x
theorem keyIs_shape : ∀ {k : Key} {v : Value}, keyIs k v = true → (∃ i t, k = Sum.inl i ∧ v = Value.int i t) ∨ (∃ x t, k = Sum.inr x ∧ v = Value.str x t)
  | .inl i, v, h => by
    obtain ⟨t, e⟩ := Value.isInt_shape (k := i) (v := v) h
    exact .inl ⟨i, t, rfl, e⟩
  | .inr x, v, h => by
    obtain ⟨t, e⟩ := Value.isStrOf_shape (x := x) (v := v) h
    exact .inr ⟨x, t, rfl, e⟩
theorem keyIs_int (i : Int) (t : Tok) : keyIs (.inl i) (.int i t) = true := by simp [keyIs, Value.isInt]
theorem keyIs_str (x : Str) (t : Tok) : keyIs (.inr x) (.str x t) = true := by simp [keyIs, Value.isStrOf]
theorem key_ll (a b : Int) : decide ((Sum.inl a : Key) = Sum.inl b) = (a == b) := by
  by_cases e : a = b
  · subst e; simp
  · have h : ¬ (Sum.inl a : Key) = Sum.inl b := fun q => e (Sum.inl.inj q)
    rw [decide_eq_false h]
    exact (beq_eq_false_iff_ne.mpr e).symm
theorem key_rr (a b : Str) : decide ((Sum.inr a : Key) = Sum.inr b) = decide (a = b) := by
  by_cases e : a = b
  · subst e; simp
  · have h : ¬ (Sum.inr a : Key) = Sum.inr b := fun q => e (Sum.inr.inj q)
    rw [decide_eq_false h, decide_eq_false e]
theorem key_lr (a : Int) (b : Str) : decide ((Sum.inl a : Key) = Sum.inr b) = false := decide_eq_false (fun q => nomatch q)
theorem key_rl (a : Str) (b : Int) : decide ((Sum.inr a : Key) = Sum.inl b) = false := decide_eq_false (fun q => nomatch q)
def mixKind (prog : Program) (w : World) : PySem.KeyKind prog w Key where
  is := keyIs
  hash := keyH w
  inj := fun v a b ha hb => by
    rcases keyIs_shape ha with ⟨i, t, rfl, rfl⟩ | ⟨x, t, rfl, rfl⟩
    · rcases keyIs_shape hb with ⟨j, u, rfl, e⟩ | ⟨y, u, rfl, e⟩
      · injection e with e1 _; rw [e1]
      · exact nomatch e
    · rcases keyIs_shape hb with ⟨j, u, rfl, e⟩ | ⟨y, u, rfl, e⟩
      · exact nomatch e
      · injection e with e1 _; rw [e1]
  byValue := fun k v h => by
    rcases keyIs_shape h with ⟨i, t, rfl, rfl⟩ | ⟨x, t, rfl, rfl⟩ <;> rfl
  pyHash := fun hv h => by
    rcases keyIs_shape hv with ⟨i, t, rfl, rfl⟩ | ⟨x, t, rfl, rfl⟩
    · exact wpAny_pyHash_int h
    · exact wpAny_pyHash_str h
  eqBool := fun hu hv h => by
    rcases keyIs_shape hu with ⟨i, t, rfl, rfl⟩ | ⟨x, t, rfl, rfl⟩
    · rcases keyIs_shape hv with ⟨j, u, rfl, rfl⟩ | ⟨y, u, rfl, rfl⟩
      · rw [key_ll] at h; exact wpAny_eqBool_int h
      · rw [key_lr] at h; exact SeqAt.EqAt.int_str i t y u _ _ _ _ h
    · rcases keyIs_shape hv with ⟨j, u, rfl, rfl⟩ | ⟨y, u, rfl, rfl⟩
      · rw [key_rl] at h; exact SeqAt.EqAt.str_int x t j u _ _ _ _ h
      · rw [key_rr] at h; exact wpAny_eqBool_str h
  «strs» := fun k x t v h => by
    rcases keyIs_shape h with ⟨i, u, rfl, e⟩ | ⟨y, u, rfl, e⟩
    · exact nomatch e
    · injection e with e1 _
      subst e1
      cases v <;> rfl
theorem mixKind_int (prog : Program) (w : World) (i : Int) (t : Tok) : (mixKind prog w).is (.inl i) (.int i t) = true := keyIs_int i t
theorem mixKind_str (prog : Program) (w : World) (x : Str) (t : Tok) : (mixKind prog w).is (.inr x) (.str x t) = true := keyIs_str x t
end L2
namespace L2
open PySem PySem.Spec PyProof.Rows
inductive V where
  | non | bl (b : Bool) | int (i : Int) | str (x : Str) | byt (b : Array UInt8) | flt (b : UInt64) | ref (a : Addr) | ty (n : String)
  deriving DecidableEq
def RelV : V → Value → Prop
  | .non, u => u = Value.none
  | .bl b, u => u = Value.bool b
  | .int i, u => ∃ t, u = Value.int i t
  | .str x, u => ∃ t, u = Value.str x t
  | .byt b, u => ∃ t, u = Value.bytes b t
  | .flt b, u => ∃ t, u = Value.float b t
  | .ref a, u => u = Value.ref a
  | .ty n, u => u = Value.type n
abbrev Vals : List V → List Value → Prop := Paired RelV
theorem Vals.length {xs : List V} {us : List Value} (r : Vals xs us) : xs.length = us.length := Paired.length r
theorem Vals.get : ∀ {xs : List V} {us : List Value} {i : Nat} {x : V}, Vals xs us → xs[i]? = some x → ∃ u, us[i]? = some u ∧ RelV x u
  | _, _, _, _, .nil, e => by simp at e
  | _, _, 0, _, .cons r _, e => by simp at e; subst e; exact ⟨_, rfl, r⟩
  | _, _, i + 1, x, .cons _ t, e => by
    obtain ⟨u, h1, h2⟩ := Vals.get (i := i) (x := x) t (by simpa using e)
    exact ⟨u, by simpa using h1, h2⟩
theorem Vals.set {x : V} {u : Value} (r : RelV x u) : ∀ {xs : List V} {us : List Value} (i : Nat), Vals xs us → Vals (xs.set i x) (us.set i u)
  | _, _, _, .nil => .nil
  | _, _, 0, .cons _ t => .cons r t
  | _, _, i + 1, .cons q t => .cons q (Vals.set r i t)
theorem Vals.append : ∀ {xs ys : List V} {us ws : List Value}, Vals xs us → Vals ys ws → Vals (xs ++ ys) (us ++ ws)
  | _, _, _, _, .nil, s => s
  | _, _, _, _, .cons r t, s => .cons r (Vals.append t s)
theorem Vals.take : ∀ {xs : List V} {us : List Value} (n : Nat), Vals xs us → Vals (xs.take n) (us.take n)
  | _, _, 0, _ => .nil
  | _, _, _ + 1, .nil => .nil
  | _, _, n + 1, .cons r t => .cons r (Vals.take n t)
theorem Vals.drop : ∀ {xs : List V} {us : List Value} (n : Nat), Vals xs us → Vals (xs.drop n) (us.drop n)
  | _, _, 0, r => r
  | _, _, _ + 1, .nil => .nil
  | _, _, n + 1, .cons _ t => Vals.drop n t
def RelO : Option V → Option Value → Prop
  | some v, some u => RelV v u
  | none, none => True
  | _, _ => False
def KV {κ : Type} : List (κ × V) → List (κ × Value) → Prop := Paired fun (p : κ × V) (q : κ × Value) => p.1 = q.1 ∧ RelV p.2 q.2
def kV : Key → V
  | .inl i => .int i
  | .inr x => .str x
inductive HO where
  /-- a list -/
  | lst (xs : List V)
  /-- a tuple (never changes) -/
  | tup (xs : List V)
  /-- a dict whose keys are ints and texts; one whose keys are tuples of ints and texts (the empty one is both) -/
  | dK (kvs : List (Key × V)) | dT (kvs : List (List Key × V))
  /-- a set of ints: its members, its size -/
  | set (S : Int → Bool) (n : Nat)
  /-- an instance of the class at C, its dict at dx, its attributes -/
  | ins (C dx : Addr) (fs : List (Str × V))
  /-- the dict of the instance at x -/
  | own (x : Addr)
  /-- the dict of an exception -/
  | xd (fs : List (Str × V))
  /-- a bound method, f of x -/
  | met (f x : Addr)
  /-- a range object lo, lo + 1, .. below hi -/
  | rng (lo hi : Int)
  /-- a thing that is known to the object (the script; a dict while a loop walks it): read, never written while it is so -/
  | frz (o : Obj) (u : HO)
  /-- a code object's table -/
  | tbl (ps : Array Value)
  /-- any other thing, by what is true of its one object (a def of one's own: SetO a S n := HO.ext fun h => ..) -/
  | ext (φ : Heap → Prop)
abbrev Hp := Addr → Option HO
def upd (H : Hp) (a : Addr) (o : HO) : Hp := fun b => if b = a then some o else H b
theorem upd_same {H : Hp} {a : Addr} {o : HO} : upd H a o a = some o := by unfold upd; rw [if_pos rfl]
theorem upd_ne {H : Hp} {a b : Addr} {o : HO} (h : b ≠ a) : upd H a o b = H b := by unfold upd; rw [if_neg h]
theorem ne_of {H : Hp} {a b : Addr} {o u : HO} (h : H a = some o) (h' : H b = some u) (d : o ≠ u) : a ≠ b := by
  intro e; subst e; rw [h] at h'; exact d (Option.some.inj h')
theorem ne_of_none {H : Hp} {a b : Addr} {o : HO} (h : H a = some o) (h' : H b = none) : a ≠ b := by
  intro e; subst e; rw [h] at h'; cases h'
def IsTupN (h : Heap) (a : Addr) (items : Array Value) : Prop := ∃ o, h.get? a = some o ∧ o.cls = .type "tuple" ∧ o.dict = none ∧ ∃ n, o.data = .seq items n
theorem IsTupN.t {h : Heap} {a : Addr} {items : Array Value} (x : IsTupN h a items) : IsTup h a items := let ⟨o, ho, hc, _, r⟩ := x; ⟨o, ho, hc, r⟩
theorem IsTupN.keeps {h h' : Heap} {a : Addr} {items : Array Value} (x : IsTupN h a items) (hk : ∀ b o, h.get? b = some o → h'.get? b = some o) : IsTupN h' a items := let ⟨o, ho, r⟩ := x; ⟨o, hk a o ho, r⟩
theorem IsTupN.new (h : Heap) (items : Array Value) : IsTupN (h.push { cls := .type "tuple", data := .seq items }) h.objs.size items := ⟨_, Heap.get?_push_size _ rfl, rfl, rfl, 0, rfl⟩
section
variable (P : Program) (w : World)
def ObjOk (H : Hp) (h : Heap) (a : Addr) : HO → Prop
  | .lst xs => xs.length ≤ sizeLine ∧ ∃ (its : List Value) (n : Nat), Vals xs its ∧ h.get? a = some { cls := .type "list", data := .seq its.toArray n }
  | .tup xs => xs.length ≤ sizeLine ∧ ∃ its : List Value, Vals xs its ∧ IsTupN h a its.toArray
  | .dK kvs => kvs.length ≤ sizeLine ∧ (a == sysModules) = false ∧ ∃ vs, KV kvs vs ∧ h.DictOf (mixKind P w) a vs
  | .dT kvs => kvs.length ≤ sizeLine ∧ (a == sysModules) = false ∧ ∃ xs : List (List Key × Addr × Value),
      Paired (fun (p : List Key × V) (q : List Key × Addr × Value) => p.1 = q.1 ∧ H q.2.1 = some (.tup (p.1.map kV)) ∧ RelV p.2 q.2.2) kvs xs ∧
      ∃ o es ep, h.get? a = some o ∧ o.ExactDict ∧ o.data = .dict es ep ∧ es.toList = xs.map (entryOfKey (tupleKind (mixKind P w))) ∧ (xs.map (·.1)).Nodup
  | .set S n => h.SetOf (intKind P w) a S n
  | .ins C dx fs => H dx = some (.own a) ∧ fs.length ≤ 1000 ∧ dx ≠ a ∧ h.get? a = some (PySem.W.instObj C dx) ∧
      ∃ mA, h.Ns1 dx mA ∧ (∀ f, RelO (fs.lookup f) (mA f)) ∧ PySem.Within mA (fs.map (·.1))
  | .own _ => ∃ o, h.get? a = some o
  | .xd fs => ∃ mA, h.Ns1 a mA ∧ ∀ f, RelO (fs.lookup f) (mA f)
  | .rng lo hi => ∃ t u v, h.get? a = some { cls := .type "range", data := .fields #[.int lo t, .int hi u, .int 1 v] }
  | .frz o u => h.get? a = some o ∧ ObjOk H h a u
  | .tbl ps => h.get? a = some { cls := .none, data := .fields ps }
  | .met f x => h.get? a = some (PySem.W.methodObj (.ref f) (.ref x))
  | .ext φ => φ h ∧ (∃ o, h.get? a = some o) ∧ ∀ h1 h2 : Heap, φ h1 → (∀ o, h1.get? a = some o → h2.get? a = some o) → φ h2
def HOk (H : Hp) (h : Heap) : Prop := ∀ a o, H a = some o → ObjOk P w H h a o
end
section
variable {P : Program} {w : World} {H H' : Hp} {h h' : Heap} {a : Addr} {o : HO}
theorem ObjOk.lt (x : ObjOk P w H h a o) : a < h.objs.size := by
  cases o with
  | lst xs => obtain ⟨_, _, _, _, e⟩ := x; exact Heap.lt_size e
  | tup xs => obtain ⟨_, _, _, p⟩ := x; exact p.t.lt
  | dK kvs => obtain ⟨_, _, _, _, o, _, _, e, _⟩ := x; exact Heap.lt_size e
  | dT kvs => obtain ⟨_, _, _, _, o, _, _, e, _⟩ := x; exact Heap.lt_size e
  | set S n => obtain ⟨o, _, _, _, e, _⟩ := x; exact Heap.lt_size e
  | ins C dx fs => obtain ⟨_, _, _, e, _⟩ := x; exact Heap.lt_size e
  | own y => obtain ⟨_, e⟩ := x; exact Heap.lt_size e
  | xd fs => obtain ⟨_, ⟨_, _, _, e, _⟩, _⟩ := x; exact Heap.lt_size e
  | rng lo hi => obtain ⟨_, _, _, e⟩ := x; exact Heap.lt_size e
  | frz ob u => obtain ⟨e, _⟩ := x; exact Heap.lt_size e
  | tbl ps => exact Heap.lt_size (show h.get? a = some _ from x)
  | met f y => exact Heap.lt_size (show h.get? a = some _ from x)
  | ext φ => obtain ⟨_, ⟨_, e⟩, _⟩ := x; exact Heap.lt_size e
theorem Paired.mapP {α β : Type} {F G : α → β → Prop} : ∀ {l₁ : List α} {l₂ : List β}, Paired F l₁ l₂ → (∀ a b, F a b → G a b) → Paired G l₁ l₂
  | _, _, .nil, _ => .nil
  | _, _, .cons r t, f => .cons (f _ _ r) (Paired.mapP t f)
theorem ObjOk.stay (x : ObjOk P w H h a o) (k : ∀ b u, (b = a ∨ H b = some (.own a)) → h.get? b = some u → h'.get? b = some u)
    (ho : ∀ b, H b = some (.own a) → H' b = some (.own a)) (ht : ∀ b xs, H b = some (.tup xs) → H' b = some (.tup xs)) : ObjOk P w H' h' a o := by
  induction o with
  | lst xs => obtain ⟨z, its, n, r, e⟩ := x; exact ⟨z, its, n, r, k _ _ (.inl rfl) e⟩
  | tup xs => obtain ⟨z, its, r, ob, e, c⟩ := x; exact ⟨z, its, r, ob, k _ _ (.inl rfl) e, c⟩
  | dK kvs => obtain ⟨z, y, vs, r, ob, es, ep, e, c⟩ := x; exact ⟨z, y, vs, r, ob, es, ep, k _ _ (.inl rfl) e, c⟩
  | dT kvs =>
    obtain ⟨z, y, xs, r, ob, es, ep, e, c⟩ := x
    exact ⟨z, y, xs, Paired.mapP r fun p q z => ⟨z.1, ht _ _ z.2.1, z.2.2⟩, ob, es, ep, k _ _ (.inl rfl) e, c⟩
  | set S n => obtain ⟨ob, es, ep, t, e, c⟩ := x; exact ⟨ob, es, ep, t, k _ _ (.inl rfl) e, c⟩
  | ins C dx fs =>
    obtain ⟨d, z, ne, e, mA, ⟨od, es, ep, e2, c⟩, r⟩ := x
    exact ⟨ho _ d, z, ne, k _ _ (.inl rfl) e, mA, ⟨od, es, ep, k _ _ (.inr d) e2, c⟩, r⟩
  | own y => obtain ⟨ob, e⟩ := x; exact ⟨ob, k _ _ (.inl rfl) e⟩
  | xd fs => obtain ⟨mA, ⟨od, es, ep, e, c⟩, r⟩ := x; exact ⟨mA, ⟨od, es, ep, k _ _ (.inl rfl) e, c⟩, r⟩
  | rng lo hi => obtain ⟨t, u, v, e⟩ := x; exact ⟨t, u, v, k _ _ (.inl rfl) e⟩
  | frz ob u ih => obtain ⟨e, q⟩ := x; exact ⟨k _ _ (.inl rfl) e, ih q⟩
  | tbl ps =>
    have e : h.get? a = some { cls := .none, data := .fields ps } := x
    show h'.get? a = some { cls := .none, data := .fields ps }
    exact k a _ (.inl rfl) e
  | met f y =>
    have e : h.get? a = some (PySem.W.methodObj (.ref f) (.ref y)) := x
    show h'.get? a = some (PySem.W.methodObj (.ref f) (.ref y))
    exact k a _ (.inl rfl) e
  | ext φ => obtain ⟨p, ⟨o, e⟩, st⟩ := x; exact ⟨st _ _ p fun o q => k _ _ (.inl rfl) q, ⟨o, k _ _ (.inl rfl) e⟩, st⟩
theorem HOk.lt (x : HOk P w H h) (e : H a = some o) : a < h.objs.size := (x a o e).lt
theorem HOk.fresh (x : HOk P w H h) (e : h.objs.size ≤ a) : H a = none := by
  cases q : H a with
  | none => rfl
  | some u => exact absurd (Nat.lt_of_lt_of_le (x.lt q) e) (Nat.lt_irrefl _)
theorem HOk.kept (x : HOk P w H h) (k : ∀ b u, h.get? b = some u → h'.get? b = some u) : HOk P w H h' := fun a o e =>
  (x a o e).stay (fun b u _ q => k b u q) (fun _ q => q) fun _ _ q => q
theorem HOk.laid (x : HOk P w H h) (k : ∀ b u, h.get? b = some u → h'.get? b = some u) (hp : h.objs.size ≤ a) (new : ObjOk P w (upd H a o) h' a o) : HOk P w (upd H a o) h' := fun b u e => by
  have hn := x.fresh hp
  by_cases hb : b = a
  · subst hb; rw [upd_same] at e; cases e; exact new
  · rw [upd_ne hb] at e
    exact (x b u e).stay (fun c v _ q => k c v q) (fun c q => by rw [upd_ne (ne_of_none q hn)]; exact q) fun c xs q => by rw [upd_ne (ne_of_none q hn)]; exact q
end
def Rd (H : Hp) (a : Addr) (u : HO) : Prop := H a = some u ∨ ∃ o, H a = some (.frz o u)
theorem Rd.of {H : Hp} {a : Addr} {u : HO} (h : H a = some u) : Rd H a u := .inl h
theorem Rd.ok {P : Program} {w : World} {H : Hp} {h : Heap} {a : Addr} {u : HO} (r : Rd H a u) (x : HOk P w H h) : ObjOk P w H h a u := by
  rcases r with r | ⟨o, r⟩
  · exact x a u r
  · obtain ⟨_, q⟩ := x a _ r
    exact q
def Mut : Option HO → Prop
  | some (.lst _) => True
  | some (.dK _) => True
  | some (.dT _) => True
  | some (.set _ _) => True
  | some (.ins _ _ _) => True
  | some (.ext _) => True
  | _ => False
section
variable {P : Program} {w : World} {H : Hp} {h h' : Heap} {x e : Addr} {o' : HO}
theorem HOk.write (ok : HOk P w H h) (mu : Mut (H x)) (he : e = x ∨ H e = some (.own x)) (k : ∀ b u, b ≠ e → h.get? b = some u → h'.get? b = some u) (heo : ∃ u, h'.get? e = some u)
    (new : ObjOk P w (upd H x o') h' x o') : HOk P w (upd H x o') h' := fun b u q => by
  have nown : ∀ c y, H c = some (.own y) → c ≠ x := fun c y r z => by subst z; rw [r] at mu; exact mu
  have ntup : ∀ c xs, H c = some (.tup xs) → c ≠ x := fun c xs r z => by subst z; rw [r] at mu; exact mu
  by_cases hb : b = x
  · subst hb; rw [upd_same] at q; cases q; exact new
  · rw [upd_ne hb] at q
    by_cases hbe : b = e
    · have q' : H b = some (.own x) := by
        rcases he with z | z
        · exact absurd (hbe.trans z) hb
        · rw [hbe]; exact z
      rw [q] at q'; cases q'
      obtain ⟨v, hv⟩ := heo
      exact ⟨v, by rw [hbe]; exact hv⟩
    · refine (ok b u q).stay (fun c v hc r => k c v ?_ r) (fun c r => by rw [upd_ne (nown c b r)]; exact r) fun c xs r => by rw [upd_ne (ntup c xs r)]; exact r
      rcases hc with rfl | hc
      · exact hbe
      · rintro rfl
        rcases he with z | z
        · exact nown c b hc z
        · rw [hc] at z; cases z; exact hb rfl
end
structure Un (fs ex : List Addr) (H H' : Hp) (h h' : Heap) : Prop where
  keep : ∀ b o, h.get? b = some o → H b = none → b ∉ fs → b ∉ ex → h'.get? b = some o
  slot : ∀ b o, h.get? b = some o → H b = none → b ∈ fs → b ∉ ex → ∃ sl, h'.get? b = some { o with slots := sl }
  free : ∀ b o, h.get? b = some o → H b = none → b ∉ ex → H' b = none
  there : ∀ b o, h.get? b = some o → b ∉ ex → ∃ o', h'.get? b = some o'
  tups : ∀ b xs, H b = some (.tup xs) → H' b = some (.tup xs)
  frzs : ∀ b o u, H b = some (.frz o u) → H' b = some (.frz o u)
  tbls : ∀ b ps, H b = some (.tbl ps) → ∃ more, H' b = some (.tbl (ps ++ more))
section
variable {fs fs' ex ex' : List Addr} {H H1 H2 : Hp} {h h1 h2 h' : Heap} {a x e : Addr} {o : HO}
theorem Un.any (u : Un fs ex H H1 h h1) {b : Addr} {ob : Obj} (q : h.get? b = some ob) (n : H b = none) (hx : b ∉ ex) : ∃ sl, h1.get? b = some { ob with slots := sl } := by
  by_cases hb : b ∈ fs
  · exact u.slot b ob q n hb hx
  · exact ⟨ob.slots, u.keep b ob q n hb hx⟩
theorem Un.trans (a : Un fs ex H H1 h h1) (b : Un fs ex H1 H2 h1 h2) : Un fs ex H H2 h h2 where
  keep := fun c ob q n hc hx => b.keep c ob (a.keep c ob q n hc hx) (a.free c ob q n hx) hc hx
  slot := fun c ob q n hc hx => by
    obtain ⟨sl, e1⟩ := a.slot c ob q n hc hx
    obtain ⟨sl', e2⟩ := b.slot c _ e1 (a.free c ob q n hx) hc hx
    exact ⟨sl', e2⟩
  free := fun c ob q n hx => by
    obtain ⟨o', e1⟩ := a.there c ob q hx
    exact b.free c o' e1 (a.free c ob q n hx) hx
  there := fun c ob q hx => by
    obtain ⟨o', e1⟩ := a.there c ob q hx
    exact b.there c o' e1 hx
  tups := fun c xs q => b.tups c xs (a.tups c xs q)
  frzs := fun c ob xs q => b.frzs c ob xs (a.frzs c ob xs q)
  tbls := fun c ps q => by
    obtain ⟨m1, e1⟩ := a.tbls c ps q
    obtain ⟨m2, e2⟩ := b.tbls c _ e1
    exact ⟨m1 ++ m2, by rw [e2, Array.append_assoc]⟩
theorem Un.kept (k : ∀ b u, h.get? b = some u → h'.get? b = some u) : Un fs ex H H h h' :=
  ⟨fun b ob q _ _ _ => k b ob q, fun b ob q _ _ _ => ⟨ob.slots, k b ob q⟩, fun _ _ _ n _ => n, fun b ob q _ => ⟨ob, k b ob q⟩, fun _ _ q => q, fun _ _ _ q => q, fun _ ps q => ⟨#[], by rw [q]; simp⟩⟩
theorem Un.refl : Un fs ex H H h h := Un.kept fun _ _ q => q
theorem Un.laid (k : ∀ b u, h.get? b = some u → h'.get? b = some u) (hp : h.objs.size ≤ a) (hn : H a = none) : Un fs ex H (upd H a o) h h' where
  keep := fun b u q _ _ _ => k b u q
  slot := fun b u q _ _ _ => ⟨u.slots, k b u q⟩
  free := fun b u q n _ => by rw [upd_ne (Nat.ne_of_lt (Nat.lt_of_lt_of_le (Heap.lt_size q) hp))]; exact n
  there := fun b u q _ => ⟨u, k b u q⟩
  tups := fun b xs q => by rw [upd_ne (ne_of_none q hn)]; exact q
  frzs := fun b u xs q => by rw [upd_ne (ne_of_none q hn)]; exact q
  tbls := fun b ps q => ⟨#[], by rw [upd_ne (ne_of_none q hn), q]; simp⟩
theorem Un.write (mu : Mut (H x)) (he : e = x ∨ H e = some (.own x)) (k : ∀ b u, b ≠ e → h.get? b = some u → h'.get? b = some u) (heo : ∃ u, h'.get? e = some u) : Un fs ex H (upd H x o) h h' := by
  have hx : ∀ b, H b = none → b ≠ x := fun b n z => by subst z; rw [n] at mu; exact mu
  have hb : ∀ b, H b = none → b ≠ e := fun b n z => by
    subst z
    rcases he with r | r
    · exact hx b n r
    · rw [n] at r; cases r
  have hm : ∀ b u, H b = some u → ¬ Mut (some u) → b ≠ x := fun b u q nm z => by subst z; rw [q] at mu; exact nm mu
  refine ⟨fun b u q n _ _ => k b u (hb b n) q, fun b u q n _ _ => ⟨u.slots, k b u (hb b n) q⟩, fun b u q n _ => by rw [upd_ne (hx b n)]; exact n, fun b u q _ => ?_,
    fun b xs q => by rw [upd_ne (hm b _ q fun z => z)]; exact q, fun b u xs q => by rw [upd_ne (hm b _ q fun z => z)]; exact q, fun b ps q => ⟨#[], by rw [upd_ne (hm b _ q fun z => z), q]; simp⟩⟩
  by_cases hbe : b = e
  · subst hbe; exact heo
  · exact ⟨u, k b u hbe q⟩
theorem Un.mono (u : Un fs ex H H1 h h1) (hs : ∀ b ∈ fs, b ∈ fs') (hx : ∀ b ∈ ex, b ∈ ex') : Un fs' ex' H H1 h h1 :=
  ⟨fun b ob q n hb he => u.keep b ob q n (fun z => hb (hs b z)) fun z => he (hx b z), fun _ _ q n _ he => u.any q n fun z => he (hx _ z), fun b ob q n he => u.free b ob q n fun z => he (hx b z), fun b ob q he => u.there b ob q fun z => he (hx b z), u.tups, u.frzs, u.tbls⟩
end
def trk (h : Heap) (H : Hp) : List Addr := (List.range h.objs.size).filter fun a => (H a).isSome
def hidT (h : Heap) (H : Hp) : Heap := PySem.W.hideAll h (trk h H)
theorem hidT_size (h : Heap) (H : Hp) : (hidT h H).objs.size = h.objs.size := PySem.W.hideAll_size _ _
theorem hidT_get {h : Heap} {H : Hp} {b : Addr} {o : Obj} (e : h.get? b = some o) (n : H b = none) : (hidT h H).get? b = some o :=
  PySem.W.hideAll_get _ e fun hm => by
    have q : (H b).isSome = true := (List.mem_filter.mp hm).2
    rw [n] at q; simp at q
theorem of_hidT {h : Heap} {H : Hp} {b : Addr} {o : Obj} (e : (hidT h H).get? b = some o) : h.get? b = some o ∧ H b = none := by
  have e' : h.get? b = some o := PySem.W.of_hideAll (trk h H) e
  refine ⟨e', ?_⟩
  cases q : H b with
  | none => rfl
  | some x =>
    have hm : b ∈ trk h H := List.mem_filter.mpr ⟨List.mem_range.mpr (Heap.lt_size e'), by simp [q]⟩
    have z : (hidT h H).get? b = none := PySem.W.hideAll_none (trk h H) hm
    rw [z] at e; cases e
def allNews (g h : Heap) (L : Addr) : List (Addr × Obj) := (List.range h.objs.size).filterMap fun a => if a = L ∨ (g.get? a).isSome = true then none else (h.get? a).map fun o => (a, o)
def rest (g h : Heap) (L d : Addr) : List (Addr × Obj) := (allNews g h L).filter fun p => decide (p.1 ≠ d)
end L2
namespace L2
open PySem PySem.Spec PyProof.Rows
structure Mod (K : PySem.W.Frag) (mg : Str → Option Value) (base : Heap) : Prop where
  kin : K.In base
  glob : base.Ns mainGlobals mg
  blt : ∃ mb, base.Ns builtinsNs mb ∧ ∀ x : Str, x ≠ "__name__" → mb x = bootBuiltins x
  nolimit : base.NoLimit
structure Cx where
  prog : Program
  w : World
  K : PySem.W.Frag
  mg : Str → Option Value
  base : Heap
  A : Around
  N : List Str
  s₀ : Shared
  H₀ : Hp
  env : Env
  outer : List Env
  stack : List Env
  ex : List Addr
  fn : Str → Bool
  calm : Bool
  pn : List (Addr × Obj)
  xe : Value → Shared → Prop
def frs (l : List Env) : List Addr := l.filterMap (·.frame)
abbrev Cx.fs (X : Cx) : List Addr := frs X.outer
def Vis (sc : Scope) (x : Str) : Prop := sc.names.lookup x = some .local ∨ sc.names.lookup x = some .cell ∨ sc.names.lookup x = some .free
def Loc (sc : Scope) (x : Str) : Prop := sc.names.lookup x = some .local ∨ sc.names.lookup x = some .cell
def Look (env : Env) (h : Heap) (m : Str → Option Value) (x : Str) (u : Value) : Prop :=
  (env.kindOf x = some .local ∧ m x = some u) ∨ ((env.kindOf x = some .cell ∨ env.kindOf x = some .free) ∧ ∃ c, env.cells.lookup x = some c ∧ h.IsCell c (some u))
structure Cx.Ok (X : Cx) : Prop where
  mod : Mod X.K X.mg X.base
  kind : X.env.scope.kind = .function
  glob : X.env.globals = mainGlobals
  blt : X.env.builtins = builtinsNs
  above : X.s₀.heap.objs.size ≤ X.env.locals
  inj : ∀ x y c, X.env.cells.lookup x = some c → X.env.cells.lookup y = some c → x = y
  has : ∀ x, (X.env.kindOf x = some .cell ∨ X.env.kindOf x = some .free) → ∃ c, X.env.cells.lookup x = some c
  cab : ∀ x c, X.fn x = true → X.env.cells.lookup x = some c → X.s₀.heap.objs.size ≤ c
  hd : X.calm = true → X.A.handled = none
  frames : X.A.frames = some X.stack
  stk : X.stack = X.outer ∨ (X.stack = X.env :: X.outer ∧ X.env.frame = some X.env.locals)
  exf : ∀ b ∈ X.ex, b ≠ X.env.locals ∧ ∀ x c, X.env.cells.lookup x = some c → c ≠ b
  bs : ∀ b o, X.base.get? b = some o → X.s₀.heap.get? b = some o ∧ X.H₀ b = none
  bsz : X.base.objs.size ≤ X.s₀.heap.objs.size
  noex : ∀ b o, X.base.get? b = some o → b ∉ X.ex
  exfs : ∀ b ∈ X.ex, b ∉ X.fs
  funs : X.s₀.heap.FunFrames X.base X.outer
  frf : ∀ b ∈ X.fs, X.H₀ b = none
structure Inv (X : Cx) (pins : List (Addr × Obj)) (σ : List (Option V)) (H : Hp) (s : Shared) : Prop where
  ok : X.Ok
  os : s.os = X.s₀.os
  bare : AllBare s.gens
  base : Un X.fs X.ex X.H₀ H X.s₀.heap s.heap
  loc : ∃ m, s.heap.Ns X.env.locals m ∧ ∀ (i : Nat) (x : Str) (v : V), X.N[i]? = some x → σ[i]? = some (some v) → Vis X.env.scope x → ∃ u, RelV v u ∧ Look X.env s.heap m x u
  cell : ∀ x c, X.env.cells.lookup x = some c → ∃ v, s.heap.IsCell c v
  free : H X.env.locals = none
  freeC : ∀ x c, X.env.cells.lookup x = some c → H c = none
  pin : ∀ p ∈ X.pn ++ pins, s.heap.get? p.1 = some p.2 ∧ H p.1 = none ∧ p.1 ≠ X.env.locals ∧ p.1 ∉ X.fs ∧ ∀ v, p.2.data ≠ .cell v
  hok : HOk X.prog X.w H s.heap
  len : σ.length = X.N.length
section
variable {X : Cx} {pins : List (Addr × Obj)} {σ : List (Option V)} {H H' : Hp} {s : Shared} {h' : Heap}
theorem Cx.Ok.nofr (ok : X.Ok) {b : Addr} {o : Obj} (e : X.base.get? b = some o) : b ∉ X.fs := fun hb => by
  have := (ok.funs.mem hb).1
  rw [e] at this; cases this
theorem Inv.bs (I : Inv X pins σ H s) : ∀ b o, X.base.get? b = some o → s.heap.get? b = some o ∧ H b = none := fun b o e =>
  ⟨I.base.keep b o (I.ok.bs b o e).1 (I.ok.bs b o e).2 (I.ok.nofr e) (I.ok.noex b o e), I.base.free b o (I.ok.bs b o e).1 (I.ok.bs b o e).2 (I.ok.noex b o e)⟩
theorem Inv.bk (I : Inv X pins σ H s) : ∀ b o, X.base.get? b = some o → s.heap.get? b = some o := fun b o e => (I.bs b o e).1
theorem Inv.mod (I : Inv X pins σ H s) : Mod X.K X.mg X.base := I.ok.mod
theorem Inv.kIn (I : Inv X pins σ H s) : X.K.In s.heap := I.ok.mod.kin.keeps I.bk
theorem Inv.nolimit (I : Inv X pins σ H s) : s.heap.NoLimit := I.ok.mod.nolimit.keeps I.bk
theorem Inv.fr (I : Inv X pins σ H s) : ∃ m, Fr X.base X.env.locals s.heap m :=
  let ⟨m, hn, _⟩ := I.loc
  ⟨m, hn, I.bk, Nat.le_trans I.ok.bsz I.ok.above⟩
theorem Inv.lt (I : Inv X pins σ H s) : X.env.locals < s.heap.objs.size := let ⟨_, hn, _⟩ := I.loc; hn.lt
theorem Inv.sz (I : Inv X pins σ H s) : X.s₀.heap.objs.size ≤ s.heap.objs.size := Nat.le_trans I.ok.above (Nat.le_of_lt I.lt)
theorem Inv.nofs (I : Inv X pins σ H s) {a : Addr} (h : s.heap.objs.size ≤ a) : a ∉ X.fs := fun hb => by
  obtain ⟨_, o, ho, _⟩ := I.ok.funs.mem hb
  exact absurd (Nat.lt_of_lt_of_le (Heap.lt_size ho) (Nat.le_trans I.sz h)) (Nat.lt_irrefl _)
theorem Inv.cne (I : Inv X pins σ H s) : ∀ x c, X.env.cells.lookup x = some c → c ≠ X.env.locals := fun x c e z => by
  obtain ⟨v, o, ho, hd⟩ := I.cell x c e
  obtain ⟨m, ⟨o', es, ep, ho', hd', _⟩, _⟩ := I.loc
  rw [z, ho'] at ho; cases ho; rw [hd'] at hd; cases hd
theorem Inv.funs (I : Inv X pins σ H s) : s.heap.FunFrames X.base X.outer := by
  have all : ∀ (l : List Env), (∀ b ∈ frs l, b ∈ X.fs) → X.s₀.heap.FunFrames X.base l → s.heap.FunFrames X.base l := by
    intro l
    induction l with
    | nil => intro _ _; trivial
    | cons env r ih =>
      intro hs hl
      obtain ⟨hk, ⟨L, o, hf, hn, ho, hd⟩, hr⟩ := hl
      have hL : L ∈ X.fs := hs L (by unfold frs; rw [List.filterMap_cons, hf]; exact List.mem_cons_self)
      obtain ⟨sl, e⟩ := I.base.slot L o ho (I.ok.frf L hL) hL fun z => I.ok.exfs L z hL
      exact ⟨hk, ⟨L, _, hf, hn, e, hd⟩, ih (fun b hb => hs b (by unfold frs; rw [List.filterMap_cons, hf]; exact List.mem_cons_of_mem _ hb)) hr⟩
  exact all X.outer (fun _ hb => hb) I.ok.funs
theorem Inv.stack (I : Inv X pins σ H s) : s.heap.FunFrames X.base X.stack := by
  rcases I.ok.stk with e | ⟨e, hf⟩
  · rw [e]; exact I.funs
  · rw [e]
    obtain ⟨m, hn, _⟩ := I.loc
    refine .cons (by rw [I.ok.kind]; decide) hf hn ?_ I.funs
    exact Heap.get?_none_of_le (Nat.le_trans I.ok.bsz I.ok.above)
theorem Inv.stkSub (I : Inv X pins σ H s) : ∀ b ∈ frs X.stack, b ∈ X.env.locals :: X.fs := fun b hb => by
  rcases I.ok.stk with e | ⟨e, hf⟩
  · rw [e] at hb; exact List.mem_cons_of_mem _ hb
  · rw [e] at hb
    unfold frs at hb
    rw [List.filterMap_cons, hf] at hb
    exact hb
theorem Inv.stkFree (I : Inv X pins σ H s) : ∀ b ∈ frs X.stack, H b = none := fun b hb => by
  rcases List.mem_cons.mp (I.stkSub b hb) with e | hb
  · rw [e]; exact I.free
  · obtain ⟨_, o, ho, _⟩ := I.ok.funs.mem hb
    exact I.base.free b o ho (I.ok.frf b hb) fun z => I.ok.exfs b z hb
theorem Inv.step {g' : Array GenState} {t' : Nat} {d' : Drawn} {ch : List Addr} (I : Inv X pins σ H s)
    (hch : ∀ b ∈ ch, (b ∈ X.ex ∨ X.s₀.heap.objs.size ≤ b) ∧ b ≠ X.env.locals ∧ (∀ x c, X.env.cells.lookup x = some c → c ≠ b) ∧ ∀ p ∈ X.pn ++ pins, p.1 ≠ b)
    (keep : ∀ b o, b ≠ X.env.locals → b ∉ X.fs → b ∉ ch → s.heap.get? b = some o → H b = none → h'.get? b = some o)
    (slot : ∀ b o, b ≠ X.env.locals → b ∈ X.fs → b ∉ ch → s.heap.get? b = some o → H b = none → ∃ sl, h'.get? b = some { o with slots := sl }) (free : ∀ b o, b ∉ ch → s.heap.get? b = some o → H b = none → H' b = none)
    (there : ∀ b o, b ∉ ch → s.heap.get? b = some o → ∃ o', h'.get? b = some o')
    (tups : ∀ b xs, H b = some (.tup xs) → H' b = some (.tup xs)) (frzs : ∀ b o u, H b = some (.frz o u) → H' b = some (.frz o u)) (tbls : ∀ b ps, H b = some (.tbl ps) → ∃ more, H' b = some (.tbl (ps ++ more)))
    (ns : ∀ m, s.heap.Ns X.env.locals m → h'.Ns X.env.locals m) (hok : HOk X.prog X.w H' h') (hg : AllBare g') :
    Inv X pins σ H' { s with heap := h', gens := g', drawn := d', toks := t' } := by
  have neL : ∀ b o, X.s₀.heap.get? b = some o → b ≠ X.env.locals := fun b o e => Nat.ne_of_lt (Nat.lt_of_lt_of_le (Heap.lt_size e) I.ok.above)
  have neC : ∀ b o, X.s₀.heap.get? b = some o → b ∉ X.ex → b ∉ ch := fun b o e hx hb => by
    rcases (hch b hb).1 with z | z
    · exact hx z
    · exact absurd (Nat.lt_of_lt_of_le (Heap.lt_size e) z) (Nat.lt_irrefl _)
  have cellK : ∀ x c, X.env.cells.lookup x = some c → ∀ v, s.heap.IsCell c v → h'.IsCell c v := fun x c e v ⟨o, ho, hd⟩ => by
    have nch : c ∉ ch := fun z => (hch c z).2.2.1 x c e rfl
    by_cases hc : c ∈ X.fs
    · obtain ⟨sl, q⟩ := slot c o (I.cne x c e) hc nch ho (I.freeC x c e)
      exact ⟨_, q, hd⟩
    · exact ⟨o, keep c o (I.cne x c e) hc nch ho (I.freeC x c e), hd⟩
  refine ⟨I.ok, I.os, hg, ⟨fun b o e n hb hx => ?_, fun b o e n hb hx => ?_, fun b o e n hx => ?_, fun b o e hx => ?_, fun b xs e => tups b xs (I.base.tups b xs e), fun b o xs e => frzs b o xs (I.base.frzs b o xs e), fun b ps e => ?_⟩, ?_, fun x c e => ?_, ?_, fun x c e => ?_, fun p hp => ?_, hok, I.len⟩
  · exact keep b o (neL b o e) hb (neC b o e hx) (I.base.keep b o e n hb hx) (I.base.free b o e n hx)
  · obtain ⟨sl, e1⟩ := I.base.slot b o e n hb hx
    obtain ⟨sl', e2⟩ := slot b _ (neL b o e) hb (neC b o e hx) e1 (I.base.free b o e n hx)
    exact ⟨sl', e2⟩
  · obtain ⟨o', e1⟩ := I.base.there b o e hx
    exact free b o' (neC b o e hx) e1 (I.base.free b o e n hx)
  · obtain ⟨o', e1⟩ := I.base.there b o e hx
    exact there b o' (neC b o e hx) e1
  · obtain ⟨m1, e1⟩ := I.base.tbls b ps e
    obtain ⟨m2, e2⟩ := tbls b _ e1
    exact ⟨m1 ++ m2, by rw [e2, Array.append_assoc]⟩
  · obtain ⟨m, hn, hl⟩ := I.loc
    refine ⟨m, ns m hn, fun i x v e1 e2 e3 => ?_⟩
    obtain ⟨u, r, l⟩ := hl i x v e1 e2 e3
    refine ⟨u, r, ?_⟩
    rcases l with l | ⟨k, c, e, z⟩
    · exact .inl l
    · exact .inr ⟨k, c, e, cellK x c e _ z⟩
  · obtain ⟨v, z⟩ := I.cell x c e
    exact ⟨v, cellK x c e v z⟩
  · obtain ⟨m, ⟨o, _, _, ho, _⟩, _⟩ := I.loc
    exact free _ o (fun z => (hch _ z).2.1 rfl) ho I.free
  · obtain ⟨v, o, ho, hd⟩ := I.cell x c e
    exact free c o (fun z => (hch c z).2.2.1 x c e rfl) ho (I.freeC x c e)
  · obtain ⟨e, n, ne, nf, d⟩ := I.pin p hp
    have nch : p.1 ∉ ch := fun z => (hch p.1 z).2.2.2 p hp rfl
    exact ⟨keep p.1 p.2 ne nf nch e n, free p.1 p.2 nch e n, ne, nf, d⟩
theorem Inv.un {t' : Nat} (I : Inv X pins σ H s) (u : Un X.fs [] H H' s.heap h') (hok : HOk X.prog X.w H' h') : Inv X pins σ H' { s with heap := h', toks := t' } := by
  obtain ⟨m, ⟨o, es, ep, ho, r⟩, _⟩ := id I.loc
  obtain ⟨sl, hL⟩ := u.any ho I.free (by simp)
  exact I.step (g' := s.gens) (d' := s.drawn) (ch := []) (fun _ z => nomatch z) (fun b o _ hb _ e n => u.keep b o e n hb (by simp)) (fun b o _ hb _ e n => u.slot b o e n hb (by simp)) (fun b o _ e n => u.free b o e n (by simp)) (fun b o _ e => u.there b o e (by simp)) u.tups u.frzs u.tbls (fun m' hm => by
    obtain ⟨o', es', ep', ho', r'⟩ := hm
    rw [ho] at ho'; cases ho'
    exact ⟨_, es', ep', hL, r'⟩) hok I.bare
theorem Inv.call {g' : Array GenState} {t' : Nat} {d' : Drawn} {ch : List Addr} (I : Inv X pins σ H s) (u : Un (frs X.stack) ch H H' s.heap h') (hok : HOk X.prog X.w H' h') (hg : AllBare g')
    (hch : ∀ b ∈ ch, (b ∈ X.ex ∨ X.s₀.heap.objs.size ≤ b) ∧ b ≠ X.env.locals ∧ (∀ x c, X.env.cells.lookup x = some c → c ≠ b) ∧ ∀ p ∈ X.pn ++ pins, p.1 ≠ b) :
    Inv X pins σ H' { s with heap := h', gens := g', drawn := d', toks := t' } := by
  obtain ⟨m, ⟨o, es, ep, ho, r⟩, _⟩ := id I.loc
  obtain ⟨sl, hL⟩ := u.any ho I.free fun z => (hch _ z).2.1 rfl
  exact I.step (ch := ch) hch (fun b o hL hb hc e n => u.keep b o e n (fun z => (List.mem_cons.mp (I.stkSub b z)).elim hL hb) hc) (fun b o _ _ hc e n => u.any e n hc) (fun b o hc e n => u.free b o e n hc) (fun b o hc e => u.there b o e hc) u.tups u.frzs u.tbls (fun m' hm => by
    obtain ⟨o', es', ep', ho', r'⟩ := hm
    rw [ho] at ho'; cases ho'
    exact ⟨_, es', ep', hL, r'⟩) hok hg
theorem Inv.turned {t' : Nat} {it : Addr} (I : Inv X pins σ H s) (k : ∀ b o, b ≠ it → s.heap.get? b = some o → h'.get? b = some o) (hn : H it = none) (hL : it ≠ X.env.locals)
    (h1 : it ∈ X.ex ∨ X.s₀.heap.objs.size ≤ it) (h2 : ∀ x c, X.env.cells.lookup x = some c → c ≠ it) (h3 : ∀ p ∈ X.pn ++ pins, p.1 ≠ it) : Inv X pins σ H { s with heap := h', toks := t' } := by
  have nit : ∀ b u, H b = some u → b ≠ it := fun b u e z => by rw [z, hn] at e; cases e
  refine I.step (g' := s.gens) (d' := s.drawn) (ch := [it]) (fun b hb => ?_) (fun b o _ _ hc e _ => k b o (fun z => hc (by simp [z])) e) (fun b o _ _ hc e _ => ⟨o.slots, k b o (fun z => hc (by simp [z])) e⟩) (fun _ _ _ _ n => n)
    (fun b o hc e => ⟨o, k b o (fun z => hc (by simp [z])) e⟩) (fun _ _ e => e) (fun _ _ _ e => e) (fun b ps e => ⟨#[], by rw [e]; simp⟩) (fun m hm => ?_) (fun b u e => ?_) I.bare
  · have e : b = it := by simpa using hb
    subst e
    exact ⟨h1, hL, h2, h3⟩
  · obtain ⟨o, es, ep, ho, r⟩ := hm
    exact ⟨o, es, ep, k _ o (Ne.symm hL) ho, r⟩
  · refine (I.hok b u e).stay (fun c v hc q => k c v ?_ q) (fun _ q => q) fun _ _ q => q
    rcases hc with z | z
    · rw [z]; exact nit b u e
    · exact nit c _ z
theorem Inv.tok (I : Inv X pins σ H s) (t : Nat) : Inv X pins σ H { s with toks := t } := I.un (h' := s.heap) (t' := t) Un.refl I.hok
theorem Inv.kept {t' : Nat} (I : Inv X pins σ H s) (k : ∀ b u, s.heap.get? b = some u → h'.get? b = some u) : Inv X pins σ H { s with heap := h', toks := t' } := I.un (Un.kept k) (I.hok.kept k)
theorem Inv.laid {a : Addr} {o : HO} {t' : Nat} (I : Inv X pins σ H s) (k : ∀ b u, s.heap.get? b = some u → h'.get? b = some u) (hp : s.heap.objs.size ≤ a) (new : ObjOk X.prog X.w (upd H a o) h' a o) :
    Inv X pins σ (upd H a o) { s with heap := h', toks := t' } := I.un (Un.laid k hp (I.hok.fresh hp)) (I.hok.laid k hp new)
theorem Inv.write {x e : Addr} {o : HO} {t' : Nat} (I : Inv X pins σ H s) (mu : Mut (H x)) (he : e = x ∨ H e = some (.own x)) (k : ∀ b u, b ≠ e → s.heap.get? b = some u → h'.get? b = some u) (heo : ∃ u, h'.get? e = some u)
    (new : ObjOk X.prog X.w (upd H x o) h' x o) : Inv X pins σ (upd H x o) { s with heap := h', toks := t' } := I.un (Un.write mu he k heo) (I.hok.write mu he k heo new)
theorem Inv.pins_of {pins' : List (Addr × Obj)} (I : Inv X pins σ H s) (h : ∀ p ∈ pins', s.heap.get? p.1 = some p.2 ∧ H p.1 = none ∧ p.1 ≠ X.env.locals ∧ p.1 ∉ X.fs ∧ ∀ v, p.2.data ≠ .cell v) : Inv X pins' σ H s :=
  ⟨I.ok, I.os, I.bare, I.base, I.loc, I.cell, I.free, I.freeC, fun p hp => (List.mem_append.mp hp).elim (fun z => I.pin p (List.mem_append_left _ z)) (h p), I.hok, I.len⟩
theorem nodup_ix {N : List Str} (hN : N.Nodup) {i j : Nat} {x : Str} (a : N[i]? = some x) (b : N[j]? = some x) : i = j := by
  obtain ⟨h1, e1⟩ := List.getElem?_eq_some_iff.mp a
  obtain ⟨h2, e2⟩ := List.getElem?_eq_some_iff.mp b
  exact (List.getElem_inj hN).mp (e1.trans e2.symm)
theorem store_ok2 {M : Model} {A : Around} {E : Value → Shared → Prop} {i : Nat} {x : Str} {v : V} {u : Value} {Q : Unit → Shared → Prop} (I : Inv X pins σ H s) (hN : X.N.Nodup) (hi : X.N[i]? = some x) (hx : Loc X.env.scope x) (r : RelV v u)
    (h : ∀ s', Inv X pins (σ.set i (some v)) H s' → (∃ a, Heap.SameBut a s.heap s'.heap ∧ (a = X.env.locals ∨ X.env.cells.lookup x = some a)) → Q () s') (hf : X.fn x = true ∨ X.env.scope.names.lookup x = some .local := by first | exact .inl rfl | exact .inr rfl | assumption) : wpAny M A (storeName X.env x u) Q E s := by
  obtain ⟨m, hn, hl⟩ := id I.loc
  have hcls : (X.env.scope.kind == .class || (X.env.scope.kind == .module && X.env.locals != X.env.globals)) = false := by rw [I.ok.kind]; rfl
  have hiσ : i < σ.length := by rw [I.len]; exact (List.getElem?_eq_some_iff.mp hi).1
  have cne := I.cne
  have tracked : ∀ {a : Addr} {h' : Heap}, (∃ o, s.heap.get? a = some o ∧ H a = none) → Heap.SameBut a s.heap h' → HOk X.prog X.w H h' := fun {a h'} ha hs b ob e => by
    obtain ⟨_, _, hfree⟩ := ha
    refine (I.hok b ob e).stay (fun c w' hc q => (hs.2 c ?_).trans q) (fun _ q => q) fun _ _ q => q
    rintro rfl
    rcases hc with rfl | hc
    · rw [hfree] at e; cases e
    · rw [hfree] at hc; cases hc
  rcases hx with hk | hk
  · refine wpAny_storeName_local hk hn (fun h' hn' hs => ?_) hcls
    obtain ⟨oL, _, _, hoL, _⟩ := id hn
    refine h _ ⟨I.ok, I.os, I.bare, ⟨fun b o e n hb hx => ?_, fun b o e n hb hx => ?_, I.base.free, fun b o e hx => ?_, I.base.tups, I.base.frzs, I.base.tbls⟩, ⟨_, hn', fun j y v' e1 e2 e3 => ?_⟩, fun y c e => ?_, I.free, I.freeC, fun p hp => ?_, tracked ⟨oL, hoL, I.free⟩ hs, by simpa using I.len⟩ ⟨_, hs, .inl rfl⟩
    · exact (hs.2 b (Nat.ne_of_lt (Nat.lt_of_lt_of_le (Heap.lt_size e) I.ok.above))).trans (I.base.keep b o e n hb hx)
    · obtain ⟨sl, e1⟩ := I.base.slot b o e n hb hx
      exact ⟨sl, (hs.2 b (Nat.ne_of_lt (Nat.lt_of_lt_of_le (Heap.lt_size e) I.ok.above))).trans e1⟩
    · obtain ⟨o', e1⟩ := I.base.there b o e hx
      exact ⟨o', (hs.2 b (Nat.ne_of_lt (Nat.lt_of_lt_of_le (Heap.lt_size e) I.ok.above))).trans e1⟩
    · by_cases hj : j = i
      · subst hj
        rw [hi] at e1; cases e1
        rw [List.getElem?_set_self hiσ] at e2
        cases e2
        exact ⟨u, r, .inl ⟨hk, by simp⟩⟩
      · rw [List.getElem?_set_ne (Ne.symm hj)] at e2
        obtain ⟨u', r', q⟩ := hl j y v' e1 e2 e3
        refine ⟨u', r', ?_⟩
        rcases q with ⟨k, e⟩ | ⟨k, c, e, z⟩
        · refine .inl ⟨k, ?_⟩
          have : y ≠ x := fun e => hj (nodup_ix hN e1 (e ▸ hi))
          simp [this, e]
        · exact .inr ⟨k, c, e, z.sameBut hs (cne y c e)⟩
    · obtain ⟨w', z⟩ := I.cell y c e
      exact ⟨w', z.sameBut hs (cne y c e)⟩
    · obtain ⟨e, n, ne, nf, d⟩ := I.pin p hp
      exact ⟨(hs.2 p.1 ne).trans e, n, ne, nf, d⟩
  · have hfn : X.fn x = true := by
      rcases hf with z | z
      · exact z
      · rw [z] at hk; cases hk
    obtain ⟨c, hc⟩ := I.ok.has x (.inl hk)
    obtain ⟨w', z⟩ := I.cell x c hc
    refine wpAny_storeName_cell I.ok.kind hk hc z (fun h' hc' hs => ?_)
    obtain ⟨oc, hoc, hocd⟩ := id z
    refine h { s with heap := h' } ⟨I.ok, I.os, I.bare, ⟨fun b o e n hb hx => ?_, fun b o e n hb hx => ?_, I.base.free, fun b o e hx => ?_, I.base.tups, I.base.frzs, I.base.tbls⟩, ⟨m, hn.sameBut hs (Ne.symm (cne x c hc)), fun j y v' e1 e2 e3 => ?_⟩, fun y c' e => ?_, I.free, I.freeC, fun p hp => ?_, tracked ⟨oc, hoc, I.freeC x c hc⟩ hs, by simpa using I.len⟩ ⟨c, hs, .inr hc⟩
    · exact (hs.2 b (Nat.ne_of_lt (Nat.lt_of_lt_of_le (Heap.lt_size e) (I.ok.cab x c hfn hc)))).trans (I.base.keep b o e n hb hx)
    · obtain ⟨sl, e1⟩ := I.base.slot b o e n hb hx
      exact ⟨sl, (hs.2 b (Nat.ne_of_lt (Nat.lt_of_lt_of_le (Heap.lt_size e) (I.ok.cab x c hfn hc)))).trans e1⟩
    · obtain ⟨o', e1⟩ := I.base.there b o e hx
      exact ⟨o', (hs.2 b (Nat.ne_of_lt (Nat.lt_of_lt_of_le (Heap.lt_size e) (I.ok.cab x c hfn hc)))).trans e1⟩
    · by_cases hj : j = i
      · subst hj
        rw [hi] at e1; cases e1
        rw [List.getElem?_set_self hiσ] at e2
        cases e2
        exact ⟨u, r, .inr ⟨.inl hk, c, hc, hc'⟩⟩
      · rw [List.getElem?_set_ne (Ne.symm hj)] at e2
        obtain ⟨u', r', q⟩ := hl j y v' e1 e2 e3
        refine ⟨u', r', ?_⟩
        rcases q with q | ⟨k, c', e, z'⟩
        · exact .inl q
        · refine .inr ⟨k, c', e, z'.sameBut hs ?_⟩
          rintro rfl
          exact hj (nodup_ix hN e1 (I.ok.inj _ _ _ e hc ▸ hi))
    · by_cases hcc : c' = c
      · subst hcc; exact ⟨_, hc'⟩
      · obtain ⟨w2, z2⟩ := I.cell y c' e
        exact ⟨w2, z2.sameBut hs hcc⟩
    · obtain ⟨e, n, ne, nf, d⟩ := I.pin p hp
      refine ⟨(hs.2 p.1 ?_).trans e, n, ne, nf, d⟩
      intro q
      rw [q, hoc] at e
      have q' : oc = p.2 := Option.some.inj e
      exact d w' (by rw [← q']; exact hocd)
theorem store_ok {M : Model} {A : Around} {E : Value → Shared → Prop} {i : Nat} {x : Str} {v : V} {u : Value} {Q : Unit → Shared → Prop} (I : Inv X pins σ H s) (hN : X.N.Nodup) (hi : X.N[i]? = some x) (hx : Loc X.env.scope x) (r : RelV v u)
    (h : ∀ s', Inv X pins (σ.set i (some v)) H s' → Q () s') (hf : X.fn x = true ∨ X.env.scope.names.lookup x = some .local := by first | exact .inl rfl | exact .inr rfl | assumption) : wpAny M A (storeName X.env x u) Q E s :=
  store_ok2 I hN hi hx r (fun s' I' _ => h s' I') hf
theorem Inv.call' {s' : Shared} {ch : List Addr} (I : Inv X pins σ H s) (ho : s'.os = s.os) (u : Un (frs X.stack) ch H H' s.heap s'.heap) (hok : HOk X.prog X.w H' s'.heap) (hg : AllBare s'.gens)
    (hch : ∀ b ∈ ch, (b ∈ X.ex ∨ X.s₀.heap.objs.size ≤ b) ∧ b ≠ X.env.locals ∧ (∀ x c, X.env.cells.lookup x = some c → c ≠ b) ∧ ∀ p ∈ X.pn ++ pins, p.1 ≠ b) : Inv X pins σ H' s' := by
  obtain ⟨h', g', d', t', o'⟩ := s'
  have e : o' = s.os := ho
  subst e
  exact I.call (g' := g') (t' := t') (d' := d') u hok hg hch
end
abbrev XK := Value → Option Addr → Hp → Prop
abbrev St := List (Option V)
abbrev VK := V → Hp → Prop
abbrev TE := St → Hp → VK → Prop
abbrev TT := St → Hp → (Bool → Hp → Prop) → Prop
abbrev TA := St → Hp → (List V → Hp → Prop) → Prop
structure Ends where
  nx : St → Hp → Prop
  rt : VK
  bk : St → Hp → Prop := fun _ _ => False
  ct : St → Hp → Prop := fun _ _ => False
abbrev TS := Ends → St → Hp → Prop
def EP (X : Cx) (pins : List (Addr × Obj)) (σ : St) (Q : VK) (u : Value) (s' : Shared) : Prop := ∃ v H', Inv X pins σ H' s' ∧ RelV v u ∧ Q v H'
def TP (X : Cx) (pins : List (Addr × Obj)) (σ : St) (Q : Bool → Hp → Prop) (b : Bool) (s' : Shared) : Prop := ∃ H', Inv X pins σ H' s' ∧ Q b H'
def AP (X : Cx) (pins : List (Addr × Obj)) (σ : St) (Q : List V → Hp → Prop) (us : List Value) (s' : Shared) : Prop := ∃ vs H', Inv X pins σ H' s' ∧ Vals vs us ∧ Q vs H'
def SP (X : Cx) (pins : List (Addr × Obj)) (D : Ends) (f : Flow) (s' : Shared) : Prop :=
  match f with
  | .next => ∃ σ' H', Inv X pins σ' H' s' ∧ D.nx σ' H'
  | .brk => ∃ σ' H', Inv X pins σ' H' s' ∧ D.bk σ' H'
  | .cont => ∃ σ' H', Inv X pins σ' H' s' ∧ D.ct σ' H'
  | .ret u => ∃ v σ' H', Inv X pins σ' H' s' ∧ RelV v u ∧ D.rt v H'
def PE (X : Cx) (e : Expr) (t : TE) : Prop :=
  ∀ (pins : List (Addr × Obj)) (s : Shared) (σ : St) (H : Hp) (Q : VK), Inv X pins σ H s → t σ H Q → wpAny (model X.prog X.w) X.A (eval e X.env) (EP X pins σ Q) X.xe s
def PT (X : Cx) (e : Expr) (t : TT) : Prop :=
  ∀ (pins : List (Addr × Obj)) (s : Shared) (σ : St) (H : Hp) (Q : Bool → Hp → Prop), Inv X pins σ H s → t σ H Q → wpAny (model X.prog X.w) X.A (isTrue e X.env (eval e X.env)) (TP X pins σ Q) X.xe s
def PW (X : Cx) (e : Expr) (t : TT) : Prop :=
  ∀ (whole : Sem Value) (pins : List (Addr × Obj)) (s : Shared) (σ : St) (H : Hp) (Q : Bool → Hp → Prop), Inv X pins σ H s → t σ H Q → wpAny (model X.prog X.w) X.A (isTrue e X.env whole) (TP X pins σ Q) X.xe s
theorem PW.pt {X : Cx} {e : Expr} {t : TT} (h : PW X e t) : PT X e t := h _
def PA (X : Cx) (es : List Expr) (t : TA) : Prop :=
  ∀ (pos : Pos) (pins : List (Addr × Obj)) (s : Shared) (σ : St) (H : Hp) (Q : List V → Hp → Prop), Inv X pins σ H s → t σ H Q → wpAny (model X.prog X.w) X.A (spliced (backTo pos (starEach es X.env))) (AP X pins σ Q) X.xe s
def PS (X : Cx) (st : Stmt) (t : TS) : Prop :=
  ∀ (pins : List (Addr × Obj)) (s : Shared) (σ : St) (H : Hp) (D : Ends), Inv X pins σ H s → t D σ H → wpAny (model X.prog X.w) X.A (exec st X.env) (SP X pins D) X.xe s
def PSs (X : Cx) (st : List Stmt) (t : TS) : Prop :=
  ∀ (pins : List (Addr × Obj)) (s : Shared) (σ : St) (H : Hp) (D : Ends), Inv X pins σ H s → t D σ H → wpAny (model X.prog X.w) X.A (execs st X.env) (SP X pins D) X.xe s
theorem thn {α : Type} {t : Sem α} {Q Q' : α → Shared → Prop} {M : Model} {A : Around} {E : Value → Shared → Prop} {s : Shared} (h : wpAny M A t Q E s) (hQ : ∀ a s, Q a s → Q' a s) : wpAny M A t Q' E s := wpAny_mono h hQ fun _ _ x => x
end L2
namespace L2
open PySem PySem.Spec PyProof.Rows
section
variable {X : Cx}
def tVar (i : Nat) : TE := fun σ H Q => ∃ v, σ[i]? = some (some v) ∧ Q v H
def tC (v : V) : TE := fun _ H Q => Q v H
theorem pe_var {i : Nat} {x : Str} {pos : Pos} (hN : X.N[i]? = some x) (hv : Vis X.env.scope x) (hd : (x == ("__debug__" : Str)) = false := by decide) (hcd : (x == ("__classdict__" : Str)) = false := by decide) : PE X (.Name x pos) (tVar i) := by
  intro pins s σ H Q I h
  obtain ⟨v, e, h⟩ := h
  obtain ⟨m, hn, hl⟩ := I.loc
  obtain ⟨u, r, l⟩ := hl i x v hN e hv
  have fin : EP X pins σ Q u s := ⟨v, H, I, r, h⟩
  rcases l with ⟨hk, hm⟩ | ⟨hk, c, hc, hcell⟩
  · exact wpAny_Name (wpAny_loadName_local I.ok.kind hk hn hm fin) hd
  · rcases hk with hk | hk
    · exact wpAny_Name (wpAny_loadName_cell I.ok.kind hk hc hcell fin) hd
    · exact wpAny_Name (wpAny_loadName_free I.ok.kind hk hc hcell fin hcd) hd
theorem pe_int {i j pos} : PE X (.Constant (.int i) j pos) (tC (.int i)) := fun _ _ _ H _ I h => wpAny_Constant_int ⟨.int i, H, I.tok _, ⟨_, rfl⟩, h⟩
theorem pe_bl {b j pos} : PE X (.Constant (.bool b) j pos) (tC (.bl b)) := fun _ _ _ H _ I h => Constant_bool ⟨.bl b, H, I, rfl, h⟩
theorem pe_non {j pos} : PE X (.Constant .none j pos) (tC .non) := fun _ _ _ H _ I h => Constant_none ⟨.non, H, I, rfl, h⟩
theorem pe_str {x j pos} : PE X (.Constant (.str x) j pos) (tC (.str x)) := fun _ _ _ H _ I h => Calls.Constant_str ⟨.str x, H, I.tok _, ⟨_, rfl⟩, h⟩
def Gl (X : Cx) (x : Str) : Prop := X.env.kindOf x = some .globalImplicit
theorem ld_glob {E : Value → Shared → Prop} {pins : List (Addr × Obj)} {s : Shared} {σ : St} {H : Hp} {x : Str} {u : Value} {pos : Pos} {Q : Value → Shared → Prop} (I : Inv X pins σ H s) (hg : Gl X x) (hm : X.mg x = some u) (h : Q u s)
    (hd : (x == ("__debug__" : Str)) = false := by decide) : wpAny (model X.prog X.w) X.A (eval (.Name x pos) X.env) Q E s :=
  Calls.Name_function_global I.ok.kind hg (Calls.loadGlobal_global (by rw [I.ok.glob]; exact I.mod.glob.keeps I.bk) hm h) hd
theorem ld_blt {E : Value → Shared → Prop} {pins : List (Addr × Obj)} {s : Shared} {σ : St} {H : Hp} {x : Str} {u : Value} {pos : Pos} {Q : Value → Shared → Prop} (I : Inv X pins σ H s) (hg : Gl X x) (hm : X.mg x = none) (hv : bootBuiltins x = some u) (h : Q u s)
    (hn : x ≠ "__name__" := by decide) (hd : (x == ("__debug__" : Str)) = false := by decide) : wpAny (model X.prog X.w) X.A (eval (.Name x pos) X.env) Q E s := by
  obtain ⟨mb, h1, h2⟩ := I.mod.blt
  exact Calls.Name_function_global I.ok.kind hg (Calls.loadGlobal_builtin (by rw [I.ok.glob]; exact I.mod.glob.keeps I.bk) hm (by rw [I.ok.blt]; exact h1.keeps I.bk) ((h2 x hn).trans hv) h) hd
theorem pe_glob {x : Str} {v : V} {u : Value} {pos : Pos} (hg : Gl X x) (hm : X.mg x = some u) (r : RelV v u) (hd : (x == ("__debug__" : Str)) = false := by decide) : PE X (.Name x pos) (tC v) :=
  fun _ _ _ H _ I h => ld_glob I hg hm ⟨v, H, I, r, h⟩ hd
theorem pe_bltn {x : Str} {v : V} {u : Value} {pos : Pos} (hg : Gl X x) (hm : X.mg x = none) (hv : bootBuiltins x = some u) (r : RelV v u) (hn : x ≠ "__name__" := by decide) (hd : (x == ("__debug__" : Str)) = false := by decide) : PE X (.Name x pos) (tC v) :=
  fun _ _ _ H _ I h => ld_blt I hg hm hv ⟨v, H, I, r, h⟩ hn hd
variable {a b : Expr} {ta tb : TE} {pos : Pos}
def PC (X : Cx) (op : CmpOp) (a b : Expr) (t : TE) : Prop :=
  ∀ (pins : List (Addr × Obj)) (s : Shared) (σ : St) (H : Hp) (Q : VK), Inv X pins σ H s → t σ H Q →
    wpAny (model X.prog X.w) X.A (eval a X.env) (fun v s₁ => wpAny (model X.prog X.w) X.A (eval b X.env) (fun u s₂ => wpAny (model X.prog X.w) X.A (compareOp op v u) (EP X pins σ Q) X.xe s₂) X.xe s₁) X.xe s
theorem nobehind (b : Expr) {op : CmpOp} (h : op ≠ .In) (h2 : op ≠ .NotIn) : behindInMarks op b = false := by
  have e1 : (op == CmpOp.In) = false := by cases op <;> first | rfl | exact absurd rfl h
  have e2 : (op == CmpOp.NotIn) = false := by cases op <;> first | rfl | exact absurd rfl h2
  cases b <;> simp [behindInMarks, e1, e2]
def tB (t : TE) : TT := fun σ H Q => t σ H fun x H1 => ∃ c, x = .bl c ∧ Q c H1
theorem pe_cmp {op : CmpOp} {t : TE} (h : PC X op a b t) (h1 : behindInMarks op b = false := by first | exact nobehind _ (by decide) (by decide) | rfl) : PE X (.Compare a [op] [b] pos) t := fun pins s σ H Q I hw => wpAny_Compare1 (h pins s σ H Q I hw) h1
theorem pt_cmp {op : CmpOp} {t : TE} (h : PC X op a b t) (h1 : behindInMarks op b = false := by first | exact nobehind _ (by decide) (by decide) | rfl) : PT X (.Compare a [op] [b] pos) (tB t) := by
  intro pins s σ H Q I hw
  refine wpAny_isTrue_Compare1 (thn (h pins s σ H _ I hw) fun v s1 h1 => thn h1 fun u s2 h2 => thn h2 fun c s3 ⟨x, H1, I1, r1, q1⟩ => ?_) h1
  obtain ⟨d, rfl, q⟩ := q1
  cases r1
  exact wpAny_truthy_bool ⟨H1, I1, q⟩
variable {tA tB' : TT} {rest : List Expr}
def tAnd (t u : TT) : TT := fun σ H Q => t σ H fun c H1 => if c = true then u σ H1 Q else Q false H1
def tOr (t u : TT) : TT := fun σ H Q => t σ H fun c H1 => if c = true then Q true H1 else u σ H1 Q
def tNot (t : TT) : TT := fun σ H Q => t σ H fun c H1 => Q (!c) H1
theorem pw_and1 (ha : PT X a tA) : PW X (.BoolOp .And [a] pos) tA := by
  intro wh pins s σ H Q I h
  refine isTrue_and (thn (ha pins s σ H Q I h) fun c s1 e => ?_)
  cases c with
  | true => exact isTrue_and_nil e
  | false => exact e
theorem pw_or1 (ha : PT X a tA) : PW X (.BoolOp .Or [a] pos) tA := by
  intro wh pins s σ H Q I h
  refine isTrue_or (thn (ha pins s σ H Q I h) fun c s1 e => ?_)
  cases c with
  | false => exact isTrue_or_nil e
  | true => exact e
theorem pw_and (ha : PT X a tA) (hb : PW X (.BoolOp .And (b :: rest) pos) tB') : PW X (.BoolOp .And (a :: b :: rest) pos) (tAnd tA tB') := by
  intro wh pins s σ H Q I h
  refine isTrue_and (thn (ha pins s σ H _ I h) fun c s1 ⟨H1, I1, q1⟩ => ?_)
  cases c with
  | true => exact hb wh pins s1 σ H1 Q I1 q1
  | false => exact ⟨H1, I1, q1⟩
theorem pw_or (ha : PT X a tA) (hb : PW X (.BoolOp .Or (b :: rest) pos) tB') : PW X (.BoolOp .Or (a :: b :: rest) pos) (tOr tA tB') := by
  intro wh pins s σ H Q I h
  refine isTrue_or (thn (ha pins s σ H _ I h) fun c s1 ⟨H1, I1, q1⟩ => ?_)
  cases c with
  | true => exact ⟨H1, I1, q1⟩
  | false => exact hb wh pins s1 σ H1 Q I1 q1
theorem pt_not (ha : PT X a tA) : PT X (.UnaryOp .Not a pos) (tNot tA) := by
  intro pins s σ H Q I h
  exact isTrue_not (ha pins s σ H (fun c H1 => Q (!c) H1) I h)
def tAndV (ta tb : TE) : TE := fun σ H Q => ta σ H fun x H1 => ∃ c, x = .bl c ∧ if c = true then tb σ H1 Q else Q (.bl false) H1
theorem pe_one {op} {t : TE} (h : PE X a t) : PE X (.BoolOp op [a] pos) t := fun pins s σ H Q I hw => BoolOp_one (h pins s σ H Q I hw)
theorem pe_and (ha : PE X a ta) (hb : PE X (.BoolOp .And (b :: rest) pos) tb) : PE X (.BoolOp .And (a :: b :: rest) pos) (tAndV ta tb) := by
  intro pins s σ H Q I h
  refine BoolOp_and (thn (ha pins s σ H _ I h) fun v s1 ⟨x, H1, I1, r1, q1⟩ => ?_)
  obtain ⟨c, rfl, q1⟩ := q1
  cases r1
  refine wpAny_truthy_bool ?_
  cases c with
  | true => exact hb pins s1 σ H1 Q I1 q1
  | false => exact ⟨.bl false, H1, I1, rfl, q1⟩
end
end L2
namespace L2
open PySem PySem.Spec PyProof.Rows
def SqL (K : PySem.W.Frag) (H : Hp) (a : Addr) (xs : List V) : Prop :=
  Rd H a (.lst xs) ∨
    ∃ (o : Obj) (its : Array Value) (n : Nat), K.lookup a = some o ∧ o.cls = .type "list" ∧ o.dict = none ∧ o.data = .seq its n ∧ its.size ≤ sizeLine ∧ Vals xs its.toList
def SqT (K : PySem.W.Frag) (H : Hp) (a : Addr) (xs : List V) : Prop :=
  Rd H a (.tup xs) ∨
    ∃ (o : Obj) (its : Array Value) (n : Nat), K.lookup a = some o ∧ o.cls = .type "tuple" ∧ o.data = .seq its n ∧ its.size ≤ sizeLine ∧ Vals xs its.toList
def absV : Value → Option V
  | .none => some .non
  | .bool b => some (.bl b)
  | .int i _ => some (.int i)
  | .str x _ => some (.str x)
  | .bytes b _ => some (.byt b)
  | .float b _ => some (.flt b)
  | .ref a => some (.ref a)
  | .type n => some (.ty n)
  | _ => none
theorem RelV.abs {x : V} {u : Value} (r : RelV x u) : absV u = some x := by
  cases x with
  | non => cases r; rfl
  | bl _ => cases r; rfl
  | int _ => obtain ⟨t, rfl⟩ := r; rfl
  | str _ => obtain ⟨t, rfl⟩ := r; rfl
  | byt _ => obtain ⟨t, rfl⟩ := r; rfl
  | flt _ => obtain ⟨t, rfl⟩ := r; rfl
  | ref _ => cases r; rfl
  | ty _ => cases r; rfl
theorem RelV.inj {x y : V} {u : Value} (r : RelV x u) (q : RelV y u) : x = y := Option.some.inj (r.abs.symm.trans q.abs)
theorem Vals.inj : ∀ {xs ys : List V} {us : List Value}, Vals xs us → Vals ys us → xs = ys
  | _, _, _, .nil, .nil => rfl
  | _, _, _, .cons r t, .cons r' t' => by rw [r.inj r', Vals.inj t t']
section
variable {X : Cx} {pins : List (Addr × Obj)} {σ : St} {H : Hp} {s : Shared} {a : Addr} {xs ys : List V}
theorem SqL.of {K : PySem.W.Frag} (h : H a = some (.lst xs)) : SqL K H a xs := .inl (.inl h)
theorem SqT.of {K : PySem.W.Frag} (h : H a = some (.tup xs)) : SqT K H a xs := .inl (.inl h)
theorem Inv.list (I : Inv X pins σ H s) (h : SqL X.K H a xs) : ∃ its : List Value, Vals xs its ∧ PlainL s.heap a its.toArray ∧ xs.length ≤ sizeLine := by
  rcases h with h | ⟨o, its, n, hk, hc, hd, hs, hz, r⟩
  · obtain ⟨z, its, n, r, e⟩ := h.ok I.hok
    exact ⟨its, r, ⟨_, n, e, rfl, rfl, rfl⟩, z⟩
  · refine ⟨its.toList, r, ⟨o, n, I.kIn a o hk, hc, hd, by simpa using hs⟩, ?_⟩
    have e := r.length
    simp only [Array.length_toList] at e
    omega
theorem Inv.tuple (I : Inv X pins σ H s) (h : SqT X.K H a xs) : ∃ its : List Value, Vals xs its ∧ IsTup s.heap a its.toArray ∧ xs.length ≤ sizeLine := by
  rcases h with h | ⟨o, its, n, hk, hc, hs, hz, r⟩
  · obtain ⟨z, its, r, p⟩ := h.ok I.hok
    exact ⟨its, r, p.t, z⟩
  · refine ⟨its.toList, r, ⟨o, I.kIn a o hk, hc, n, by simpa using hs⟩, ?_⟩
    have e := r.length
    simp only [Array.length_toList] at e
    omega
theorem Inv.list_inj (I : Inv X pins σ H s) (h : SqL X.K H a xs) (h' : SqL X.K H a ys) : xs = ys := by
  obtain ⟨its, r, ⟨o, n, e, _, _, d⟩, _⟩ := I.list h
  obtain ⟨its', r', ⟨o', n', e', _, _, d'⟩, _⟩ := I.list h'
  rw [e] at e'; cases e'
  rw [d] at d'
  injection d' with d1 _
  have : its = its' := by simpa using congrArg Array.toList d1
  subst this
  exact r.inj r'
theorem Inv.tuple_inj (I : Inv X pins σ H s) (h : SqT X.K H a xs) (h' : SqT X.K H a ys) : xs = ys := by
  obtain ⟨its, r, ⟨o, e, _, n, d⟩, _⟩ := I.tuple h
  obtain ⟨its', r', ⟨o', e', _, n', d'⟩, _⟩ := I.tuple h'
  rw [e] at e'; cases e'
  rw [d] at d'
  injection d' with d1 _
  have : its = its' := by simpa using congrArg Array.toList d1
  subst this
  exact r.inj r'
end
abbrev Cx.wish (X : Cx) (E : Value → Shared → Prop) : Cx := { X with xe := E }
abbrev Cx.nox (X : Cx) : Cx := X.wish fun _ _ => False
theorem Cx.Ok.wish {X : Cx} (ok : X.Ok) (E : Value → Shared → Prop) : (X.wish E).Ok :=
  ⟨ok.mod, ok.kind, ok.glob, ok.blt, ok.above, ok.inj, ok.has, ok.cab, ok.hd, ok.frames, ok.stk, ok.exf, ok.bs, ok.bsz, ok.noex, ok.exfs, ok.funs, ok.frf⟩
theorem Cx.Ok.unwish {X : Cx} {E : Value → Shared → Prop} (ok : (X.wish E).Ok) : X.Ok :=
  ⟨ok.mod, ok.kind, ok.glob, ok.blt, ok.above, ok.inj, ok.has, ok.cab, ok.hd, ok.frames, ok.stk, ok.exf, ok.bs, ok.bsz, ok.noex, ok.exfs, ok.funs, ok.frf⟩
section
variable {X : Cx} {pins : List (Addr × Obj)} {σ : St} {H : Hp} {s : Shared} {E : Value → Shared → Prop}
theorem Inv.wish (I : Inv X pins σ H s) (E : Value → Shared → Prop) : Inv (X.wish E) pins σ H s := ⟨I.ok.wish E, I.os, I.bare, I.base, I.loc, I.cell, I.free, I.freeC, I.pin, I.hok, I.len⟩
theorem Inv.unwish (I : Inv (X.wish E) pins σ H s) : Inv X pins σ H s := ⟨I.ok.unwish, I.os, I.bare, I.base, I.loc, I.cell, I.free, I.freeC, I.pin, I.hok, I.len⟩
theorem SP.unwish {D : Ends} {f : Flow} {s' : Shared} (h : SP (X.wish E) pins D f s') : SP X pins D f s' := by
  cases f with
  | next => obtain ⟨σ', H', I, q⟩ := h; exact ⟨σ', H', I.unwish, q⟩
  | brk => obtain ⟨σ', H', I, q⟩ := h; exact ⟨σ', H', I.unwish, q⟩
  | cont => obtain ⟨σ', H', I, q⟩ := h; exact ⟨σ', H', I.unwish, q⟩
  | ret u => obtain ⟨v, σ', H', I, r, q⟩ := h; exact ⟨v, σ', H', I.unwish, r, q⟩
theorem PE.nox {e : Expr} {t : TE} (h : PE X.nox e t) : PE X e t := fun pins s σ H Q I hw =>
  wpAny_mono (h pins s σ H Q (I.wish _) hw) (fun _ _ ⟨v, H', I', r, q⟩ => ⟨v, H', I'.unwish, r, q⟩) fun _ _ z => False.elim z
theorem PT.nox {e : Expr} {t : TT} (h : PT X.nox e t) : PT X e t := fun pins s σ H Q I hw =>
  wpAny_mono (h pins s σ H Q (I.wish _) hw) (fun _ _ ⟨H', I', q⟩ => ⟨H', I'.unwish, q⟩) fun _ _ z => False.elim z
theorem PSs.nox {st : List Stmt} {t : TS} (h : PSs X.nox st t) : PSs X st t := fun pins s σ H D I hw =>
  wpAny_mono (h pins s σ H D (I.wish _) hw) (fun _ _ q => q.unwish) fun _ _ z => False.elim z
end
section
variable {X : Cx} {st : Stmt} {rest : List Stmt} {t u : TS} {e : Expr} {te : TE} {pos : Pos}
def tNext : TS := fun D σ H => D.nx σ H
def tSeq (t u : TS) : TS := fun D σ H => t { D with nx := u D } σ H
theorem pss_nil : PSs X [] tNext := fun _ _ σ H _ I h => wpAny_execs_nil ⟨σ, H, I, h⟩
theorem pss_cons (h1 : PS X st t) (h2 : PSs X rest u) : PSs X (st :: rest) (tSeq t u) := by
  intro pins s σ H D I h
  refine wpAny_execs_cons (thn (h1 pins s σ H { D with nx := u D } I h) fun f s1 q => ?_)
  cases f with
  | next =>
    obtain ⟨σ', H', I', q⟩ := q
    exact h2 pins s1 σ' H' D I' q
  | ret v => exact q
  | brk => exact q
  | cont => exact q
theorem pss_one (h1 : PS X st t) : PSs X [st] t := by
  intro pins s σ H D I h
  refine wpAny_execs_cons (thn (h1 pins s σ H D I h) fun f s1 q => ?_)
  cases f with
  | next => exact wpAny_execs_nil q
  | ret v => exact q
  | brk => exact q
  | cont => exact q
theorem Inv.quiet {pins : List (Addr × Obj)} {σ : St} {H : Hp} {s : Shared} (I : Inv X pins σ H s) : interactive X.env = false := by simp [interactive, I.ok.kind]
def tDrop (te : TE) : TS := fun D σ H => te σ H fun _ H1 => D.nx σ H1
theorem ps_expr (he : PE X e te) (hs : swapsWith e none pos.line X.env = pure false := by rfl) : PS X (.Expr e pos) (tDrop te) := by
  intro pins s σ H D I h
  exact wpAny_Expr_any (thn (he pins s σ H _ I h) fun v s1 ⟨x, H1, I1, r1, q1⟩ => ⟨σ, H1, I1, q1⟩) I.quiet hs
def tRet (te : TE) : TS := fun D σ H => te σ H D.rt
theorem ps_ret (he : PE X e te) : PS X (.Return (some e) pos) (tRet te) := by
  intro pins s σ H D I h
  exact wpAny_Return_some (thn (he pins s σ H _ I h) fun v s1 ⟨x, H1, I1, r1, q1⟩ => ⟨x, σ, H1, I1, r1, q1⟩)
def tIfS (c : TT) (t u : TS) : TS := fun D σ H => c σ H fun b H1 => if b = true then t D σ H1 else u D σ H1
theorem ps_if {c : Expr} {a b : List Stmt} {tc : TT} (hc : PT X c tc) (ha : PSs X a t) (hb : PSs X b u) : PS X (.If c a b pos) (tIfS tc t u) := by
  intro pins s σ H D I h
  refine wpAny_If (thn (hc pins s σ H _ I h) fun d s1 ⟨H1, I1, q1⟩ => ?_)
  cases d with
  | true => exact ha pins s1 σ H1 D I1 q1
  | false => exact hb pins s1 σ H1 D I1 q1
end
abbrev TG := V → St → Hp → (St → Hp → Prop) → Prop
abbrev TGs := List V → St → Hp → (St → Hp → Prop) → Prop
def PG (X : Cx) (target : Expr) (t : TG) : Prop :=
  ∀ (pins : List (Addr × Obj)) (s : Shared) (σ : St) (H : Hp) (v : V) (u : Value) (Q : St → Hp → Prop), Inv X pins σ H s → RelV v u → t v σ H Q →
    wpAny (model X.prog X.w) X.A (assign target X.env u) (fun _ s' => ∃ σ' H', Inv X pins σ' H' s' ∧ Q σ' H') X.xe s
def PGs (X : Cx) (ts : List Expr) (t : TGs) : Prop :=
  ∀ (pins : List (Addr × Obj)) (s : Shared) (σ : St) (H : Hp) (vs : List V) (us : List Value) (Q : St → Hp → Prop), Inv X pins σ H s → Vals vs us → t vs σ H Q →
    wpAny (model X.prog X.w) X.A (assignInOrder ((assignEach ts X.env).map (·.2)) us) (fun _ s' => ∃ σ' H', Inv X pins σ' H' s' ∧ Q σ' H') X.xe s
abbrev TSet := V → V → V → Hp → (Hp → Prop) → Prop
def PSet (X : Cx) (t : TSet) : Prop :=
  ∀ (pins : List (Addr × Obj)) (s : Shared) (σ : St) (H : Hp) (o i v : V) (ov iv u : Value) (Q : Hp → Prop), Inv X pins σ H s → RelV o ov → RelV i iv → RelV v u → t o i v H Q →
    wpAny (model X.prog X.w) X.A (setItem ov iv u) (fun _ s' => ∃ H', Inv X pins σ H' s' ∧ Q H') X.xe s
section
variable {X : Cx} {pos : Pos}
def gName (i : Nat) : TG := fun v σ H Q => Q (σ.set i (some v)) H
theorem pg_name {i : Nat} {x : Str} (hN : X.N.Nodup) (hi : X.N[i]? = some x) (hx : Loc X.env.scope x) (hf : X.fn x = true ∨ X.env.scope.names.lookup x = some .local := by first | exact .inl rfl | exact .inr rfl | assumption) : PG X (.Name x pos) (gName i) := by
  intro pins s σ H v u Q I r h
  exact wpAny_assign_Name (store_ok I hN hi hx r (fun s' I' => ⟨_, H, I', h⟩) hf)
def gNil : TGs := fun vs σ H Q => vs = [] ∧ Q σ H
def gCons (t : TG) (u : TGs) : TGs := fun vs σ H Q => ∃ v r, vs = v :: r ∧ t v σ H fun σ' H' => u r σ' H' Q
theorem pgs_nil : PGs X [] gNil := by
  intro pins s σ H vs us Q I r h
  obtain ⟨e, h⟩ := h
  subst e
  cases r
  exact assignInOrder_nil ⟨σ, H, I, h⟩
theorem pgs_cons {e : Expr} {es : List Expr} {t : TG} {u : TGs} (h1 : PG X e t) (h2 : PGs X es u)
    (hs : (assignEach (e :: es) X.env).map (·.2) = assign e X.env :: (assignEach es X.env).map (·.2) := by rfl) : PGs X (e :: es) (gCons t u) := by
  intro pins s σ H vs us Q I r h
  obtain ⟨v, vr, e1, h⟩ := h
  subst e1
  cases r with
  | cons r rr =>
    rw [hs]
    refine assignInOrder_cons (thn (h1 pins s σ H _ _ _ I r h) fun _ s1 ⟨σ1, H1, I1, q1⟩ => ?_)
    exact h2 pins s1 σ1 H1 _ _ Q I1 rr q1
def gTup (K : PySem.W.Frag) (n : Nat) (t : TGs) : TG := fun v σ H Q => ∃ a xs, v = .ref a ∧ SqT K H a xs ∧ xs.length = n ∧ t xs σ H Q
theorem pg_tup {es : List Expr} {k : Nat} {t : TGs} {n : Nat} (hc : X.calm = true) (h : PGs X es t)
    (hn : (assignEach es X.env).length = n := by rfl) (hst : (assignEach es X.env).findIdx? (·.1) = none := by rfl) : PG X (.Tuple es k pos) (gTup X.K n t) := by
  intro pins s σ H v u Q I r hw
  obtain ⟨a, xs, e1, hq, hl, hw⟩ := hw
  subst e1
  cases r
  obtain ⟨its, rv, ht, hz⟩ := I.tuple hq
  refine assign_Tuple_tuple (I.ok.hd hc) ht (by simp [hn, ← hl, rv.length]) hst fun h' hx => ?_
  have I1 : Inv X pins σ H { s with heap := h' } := I.kept (t' := s.toks) fun b o e => hx b o (Nat.ne_of_lt (Heap.lt_size e)) e
  exact h pins _ σ H xs _ Q I1 (by simpa using rv) hw
def gSub (to ti : TE) (t : TSet) : TG := fun v σ H Q => to σ H fun o H1 => ti σ H1 fun i H2 => t o i v H2 fun H3 => Q σ H3
theorem pg_sub {o i : Expr} {to ti : TE} {t : TSet} (ho : PE X o to) (hi : PE X i ti) (hs : PSet X t)
    (ha : ∀ v, assign (.Subscript o i pos) X.env v = (do
      let ov ← holding [v] (eval o X.env)
      let iv ← holding [v, ov] (eval i X.env)
      standAt pos
      holding [v, ov, iv] (setItem ov iv v)
      release [v, ov, iv] []) := by intro _; rfl) : PG X (.Subscript o i pos) (gSub to ti t) := by
  intro pins s σ H v u Q I r h
  rw [ha]
  refine wpAny_bind (wpAny_holding (thn (ho pins s σ H _ I h) fun ov s1 ⟨x, H1, I1, r1, q1⟩ => ?_))
  refine wpAny_bind (wpAny_holding (thn (hi pins s1 σ H1 _ I1 q1) fun iv s2 ⟨y, H2, I2, r2, q2⟩ => ?_))
  refine wpAny_bind (wpAny_standAt (wpAny_bind (wpAny_holding (thn (hs pins s2 σ H2 x y v ov iv u _ I2 r1 r2 r q2) fun _ s3 ⟨H3, I3, q3⟩ => ?_))))
  exact wpAny_release ⟨σ, H3, I3, q3⟩
def tAsg (te : TE) (g : TG) : TS := fun D σ H => te σ H fun x H1 => g x σ H1 D.nx
theorem ps_asg {tg e : Expr} {te : TE} {g : TG} (he : PE X e te) (hg : PG X tg g) (hs : swapsWithSole [tg] e pos.line X.env = pure false := by rfl) (hw : swappedStores [tg] e X.env = pure none := by rfl)
    (h1 : (assignEach [tg] X.env).map (·.2) = [assign tg X.env] := by rfl) : PS X (.Assign [tg] e pos) (tAsg te g) := by
  intro pins s σ H D I h
  refine wpAny_Assign_stores (thn (he pins s σ H _ I h) fun v s1 ⟨x, H1, I1, r1, q1⟩ => ?_) hs hw
  rw [h1]
  exact thn (hg pins s1 σ H1 x v _ I1 r1 q1) fun _ s2 q => q
theorem ps_set {i : Nat} {x : Str} {e : Expr} {te : TE} {pos' : Pos} (hN : X.N.Nodup) (hi : X.N[i]? = some x) (hx : Loc X.env.scope x) (he : PE X e te) (hs : swapsWith e (some (.Name x pos')) pos.line X.env = pure false := by rfl) (hf : X.fn x = true ∨ X.env.scope.names.lookup x = some .local := by first | exact .inl rfl | exact .inr rfl | assumption) :
    PS X (.Assign [.Name x pos'] e pos) (tAsg te (gName i)) := by
  intro pins s σ H D I h
  refine wpAny_Assign_Name (thn (he pins s σ H _ I h) fun v s1 ⟨y, H1, I1, r1, q1⟩ => ?_) hs
  exact store_ok I1 hN hi hx r1 (fun s2 I2 => ⟨_, H1, I2, q1⟩) hf
def tPar (i j : Nat) (ta : TA) : TS := fun D σ H => ta σ H fun vs H1 => ∃ v w, vs = [v, w] ∧ D.nx ((σ.set i (some v)).set j (some w)) H1
theorem ps_par {i j : Nat} {x y : Str} {a b : Expr} {ta : TA} {px py pt : Pos} {kt k2 pt2} (hc : X.calm = true) (hN : X.N.Nodup) (hi : X.N[i]? = some x) (hj : X.N[j]? = some y) (hij : i ≠ j)
    (hx : X.env.scope.names.lookup x = some .local) (hy : X.env.scope.names.lookup y = some .local) (ha : PA X [a, b] ta)
    (hw : swappedStores [.Tuple [.Name x px, .Name y py] kt pt] (.Tuple [a, b] k2 pt2) X.env = pure (some [x, y]))
    (hs : swapsWithSole [.Tuple [.Name x px, .Name y py] kt pt] (.Tuple [a, b] k2 pt2) pos.line X.env = pure false := by rfl) :
    PS X (.Assign [.Tuple [.Name x px, .Name y py] kt pt] (.Tuple [a, b] k2 pt2) pos) (tPar i j ta) := by
  intro pins s σ H D I h
  rw [exec_Assign_arm]
  refine wpAny_bind (wpAny_standAt ?_)
  rw [hs]
  refine wpAny_bind (wpAny_pure ?_)
  rw [if_neg (by decide)]
  refine wpAny_bind (Tuple_ (thn (ha _ pins s σ H _ I h) fun us s1 ⟨vs, H1, I1, r1, q1⟩ => ?_))
  obtain ⟨v, w, e1, q1⟩ := q1
  subst e1
  obtain ⟨u1, u2, rfl, rv, rw'⟩ : ∃ u1 u2, us = [u1, u2] ∧ RelV v u1 ∧ RelV w u2 := by
    cases r1 with
    | cons p q =>
      cases q with
      | cons p' q' =>
        cases q'
        exact ⟨_, _, rfl, p, p'⟩
  refine wpAny_newObj_type ?_ (by show 2 ≤ sizeLine; decide)
  have I2 : Inv X pins σ H1 { s1 with heap := s1.heap.push { cls := .type "tuple", data := .seq [u1, u2].toArray } } := I1.kept (t' := s1.toks) fun b o e => Heap.get?_push_of_some _ e
  rw [hw]
  refine wpAny_bind (wpAny_pure ?_)
  show wpAny (model X.prog X.w) X.A (do rule "assign.swapped-stores"; let items ← unpackItems (.ref s1.heap.objs.size) 2 none; assignInOrder [fun v => bindName X.env y v, fun v => bindName X.env x v] items.reverse; pure Flow.next) _ _ _
  refine wpAny_bind (wpAny_rule (wpAny_bind (unpackItems_tuple (items := #[u1, u2]) (I.ok.hd hc) (IsTup.new s1.heap _) fun h' hx' => ?_)))
  have I3 := I2.kept (h' := h') (t' := s1.toks) fun b o e => hx' b o (Nat.ne_of_lt (Heap.lt_size e)) e
  show wpAny _ _ (assignInOrder [fun v => bindName X.env y v, fun v => bindName X.env x v] [u2, u1] >>= fun _ => pure Flow.next) _ _ _
  refine wpAny_bind (assignInOrder_cons (wpAny_bindName (store_ok I3 hN hj (.inl hy) rw' (fun s2 I4 => ?_) (.inr hy))))
  refine assignInOrder_cons (wpAny_bindName (store_ok I4 hN hi (.inl hx) rv (fun s3 I5 => assignInOrder_nil (wpAny_pure ?_)) (.inr hx)))
  rw [List.set_comm _ _ (Ne.symm hij)] at I5
  exact ⟨_, H1, I5, q1⟩
end
structure It where
  go : Nat → Hp → Prop
  yld : Nat → Hp → V → Hp → Prop
  stop : Nat → Hp → Prop
def FpOk (X : Cx) (pins : List (Addr × Obj)) (H : Hp) (b : Addr) : Prop :=
  H b = none ∧ b ≠ X.env.locals ∧ b ∉ X.fs ∧ (b ∈ X.ex ∨ X.s₀.heap.objs.size ≤ b) ∧ (∀ x c, X.env.cells.lookup x = some c → c ≠ b) ∧ ∀ p ∈ X.pn ++ pins, p.1 ≠ b
theorem Inv.fpOk {X : Cx} {pins : List (Addr × Obj)} {σ : St} {H H' : Hp} {s : Shared} {b : Addr} (I : Inv X pins σ H s) (hb : s.heap.objs.size ≤ b) (hn : H' b = none) : FpOk X pins H' b := by
  refine ⟨hn, Nat.ne_of_gt (Nat.lt_of_lt_of_le I.lt hb), I.nofs hb, .inr (Nat.le_trans I.sz hb), fun x c e z => ?_, fun p hp z => ?_⟩
  · obtain ⟨v, q⟩ := I.cell x c e
    exact absurd (Nat.lt_of_lt_of_le q.lt (by rw [z]; exact hb)) (Nat.lt_irrefl _)
  · exact absurd (Nat.lt_of_lt_of_le (Heap.lt_size (I.pin p hp).1) (by rw [z]; exact hb)) (Nat.lt_irrefl _)
structure Turn (P : Program) (w : World) (K : PySem.W.Frag) (tg : Expr) (J : It) (fp : List Addr) (it : Addr) (tn : Nat → Heap → Prop) : Prop where
  mem : it ∈ fp
  obj : ∀ i h, tn i h → ∀ b ∈ fp, ∃ o, h.get? b = some o ∧ ∀ v, o.data ≠ .cell v
  keep : ∀ i h h', tn i h → (∀ b ∈ fp, ∀ o, h.get? b = some o → h'.get? b = some o) → tn i h'
  item : ∀ (X : Cx), X.prog = P → X.w = w → X.K = K → X.calm = true → ∀ (i : Nat) (pins : List (Addr × Obj)) (s : Shared) (σ : St) (H : Hp) (E : Value → Shared → Prop), Inv X pins σ H s → (∀ b ∈ fp, FpOk X pins H b) → tn i s.heap → J.go i H →
    wpAny (model P w) X.A (pyNext (.ref it)) (fun r s1 => ∃ u, r = some u ∧
      wpAny (model P w) X.A (letOwnedTupleGo tg (.ref it) u) (fun _ s2 => ∃ x H', Inv X pins σ H' s2 ∧ RelV x u ∧ J.yld i H x H' ∧ tn (i + 1) s2.heap ∧ ∀ b ∈ fp, H' b = none) E s1) E s
  done : ∀ (X : Cx), X.prog = P → X.w = w → X.K = K → X.calm = true → ∀ (i : Nat) (pins : List (Addr × Obj)) (s : Shared) (σ : St) (H : Hp) (E : Value → Shared → Prop), Inv X pins σ H s → (∀ b ∈ fp, FpOk X pins H b) → tn i s.heap → J.stop i H →
    wpAny (model P w) X.A (pyNext (.ref it)) (fun r s1 => r = none ∧ Inv X pins σ H s1) E s
  self : ∀ (A : Around) (i : Nat) (s : Shared) (Q : Value → Shared → Prop) (E : Value → Shared → Prop), tn i s.heap → Q (.ref it) s → wpAny (model P w) A (pyIter (.ref it)) Q E s
abbrev TI := St → Hp → (It → Hp → Prop) → Prop
def PIE (X : Cx) (pins : List (Addr × Obj)) (σ : St) (tg : Expr) (R : It → Hp → Prop) (itv : Value) (s2 : Shared) : Prop :=
  ∃ (it : Addr) (fp : List Addr) (tn : Nat → Heap → Prop) (J : It) (H' : Hp), itv = .ref it ∧ Inv X pins σ H' s2 ∧ Turn X.prog X.w X.K tg J fp it tn ∧ tn 0 s2.heap ∧ (∀ b ∈ fp, FpOk X pins H' b) ∧ R J H'
def PI (X : Cx) (tg iter : Expr) (wi : TI) : Prop :=
  ∀ (pins : List (Addr × Obj)) (s : Shared) (σ : St) (H : Hp) (R : It → Hp → Prop), Inv X pins σ H s → wi σ H R →
    wpAny (model X.prog X.w) X.A (eval iter X.env) (fun v s1 => wpAny (model X.prog X.w) X.A (pyIter v) (PIE X pins σ tg R) X.xe s1) X.xe s
theorem go_of {M : Model} {A : Around} {E : Value → Shared → Prop} {s : Shared} {tg : Expr} {it : Addr} {u : Value} {o : Obj} {n : String} {vs : Array Value} {Q : Unit → Shared → Prop} (ho : s.heap.get? it = some o) (hc : o.cls = .type n) (hd : o.data = .fields vs)
    (hn : ["enumerate", "zip", "dict_itemiterator", "dict_reverseitemiterator", "odict_iterator", "itertools.zip_longest", "itertools.pairwise"].contains n = false) (hQ : Q () s) : wpAny M A (letOwnedTupleGo tg (.ref it) u) Q E s := by
  unfold letOwnedTupleGo
  cases tg <;> first
    | exact wpAny_pure hQ
    | (cases u <;> first
        | exact wpAny_pure hQ
        | (refine wpAny_bind (wpAny_load ho ?_)
           rw [hc, hd]
           show wpAny M A (if (["enumerate", "zip", "dict_itemiterator", "dict_reverseitemiterator", "odict_iterator", "itertools.zip_longest", "itertools.pairwise"].contains n && vs[0]? == some (rawInt _)) = true then _ else _) Q E s
           rw [if_neg (by intro h; rw [hn, Bool.false_and] at h; cases h)]
           exact wpAny_pure hQ))
def Itl (K : PySem.W.Frag) (a : Addr) : It :=
  ⟨fun i H => ∃ xs x, SqL K H a xs ∧ xs[i]? = some x, fun i H x H' => H' = H ∧ ∀ xs, SqL K H a xs → xs[i]? = some x, fun i H => ∃ xs, SqL K H a xs ∧ xs.length ≤ i⟩
def Itt (K : PySem.W.Frag) (a : Addr) : It :=
  ⟨fun i H => ∃ xs x, SqT K H a xs ∧ xs[i]? = some x, fun i H x H' => H' = H ∧ ∀ xs, SqT K H a xs → xs[i]? = some x, fun i H => ∃ xs, SqT K H a xs ∧ xs.length ≤ i⟩
def Itr (lo : Int) (n : Nat) : It := ⟨fun i _ => i < n, fun i H x H' => H' = H ∧ x = .int (lo + i), fun i _ => n ≤ i⟩
theorem turn_list {P : Program} {w : World} {K : PySem.W.Frag} {tg : Expr} (a it : Addr) : Turn P w K tg (Itl K a) [it] it (fun i h => h.IsListIter it a i) where
  mem := by simp
  obj := fun i h st b hb => by
    have e : b = it := by simpa using hb
    subst e
    obtain ⟨o, e, c, d⟩ := st
    exact ⟨o, e, fun v z => by rw [d] at z; cases z⟩
  keep := fun i h h' st k => st.at fun o e => k it (by simp) o e
  item := by
    intro X hP hw hK hc i pins s σ H E I hf st hg
    subst hP hw hK
    obtain ⟨xs, x, hq, hx⟩ := hg
    obtain ⟨its, rv, p, hz⟩ := I.list hq
    obtain ⟨u, hu, ru⟩ := rv.get hx
    obtain ⟨f0, f1, f2, f3, f4, f5⟩ := hf it (by simp)
    refine wpAny_pyNext_list_item st p.isList (x := u) (by simpa using hu) fun h' st' sb => ?_
    have I1 : Inv X pins σ H { s with heap := h' } := I.turned (t' := s.toks) (fun b o hb e => (sb.2 b hb).trans e) f0 f1 f3 f4 f5
    obtain ⟨o, e, c, d⟩ := id st'
    exact ⟨u, rfl, go_of (s := { s with heap := h' }) e c d (by decide) ⟨x, H, I1, ru, ⟨rfl, fun ys hy => by rw [I.list_inj hy hq]; exact hx⟩, st', fun b hb => (hf b hb).1⟩⟩
  done := by
    intro X hP hw hK hc i pins s σ H E I hf st hg
    subst hP hw hK
    obtain ⟨xs, hq, hx⟩ := hg
    obtain ⟨its, rv, p, hz⟩ := I.list hq
    obtain ⟨f0, f1, f2, f3, f4, f5⟩ := hf it (by simp)
    have hl := rv.length
    exact wpAny_pyNext_list_end (I.ok.hd hc) st p.isList (by simp; omega) fun h' eb => ⟨rfl, I.turned (t' := s.toks) (fun b o hb e => eb b o hb e) f0 f1 f3 f4 f5⟩
  self := fun _ _ _ _ _ st h => wpAny_pyIter_listiter st h
theorem turn_tuple {P : Program} {w : World} {K : PySem.W.Frag} {tg : Expr} (a it : Addr) : Turn P w K tg (Itt K a) [it] it (fun i h => h.IsTupleIter it a i) where
  mem := by simp
  obj := fun i h st b hb => by
    have e : b = it := by simpa using hb
    subst e
    obtain ⟨o, e, c, d⟩ := st
    exact ⟨o, e, fun v z => by rw [d] at z; cases z⟩
  keep := fun i h h' st k => st.at fun o e => k it (by simp) o e
  item := by
    intro X hP hw hK hc i pins s σ H E I hf st hg
    subst hP hw hK
    obtain ⟨xs, x, hq, hx⟩ := hg
    obtain ⟨its, rv, p, hz⟩ := I.tuple hq
    obtain ⟨u, hu, ru⟩ := rv.get hx
    obtain ⟨f0, f1, f2, f3, f4, f5⟩ := hf it (by simp)
    refine wpAny_pyNext_tuple_item st (show s.heap.IsTuple a its.toArray from p) (x := u) (by simpa using hu) fun h' st' sb => ?_
    have I1 : Inv X pins σ H { s with heap := h' } := I.turned (t' := s.toks) (fun b o hb e => (sb.2 b hb).trans e) f0 f1 f3 f4 f5
    obtain ⟨o, e, c, d⟩ := id st'
    exact ⟨u, rfl, go_of (s := { s with heap := h' }) e c d (by decide) ⟨x, H, I1, ru, ⟨rfl, fun ys hy => by rw [I.tuple_inj hy hq]; exact hx⟩, st', fun b hb => (hf b hb).1⟩⟩
  done := by
    intro X hP hw hK hc i pins s σ H E I hf st hg
    subst hP hw hK
    obtain ⟨xs, hq, hx⟩ := hg
    obtain ⟨its, rv, p, hz⟩ := I.tuple hq
    obtain ⟨f0, f1, f2, f3, f4, f5⟩ := hf it (by simp)
    have hl := rv.length
    exact wpAny_pyNext_tuple_end (I.ok.hd hc) st (show s.heap.IsTuple a its.toArray from p) (by simp; omega) fun h' eb => ⟨rfl, I.turned (t' := s.toks) (fun b o hb e => eb b o hb e) f0 f1 f3 f4 f5⟩
  self := fun _ _ _ _ _ st h => wpAny_pyIter_tupleiter st h
theorem turn_range {P : Program} {w : World} {K : PySem.W.Frag} {tg : Expr} (it : Addr) (lo : Int) (n : Nat) : Turn P w K tg (Itr lo n) [it] it (fun i h => IsRangeIter h it (lo + (i : Nat) * 1) ((n : Int) - (i : Nat)) 1) where
  mem := by simp
  obj := fun i h st b hb => by
    have e : b = it := by simpa using hb
    subst e
    exact ⟨_, st, fun v z => by
      have z' : Data.fields _ = Data.cell v := z
      cases z'⟩
  keep := fun i h h' st k => k it (by simp) _ st
  item := by
    intro X hP hw hK hc i pins s σ H E I hf st hg
    subst hP hw hK
    obtain ⟨f0, f1, f2, f3, f4, f5⟩ := hf it (by simp)
    have W := Walks.range (prog := X.prog) (w := X.w) (I.ok.hd hc) it lo 1 n
    refine W.item i s _ _ hg st fun v h' tk hv st' kk => ?_
    obtain ⟨t, rfl⟩ := hv
    have I1 : Inv X pins σ H { s with heap := h', toks := tk } := I.turned (fun b o hb e => kk b o (by simpa using hb) e) f0 f1 f3 f4 f5
    refine ⟨_, rfl, go_of (s := { s with heap := h', toks := tk }) (n := "range_iterator") st' rfl rfl (by decide) ⟨.int (lo + i), H, I1, ⟨t, ?_⟩, ⟨rfl, rfl⟩, st', fun b hb => (hf b hb).1⟩⟩
    rw [Int.mul_one]
  done := by
    intro X hP hw hK hc i pins s σ H E I hf st hg
    subst hP hw hK
    obtain ⟨f0, f1, f2, f3, f4, f5⟩ := hf it (by simp)
    exact wpAny_pyNext_range_end (I.ok.hd hc) st (by have : n ≤ i := hg; omega) fun h' eb => ⟨rfl, I.turned (t' := s.toks) (fun b o hb e => eb b o hb e) f0 f1 f3 f4 f5⟩
  self := fun _ _ _ _ _ st h => wpAny_pyIter_rangeiter st h
end L2
namespace L2
open PySem PySem.Spec PyProof.Rows
section
variable {X : Cx} {tg : Expr}
def iList (K : PySem.W.Frag) (tl : TE) : TI := fun σ H R => tl σ H fun x H1 => ∃ a, x = .ref a ∧ (∃ xs, SqL K H1 a xs) ∧ R (Itl K a) H1
def iTup (K : PySem.W.Frag) (tl : TE) : TI := fun σ H R => tl σ H fun x H1 => ∃ a, x = .ref a ∧ (∃ xs, SqT K H1 a xs) ∧ R (Itt K a) H1
theorem pi_list {l : Expr} {tl : TE} (hl : PE X l tl) : PI X tg l (iList X.K tl) := by
  intro pins s σ H R I h
  refine thn (hl pins s σ H _ I h) fun v s1 ⟨x, H1, I1, r1, q1⟩ => ?_
  obtain ⟨a, e, ⟨xs, hq⟩, q⟩ := q1
  subst e
  cases r1
  obtain ⟨its, rv, p, hz⟩ := I1.list hq
  refine wpAny_pyIter_list p.isList ?_
  refine ⟨s1.heap.objs.size, [s1.heap.objs.size], _, _, H1, rfl, I1.kept (t' := s1.toks) fun b o e => Heap.get?_push_of_some _ e, turn_list a _, ⟨_, Heap.get?_push_size _ rfl, rfl, rfl⟩, fun b hb => ?_, q⟩
  have e : b = s1.heap.objs.size := by simpa using hb
  subst e
  exact I1.fpOk (Nat.le_refl _) (I1.hok.fresh (Nat.le_refl _))
theorem pi_tup {l : Expr} {tl : TE} (hl : PE X l tl) : PI X tg l (iTup X.K tl) := by
  intro pins s σ H R I h
  refine thn (hl pins s σ H _ I h) fun v s1 ⟨x, H1, I1, r1, q1⟩ => ?_
  obtain ⟨a, e, ⟨xs, hq⟩, q⟩ := q1
  subst e
  cases r1
  obtain ⟨its, rv, p, hz⟩ := I1.tuple hq
  refine wpAny_pyIter_tuple (show s1.heap.IsTuple a its.toArray from p) ?_
  refine ⟨s1.heap.objs.size, [s1.heap.objs.size], _, _, H1, rfl, I1.kept (t' := s1.toks) fun b o e => Heap.get?_push_of_some _ e, turn_tuple a _, ⟨_, Heap.get?_push_size _ rfl, rfl, rfl⟩, fun b hb => ?_, q⟩
  have e : b = s1.heap.objs.size := by simpa using hb
  subst e
  exact I1.fpOk (Nat.le_refl _) (I1.hok.fresh (Nat.le_refl _))
theorem range_it {pins : List (Addr × Obj)} {σ : St} {H : Hp} {s : Shared} {R : It → Hp → Prop} {E : Value → Shared → Prop} {lo hi : Int} {t u v : Tok} {tk : Nat} (I : Inv X pins σ H s) (h1 : -(2 ^ 62) ≤ lo) (h2 : lo < 2 ^ 62) (h3 : -(2 ^ 62) ≤ hi) (h4 : hi < 2 ^ 62)
    (q : R (Itr lo (hi - lo).toNat) H) : wpAny (model X.prog X.w) X.A (pyIter (.ref s.heap.objs.size)) (PIE X pins σ tg R) E { s with heap := s.heap.push { cls := .type "range", data := .fields #[.int lo t, .int hi u, .int 1 v] }, toks := tk } := by
  refine wpAny_pyIter_range (IsRange.new ..) (small_one h1 h2 h3 h4) ?_
  have I1 : Inv X pins σ H { s with heap := s.heap.push { cls := .type "range", data := .fields #[.int lo t, .int hi u, .int 1 v] }, toks := tk } := I.kept fun b o e => Heap.get?_push_of_some _ e
  refine ⟨(s.heap.push { cls := .type "range", data := .fields #[.int lo t, .int hi u, .int 1 v] }).objs.size, [(s.heap.push { cls := .type "range", data := .fields #[.int lo t, .int hi u, .int 1 v] }).objs.size], _, _, H, rfl,
    I1.kept (t' := tk) fun b o e => Heap.get?_push_of_some _ e, turn_range _ lo (hi - lo).toNat, ?_, fun b hb => ?_, q⟩
  · have e1 : lo + ((0 : Nat) : Int) * 1 = lo := by simp
    have e2 : (((hi - lo).toNat : Nat) : Int) - ((0 : Nat) : Int) = Builtin.Range.rangeSize lo hi 1 := by rw [rangeSize_one]; split <;> omega
    show IsRangeIter _ _ (lo + ((0 : Nat) : Int) * 1) ((((hi - lo).toNat : Nat) : Int) - ((0 : Nat) : Int)) 1
    rw [e1, e2]
    exact Heap.get?_push_size _ rfl
  · have e : b = (s.heap.push { cls := .type "range", data := .fields #[.int lo t, .int hi u, .int 1 v] }).objs.size := by simpa using hb
    subst e
    exact I1.fpOk (Nat.le_refl _) (I1.hok.fresh (Nat.le_refl _))
def iRng1 (ta : TA) : TI := fun σ H R => ta σ H fun vs H1 => ∃ j : Int, vs = [.int j] ∧ -(2 ^ 62) ≤ j ∧ j < 2 ^ 62 ∧ R (Itr 0 j.toNat) H1
theorem pi_range1 {a : Expr} {ta : TA} {p pos : Pos} (hg : Gl X "range") (hm : X.mg "range" = none) (ha : PA X [a] ta) (hs : starEach [a] X.env = [(false, eval a X.env)] := by rfl) : PI X tg (.Call (.Name "range" p) [a] [] pos) (iRng1 ta) := by
  intro pins s σ H R I h
  refine Call_ (ld_blt I hg hm boot_range (PyProof.Rows.callWith_type1 (thn (ha pos pins s σ H _ I h) fun us s1 ⟨vs, H1, I1, r1, q1⟩ => ?_) hs rfl))
  obtain ⟨j, e, q1, q2, q⟩ := q1
  subst e
  cases r1 with
  | cons r rr =>
    cases rr
    obtain ⟨t, rfl⟩ := r
    exact call_range_1 (range_it I1 (by omega) (by omega) q1 q2 (by simpa using q))
def tFor (wi : TI) (g : TG) (tb : TS) : TS := fun D σ H => wi σ H fun J H1 => ∃ W : Nat → Nat → St → Hp → Prop, (∃ m, W 0 m σ H1) ∧ ∀ i m σ H, W i m σ H →
  (J.stop i H ∧ D.nx σ H) ∨ (J.go i H ∧ ∃ N : St → Hp → Prop, (∀ σ' H', N σ' H' → ∃ m', m' < m ∧ W (i + 1) m' σ' H') ∧ ∀ x H', J.yld i H x H' → g x σ H' fun σ2 H2 => tb { D with nx := N, ct := N, bk := D.nx } σ2 H2)
def pinsAt (fp : List Addr) (h : Heap) : List (Addr × Obj) := fp.filterMap fun b => (h.get? b).map fun o => (b, o)
theorem mem_pinsAt {fp : List Addr} {h : Heap} {b : Addr} {o : Obj} (hb : b ∈ fp) (e : h.get? b = some o) : (b, o) ∈ pinsAt fp h := List.mem_filterMap.mpr ⟨b, hb, by rw [e]; rfl⟩
theorem of_pinsAt {fp : List Addr} {h : Heap} {p : Addr × Obj} (hp : p ∈ pinsAt fp h) : p.1 ∈ fp ∧ h.get? p.1 = some p.2 := by
  obtain ⟨b, hb, e⟩ := List.mem_filterMap.mp hp
  cases q : h.get? b with
  | none => rw [q] at e; cases e
  | some o =>
    rw [q] at e
    have e' : (b, o) = p := Option.some.inj e
    subst e'
    exact ⟨hb, q⟩
theorem Inv.pinned {pins : List (Addr × Obj)} {σ : St} {H : Hp} {s : Shared} {fp : List Addr} (I : Inv X pins σ H s) (hf : ∀ b ∈ fp, FpOk X pins H b) (ho : ∀ b ∈ fp, ∃ o, s.heap.get? b = some o ∧ ∀ v, o.data ≠ .cell v) : Inv X (pins ++ pinsAt fp s.heap) σ H s :=
  I.pins_of fun p hp => (List.mem_append.mp hp).elim (fun z => I.pin p (List.mem_append_right _ z)) fun z => by
    obtain ⟨hb, e⟩ := of_pinsAt z
    obtain ⟨f0, f1, f2, _⟩ := hf p.1 hb
    obtain ⟨o, e', d⟩ := ho p.1 hb
    rw [e] at e'; cases e'
    exact ⟨e, f0, f1, f2, d⟩
theorem Inv.unpinned {pins pl : List (Addr × Obj)} {σ : St} {H : Hp} {s : Shared} (I : Inv X (pins ++ pl) σ H s) : Inv X pins σ H s := I.pins_of fun p hp => I.pin p (List.mem_append_right _ (List.mem_append_left _ hp))
theorem ps_for {iter : Expr} {body : List Stmt} {wi : TI} {g : TG} {tb : TS} {pos : Pos} (hp : PassesOwn (model X.prog X.w) X.A X.env X.xe) (hc : X.calm = true) (hi : PI X tg iter wi) (hg : PG X tg g) (hb : PSs X body tb)
    (hs : ∀ x, foldedSetIterable iter X.env x = pure x := by intro _; rfl) : PS X (.For tg iter body [] pos) (tFor wi g tb) := by
  intro pins s σ H D I h
  refine wpAny_For (thn (hi pins s σ H _ I h) fun v s1 h1 => thn h1 fun itv s2 h2 => ?_) hs
  obtain ⟨it, fp, tn, J, H2, e, I2, T, st2, f2, W, ⟨m0, w0⟩, turn⟩ := h2
  subst e
  -- what stays true of the iterator's objects through the loop
  have stat : ∀ {H' : Hp}, (∀ b ∈ fp, H' b = none) → ∀ b ∈ fp, FpOk X pins H' b := fun hn b hb => ⟨hn b hb, (f2 b hb).2⟩
  refine codeAny_forLoop_any (fun n s' => ∃ i σ' H', Inv X pins σ' H' s' ∧ tn i s'.heap ∧ (∀ b ∈ fp, H' b = none) ∧ W i n σ' H') ?_ m0 ⟨0, σ, H2, I2, st2, fun b hb => (f2 b hb).1, w0⟩
  rintro n s3 ⟨i, σ3, H3, I3, st3, fr3, w3⟩
  rcases turn i n σ3 H3 w3 with ⟨stop, qn⟩ | ⟨go, N, hN, step⟩
  · refine wpAny_passesOwn hp (thn (T.done X rfl rfl rfl hc i pins s3 σ3 H3 X.xe I3 (stat fr3) st3 stop) fun r s4 ⟨hr, I4⟩ => ?_)
    subst hr
    exact wpAny_execs_nil ⟨σ3, H3, I4, qn⟩
  · refine wpAny_passesOwn hp (thn (T.item X rfl rfl rfl hc i pins s3 σ3 H3 X.xe I3 (stat fr3) st3 go) fun r s4 ⟨u, hr, h4⟩ => ?_)
    subst hr
    refine wpAny_passesOwn hp (thn h4 fun _ s5 ⟨x, H5, I5, r5, y5, st5, fr5⟩ => ?_)
    have I5' := I5.pinned (stat fr5) (T.obj _ _ st5)
    refine wpAny_passesOwn hp (thn (hg _ s5 σ3 H5 x u _ I5' r5 (step x H5 y5)) fun _ s6 ⟨σ6, H6, I6, q6⟩ => ?_)
    refine wpAny_passesOwn hp (thn (hb _ s6 σ6 H6 _ I6 q6) fun f s7 q7 => ?_)
    have again : ∀ {σ7 : St} {H7 : Hp}, Inv X (pins ++ pinsAt fp s5.heap) σ7 H7 s7 → N σ7 H7 → ∃ m, m < n ∧ ∃ i σ' H', Inv X pins σ' H' s7 ∧ tn i s7.heap ∧ (∀ b ∈ fp, H' b = none) ∧ W i m σ' H' := fun {σ7 H7} I7 n7 => by
      obtain ⟨m', hm, w7⟩ := hN σ7 H7 n7
      refine ⟨m', hm, i + 1, σ7, H7, I7.unpinned, T.keep _ _ _ st5 fun b hb o e => (I7.pin (b, o) (List.mem_append_right _ (List.mem_append_right _ (mem_pinsAt hb e)))).1, fun b hb => ?_, w7⟩
      obtain ⟨o, e, d⟩ := T.obj _ _ st5 b hb
      exact (I7.pin (b, o) (List.mem_append_right _ (List.mem_append_right _ (mem_pinsAt hb e)))).2.1
    cases f with
    | next => obtain ⟨σ7, H7, I7, n7⟩ := q7; exact again I7 n7
    | cont => obtain ⟨σ7, H7, I7, n7⟩ := q7; exact again I7 n7
    | brk => obtain ⟨σ7, H7, I7, q7⟩ := q7; exact ⟨σ7, H7, I7.unpinned, q7⟩
    | ret v => obtain ⟨x7, σ7, H7, I7, r7, q7⟩ := q7; exact ⟨x7, σ7, H7, I7.unpinned, r7, q7⟩
end
end L2
namespace L2
open PySem PySem.Spec PyProof.Rows
abbrev R2 := V → V → Hp → VK → Prop
def OpR (X : Cx) (f : Value → Value → Sem Value) (r : R2) : Prop :=
  ∀ (pins : List (Addr × Obj)) (s : Shared) (σ : St) (H : Hp) (x y : V) (v u : Value) (Q : VK), Inv X pins σ H s → RelV x v → RelV y u → r x y H Q →
    wpAny (model X.prog X.w) X.A (f v u) (EP X pins σ Q) X.xe s
def UnR (X : Cx) (f : Value → Sem Value) (r : V → Hp → VK → Prop) : Prop :=
  ∀ (pins : List (Addr × Obj)) (s : Shared) (σ : St) (H : Hp) (x : V) (v : Value) (Q : VK), Inv X pins σ H s → RelV x v → r x H Q →
    wpAny (model X.prog X.w) X.A (f v) (EP X pins σ Q) X.xe s
def CallR (X : Cx) (f : Value) (r : List V → Hp → VK → Prop) : Prop :=
  ∀ (pins : List (Addr × Obj)) (s : Shared) (σ : St) (H : Hp) (xs : List V) (us : List Value) (Q : VK), Inv X pins σ H s → Vals xs us → r xs H Q →
    wpAny (model X.prog X.w) X.A (call f us) (EP X pins σ Q) X.xe s
def TruR (X : Cx) (r : V → Hp → (Bool → Hp → Prop) → Prop) : Prop :=
  ∀ (pins : List (Addr × Obj)) (s : Shared) (σ : St) (H : Hp) (x : V) (v : Value) (Q : Bool → Hp → Prop), Inv X pins σ H s → RelV x v → r x H Q →
    wpAny (model X.prog X.w) X.A (truthy v) (TP X pins σ Q) X.xe s
def tOp (r : R2) (ta tb : TE) : TE := fun σ H Q => ta σ H fun x H1 => tb σ H1 fun y H2 => r x y H2 Q
def tUn (r : V → Hp → VK → Prop) (ta : TE) : TE := fun σ H Q => ta σ H fun x H1 => r x H1 Q
def rI (C : Int → Int → Prop) (g : Int → Int → V) : R2 := fun x y H Q => ∃ i j, x = .int i ∧ y = .int j ∧ C i j ∧ Q (g i j) H
def rI0 (g : Int → Int → V) : R2 := fun x y H Q => ∃ i j, x = .int i ∧ y = .int j ∧ Q (g i j) H
def rU (g : Int → V) : V → Hp → VK → Prop := fun x H Q => ∃ i, x = .int i ∧ Q (g i) H
section
variable {X : Cx} {a b c : Expr} {ta tb tc : TE} {pos : Pos}
theorem binT (ha : PE X a ta) (hb : PE X b tb) {pins : List (Addr × Obj)} {s : Shared} {σ : St} {H : Hp} {R : V → V → Hp → Prop} (I : Inv X pins σ H s)
    (h : ta σ H fun x H1 => tb σ H1 fun y H2 => R x y H2) {Q : Value → Shared → Prop} {f : Value → Value → Sem Value}
    (hf : ∀ v u s2 x y H2, Inv X pins σ H2 s2 → RelV x v → RelV y u → R x y H2 → wpAny (model X.prog X.w) X.A (f v u) Q X.xe s2) :
    wpAny (model X.prog X.w) X.A (eval a X.env) (fun v s₁ => wpAny (model X.prog X.w) X.A (eval b X.env) (fun u s₂ => wpAny (model X.prog X.w) X.A (f v u) Q X.xe s₂) X.xe s₁) X.xe s := by
  refine thn (ha pins s σ H _ I h) fun v s1 ⟨x, H1, I1, r1, q1⟩ => ?_
  refine thn (hb pins s1 σ H1 _ I1 q1) fun u s2 ⟨y, H2, I2, r2, q2⟩ => ?_
  exact hf v u s2 x y H2 I2 r1 r2 q2
theorem pe_op {op : Operator} {r : R2} (ho : OpR X (binaryOp op) r) (ha : PE X a ta) (hb : PE X b tb) : PE X (.BinOp a op b pos) (tOp r ta tb) := by
  intro pins s σ H Q I h
  exact wpAny_BinOp (binT ha hb I h fun v u s2 x y H2 I2 rx ry q => ho pins s2 σ H2 x y v u Q I2 rx ry q)
theorem pe_un {op : UnaryOp} {r : V → Hp → VK → Prop} (ho : UnR X (unaryOp op) r) (ha : PE X a ta) : PE X (.UnaryOp op a pos) (tUn r ta) := by
  intro pins s σ H Q I h
  exact UnaryOp_ (thn (ha pins s σ H _ I h) fun v s1 ⟨x, H1, I1, r1, q1⟩ => ho pins s1 σ H1 x v Q I1 r1 q1)
theorem opI {f : Value → Value → Sem Value} {C : Int → Int → Prop} {g : Int → Int → Int}
    (rule : ∀ (i j : Int) (t u : Tok) (s : Shared) (Q : Value → Shared → Prop) (E : Value → Shared → Prop), C i j → Q (.int (g i j) s.toks) { s with toks := s.toks + 1 } → wpAny (model X.prog X.w) X.A (f (.int i t) (.int j u)) Q E s) :
    OpR X f (rI C fun i j => .int (g i j)) := by
  intro pins s σ H x y v u Q I rx ry h
  obtain ⟨i, j, rfl, rfl, hc, q⟩ := h
  obtain ⟨t, rfl⟩ := rx
  obtain ⟨t', rfl⟩ := ry
  exact rule i j t t' s _ _ hc ⟨.int (g i j), H, I.tok _, ⟨_, rfl⟩, q⟩
theorem opI0 {f : Value → Value → Sem Value} {g : Int → Int → Int}
    (rule : ∀ (i j : Int) (t u : Tok) (s : Shared) (Q : Value → Shared → Prop) (E : Value → Shared → Prop), Q (.int (g i j) s.toks) { s with toks := s.toks + 1 } → wpAny (model X.prog X.w) X.A (f (.int i t) (.int j u)) Q E s) :
    OpR X f (rI0 fun i j => .int (g i j)) := by
  intro pins s σ H x y v u Q I rx ry h
  obtain ⟨i, j, rfl, rfl, q⟩ := h
  obtain ⟨t, rfl⟩ := rx
  obtain ⟨t', rfl⟩ := ry
  exact rule i j t t' s _ _ ⟨.int (g i j), H, I.tok _, ⟨_, rfl⟩, q⟩
theorem opB0 {f : Value → Value → Sem Value} {g : Int → Int → Bool}
    (rule : ∀ (i j : Int) (t u : Tok) (s : Shared) (Q : Value → Shared → Prop) (E : Value → Shared → Prop), Q (.bool (g i j)) s → wpAny (model X.prog X.w) X.A (f (.int i t) (.int j u)) Q E s) :
    OpR X f (rI0 fun i j => .bl (g i j)) := by
  intro pins s σ H x y v u Q I rx ry h
  obtain ⟨i, j, rfl, rfl, q⟩ := h
  obtain ⟨t, rfl⟩ := rx
  obtain ⟨t', rfl⟩ := ry
  exact rule i j t t' s _ _ ⟨.bl (g i j), H, I, rfl, q⟩
def CMul (i j : Int) : Prop := (-(2 ^ 64) < i ∧ i < 2 ^ 64) ∨ (-(2 ^ 64) < j ∧ j < 2 ^ 64)
theorem CMul.ok {i j : Int} (h : CMul i j) : IntMulOk i j := by
  rcases h with ⟨h1, h2⟩ | ⟨h1, h2⟩
  · exact .of_left (intBits_le_64 h1 h2)
  · exact .of_right (intBits_le_64 h1 h2)
theorem op_add : OpR X (binaryOp .Add) (rI0 fun i j => .int (i + j)) := opI0 fun _ _ _ _ _ _ _ q => add_int q
theorem op_mul : OpR X (binaryOp .Mult) (rI CMul fun i j => .int (i * j)) := opI fun _ _ _ _ _ _ _ hc q => mul_int q hc.ok
theorem op_mod : OpR X (binaryOp .Mod) (rI (fun _ j => 0 < j) fun i j => .int (i % j)) := opI fun i j _ _ _ _ _ hc q => by
  have h1 : (0 : Int) < j := hc
  exact mod_int' (by omega) (by rw [Int.fmod_eq_emod_of_nonneg i (by omega)]; exact q)
theorem unI {f : Value → Sem Value} {g : Int → Int}
    (rule : ∀ (i : Int) (t : Tok) (s : Shared) (Q : Value → Shared → Prop) (E : Value → Shared → Prop), Q (.int (g i) s.toks) { s with toks := s.toks + 1 } → wpAny (model X.prog X.w) X.A (f (.int i t)) Q E s) :
    UnR X f (rU fun i => .int (g i)) := by
  intro pins s σ H x v Q I rx h
  obtain ⟨i, rfl, q⟩ := h
  obtain ⟨t, rfl⟩ := rx
  exact rule i t s _ _ ⟨.int (g i), H, I.tok _, ⟨_, rfl⟩, q⟩
theorem un_neg : UnR X (unaryOp .USub) (rU fun i => .int (-i)) := unI fun _ _ _ _ _ q => neg_int q
end
section
variable {X : Cx} {a b c : Expr} {ta tb tc : TE} {pos : Pos}
theorem fin_bl {pins : List (Addr × Obj)} {σ : St} {H : Hp} {s : Shared} {Q : VK} {k k' : Bool} (I : Inv X pins σ H s) (q : Q (.bl k) H) (e : k = k') : EP X pins σ Q (.bool k') s := by
  subst e
  exact ⟨.bl k, H, I, rfl, q⟩
theorem op_lt : OpR X (compareOp .Lt) (rI0 fun i j => .bl (decide (i < j))) := opB0 fun _ _ _ _ _ _ _ q => lt_int q
theorem op_le : OpR X (compareOp .LtE) (rI0 fun i j => .bl (decide (i ≤ j))) := opB0 fun _ _ _ _ _ _ _ q => le_int q
theorem op_gt : OpR X (compareOp .Gt) (rI0 fun i j => .bl (decide (j < i))) := opB0 fun _ _ _ _ _ _ _ q => gt_int q
theorem op_ge : OpR X (compareOp .GtE) (rI0 fun i j => .bl (decide (j ≤ i))) := opB0 fun _ _ _ _ _ _ _ q => ge_int q
theorem op_in_str : OpR X (compareOp .In) (fun x y H Q => ∃ i j, x = .str i ∧ y = .str j ∧ Q (.bl (!(Builtin.Str.occurrences j i 0 j.length 1).isEmpty)) H) := by
  intro pins s σ H x y v u Q I rx ry h
  obtain ⟨i, j, rfl, rfl, q⟩ := h
  obtain ⟨t, rfl⟩ := rx
  obtain ⟨t', rfl⟩ := ry
  exact in_str (fin_bl I q rfl)
theorem op_isN : OpR X (compareOp .Is) (fun x y H Q => y = .non ∧ Q (.bl (decide (x = .non))) H) := by
  intro pins s σ H x y v u Q I rx ry h
  obtain ⟨rfl, q⟩ := h
  cases ry
  refine is_none_gen (fin_bl I q ?_)
  cases x <;> first
    | (cases rx; rfl)
    | (obtain ⟨t, rfl⟩ := rx; rfl)
theorem op_notin_str : OpR X (compareOp .NotIn) (fun x y H Q => ∃ i j, x = .str i ∧ y = .str j ∧ Q (.bl (!(!(Builtin.Str.occurrences j i 0 j.length 1).isEmpty))) H) := by
  intro pins s σ H x y v u Q I rx ry h
  obtain ⟨i, j, rfl, rfl, q⟩ := h
  obtain ⟨t, rfl⟩ := rx
  obtain ⟨t', rfl⟩ := ry
  exact notIn_str (fin_bl I q rfl)
theorem pe_cmpR {op : CmpOp} {r : R2} (ho : OpR X (compareOp op) r) (ha : PE X a ta) (hb : PE X b tb) (hm : behindInMarks op b = false) : PE X (.Compare a [op] [b] pos) (tOp r ta tb) := by
  intro pins s σ H Q I h
  exact wpAny_Compare1 (binT ha hb I h fun v u s2 x y H2 I2 rx ry q => ho pins s2 σ H2 x y v u Q I2 rx ry q) hm
def tTest (t : TE) : TT := fun σ H Q => t σ H fun x H' => ∃ k, x = .bl k ∧ Q k H'
theorem pt_cmpR {op : CmpOp} {r : R2} (ho : OpR X (compareOp op) r) (ha : PE X a ta) (hb : PE X b tb) (hm : behindInMarks op b = false) : PT X (.Compare a [op] [b] pos) (tTest (tOp r ta tb)) := by
  intro pins s σ H Q I h
  refine wpAny_isTrue_Compare1 (thn (ha pins s σ H _ I h) fun v s1 ⟨x, H1, I1, r1, q1⟩ => thn (hb pins s1 σ H1 _ I1 q1) fun u s2 ⟨y, H2, I2, r2, q2⟩ =>
    thn (ho pins s2 σ H2 x y v u _ I2 r1 r2 q2) fun c s3 ⟨z, H3, I3, r3, k, e, q3⟩ => ?_) hm
  subst e
  cases r3
  exact wpAny_truthy_bool ⟨H3, I3, q3⟩
def tChain (r r' : R2) (ta tb tc : TE) : TE := fun σ H Q => ta σ H fun x H1 => tb σ H1 fun y H2 => r x y H2 fun z H3 => ∃ k, z = .bl k ∧
  (if k = true then tc σ H3 fun w' H4 => r' y w' H4 Q else Q (.bl false) H3)
theorem pt_chain {op op' : CmpOp} {r r' : R2} (ho : OpR X (compareOp op) r) (ho' : OpR X (compareOp op') r') (ha : PE X a ta) (hb : PE X b tb) (hc : PE X c tc)
    (hm : lastMarks [op, op'] [b, c] = false := by with_unfolding_all rfl) : PT X (.Compare a [op, op'] [b, c] pos) (tTest (tChain r r' ta tb tc)) := by
  intro pins s σ H Q I h
  refine isTrue_chain (thn (ha pins s σ H _ I h) fun v s1 ⟨x, H1, I1, r1, q1⟩ => test_link (thn (hb pins s1 σ H1 _ I1 q1) fun u s2 ⟨y, H2, I2, r2, q2⟩ =>
    thn (ho pins s2 σ H2 x y v u _ I2 r1 r2 q2) fun d s3 ⟨z, H3, I3, r3, k, e, q3⟩ => ?_)) hm
  subst e
  cases r3
  refine wpAny_truthy_bool ?_
  cases k with
  | false =>
    obtain ⟨k', e', q'⟩ := q3
    cases e'
    exact ite_ff ⟨H3, I3, q'⟩
  | true =>
    refine ite_tt (test_last (thn (hc pins s3 σ H3 _ I3 q3) fun w' s4 ⟨z', H4, I4, r4, q4⟩ => thn (ho' pins s4 σ H4 y z' u w' _ I4 r2 r4 q4) fun d' s5 ⟨z2, H5, I5, r5, k2, e2, q5⟩ => ?_))
    subst e2
    cases r5
    exact wpAny_truthy_bool ⟨H5, I5, q5⟩
def TruV (K : PySem.W.Frag) (x : V) (H : Hp) (k : Bool) : Prop :=
  match x with
  | .non => k = false
  | .bl b => k = b
  | .int i => k = (i != 0)
  | .str y => y.length ≤ sizeLine ∧ k = ((y.length : Int) != 0)
  | .byt y => y.size ≤ sizeLine ∧ k = ((y.size : Int) != 0)
  | .ref p => (∃ xs, SqL K H p xs ∧ k = !xs.isEmpty) ∨ (∃ xs, SqT K H p xs ∧ k = !xs.isEmpty) ∨ ∃ kvs, H p = some (.dK kvs) ∧ k = !kvs.isEmpty
  | _ => False
theorem isEmpty_kv {κ : Type} {kvs : List (κ × V)} {vs : List (κ × Value)} (r : KV kvs vs) : (!vs.isEmpty) = !kvs.isEmpty := by
  cases r <;> rfl
theorem isEmpty_of {xs : List V} {its : List Value} (r : Vals xs its) : (!its.toArray.isEmpty) = !xs.isEmpty := by
  cases r <;> simp
theorem line63 : (sizeLine : Nat) < 2 ^ 63 := by rw [sizeLine_eq]; decide
theorem tru_ok : TruR X (fun x H Q => ∃ k, TruV X.K x H k ∧ Q k H) := by
  intro pins s σ H x v Q I rx h
  obtain ⟨k, e, q⟩ := h
  have hl := line63
  have hs : sizeLine = 16777216 := sizeLine_eq
  cases x with
  | non =>
    cases rx
    have e' : k = false := e
    subst e'
    exact truthy_none ⟨H, I, q⟩
  | bl b =>
    cases rx
    have e' : k = b := e
    subst e'
    exact wpAny_truthy_bool ⟨H, I, q⟩
  | int i =>
    obtain ⟨t, rfl⟩ := rx
    have e' : k = (i != 0) := e
    subst e'
    exact PySem.P.truthy_int ⟨H, I, q⟩
  | str y =>
    obtain ⟨t, rfl⟩ := rx
    obtain ⟨hy, e'⟩ : y.length ≤ sizeLine ∧ k = ((y.length : Int) != 0) := e
    subst e'
    exact PySem.P.truthy_str (by omega) ⟨H, I.tok _, q⟩
  | byt y =>
    obtain ⟨t, rfl⟩ := rx
    obtain ⟨hy, e'⟩ : y.size ≤ sizeLine ∧ k = ((y.size : Int) != 0) := e
    subst e'
    exact PySem.W.truthy_bytes (by omega) ⟨H, I.tok _, q⟩
  | ref p =>
    cases rx
    have e' : (∃ xs, SqL X.K H p xs ∧ k = !xs.isEmpty) ∨ (∃ xs, SqT X.K H p xs ∧ k = !xs.isEmpty) ∨ ∃ kvs, H p = some (.dK kvs) ∧ k = !kvs.isEmpty := e
    rcases e' with ⟨xs, hx, e'⟩ | ⟨xs, hx, e'⟩ | ⟨kvs, hx, e'⟩
    · subst e'
      obtain ⟨its, r, pl, hz⟩ := I.list hx
      have hlen := r.length
      exact wpAny_truthy_list pl.isList (by simp only [List.size_toArray]; omega) ⟨H, I.tok _, by rw [isEmpty_of r]; exact q⟩
    · subst e'
      obtain ⟨its, r, pl, hz⟩ := I.tuple hx
      have hlen := r.length
      exact truthy_tuple pl (by simp only [List.size_toArray]; omega) ⟨H, I.tok _, by rw [isEmpty_of r]; exact q⟩
    · subst e'
      obtain ⟨hz, hS, vs, r, m⟩ : kvs.length ≤ sizeLine ∧ (p == sysModules) = false ∧ ∃ vs, KV kvs vs ∧ s.heap.DictOf (mixKind X.prog X.w) p vs := I.hok p _ hx
      have hlen : kvs.length = vs.length := Paired.length r
      exact wpAny_truthy_dict hS m (by omega) ⟨H, I.tok _, by rw [isEmpty_kv r]; exact q⟩
  | _ => exact (show False from e).elim
theorem pt_truth (ha : PE X a ta) (he : ∀ whole, isTrue a X.env whole = (do let v ← whole; standAt a.pos; holding [v] (truthy v))) :
    PT X a (fun σ H Q => ta σ H fun x H' => ∃ k, TruV X.K x H' k ∧ Q k H') := by
  intro pins s σ H Q I h
  exact isTrue_plain (thn (ha pins s σ H _ I h) fun v s1 ⟨x, H1, I1, r1, q1⟩ => tru_ok pins s1 σ H1 x v Q I1 r1 q1) (he _)
theorem op_add_str : OpR X (binaryOp .Add) (fun x y H Q => ∃ i j, x = .str i ∧ y = .str j ∧ i.length + j.length ≤ sizeLine ∧ Q (.str (i ++ j)) H) := by
  intro pins s σ H x y v u Q I rx ry h
  obtain ⟨i, j, rfl, rfl, hz, q⟩ := h
  obtain ⟨t, rfl⟩ := rx
  obtain ⟨t', rfl⟩ := ry
  exact add_str (fun t' tk => ⟨.str (i ++ j), H, I.tok _, ⟨_, rfl⟩, q⟩) hz
theorem vals1 {x : V} {us : List Value} (r : Vals [x] us) : ∃ u, us = [u] ∧ RelV x u := by
  cases r with
  | cons r1 r2 => cases r2; exact ⟨_, rfl, r1⟩
theorem vals2 {x y : V} {us : List Value} (r : Vals [x, y] us) : ∃ u w', us = [u, w'] ∧ RelV x u ∧ RelV y w' := by
  cases r with
  | cons r1 r2 =>
    cases r2 with
    | cons r3 r4 => cases r4; exact ⟨_, _, rfl, r1, r3⟩
theorem call_abs : CallR X (.builtin "abs") (fun xs H Q => ∃ i, xs = [.int i] ∧ Q (.int (if i < 0 then -i else i)) H) := by
  intro pins s σ H xs us Q I r h
  obtain ⟨i, rfl, q⟩ := h
  obtain ⟨u, rfl, t, rfl⟩ := vals1 r
  exact call_abs_int fun u tk => ⟨.int (if i < 0 then -i else i), H, I.tok _, ⟨_, rfl⟩, q⟩
theorem call_max2 (hc : X.calm = true) : CallR X (.builtin "max") (fun xs H Q => ∃ i j, xs = [.int i, .int j] ∧ Q (.int (if j > i then j else i)) H) := by
  intro pins s σ H xs us Q I r h
  obtain ⟨i, j, rfl, q⟩ := h
  obtain ⟨u, w', rfl, ⟨t, rfl⟩, ⟨t', rfl⟩⟩ := vals2 r
  refine max_two_ints (I.ok.hd hc) fun h' tk k => ⟨_, H, I.kept k, ?_, q⟩
  by_cases hj : j > i
  · rw [if_pos hj, if_pos hj]; exact ⟨_, rfl⟩
  · rw [if_neg hj, if_neg hj]; exact ⟨_, rfl⟩
theorem call_min2 (hc : X.calm = true) : CallR X (.builtin "min") (fun xs H Q => ∃ i j, xs = [.int i, .int j] ∧ Q (.int (if j < i then j else i)) H) := by
  intro pins s σ H xs us Q I r h
  obtain ⟨i, j, rfl, q⟩ := h
  obtain ⟨u, w', rfl, ⟨t, rfl⟩, ⟨t', rfl⟩⟩ := vals2 r
  refine min_two_ints (I.ok.hd hc) fun h' tk k => ⟨_, H, I.kept k, ?_, q⟩
  by_cases hj : j < i
  · rw [if_pos hj, if_pos hj]; exact ⟨_, rfl⟩
  · rw [if_neg hj, if_neg hj]; exact ⟨_, rfl⟩
theorem call_int1 : CallR X (.type "int") (fun xs H Q => (∃ i, xs = [.int i] ∧ Q (.int i) H) ∨ ∃ k, xs = [.bl k] ∧ Q (.int (if k then 1 else 0)) H) := by
  intro pins s σ H xs us Q I r h
  rcases h with ⟨i, rfl, q⟩ | ⟨k, rfl, q⟩
  · obtain ⟨u, rfl, t, rfl⟩ := vals1 r
    exact call_int_int ⟨.int i, H, I, ⟨_, rfl⟩, q⟩
  · obtain ⟨u, rfl, r1⟩ := vals1 r
    cases r1
    exact call_int_bool ⟨.int (if k then 1 else 0), H, I.tok _, ⟨_, rfl⟩, q⟩
theorem call_str_int : CallR X (.type "str") (fun xs H Q => ∃ i, xs = [.int i] ∧ i.natAbs.log2 < 1920 ∧ Q (.str (toString i)) H) := by
  intro pins s σ H xs us Q I r h
  obtain ⟨i, rfl, hz, q⟩ := h
  obtain ⟨u, rfl, t, rfl⟩ := vals1 r
  exact PySem.P.str_of_int hz ⟨.str _, H, I.tok _, ⟨_, rfl⟩, q⟩
end
end L2
namespace L2
open PySem PySem.Spec PyProof.Rows
theorem RelO.some_of {v : V} {o : Option Value} (r : RelO (some v) o) : ∃ u, o = some u ∧ RelV v u := by
  cases o with
  | none => exact (show False from r).elim
  | some u => exact ⟨u, rfl, r⟩
structure Cls (K : PySem.W.Frag) (C : Addr) : Prop where
  pg : PySem.W.plainGet K C Str.empty = true
  hd : PySem.W.hasDictIn K C = true
  po : PySem.W.plainOver K C = true
  sa : PySem.W.findIn K (.ref C) "__setattr__" = some (some (.builtin "object.__setattr__"))
theorem Cls.get {K : PySem.W.Frag} {C : Addr} (c : Cls K C) (f : Str) : PySem.W.plainGet K C f = true := c.pg
end L2
namespace L2
open PySem PySem.Spec PyProof.Rows
structure Room (k : Nat) (A : Around) : Prop where
  hd : A.handled = none
  dp : A.depth + 3 * k + 5 < recursionLimit
  un : A.units + 16 * k + 200 < cLine
  gd : A.guards = some []
theorem Room.mono {j k : Nat} {A : Around} (r : Room k A) (h : j ≤ k) : Room j A := ⟨r.hd, by have := r.dp; omega, by have := r.un; omega, r.gd⟩
theorem Room.deeper {k : Nat} {A : Around} (r : Room (k + 1) A) (env : Env) : Room k (A.deeper env) :=
  ⟨r.hd, by have := r.dp; show A.depth + 1 + 3 * k + 5 < _; omega, by have := r.un; show A.units + 3 + 16 * k + 200 < _; omega, r.gd⟩
theorem Room.in1 {k : Nat} {A : Around} (r : Room (k + 1) A) : Room k A.in1 :=
  ⟨r.hd, by have := r.dp; show A.depth + 3 * k + 5 < _; omega, by have := r.un; show A.units + 1 + 16 * k + 200 < _; omega, r.gd⟩
theorem Room.depth {k : Nat} {A : Around} (r : Room k A) : A.depth < recursionLimit := by have := r.dp; omega
theorem Room.units {k : Nat} {A : Around} (r : Room k A) : A.units + 64 < cLine := by have := r.un; omega
def tNil : TA := fun _ H Q => Q [] H
def tCons (ta : TE) (tr : TA) : TA := fun σ H Q => ta σ H fun x H1 => tr σ H1 fun xs H2 => Q (x :: xs) H2
section
variable {X : Cx} {e : Expr} {es : List Expr} {te : TE} {t : TA} {pos : Pos}
theorem pa_nil : PA X [] tNil := fun _ _ _ _ H Q I h => Calls.spliced_nil ⟨[], H, I, .nil, h⟩
theorem pa_cons (ha : PE X e te) (hr : PA X es t) (hs : starEach (e :: es) X.env = (false, eval e X.env) :: starEach es X.env := by rfl) : PA X (e :: es) (tCons te t) := by
  intro pos pins s σ H Q I h
  rw [hs]
  show wpAny _ _ (spliced ((false, eval e X.env) :: backTo pos (starEach es X.env))) _ _ s
  refine Calls.spliced_cons (thn (ha pins s σ H _ I h) fun u s1 ⟨x, H1, I1, r1, q1⟩ => ?_)
  exact thn (hr pos pins s1 σ H1 _ I1 q1) fun us s2 ⟨xs, H2, I2, r2, q2⟩ => ⟨x :: xs, H2, I2, .cons r1 r2, q2⟩
def tTup (t : TA) : TE := fun σ H Q => t σ H fun xs H1 => xs.length ≤ sizeLine ∧ ∀ p, H1 p = none → Q (.ref p) (upd H1 p (.tup xs))
def tLst (t : TA) : TE := fun σ H Q => t σ H fun xs H1 => xs.length ≤ sizeLine ∧ ∀ p, H1 p = none → Q (.ref p) (upd H1 p (.lst xs))
theorem pe_tup {x1} (h : PA X es t) : PE X (.Tuple es x1 pos) (tTup t) := by
  intro pins s σ H Q I hq
  refine wpAny_Tuple_spliced (thn (h pos pins s σ H _ I hq) fun us s1 ⟨xs, H1, I1, r, z, q⟩ => ⟨by rw [← r.length]; exact z, ?_⟩)
  have hf : H1 s1.heap.objs.size = none := I1.hok.fresh (Nat.le_refl _)
  refine ⟨.ref s1.heap.objs.size, upd H1 s1.heap.objs.size (.tup xs), I1.laid (t' := s1.toks) (fun b u e => Heap.get?_push_of_some _ e) (Nat.le_refl _) ?_, rfl, q _ hf⟩
  exact ⟨z, us, r, ⟨_, Heap.get?_push_size _ rfl, rfl, rfl, _, rfl⟩⟩
theorem pe_lst (h : PA X es t) : PE X (.List es pos) (tLst t) := by
  intro pins s σ H Q I hq
  refine wpAny_List_spliced (thn (h pos pins s σ H _ I hq) fun us s1 ⟨xs, H1, I1, r, z, q⟩ => ⟨by rw [← r.length]; exact z, ?_⟩)
  have hf : H1 s1.heap.objs.size = none := I1.hok.fresh (Nat.le_refl _)
  refine ⟨.ref s1.heap.objs.size, upd H1 s1.heap.objs.size (.lst xs), I1.laid (t' := s1.toks) (fun b u e => Heap.get?_push_of_some _ e) (Nat.le_refl _) ?_, rfl, q _ hf⟩
  exact ⟨z, us, 0, r, Heap.get?_push_size _ rfl⟩
end
abbrev Sp := List V → Hp → VK → XK → Prop
abbrev CXT := List Env → Hp → Shared → XK → Value → Shared → Prop
structure Env0 (P : Program) (w : World) (K : PySem.W.Frag) (mg : Str → Option Value) (base : Heap) (A : Around) (outer : List Env) (s : Shared) (H : Hp) : Prop where
  frames : A.frames = some outer
  mod : Mod K mg base
  bs : ∀ b o, base.get? b = some o → s.heap.get? b = some o ∧ H b = none
  bsz : base.objs.size ≤ s.heap.objs.size
  funs : s.heap.FunFrames base outer
  frf : ∀ b ∈ frs outer, H b = none
  hok : HOk P w H s.heap
  bare : AllBare s.gens
def CE (outer : List Env) (P : Program) (w : World) (H : Hp) (s : Shared) (Q : VK) (u : Value) (s' : Shared) : Prop :=
  ∃ v H', s'.os = s.os ∧ AllBare s'.gens ∧ Un (frs outer) [] H H' s.heap s'.heap ∧ HOk P w H' s'.heap ∧ RelV v u ∧ Q v H'
def CR (CX : CXT) (outer : List Env) (P : Program) (w : World) (H : Hp) (s : Shared) (Q : VK) (E : XK) (r : Result) (s' : Shared) : Prop :=
  match r with
  | .ok (.ret u) => CE outer P w H s Q u s'
  | .ok _ => False
  | .error e => CX outer H s E e s'
structure FnOk (P : Program) (w : World) (K : PySem.W.Frag) (mg : Str → Option Value) (base : Heap) (CX : CXT) (k : Nat) (f : Addr) (fd : FuncData) (ps : List Str) (sp : Sp) : Prop where
  len : ∀ vs H Q E, sp vs H Q E → vs.length = ps.length
  run : ∀ (A : Around) (outer : List Env) (s : Shared) (H : Hp) (args : Args) (us : List Value) (vs : List V) (Q : VK) (E : XK), Room k A → Env0 P w K mg base A outer s H → BindsTo s fd args (ps.zip us) → Vals vs us → sp vs H Q E →
    codeAny (model P w) A (.call (.ref f) args) (CR CX outer P w H s Q E) s
theorem FnOk.mono {P : Program} {w : World} {K : PySem.W.Frag} {mg : Str → Option Value} {base : Heap} {CX : CXT} {j k : Nat} {f : Addr} {fd : FuncData} {ps : List Str} {sp : Sp} (F : FnOk P w K mg base CX j f fd ps sp) (h : j ≤ k) :
    FnOk P w K mg base CX k f fd ps sp := ⟨F.len, fun A outer s H args us vs Q E hr => F.run A outer s H args us vs Q E (hr.mono h)⟩
theorem FnOk.imp {P : Program} {w : World} {K : PySem.W.Frag} {mg : Str → Option Value} {base : Heap} {CX : CXT} {k : Nat} {f : Addr} {fd : FuncData} {ps : List Str} {sp sp' : Sp} (F : FnOk P w K mg base CX k f fd ps sp)
    (h : ∀ vs H Q E, sp' vs H Q E → sp vs H Q E) : FnOk P w K mg base CX k f fd ps sp' :=
  ⟨fun vs H Q E q => F.len vs H Q E (h _ _ _ _ q), fun A outer s H args us vs Q E hr he hb hv hs => F.run A outer s H args us vs Q E hr he hb hv (h _ _ _ _ hs)⟩
theorem Env0.in1 {P : Program} {w : World} {K : PySem.W.Frag} {mg : Str → Option Value} {base : Heap} {A : Around} {outer : List Env} {s : Shared} {H : Hp} (e : Env0 P w K mg base A outer s H) :
    Env0 P w K mg base A.in1 outer s H := ⟨e.frames, e.mod, e.bs, e.bsz, e.funs, e.frf, e.hok, e.bare⟩
section
variable {X : Cx} {pins : List (Addr × Obj)} {σ : St} {H : Hp} {s s' : Shared}
theorem Inv.env0 (I : Inv X pins σ H s) : Env0 X.prog X.w X.K X.mg X.base X.A X.stack s H :=
  ⟨I.ok.frames, I.ok.mod, I.bs, Nat.le_trans I.ok.bsz I.sz, I.stack, I.stkFree, I.hok, I.bare⟩
theorem Inv.after {Q : VK} {u : Value} (I : Inv X pins σ H s) (h : CE X.stack X.prog X.w H s Q u s') : EP X pins σ Q u s' := by
  obtain ⟨v, H', os, bare, un, hok, r, q⟩ := h
  obtain ⟨hh, g, d, t, os'⟩ := s'
  obtain rfl : os' = s.os := os
  exact ⟨v, H', I.call (h' := hh) (g' := g) (d' := d) (t' := t) (ch := []) un hok bare (fun b z => absurd z (by simp)), r, q⟩
end
def tCall (sp : Sp) (dvs : List V) (E : XK) (t : TA) : TE := fun σ H Q => t σ H fun vs H1 => sp (vs ++ dvs) H1 Q E
def Binds (K : PySem.W.Frag) (fd : FuncData) (ps : List Str) (ds : List Value) : Prop :=
  ∀ (s : Shared) (us : List Value), K.In s.heap → (us ++ ds).length = ps.length → BindsTo s fd ⟨us, []⟩ (ps.zip (us ++ ds))
theorem Binds.all {K : PySem.W.Frag} {fd : FuncData} {ps : List Str} (h : ∀ us : List Value, us.length = ps.length → bindArgs fd ⟨us, []⟩ = pure (ps.zip us)) : Binds K fd ps [] := fun s us _ hl => by
  rw [List.append_nil] at hl ⊢
  exact .of_eq (h us hl)
def Passes (CX : CXT) (X : Cx) (E : XK) : Prop := ∀ (pins : List (Addr × Obj)) (σ : St) (H : Hp) (s : Shared) (e : Value) (s' : Shared), Inv X pins σ H s → CX X.stack H s E e s' → X.xe e s'
section
variable {X : Cx} {CX : CXT} {k : Nat} {f C : Addr} {fd : FuncData} {ps : List Str} {sp : Sp} {dvs : List V} {ds : List Value} {E : XK} {x m : Str} {p pos apos : Pos} {e o : Expr} {es : List Expr} {ta : TE} {t : TA}
theorem run_fn {pins : List (Addr × Obj)} {σ : St} {H : Hp} {s : Shared} {Q : VK} {us : List Value} {vs : List V} (F : FnOk X.prog X.w X.K X.mg X.base CX k f fd ps sp) (hr : Room k X.A) (hb : Binds X.K fd ps ds) (hd : Vals dvs ds) (hx : Passes CX X E)
    (I : Inv X pins σ H s) (r : Vals vs us) (h : sp (vs ++ dvs) H Q E) : wpAny (model X.prog X.w) X.A (call (.ref f) us) (EP X pins σ Q) X.xe s := by
  have r2 : Vals (vs ++ dvs) (us ++ ds) := r.append hd
  have hl : (us ++ ds).length = ps.length := by rw [← r2.length]; exact F.len _ _ _ _ h
  refine wpAny_call (codeAny_mono (F.run X.A X.stack s H ⟨us, []⟩ (us ++ ds) (vs ++ dvs) Q E hr I.env0 (hb s us I.kIn hl) r2 h) fun r s' hq => ?_)
  cases r with
  | error e => exact hx pins σ H s e s' I hq
  | ok fl =>
    cases fl with
    | ret u => exact I.after hq
    | next => exact False.elim hq
    | brk => exact False.elim hq
    | cont => exact False.elim hq
theorem pe_call (F : FnOk X.prog X.w X.K X.mg X.base CX k f fd ps sp) (hr : Room k X.A) (hg : Gl X x) (hm : X.mg x = some (.ref f)) (hk : PySem.W.keepIn X.K (.ref f) = true) (hb : Binds X.K fd ps ds) (hd : Vals dvs ds) (hx : Passes CX X E)
    (ha : PA X (e :: es) t) (hdb : (x == ("__debug__" : Str)) = false := by decide) (he : starEach (e :: es) X.env = (false, eval e X.env) :: starEach es X.env := by rfl) (hpl : (backTo pos (starEach es X.env)).any (·.1) = false := by rfl) :
    PE X (.Call (.Name x p) (e :: es) [] pos) (tCall sp dvs E t) := by
  intro pins s σ H Q I h
  refine wpAny_Call_Name_kw (ld_glob I hg hm ?_ hdb)
  refine PySem.W.callWith_K (h₀ := X.base) I.ok.mod.kin hk (thn (ha pos pins s σ H _ I h) fun us s1 ⟨vs, H1, I1, r, q⟩ => ⟨I1.kIn, ?_⟩) he hpl
  exact run_fn F hr hb hd hx I1 r q
end
structure FnScope (N P : List Str) (sc : Scope) : Prop where
  kind : sc.kind = .function
  co : sc.isCoroutine = false
  gen : sc.isGenerator = false
  nd : N.Nodup
  pre : N.take P.length = P
  par : ∀ x ∈ P, sc.names.lookup x = some .local ∨ sc.names.lookup x = some .cell
  nofree : ∀ y ∈ sc.names, y.2 ≠ .free
theorem bindL_out {kindOf : Str → Option NameKind} {x : Str} : ∀ {binds : List (Str × Value)} {m : Str → Option Value}, (∀ v, (x, v) ∉ binds) → bindL kindOf binds m x = m x
  | [], _, _ => rfl
  | (n, v) :: r, m, h => by
    unfold bindL
    rw [bindL_out fun w hw => h w (List.mem_cons_of_mem _ hw)]
    split
    · have : x ≠ n := by rintro rfl; exact h v List.mem_cons_self
      simp [this]
    · rfl
theorem bindC_out {kindOf : Str → Option NameKind} {x : Str} : ∀ {binds : List (Str × Value)} {m : Str → Option Value}, (∀ v, (x, v) ∉ binds) → bindC kindOf binds m x = m x
  | [], _, _ => rfl
  | (n, v) :: r, m, h => by
    unfold bindC
    rw [bindC_out fun w hw => h w (List.mem_cons_of_mem _ hw)]
    split
    · rfl
    · have : x ≠ n := by rintro rfl; exact h v List.mem_cons_self
      simp [this]
theorem bindL_get {kindOf : Str → Option NameKind} {x : Str} {v : Value} : ∀ {P : List Str} {vs : List Value} {i : Nat} {m : Str → Option Value}, P.Nodup → P[i]? = some x → vs[i]? = some v → kindOf x = some .local →
    bindL kindOf (P.zip vs) m x = some v
  | [], _, _, _, _, h, _, _ => by simp at h
  | _ :: _, [], _, _, _, _, h, _ => by simp at h
  | p :: P, w :: vs, 0, m, nd, h1, h2, hk => by
    simp at h1 h2; subst h1; subst h2
    show bindL kindOf ((p, w) :: P.zip vs) m p = _
    unfold bindL
    rw [bindL_out fun v hv => (List.nodup_cons.mp nd).1 (List.of_mem_zip hv).1, if_pos hk]
    simp
  | p :: P, w :: vs, i + 1, m, nd, h1, h2, hk => by
    show bindL kindOf ((p, w) :: P.zip vs) m x = _
    unfold bindL
    exact bindL_get (i := i) (List.nodup_cons.mp nd).2 (by simpa using h1) (by simpa using h2) hk
theorem bindC_get {kindOf : Str → Option NameKind} {x : Str} {v : Value} : ∀ {P : List Str} {vs : List Value} {i : Nat} {m : Str → Option Value}, P.Nodup → P[i]? = some x → vs[i]? = some v → kindOf x ≠ some .local →
    bindC kindOf (P.zip vs) m x = some v
  | [], _, _, _, _, h, _, _ => by simp at h
  | _ :: _, [], _, _, _, _, h, _ => by simp at h
  | p :: P, w :: vs, 0, m, nd, h1, h2, hk => by
    simp at h1 h2; subst h1; subst h2
    show bindC kindOf ((p, w) :: P.zip vs) m p = _
    unfold bindC
    rw [bindC_out fun v hv => (List.nodup_cons.mp nd).1 (List.of_mem_zip hv).1, if_neg hk]
    simp
  | p :: P, w :: vs, i + 1, m, nd, h1, h2, hk => by
    show bindC kindOf ((p, w) :: P.zip vs) m x = _
    unfold bindC
    exact bindC_get (i := i) (List.nodup_cons.mp nd).2 (by simpa using h1) (by simpa using h2) hk
def start (N : List Str) (vs : List V) : St := vs.map some ++ List.replicate (N.length - vs.length) none
def cxOf (CX : CXT) (P : Program) (w : World) (K : PySem.W.Frag) (mg : Str → Option Value) (base : Heap) (N : List Str) (qual : Str) (scope : Scope) (f : Addr) (cd : Value) (A : Around) (outer : List Env) (s : Shared) (H : Hp) (E : XK) : Cx where
  prog := P
  w := w
  K := K
  mg := mg
  base := base
  A := A.deeper (envOfC qual scope s.heap.objs.size f cd)
  N := N
  s₀ := s
  H₀ := H
  env := envOfC qual scope s.heap.objs.size f cd
  outer := outer
  stack := envOfC qual scope s.heap.objs.size f cd :: outer
  ex := []
  calm := true
  fn := fun _ => true
  pn := []
  xe := fun e s' => wpAny (model P w) (A.deeper (envOfC qual scope s.heap.objs.size f cd)) (leaving (envOfC qual scope s.heap.objs.size f cd) e) (fun _ s'' => CX outer H s E e s'') (fun e' s'' => CX outer H s E e' s'') s'
theorem cell_has {sc : Scope} {n : Nat} {x : Str} (h : sc.names.lookup x = some .cell) : ∃ c, (cellsFrom n sc.names []).lookup x = some c := by
  have q := PySem.W.cellsFrom_some sc.names n [] (.inl h)
  exact Option.isSome_iff_exists.mp q
theorem inv_start {CX : CXT} {P : Program} {w : World} {K : PySem.W.Frag} {mg : Str → Option Value} {base : Heap} {N ps : List Str} {qual : Str} {scope : Scope} {f : Addr} {cd : Value} {A : Around} {outer : List Env} {s s1 : Shared} {H : Hp} {E : XK} {us : List Value} {vs : List V}
    (S : FnScope N ps scope) (hd : A.handled = none) (e0 : Env0 P w K mg base A outer s H) (hl : vs.length = ps.length) (r : Vals vs us)
    (x : InCallC s s.heap.objs.size (bindL (envOfC qual scope s.heap.objs.size f cd).kindOf (ps.zip us) fun _ => none) (cellsFrom (s.heap.objs.size + 1) scope.names []) (bindC (envOfC qual scope s.heap.objs.size f cd).kindOf (ps.zip us) fun _ => none) s1) :
    Inv (cxOf CX P w K mg base N qual scope f cd A outer s H E) [] (start N vs) H s1 := by
  have hpl : ps.length ≤ N.length := by have := congrArg List.length S.pre; rw [List.length_take] at this; omega
  obtain ⟨h1, tk, rfl, hk⟩ := x.done
  have noA : ∀ b : Addr, b ∉ (cxOf CX P w K mg base N qual scope f cd A outer s H E).ex := fun b z => absurd (show b ∈ ([] : List Addr) from z) (by simp)
  refine ⟨⟨e0.mod, S.kind, rfl, rfl, Nat.le_refl _, fun y z c h1 h2 => ?_, fun y hy => ?_, fun y c _ h => ?_, fun _ => hd, Around.frames_deeper e0.frames, .inr ⟨rfl, rfl⟩, fun b z => absurd z (noA b), e0.bs, e0.bsz, fun b _ _ => noA b, fun b z => absurd z (noA b), e0.funs, e0.frf⟩,
    rfl, e0.bare, Un.kept hk, ⟨_, x.toInCall.ns, fun i y v h1 h2 h3 => ?_⟩, fun y c h => ⟨_, x.cell y c h⟩, e0.hok.fresh (Nat.le_refl _), fun y c h => ?_, fun p hp => absurd (show p ∈ ([] : List (Addr × Obj)) from hp) (by simp), e0.hok.kept hk, ?_⟩
  · exact name_of_addr x.apart (PySem.mem_of_lookup h1) (PySem.mem_of_lookup h2)
  · have hy : scope.names.lookup y = some .cell ∨ scope.names.lookup y = some .free := hy
    rcases hy with hy | hy
    · exact cell_has hy
    · exact absurd rfl (S.nofree _ (PySem.mem_of_lookup hy))
  · exact Nat.le_of_lt (x.above y c (PySem.mem_of_lookup h))
  · have hi : i < vs.length := by
      unfold start at h2
      by_cases hi : i < vs.length
      · exact hi
      · rw [List.getElem?_append_right (by simpa using hi)] at h2
        rw [List.getElem?_replicate] at h2
        split at h2 <;> cases h2
    have ha : vs[i]? = some v := by
      unfold start at h2
      rw [List.getElem?_append_left (by simpa using hi), List.getElem?_map] at h2
      cases e : vs[i]? with
      | none => rw [e] at h2; cases h2
      | some a => rw [e] at h2; cases h2; rfl
    obtain ⟨u, hu, rv⟩ := r.get ha
    have hp : ps[i]? = some y := by
      rw [← S.pre, List.getElem?_take_of_lt (by omega)]; exact h1
    have ndP : ps.Nodup := by rw [← S.pre]; exact S.nd.sublist (List.take_sublist _ _)
    refine ⟨u, rv, ?_⟩
    rcases S.par y (List.mem_of_getElem? hp) with k | k
    · exact .inl ⟨k, bindL_get ndP hp hu k⟩
    · obtain ⟨c, e⟩ := cell_has (n := s.heap.objs.size + 1) k
      refine .inr ⟨.inl k, c, e, ?_⟩
      have q := x.cell y c e
      rw [bindC_get ndP hp hu (by show scope.names.lookup y ≠ _; rw [k]; decide)] at q
      exact q
  · exact e0.hok.fresh (Nat.le_of_lt (x.above y c (PySem.mem_of_lookup h)))
  · unfold start
    show _ = N.length
    rw [List.length_append, List.length_map, List.length_replicate]
    omega
theorem fn_of {CX : CXT} {P : Program} {w : World} {K : PySem.W.Frag} {mg : Str → Option Value} {base : Heap} {k : Nat} {f : Addr} {name qual : Str} {params : Arguments} {body : List Stmt} {scope : Scope} {dV kV doc pm cdv ct oc : Value} {an od : Option Addr}
    {osl : Array (Option Value)} {N ps : List Str} {sp : Sp} (lk : K.lookup f = some ⟨oc, od, .func (PySem.W.fnOf name qual params body scope dV kV doc pm an cdv ct), osl⟩) (hcd : PySem.W.codeIn K cdv qual = true) (S : FnScope N ps scope)
    (len : ∀ vs H Q E, sp vs H Q E → vs.length = ps.length)
    (hbody : ∀ (A : Around) (outer : List Env) (s : Shared) (H : Hp) (vs : List V) (Q : VK) (E : XK), Room k (A.deeper (envOfC qual scope s.heap.objs.size f cdv)) → sp vs H Q E →
      ∃ t, PSs (cxOf CX P w K mg base N qual scope f cdv A outer s H E) body t ∧ t { nx := fun _ H' => Q .non H', rt := Q } (start N vs) H) :
    FnOk P w K mg base CX (k + 1) f (PySem.W.fnOf name qual params body scope dV kV doc pm an cdv ct) ps sp := by
  refine ⟨len, fun A outer s H args us vs Q E hr e0 hb r hsp => ?_⟩
  have hl := len _ _ _ _ hsp
  have KX : K.In s.heap := e0.mod.kin.keeps fun b o e => (e0.bs b o e).1
  have lim : s.heap.NoLimit := e0.mod.nolimit.keeps fun b o e => (e0.bs b o e).1
  have hkind : ∀ y ∈ ps.zip us, scope.names.lookup y.1 = some .local ∨ (scope.names.lookup y.1 = some .cell ∧ ((cellsFrom (s.heap.objs.size + 1) scope.names []).lookup y.1).isSome = true) := fun ⟨n, v⟩ hy => by
    rcases S.par n (List.of_mem_zip hy).1 with q | q
    · exact .inl q
    · exact .inr ⟨q, PySem.W.cellsFrom_some _ _ _ (.inl q)⟩
  refine codeAny_call_function hr.depth (KX _ _ lk) rfl S.co S.gen rfl (PySem.W.codeRec_of KX hcd) (hb _ _ _ _ ?_)
  refine wpAny_newFunctionEnv_cells S.kind hkind fun env he s1 x => ?_
  subst he
  refine ⟨lim.keeps x.toInCall.keep, codeAny_func ?_⟩
  obtain ⟨t, ht, hq⟩ := hbody A outer s H vs Q E (hr.deeper _) hsp
  have I : Inv (cxOf CX P w K mg base N qual scope f cdv A outer s H E) [] (start N vs) H s1 := inv_start S hr.hd e0 hl r x
  refine wpAny_mono (ht [] s1 (start N vs) H _ I hq) (fun fl s' hs => ?_) fun e s' hs => hs
  have fin : ∀ {σ' : St} {H' : Hp} {v : V} {u : Value}, Inv (cxOf CX P w K mg base N qual scope f cdv A outer s H E) [] σ' H' s' → RelV v u → Q v H' → CE outer P w H s Q u s' :=
    fun {σ' H' v u} J rv q => ⟨v, H', J.os, J.bare, J.base, J.hok, rv, q⟩
  cases fl with
  | ret u =>
    obtain ⟨v, σ', H', J, rv, q⟩ := hs
    exact fin J rv q
  | next =>
    obtain ⟨σ', H', J, q⟩ := hs
    exact fin (v := V.non) (u := Value.none) J rfl q
  | brk =>
    obtain ⟨_, _, _, q⟩ := hs
    exact False.elim q
  | cont =>
    obtain ⟨_, _, _, q⟩ := hs
    exact False.elim q
end L2
namespace L2
open PySem PySem.Spec PyProof.Rows
section
variable {X : Cx} {x : Str} {p pos : Pos} {e : Expr} {es : List Expr} {t : TA} {id T : String} {r : List V → Hp → VK → Prop}
def tCB (r : List V → Hp → VK → Prop) (t : TA) : TE := fun σ H Q => t σ H fun vs H1 => r vs H1 Q
theorem pe_callB (hc : CallR X (.builtin id) r) (hg : Gl X x) (hm : X.mg x = none) (hv : bootBuiltins x = some (.builtin id)) (ha : PA X (e :: es) t) (hn : x ≠ "__name__" := by decide) (hdb : (x == ("__debug__" : Str)) = false := by decide)
    (he : starEach (e :: es) X.env = (false, eval e X.env) :: starEach es X.env := by rfl) (hpl : (backTo pos (starEach es X.env)).any (·.1) = false := by rfl) : PE X (.Call (.Name x p) (e :: es) [] pos) (tCB r t) := by
  intro pins s σ H Q I h
  refine wpAny_Call_Name_kw (ld_blt I hg hm hv ?_ hn hdb)
  exact PyProof.Rows.callWith_builtin1 (thn (ha pos pins s σ H _ I h) fun us s1 ⟨vs, H1, I1, r1, q1⟩ => hc pins s1 σ H1 vs us Q I1 r1 q1) he hpl
theorem pe_callTy (hc : CallR X (.type T) r) (hg : Gl X x) (hm : X.mg x = none) (hv : bootBuiltins x = some (.type T)) (ha : PA X (e :: es) t) (hn : x ≠ "__name__" := by decide) (hdb : (x == ("__debug__" : Str)) = false := by decide)
    (he : starEach (e :: es) X.env = (false, eval e X.env) :: starEach es X.env := by rfl) (hpl : (backTo pos (starEach es X.env)).any (·.1) = false := by rfl) : PE X (.Call (.Name x p) (e :: es) [] pos) (tCB r t) := by
  intro pins s σ H Q I h
  refine wpAny_Call_Name_kw (ld_blt I hg hm hv ?_ hn hdb)
  exact PyProof.Rows.callWith_type1 (thn (ha pos pins s σ H _ I h) fun us s1 ⟨vs, H1, I1, r1, q1⟩ => hc pins s1 σ H1 vs us Q I1 r1 q1) he hpl
end
end L2
namespace L2
open PySem PySem.Spec PyProof.Rows
section
variable {κ : Type} [DecidableEq κ]
def valV (kvs : List (κ × V)) (k : κ) : Option V := (kvs.find? fun kv => decide (kv.1 = k)).map (·.2)
def putK (kvs : List (κ × V)) (k : κ) (v : V) : List (κ × V) :=
  if (kvs.any fun kv => decide (kv.1 = k)) = true then kvs.map (fun kv => if kv.1 = k then (kv.1, v) else kv) else kvs ++ [(k, v)]
def dropK (kvs : List (κ × V)) (k : κ) : List (κ × V) := kvs.filter fun kv => decide (kv.1 ≠ k)
theorem valV_pos {p : κ × V} {r : List (κ × V)} {k : κ} (e : p.1 = k) : valV (p :: r) k = some p.2 := by simp [valV, List.find?_cons, e]
theorem valV_neg {p : κ × V} {r : List (κ × V)} {k : κ} (e : ¬ p.1 = k) : valV (p :: r) k = valV r k := by simp [valV, List.find?_cons, e]
theorem valV_any (k : κ) : ∀ kvs : List (κ × V), (kvs.any fun kv => decide (kv.1 = k)) = (valV kvs k).isSome
  | [] => rfl
  | p :: r => by
    rw [List.any_cons]
    by_cases e : p.1 = k
    · simp only [valV_pos e, decide_eq_true e, Bool.true_or, Option.isSome_some]
    · rw [valV_neg e, decide_eq_false e, Bool.false_or]; exact valV_any k r
theorem length_putK (kvs : List (κ × V)) (k : κ) (v : V) : (putK kvs k v).length ≤ kvs.length + 1 := by
  unfold putK
  split
  · rw [List.length_map]; omega
  · rw [List.length_append, List.length_cons, List.length_nil]; omega
theorem RelO.isSome_eq {o : Option V} {u : Option Value} (r : RelO o u) : o.isSome = u.isSome := by
  cases o with
  | none => cases u with
    | none => rfl
    | some _ => exact (show False from r).elim
  | some _ => cases u with
    | none => exact (show False from r).elim
    | some _ => rfl
theorem RelO.getD {o : Option V} {u : Option Value} {d : V} {d' : Value} (r : RelO o u) (rd : RelV d d') : RelV (o.getD d) (u.getD d') := by
  cases o with
  | none => cases u with
    | none => exact rd
    | some _ => exact (show False from r).elim
  | some _ => cases u with
    | none => exact (show False from r).elim
    | some _ => exact r
theorem KV.val {kvs : List (κ × V)} {vs : List (κ × Value)} (r : KV kvs vs) (k : κ) : RelO (valV kvs k) (valueAt vs k) := by
  unfold KV at r
  induction r with
  | nil => exact True.intro
  | @cons p q ps qs h t ih =>
    obtain ⟨h1, h2⟩ := h
    by_cases e : p.1 = k
    · have e' : q.1 = k := h1.symm.trans e
      have b : valueAt (q :: qs) k = some q.2 := by simp [valueAt, List.find?_cons, e']
      rw [valV_pos e, b]; exact h2
    · have e' : ¬ q.1 = k := fun z => e (h1.trans z)
      have b : valueAt (q :: qs) k = valueAt qs k := by simp [valueAt, List.find?_cons, e']
      rw [valV_neg e, b]; exact ih
theorem KV.any {kvs : List (κ × V)} {vs : List (κ × Value)} (r : KV kvs vs) (k : κ) : (kvs.any fun kv => decide (kv.1 = k)) = vs.any fun kv => decide (kv.1 = k) := by
  unfold KV at r
  induction r with
  | nil => rfl
  | cons h t ih => rw [List.any_cons, List.any_cons, ih, h.1]
theorem KV.repl {kvs : List (κ × V)} {vs : List (κ × Value)} (r : KV kvs vs) (k : κ) {y : V} {u : Value} (ry : RelV y u) :
    KV (kvs.map fun kv => if kv.1 = k then (kv.1, y) else kv) (vs.map fun kv => if kv.1 = k then (kv.1, u) else kv) := by
  unfold KV at r ⊢
  induction r with
  | nil => exact .nil
  | @cons p q ps qs h t ih =>
    rw [List.map_cons, List.map_cons]
    refine .cons ?_ ih
    obtain ⟨h1, h2⟩ := h
    by_cases e : p.1 = k
    · rw [if_pos e, if_pos (h1.symm.trans e)]; exact ⟨h1, ry⟩
    · rw [if_neg e, if_neg (fun z => e (h1.trans z))]; exact ⟨h1, h2⟩
theorem KV.put {kvs : List (κ × V)} {vs : List (κ × Value)} (r : KV kvs vs) (k : κ) {y : V} {u : Value} (ry : RelV y u) : KV (putK kvs k y) (stored vs k u) := by
  unfold putK stored
  rw [r.any k]
  by_cases e : (vs.any fun kv => decide (kv.1 = k)) = true
  · rw [if_pos e, if_pos e]; exact r.repl k ry
  · rw [if_neg e, if_neg e]; exact Paired.snoc r ⟨rfl, ry⟩
theorem KV.drop {kvs : List (κ × V)} {vs : List (κ × Value)} (r : KV kvs vs) (k : κ) : KV (dropK kvs k) (without vs k) := by
  unfold KV at r ⊢
  unfold dropK without
  induction r with
  | nil => exact .nil
  | @cons p q ps qs h t ih =>
    obtain ⟨h1, h2⟩ := h
    rw [List.filter_cons, List.filter_cons]
    by_cases e : p.1 = k
    · have a : ¬ decide (p.1 ≠ k) = true := by simp [e]
      have b : ¬ decide (q.1 ≠ k) = true := by simp [h1.symm.trans e]
      rw [if_neg a, if_neg b]; exact ih
    · have e' : ¬ q.1 = k := fun z => e (h1.trans z)
      have a : decide (p.1 ≠ k) = true := by simp [e]
      have b : decide (q.1 ≠ k) = true := by simp [e']
      rw [if_pos a, if_pos b]; exact .cons ⟨h1, h2⟩ ih
theorem KV.length {kvs : List (κ × V)} {vs : List (κ × Value)} (r : KV kvs vs) : kvs.length = vs.length := Paired.length r
end
theorem kV_is {P : Program} {w : World} {k : Key} {u : Value} (r : RelV (kV k) u) : (mixKind P w).is k u = true := by
  cases k with
  | inl i => obtain ⟨t, e⟩ := (show ∃ t, u = Value.int i t from r); subst e; exact mixKind_int P w i t
  | inr x => obtain ⟨t, e⟩ := (show ∃ t, u = Value.str x t from r); subst e; exact mixKind_str P w x t
theorem items_are {P : Program} {w : World} : ∀ {ks : List Key} {us : List Value}, Vals (ks.map kV) us → ItemsAre (mixKind P w) ks us
  | [], _, r => by rw [List.map_nil] at r; cases r; exact .nil
  | k :: ks, _, r => by
    rw [List.map_cons] at r
    cases r with
    | cons h t => exact .cons (kV_is h) (items_are t)
abbrev KT (H : Hp) : List (List Key × V) → List (List Key × Addr × Value) → Prop := Paired fun p q => p.1 = q.1 ∧ H q.2.1 = some (.tup (p.1.map kV)) ∧ RelV p.2 q.2.2
theorem KT.val {H : Hp} {kvs : List (List Key × V)} {xs : List (List Key × Addr × Value)} (r : KT H kvs xs) (k : List Key) : RelO (valV kvs k) ((atKey xs k).map (·.2)) := by
  induction r with
  | nil => exact True.intro
  | @cons p q ps qs h t ih =>
    obtain ⟨h1, _, h2⟩ := h
    by_cases e : p.1 = k
    · have e' : q.1 = k := h1.symm.trans e
      have b : atKey (q :: qs) k = some q.2 := by simp [atKey, List.find?_cons, e']
      rw [valV_pos e, b]; exact h2
    · have e' : ¬ q.1 = k := fun z => e (h1.trans z)
      have b : atKey (q :: qs) k = atKey qs k := by simp [atKey, List.find?_cons, e']
      rw [valV_neg e, b]; exact ih
theorem KT.repl {H : Hp} {kvs : List (List Key × V)} {xs : List (List Key × Addr × Value)} (r : KT H kvs xs) (k : List Key) {y : V} {u : Value} (ry : RelV y u) :
    KT H (kvs.map fun kv => if kv.1 = k then (kv.1, y) else kv) (xs.map (putAt k u)) := by
  induction r with
  | nil => exact .nil
  | @cons p q ps qs h t ih =>
    rw [List.map_cons, List.map_cons]
    refine .cons ?_ ih
    obtain ⟨h1, h2, h3⟩ := h
    unfold putAt
    by_cases e : p.1 = k
    · rw [if_pos e, if_pos (h1.symm.trans e)]; exact ⟨h1, h2, ry⟩
    · rw [if_neg e, if_neg (fun z => e (h1.trans z))]; exact ⟨h1, h2, h3⟩
theorem KT.put {H : Hp} {kvs : List (List Key × V)} {xs : List (List Key × Addr × Value)} (r : KT H kvs xs) (k : List Key) {b : Addr} {y : V} {u : Value} (hb : H b = some (.tup (k.map kV))) (ry : RelV y u) :
    KT H (putK kvs k y) (storedH xs k b u) := by
  have e : (kvs.any fun kv => decide (kv.1 = k)) = (atKey xs k).isSome := by
    rw [valV_any, (r.val k).isSome_eq, Option.isSome_map]
  unfold putK storedH
  rw [e]
  by_cases q : (atKey xs k).isSome = true
  · rw [if_pos q, if_pos q]; exact r.repl k ry
  · rw [if_neg q, if_neg q]; exact Paired.snoc r ⟨rfl, hb, ry⟩
theorem KT.keeps {H H' : Hp} {kvs : List (List Key × V)} {xs : List (List Key × Addr × Value)} (r : KT H kvs xs) (ht : ∀ b ys, H b = some (.tup ys) → H' b = some (.tup ys)) : KT H' kvs xs :=
  Paired.mapP r fun _ _ z => ⟨z.1, ht _ _ z.2.1, z.2.2⟩
section
variable {P : Program} {w : World} {H : Hp} {h : Heap} {a : Addr}
theorem rd_of {u : HO} (ok : HOk P w H h) (e : Rd H a u) : ObjOk P w H h a u := e.ok ok
theorem dk_rd {kvs : List (Key × V)} (ok : HOk P w H h) (e : Rd H a (.dK kvs)) : kvs.length ≤ sizeLine ∧ (a == sysModules) = false ∧ ∃ vs, KV kvs vs ∧ h.DictOf (mixKind P w) a vs :=
  show ObjOk P w H h a (.dK kvs) from rd_of ok e
theorem dk_of {kvs : List (Key × V)} (ok : HOk P w H h) (e : H a = some (.dK kvs)) : kvs.length ≤ sizeLine ∧ (a == sysModules) = false ∧ ∃ vs, KV kvs vs ∧ h.DictOf (mixKind P w) a vs := dk_rd ok (.inl e)
theorem key_of {ks : List Key} (ok : HOk P w H h) (e : H a = some (.tup (ks.map kV))) : (tupleKind (mixKind P w)).is h ks a := by
  obtain ⟨_, its, r, o, h1, h2, _, n, h3⟩ := (show ObjOk P w H h a (.tup (ks.map kV)) from ok a _ e)
  exact ⟨o, its.toArray, n, h1, h2, h3, by simpa using items_are r⟩
theorem dt_rd {kvs : List (List Key × V)} (ok : HOk P w H h) (e : Rd H a (.dT kvs)) : kvs.length ≤ sizeLine ∧ (a == sysModules) = false ∧
    ∃ xs, KT H kvs xs ∧ h.DictOfH (tupleKind (mixKind P w)) a xs := by
  obtain ⟨z, y, xs, r, o, es, ep, h1, h2, h3, h4, h5⟩ := (show ObjOk P w H h a (.dT kvs) from rd_of ok e)
  refine ⟨z, y, xs, r, o, es, ep, h1, h2, h3, h4, fun x hx => ?_, h5⟩
  have all : ∀ {l : List (List Key × V)} {m : List (List Key × Addr × Value)}, KT H l m → ∀ x ∈ m, (tupleKind (mixKind P w)).is h x.1 x.2.1 := by
    intro l m q
    induction q with
    | nil => intro x hx; exact nomatch hx
    | @cons p q ps qs hq t ih =>
      intro x hx
      rcases List.mem_cons.mp hx with e | hx
      · subst e
        exact key_of ok (by rw [← hq.1]; exact hq.2.1)
      · exact ih x hx
  exact all r x hx
theorem dt_of {kvs : List (List Key × V)} (ok : HOk P w H h) (e : H a = some (.dT kvs)) : kvs.length ≤ sizeLine ∧ (a == sysModules) = false ∧
    ∃ xs, KT H kvs xs ∧ h.DictOfH (tupleKind (mixKind P w)) a xs := dt_rd ok (.inl e)
end
def DGet (H : Hp) (a : Addr) (y : V) (r : Option V) : Prop :=
  (∃ kvs k, Rd H a (.dK kvs) ∧ y = kV k ∧ r = valV kvs k) ∨ ∃ kvs k b, Rd H a (.dT kvs) ∧ y = .ref b ∧ H b = some (.tup (k.map kV)) ∧ r = valV kvs k
def DPut (H : Hp) (a : Addr) (y v : V) (H' : Hp) : Prop :=
  (∃ kvs k, H a = some (.dK kvs) ∧ y = kV k ∧ kvs.length < sizeLine ∧ H' = upd H a (.dK (putK kvs k v))) ∨
  ∃ kvs k b, H a = some (.dT kvs) ∧ y = .ref b ∧ H b = some (.tup (k.map kV)) ∧ kvs.length < sizeLine ∧ H' = upd H a (.dT (putK kvs k v))
theorem DGet.k {H : Hp} {a : Addr} {kvs : List (Key × V)} {k : Key} (e : H a = some (.dK kvs)) : DGet H a (kV k) (valV kvs k) := .inl ⟨kvs, k, .inl e, rfl, rfl⟩
theorem DGet.t {H : Hp} {a b : Addr} {kvs : List (List Key × V)} {k : List Key} (e : H a = some (.dT kvs)) (eb : H b = some (.tup (k.map kV))) : DGet H a (.ref b) (valV kvs k) := .inr ⟨kvs, k, b, .inl e, rfl, eb, rfl⟩
theorem DPut.k {H : Hp} {a : Addr} {kvs : List (Key × V)} {k : Key} {v : V} (e : H a = some (.dK kvs)) (hl : kvs.length < sizeLine) : DPut H a (kV k) v (upd H a (.dK (putK kvs k v))) := .inl ⟨kvs, k, e, rfl, hl, rfl⟩
theorem DPut.t {H : Hp} {a b : Addr} {kvs : List (List Key × V)} {k : List Key} {v : V} (e : H a = some (.dT kvs)) (eb : H b = some (.tup (k.map kV))) (hl : kvs.length < sizeLine) :
    DPut H a (.ref b) v (upd H a (.dT (putK kvs k v))) := .inr ⟨kvs, k, b, e, rfl, eb, hl, rfl⟩
section
variable {X : Cx} {pins : List (Addr × Obj)} {σ : St} {H : Hp} {s : Shared} {a : Addr} {y v : V} {u r : Value} {o : Option V} {A : Around} {E : Value → Shared → Prop}
theorem d_getItem {Q : Value → Shared → Prop} (hu : A.units + 1 < cLine) (I : Inv X pins σ H s) (g : DGet H a y (some v)) (ry : RelV y u) (h : ∀ w' s', Inv X pins σ H s' → RelV v w' → Q w' s') :
    wpAny (model X.prog X.w) A (getItem (.ref a) u) Q E s := by
  rcases g with ⟨kvs, k, e, ey, l⟩ | ⟨kvs, k, b, e, ey, eb, l⟩
  · subst ey
    obtain ⟨z, hd, vs, rel, dd⟩ := dk_rd I.hok e
    obtain ⟨w', hw, rw'⟩ := RelO.some_of (v := v) (o := valueAt vs k) (by rw [l]; exact rel.val k)
    exact wpAny_getItem_of (kV_is ry) dd.mapOf hw (h w' _ (I.tok _) rw')
  · subst ey
    cases (show u = Value.ref b from ry)
    obtain ⟨z, hd, xs, rel, dd⟩ := dt_rd I.hok e
    obtain ⟨w', hw, rw'⟩ := RelO.some_of (v := v) (o := (atKey xs k).map (·.2)) (by rw [l]; exact rel.val k)
    obtain ⟨p, hp, hp2⟩ := Option.map_eq_some_iff.mp hw
    refine wpAny_getItem_heap (tupleKind_room_in1 hu) (key_of I.hok eb) dd hp ?_
    rw [hp2]
    exact h w' _ (I.tok _) rw'
theorem d_in {Q : Value → Shared → Prop} (hu : A.units + 1 < cLine) (I : Inv X pins σ H s) (g : DGet H a y o) (ry : RelV y u) (h : ∀ s', Inv X pins σ H s' → Q (.bool o.isSome) s') :
    wpAny (model X.prog X.w) A (compareOp .In u (.ref a)) Q E s := by
  rcases g with ⟨kvs, k, e, ey, l⟩ | ⟨kvs, k, b, e, ey, eb, l⟩
  · subst ey
    obtain ⟨z, hd, vs, rel, dd⟩ := dk_rd I.hok e
    refine wpAny_in_of (kV_is ry) hd dd.mapOf ?_
    rw [← (rel.val k).isSome_eq, ← l]
    exact h _ (I.tok _)
  · subst ey
    cases (show u = Value.ref b from ry)
    obtain ⟨z, hd, xs, rel, dd⟩ := dt_rd I.hok e
    refine wpAny_in_heap (tupleKind_room_in1 hu) (key_of I.hok eb) hd dd ?_
    have q := (rel.val k).isSome_eq
    rw [Option.isSome_map] at q
    rw [← q, ← l]
    exact h _ (I.tok _)
theorem d_notIn {Q : Value → Shared → Prop} (hu : A.units + 1 < cLine) (I : Inv X pins σ H s) (g : DGet H a y o) (ry : RelV y u) (h : ∀ s', Inv X pins σ H s' → Q (.bool (!o.isSome)) s') :
    wpAny (model X.prog X.w) A (compareOp .NotIn u (.ref a)) Q E s := by
  rcases g with ⟨kvs, k, e, ey, l⟩ | ⟨kvs, k, b, e, ey, eb, l⟩
  · subst ey
    obtain ⟨z, hd, vs, rel, dd⟩ := dk_rd I.hok e
    refine wpAny_notIn_of (kV_is ry) hd dd.mapOf ?_
    rw [← (rel.val k).isSome_eq, ← l]
    exact h _ (I.tok _)
  · subst ey
    cases (show u = Value.ref b from ry)
    obtain ⟨z, hd, xs, rel, dd⟩ := dt_rd I.hok e
    refine wpAny_notIn_heap (tupleKind_room_in1 hu) (key_of I.hok eb) hd dd ?_
    have q := (rel.val k).isSome_eq
    rw [Option.isSome_map] at q
    rw [← q, ← l]
    exact h _ (I.tok _)
theorem d_write {h' : Heap} {t' : Nat} {ob : HO} (I : Inv X pins σ H s) (mu : Mut (H a)) (hs : Heap.SameBut a s.heap h') (he : ∃ q, h'.get? a = some q) (new : ObjOk X.prog X.w (upd H a ob) h' a ob) :
    Inv X pins σ (upd H a ob) { s with heap := h', toks := t' } :=
  I.write (x := a) (e := a) mu (.inl rfl) (fun b q hb z => (hs.2 b hb).trans z) he new
theorem dk_new {P : Program} {w : World} {H' : Hp} {h' : Heap} {kvs : List (Key × V)} {vs : List (Key × Value)} (z : kvs.length ≤ sizeLine) (hd : (a == sysModules) = false) (rel : KV kvs vs) (dd : h'.DictOf (mixKind P w) a vs) :
    ObjOk P w H' h' a (.dK kvs) := ⟨z, hd, vs, rel, dd⟩
theorem d_setItem {H' : Hp} {Q : Unit → Shared → Prop} (hu : A.units + 1 < cLine) (I : Inv X pins σ H s) (g : DPut H a y v H') (ry : RelV y u) (rv : RelV v r) (h : ∀ s', Inv X pins σ H' s' → Q () s') :
    wpAny (model X.prog X.w) A (setItem (.ref a) u r) Q E s := by
  rcases g with ⟨kvs, k, e, ey, l, eH⟩ | ⟨kvs, k, b, e, ey, eb, l, eH⟩
  · subst ey eH
    obtain ⟨z, hd, vs, rel, dd⟩ := dk_of I.hok e
    have hz : vs.length ≤ sizeLine := by rw [← rel.length]; exact z
    have hl : (putK kvs k v).length ≤ sizeLine := by have := length_putK kvs k v; omega
    refine wpAny_setItem_pairs (hsz := hz) (kV_is ry) dd fun h' dd' hs => h _ ?_
    have he : ∃ q, h'.get? a = some q := let ⟨q, _, _, hq, _⟩ := dd'; ⟨q, hq⟩
    exact d_write I (by rw [e]; exact True.intro) hs he (dk_new hl hd (rel.put k rv) dd')
  · subst ey eH
    cases (show u = Value.ref b from ry)
    obtain ⟨z, hd, xs, rel, dd⟩ := dt_of I.hok e
    have hz : xs.length ≤ sizeLine := by rw [← Paired.length rel]; exact z
    have hl : (putK kvs k v).length ≤ sizeLine := by have := length_putK kvs k v; omega
    refine wpAny_setItem_heap (hsz := hz) (tupleKind_room_in1 hu) (key_of I.hok eb) dd fun h' dd' hs => h _ ?_
    obtain ⟨q, es, ep, hq, h2, h3, h4, _, h5⟩ := dd'
    refine d_write I (by rw [e]; exact True.intro) hs ⟨q, hq⟩ ⟨hl, hd, _, (rel.put k eb rv).keeps fun c ys ec => ?_, q, es, ep, hq, h2, h3, h4, h5⟩
    rw [upd_ne (ne_of ec e (fun z => nomatch z))]
    exact ec
end
def NoSl (i : Expr) : Prop := ∀ ov iv, subscripted i false ov iv = operate [ov, iv] (getItem ov iv)
theorem subD_of {prog : Program} {w : World} {A : Around} {E : Value → Shared → Prop} {s : Shared} {env : Env} {value slice : Expr} {pos : Pos} {T id : String} {Q : Value → Shared → Prop}
    (hl : typeLookup (.type T) "__getitem__" = pure (some (.builtin id))) (hs : NoSl slice)
    (h : wpAny (model prog w) A (eval value env) (fun o s₁ => wpAny (model prog w) A (eval slice env) (fun i s₂ => s₂.TypeIs o T ∧ wpAny (model prog w) A (getItem o i) Q E s₂) E s₁) E s) :
    wpAny (model prog w) A (eval (.Subscript value slice pos) env) Q E s := by
  refine Subscript_ (wpAny_mono h (fun o s₁ h₁ => wpAny_mono h₁ (fun i s₂ h₂ => ?_) fun _ _ x => x) fun _ _ x => x)
  obtain ⟨hT, h₂⟩ := h₂
  unfold subscriptTail
  refine wpAny_bind ?_
  rw [getitemInPython_of_ne hT.not_modules]
  refine wpAny_bind (wpAny_specialOf hT hl ?_)
  have fin : wpAny (model prog w) A (subscripted slice false o i) (fun r s₃ => wpAny (model prog w) A (letTemporaryGo value o r >>= fun _ => pure r) Q E s₃) E s₂ := by
    rw [hs o i]
    exact wpAny_operating (wpAny_mono h₂ (fun r s₃ h₃ => wpAny_bind (wpAny_letTemporaryGo (wpAny_pure h₃))) fun _ _ x => x)
  first
    | exact wpAny_pure (wpAny_bind fin)
    | exact wpAny_bind (wpAny_pure (wpAny_bind fin))
    | exact wpAny_bind fin
theorem dict_typeIs {X : Cx} {pins : List (Addr × Obj)} {σ : St} {H : Hp} {s : Shared} {a : Addr} {y : V} {o : Option V} (I : Inv X pins σ H s) (g : DGet H a y o) : s.TypeIs (.ref a) "dict" := by
  rcases g with ⟨kvs, k, e, _, _⟩ | ⟨kvs, k, b, e, _, _, _⟩
  · obtain ⟨_, _, vs, _, dd⟩ := dk_rd I.hok e
    exact dd.typeIs
  · obtain ⟨_, _, xs, _, dd⟩ := dt_rd I.hok e
    exact dd.typeIs
def tDGet (td ty : TE) : TE := fun σ H Q => td σ H fun x H1 => ty σ H1 fun y H2 => ∃ a v, x = .ref a ∧ DGet H2 a y (some v) ∧ Q v H2
def tDIn (ty td : TE) : TE := fun σ H Q => ty σ H fun y H1 => td σ H1 fun x H2 => ∃ a o, x = .ref a ∧ DGet H2 a y o ∧ Q (.bl o.isSome) H2
def tDNotIn (ty td : TE) : TE := fun σ H Q => ty σ H fun y H1 => td σ H1 fun x H2 => ∃ a o, x = .ref a ∧ DGet H2 a y o ∧ Q (.bl (!o.isSome)) H2
def sDPut (td ty tv : TE) : TS := fun D σ H => tv σ H fun v H1 => td σ H1 fun x H2 => ty σ H2 fun y H3 => ∃ a H4, x = .ref a ∧ DPut H3 a y v H4 ∧ D.nx σ H4
section
variable {X : Cx} {o i e value : Expr} {pos pos' tpos : Pos} {td ty tv : TE}
theorem pe_dget (hu : X.A.units + 1 < cLine) (ho : PE X o td) (hi : PE X i ty) (hs : NoSl i) : PE X (.Subscript o i pos) (tDGet td ty) := by
  intro pins s σ H Q I h
  refine subD_of PySem.F.slot_dict_getitem.lookup hs (thn (ho pins s σ H _ I h) fun u s1 ⟨x, H1, I1, rx, q1⟩ => thn (hi pins s1 σ H1 _ I1 q1) fun iv s2 ⟨y, H2, I2, ry, a, v, ex, g, q2⟩ => ?_)
  subst ex
  obtain rfl : u = Value.ref a := rx
  exact ⟨dict_typeIs I2 g, d_getItem hu I2 g ry fun w' s3 I3 rw' => ⟨v, H2, I3, rw', q2⟩⟩
theorem pc_din (hu : X.A.units + 1 < cLine) (hi : PE X i ty) (ho : PE X o td) : PC X .In i o (tDIn ty td) := by
  intro pins s σ H Q I h
  refine thn (hi pins s σ H _ I h) fun iv s1 ⟨y, H1, I1, ry, q1⟩ => thn (ho pins s1 σ H1 _ I1 q1) fun u s2 ⟨x, H2, I2, rx, a, ov, ex, g, q2⟩ => ?_
  subst ex
  obtain rfl : u = Value.ref a := rx
  exact d_in hu I2 g ry fun s3 I3 => ⟨.bl ov.isSome, H2, I3, rfl, q2⟩
theorem pc_dnotin (hu : X.A.units + 1 < cLine) (hi : PE X i ty) (ho : PE X o td) : PC X .NotIn i o (tDNotIn ty td) := by
  intro pins s σ H Q I h
  refine thn (hi pins s σ H _ I h) fun iv s1 ⟨y, H1, I1, ry, q1⟩ => thn (ho pins s1 σ H1 _ I1 q1) fun u s2 ⟨x, H2, I2, rx, a, ov, ex, g, q2⟩ => ?_
  subst ex
  obtain rfl : u = Value.ref a := rx
  exact d_notIn hu I2 g ry fun s3 I3 => ⟨.bl (!ov.isSome), H2, I3, rfl, q2⟩
theorem ps_dput (hu : X.A.units + 1 < cLine) (ho : PE X o td) (hi : PE X i ty) (hv : PE X value tv) (hs : swapsWith value (some (.Subscript o i pos')) pos.line X.env = pure false) :
    PS X (.Assign [.Subscript o i pos'] value pos) (sDPut td ty tv) := by
  intro pins s σ H D I h
  refine wpAny_Assign_Subscript (thn (hv pins s σ H _ I h) fun r s1 ⟨v, H1, I1, rv, q1⟩ => thn (ho pins s1 σ H1 _ I1 q1) fun u s2 ⟨x, H2, I2, rx, q2⟩ => thn (hi pins s2 σ H2 _ I2 q2) fun iv s3 ⟨y, H3, I3, ry, a, H4, ex, g, q3⟩ => ?_) hs
  subst ex
  obtain rfl : u = Value.ref a := rx
  exact d_setItem hu I3 g ry rv fun s4 I4 => ⟨σ, H4, I4, q3⟩
end
end L2
namespace HT
open PySem PyProof.Rows
def lexLt : List Int → List Int → Bool
  | [], [] => false
  | [], _ :: _ => true
  | _ :: _, [] => false
  | x :: xs, y :: ys => if x = y then lexLt xs ys else decide (x < y)
section
open PySem.SeqAt
open PySem.MeetsSeq PySem.MeetsSeq2 PySem.MeetsSeq3
end
section
variable {prog : Program} {w : World} {A : Around} {E : Value → Shared → Prop} {s : Shared}
theorem cat_tup {t b : Addr} {vs ws : List Value} {Q : Value → Shared → Prop} (ht : IsTup s.heap t vs.toArray) (hb : IsTup s.heap b ws.toArray) (hv : vs ≠ [])
    (h1 : ws = [] → Q (.ref t) s) (h2 : ws ≠ [] → Q (.ref s.heap.objs.size) { s with heap := s.heap.push { cls := .type "tuple", data := .seq (vs ++ ws).toArray } })
    (hsz : vs.length + ws.length ≤ sizeLine) : wpAny (model prog w) A (binaryOp .Add (.ref t) (.ref b)) Q E s := by
  obtain ⟨⟨cls, dd, data, sl⟩, ho, hc, n, hd⟩ := id ht
  obtain ⟨⟨cls2, dd2, data2, sl2⟩, ho2, hc2, n2, hd2⟩ := id hb
  simp only at hc hd hc2 hd2
  subst hc hd hc2 hd2
  have e : vs.toArray ++ ws.toArray = (vs ++ ws).toArray := by simp
  by_cases hw : ws = []
  · exact concat_meets ⟨_, ho, rfl⟩ ⟨_, ho2, rfl⟩ noFill_tuple_add seq_tuple_add PySem.F.slot_tuple_add PySem.F.entry_tuple_add (PySem.F.args_tuple_add_2 _ _)
      (tuple_addW1 t b vs.toArray ws.toArray n n2 dd dd2 sl sl2 (by simpa using hv) (by simp [hw])) ⟨ho, ho2, h1 hw⟩
  · refine concat_meets ⟨_, ho, rfl⟩ ⟨_, ho2, rfl⟩ noFill_tuple_add seq_tuple_add PySem.F.slot_tuple_add PySem.F.entry_tuple_add (PySem.F.args_tuple_add_2 _ _)
      (tuple_addW2 t b vs.toArray ws.toArray n n2 dd dd2 sl sl2 (by simpa using hv) (by simpa using hw) (by rw [List.size_toArray, List.size_toArray]; exact hsz)) ⟨ho, ho2, ?_⟩
    rw [e]
    exact h2 hw
def sIx (n d : Nat) : Option Int → Nat
  | none => d
  | some v => if v < 0 then (v + (n : Int)).toNat else min v.toNat n
theorem sIx_le (n d : Nat) (hd : d ≤ n) (o : Option Int) : sIx n d o ≤ n := by
  cases o with
  | none => exact hd
  | some v =>
    show (if v < 0 then (v + (n : Int)).toNat else min v.toNat n) ≤ n
    by_cases hv : v < 0
    · rw [if_pos hv]; omega
    · rw [if_neg hv]; exact Nat.min_le_right _ _
theorem clip_eq (v : Int) (n d : Nat) : (if v < 0 then max (v + (n : Int)) 0 else min v (n : Int)) = ((sIx n d (some v) : Nat) : Int) := by
  show (if v < 0 then max (v + (n : Int)) 0 else min v (n : Int)) = (((if v < 0 then (v + (n : Int)).toNat else min v.toNat n) : Nat) : Int)
  by_cases hv : v < 0
  · simp only [if_pos hv]; omega
  · simp only [if_neg hv]; omega
theorem adjust_gen (lo hi : Option Int) (n : Nat) : Builtin.Slice.sliceAdjust lo hi 1 (n : Int) = (((sIx n 0 lo : Nat) : Int), ((sIx n n hi : Nat) : Int)) := by
  have h1 : ¬ ((1 : Int) < 0) := by omega
  unfold Builtin.Slice.sliceAdjust
  simp only [h1, if_false]
  refine Prod.ext ?_ ?_
  · cases lo with
    | none => rfl
    | some v => exact clip_eq v n 0
  · cases hi with
    | none => rfl
    | some v => exact clip_eq v n n
theorem places_gen (i j : Nat) : Builtin.Slice.slicePlaces (i : Int) (j : Int) 1 = j - i := by
  unfold Builtin.Slice.slicePlaces
  have h1 : (1 : Int) > 0 := by omega
  simp only [h1, if_true, Int.ediv_one]
  split <;> omega
theorem slicePart_ {v : Value} {o : Option Int} {Q : Option Int → Shared → Prop} (p : IsPart v o) (h : Q o s) : wpAny (model prog w) A (Builtin.Slice.slicePartIndex v) Q E s := by
  cases p with
  | none => exact slicePart_none h
  | int i t => exact slicePart_int h
theorem sliceApplied_gen {sl : Addr} {vl vu : Value} {lo hi : Option Int} {n : Nat} {Q : Int × Int × Nat → Shared → Prop} (hs : s.heap.IsSliceOf sl vl vu .none) (pl : IsPart vl lo) (pu : IsPart vu hi)
    (h : Q (((sIx n 0 lo : Nat) : Int), 1, sIx n n hi - sIx n 0 lo) s) : wpAny (model prog w) A (Builtin.Slice.sliceApplied (.ref sl) (pure (n : Int))) Q E s := by
  obtain ⟨os, hos, hcs, hds⟩ := id hs
  unfold Builtin.Slice.sliceApplied Builtin.Slice.sliceFields
  refine wpAny_bind (wpAny_bind (wpAny_field hos hds (x := vl) rfl (wpAny_bind (wpAny_field hos hds (x := vu) rfl (wpAny_bind (wpAny_field hos hds (x := .none) rfl (wpAny_pure ?_)))))))
  refine wpAny_bind (slicePart_none ?_)
  show wpAny _ _ (if ((1 : Int) == 0) = true then _ else _) _ _ s
  rw [if_neg (by decide)]
  refine wpAny_bind (slicePart_ pl (wpAny_bind (slicePart_ pu (wpAny_bind (wpAny_pure ?_)))))
  show wpAny _ _ (match Builtin.Slice.sliceAdjust lo hi 1 (n : Int) with | (lo, hi) => pure (lo, (1 : Int), Builtin.Slice.slicePlaces lo hi 1)) _ _ s
  rw [adjust_gen lo hi n]
  show wpAny _ _ (pure (((sIx n 0 lo : Nat) : Int), (1 : Int), Builtin.Slice.slicePlaces ((sIx n 0 lo : Nat) : Int) ((sIx n n hi : Nat) : Int) 1)) _ _ s
  rw [places_gen]
  exact wpAny_pure h
theorem pick_gen (xs : Array Value) (i k : Nat) : ((List.range k).filterMap fun (m : Nat) => xs[((i : Int) + (m : Int) * 1).toNat]?).toArray = ((xs.toList.drop i).take k).toArray := by
  have e : (fun (m : Nat) => xs[((i : Int) + (m : Int) * 1).toNat]?) = fun m => xs[i + m]? := by
    funext m
    have : ((i : Int) + (m : Int) * 1).toNat = i + m := by omega
    rw [this]
  rw [e]
  have := pick_run xs i k
  rw [List.filterMap_map] at this
  have e2 : ((fun x => xs[x]?) ∘ fun x => i + x) = fun m => xs[i + m]? := rfl
  rw [e2] at this
  rw [this]
theorem getItem_tuple_cut {t sl : Addr} {items : Array Value} {vl vu : Value} {lo hi : Option Int} {Q : Value → Shared → Prop} (ht : IsTup s.heap t items) (hs : s.heap.IsSliceOf sl vl vu .none) (pl : IsPart vl lo) (pu : IsPart vu hi)
    (hw : ¬ (sIx items.size 0 lo = 0 ∧ sIx items.size items.size hi = items.size))
    (h : Q (.ref s.heap.objs.size) { s with heap := s.heap.push { cls := .type "tuple", data := .seq ((items.toList.drop (sIx items.size 0 lo)).take (sIx items.size items.size hi - sIx items.size 0 lo)).toArray } })
    (hsz : items.size ≤ sizeLine) : wpAny (model prog w) A (getItem (.ref t) (.ref sl)) Q E s := by
  have htake : sizeOk (.seq ((items.toList.drop (sIx items.size 0 lo)).take (sIx items.size items.size hi - sIx items.size 0 lo)).toArray) := by
    show ((items.toList.drop (sIx items.size 0 lo)).take (sIx items.size items.size hi - sIx items.size 0 lo)).toArray.size ≤ sizeLine
    rw [List.size_toArray, List.length_take, List.length_drop, Array.length_toList]
    omega
  have hj : sIx items.size items.size hi ≤ items.size := sIx_le _ _ (Nat.le_refl _) hi
  obtain ⟨os, hos, hcs, hds⟩ := id hs
  have hTs : s.TypeIs (.ref sl) "slice" := ⟨os, hos, hcs⟩
  unfold getItem
  try with_reducible refine wpAny_holding ?_
  first | refine wpAny_bind (wpAny_pure ?_) | skip
  refine wpAny_bind (wpAny_sequenceKey ht.typeIs (by decide) ?_)
  refine wpAny_bind (wpAny_callSpecial?_slot (name := Str.ofString "__getitem__") ht.typeIs PyProof.Rows.slot_tuple_getitem
    (wpAny_call_entry PyProof.Rows.slot_tuple_getitem ht.typeIs entry_tuple_getitem ?_ (args_tuple_getitem _ _)))
  show wpAny _ _ (Builtin.Tuple.tupleItemsOf (.ref t) >>= _) _ _ s
  refine wpAny_bind (tupleItemsOf_ ht ?_)
  refine wpAny_bind (wpAny_typeOf hTs ?_)
  rw [if_pos (by decide)]
  refine wpAny_bind (sliceApplied_gen hs pl pu ?_)
  have hno : ¬ ((((sIx items.size 0 lo : Nat) : Int) == 0 && (1 : Int) == 1 && (sIx items.size items.size hi - sIx items.size 0 lo) == items.size) = true) := by
    intro q
    rw [Bool.and_eq_true, Bool.and_eq_true] at q
    have q1 : ((sIx items.size 0 lo : Nat) : Int) = 0 := eq_of_beq q.1.1
    have q2 : sIx items.size items.size hi - sIx items.size 0 lo = items.size := eq_of_beq q.2
    exact hw ⟨by omega, by omega⟩
  show wpAny _ _ (if (((sIx items.size 0 lo : Nat) : Int) == 0 && (1 : Int) == 1 && (sIx items.size items.size hi - sIx items.size 0 lo) == items.size) = true then _ else _) _ _ s
  rw [if_neg hno, pick_gen]
  first
    | exact wpAny_bind (m := Builtin.Tuple.tupleExact _) (wpAny_newObj_type (wpAny_pure ⟨_, rfl, wpAny_pure h⟩) htake)
    | exact wpAny_bind (m := Builtin.Tuple.tupleExact _) (wpAny_newObj_type (wpAny_bind (wpAny_pure (wpAny_pure ⟨_, rfl, wpAny_pure h⟩))) htake)
    | exact wpAny_bind (wpAny_bind (m := Builtin.Tuple.tupleExact _) (wpAny_newObj_type (wpAny_pure (wpAny_pure ⟨_, rfl, wpAny_pure h⟩)) htake))
    | exact wpAny_bind (wpAny_bind (m := Builtin.Tuple.tupleExact _) (wpAny_newObj_type (wpAny_pure ⟨_, rfl, wpAny_pure h⟩) htake))
end
end HT
namespace L2
open PySem PySem.Spec PyProof.Rows
abbrev TO := St → Hp → (Option Int → Hp → Prop) → Prop
def PO (X : Cx) (e : Option Expr) (t : TO) : Prop :=
  ∀ (pins : List (Addr × Obj)) (s : Shared) (σ : St) (H : Hp) (Q : Option Int → Hp → Prop), Inv X pins σ H s → t σ H Q →
    wpAny (model X.prog X.w) X.A (evalPart e X.env) (fun u s' => ∃ o H', Inv X pins σ H' s' ∧ IsPart u o ∧ Q o H') X.xe s
def tNoPart : TO := fun _ H Q => Q none H
def tPart (t : TE) : TO := fun σ H Q => t σ H fun x H1 => ∃ i, x = .int i ∧ Q (some i) H1
theorem intsAre_of {ns : List Int} : ∀ {us : List Value}, Vals (ns.map V.int) us → IntsAre us ns := by
  induction ns with
  | nil => intro us r; rw [List.map_nil] at r; cases r; exact .nil
  | cons n ns ih =>
    intro us r
    rw [List.map_cons] at r
    cases r with
    | cons r1 r2 =>
      obtain ⟨t, e⟩ := r1
      subst e
      exact .cons n t (ih r2)
section
variable {X : Cx} {e : Expr} {te : TE} {lo hi : Option Expr} {tl th : TO} {pos p2 : Pos}
theorem po_none : PO X none tNoPart := by
  intro pins s σ H Q I h
  rw [evalPart_none]
  exact wpAny_pure ⟨none, H, I, .none, h⟩
theorem po_some (h : PE X e te) : PO X (some e) (tPart te) := by
  intro pins s σ H Q I hw
  rw [evalPart_some]
  refine thn (h pins s σ H _ I hw) fun u s1 ⟨x, H1, I1, r1, q1⟩ => ?_
  obtain ⟨i, rfl, q⟩ := q1
  obtain ⟨t, rfl⟩ := r1
  exact ⟨some i, H1, I1, .int i t, q⟩
def SlR (X : Cx) (r : V → Option Int → Option Int → Hp → VK → Prop) : Prop :=
  ∀ (pins : List (Addr × Obj)) (s : Shared) (σ : St) (H : Hp) (x : V) (v vl vu : Value) (lo hi : Option Int) (sl : Addr) (Q : VK), Inv X pins σ H s → RelV x v → s.heap.IsSliceOf sl vl vu .none → IsPart vl lo → IsPart vu hi → r x lo hi H Q →
    ∃ T id, typeLookup (.type T) "__getitem__" = pure (some (.builtin id)) ∧ s.TypeIs v T ∧ wpAny (model X.prog X.w) X.A (getItem v (.ref sl)) (EP X pins σ Q) X.xe s
def tSl (r : V → Option Int → Option Int → Hp → VK → Prop) (te : TE) (tl th : TO) : TE := fun σ H Q => te σ H fun x H1 => tl σ H1 fun l H2 => th σ H2 fun u H3 => r x l u H3 Q
theorem pe_slice {r : V → Option Int → Option Int → Hp → VK → Prop} (hr : SlR X r) (he : PE X e te) (hl : PO X lo tl) (hu : PO X hi th) : PE X (.Subscript e (.Slice lo hi none p2) pos) (tSl r te tl th) := by
  intro pins s σ H Q I h
  refine Subscript_ (thn (he pins s σ H _ I h) fun v s1 ⟨x, H1, I1, r1, q1⟩ => ?_)
  refine wpAny_Slice (thn (hl pins s1 σ H1 _ I1 q1) fun vl s2 ⟨l, H2, I2, pl, q2⟩ => thn (hu pins s2 σ H2 _ I2 q2) fun vu s3 ⟨u, H3, I3, pu, q3⟩ => ?_)
  rw [evalPart_none]
  refine wpAny_pure ?_
  have I4 : Inv X pins σ H3 { s3 with heap := s3.heap.push { cls := .type "slice", data := .fields #[vl, vu, .none] } } := I3.kept (t' := s3.toks) fun b ob q => Heap.get?_push_of_some _ q
  obtain ⟨T, id, hT, ht, hg⟩ := hr pins { s3 with heap := s3.heap.push { cls := .type "slice", data := .fields #[vl, vu, .none] } } σ H3 x v vl vu l u s3.heap.objs.size Q I4 r1 (Heap.IsSliceOf.new ..) pl pu q3
  show wpAny (model X.prog X.w) X.A (subscriptTail e (.Slice lo hi none p2) v (.ref s3.heap.objs.size)) (EP X pins σ Q) X.xe { s3 with heap := s3.heap.push { cls := .type "slice", data := .fields #[vl, vu, .none] } }
  exact tail_any (ops := [.ref s3.heap.objs.size, v]) ht hT hg (by with_unfolding_all rfl)
def cutV (xs : List V) (lo hi : Option Int) : List V := (xs.drop (HT.sIx xs.length 0 lo)).take (HT.sIx xs.length xs.length hi - HT.sIx xs.length 0 lo)
theorem cutV_length (xs : List V) (lo hi : Option Int) : (cutV xs lo hi).length ≤ xs.length := by
  unfold cutV
  rw [List.length_take, List.length_drop]
  omega
def rSlT (K : PySem.W.Frag) : V → Option Int → Option Int → Hp → VK → Prop := fun x lo hi H Q => ∃ a xs, x = .ref a ∧ SqT K H a xs ∧
  ¬ (HT.sIx xs.length 0 lo = 0 ∧ HT.sIx xs.length xs.length hi = xs.length) ∧ ∀ p, H p = none → Q (.ref p) (upd H p (.tup (cutV xs lo hi)))
theorem sl_tup : SlR X (rSlT X.K) := by
  intro pins s σ H x v vl vu lo hi sl Q I rx hs pl pu h
  obtain ⟨a, xs, rfl, hx, hw, q⟩ := h
  cases rx
  obtain ⟨its, r, ht, hz⟩ := I.tuple hx
  have hlen : its.toArray.size = xs.length := by rw [List.size_toArray]; exact r.length.symm
  refine ⟨"tuple", _, PyProof.Rows.slot_tuple_getitem.lookup, ht.typeIs, ?_⟩
  refine HT.getItem_tuple_cut ht hs pl pu (by rw [hlen]; exact hw) ?_ (by rw [hlen]; exact hz)
  rw [hlen]
  refine ⟨.ref s.heap.objs.size, _, I.laid (t' := s.toks) (o := .tup (cutV xs lo hi)) (fun b ob q => Heap.get?_push_of_some _ q) (Nat.le_refl _) ?_, rfl, q _ (I.hok.fresh (Nat.le_refl _))⟩
  exact ⟨Nat.le_trans (cutV_length xs lo hi) hz, _, (r.drop (HT.sIx xs.length 0 lo)).take (HT.sIx xs.length xs.length hi - HT.sIx xs.length 0 lo), IsTupN.new _ _⟩
def rCatT (K : PySem.W.Frag) : R2 := fun x y H Q => ∃ a b xs ys, x = .ref a ∧ y = .ref b ∧ SqT K H a xs ∧ SqT K H b ys ∧ xs ≠ [] ∧ xs.length + ys.length ≤ sizeLine ∧
  (ys = [] → Q (.ref a) H) ∧ (ys ≠ [] → ∀ p, H p = none → Q (.ref p) (upd H p (.tup (xs ++ ys))))
theorem Vals.nil_iff {xs : List V} {us : List Value} (r : Vals xs us) : us = [] ↔ xs = [] := by
  cases r with
  | nil => simp
  | cons _ _ => simp
theorem op_catT : OpR X (binaryOp .Add) (rCatT X.K) := by
  intro pins s σ H x y v u Q I rx ry h
  obtain ⟨a, b, xs, ys, rfl, rfl, ha, hb, hx, hz, q1, q2⟩ := h
  cases rx
  cases ry
  obtain ⟨its, r1, p1, _⟩ := I.tuple ha
  obtain ⟨its2, r2, p2, _⟩ := I.tuple hb
  refine HT.cat_tup p1 p2 (fun z => hx (r1.nil_iff.mp z)) (fun z => ⟨.ref a, H, I, rfl, q1 (r2.nil_iff.mp z)⟩) (fun z => ?_) (by rw [← r1.length, ← r2.length]; exact hz)
  refine ⟨.ref s.heap.objs.size, _, I.laid (t' := s.toks) (o := .tup (xs ++ ys)) (fun b ob q => Heap.get?_push_of_some _ q) (Nat.le_refl _) ?_, rfl, q2 (fun w => z (r2.nil_iff.mpr w)) _ (I.hok.fresh (Nat.le_refl _))⟩
  exact ⟨by rw [List.length_append]; exact hz, _, r1.append r2, IsTupN.new _ _⟩
end
end L2
namespace L2
open PySem PySem.Spec PyProof.Rows
def ixN (n : Nat) (i : Int) : Option Nat := if 0 ≤ i then (if i < n then some i.toNat else none) else if -(n : Int) ≤ i then some (i + n).toNat else none
def atI {α : Type} (xs : List α) (i : Int) : Option α := (ixN xs.length i).bind fun j => xs[j]?
theorem ixN_seq {n : Nat} {i : Int} {j : Nat} (h : ixN n i = some j) : seqIndex? i n = some j ∧ j < n ∧ -(n : Int) ≤ i ∧ i < n := by
  unfold ixN at h
  by_cases h0 : 0 ≤ i
  · rw [if_pos h0] at h
    by_cases h1 : i < n
    · rw [if_pos h1] at h
      have e : i.toNat = j := Option.some.inj h
      exact ⟨by rw [seqIndex_of h0 h1, e], by omega, by omega, h1⟩
    · rw [if_neg h1] at h; cases h
  · rw [if_neg h0] at h
    by_cases h1 : -(n : Int) ≤ i
    · rw [if_pos h1] at h
      have e : (i + n).toNat = j := Option.some.inj h
      exact ⟨by rw [seqIndex_neg (by omega) h1, e], by omega, h1, by omega⟩
    · rw [if_neg h1] at h; cases h
theorem atI_get {α : Type} {xs : List α} {i : Int} {v : α} (h : atI xs i = some v) : ∃ j, seqIndex? i xs.length = some j ∧ xs[j]? = some v ∧ j < xs.length ∧ -(xs.length : Int) ≤ i ∧ i < xs.length := by
  unfold atI at h
  cases e : ixN xs.length i with
  | none => rw [e] at h; cases h
  | some j =>
    rw [e] at h
    obtain ⟨h1, h2, h3, h4⟩ := ixN_seq e
    exact ⟨j, h1, h, h2, h3, h4⟩
def PlainIx (b : Expr) : Prop := ∀ o i, subscripted b false o i = operate [o, i] (getItem o i)
def IxR (X : Cx) (r : R2) : Prop :=
  ∀ (value slice : Expr) (pins : List (Addr × Obj)) (s : Shared) (σ : St) (H : Hp) (x y : V) (v u : Value) (Q : VK), Inv X pins σ H s → RelV x v → RelV y u → r x y H Q →
    subscripted slice false v u = operate [v, u] (getItem v u) → wpAny (model X.prog X.w) X.A (subscriptTail value slice v u) (EP X pins σ Q) X.xe s
def MtR (X : Cx) (id : String) (r : V → List V → Hp → VK → Prop) : Prop :=
  ∀ (pins : List (Addr × Obj)) (s : Shared) (σ : St) (H : Hp) (x : V) (xs : List V) (v : Value) (us : List Value) (Q : VK), Inv X pins σ H s → RelV x v → Vals xs us → r x xs H Q →
    wpAny (model X.prog X.w) X.A (call (.builtin id) (v :: us)) (EP X pins σ Q) X.xe s
section
variable {X : Cx} {a b : Expr} {ta tb : TE} {pos : Pos}
theorem pe_ix {r : R2} (hr : IxR X r) (ha : PE X a ta) (hb : PE X b tb) (hs : PlainIx b) : PE X (.Subscript a b pos) (tOp r ta tb) := by
  intro pins s σ H Q I h
  exact Subscript_ (binT ha hb I h fun v u s2 x y H2 I2 rx ry q => hr a b pins s2 σ H2 x y v u Q I2 rx ry q (hs _ _))
def rIxL (K : PySem.W.Frag) : R2 := fun x y H Q => ∃ p xs i v, x = .ref p ∧ y = .int i ∧ SqL K H p xs ∧ atI xs i = some v ∧ Q v H
def rIxT (K : PySem.W.Frag) : R2 := fun x y H Q => ∃ p xs i v, x = .ref p ∧ y = .int i ∧ SqT K H p xs ∧ atI xs i = some v ∧ Q v H
def rIxS : R2 := fun x y H Q => ∃ z i c, x = .str z ∧ y = .int i ∧ z.length ≤ sizeLine ∧ atI z.cps.toList i = some c ∧ Q (.str ⟨#[c]⟩) H
theorem ix_list : IxR X (rIxL X.K) := by
  intro value slice pins s σ H x y v u Q I rx ry h hs
  obtain ⟨p, xs, i, z, rfl, rfl, hq, he, q⟩ := h
  cases rx
  obtain ⟨t, rfl⟩ := ry
  obtain ⟨its, r, pl, hz⟩ := I.list hq
  obtain ⟨j, h1, h2, h3, h4, h5⟩ := atI_get he
  obtain ⟨w, ew, rw'⟩ := r.get h2
  have hl := r.length
  have hn := line63
  have fin : EP X pins σ Q w s := ⟨z, H, I, rw', q⟩
  by_cases h0 : 0 ≤ i
  · have hj : i.toNat = j := by
      rw [seqIndex_of h0 h5] at h1
      exact Option.some.inj h1
    exact item_listR pl.isList h0 (by omega) (by rw [hj]; simpa using ew) fin hs
  · have hj : (i + (its.toArray.size : Int)).toNat = j := by
      rw [seqIndex_neg (by omega) h4] at h1
      rw [List.size_toArray, ← hl]
      exact Option.some.inj h1
    exact subscriptTail_builtinR (x := w) pl.isList.typeIs slot_list_getitem.lookup
      (wpAny_getItem_list_neg (Q := fun r s' => r = w ∧ EP X pins σ Q r s') pl.isList (by omega) (by rw [List.size_toArray] <;> omega) (by omega) (by rw [hj]; simpa using ew) ⟨rfl, fin⟩) hs
theorem ix_tup : IxR X (rIxT X.K) := by
  intro value slice pins s σ H x y v u Q I rx ry h hs
  obtain ⟨p, xs, i, z, rfl, rfl, hq, he, q⟩ := h
  cases rx
  obtain ⟨t, rfl⟩ := ry
  obtain ⟨its, r, pl, hz⟩ := I.tuple hq
  obtain ⟨j, h1, h2, h3, h4, h5⟩ := atI_get he
  obtain ⟨w, ew, rw'⟩ := r.get h2
  have hl := r.length
  have hn := line63
  have fin : EP X pins σ Q w s := ⟨z, H, I, rw', q⟩
  exact subscriptTail_builtinR (x := w) pl.typeIs slot_tuple_getitem.lookup
    (getItem_tuple (j := j) (Q := fun r s' => r = w ∧ EP X pins σ Q r s') pl (by omega) (by omega) (by rw [List.size_toArray, ← hl]; exact h1) (by simpa using ew) ⟨rfl, fin⟩) hs
theorem ix_str : IxR X rIxS := by
  intro value slice pins s σ H x y v u Q I rx ry h hs
  obtain ⟨z, i, c, rfl, rfl, hz, he, q⟩ := h
  obtain ⟨t, rfl⟩ := rx
  obtain ⟨t', rfl⟩ := ry
  obtain ⟨j, h1, h2, h3, h4, h5⟩ := atI_get he
  have hl : z.cps.toList.length = z.length := by simp [Str.length]
  rw [hl] at h1 h4 h5
  have hn := line63
  exact tail_any (typeIs_str s z t) slot_str_getitem.lookup (getItem_str (c := c) (by
    have e1 : decide (i < -(2 ^ 63 : Int)) = false := decide_eq_false (by omega)
    have e2 : decide (i ≥ 2 ^ 63) = false := decide_eq_false (by omega)
    rw [e1, e2, Bool.or_false]) (by rw [h1]; simpa using h2) ⟨.str ⟨#[c]⟩, H, I.tok _, ⟨_, rfl⟩, q⟩) hs
theorem mapSeq_set (its : List Value) (n j : Nat) (u : Value) : Obj.mapSeq (·.setIfInBounds j u) { cls := .type "list", data := .seq its.toArray n } = { cls := .type "list", data := .seq (its.set j u).toArray n } := by
  simp [Obj.mapSeq]
theorem Inv.lst {pins : List (Addr × Obj)} {σ : St} {H : Hp} {s : Shared} {p : Addr} {xs : List V} (I : Inv X pins σ H s) (h : H p = some (.lst xs)) :
    ∃ (its : List Value) (n : Nat), Vals xs its ∧ s.heap.get? p = some { cls := .type "list", data := .seq its.toArray n } ∧ xs.length ≤ sizeLine := by
  obtain ⟨z, its, n, r, e⟩ := I.hok p _ h
  exact ⟨its, n, r, e, z⟩
theorem Inv.lstUpd {pins : List (Addr × Obj)} {σ : St} {H : Hp} {s : Shared} {p : Addr} {xs ys : List V} {its its' : List Value} {n n' : Nat} {f : Obj → Obj} (I : Inv X pins σ H s) (h : H p = some (.lst xs))
    (ho : s.heap.get? p = some { cls := .type "list", data := .seq its.toArray n }) (hf : f { cls := .type "list", data := .seq its.toArray n } = { cls := .type "list", data := .seq its'.toArray n' }) (r : Vals ys its') (hz : ys.length ≤ sizeLine) (t : Nat) :
    Inv X pins σ (upd H p (.lst ys)) { s with heap := s.heap.update p f, toks := t } := by
  have e : (s.heap.update p f).get? p = some { cls := .type "list", data := .seq its'.toArray n' } := by
    rw [Heap.get?_update_self f ho (by rw [hf] <;> rfl), hf]
  refine I.write (x := p) (e := p) (by rw [h]; trivial) (.inl rfl) (fun b u hb q => (Heap.get?_update_other _ _ (Ne.symm hb)).trans q) ⟨_, e⟩ ?_
  exact ⟨hz, its', n', r, e⟩
def rSetL : V → V → V → Hp → (Hp → Prop) → Prop := fun o i v H Q => ∃ p xs k j, o = .ref p ∧ i = .int k ∧ H p = some (.lst xs) ∧ ixN xs.length k = some j ∧ Q (upd H p (.lst (xs.set j v)))
theorem set_list : PSet X rSetL := by
  intro pins s σ H o i v ov iv u Q I ro ri rv h
  obtain ⟨p, xs, k, j, rfl, rfl, hp, hj, q⟩ := h
  cases ro
  obtain ⟨t, rfl⟩ := ri
  obtain ⟨its, n, r, ho, hz⟩ := I.lst hp
  obtain ⟨h1, h2, h3, h4⟩ := ixN_seq hj
  have hl := r.length
  have hn := line63
  have I' : Inv X pins σ (upd H p (.lst (xs.set j v))) { s with heap := s.heap.update p (Obj.mapSeq (·.setIfInBounds j u)) } :=
    I.lstUpd hp ho (mapSeq_set its n j u) (r.set rv j) (by rw [List.length_set]; exact hz) s.toks
  by_cases h0 : 0 ≤ k
  · have hk : k.toNat = j := by
      rw [seqIndex_of h0 h4] at h1
      exact Option.some.inj h1
    exact PySem.W.ki_setAt ho h0 (by omega) (by rw [List.size_toArray, ← hl]; exact h4) (by rw [hk]; exact ⟨_, I', q⟩)
  · have hk : (k + (its.toArray.size : Int)).toNat = j := by
      rw [seqIndex_neg (by omega) h3] at h1
      rw [List.size_toArray, ← hl]
      exact Option.some.inj h1
    exact PySem.W.ki_setBack ho (by omega) (by rw [List.size_toArray, ← hl]; exact h3) (by omega) (by rw [hk]; exact ⟨_, I', q⟩)
theorem slice_bounds (lo hi : Option Int) (n : Nat) : (sliceBounds lo hi none n).1 = ((HT.sIx n 0 lo : Nat) : Int) ∧ (sliceBounds lo hi none n).2.1 = ((HT.sIx n n hi : Nat) : Int) ∧ (sliceBounds lo hi none n).2.2 = 1 := by
  refine ⟨?_, ?_, rfl⟩
  · cases lo with
    | none => simp [sliceBounds, HT.sIx]
    | some i =>
      simp only [sliceBounds, HT.sIx, Option.getD_none, show (1 : Int) > 0 by decide, if_true]
      by_cases h : i < 0
      · simp only [h, if_true] <;> omega
      · simp only [h, if_false] <;> omega
  · cases hi with
    | none => simp [sliceBounds, HT.sIx]
    | some i =>
      simp only [sliceBounds, HT.sIx, Option.getD_none, show (1 : Int) > 0 by decide, if_true]
      by_cases h : i < 0
      · simp only [h, if_true] <;> omega
      · simp only [h, if_false] <;> omega
theorem slicePick_cut (its : List Value) (lo hi : Option Int) : slicePick its.toArray lo hi none = ((its.drop (HT.sIx its.length 0 lo)).take (HT.sIx its.length its.length hi - HT.sIx its.length 0 lo)).toArray := by
  obtain ⟨h1, h2, h3⟩ := slice_bounds lo hi its.toArray.size
  unfold slicePick
  rw [h1, h2, h3]
  simp only [sliceRange_one, pick_run, List.size_toArray] <;> rfl
def rSlL (K : PySem.W.Frag) : V → Option Int → Option Int → Hp → VK → Prop := fun x lo hi H Q => ∃ a xs, x = .ref a ∧ SqL K H a xs ∧ ∀ p, H p = none → Q (.ref p) (upd H p (.lst (cutV xs lo hi)))
theorem sl_list : SlR X (rSlL X.K) := by
  intro pins s σ H x v vl vu lo hi sl Q I rx hs pl pu h
  obtain ⟨a, xs, rfl, hx, q⟩ := h
  cases rx
  obtain ⟨its, r, ht, hz⟩ := I.list hx
  have hlen := r.length
  refine ⟨"list", _, slot_list_getitem.lookup, ht.isList.typeIs, ?_⟩
  refine wpAny_getItem_list_slice ht.isList hs pl pu .none (by simp) ?_ (by rw [List.size_toArray] <;> omega)
  rw [slicePick_cut, ← hlen]
  refine ⟨.ref s.heap.objs.size, _, I.laid (t' := s.toks) (o := .lst (cutV xs lo hi)) (fun b ob q => Heap.get?_push_of_some _ q) (Nat.le_refl _) ?_, rfl, q _ (I.hok.fresh (Nat.le_refl _))⟩
  exact ⟨Nat.le_trans (cutV_length xs lo hi) hz, _, 0, (r.drop (HT.sIx xs.length 0 lo)).take (HT.sIx xs.length xs.length hi - HT.sIx xs.length 0 lo), Heap.get?_push_size _ rfl⟩
theorem call_len_seq : CallR X (.builtin "len") (fun xs H Q => ∃ p ys, xs = [.ref p] ∧ (SqL X.K H p ys ∨ SqT X.K H p ys) ∧ Q (.int ys.length) H) := by
  intro pins s σ H xs us Q I r h
  obtain ⟨p, ys, rfl, hq, q⟩ := h
  obtain ⟨u, rfl, rx⟩ := vals1 r
  cases rx
  have hn := line63
  rcases hq with hq | hq
  · obtain ⟨its, r', pl, hz⟩ := I.list hq
    have hlen := r'.length
    exact Calls.call_len_list pl.isList (by simp only [List.size_toArray] <;> omega) ⟨.int ys.length, H, I.tok _, ⟨s.toks + 1, by rw [List.size_toArray, hlen]⟩, q⟩
  · obtain ⟨its, r', pl, hz⟩ := I.tuple hq
    have hlen := r'.length
    exact len_tuple pl (by simp only [List.size_toArray] <;> omega) ⟨.int ys.length, H, I.tok _, ⟨s.toks + 1, by rw [List.size_toArray, hlen]⟩, q⟩
theorem call_len_str : CallR X (.builtin "len") (fun xs H Q => ∃ z, xs = [.str z] ∧ z.length ≤ sizeLine ∧ Q (.int z.length) H) := by
  intro pins s σ H xs us Q I r h
  obtain ⟨z, rfl, hz, q⟩ := h
  obtain ⟨u, rfl, t, rfl⟩ := vals1 r
  have hn := line63
  exact len_str (by omega) ⟨.int z.length, H, I.tok _, ⟨_, rfl⟩, q⟩
theorem call_tuple_of : CallR X (.type "tuple") (fun xs H Q => ∃ p ys, xs = [.ref p] ∧ ((SqL X.K H p ys ∧ ∀ l, H l = none → Q (.ref l) (upd H l (.tup ys))) ∨ (SqT X.K H p ys ∧ Q (.ref p) H))) := by
  intro pins s σ H xs us Q I r h
  obtain ⟨p, ys, rfl, h⟩ := h
  obtain ⟨u, rfl, rx⟩ := vals1 r
  cases rx
  rcases h with ⟨hq, q⟩ | ⟨hq, q⟩
  · obtain ⟨its, r', pl, hz⟩ := I.list hq
    have hlen := r'.length
    refine call_tuple_list pl.isList (fun h' kp => ?_) (by simp only [List.size_toArray] <;> omega)
    have I1 : Inv X pins σ H { s with heap := h' } := I.kept (t' := s.toks) kp
    have I2 : Inv X pins σ (upd H h'.objs.size (.tup ys)) { s with heap := h'.push { cls := .type "tuple", data := .seq its.toArray } } :=
      I1.laid (t' := s.toks) (fun b o e => Heap.get?_push_of_some _ e) (Nat.le_refl _) (show ObjOk X.prog X.w _ _ _ (.tup ys) from ⟨hz, its, r', IsTupN.new _ _⟩)
    exact ⟨.ref h'.objs.size, _, I2, rfl, q _ (I1.hok.fresh (Nat.le_refl _))⟩
  · obtain ⟨its, r', pl, hz⟩ := I.tuple hq
    exact call_tuple_same pl ⟨.ref p, H, I, rfl, q⟩
def tyV (K : PySem.W.Frag) (T : String) (x : V) (H : Hp) : Prop := match x with
  | .str _ => T = "str"
  | .int _ => T = "int"
  | .ref p => (T = "list" ∧ ∃ xs, SqL K H p xs) ∨ (T = "tuple" ∧ ∃ o, K.lookup p = some o ∧ o.cls = .type "tuple" ∧ o.dict = none) ∨
      (T = "dict" ∧ ((∃ kvs, H p = some (.dK kvs)) ∨ ∃ kvs, H p = some (.dT kvs))) ∨ (T = "set" ∧ ∃ S n, H p = some (.set S n))
  | _ => False
theorem tyV_is {pins : List (Addr × Obj)} {σ : St} {H : Hp} {s : Shared} {T : String} {x : V} {v : Value} (I : Inv X pins σ H s) (r : RelV x v) (ty : tyV X.K T x H) :
    s.TypeIs v T ∧ ∀ a, v = .ref a → ∃ ob, s.heap.get? a = some ob ∧ ob.dict = none := by
  cases x with
  | str z =>
    obtain ⟨t, rfl⟩ := r
    cases (show T = "str" from ty)
    exact ⟨typeIs_str s z t, fun _ e => nomatch e⟩
  | int i =>
    obtain ⟨t, rfl⟩ := r
    cases (show T = "int" from ty)
    exact ⟨typeIs_int s i t, fun _ e => nomatch e⟩
  | ref p =>
    cases r
    rcases ty with ⟨rfl, xs, hq⟩ | ⟨rfl, o, hk, hc, hd⟩ | ⟨rfl, hk⟩ | ⟨rfl, S, n, hk⟩
    · obtain ⟨its, _, pl, _⟩ := I.list hq
      refine ⟨pl.isList.typeIs, fun a e => ?_⟩
      cases e
      obtain ⟨o, n, e, c, hd, _⟩ := pl
      exact ⟨o, e, hd⟩
    · refine ⟨⟨o, I.kIn p o hk, hc⟩, fun a e => ?_⟩
      cases e
      exact ⟨o, I.kIn _ o hk, hd⟩
    · have z : ∃ o, s.heap.get? p = some o ∧ o.ExactDict := by
        rcases hk with ⟨kvs, hk⟩ | ⟨kvs, hk⟩
        · obtain ⟨_, _, _, _, o, _, _, e, ex, _⟩ := I.hok p _ hk
          exact ⟨o, e, ex⟩
        · obtain ⟨_, _, _, _, o, _, _, e, ex, _⟩ := I.hok p _ hk
          exact ⟨o, e, ex⟩
      obtain ⟨o, e, ex⟩ := z
      refine ⟨⟨o, e, ex.1⟩, fun a e2 => ?_⟩
      cases e2
      exact ⟨o, e, ex.2.1⟩
    · obtain ⟨o, _, _, _, e, ex, _⟩ := I.hok p _ hk
      refine ⟨⟨o, e, ex.1⟩, fun a e2 => ?_⟩
      cases e2
      exact ⟨o, e, ex.2.1⟩
  | _ => exact False.elim ty
def tBM (K : PySem.W.Frag) (T : String) (r : V → List V → Hp → VK → Prop) (to : TE) (t : TA) : TE := fun σ H Q => to σ H fun x H1 => tyV K T x H1 ∧ t σ H1 fun xs H2 => r x xs H2 Q
variable {o e : Expr} {es : List Expr} {to : TE} {t : TA} {name : Str} {apos cpos : Pos} {T id : String} {r : V → List V → Hp → VK → Prop}
theorem pe_bm (pa : PlainAttrs T) (slot : Slot T name id) (hty : typeOf (.builtin id) = pure (.type "method_descriptor")) (hm : MtR X id r) (ho : PE X o to) (ha : PA X (e :: es) t)
    (hbase : attributeBase o name X.env (eval o X.env) = eval o X.env := by rfl)
    (hfew : ((backTo cpos (starEach (e :: es) X.env)).all (fun x => !x.1) && (backToKw cpos (keywordEach [] X.env)).all (fun x => x.1.isSome)
      && decide ((e :: es).length + ([] : List Keyword).length + (if ([] : List Keyword).isEmpty then 0 else 1) < 30)) = true := by rfl)
    (hline : (apos.endLine == cpos.line) = true := by rfl) (hs : starEach (e :: es) X.env = (false, eval e X.env) :: starEach es X.env := by rfl) (hplain : (backTo cpos (starEach es X.env)).any (·.1) = false := by rfl) :
    PE X (.Call (.Attribute o name apos) (e :: es) [] cpos) (tBM X.K T r to t) := by
  intro pins s σ H Q I h
  refine wpAny_Call_method_late hbase hfew hline rfl (thn (ho pins s σ H _ I h) fun v s1 ⟨x, H1, I1, r1, ty, q1⟩ => ?_)
  obtain ⟨h1, h2⟩ := tyV_is I1 r1 ty
  refine ⟨T, id, pa, slot, hty, h1, h2, ?_⟩
  have hA := ha cpos pins s1 σ H1 _ I1 q1
  rw [hs] at hA ⊢
  refine Calls.callWith_builtin (by show (false || (backTo cpos (starEach es X.env)).any (·.1)) = false; rw [hplain] <;> rfl) (Calls.evalArgs_plain ?_)
  exact thn hA fun us s2 ⟨vs, H2, I2, r2, q2⟩ => hm pins s2 σ H2 x vs v us Q I2 r1 r2 q2
end
end L2
namespace L2
open PySem PySem.Spec PyProof.Rows
def MtM (X : Cx) (id : String) (r : V → List V → Hp → VK → Prop) : Prop :=
  ∀ (pins : List (Addr × Obj)) (s : Shared) (σ : St) (H : Hp) (x : V) (xs : List V) (v : Value) (us : List Value) (Q : VK), Inv X pins σ H s → RelV x v → Vals xs us → r x xs H Q →
    wpAny (model X.prog X.w) X.A (call (.builtin id) (v :: us)) (EP X pins σ Q) X.xe s
theorem Vals.one : ∀ {x : V} {us : List Value}, Vals [x] us → ∃ u, us = [u] ∧ RelV x u
  | _, _, .cons r .nil => ⟨_, rfl, r⟩
theorem Vals.two : ∀ {x y : V} {us : List Value}, Vals [x, y] us → ∃ u v, us = [u, v] ∧ RelV x u ∧ RelV y v
  | _, _, _, .cons r (.cons q .nil) => ⟨_, _, rfl, r, q⟩
theorem Vals.reverse {xs : List V} {us : List Value} (h : Vals xs us) : Vals xs.reverse us.reverse := by
  induction h with
  | nil => exact .nil
  | cons r t ih => rw [List.reverse_cons, List.reverse_cons]; exact Vals.append ih (.cons r .nil)
section
variable {X : Cx} {pins : List (Addr × Obj)} {σ : St} {H : Hp} {s : Shared} {l b : Addr} {xs ys zs : List V}
theorem Inv.lset {its its' : List Value} {n : Nat} {f : Array Value → Array Value} {t' : Nat} (I : Inv X pins σ H s) (hH : H l = some (.lst xs))
    (e : s.heap.get? l = some { cls := .type "list", data := .seq its.toArray n }) (hf : f its.toArray = its'.toArray) (hv : Vals ys its') (hz : ys.length ≤ sizeLine) :
    Inv X pins σ (upd H l (.lst ys)) { s with heap := s.heap.update l (Obj.mapSeq f), toks := t' } := by
  have q := PySem.IsL.update e f
  rw [hf] at q
  refine I.write (x := l) (e := l) (by rw [hH]; exact trivial) (.inl rfl) (fun b' u hb hu => (Heap.get?_update_other s.heap (Obj.mapSeq f) (Ne.symm hb)).trans hu) ⟨_, q⟩ ?_
  exact ⟨hz, its', _, hv, q⟩
theorem Inv.lnew {its : List Value} {t' : Nat} (I : Inv X pins σ H s) (hv : Vals ys its) (hz : ys.length ≤ sizeLine) :
    Inv X pins σ (upd H s.heap.objs.size (.lst ys)) { s with heap := s.heap.push { cls := .type "list", data := .seq its.toArray }, toks := t' } :=
  I.laid (fun _ _ q => Heap.get?_push_of_some _ q) (Nat.le_refl _) ⟨hz, its, 0, hv, Heap.get?_push_size _ rfl⟩
theorem Inv.fresh (I : Inv X pins σ H s) : H s.heap.objs.size = none := I.hok.fresh (Nat.le_refl _)
theorem Inv.lstM (I : Inv X pins σ H s) (hH : H l = some (.lst xs)) : xs.length ≤ sizeLine ∧ ∃ (its : List Value) (n : Nat), Vals xs its ∧ xs.length = its.length ∧ s.heap.get? l = some { cls := .type "list", data := .seq its.toArray n } := by
  obtain ⟨z, its, n, r, e⟩ := I.hok l _ hH
  exact ⟨z, its, n, r, r.length, e⟩
end
section
variable {X : Cx}
def rAppend : V → List V → Hp → VK → Prop := fun x vs H Q => ∃ l xs y, x = .ref l ∧ vs = [y] ∧ H l = some (.lst xs) ∧ xs.length < sizeLine ∧ Q .non (upd H l (.lst (xs ++ [y])))
theorem mt_append : MtM X "list.append" rAppend := by
  intro pins s σ H x vs v us Q I rx rv h
  obtain ⟨l, xs, y, rfl, rfl, hH, hz, q⟩ := h
  cases rx
  obtain ⟨u, rfl, ru⟩ := rv.one
  obtain ⟨z, its, n, r, hl, e⟩ := I.lstM hH
  refine call_meets F.slot_list_append ⟨_, e, rfl⟩ F.entry_list_append (F.args_list_append_2 _ _) (PySem.list_append l its.toArray n u (by rw [List.size_toArray]; omega)) ⟨e, ?_⟩
  refine ⟨.non, _, I.lset (its' := its ++ [u]) hH e (by simp) (r.append (.cons ru .nil)) ?_, rfl, q⟩
  rw [List.length_append, List.length_singleton]
  omega
def rCat : R2 := fun x y H Q => ∃ l b xs zs, x = .ref l ∧ y = .ref b ∧ H l = some (.lst xs) ∧ H b = some (.lst zs) ∧ xs.length + zs.length ≤ sizeLine ∧ ∀ p, H p = none → Q (.ref p) (upd H p (.lst (xs ++ zs)))
theorem op_cat : OpR X (binaryOp .Add) rCat := by
  intro pins s σ H x y v u Q I rx ry h
  obtain ⟨l, b, xs, zs, rfl, rfl, hH, hB, hz, q⟩ := h
  cases rx
  cases ry
  obtain ⟨z, its, n, r, hl, e⟩ := I.lstM hH
  obtain ⟨z2, its2, n2, r2, hl2, e2⟩ := I.lstM hB
  refine PySem.P.add_list e e2 ?_ (by rw [List.size_toArray, List.size_toArray]; omega)
  have ea : its.toArray ++ its2.toArray = (its ++ its2).toArray := by simp
  rw [ea]
  exact ⟨.ref _, _, I.lnew (t' := s.toks) (r.append r2) (by rw [List.length_append]; omega), rfl, q _ I.fresh⟩
end
section
variable {prog : Program} {w : World} {A : Around} {E : Value → Shared → Prop} {s : Shared}
set_option maxRecDepth 100000 in
end
end L2
namespace Att
open PySem PySem.W PySem.Calls PyProof.Rows
theorem ints_of_wellAll {P : Params} {h : Heap} : ∀ (ns : List Int) (vs : List Value), WellAll P h vs (ns.map WData.int) → IntsAre vs ns := by
  intro ns
  induction ns with
  | nil =>
    intro vs w
    rw [List.map_nil] at w
    cases w
    exact .nil
  | cons n ns ih =>
    intro vs w
    rw [List.map_cons] at w
    cases w with
    | cons a b =>
      cases a
      exact .cons _ _ (ih _ b)
theorem script_of {l : OpenLaw} {n : Nat} (hn : l.most = some n) {P : Params} {h : Heap} {args : List WData} {vals : List Value}
    (hpre : l.row.toRowW.claim.pre args = true) (hwl : WellAll P h vals args) :
    ∃ a vs ns, vals = [Value.ref a] ∧ args = [WData.list (ns.map WData.int)] ∧ h.get? a = some { cls := .type "list", data := .seq vs.toArray } ∧ IntsAre vs ns ∧ ns.length ≤ n := by
  have hsh : WShape.hasAll [] args [.list .int] = true := (pre_splitW hpre).1
  have hc : l.pre.holds [] { args := args } = true := (pre_splitW hpre).2
  obtain ⟨d, r, rfl, h1, h2⟩ := hasAllW_cons hsh
  obtain rfl := hasAllW_nil h2
  obtain ⟨xs, rfl, h3⟩ := hasW_list h1
  obtain ⟨ns, rfl⟩ := items_int h3
  have hlen : ns.length ≤ n := by
    unfold OpenLaw.pre at hc
    have h4 : (WTm.not (.lt (.lit (.int (n : Int))) (.len (.arg 0)))).holds [] { args := [.list (ns.map .int)] } = true := by
      have h4 := (holds_andW hc).1
      rw [hn] at h4
      exact h4
    have h5 := condW_of h4 (w_not (w_lt w_lit (w_len_list (w_arg rfl))))
    rw [List.length_map] at h5
    refine Nat.le_of_not_lt fun q => ?_
    have q' : (n : Int) < ((ns.length : Nat) : Int) := by omega
    first
      | (rw [decide_eq_true q'] at h5; exact absurd h5 (by decide))
      | (simp at h5; omega)
  cases hwl with
  | cons w1 w2 =>
    cases w2
    cases w1 with
    | list ho hall => exact ⟨_, _, ns, rfl, rfl, ho, ints_of_wellAll ns _ hall, hlen⟩
theorem post_true (l : OpenLaw) (args : List WData) : l.row.toRowW.claim.post args (.bool true) args = true :=
  postW_of (r := l.row.toRowW) (X := (true == true))
    (show WShape.has [] (.bool true) .bool = true by first | rfl | decide | simp [WShape.has, WShape.arms, WShape.armsAll])
    (show (WTm.eq .res (.lit (.bool true))).value [] { args := args, res := some (.bool true), after := args } = some (.bool (true == true)) from w_eq_bool (w_res rfl) w_lit) rfl
theorem attach_call {l : OpenLaw} {n : Nat} {q : Program} {loose : List Str} {XP : (Str → Option Value) → Heap → Prop} {YP : World → Heap → Prop} {d : DefRec}
    (hn : l.most = some n) (hdf : d.params.defaults = [])
    (call : ∀ (w : World) (s₀ s₁ : Shared) (mg mb : Str → Option Value) (fa : Addr) (o : Obj) (pm cd doc : Value) (a : Addr) (vs : List Value) (ns : List Int),
      Ground q loose [] XP w s₀ mg mb s₁.heap → YP w s₁.heap →
      s₁.heap.get? fa = some o → o.data = .func (docDef d.name d.params d.body d.scope pm cd doc) → s₁.heap.CodeRec cd d.name → mg d.name = some (.ref fa) →
      s₁.heap.get? a = some { cls := .type "list", data := .seq vs.toArray } → IntsAre vs ns → ns.length ≤ n → s₁.gens = #[] →
      codeAny (model l.prog w) callerA (.call (.ref fa) ⟨[.ref a], []⟩) (fun r s' => r = .ok (.ret (.bool true)) ∧ OldK s₁.heap s'.heap ∧ s'.os = s₁.os ∧ AllBare s'.gens) s₁) :
    WalkO q loose XP YP l.row.toRowW d [] (fun f vs => PySem.call f vs) := by
  intro w s₀ s₁ mg mb G Y fa o pm cd doc dV kV ho hd hcd hD hmg hg args vals as hpre hlay hrd hwl hlo
  obtain rfl : dV = .none := Dflts.none hD hdf
  obtain rfl : kV = .none := Dflts.noKw hD
  obtain ⟨a, vs, ns, rfl, rfl, hobj, hints, hlen⟩ := script_of hn hpre hwl
  refine enter_call (codeAny_mono (call w s₀ s₁ mg mb fa o pm cd doc a vs ns G Y ho (fd_plain hd) hcd hmg hobj hints hlen hg) fun r s' hq => ?_)
  obtain ⟨rfl, h2, h3, h4⟩ := hq
  exact ⟨.inl ⟨.bool true, .bool true, [], rfl, fun _ => rfl, .bool true, post_true l _, fun _ => ⟨List.Pairwise.nil, fun _ hm => (nomatch hm)⟩⟩, h2, h3, h4⟩
end Att
namespace L2
open PySem PySem.Spec PyProof.Rows
theorem vals_ints : ∀ {vs : List Value} {ns : List Int}, IntsAre vs ns → Vals (ns.map V.int) vs
  | _, _, .nil => .nil
  | _, _, .cons n t h => .cons ⟨t, rfl⟩ (vals_ints h)
def Only (H : Hp) : Prop := ∀ b, H b = none ∨ ∃ o xs, H b = some (.frz o (.lst xs))
theorem law_call {P : Program} {w : World} {K : PySem.W.Frag} {mg mb : Str → Option Value} {CX : CXT} {k : Nat} {fa a : Addr} {fd : FuncData} {x : Str} {sp : Sp} {s₁ : Shared} {vs : List Value} {ns : List Int}
    (KX : K.In s₁.heap) (hns : s₁.heap.Ns mainGlobals mg) (hb : s₁.heap.Ns builtinsNs mb) (hbb : ∀ x : Str, x ≠ "__name__" → mb x = bootBuiltins x) (hlim : s₁.heap.NoLimit) (hg : s₁.gens = #[])
    (ha : s₁.heap.get? a = some { cls := .type "list", data := .seq vs.toArray }) (hi : IntsAre vs ns) (hl : ns.length ≤ sizeLine) (hr : Room k callerA)
    (F : ∀ base : Heap, K.In base → base.Ns mainGlobals mg → FnOk P w K mg base CX k fa fd [x] sp) (hbind : ∀ (s : Shared) (u : Value), BindsTo s fd ⟨[u], []⟩ [(x, u)])
    (hsp : ∀ H : Hp, Only H → SqL K H a (ns.map V.int) → sp [.ref a] H (fun v _ => v = .bl true) fun _ _ _ => False)
    (hCX : ∀ H e s', CX [] H s₁ (fun _ _ _ => False) e s' → False) :
    codeAny (model P w) callerA (.call (.ref fa) ⟨[.ref a], []⟩) (fun r s' => r = .ok (.ret (.bool true)) ∧ OldK s₁.heap s'.heap ∧ s'.os = s₁.os ∧ AllBare s'.gens) s₁ := by
  have rv := vals_ints hi
  have lenV := hi.length
  -- from an abstract heap in which nothing but the script may be tracked
  have core : ∀ H : Hp, Only H → SqL K H a (ns.map V.int) → HOk P w H s₁.heap → (∀ b, H b ≠ none → b = a) → (H a ≠ none → K.lookup a = none) →
      codeAny (model P w) callerA (.call (.ref fa) ⟨[.ref a], []⟩) (fun r s' => r = .ok (.ret (.bool true)) ∧ OldK s₁.heap s'.heap ∧ s'.os = s₁.os ∧ AllBare s'.gens) s₁ := by
    intro H hO hS hok hA hK
    have base_of : ∀ {b : Addr} {o : Obj}, s₁.heap.get? b = some o → H b = none → (hidT s₁.heap H).get? b = some o := fun e n => hidT_get e n
    have noA : ∀ {b : Addr} {o : Obj} {es : Array DictEntry} {ep : Nat}, s₁.heap.get? b = some o → o.data = .dict es ep → H b = none := fun {b o es ep} e d => by
      cases q : H b with
      | none => rfl
      | some u =>
        have e' : b = a := hA b (by rw [q]; simp)
        subst e'
        rw [ha] at e; cases e
        have d' : Data.seq vs.toArray _ = Data.dict es ep := d
        cases d'
    have nsK : ∀ {b : Addr} {m : Str → Option Value}, s₁.heap.Ns b m → (hidT s₁.heap H).Ns b m := fun {b m} ⟨o, es, ep, e, d, r⟩ => ⟨o, es, ep, base_of e (noA e d), d, r⟩
    have hKb : K.In (hidT s₁.heap H) := fun b o e => base_of (KX b o e) (by
      cases q : H b with
      | none => rfl
      | some u =>
        have e' : b = a := hA b (by rw [q]; simp)
        subst e'
        rw [hK (by rw [q]; simp)] at e; cases e)
    have hM : Mod K mg (hidT s₁.heap H) := ⟨hKb, nsK hns, ⟨mb, nsK hb, hbb⟩, let ⟨mc, h1, h2⟩ := hlim; ⟨mc, nsK h1, h2⟩⟩
    have e0 : Env0 P w K mg (hidT s₁.heap H) callerA [] s₁ H := ⟨rfl, hM, fun b o e => of_hidT e, Nat.le_of_eq (hidT_size _ _), trivial, fun b hb => absurd (show b ∈ ([] : List Addr) from hb) (by simp), hok, .of_eq hg⟩
    refine codeAny_mono ((F _ hKb (nsK hns)).run callerA [] s₁ H ⟨[.ref a], []⟩ [.ref a] [.ref a] _ _ hr e0 (hbind s₁ (.ref a)) (.cons rfl .nil) (hsp H hO hS)) fun r s' h => ?_
    cases r with
    | error e => exact (hCX H e s' h).elim
    | ok fl =>
      cases fl with
      | next => exact False.elim h
      | brk => exact False.elim h
      | cont => exact False.elim h
      | ret u =>
        obtain ⟨v, H', os, bare, un, hok', r', q⟩ := h
        have q' : v = .bl true := q
        subst q'
        obtain rfl : u = Value.bool true := r'
        refine ⟨rfl, OldK.of_keep fun b o e => ?_, os, bare⟩
        cases q : H b with
        | none => exact un.keep b o e q (by intro z; exact absurd (show b ∈ ([] : List Addr) from z) (by simp)) (by simp)
        | some u =>
          rcases hO b with z | ⟨ob, xs, z⟩
          · rw [q] at z; cases z
          · have z2 := un.frzs b ob _ z
            obtain ⟨e1, _⟩ := hok b _ z
            obtain ⟨e2, _⟩ := hok' b _ z2
            rw [e] at e1; cases e1
            exact e2
  cases hk : K.lookup a with
  | some o =>
    -- the script is one of the module's own objects
    have e := KX a o hk
    rw [ha] at e
    cases e
    refine core (fun _ => none) (fun _ => .inl rfl) (.inr ⟨_, vs.toArray, _, hk, rfl, rfl, rfl, by rw [List.size_toArray, lenV]; exact hl, by simpa using rv⟩) (fun b u z => by have z' : (none : Option HO) = some u := z; cases z') (fun b z => absurd rfl z) fun z => absurd rfl z
  | none =>
    refine core (fun b => if b = a then some (.frz { cls := .type "list", data := .seq vs.toArray } (.lst (ns.map V.int))) else none) (fun b => ?_) (.inl (.inr ⟨{ cls := .type "list", data := .seq vs.toArray }, if_pos rfl⟩)) (fun b u z => ?_) (fun b z => ?_) fun _ => hk
    · by_cases hb : b = a
      · exact .inr ⟨_, _, if_pos hb⟩
      · exact .inl (if_neg hb)
    · by_cases hb : b = a
      · have z' := (if_pos hb).symm.trans z
        cases z'
        subst hb
        exact ⟨ha, by rw [List.length_map]; exact hl, vs, _, rv, ha⟩
      · have z' := (if_neg hb).symm.trans z
        cases z'
    · by_cases hb : b = a
      · exact hb
      · exact absurd (if_neg hb) z
end L2
namespace L2
open PySem PySem.Spec PyProof.Rows
theorem walk_of {l : PySem.W.OpenLaw} {n k : Nat} {q : Program} {loose : List Str} {XP : (Str → Option Value) → Heap → Prop} {YP : World → Heap → Prop} {d : DefRec} {K : Params → PySem.W.Frag} {CX : World → CXT} {sp : World → Sp} {x : Str}
    (hn : l.most = some n) (hn2 : n ≤ sizeLine) (hdf : d.params.defaults = []) (hr : Room k callerA)
    (hY : ∀ (w : World) (h : Heap), YP w h → (K w.params).In h)
    (F : ∀ (w : World) (mg : Str → Option Value) (fa : Addr) (h : Heap), (K w.params).In h → h.Ns mainGlobals mg → mg d.name = some (.ref fa) →
      ∃ fd : FuncData, (∀ (s : Shared) (u : Value), BindsTo s fd ⟨[u], []⟩ [(x, u)]) ∧
        ∀ base : Heap, (K w.params).In base → base.Ns mainGlobals mg → FnOk l.prog w (K w.params) mg base (CX w) k fa fd [x] (sp w))
    (hsp : ∀ (w : World) (H : Hp) (a : Addr) (ns : List Int), ns.length ≤ n → Only H → SqL (K w.params) H a (ns.map V.int) → sp w [.ref a] H (fun v _ => v = .bl true) fun _ _ _ => False)
    (hCX : ∀ (w : World) (H : Hp) (s : Shared) (e : Value) (s' : Shared), CX w [] H s (fun _ _ _ => False) e s' → False) :
    PySem.W.WalkO q loose XP YP l.row.toRowW d [] (fun f vs => PySem.call f vs) := by
  refine Att.attach_call hn hdf fun w s₀ s₁ mg mb fa o pm cd doc a vs ns G Y ho hd hcd hmg hobj hints hlen hg => ?_
  have KX := hY w _ Y
  obtain ⟨fd, hb, hF⟩ := F w mg fa _ KX G.T.g hmg
  exact law_call KX G.T.g G.T.b G.T.builtins G.T.nolimit hg hobj hints (Nat.le_trans hlen hn2) hr hF hb (fun H hO hS => hsp w H a ns hlen hO hS) fun H e s' => hCX w H s₁ e s'
end L2
namespace L2
open PySem PySem.Spec PyProof.Rows
def defArgs (s : Stmt) : Arguments := match s with
  | .FunctionDef _ a _ _ _ _ _ _ _ _ => a
  | _ => { posonlyargs := [], args := [], vararg := none, kwonlyargs := [], kw_defaults := [], kwarg := none, defaults := [] }
def defBody (s : Stmt) : List Stmt := match s with
  | .FunctionDef _ _ b _ _ _ _ _ _ _ => b
  | _ => []
def defScope (s : Stmt) : Scope := match s with
  | .FunctionDef _ _ _ _ _ _ sc _ _ _ => sc
  | _ => { kind := .function, names := [], isGenerator := false, isCoroutine := false }
abbrev CX0 : CXT := fun _ _ _ _ _ _ => False
abbrev E0 : XK := fun _ _ _ => False
theorem pass0 {X : Cx} : Passes CX0 X E0 := fun _ _ _ _ _ _ _ h => h.elim
structure Fun (K : PySem.W.Frag) (x qual : Str) (st : Stmt) (f : Addr) (fd : FuncData) : Prop where
  ex : ∃ (oc : Value) (od : Option Addr) (kV doc pm : Value) (an : Option Addr) (cdv ct : Value) (osl : Array (Option Value)),
    fd = PySem.W.fnOf x qual (defArgs st) (defBody st) (defScope st) .none kV doc pm an cdv ct ∧ K.lookup f = some ⟨oc, od, .func fd, osl⟩ ∧ PySem.W.codeIn K cdv qual = true
  kp : PySem.W.keepIn K (.ref f) = true
section
variable {P : Program} {w : World} {K : PySem.W.Frag} {mg : Str → Option Value} {base : Heap}
theorem Fun.ok {x qual : Str} {st : Stmt} {f : Addr} {fd : FuncData} {N ps : List Str} {k : Nat} {sp : Sp} (F : Fun K x qual st f fd) (S : FnScope N ps (defScope st)) (len : ∀ vs H Q E, sp vs H Q E → vs.length = ps.length)
    (hbody : ∀ (cdv : Value) (A : Around) (outer : List Env) (s : Shared) (H : Hp) (vs : List V) (Q : VK) (E : XK), Room k (A.deeper (envOfC qual (defScope st) s.heap.objs.size f cdv)) → sp vs H Q E →
      ∃ t, PSs (cxOf CX0 P w K mg base N qual (defScope st) f cdv A outer s H E).nox (defBody st) t ∧ t { nx := fun _ H' => Q .non H', rt := Q } (start N vs) H) : FnOk P w K mg base CX0 (k + 1) f fd ps sp := by
  obtain ⟨oc, od, kV, doc, pm, an, cdv, ct, osl, rfl, lk, hcd⟩ := F.ex
  refine fn_of lk hcd S len fun A outer s H vs Q E hr hsp => ?_
  obtain ⟨t, h, q⟩ := hbody cdv A outer s H vs Q E hr hsp
  exact ⟨t, h.nox, q⟩
theorem Fun.binds {x qual : Str} {st : Stmt} {f : Addr} {fd : FuncData} {ps : List Str} (F : Fun K x qual st f fd)
    (h : ∀ (kV doc pm : Value) (an : Option Addr) (cdv ct : Value) (us : List Value), us.length = ps.length → bindArgs (PySem.W.fnOf x qual (defArgs st) (defBody st) (defScope st) .none kV doc pm an cdv ct) ⟨us, []⟩ = pure (ps.zip us)) : Binds K fd ps [] := by
  obtain ⟨oc, od, kV, doc, pm, an, cdv, ct, osl, rfl, lk, hcd⟩ := F.ex
  exact .all (h kV doc pm an cdv ct)
theorem fun_mk {x qual : Str} {st : Stmt} {f : Addr} {oc : Value} {od an : Option Addr} {osl : Array (Option Value)} {kV doc pm cdv ct : Value} (l : K.lookup f = some ⟨oc, od, .func (PySem.W.fnOf x qual (defArgs st) (defBody st) (defScope st) .none kV doc pm an cdv ct), osl⟩)
    (c : PySem.W.codeIn K cdv qual = true) (k : PySem.W.keepIn K (.ref f) = true) : Fun K x qual st f (PySem.W.fnOf x qual (defArgs st) (defBody st) (defScope st) .none kV doc pm an cdv ct) := ⟨⟨oc, od, kV, doc, pm, an, cdv, ct, osl, rfl, l, c⟩, k⟩
end
theorem hu_of {A : Around} {k : Nat} (hr : Room k A) : A.units + 1 < cLine := Nat.lt_of_le_of_lt (Nat.add_le_add_left (by decide : 1 ≤ 64) _) hr.units
def Same (H H' : Hp) : Prop := ∀ b o, H b = some o → H' b = some o
theorem Same.refl (H : Hp) : Same H H := fun _ _ h => h
theorem Same.trans {H H1 H2 : Hp} (a : Same H H1) (b : Same H1 H2) : Same H H2 := fun c o h => b c o (a c o h)
theorem Same.free {H H' : Hp} (e : Same H H') {l : Addr} (h : H' l = Option.none) : H l = Option.none := by
  cases q : H l with
  | none => rfl
  | some o =>
    rw [e l o q] at h
    cases h
theorem Same.seq {K : PySem.W.Frag} {H H' : Hp} {a : Addr} {xs : List V} (e : Same H H') (h : SqL K H a xs) : SqL K H' a xs := by
  rcases h with (h | ⟨o, h⟩) | h
  · exact .inl (.inl (e _ _ h))
  · exact .inl (.inr ⟨o, e _ _ h⟩)
  · exact .inr h
end L2
namespace L2
open PySem PySem.Spec PyProof.Rows
end L2
set_option maxHeartbeats 4000000
namespace L2.MP
open PySem PySem.Spec PyProof.Rows
inductive D where
  | non | bl (b : Bool) | int (i : Int) | str (x : Str) | tup (xs : List D) | ref (n : Nat) | kl (xs : List D)
inductive O where
  | lst (xs : List D) | fz (xs : List D) | dk (kvs : List (Key × D)) | dt (kvs : List (List Key × D)) | fk (kvs : List (Key × D)) | ft (kvs : List (List Key × D))
abbrev Sto := List O
abbrev Rho := List (Option D)
structure Kp (H H' : Hp) : Prop where
  tup : ∀ a xs, H a = some (.tup xs) → H' a = some (.tup xs)
  frz : ∀ a o u, H a = some (.frz o u) → H' a = some (.frz o u)
def SqF (K : PySem.W.Frag) (H : Hp) (a : Addr) (xs : List V) : Prop :=
  (∃ o, H a = some (.frz o (.lst xs))) ∨ ∃ (o : Obj) (its : Array Value) (n : Nat), K.lookup a = some o ∧ o.cls = .type "list" ∧ o.dict = none ∧ o.data = .seq its n ∧ its.size ≤ sizeLine ∧ Vals xs its.toList
theorem SqF.sq {K : PySem.W.Frag} {H : Hp} {a : Addr} {xs : List V} (h : SqF K H a xs) : SqL K H a xs := by
  rcases h with h | h
  · exact .inl (.inr h)
  · exact .inr h
theorem SqF.kp {K : PySem.W.Frag} {H H' : Hp} {a : Addr} {xs : List V} (T : Kp H H') (h : SqF K H a xs) : SqF K H' a xs := by
  rcases h with ⟨o, h⟩ | h
  · exact .inl ⟨o, T.frz _ _ _ h⟩
  · exact .inr h
mutual
def Rep (K : PySem.W.Frag) (H : Hp) (io : List Addr) : V → D → Prop
  | v, .non => v = .non
  | v, .bl b => v = .bl b
  | v, .int i => v = .int i
  | v, .str x => v = .str x
  | v, .tup ds => ∃ a xs, v = .ref a ∧ H a = some (.tup xs) ∧ Reps K H io xs ds
  | v, .ref n => ∃ a, v = .ref a ∧ io[n]? = some a
  | v, .kl ds => ∃ a xs, v = .ref a ∧ SqF K H a xs ∧ Reps K H io xs ds
def Reps (K : PySem.W.Frag) (H : Hp) (io : List Addr) : List V → List D → Prop
  | xs, [] => xs = []
  | xs, d :: ds => ∃ y ys, xs = y :: ys ∧ Rep K H io y d ∧ Reps K H io ys ds
end
mutual
theorem Rep.mono {K : PySem.W.Frag} {H H' : Hp} {io ka : List Addr} (T : Kp H H') : ∀ {v : V} {d : D}, Rep K H io v d → Rep K H' (io ++ ka) v d
  | _, .non, h => h
  | _, .bl _, h => h
  | _, .int _, h => h
  | _, .str _, h => h
  | _, .tup ds, h => by
    obtain ⟨a, xs, e, q, r⟩ := h
    exact ⟨a, xs, e, T.tup a xs q, Reps.mono T r⟩
  | _, .ref n, h => by
    obtain ⟨a, e, q⟩ := h
    exact ⟨a, e, by rw [List.getElem?_append_left (List.getElem?_eq_some_iff.mp q).1]; exact q⟩
  | _, .kl ds, h => by
    obtain ⟨a, xs, e, q, r⟩ := h
    exact ⟨a, xs, e, q.kp T, Reps.mono T r⟩
theorem Reps.mono {K : PySem.W.Frag} {H H' : Hp} {io ka : List Addr} (T : Kp H H') : ∀ {xs : List V} {ds : List D}, Reps K H io xs ds → Reps K H' (io ++ ka) xs ds
  | _, [], h => h
  | _, d :: ds, h => by
    obtain ⟨y, ys, e, r, rs⟩ := h
    exact ⟨y, ys, e, Rep.mono T r, Reps.mono T rs⟩
end
section
variable {K : PySem.W.Frag} {H H' H1 H2 : Hp} {io ka kb : List Addr} {st st' : Sto} {xs ys : List V} {ds es : List D}
theorem Reps.length : ∀ {xs : List V} {ds : List D}, Reps K H io xs ds → xs.length = ds.length
  | _, [], h => by rw [show _ = [] from h]; rfl
  | _, d :: ds, h => by
    obtain ⟨y, ys, e, _, rs⟩ := h
    rw [e, List.length_cons, List.length_cons, Reps.length rs]
theorem Reps.get : ∀ {xs : List V} {ds : List D} {i : Nat} {d : D}, Reps K H io xs ds → ds[i]? = some d → ∃ v, xs[i]? = some v ∧ Rep K H io v d
  | _, [], _, _, _, e => by simp at e
  | _, a :: ds, 0, d, h, e => by
    obtain ⟨y, ys, rfl, r, _⟩ := h
    have e' : a = d := by simpa using e
    subst e'
    exact ⟨y, rfl, r⟩
  | _, a :: ds, i + 1, d, h, e => by
    obtain ⟨y, ys, rfl, _, rs⟩ := h
    exact Reps.get (i := i) rs (by simpa using e)
theorem Reps.append : ∀ {xs ys : List V} {ds es : List D}, Reps K H io xs ds → Reps K H io ys es → Reps K H io (xs ++ ys) (ds ++ es)
  | _, _, [], _, h, q => by rw [show _ = [] from h]; exact q
  | _, _, d :: ds, _, h, q => by
    obtain ⟨y, ys, rfl, r, rs⟩ := h
    exact ⟨y, _, rfl, r, Reps.append rs q⟩
theorem Reps.set : ∀ {xs : List V} {ds : List D} {v : V} {d : D} (i : Nat), Reps K H io xs ds → Rep K H io v d → Reps K H io (xs.set i v) (ds.set i d)
  | _, [], _, _, _, h, _ => by rw [show _ = [] from h]; exact rfl
  | _, a :: ds, v, d, 0, h, q => by
    obtain ⟨y, ys, rfl, _, rs⟩ := h
    exact ⟨v, ys, rfl, q, rs⟩
  | _, a :: ds, v, d, i + 1, h, q => by
    obtain ⟨y, ys, rfl, r, rs⟩ := h
    exact ⟨y, _, rfl, r, Reps.set i rs q⟩
theorem Reps.take : ∀ {xs : List V} {ds : List D} (n : Nat), Reps K H io xs ds → Reps K H io (xs.take n) (ds.take n)
  | _, [], n, h => by rw [show _ = [] from h]; simp [Reps]
  | _, _ :: _, 0, _ => by simp [Reps]
  | _, d :: ds, n + 1, h => by
    obtain ⟨y, ys, rfl, r, rs⟩ := h
    exact ⟨y, _, rfl, r, Reps.take n rs⟩
theorem Reps.drop : ∀ {xs : List V} {ds : List D} (n : Nat), Reps K H io xs ds → Reps K H io (xs.drop n) (ds.drop n)
  | _, [], n, h => by rw [show _ = [] from h]; simp [Reps]
  | _, _ :: _, 0, h => h
  | _, d :: ds, n + 1, h => by
    obtain ⟨y, ys, rfl, r, rs⟩ := h
    exact Reps.drop n rs
theorem Reps.nil : Reps K H io [] [] := rfl
theorem Reps.cons {v : V} {d : D} (r : Rep K H io v d) (rs : Reps K H io xs ds) : Reps K H io (v :: xs) (d :: ds) := ⟨v, xs, rfl, r, rs⟩
theorem Reps.one {d : D} (r : Reps K H io xs [d]) : ∃ v, xs = [v] ∧ Rep K H io v d := by
  obtain ⟨y, ys, rfl, r, e⟩ := r
  cases (show ys = [] from e)
  exact ⟨y, rfl, r⟩
theorem Reps.two {d e : D} (r : Reps K H io xs [d, e]) : ∃ v u, xs = [v, u] ∧ Rep K H io v d ∧ Rep K H io u e := by
  obtain ⟨y, ys, rfl, r, q⟩ := r
  obtain ⟨v, rfl, q'⟩ := q.one
  exact ⟨y, v, rfl, r, q'⟩
abbrev KR (κ : Type) (K : PySem.W.Frag) (H : Hp) (io : List Addr) : List (κ × V) → List (κ × D) → Prop := Paired fun (p : κ × V) (q : κ × D) => p.1 = q.1 ∧ Rep K H io p.2 q.2
def OR (K : PySem.W.Frag) (H : Hp) (io : List Addr) (a : Addr) : O → Prop
  | .lst ds => ∃ xs, H a = some (.lst xs) ∧ Reps K H io xs ds
  | .fz ds => ∃ o xs, H a = some (.frz o (.lst xs)) ∧ Reps K H io xs ds
  | .dk kvs => ∃ ps, H a = some (.dK ps) ∧ KR Key K H io ps kvs
  | .dt kvs => ∃ ps, H a = some (.dT ps) ∧ KR (List Key) K H io ps kvs
  | .fk kvs => ∃ o ps, H a = some (.frz o (.dK ps)) ∧ KR Key K H io ps kvs
  | .ft kvs => ∃ o ps, H a = some (.frz o (.dT ps)) ∧ KR (List Key) K H io ps kvs
structure StR (K : PySem.W.Frag) (H : Hp) (io : List Addr) (st : Sto) : Prop where
  len : io.length = st.length
  nd : io.Nodup
  ob : ∀ (n : Nat) (a : Addr) (o : O), io[n]? = some a → st[n]? = some o → OR K H io a o
structure EnvR (K : PySem.W.Frag) (H : Hp) (io : List Addr) (σ : St) (ρ : Rho) : Prop where
  len : σ.length = ρ.length
  at_ : ∀ (i : Nat) (d : D), ρ[i]? = some (some d) → ∃ v, σ[i]? = some (some v) ∧ Rep K H io v d
structure Ext (io ka : List Addr) (H H' : Hp) : Prop where
  keep : ∀ b o, H b = some o → b ∉ io → H' b = some o
  fresh : ∀ b, b ∈ ka → H b = none
  frz : ∀ b o u, H b = some (.frz o u) → H' b = some (.frz o u)
theorem OR.stands {a : Addr} {o : O} (h : OR K H io a o) : ∃ u, H a = some u ∧ ∀ xs, u ≠ .tup xs ∧ ∀ ob, u ≠ .frz ob (.tup xs) := by
  cases o with
  | lst ds => obtain ⟨xs, e, _⟩ := h; exact ⟨_, e, fun _ => ⟨by simp, by simp⟩⟩
  | fz ds => obtain ⟨ob, xs, e, _⟩ := h; exact ⟨_, e, fun _ => ⟨by simp, by simp⟩⟩
  | dk kvs => obtain ⟨xs, e, _⟩ := h; exact ⟨_, e, fun _ => ⟨by simp, by simp⟩⟩
  | dt kvs => obtain ⟨xs, e, _⟩ := h; exact ⟨_, e, fun _ => ⟨by simp, by simp⟩⟩
  | fk kvs => obtain ⟨ob, xs, e, _⟩ := h; exact ⟨_, e, fun _ => ⟨by simp, by simp⟩⟩
  | ft kvs => obtain ⟨ob, xs, e, _⟩ := h; exact ⟨_, e, fun _ => ⟨by simp, by simp⟩⟩
theorem StR.mem (S : StR K H io st) {a : Addr} (h : a ∈ io) : ∃ u, H a = some u ∧ ∀ xs, u ≠ .tup xs ∧ ∀ ob, u ≠ .frz ob (.tup xs) := by
  obtain ⟨n, hn, e⟩ := List.getElem_of_mem h
  have h1 : io[n]? = some a := by rw [List.getElem?_eq_getElem hn, e]
  have h2 : n < st.length := by rw [← S.len]; exact hn
  exact (S.ob n a _ h1 (List.getElem?_eq_getElem h2)).stands
theorem Ext.sqT (S : StR K H io st) (E : Ext io ka H H') : ∀ a xs, H a = some (.tup xs) → H' a = some (.tup xs) := by
  intro a xs h
  refine E.keep _ _ h fun m => ?_
  obtain ⟨u, e, q⟩ := S.mem m
  rw [h] at e
  exact (q xs).1 (Option.some.inj e).symm
theorem Ext.kp (S : StR K H io st) (E : Ext io ka H H') : Kp H H' := ⟨E.sqT S, E.frz⟩
theorem Ext.refl : Ext io [] H H := ⟨fun _ _ h _ => h, fun _ h => absurd h (by simp), fun _ _ _ h => h⟩
theorem Ext.trans (S1 : StR K H1 (io ++ ka) st) (E1 : Ext io ka H H1) (E2 : Ext (io ++ ka) kb H1 H2) : Ext io (ka ++ kb) H H2 where
  keep := fun b o h n => E2.keep b o (E1.keep b o h n) fun m => by
    rcases List.mem_append.mp m with m | m
    · exact n m
    · rw [E1.fresh b m] at h; cases h
  fresh := fun b m => by
    rcases List.mem_append.mp m with m | m
    · exact E1.fresh b m
    · have h1 := E2.fresh b m
      cases e : H b with
      | none => rfl
      | some o =>
        by_cases hb : b ∈ io
        · obtain ⟨u, e', _⟩ := S1.mem (List.mem_append_left _ hb)
          rw [e'] at h1; cases h1
        · rw [E1.keep b o e hb] at h1; cases h1
  frz := fun b o u h => E2.frz b o u (E1.frz b o u h)
theorem Ext.app (E : Ext io (ka ++ []) H H') : Ext io ka H H' := by rw [List.append_nil] at E; exact E
theorem Rep.ext {v : V} {d : D} (S : StR K H io st) (E : Ext io ka H H') (h : Rep K H io v d) : Rep K H' (io ++ ka) v d := Rep.mono (E.kp S) h
theorem Reps.ext (S : StR K H io st) (E : Ext io ka H H') (h : Reps K H io xs ds) : Reps K H' (io ++ ka) xs ds := Reps.mono (E.kp S) h
theorem EnvR.ext {σ : St} {ρ : Rho} (h : EnvR K H io σ ρ) (S : StR K H io st) (E : Ext io ka H H') : EnvR K H' (io ++ ka) σ ρ :=
  ⟨h.len, fun i d e => let ⟨v, q, r⟩ := h.at_ i d e; ⟨v, q, r.ext S E⟩⟩
theorem EnvR.set {σ : St} {ρ : Rho} {v : V} {d : D} (i : Nat) (h : EnvR K H io σ ρ) (r : Rep K H io v d) : EnvR K H io (σ.set i (some v)) (ρ.set i (some d)) := by
  refine ⟨by rw [List.length_set, List.length_set]; exact h.len, fun j e q => ?_⟩
  by_cases hij : i = j
  · subst hij
    rw [List.getElem?_set] at q
    rw [if_pos rfl] at q
    split at q
    · rename_i hl
      cases (Option.some.inj (Option.some.inj q))
      exact ⟨v, by rw [List.getElem?_set, if_pos rfl, if_pos (by rw [h.len]; exact hl)], r⟩
    · cases q
  · rw [List.getElem?_set_ne hij] at q
    obtain ⟨u, q', r'⟩ := h.at_ j e q
    exact ⟨u, by rw [List.getElem?_set_ne hij]; exact q', r'⟩
theorem StR.nil (S : StR K H io st) : StR K H (io ++ []) st := by rw [List.append_nil]; exact S
theorem KR.mono {κ : Type} {ps : List (κ × V)} {kvs : List (κ × D)} (T : Kp H H') (h : KR κ K H io ps kvs) : KR κ K H' (io ++ ka) ps kvs := Paired.mapP h fun _ _ z => ⟨z.1, Rep.mono T z.2⟩
theorem OR.mono {a : Addr} {o : O} (T : Kp H H') (e : H' a = H a) (h : OR K H io a o) : OR K H' (io ++ ka) a o := by
  cases o with
  | lst ds => obtain ⟨xs, q, r⟩ := h; exact ⟨xs, e.trans q, Reps.mono T r⟩
  | fz ds => obtain ⟨ob, xs, q, r⟩ := h; exact ⟨ob, xs, e.trans q, Reps.mono T r⟩
  | dk kvs => obtain ⟨xs, q, r⟩ := h; exact ⟨xs, e.trans q, KR.mono T r⟩
  | dt kvs => obtain ⟨xs, q, r⟩ := h; exact ⟨xs, e.trans q, KR.mono T r⟩
  | fk kvs => obtain ⟨ob, xs, q, r⟩ := h; exact ⟨ob, xs, e.trans q, KR.mono T r⟩
  | ft kvs => obtain ⟨ob, xs, q, r⟩ := h; exact ⟨ob, xs, e.trans q, KR.mono T r⟩
theorem new_out {p : Addr} {o : HO} (S : StR K H io st) (hp : H p = none) : Ext io [] H (upd H p o) ∧ StR K (upd H p o) (io ++ []) st := by
  have E : Ext io [] H (upd H p o) := ⟨fun b u h _ => by rw [upd_ne (ne_of_none h hp)]; exact h, fun _ h => absurd h (by simp), fun b u v h => by rw [upd_ne (ne_of_none h hp)]; exact h⟩
  refine ⟨E, ?_⟩
  refine ⟨by rw [List.append_nil]; exact S.len, by rw [List.append_nil]; exact S.nd, fun n a ob h1 h2 => ?_⟩
  rw [List.append_nil] at h1
  obtain ⟨u, hu, _⟩ := (S.ob n a ob h1 h2).stands
  exact OR.mono (E.kp S) (upd_ne (ne_of_none hu hp)) (S.ob n a ob h1 h2)
theorem new_in {p : Addr} {o : HO} {ob : O} (S : StR K H io st) (hp : H p = none) (new : ∀ H', Kp H H' → H' p = some o → OR K H' (io ++ [p]) p ob) : Ext io [p] H (upd H p o) ∧ StR K (upd H p o) (io ++ [p]) (st ++ [ob]) := by
  have E : Ext io [p] H (upd H p o) := ⟨fun b u h _ => by rw [upd_ne (ne_of_none h hp)]; exact h, fun b h => by rw [List.mem_singleton.mp h]; exact hp, fun b u v h => by rw [upd_ne (ne_of_none h hp)]; exact h⟩
  have np : p ∉ io := fun m => by
    obtain ⟨u, hu, _⟩ := S.mem m
    rw [hp] at hu; cases hu
  refine ⟨E, by simp [S.len], ?_, fun n a ob' h1 h2 => ?_⟩
  · rw [List.nodup_append]
    refine ⟨S.nd, by simp, fun a ha b hb => ?_⟩
    rw [List.mem_singleton.mp hb]
    rintro rfl
    exact np ha
  · by_cases hn : n < io.length
    · rw [List.getElem?_append_left hn] at h1
      rw [List.getElem?_append_left (by rw [← S.len]; exact hn)] at h2
      obtain ⟨u, hu, _⟩ := (S.ob n a ob' h1 h2).stands
      exact OR.mono (E.kp S) (upd_ne (ne_of_none hu hp)) (S.ob n a ob' h1 h2)
    · have hl : n < (io ++ [p]).length := (List.getElem?_eq_some_iff.mp h1).1
      rw [List.length_append, List.length_singleton] at hl
      have e : n = io.length := by omega
      subst e
      rw [List.getElem?_append_right (Nat.le_refl _), Nat.sub_self] at h1
      rw [S.len, List.getElem?_append_right (Nat.le_refl _), Nat.sub_self] at h2
      cases (Option.some.inj h1)
      cases (Option.some.inj h2)
      exact new _ (E.kp S) upd_same
theorem put_in {p : Addr} {n : Nat} {o : HO} {ob old : O} (S : StR K H io st) (hn : io[n]? = some p) (ho : st[n]? = some old) (nf : ∀ o u, H p ≠ some (.frz o u)) (new : ∀ H', Kp H H' → H' p = some o → OR K H' (io ++ []) p ob) : Ext io [] H (upd H p o) ∧ StR K (upd H p o) (io ++ []) (st.set n ob) := by
  have hp : p ∈ io := List.mem_of_getElem? hn
  have E : Ext io [] H (upd H p o) := ⟨fun b u h nb => by rw [upd_ne (fun e => nb (by rw [e]; exact hp))]; exact h, fun b h => absurd h (by simp), fun b u v h => by
    by_cases hb : b = p
    · subst hb; exact absurd h (nf u v)
    · rw [upd_ne hb]; exact h⟩
  refine ⟨E, by simp [S.len], by rw [List.append_nil]; exact S.nd, fun m a ob' h1 h2 => ?_⟩
  rw [List.append_nil] at h1
  by_cases hm : m = n
  · subst hm
    rw [hn] at h1
    cases (Option.some.inj h1)
    rw [List.getElem?_set, if_pos rfl] at h2
    split at h2
    · cases (Option.some.inj h2)
      exact new _ (E.kp S) upd_same
    · cases h2
  · rw [List.getElem?_set_ne (fun e => hm e.symm)] at h2
    have hap : a ≠ p := fun e => by
      subst e
      exact hm ((List.getElem?_inj (List.getElem?_eq_some_iff.mp h1).1 S.nd).mp (h1.trans hn.symm))
    exact OR.mono (E.kp S) (upd_ne hap) (S.ob m a ob' h1 h2)
end
end L2.MP
set_option maxHeartbeats 4000000
namespace L2.MP
open PySem PySem.Spec PyProof.Rows
abbrev ME := Rho → Sto → Option (D × Sto)
abbrev MT := Rho → Sto → Option (Bool × Sto)
abbrev MA := Rho → Sto → Option (List D × Sto)
inductive Fl where
  | nx (ρ : Rho) | rt (d : D) | bk (ρ : Rho) | ct (ρ : Rho)
abbrev MS := Rho → Sto → Option (Fl × Sto)
abbrev MG := D → Rho → Sto → Option (Rho × Sto)
abbrev MGs := List D → Rho → Sto → Option (Rho × Sto)
def Bh (K : PySem.W.Frag) (io : List Addr) (H : Hp) (st' : Sto) (d : D) (Q : VK) : Prop := ∀ v H' ka, Ext io ka H H' → StR K H' (io ++ ka) st' → Rep K H' (io ++ ka) v d → Q v H'
def tE (K : PySem.W.Frag) (m : ME) : TE := fun σ H Q => ∃ ρ st io d st', EnvR K H io σ ρ ∧ StR K H io st ∧ m ρ st = some (d, st') ∧ Bh K io H st' d Q
def tT (K : PySem.W.Frag) (m : MT) : TT := fun σ H Q => ∃ ρ st io b st', EnvR K H io σ ρ ∧ StR K H io st ∧ m ρ st = some (b, st') ∧ ∀ H' ka, Ext io ka H H' → StR K H' (io ++ ka) st' → Q b H'
def tA (K : PySem.W.Frag) (m : MA) : TA := fun σ H Q => ∃ ρ st io ds st', EnvR K H io σ ρ ∧ StR K H io st ∧ m ρ st = some (ds, st') ∧ ∀ vs H' ka, Ext io ka H H' → StR K H' (io ++ ka) st' → Reps K H' (io ++ ka) vs ds → Q vs H'
def tS (K : PySem.W.Frag) (m : MS) : TS := fun N σ H => ∃ ρ st io f st', EnvR K H io σ ρ ∧ StR K H io st ∧ m ρ st = some (f, st') ∧
  match f with
  | .nx ρ' => ∀ σ' H' ka, Ext io ka H H' → StR K H' (io ++ ka) st' → EnvR K H' (io ++ ka) σ' ρ' → N.nx σ' H'
  | .bk ρ' => ∀ σ' H' ka, Ext io ka H H' → StR K H' (io ++ ka) st' → EnvR K H' (io ++ ka) σ' ρ' → N.bk σ' H'
  | .ct ρ' => ∀ σ' H' ka, Ext io ka H H' → StR K H' (io ++ ka) st' → EnvR K H' (io ++ ka) σ' ρ' → N.ct σ' H'
  | .rt d => Bh K io H st' d N.rt
def tG (K : PySem.W.Frag) (m : MG) : TG := fun v σ H Q => ∃ d ρ st io ρ' st', Rep K H io v d ∧ EnvR K H io σ ρ ∧ StR K H io st ∧ m d ρ st = some (ρ', st') ∧ ∀ σ' H' ka, Ext io ka H H' → StR K H' (io ++ ka) st' → EnvR K H' (io ++ ka) σ' ρ' → Q σ' H'
def tGs (K : PySem.W.Frag) (m : MGs) : TGs := fun vs σ H Q => ∃ ds ρ st io ρ' st', Reps K H io vs ds ∧ EnvR K H io σ ρ ∧ StR K H io st ∧ m ds ρ st = some (ρ', st') ∧ ∀ σ' H' ka, Ext io ka H H' → StR K H' (io ++ ka) st' → EnvR K H' (io ++ ka) σ' ρ' → Q σ' H'
def SE (X : Cx) (e : Expr) (m : ME) : Prop := PE X e (tE X.K m)
def SB (X : Cx) (e : Expr) (m : MT) : Prop := PT X e (tT X.K m)
def SA (X : Cx) (es : List Expr) (m : MA) : Prop := PA X es (tA X.K m)
def SS (X : Cx) (s : Stmt) (m : MS) : Prop := PS X s (tS X.K m)
def SSs (X : Cx) (s : List Stmt) (m : MS) : Prop := PSs X s (tS X.K m)
def SG (X : Cx) (e : Expr) (m : MG) : Prop := PG X e (tG X.K m)
def SGs (X : Cx) (e : List Expr) (m : MGs) : Prop := PGs X e (tGs X.K m)
section
variable {X : Cx} {e a b c : Expr} {es : List Expr} {st1 st2 : Stmt} {rest body orelse : List Stmt} {pos : Pos} {m ma mb mc : ME} {mt mu : MT} {mm : MA} {ms mq mr : MS} {mg : MG} {mgs : MGs}
theorem PE.imp {t u : TE} (h : PE X e t) (k : ∀ σ H Q, u σ H Q → t σ H Q) : PE X e u := fun pins s σ H Q I q => h pins s σ H Q I (k σ H Q q)
theorem PT.imp {t u : TT} (h : PT X e t) (k : ∀ σ H Q, u σ H Q → t σ H Q) : PT X e u := fun pins s σ H Q I q => h pins s σ H Q I (k σ H Q q)
theorem PA.imp {t u : TA} (h : PA X es t) (k : ∀ σ H Q, u σ H Q → t σ H Q) : PA X es u := fun p pins s σ H Q I q => h p pins s σ H Q I (k σ H Q q)
theorem PS.imp {t u : TS} (h : PS X st1 t) (k : ∀ N σ H, u N σ H → t N σ H) : PS X st1 u := fun pins s σ H N I q => h pins s σ H N I (k N σ H q)
theorem PSs.imp {t u : TS} (h : PSs X rest t) (k : ∀ N σ H, u N σ H → t N σ H) : PSs X rest u := fun pins s σ H N I q => h pins s σ H N I (k N σ H q)
theorem PG.imp {t u : TG} (h : PG X e t) (k : ∀ v σ H Q, u v σ H Q → t v σ H Q) : PG X e u := fun pins s σ H v w Q I r q => h pins s σ H v w Q I r (k v σ H Q q)
theorem PGs.imp {t u : TGs} (h : PGs X es t) (k : ∀ v σ H Q, u v σ H Q → t v σ H Q) : PGs X es u := fun pins s σ H v w Q I r q => h pins s σ H v w Q I r (k v σ H Q q)
theorem ob_bind {α β : Type} {x : Option α} {f : α → Option β} {y : β} (h : x.bind f = some y) : ∃ z, x = some z ∧ f z = some y := by
  cases x with
  | none => cases h
  | some z => exact ⟨z, rfl, h⟩
variable {K : PySem.W.Frag} {H H1 H2 : Hp} {io ka kb : List Addr} {st st' : Sto}
theorem Bh.now {d : D} {Q : VK} {v : V} (h : Bh K io H st d Q) (S : StR K H io st) (r : Rep K H io v d) : Q v H := h v H [] Ext.refl S.nil (by rw [List.append_nil]; exact r)
theorem Bh.on {d : D} {Q : VK} (h : Bh K io H st' d Q) (S1 : StR K H1 (io ++ ka) st) (E : Ext io ka H H1) : Bh K (io ++ ka) H1 st' d Q := fun v H' kb E' S' r =>
  h v H' (ka ++ kb) (E.trans S1 E') (by rw [← List.append_assoc]; exact S') (by rw [← List.append_assoc]; exact r)
def mVar (i : Nat) : ME := fun ρ st => match ρ[i]? with
  | some (some d) => some (d, st)
  | _ => none
theorem se_var (i : Nat) {x : Str} {pos : Pos} (hN : X.N[i]? = some x := by rfl) (hv : Vis X.env.scope x := by first | exact Or.inl rfl | exact Or.inr (Or.inl rfl) | exact Or.inr (Or.inr rfl)) (hd : (x == ("__debug__" : Str)) = false := by decide)
    (hcd : (x == ("__classdict__" : Str)) = false := by decide) : SE X (.Name x pos) (mVar i) := PE.imp (pe_var hN hv hd hcd) fun σ H Q ⟨ρ, st, io, d, st', E, S, e, k⟩ => by
  unfold mVar at e
  split at e
  · rename_i d' he
    cases e
    obtain ⟨v, hv, r⟩ := E.at_ i _ he
    exact ⟨v, hv, k.now S r⟩
  · cases e
def mCon (d : D) : ME := fun _ st => some (d, st)
theorem se_int {i j pos} : SE X (.Constant (.int i) j pos) (mCon (.int i)) := PE.imp pe_int fun σ H Q ⟨ρ, st, io, d, st', E, S, e, k⟩ => by
  cases e; exact k.now S rfl
theorem se_bl {b j pos} : SE X (.Constant (.bool b) j pos) (mCon (.bl b)) := PE.imp pe_bl fun σ H Q ⟨ρ, st, io, d, st', E, S, e, k⟩ => by
  cases e; exact k.now S rfl
theorem se_str {x j pos} : SE X (.Constant (.str x) j pos) (mCon (.str x)) := PE.imp pe_str fun σ H Q ⟨ρ, st, io, d, st', E, S, e, k⟩ => by
  cases e; exact k.now S rfl
theorem se_non {j pos} : SE X (.Constant .none j pos) (mCon .non) := PE.imp pe_non fun σ H Q ⟨ρ, st, io, d, st', E, S, e, k⟩ => by
  cases e; exact k.now S rfl
theorem se_gstr {x : Str} {z : Str} {t : Tok} {pos : Pos} (hg : Gl X x) (hm : X.mg x = some (.str z t)) (hd : (x == ("__debug__" : Str)) = false := by decide) : SE X (.Name x pos) (mCon (.str z)) :=
  PE.imp (pe_glob hg hm (v := .str z) ⟨t, rfl⟩ hd) fun σ H Q ⟨ρ, st, io, d, st', E, S, e, k⟩ => by
    cases e; exact k.now S rfl
abbrev G2 := D → D → Sto → Option (D × Sto)
def r2M (K : PySem.W.Frag) (g : G2) : R2 := fun x y H Q => ∃ dx dy st io d st', Rep K H io x dx ∧ Rep K H io y dy ∧ StR K H io st ∧ g dx dy st = some (d, st') ∧ Bh K io H st' d Q
def OpM (X : Cx) (f : Value → Value → Sem Value) (g : G2) : Prop := OpR X f (r2M X.K g)
def mBin (g : G2) (ma mb : ME) : ME := fun ρ st => (ma ρ st).bind fun (x, s1) => (mb ρ s1).bind fun (y, s2) => g x y s2
theorem bin_sound {g : G2} {σ : L2.St} {H : Hp} {Q : VK} (h : tE K (mBin g ma mb) σ H Q) : tOp (r2M K g) (tE K ma) (tE K mb) σ H Q := by
  obtain ⟨ρ, st, io, d, st', E, S, e, k⟩ := h
  obtain ⟨⟨x, s1⟩, e1, e⟩ := ob_bind e
  obtain ⟨⟨y, s2⟩, e2, e3⟩ := ob_bind e
  refine ⟨ρ, st, io, x, s1, E, S, e1, fun v1 H1 k1 X1 S1 R1 => ?_⟩
  refine ⟨ρ, s1, io ++ k1, y, s2, E.ext S X1, S1, e2, fun v2 H2 k2 X2 S2 R2 => ?_⟩
  exact ⟨x, y, s2, (io ++ k1) ++ k2, d, st', R1.ext S1 X2, R2, S2, e3, (k.on S1 X1).on S2 X2⟩
theorem se_bin {op : Operator} {g : G2} (ho : OpM X (binaryOp op) g) (ha : SE X a ma) (hb : SE X b mb) : SE X (.BinOp a op b pos) (mBin g ma mb) := PE.imp (pe_op ho ha hb) fun _ _ _ h => bin_sound h
theorem se_cmp {op : CmpOp} {g : G2} (ho : OpM X (compareOp op) g) (ha : SE X a ma) (hb : SE X b mb) (hm : behindInMarks op b = false) : SE X (.Compare a [op] [b] pos) (mBin g ma mb) := PE.imp (pe_cmpR ho ha hb hm) fun _ _ _ h => bin_sound h
def mTst (m : ME) : MT := fun ρ st => (m ρ st).bind fun (x, s1) => match x with
  | .bl b => some (b, s1)
  | _ => none
theorem tst_of {ρ : Rho} {b : Bool} (e : mTst m ρ st = some (b, st')) : m ρ st = some (.bl b, st') := by
  obtain ⟨⟨x, s1⟩, e1, e⟩ := ob_bind e
  dsimp only at e
  split at e
  · cases e; exact e1
  · cases e
theorem tst_sound {σ : L2.St} {H : Hp} {Q : Bool → Hp → Prop} (h : tT K (mTst m) σ H Q) : tE K m σ H fun x H' => ∃ b, x = .bl b ∧ Q b H' := by
  obtain ⟨ρ, st, io, b, st', E, S, e, k⟩ := h
  exact ⟨ρ, st, io, _, st', E, S, tst_of e, fun v H' ka X' S' R' => ⟨b, R', k H' ka X' S'⟩⟩
theorem sb_cmp {op : CmpOp} {g : G2} (ho : OpM X (compareOp op) g) (ha : SE X a ma) (hb : SE X b mb) (hm : behindInMarks op b = false) : SB X (.Compare a [op] [b] pos) (mTst (mBin g ma mb)) :=
  PT.imp (pt_cmpR ho ha hb hm) fun σ H Q h => bin_sound (tst_sound h)
theorem sb_of (h : SE X a m) (he : ∀ whole, isTrue a X.env whole = (do let v ← whole; standAt a.pos; holding [v] (truthy v)) := by intro _; rfl) : SB X a (mTst m) :=
  PT.imp (pt_truth h he) fun σ H Q h => by
    obtain ⟨ρ, st, io, b, st', E, S, e, k⟩ := tst_sound h
    refine ⟨ρ, st, io, b, st', E, S, e, fun v H' ka X' S' R' => ?_⟩
    obtain ⟨c, hc, q⟩ := k v H' ka X' S' R'
    subst hc
    exact ⟨c, rfl, q⟩
def mNotT (m : MT) : MT := fun ρ st => (m ρ st).map fun (b, s) => (!b, s)
theorem sb_not (h : SB X a mt) : SB X (.UnaryOp .Not a pos) (mNotT mt) := PT.imp (pt_not h) fun σ H Q ⟨ρ, st, io, b, st', E, S, e, k⟩ => by
  unfold mNotT at e
  cases e1 : mt ρ st with
  | none => rw [e1] at e; cases e
  | some p => rw [e1] at e; cases e; exact ⟨ρ, st, io, _, _, E, S, e1, fun H' ka X' S' => k H' ka X' S'⟩
def mAndT (m n : MT) : MT := fun ρ st => (m ρ st).bind fun (b, s) => if b = true then n ρ s else some (false, s)
def mOrT (m n : MT) : MT := fun ρ st => (m ρ st).bind fun (b, s) => if b = true then some (true, s) else n ρ s
def SW (X : Cx) (e : Expr) (m : MT) : Prop := PW X e (tT X.K m)
theorem PW.imp {t u : TT} (h : PW X e t) (k : ∀ σ H Q, u σ H Q → t σ H Q) : PW X e u := fun w pins s σ H Q I q => h w pins s σ H Q I (k σ H Q q)
theorem SW.sb (h : SW X a mt) : SB X a mt := PW.pt h
theorem sw_and1 (ha : SB X a mt) : SW X (.BoolOp .And [a] pos) mt := pw_and1 ha
theorem sw_or1 (ha : SB X a mt) : SW X (.BoolOp .Or [a] pos) mt := pw_or1 ha
theorem on_tests {n : MT} {σ : L2.St} {ρ : Rho} {Q : Bool → Hp → Prop} {b : Bool} {s1 : Sto} (E : EnvR K H io σ ρ) (S : StR K H io st) (X1 : Ext io ka H H1) (S1 : StR K H1 (io ++ ka) s1) (e : n ρ s1 = some (b, st')) (k : ∀ H' ka, Ext io ka H H' → StR K H' (io ++ ka) st' → Q b H') : tT K n σ H1 Q :=
  ⟨ρ, s1, io ++ ka, b, st', E.ext S X1, S1, e, fun H' kb X' S' => k H' (ka ++ kb) (X1.trans S1 X') (by rw [← List.append_assoc]; exact S')⟩
theorem sw_and {rs : List Expr} (ha : SB X a mt) (hb : SW X (.BoolOp .And (b :: rs) pos) mu) : SW X (.BoolOp .And (a :: b :: rs) pos) (mAndT mt mu) := PW.imp (pw_and ha hb) fun σ H Q ⟨ρ, st, io, v, st', E, S, e, k⟩ => by
  obtain ⟨⟨x, s1⟩, e1, e⟩ := ob_bind e
  refine ⟨ρ, st, io, x, s1, E, S, e1, fun H1 k1 X1 S1 => ?_⟩
  cases x with
  | true => rw [if_pos rfl]; exact on_tests E S X1 S1 e k
  | false =>
    rw [if_neg (by decide)]
    have e' : some (false, s1) = some (v, st') := e
    cases e'
    exact k H1 k1 X1 S1
theorem sw_or {rs : List Expr} (ha : SB X a mt) (hb : SW X (.BoolOp .Or (b :: rs) pos) mu) : SW X (.BoolOp .Or (a :: b :: rs) pos) (mOrT mt mu) := PW.imp (pw_or ha hb) fun σ H Q ⟨ρ, st, io, v, st', E, S, e, k⟩ => by
  obtain ⟨⟨x, s1⟩, e1, e⟩ := ob_bind e
  refine ⟨ρ, st, io, x, s1, E, S, e1, fun H1 k1 X1 S1 => ?_⟩
  cases x with
  | false => rw [if_neg (by decide)]; exact on_tests E S X1 S1 e k
  | true =>
    rw [if_pos rfl]
    have e' : some (true, s1) = some (v, st') := e
    cases e'
    exact k H1 k1 X1 S1
def mAndV (m n : ME) : ME := fun ρ st => (mTst m ρ st).bind fun (b, s) => if b = true then n ρ s else some (.bl false, s)
def mOrV (m n : ME) : ME := fun ρ st => (mTst m ρ st).bind fun (b, s) => if b = true then some (.bl true, s) else n ρ s
def mNotV (m : ME) : ME := fun ρ st => (mTst m ρ st).map fun (b, s) => (.bl !b, s)
theorem on_val {n : ME} {σ : L2.St} {ρ : Rho} {Q : VK} {d : D} {s1 : Sto} (E : EnvR K H io σ ρ) (S : StR K H io st) (X1 : Ext io ka H H1) (S1 : StR K H1 (io ++ ka) s1) (e : n ρ s1 = some (d, st')) (k : Bh K io H st' d Q) : tE K n σ H1 Q :=
  ⟨ρ, s1, io ++ ka, d, st', E.ext S X1, S1, e, k.on S1 X1⟩
theorem se_and1 (ha : SE X a ma) : SE X (.BoolOp .And [a] pos) ma := pe_one ha
theorem se_and {rs : List Expr} (ha : SE X a ma) (hb : SE X (.BoolOp .And (b :: rs) pos) mb) : SE X (.BoolOp .And (a :: b :: rs) pos) (mAndV ma mb) := PE.imp (pe_and ha hb) fun σ H Q ⟨ρ, st, io, v, st', E, S, e, k⟩ => by
  obtain ⟨⟨x, s1⟩, e1, e⟩ := ob_bind e
  refine ⟨ρ, st, io, .bl x, s1, E, S, tst_of e1, fun v1 H1 k1 X1 S1 R1 => ⟨x, R1, ?_⟩⟩
  cases x with
  | true => rw [if_pos rfl]; exact on_val E S X1 S1 e k
  | false =>
    rw [if_neg (by decide)]
    have e' : some (D.bl false, s1) = some (v, st') := e
    cases e'
    exact k _ H1 k1 X1 S1 rfl
end
end L2.MP
set_option maxHeartbeats 4000000
set_option linter.unusedVariables false
namespace L2.MP
open PySem PySem.Spec PyProof.Rows
section
variable {X : Cx} {e a b c : Expr} {es : List Expr} {st1 st2 : Stmt} {rest body orelse : List Stmt} {pos : Pos} {m ma mb mc : ME} {mt mu : MT} {mm : MA} {ms mq mr : MS} {mg : MG} {mgs : MGs}
variable {K : PySem.W.Frag} {H H1 H2 : Hp} {io ka kb : List Addr} {st st' : Sto}
def mNil : MA := fun _ st => some ([], st)
def mCons (m : ME) (mm : MA) : MA := fun ρ st => (m ρ st).bind fun (x, s1) => (mm ρ s1).bind fun (xs, s2) => some (x :: xs, s2)
theorem sa_nil : SA X [] mNil := PA.imp pa_nil fun σ H Q ⟨ρ, st, io, ds, st', E, S, e, k⟩ => by
  cases e; exact k [] H [] Ext.refl S.nil Reps.nil
theorem sa_cons (ha : SE X e m) (hr : SA X es mm) (hs : starEach (e :: es) X.env = (false, eval e X.env) :: starEach es X.env := by rfl) : SA X (e :: es) (mCons m mm) := PA.imp (pa_cons ha hr hs) fun σ H Q ⟨ρ, st, io, ds, st', E, S, e, k⟩ => by
  obtain ⟨⟨x, s1⟩, e1, e⟩ := ob_bind e
  obtain ⟨⟨xs, s2⟩, e2, e⟩ := ob_bind e
  cases e
  refine ⟨ρ, st, io, x, s1, E, S, e1, fun v1 H1 k1 X1 S1 R1 => ⟨ρ, s1, io ++ k1, xs, _, E.ext S X1, S1, e2, fun vs H2 k2 X2 S2 R2 => ?_⟩⟩
  exact k _ H2 (k1 ++ k2) (X1.trans S1 X2) (by rw [← List.append_assoc]; exact S2) (by rw [← List.append_assoc]; exact Reps.cons (R1.ext S1 X2) R2)
def fits (n : Nat) : Bool := decide (n ≤ sizeLine)
def mTup (mm : MA) : ME := fun ρ st => (mm ρ st).bind fun (xs, s) => if fits xs.length = true then some (.tup xs, s) else none
def mLst (mm : MA) : ME := fun ρ st => (mm ρ st).bind fun (xs, s) => if fits xs.length = true then some (.ref s.length, s ++ [.lst xs]) else none
theorem ite_some {α : Type} {c : Prop} [Decidable c] {x : Option α} {y : α} (h : (if c then x else none) = some y) : c ∧ x = some y := by
  by_cases hc : c
  · rw [if_pos hc] at h; exact ⟨hc, h⟩
  · rw [if_neg hc] at h; cases h
theorem Bh.tup {ds : List D} {vs : List V} {Q : VK} {p : Addr} (k : Bh K io H st (.tup ds) Q) (S : StR K H io st) (R : Reps K H io vs ds) (hp : H p = none) : Q (.ref p) (upd H p (.tup vs)) := by
  obtain ⟨E, S'⟩ := new_out (o := .tup vs) S hp
  refine k _ _ [] E S' ⟨p, vs, rfl, upd_same, R.ext S E⟩
theorem getElem?_len {α : Type} (l : List α) (x : α) : (l ++ [x])[l.length]? = some x := by
  rw [List.getElem?_append_right (Nat.le_refl _), Nat.sub_self]; rfl
theorem Bh.lst {ds : List D} {vs : List V} {Q : VK} {p : Addr} (k : Bh K io H (st ++ [.lst ds]) (.ref st.length) Q) (S : StR K H io st) (R : Reps K H io vs ds) (hp : H p = none) : Q (.ref p) (upd H p (.lst vs)) := by
  obtain ⟨E, S'⟩ := new_in (o := .lst vs) (ob := .lst ds) S hp fun H' T e => ⟨vs, e, Reps.mono T R⟩
  exact k _ _ [p] E S' ⟨p, rfl, by rw [← S.len]; exact getElem?_len io p⟩
theorem se_tup {x1} (h : SA X es mm) : SE X (.Tuple es x1 pos) (mTup mm) := PE.imp (pe_tup h) fun σ H Q ⟨ρ, st, io, d, st', E, S, e, k⟩ => by
  obtain ⟨⟨xs, s1⟩, e1, e⟩ := ob_bind e
  obtain ⟨hf, e⟩ := ite_some e
  cases e
  refine ⟨ρ, st, io, xs, _, E, S, e1, fun vs H1 k1 X1 S1 R1 => ⟨by rw [R1.length]; exact of_decide_eq_true hf, fun p hp => (k.on S1 X1).tup S1 R1 hp⟩⟩
theorem se_lst (h : SA X es mm) : SE X (.List es pos) (mLst mm) := PE.imp (pe_lst h) fun σ H Q ⟨ρ, st, io, d, st', E, S, e, k⟩ => by
  obtain ⟨⟨xs, s1⟩, e1, e⟩ := ob_bind e
  obtain ⟨hf, e⟩ := ite_some e
  cases e
  refine ⟨ρ, st, io, xs, _, E, S, e1, fun vs H1 k1 X1 S1 R1 => ⟨by rw [R1.length]; exact of_decide_eq_true hf, fun p hp => (k.on S1 X1).lst S1 R1 hp⟩⟩
abbrev GN := List D → Sto → Option (D × Sto)
def rNM (K : PySem.W.Frag) (g : GN) : List V → Hp → VK → Prop := fun xs H Q => ∃ ds st io d st', Reps K H io xs ds ∧ StR K H io st ∧ g ds st = some (d, st') ∧ Bh K io H st' d Q
def CallM (X : Cx) (f : Value) (g : GN) : Prop := CallR X f (rNM X.K g)
def mCall (g : GN) (mm : MA) : ME := fun ρ st => (mm ρ st).bind fun (xs, s) => g xs s
theorem call_sound {g : GN} {σ : L2.St} {Q : VK} (h : tE K (mCall g mm) σ H Q) : tCB (rNM K g) (tA K mm) σ H Q := by
  obtain ⟨ρ, st, io, d, st', E, S, e, k⟩ := h
  obtain ⟨⟨xs, s1⟩, e1, e⟩ := ob_bind e
  exact ⟨ρ, st, io, xs, s1, E, S, e1, fun vs H1 k1 X1 S1 R1 => ⟨xs, s1, io ++ k1, d, st', R1, S1, e, k.on S1 X1⟩⟩
theorem se_callB {x : Str} {p : Pos} {id : String} {g : GN} (hc : CallM X (.builtin id) g) (hg : Gl X x) (hm : X.mg x = none) (hv : bootBuiltins x = some (.builtin id)) (ha : SA X (e :: es) mm) (hn : x ≠ "__name__" := by decide) (hdb : (x == ("__debug__" : Str)) = false := by decide)
    (he : starEach (e :: es) X.env = (false, eval e X.env) :: starEach es X.env := by rfl) (hpl : (backTo pos (starEach es X.env)).any (·.1) = false := by rfl) : SE X (.Call (.Name x p) (e :: es) [] pos) (mCall g mm) :=
  PE.imp (pe_callB hc hg hm hv ha hn hdb he hpl) fun _ _ _ h => call_sound h
theorem se_callTy {x : Str} {p : Pos} {T : String} {g : GN} (hc : CallM X (.type T) g) (hg : Gl X x) (hm : X.mg x = none) (hv : bootBuiltins x = some (.type T)) (ha : SA X (e :: es) mm) (hn : x ≠ "__name__" := by decide) (hdb : (x == ("__debug__" : Str)) = false := by decide)
    (he : starEach (e :: es) X.env = (false, eval e X.env) :: starEach es X.env := by rfl) (hpl : (backTo pos (starEach es X.env)).any (·.1) = false := by rfl) : SE X (.Call (.Name x p) (e :: es) [] pos) (mCall g mm) :=
  PE.imp (pe_callTy hc hg hm hv ha hn hdb he hpl) fun _ _ _ h => call_sound h
def spM (K : PySem.W.Frag) (n : Nat) (g : GN) : Sp := fun vs H Q _ => ∃ ds st io d st', vs.length = n ∧ Reps K H io vs ds ∧ StR K H io st ∧ g ds st = some (d, st') ∧ Bh K io H st' d Q
theorem se_call {x : Str} {p : Pos} {k : Nat} {f : Addr} {fd : FuncData} {ps : List Str} {n : Nat} {g : GN} (F : FnOk X.prog X.w X.K X.mg X.base CX0 k f fd ps (spM X.K n g)) (hr : Room k X.A) (hg : Gl X x) (hm : X.mg x = some (.ref f)) (hk : PySem.W.keepIn X.K (.ref f) = true) (hb : Binds X.K fd ps [])
    (ha : SA X (e :: es) mm) (hdb : (x == ("__debug__" : Str)) = false := by decide) (he : starEach (e :: es) X.env = (false, eval e X.env) :: starEach es X.env := by rfl) (hpl : (backTo pos (starEach es X.env)).any (·.1) = false := by rfl) (hn : (e :: es).length = n := by rfl) 
    (hl : ∀ ρ st xs s, mm ρ st = some (xs, s) → xs.length = n) :
    SE X (.Call (.Name x p) (e :: es) [] pos) (mCall g mm) := PE.imp (pe_call F hr hg hm hk hb .nil pass0 ha hdb he hpl) fun σ H Q ⟨ρ, st, io, d, st', E, S, e, k⟩ => by
  obtain ⟨⟨xs, s1⟩, e1, e⟩ := ob_bind e
  refine ⟨ρ, st, io, xs, s1, E, S, e1, fun vs H1 k1 X1 S1 R1 => ⟨xs, s1, io ++ k1, d, st', ?_, ?_, S1, e, k.on S1 X1⟩⟩
  · rw [List.append_nil, R1.length]; exact hl _ _ _ _ e1
  · rw [List.append_nil]; exact R1
theorem mNil_len {ρ : Rho} {st : Sto} {xs : List D} {s : Sto} (h : mNil ρ st = some (xs, s)) : xs.length = 0 := by cases h; rfl
theorem mCons_len {ρ : Rho} {st : Sto} {xs : List D} {s : Sto} {n : Nat} (hr : ∀ ρ st xs s, mm ρ st = some (xs, s) → xs.length = n) (h : mCons m mm ρ st = some (xs, s)) : xs.length = n + 1 := by
  obtain ⟨⟨x, s1⟩, e1, e⟩ := ob_bind h
  obtain ⟨⟨ys, s2⟩, e2, e⟩ := ob_bind e
  cases e
  rw [List.length_cons, hr _ _ _ _ e2]
def Wn (K : PySem.W.Frag) (io : List Addr) (H : Hp) (st' : Sto) (N : Ends) : Fl → Prop
  | .nx ρ' => ∀ σ' H' ka, Ext io ka H H' → StR K H' (io ++ ka) st' → EnvR K H' (io ++ ka) σ' ρ' → N.nx σ' H'
  | .bk ρ' => ∀ σ' H' ka, Ext io ka H H' → StR K H' (io ++ ka) st' → EnvR K H' (io ++ ka) σ' ρ' → N.bk σ' H'
  | .ct ρ' => ∀ σ' H' ka, Ext io ka H H' → StR K H' (io ++ ka) st' → EnvR K H' (io ++ ka) σ' ρ' → N.ct σ' H'
  | .rt d => Bh K io H st' d N.rt
theorem ts_iff {N : Ends} {σ : L2.St} {H : Hp} : tS K ms N σ H ↔ ∃ ρ st io f st', EnvR K H io σ ρ ∧ StR K H io st ∧ ms ρ st = some (f, st') ∧ Wn K io H st' N f := by
  constructor
  · rintro ⟨ρ, st, io, f, st', E, S, e, k⟩
    exact ⟨ρ, st, io, f, st', E, S, e, by cases f <;> exact k⟩
  · rintro ⟨ρ, st, io, f, st', E, S, e, k⟩
    exact ⟨ρ, st, io, f, st', E, S, e, by cases f <;> exact k⟩
theorem on_env {P : L2.St → Hp → Prop} {ρ' : Rho} (h : ∀ σ' H' ka, Ext io ka H H' → StR K H' (io ++ ka) st' → EnvR K H' (io ++ ka) σ' ρ' → P σ' H') (X1 : Ext io ka H H1) (S1 : StR K H1 (io ++ ka) st) :
    ∀ σ' H' kb, Ext (io ++ ka) kb H1 H' → StR K H' ((io ++ ka) ++ kb) st' → EnvR K H' ((io ++ ka) ++ kb) σ' ρ' → P σ' H' := fun σ' H' kb E' S' R' =>
  h σ' H' (ka ++ kb) (X1.trans S1 E') (by rw [← List.append_assoc]; exact S') (by rw [← List.append_assoc]; exact R')
theorem Wn.on {N : Ends} {f : Fl} (h : Wn K io H st' N f) (X1 : Ext io ka H H1) (S1 : StR K H1 (io ++ ka) st) : Wn K (io ++ ka) H1 st' N f := by
  cases f with
  | nx ρ' => exact on_env h X1 S1
  | bk ρ' => exact on_env h X1 S1
  | ct ρ' => exact on_env h X1 S1
  | rt d => exact Bh.on h S1 X1
theorem ts_in {N : Ends} {σ : L2.St} {ρ : Rho} {f : Fl} (E : EnvR K H io σ ρ) (S : StR K H io st) (e : ms ρ st = some (f, st')) (w : Wn K io H st' N f) : tS K ms N σ H := ts_iff.mpr ⟨ρ, st, io, f, st', E, S, e, w⟩
theorem ts_on {N : Ends} {σ : L2.St} {ρ : Rho} {f : Fl} {s1 : Sto} (X1 : Ext io ka H H1) (S1 : StR K H1 (io ++ ka) s1) (E : EnvR K H1 (io ++ ka) σ ρ) (e : ms ρ s1 = some (f, st')) (w : Wn K io H st' N f) : tS K ms N σ H1 :=
  ts_in E S1 e (w.on X1 S1)
def mPass : MS := fun ρ st => some (.nx ρ, st)
theorem sss_nil : SSs X [] mPass := PSs.imp pss_nil fun N σ H h => by
  obtain ⟨ρ, st, io, f, st', E, S, e, w⟩ := ts_iff.mp h
  cases e
  exact w σ H [] Ext.refl S.nil (by rw [List.append_nil]; exact E)
def mSeq (m n : MS) : MS := fun ρ st => (m ρ st).bind fun (f, s) => match f with
  | .nx ρ1 => n ρ1 s
  | f => some (f, s)
theorem sss_cons (h1 : SS X st1 ms) (h2 : SSs X rest mq) : SSs X (st1 :: rest) (mSeq ms mq) := PSs.imp (pss_cons h1 h2) fun N σ H h => by
  obtain ⟨ρ, st, io, f, st', E, S, e, w⟩ := ts_iff.mp h
  obtain ⟨⟨f1, s1⟩, e1, e⟩ := ob_bind e
  refine ts_in E S e1 ?_
  cases f1 with
  | nx ρ1 => exact fun σ' H' ka X' S' R' => ts_on X' S' R' e w
  | bk ρ1 => cases e; exact w
  | ct ρ1 => cases e; exact w
  | rt d => cases e; exact w
theorem sss_one (h1 : SS X st1 ms) : SSs X [st1] ms := pss_one h1
def mExp (m : ME) : MS := fun ρ st => (m ρ st).map fun (_, s) => (.nx ρ, s)
def mRet (m : ME) : MS := fun ρ st => (m ρ st).map fun (d, s) => (.rt d, s)
theorem map_some' {α β : Type} {x : Option α} {f : α → β} {y : β} (h : x.map f = some y) : ∃ z, x = some z ∧ f z = y := by
  cases x with
  | none => cases h
  | some z => exact ⟨z, rfl, Option.some.inj h⟩
theorem ss_expr (he : SE X e m) (hs : swapsWith e none pos.line X.env = pure false := by rfl) : SS X (.Expr e pos) (mExp m) := PS.imp (ps_expr he hs) fun N σ H h => by
  obtain ⟨ρ, st, io, f, st', E, S, e, w⟩ := ts_iff.mp h
  obtain ⟨⟨d, s1⟩, e1, e⟩ := map_some' e
  cases e
  exact ⟨ρ, st, io, d, _, E, S, e1, fun v H' ka X' S' R' => w σ H' ka X' S' (E.ext S X')⟩
theorem ss_ret (he : SE X e m) : SS X (.Return (some e) pos) (mRet m) := PS.imp (ps_ret he) fun N σ H h => by
  obtain ⟨ρ, st, io, f, st', E, S, e, w⟩ := ts_iff.mp h
  obtain ⟨⟨d, s1⟩, e1, e⟩ := map_some' e
  cases e
  exact ⟨ρ, st, io, d, _, E, S, e1, w⟩
def mIf (c : MT) (m n : MS) : MS := fun ρ st => (c ρ st).bind fun (b, s) => if b = true then m ρ s else n ρ s
theorem ss_if (hc : SB X c mt) (h1 : SSs X body ms) (h2 : SSs X orelse mq) : SS X (.If c body orelse pos) (mIf mt ms mq) := PS.imp (ps_if hc h1 h2) fun N σ H h => by
  obtain ⟨ρ, st, io, f, st', E, S, e, w⟩ := ts_iff.mp h
  obtain ⟨⟨x, s1⟩, e1, e⟩ := ob_bind e
  refine ⟨ρ, st, io, x, s1, E, S, e1, fun H1 k1 X1 S1 => ?_⟩
  cases x with
  | true => rw [if_pos rfl]; exact ts_on X1 S1 (E.ext S X1) e w
  | false => rw [if_neg (by decide)]; exact ts_on X1 S1 (E.ext S X1) e w
def gNm (i : Nat) : MG := fun d ρ st => some (ρ.set i (some d), st)
theorem sg_name {i : Nat} {x : Str} (hN : X.N.Nodup) (hi : X.N[i]? = some x) (hx : Loc X.env.scope x) (hf : X.fn x = true ∨ X.env.scope.names.lookup x = some .local := by first | exact .inl rfl | exact .inr rfl | assumption) : SG X (.Name x pos) (gNm i) :=
  PG.imp (pg_name hN hi hx hf) fun v σ H Q ⟨d, ρ, st, io, ρ', st', R, E, S, e, k⟩ => by
    cases e
    exact k _ H [] Ext.refl S.nil (by rw [List.append_nil]; exact E.set i R)
def gN0 : MGs := fun ds ρ st => match ds with
  | [] => some (ρ, st)
  | _ => none
def gC (g : MG) (h : MGs) : MGs := fun ds ρ st => match ds with
  | d :: r => (g d ρ st).bind fun (ρ1, s1) => h r ρ1 s1
  | [] => none
theorem sgs_nil : SGs X [] gN0 := PGs.imp pgs_nil fun v σ H Q ⟨ds, ρ, st, io, ρ', st', R, E, S, e, k⟩ => by
  cases ds with
  | nil => cases e; exact ⟨R, k σ H [] Ext.refl S.nil (by rw [List.append_nil]; exact E)⟩
  | cons d r => cases e
theorem sgs_cons (h1 : SG X e mg) (h2 : SGs X es mgs) (hs : (assignEach (e :: es) X.env).map (·.2) = assign e X.env :: (assignEach es X.env).map (·.2) := by rfl) : SGs X (e :: es) (gC mg mgs) :=
  PGs.imp (pgs_cons h1 h2 hs) fun v σ H Q ⟨ds, ρ, st, io, ρ', st', R, E, S, e, k⟩ => by
    cases ds with
    | nil => cases e
    | cons d r =>
      obtain ⟨y, ys, rfl, r1, rs⟩ := R
      obtain ⟨⟨ρ1, s1⟩, e1, e⟩ := ob_bind e
      refine ⟨y, ys, rfl, d, ρ, st, io, ρ1, s1, r1, E, S, e1, fun σ1 H1 k1 X1 S1 E1 => ?_⟩
      exact ⟨r, ρ1, s1, io ++ k1, ρ', st', rs.ext S X1, E1, S1, e, on_env k X1 S1⟩
def gTp (n : Nat) (h : MGs) : MG := fun d ρ st => match d with
  | .tup ds => if ds.length = n then h ds ρ st else none
  | _ => none
theorem sg_tup {k : Nat} {n : Nat} (hc : X.calm = true) (h : SGs X es mgs) (hn : (assignEach es X.env).length = n := by rfl) (hst : (assignEach es X.env).findIdx? (·.1) = none := by rfl) : SG X (.Tuple es k pos) (gTp n mgs) :=
  PG.imp (pg_tup hc h hn hst) fun v σ H Q ⟨d, ρ, st, io, ρ', st', R, E, S, e, k⟩ => by
    cases d with
    | tup ds =>
      obtain ⟨a, xs, rfl, hq, rs⟩ := R
      obtain ⟨hl, e⟩ := ite_some e
      exact ⟨a, xs, rfl, SqT.of hq, by rw [rs.length]; exact hl, ds, ρ, st, io, ρ', st', rs, E, S, e, k⟩
    | _ => cases e
abbrev G3 := D → D → D → Sto → Option Sto
def tSetM (K : PySem.W.Frag) (g : G3) : TSet := fun o i v H Q => ∃ d1 d2 d3 st io st', Rep K H io o d1 ∧ Rep K H io i d2 ∧ Rep K H io v d3 ∧ StR K H io st ∧ g d1 d2 d3 st = some st' ∧ ∀ H' ka, Ext io ka H H' → StR K H' (io ++ ka) st' → Q H'
def SetM (X : Cx) (g : G3) : Prop := PSet X (tSetM X.K g)
def gSb (g : G3) (mo mi : ME) : MG := fun d ρ st => (mo ρ st).bind fun (o, s1) => (mi ρ s1).bind fun (i, s2) => (g o i d s2).map fun s3 => (ρ, s3)
theorem sg_sub {o i : Expr} {mo mi : ME} {g : G3} (ho : SE X o mo) (hi : SE X i mi) (hs : SetM X g)
    (ha : ∀ v, assign (.Subscript o i pos) X.env v = (do
      let ov ← holding [v] (eval o X.env)
      let iv ← holding [v, ov] (eval i X.env)
      standAt pos
      holding [v, ov, iv] (setItem ov iv v)
      release [v, ov, iv] []) := by intro _; rfl) : SG X (.Subscript o i pos) (gSb g mo mi) :=
  PG.imp (pg_sub ho hi hs ha) fun v σ H Q ⟨d, ρ, st, io, ρ', st', R, E, S, e, k⟩ => by
    obtain ⟨⟨x, s1⟩, e1, e⟩ := ob_bind e
    obtain ⟨⟨y, s2⟩, e2, e⟩ := ob_bind e
    obtain ⟨s3, e3, e⟩ := map_some' e
    cases e
    refine ⟨ρ, st, io, x, s1, E, S, e1, fun v1 H1 k1 X1 S1 R1 => ⟨ρ, s1, io ++ k1, y, s2, E.ext S X1, S1, e2, fun v2 H2 k2 X2 S2 R2 => ?_⟩⟩
    have X12 := X1.trans S1 X2
    refine ⟨x, y, d, s2, (io ++ k1) ++ k2, _, R1.ext S1 X2, R2, (R.ext S X1).ext S1 X2, S2, e3, fun H3 k3 X3 S3 => ?_⟩
    rw [List.append_assoc] at X3 S2
    rw [List.append_assoc, List.append_assoc] at S3
    refine k σ H3 ((k1 ++ k2) ++ k3) (X12.trans S2 X3) (by simpa using S3) ?_
    have E2 : EnvR X.K H2 (io ++ (k1 ++ k2)) σ ρ := E.ext S X12
    have := E2.ext S2 X3
    simpa using this
def mAsg (m : ME) (g : MG) : MS := fun ρ st => (m ρ st).bind fun (d, s1) => (g d ρ s1).map fun (ρ', s2) => (.nx ρ', s2)
theorem asg_sound {N : Ends} {σ : L2.St} {H : Hp} (h : tS K (mAsg m mg) N σ H) : tAsg (tE K m) (tG K mg) N σ H := by
  obtain ⟨ρ, st, io, f, st', E, S, e, w⟩ := ts_iff.mp h
  obtain ⟨⟨x, s1⟩, e1, e⟩ := ob_bind e
  obtain ⟨⟨ρ', s2⟩, e2, e⟩ := map_some' e
  cases e
  exact ⟨ρ, st, io, x, s1, E, S, e1, fun v1 H1 k1 X1 S1 R1 => ⟨x, ρ, s1, io ++ k1, ρ', _, R1, E.ext S X1, S1, e2, on_env w X1 S1⟩⟩
theorem ss_asg {tg : Expr} (he : SE X e m) (hg : SG X tg mg) (hs : swapsWithSole [tg] e pos.line X.env = pure false := by rfl) (hw : swappedStores [tg] e X.env = pure none := by rfl)
    (h1 : (assignEach [tg] X.env).map (·.2) = [assign tg X.env] := by rfl) : SS X (.Assign [tg] e pos) (mAsg m mg) := PS.imp (ps_asg he hg hs hw h1) fun _ _ _ h => asg_sound h
theorem ss_set {i : Nat} {x : Str} {pos' : Pos} (hN : X.N.Nodup) (hi : X.N[i]? = some x) (hx : Loc X.env.scope x) (he : SE X e m) (hs : swapsWith e (some (.Name x pos')) pos.line X.env = pure false := by rfl) (hf : X.fn x = true ∨ X.env.scope.names.lookup x = some .local := by first | exact .inl rfl | exact .inr rfl | assumption) :
    SS X (.Assign [.Name x pos'] e pos) (mAsg m (gNm i)) := PS.imp (ps_set hN hi hx he hs hf) fun N σ H h => by
  obtain ⟨ρ, st, io, f, st', E, S, e, w⟩ := ts_iff.mp h
  obtain ⟨⟨x, s1⟩, e1, e⟩ := ob_bind e
  obtain ⟨⟨ρ', s2⟩, e2, e⟩ := map_some' e
  cases e
  cases e2
  exact ⟨ρ, st, io, x, _, E, S, e1, fun v1 H1 k1 X1 S1 R1 => w _ H1 k1 X1 S1 ((E.ext S X1).set i R1)⟩
structure Wk where
  ds : List D
  g : List (Nat × List D)
def stays (W : Wk) (st : Sto) : Prop := ∀ p, p ∈ W.g → st[p.1]? = some (.lst p.2) ∨ st[p.1]? = some (.fz p.2)
structure ItOk (K : PySem.W.Frag) (H0 : Hp) (io : List Addr) (W : Wk) (J : It) : Prop where
  go : ∀ i d H ka st, W.ds[i]? = some d → Ext io ka H0 H → StR K H (io ++ ka) st → stays W st → J.go i H ∧ ∀ x H', J.yld i H x H' → Ext (io ++ ka) [] H H' ∧ StR K H' (io ++ ka) st ∧ Rep K H' (io ++ ka) x d
  stop : ∀ H ka st, Ext io ka H0 H → StR K H (io ++ ka) st → stays W st → J.stop W.ds.length H
  stop' : ∀ H ka st i, W.ds.length ≤ i → Ext io ka H0 H → StR K H (io ++ ka) st → stays W st → J.stop i H
abbrev MI := Rho → Sto → Option (Wk × Sto)
def tI (K : PySem.W.Frag) (m : MI) : TI := fun σ H R => ∃ ρ st io W st', EnvR K H io σ ρ ∧ StR K H io st ∧ m ρ st = some (W, st') ∧ ∀ J H' ka, Ext io ka H H' → StR K H' (io ++ ka) st' → ItOk K H' (io ++ ka) W J → R J H'
def SI (X : Cx) (tg iter : Expr) (m : MI) : Prop := PI X tg iter (tI X.K m)
theorem PI.imp {tg iter : Expr} {t u : TI} (h : PI X tg iter t) (k : ∀ σ H R, u σ H R → t σ H R) : PI X tg iter u := fun pins s σ H R I q => h pins s σ H R I (k σ H R q)
end
end L2.MP
set_option maxHeartbeats 4000000
namespace L2.MP
open PySem PySem.Spec PyProof.Rows
mutual
def D.eqb : D → D → Bool
  | .non, .non => true
  | .bl a, .bl b => a == b
  | .int a, .int b => decide (a = b)
  | .str a, .str b => decide (a = b)
  | .tup a, .tup b => D.eqbs a b
  | .ref a, .ref b => decide (a = b)
  | .kl a, .kl b => D.eqbs a b
  | _, _ => false
def D.eqbs : List D → List D → Bool
  | [], [] => true
  | a :: as, b :: bs => D.eqb a b && D.eqbs as bs
  | _, _ => false
end
mutual
theorem D.eqb_refl : ∀ a : D, D.eqb a a = true
  | .non => rfl
  | .bl a => by simp [D.eqb]
  | .int a => by simp [D.eqb]
  | .str a => by simp [D.eqb]
  | .tup a => by rw [D.eqb]; exact D.eqbs_refl a
  | .ref a => by simp [D.eqb]
  | .kl a => by rw [D.eqb]; exact D.eqbs_refl a
theorem D.eqbs_refl : ∀ a : List D, D.eqbs a a = true
  | [] => rfl
  | a :: as => by rw [D.eqbs, D.eqb_refl a, D.eqbs_refl as]; rfl
end
mutual
theorem D.eq_of : ∀ {a b : D}, D.eqb a b = true → a = b
  | .non, b, h => by cases b <;> simp [D.eqb] at h ⊢
  | .bl a, b, h => by cases b <;> simp [D.eqb] at h ⊢; exact h
  | .int a, b, h => by cases b <;> simp [D.eqb] at h ⊢; exact h
  | .str a, b, h => by cases b <;> simp [D.eqb] at h ⊢; exact h
  | .tup a, .tup b, h => by rw [D.eqb] at h; rw [D.eqs_of h]
  | .tup a, .non, h => by simp [D.eqb] at h
  | .tup a, .bl _, h => by simp [D.eqb] at h
  | .tup a, .int _, h => by simp [D.eqb] at h
  | .tup a, .str _, h => by simp [D.eqb] at h
  | .tup a, .ref _, h => by simp [D.eqb] at h
  | .tup a, .kl _, h => by simp [D.eqb] at h
  | .kl a, .kl b, h => by rw [D.eqb] at h; rw [D.eqs_of h]
  | .kl a, .non, h => by simp [D.eqb] at h
  | .kl a, .bl _, h => by simp [D.eqb] at h
  | .kl a, .int _, h => by simp [D.eqb] at h
  | .kl a, .str _, h => by simp [D.eqb] at h
  | .kl a, .ref _, h => by simp [D.eqb] at h
  | .kl a, .tup _, h => by simp [D.eqb] at h
  | .ref a, b, h => by cases b <;> simp [D.eqb] at h ⊢; exact h
theorem D.eqs_of : ∀ {a b : List D}, D.eqbs a b = true → a = b
  | [], [], _ => rfl
  | [], _ :: _, h => by simp [D.eqbs] at h
  | _ :: _, [], h => by simp [D.eqbs] at h
  | a :: as, b :: bs, h => by
    rw [D.eqbs, Bool.and_eq_true] at h
    rw [D.eq_of h.1, D.eqs_of h.2]
end
instance : DecidableEq D := fun a b => if h : D.eqb a b = true then .isTrue (D.eq_of h) else .isFalse fun e => h (by rw [e]; exact D.eqb_refl b)
def holdsL (st : Sto) (n : Nat) (ds : List D) : Bool := match st[n]? with
  | some (.lst xs) => D.eqbs xs ds
  | some (.fz xs) => D.eqbs xs ds
  | _ => false
theorem holdsL_of {st : Sto} {n : Nat} {ds : List D} (h : holdsL st n ds = true) : st[n]? = some (.lst ds) ∨ st[n]? = some (.fz ds) := by
  unfold holdsL at h
  split at h
  · rename_i xs e; rw [D.eqs_of h] at e; exact .inl e
  · rename_i xs e; rw [D.eqs_of h] at e; exact .inr e
  · cases h
theorem holdsL_lst {st : Sto} {n : Nat} {ds : List D} (h : st[n]? = some (.lst ds)) : holdsL st n ds = true := by unfold holdsL; rw [h]; exact D.eqbs_refl ds
section
variable {X : Cx} {e a b c : Expr} {es : List Expr} {st1 st2 : Stmt} {rest body orelse : List Stmt} {pos : Pos} {m ma mb mc : ME} {mt mu : MT} {mm : MA} {ms mq mr : MS} {mg : MG} {mgs : MGs} {mi : MI}
variable {K : PySem.W.Frag} {H H1 H2 : Hp} {io ka kb : List Addr} {st st' : Sto}
def walked (W : Wk) (st : Sto) : Bool := W.g.all fun p => holdsL st p.1 p.2
theorem walked_of {W : Wk} (h : walked W st = true) : stays W st := fun p hp => holdsL_of (List.all_eq_true.mp h p hp)
def mLoop (W : Wk) (g : MG) (m : MS) : List D → Rho → Sto → Option (Fl × Sto)
  | [], ρ, st => if walked W st = true then some (.nx ρ, st) else none
  | d :: ds, ρ, st => if walked W st = true then (g d ρ st).bind fun (ρ1, s1) => (m ρ1 s1).bind fun (f, s2) => match f with
    | .nx ρ2 => mLoop W g m ds ρ2 s2
    | .ct ρ2 => mLoop W g m ds ρ2 s2
    | .bk ρ2 => some (.nx ρ2, s2)
    | .rt d => some (.rt d, s2) else none
def mFor (mi : MI) (g : MG) (m : MS) : MS := fun ρ st => (mi ρ st).bind fun (W, s) => mLoop W g m W.ds ρ s
theorem ss_for {tg iter : Expr} (hp : PassesOwn (model X.prog X.w) X.A X.env X.xe) (hc : X.calm = true) (hi : SI X tg iter mi) (hg : SG X tg mg) (hb : SSs X body ms)
    (hs : ∀ x, foldedSetIterable iter X.env x = pure x := by intro _; rfl) : SS X (.For tg iter body [] pos) (mFor mi mg ms) := PS.imp (ps_for hp hc hi hg hb hs) fun N σ H h => by
  obtain ⟨ρ, st, io, f, st', E, S, e, w⟩ := ts_iff.mp h
  obtain ⟨⟨W, s1⟩, e1, e⟩ := ob_bind e
  refine ⟨ρ, st, io, W, s1, E, S, e1, fun J H1 k1 X1 S1 IO => ?_⟩
  refine ⟨fun i n σ2 H2 => n = W.ds.length - i ∧ ∃ ρ2 s2 k2, Ext (io ++ k1) k2 H1 H2 ∧ StR X.K H2 ((io ++ k1) ++ k2) s2 ∧ EnvR X.K H2 ((io ++ k1) ++ k2) σ2 ρ2 ∧ mLoop W mg ms (W.ds.drop i) ρ2 s2 = some (f, st'),
    ⟨_, rfl, ρ, s1, [], Ext.refl, by rw [List.append_nil]; exact S1, by rw [List.append_nil]; exact E.ext S X1, by rw [List.drop_zero]; exact e⟩, ?_⟩
  rintro i n σ2 H2 ⟨rfl, ρ2, s2, k2, X2, S2, E2, e2⟩
  have w2 : Wn X.K ((io ++ k1) ++ k2) H2 st' N f := (w.on X1 S1).on X2 S2
  cases hd : W.ds[i]? with
  | none =>
    have hl : W.ds.length ≤ i := List.getElem?_eq_none_iff.mp hd
    rw [List.drop_eq_nil_of_le hl] at e2
    obtain ⟨hw, e2⟩ := ite_some e2
    cases e2
    refine .inl ⟨?_, w2 σ2 H2 [] Ext.refl S2.nil (by rw [List.append_nil]; exact E2)⟩
    -- the end may lie behind
    by_cases hi : i = W.ds.length
    · rw [hi]; exact IO.stop H2 k2 _ X2 S2 (walked_of hw)
    · exact IO.stop' H2 k2 _ i hl X2 S2 (walked_of hw)
  | some d =>
    have hl : i < W.ds.length := (List.getElem?_eq_some_iff.mp hd).1
    have hdr : W.ds.drop i = d :: W.ds.drop (i + 1) := by
      rw [List.drop_eq_getElem_cons hl, (List.getElem?_eq_some_iff.mp hd).2]
    rw [hdr] at e2
    obtain ⟨hw, e2⟩ := ite_some e2
    obtain ⟨⟨ρ3, s3⟩, e3, e2⟩ := ob_bind e2
    obtain ⟨⟨f4, s4⟩, e4, e2⟩ := ob_bind e2
    obtain ⟨go, yl⟩ := IO.go i d H2 k2 s2 hd X2 S2 (walked_of hw)
    refine .inr ⟨go, fun σ5 H5 => ∃ ρ5 s5 k5, Ext (io ++ k1) k5 H1 H5 ∧ StR X.K H5 ((io ++ k1) ++ k5) s5 ∧ EnvR X.K H5 ((io ++ k1) ++ k5) σ5 ρ5 ∧ mLoop W mg ms (W.ds.drop (i + 1)) ρ5 s5 = some (f, st'),
      fun σ5 H5 h5 => ⟨W.ds.length - (i + 1), by omega, rfl, h5⟩, fun x H' y => ?_⟩
    obtain ⟨X3, S3, R3⟩ := yl x H' y
    have X23 : Ext (io ++ k1) k2 H1 H' := (X2.trans S2 X3).app
    refine ⟨d, ρ2, s2, (io ++ k1) ++ k2, ρ3, s3, R3, ?_, S3, e3, fun σ6 H6 k6 X6 S6 E6 => ?_⟩
    · have := E2.ext S2 X3
      rw [List.append_nil] at this
      exact this
    · refine ts_in E6 S6 e4 ?_
      have X26 := X23.trans S3 X6
      have S6' : StR X.K H6 ((io ++ k1) ++ (k2 ++ k6)) s3 := by rw [← List.append_assoc]; exact S6
      have fin : ∀ {ρ7 : Rho}, mLoop W mg ms (W.ds.drop (i + 1)) ρ7 s4 = some (f, st') → ∀ σ7 H7 k7, Ext ((io ++ k1) ++ k2 ++ k6) k7 H6 H7 → StR X.K H7 ((io ++ k1) ++ k2 ++ k6 ++ k7) s4 → EnvR X.K H7 ((io ++ k1) ++ k2 ++ k6 ++ k7) σ7 ρ7 →
          ∃ ρ5 s5 k5, Ext (io ++ k1) k5 H1 H7 ∧ StR X.K H7 ((io ++ k1) ++ k5) s5 ∧ EnvR X.K H7 ((io ++ k1) ++ k5) σ7 ρ5 ∧ mLoop W mg ms (W.ds.drop (i + 1)) ρ5 s5 = some (f, st') := by
        intro ρ7 e7 σ7 H7 k7 X7 S7 E7
        rw [List.append_assoc (io ++ k1)] at X7
        rw [List.append_assoc (io ++ k1), List.append_assoc (io ++ k1)] at S7 E7
        exact ⟨ρ7, s4, (k2 ++ k6) ++ k7, X26.trans S6' X7, S7, E7, e7⟩
      cases f4 with
      | nx ρ7 => exact fin e2
      | ct ρ7 => exact fin e2
      | bk ρ7 =>
        cases e2
        exact ((w.on X1 S1).on X23 S3).on X6 S6
      | rt dd =>
        cases e2
        exact ((w.on X1 S1).on X23 S3).on X6 S6
end
end L2.MP
set_option maxHeartbeats 4000000
namespace L2.MP
open PySem PySem.Spec PyProof.Rows
section
variable {X : Cx} {e a b c : Expr} {es : List Expr} {st1 st2 : Stmt} {rest body orelse : List Stmt} {pos : Pos} {m ma mb mc : ME} {mt mu : MT} {mm : MA} {ms mq mr : MS} {mg : MG} {mgs : MGs} {mi : MI}
variable {K : PySem.W.Frag} {H H1 H2 : Hp} {io ka kb : List Addr} {st st' : Sto}
theorem mCons_eq {ρ : Rho} {x : D} {xs : List D} {s s1 s2 : Sto} (h1 : m ρ s = some (x, s1)) (h2 : mm ρ s1 = some (xs, s2)) : mCons m mm ρ s = some (x :: xs, s2) := by
  unfold mCons
  rw [h1]
  show Option.bind (mm ρ s1) _ = _
  rw [h2]
  rfl
def lstAt (st : Sto) (n : Nat) : Option (List D) := match st[n]? with
  | some (.lst ds) => some ds
  | some (.fz ds) => some ds
  | _ => none
theorem lstAt_sq {n : Nat} {p : Addr} {ds : List D} (S : StR K H io st) (hn : io[n]? = some p) (h : lstAt st n = some ds) : ∃ xs, SqL K H p xs ∧ Reps K H io xs ds := by
  unfold lstAt at h
  split at h
  · rename_i o he
    cases h
    obtain ⟨xs, e, r⟩ := S.ob n p _ hn he
    exact ⟨xs, SqL.of e, r⟩
  · rename_i o he
    cases h
    obtain ⟨ob, xs, e, r⟩ := S.ob n p _ hn he
    exact ⟨xs, .inl (.inr ⟨ob, e⟩), r⟩
  · cases h
theorem lstAt_stays {n : Nat} {ds : List D} {W : Wk} (hm : (n, ds) ∈ W.g) (h : stays W st) : lstAt st n = some ds := by
  unfold lstAt
  rcases h _ hm with h | h
  · have h : st[n]? = some (.lst ds) := h
    rw [h]
  · have h : st[n]? = some (.fz ds) := h
    rw [h]
def mWL (m : ME) : MI := fun ρ st => (m ρ st).bind fun (d, s) => match d with
  | .ref n => (lstAt s n).map fun ds => (⟨ds, [(n, ds)]⟩, s)
  | _ => none
def mWT (m : ME) : MI := fun ρ st => (m ρ st).bind fun (d, s) => match d with
  | .tup ds => some (⟨ds, []⟩, s)
  | _ => none
theorem append_get {io ka : List Addr} {n : Nat} {p : Addr} (h : io[n]? = some p) : (io ++ ka)[n]? = some p := by
  rw [List.getElem?_append_left (List.getElem?_eq_some_iff.mp h).1]; exact h
theorem itl_ok {n : Nat} {p : Addr} {ds : List D} (hn : io[n]? = some p) : ItOk K H io ⟨ds, [(n, ds)]⟩ (Itl K p) where
  go := fun i d H1 k1 s hd X1 S1 hs => by
    obtain ⟨xs, hx, r⟩ := lstAt_sq S1 (append_get hn) (lstAt_stays List.mem_cons_self hs)
    obtain ⟨v, hv, rv⟩ := r.get hd
    refine ⟨⟨xs, v, hx, hv⟩, fun x H' y => ?_⟩
    obtain ⟨rfl, y⟩ := y
    have e := y xs hx
    rw [hv] at e
    cases e
    exact ⟨Ext.refl, S1, rv⟩
  stop := fun H1 k1 s X1 S1 hs => by
    obtain ⟨xs, hx, r⟩ := lstAt_sq S1 (append_get hn) (lstAt_stays List.mem_cons_self hs)
    exact ⟨xs, hx, by rw [r.length]; exact Nat.le_refl _⟩
  stop' := fun H1 k1 s i hi X1 S1 hs => by
    obtain ⟨xs, hx, r⟩ := lstAt_sq S1 (append_get hn) (lstAt_stays List.mem_cons_self hs)
    exact ⟨xs, hx, by rw [r.length]; exact hi⟩
theorem si_list {tg l : Expr} (hl : SE X l m) : SI X tg l (mWL m) := PI.imp (pi_list hl) fun σ H R ⟨ρ, st, io, W, st', E, S, e, k⟩ => by
  obtain ⟨⟨d, s1⟩, e1, e⟩ := ob_bind e
  dsimp only at e
  split at e
  · rename_i n
    obtain ⟨ds, e2, e⟩ := map_some' e
    cases e
    refine ⟨ρ, st, io, _, _, E, S, e1, fun v H1 k1 X1 S1 R1 => ?_⟩
    obtain ⟨p, rfl, hn⟩ := R1
    obtain ⟨xs, hx, r⟩ := lstAt_sq S1 hn e2
    exact ⟨p, rfl, ⟨xs, hx⟩, k _ H1 k1 X1 S1 (itl_ok hn)⟩
  · cases e
theorem itt_ok {st : Sto} {p : Addr} {xs : List V} {ds : List D} (S : StR K H io st) (hp : H p = some (.tup xs)) (r : Reps K H io xs ds) : ItOk K H io ⟨ds, []⟩ (Itt K p) where
  go := fun i d H1 k1 s hd X1 S1 hs => by
    obtain ⟨v, hv, rv⟩ := (r.ext S X1).get hd
    have hx : SqT K H1 p xs := SqT.of (X1.sqT S p xs hp)
    refine ⟨⟨xs, v, hx, hv⟩, fun x H' y => ?_⟩
    obtain ⟨rfl, y⟩ := y
    have e := y xs hx
    rw [hv] at e
    cases e
    exact ⟨Ext.refl, S1, rv⟩
  stop := fun H1 k1 s X1 S1 hs => ⟨xs, SqT.of (X1.sqT S p xs hp), by rw [r.length]; exact Nat.le_refl _⟩
  stop' := fun H1 k1 s i hi X1 S1 hs => ⟨xs, SqT.of (X1.sqT S p xs hp), by rw [r.length]; exact hi⟩
theorem si_tup {tg l : Expr} (hl : SE X l m) : SI X tg l (mWT m) := PI.imp (pi_tup hl) fun σ H R ⟨ρ, st, io, W, st', E, S, e, k⟩ => by
  obtain ⟨⟨d, s1⟩, e1, e⟩ := ob_bind e
  dsimp only at e
  split at e
  · rename_i ds
    cases e
    refine ⟨ρ, st, io, _, _, E, S, e1, fun v H1 k1 X1 S1 R1 => ?_⟩
    obtain ⟨p, xs, rfl, hp, r⟩ := R1
    exact ⟨p, rfl, ⟨xs, SqT.of hp⟩, k _ H1 k1 X1 S1 (itt_ok S1 hp r)⟩
  · cases e
def run (lo : Int) (n : Nat) : List D := (List.range n).map fun (k : Nat) => D.int (lo + (k : Int))
theorem run_len (lo : Int) (n : Nat) : (run lo n).length = n := by unfold run; rw [List.length_map, List.length_range]
theorem run_get {lo : Int} {n i : Nat} {d : D} (h : (run lo n)[i]? = some d) : i < n ∧ d = .int (lo + (i : Int)) := by
  have hi : i < n := by
    have q := (List.getElem?_eq_some_iff.mp h).1
    rwa [run_len] at q
  unfold run at h
  rw [List.getElem?_map, List.getElem?_range hi] at h
  exact ⟨hi, (Option.some.inj h).symm⟩
theorem itr_ok (lo : Int) (n : Nat) : ItOk K H io ⟨run lo n, []⟩ (Itr lo n) where
  go := fun i d H1 k1 s hd X1 S1 hs => by
    obtain ⟨hi, rfl⟩ := run_get hd
    refine ⟨hi, fun x H' y => ?_⟩
    obtain ⟨rfl, rfl⟩ := y
    exact ⟨Ext.refl, S1, rfl⟩
  stop := fun H1 k1 s X1 S1 hs => by
    show n ≤ _
    rw [run_len]; exact Nat.le_refl _
  stop' := fun H1 k1 s i hi X1 S1 hs => by
    show n ≤ i
    have hi : (run lo n).length ≤ i := hi
    rwa [run_len] at hi
def small (j : Int) : Bool := decide (-(2 ^ 62) ≤ j) && decide (j < 2 ^ 62)
theorem small_of {j : Int} (h : small j = true) : -(2 ^ 62) ≤ j ∧ j < 2 ^ 62 := by
  unfold small at h
  rw [Bool.and_eq_true] at h
  exact ⟨of_decide_eq_true h.1, of_decide_eq_true h.2⟩
def mR1 (m : ME) : MI := fun ρ st => (m ρ st).bind fun (d, s) => match d with
  | .int j => if small j = true then some (⟨run 0 j.toNat, []⟩, s) else none
  | _ => none
theorem si_range1 {tg a : Expr} {p pos : Pos} (hg : Gl X "range") (hm : X.mg "range" = none) (ha : SE X a m) (hs : starEach [a] X.env = [(false, eval a X.env)] := by rfl) : SI X tg (.Call (.Name "range" p) [a] [] pos) (mR1 m) :=
  PI.imp (pi_range1 hg hm (sa_cons ha sa_nil hs) hs) fun σ H R ⟨ρ, st, io, W, st', E, S, e, k⟩ => by
    obtain ⟨⟨d, s1⟩, e1, e⟩ := ob_bind e
    dsimp only at e
    split at e
    · rename_i j
      obtain ⟨hj, e⟩ := ite_some e
      cases e
      refine ⟨ρ, st, io, [.int j], _, E, S, (mCons_eq e1 rfl), fun vs H1 k1 X1 S1 R1 => ?_⟩
      obtain ⟨v, rfl, rfl⟩ := R1.one
      exact ⟨j, rfl, (small_of hj).1, (small_of hj).2, k _ H1 k1 X1 S1 (itr_ok 0 _)⟩
    · cases e
end
def rho (n : Nat) (ds : List D) : Rho := ds.map some ++ List.replicate (n - ds.length) none
def fnM (n : Nat) (m : MS) : GN := fun ds st => (m (rho n ds) st).bind fun (f, s) => match f with
  | .rt d => some (d, s)
  | .nx _ => some (.non, s)
  | _ => none
theorem env_start {K : PySem.W.Frag} {H : Hp} {io : List Addr} {N : List Str} {vs : List V} {ds : List D} (R : Reps K H io vs ds) : EnvR K H io (start N vs) (rho N.length ds) := by
  have hl := R.length
  refine ⟨by unfold start rho; simp [hl], fun i d h => ?_⟩
  unfold rho at h
  unfold start
  by_cases hi : i < ds.length
  · rw [List.getElem?_append_left (by simpa using hi), List.getElem?_map] at h
    cases e : ds[i]? with
    | none => rw [e] at h; cases h
    | some d' =>
      rw [e] at h
      cases (Option.some.inj (Option.some.inj h))
      obtain ⟨v, hv, r⟩ := R.get e
      exact ⟨v, by rw [List.getElem?_append_left (by simpa [hl] using hi), List.getElem?_map, hv]; rfl, r⟩
  · rw [List.getElem?_append_right (by simpa using hi), List.getElem?_replicate] at h
    split at h <;> cases h
section
variable {P : Program} {w : World} {K : PySem.W.Frag} {mg : Str → Option Value} {base : Heap}
theorem fn_m {x qual : Str} {st : Stmt} {f : Addr} {fd : FuncData} {N ps : List Str} {k : Nat} {m : MS} (F : Fun K x qual st f fd) (S : FnScope N ps (defScope st))
    (hbody : ∀ (cdv : Value) (A : Around) (outer : List Env) (s : Shared) (H : Hp) (E : XK), Room k (A.deeper (envOfC qual (defScope st) s.heap.objs.size f cdv)) →
      SSs (cxOf CX0 P w K mg base N qual (defScope st) f cdv A outer s H E).nox (defBody st) m) : FnOk P w K mg base CX0 (k + 1) f fd ps (spM K ps.length (fnM N.length m)) := by
  refine F.ok S (fun vs H Q E ⟨_, _, _, _, _, h, _⟩ => h) fun cdv A outer s H vs Q E hr h => ?_
  obtain ⟨ds, st0, io, d, st', hl, R, SR, e, k'⟩ := h
  refine ⟨_, hbody cdv A outer s H E hr, ?_⟩
  obtain ⟨⟨fl, s1⟩, e1, e⟩ := ob_bind e
  refine ts_in (env_start R) SR e1 ?_
  cases fl with
  | rt dd => cases e; exact k'
  | nx ρ => cases e; exact fun σ' H' ka X' S' E' => k' .non H' ka X' S' rfl
  | bk ρ => cases e
  | ct ρ => cases e
end
end L2.MP
set_option maxHeartbeats 4000000
namespace L2.MP
open PySem PySem.Spec PyProof.Rows
def clOf (cells : List (Str × Addr)) : List (Str × NameKind) → List (Str × Addr) → List (Str × Addr)
  | [], acc => acc
  | (n, k) :: r, acc => if k == .free then clOf cells r ((n, (cells.lookup n).getD 0) :: acc) else clOf cells r acc
theorem closure_go {env : Env} (f : Str × NameKind → List (Str × Addr) → Sem (ForInStep (List (Str × Addr))))
    (hf : ∀ n k acc, f (n, k) acc = if k == .free then (do let c ← cellOf env n; pure (.yield ((n, c) :: acc))) else pure (.yield acc)) :
    ∀ (names : List (Str × NameKind)) (acc : List (Str × Addr)), (∀ n, (n, NameKind.free) ∈ names → ∃ c, env.cells.lookup n = some c) → (forIn names acc f : Sem (List (Str × Addr))) = pure (clOf env.cells names acc)
  | [], acc, _ => by rw [List.forIn_nil]; rfl
  | (n, k) :: r, acc, h => by
    rw [List.forIn_cons, hf]
    unfold clOf
    cases hk : k == NameKind.free with
    | false =>
      rw [if_neg (by simp), if_neg (by simp)]
      have := closure_go f hf r acc fun m hm => h m (List.mem_cons_of_mem _ hm)
      rw [← this]; rfl
    | true =>
      rw [if_pos rfl, if_pos rfl]
      have hk' : k = NameKind.free := by simpa using hk
      obtain ⟨c, hc⟩ := h n (by rw [hk']; exact List.mem_cons_self)
      have := closure_go f hf r ((n, c) :: acc) fun m hm => h m (List.mem_cons_of_mem _ hm)
      rw [hc, Option.getD_some, ← this]
      unfold cellOf
      rw [hc]
      rfl
theorem closure_of {env : Env} {scope : Scope} (h : ∀ n, (n, NameKind.free) ∈ scope.names → ∃ c, env.cells.lookup n = some c) : closureFor scope env = pure (clOf env.cells scope.names []) := by
  unfold closureFor
  have := closure_go (env := env) (fun x acc => (match x with | (n, k) => if k == .free then (do let c ← cellOf env n; pure (.yield ((n, c) :: acc))) else pure (.yield acc))) (fun _ _ _ => rfl) scope.names [] h
  refine Eq.trans ?_ this
  simp only [bind_pure]
theorem clOf_mem {cells : List (Str × Addr)} : ∀ {names : List (Str × NameKind)} {acc : List (Str × Addr)} {p : Str × Addr}, p ∈ clOf cells names acc → p ∈ acc ∨ ((p.1, NameKind.free) ∈ names ∧ p.2 = (cells.lookup p.1).getD 0)
  | [], acc, p, h => .inl h
  | (n, k) :: r, acc, p, h => by
    unfold clOf at h
    cases hk : k == NameKind.free with
    | false =>
      rw [hk, if_neg (by simp)] at h
      rcases clOf_mem h with h | h
      · exact .inl h
      · exact .inr ⟨List.mem_cons_of_mem _ h.1, h.2⟩
    | true =>
      rw [hk, if_pos rfl] at h
      have hk' : k = NameKind.free := by simpa using hk
      rcases clOf_mem h with h | h
      · rcases List.mem_cons.mp h with h | h
        · subst h; exact .inr ⟨by rw [hk']; exact List.mem_cons_self, rfl⟩
        · exact .inl h
      · exact .inr ⟨List.mem_cons_of_mem _ h.1, h.2⟩
theorem clOf_has {cells : List (Str × Addr)} : ∀ {names : List (Str × NameKind)} {acc : List (Str × Addr)} {x : Str}, ((x, NameKind.free) ∈ names ∨ (acc.lookup x).isSome = true) → ((clOf cells names acc).lookup x).isSome = true
  | [], acc, x, h => by
    rcases h with h | h
    · exact absurd h (by simp)
    · exact h
  | (n, k) :: r, acc, x, h => by
    unfold clOf
    cases hk : k == NameKind.free with
    | false =>
      rw [if_neg (by simp)]
      refine clOf_has ?_
      rcases h with h | h
      · rcases List.mem_cons.mp h with h | h
        · have : k = NameKind.free := (Prod.mk.inj h).2.symm
          rw [this] at hk; exact absurd hk (by decide)
        · exact .inl h
      · exact .inr h
    | true =>
      rw [if_pos rfl]
      refine clOf_has ?_
      by_cases hx : x = n
      · subst hx; exact .inr (by simp)
      · rcases h with h | h
        · rcases List.mem_cons.mp h with h | h
          · exact absurd (Prod.mk.inj h).1 hx
          · exact .inl h
        · refine .inr ?_
          rw [List.lookup_cons]
          have : (x == n) = false := by simpa using hx
          rw [this]; exact h
theorem own_above : ∀ {names : List (Str × NameKind)} {n : Nat} {acc : List (Str × Addr)} {p : Str × Addr}, p ∈ cellsFrom n names acc → p ∈ acc ∨ n ≤ p.2
  | [], _, _, _, h => .inl h
  | (x, k) :: r, n, acc, p, h => by
    unfold cellsFrom at h
    split at h
    · rcases own_above h with h | h
      · rcases List.mem_cons.mp h with h | h
        · subst h; exact .inr (Nat.le_refl _)
        · exact .inl h
      · exact .inr (Nat.le_of_succ_le h)
    · exact own_above h
theorem cells_apart : ∀ {names : List (Str × NameKind)} {n : Nat} {acc : List (Str × Addr)}, (acc.Pairwise fun x y => x.2 ≠ y.2) → (∀ p ∈ acc, p.2 < n) → (cellsFrom n names acc).Pairwise fun x y => x.2 ≠ y.2
  | [], _, _, h, _ => h
  | (x, k) :: r, n, acc, h, hl => by
    unfold cellsFrom
    split
    · refine cells_apart (List.pairwise_cons.mpr ⟨fun y hy e => ?_, h⟩) fun p hp => ?_
      · have q := hl y hy
        have e' : n = y.2 := e
        rw [← e'] at q
        exact Nat.lt_irrefl _ q
      · rcases List.mem_cons.mp hp with rfl | hp
        · exact Nat.lt_succ_self _
        · exact Nat.lt_succ_of_lt (hl p hp)
    · exact cells_apart h hl
theorem own_has : ∀ {names : List (Str × NameKind)} {n : Nat} {acc : List (Str × Addr)} {x : Str}, ((x, NameKind.cell) ∈ names ∨ (acc.lookup x).isSome = true) → ((cellsFrom n names acc).lookup x).isSome = true
  | [], n, acc, x, h => by
    rcases h with h | h
    · exact absurd h (by simp)
    · exact h
  | (m, k) :: r, n, acc, x, h => by
    unfold cellsFrom
    cases hk : k == NameKind.cell with
    | false =>
      rw [if_neg (by simp)]
      refine own_has ?_
      rcases h with h | h
      · rcases List.mem_cons.mp h with h | h
        · have : k = NameKind.cell := (Prod.mk.inj h).2.symm
          rw [this] at hk; exact absurd hk (by decide)
        · exact .inl h
      · exact .inr h
    | true =>
      rw [if_pos rfl]
      refine own_has ?_
      by_cases hx : x = m
      · subst hx; exact .inr (by simp)
      · rcases h with h | h
        · rcases List.mem_cons.mp h with h | h
          · exact absurd (Prod.mk.inj h).1 hx
          · exact .inl h
        · refine .inr ?_
          rw [List.lookup_cons]
          have : (x == m) = false := by simpa using hx
          rw [this]; exact h
theorem own_none : ∀ {names : List (Str × NameKind)} {n : Nat} {acc : List (Str × Addr)} {x : Str}, (x, NameKind.cell) ∉ names → (cellsFrom n names acc).lookup x = acc.lookup x
  | [], _, _, _, _ => rfl
  | (m, k) :: r, n, acc, x, h => by
    unfold cellsFrom
    cases hk : k == NameKind.cell with
    | false => rw [if_neg (by simp)]; exact own_none fun q => h (List.mem_cons_of_mem _ q)
    | true =>
      rw [if_pos rfl, own_none fun q => h (List.mem_cons_of_mem _ q), List.lookup_cons]
      have hk' : k = NameKind.cell := by simpa using hk
      have : (x == m) = false := by
        cases e : x == m with
        | false => rfl
        | true => exact absurd (by rw [hk', show x = m by simpa using e]; exact List.mem_cons_self) h
      rw [this]
theorem own_get : ∀ {names : List (Str × NameKind)} {n : Nat} {acc : List (Str × Addr)} {x : Str} {c : Addr}, (x, NameKind.cell) ∈ names → (cellsFrom n names acc).lookup x = some c → n ≤ c
  | [], _, _, _, _, h, _ => absurd h (by simp)
  | (m, k) :: r, n, acc, x, c, h, e => by
    unfold cellsFrom at e
    cases hk : k == NameKind.cell with
    | false =>
      rw [hk, if_neg (by simp)] at e
      rcases List.mem_cons.mp h with h | h
      · have : k = NameKind.cell := (Prod.mk.inj h).2.symm
        rw [this] at hk; exact absurd hk (by decide)
      · exact own_get h e
    | true =>
      rw [hk, if_pos rfl] at e
      by_cases hr : (x, NameKind.cell) ∈ r
      · exact Nat.le_of_succ_le (own_get hr e)
      · rw [own_none hr] at e
        rcases List.mem_cons.mp h with h | h
        · have hx : x = m := (Prod.mk.inj h).1
          subst hx
          rw [List.lookup_cons_self] at e
          exact Nat.le_of_eq (Option.some.inj e)
        · exact absurd h hr
theorem push_cell : ∀ {names : List (Str × NameKind)} {h : Heap} {acc : List (Str × Addr)} {p : Str × Addr}, p ∈ cellsFrom h.objs.size names acc → p ∈ acc ∨ (pushCells h names).IsCell p.2 none
  | [], _, _, _, h => .inl h
  | (x, k) :: r, h, acc, p, e => by
    unfold cellsFrom at e
    unfold pushCells
    split at e
    · rename_i hk
      rw [if_pos hk]
      have sz : (h.push { cls := .type "cell", data := .cell none }).objs.size = h.objs.size + 1 := Heap.size_push ..
      rw [← sz] at e
      rcases push_cell e with q | q
      · rcases List.mem_cons.mp q with q | q
        · subst q
          exact .inr ⟨_, pushCells_keeps _ _ _ _ (Heap.get?_push_size _ rfl), rfl⟩
        · exact .inl q
      · exact .inr q
    · rename_i hk
      rw [if_neg hk]
      exact push_cell e
end L2.MP
set_option maxHeartbeats 4000000
namespace L2.MP
open PySem PySem.Spec PyProof.Rows
def compCx (X : Cx) (scope : Scope) (N' : List Str) (cells : List (Str × Addr)) (C : Addr) (s0 : Shared) (H0 : Hp) (ex : List Addr) : Cx :=
  { X with N := N', s₀ := s0, H₀ := H0, env := compEnvC scope cells C X.env, outer := X.stack, ex := ex, fn := fun x => scope.names.any fun p => p.1 == x && p.2 == .cell, pn := [], xe := fun _ _ => False }
structure CompS (X : Cx) (scope : Scope) (N' : List Str) (nt : Nat) (fr : List Nat) : Prop where
  kind : scope.kind = .function
  nd : (scope.names.map (·.1)).Nodup
  len : N'.length = nt + fr.length
  cap : ∀ (i j : Nat) (x : Str), fr[i]? = some j → N'[nt + i]? = some x → X.N[j]? = some x ∧ (x, NameKind.free) ∈ scope.names
  out : ∀ x, (x, NameKind.free) ∈ scope.names → X.env.kindOf x = some .cell ∨ X.env.kindOf x = some .free
theorem lookup_mem : ∀ {l : List (Str × NameKind)} {x : Str} {k : NameKind}, (l.map (·.1)).Nodup → (x, k) ∈ l → l.lookup x = some k
  | [], _, _, _, h => absurd h (by simp)
  | (n, j) :: r, x, k, nd, h => by
    rw [List.map_cons, List.nodup_cons] at nd
    rw [List.lookup_cons]
    rcases List.mem_cons.mp h with h | h
    · cases h; simp
    · have : x ≠ n := fun e => nd.1 (by rw [← e]; exact List.mem_map.mpr ⟨_, h, rfl⟩)
      have : (x == n) = false := by simpa using this
      rw [this]; exact lookup_mem nd.2 h
theorem lookup_relabel {env : Env} : ∀ {l : List (Str × NameKind)} {x : Str} {k : NameKind}, (l.map fun (n, k) => if (k == NameKind.free && env.scope.kind == .function && env.kindOf n == some .cell) then (n, NameKind.cell) else (n, k)).lookup x = some k →
    ∃ k', l.lookup x = some k' ∧ (k' = k ∨ k' = .free)
  | [], _, _, h => by simp at h
  | (n, j) :: r, x, k, h => by
    rw [List.map_cons] at h
    dsimp only at h
    by_cases hc : (j == NameKind.free && env.scope.kind == .function && env.kindOf n == some .cell) = true
    · rw [if_pos hc, List.lookup_cons] at h
      rw [List.lookup_cons]
      cases hx : x == n with
      | true =>
        have : j = .free := by
          rw [Bool.and_eq_true, Bool.and_eq_true] at hc
          simpa using hc.1.1
        exact ⟨j, rfl, .inr this⟩
      | false => rw [hx] at h; exact lookup_relabel h
    · rw [if_neg hc, List.lookup_cons] at h
      rw [List.lookup_cons]
      cases hx : x == n with
      | true => rw [hx] at h; cases h; exact ⟨j, rfl, .inl rfl⟩
      | false => rw [hx] at h; exact lookup_relabel h
theorem relabel_free {env : Env} : ∀ {l : List (Str × NameKind)} {x : Str}, l.lookup x = some .free →
    (l.map fun (n, k) => if (k == NameKind.free && env.scope.kind == .function && env.kindOf n == some .cell) then (n, NameKind.cell) else (n, k)).lookup x = some .cell ∨
    (l.map fun (n, k) => if (k == NameKind.free && env.scope.kind == .function && env.kindOf n == some .cell) then (n, NameKind.cell) else (n, k)).lookup x = some .free
  | [], _, h => by simp at h
  | (n, j) :: r, x, h => by
    rw [List.map_cons]
    dsimp only
    rw [List.lookup_cons] at h
    by_cases hc : (j == NameKind.free && env.scope.kind == .function && env.kindOf n == some .cell) = true
    · rw [if_pos hc, List.lookup_cons]
      cases hx : x == n with
      | true => exact .inl rfl
      | false => rw [hx] at h; exact relabel_free h
    · rw [if_neg hc, List.lookup_cons]
      cases hx : x == n with
      | true => rw [hx] at h; cases h; exact .inr rfl
      | false => rw [hx] at h; exact relabel_free h
section
variable {X : Cx} {scope : Scope} {N' : List Str} {nt : Nat} {fr : List Nat} {pins : List (Addr × Obj)} {σ : L2.St} {H : Hp} {s : Shared}
abbrev clX (X : Cx) (scope : Scope) : List (Str × Addr) := clOf X.env.cells scope.names []
abbrev cellsX (X : Cx) (scope : Scope) (C : Nat) : List (Str × Addr) := cellsFrom (C + 1) scope.names (clX X scope)
theorem cl_real (Z : CompS X scope N' nt fr) (ok : X.Ok) {p : Str × Addr} (h : p ∈ clX X scope) : (p.1, NameKind.free) ∈ scope.names ∧ X.env.cells.lookup p.1 = some p.2 := by
  rcases clOf_mem h with h | ⟨h1, h2⟩
  · exact absurd h (by simp)
  · obtain ⟨c, hc⟩ := ok.has p.1 (Z.out p.1 h1)
    rw [hc, Option.getD_some] at h2
    exact ⟨h1, by rw [hc, h2]⟩
theorem cl_lookup (Z : CompS X scope N' nt fr) (ok : X.Ok) {x : Str} (h : (x, NameKind.free) ∈ scope.names) : ∃ c, X.env.cells.lookup x = some c ∧ ∀ C, (cellsX X scope C).lookup x = some c := by
  obtain ⟨c, hc⟩ := ok.has x (Z.out x h)
  refine ⟨c, hc, fun C => ?_⟩
  have no : (x, NameKind.cell) ∉ scope.names := fun q => by
    have a := lookup_mem Z.nd h
    have b := lookup_mem Z.nd q
    rw [a] at b; cases b
  rw [own_none no]
  have q := clOf_has (cells := X.env.cells) (acc := []) (.inl h)
  obtain ⟨c', e⟩ := Option.isSome_iff_exists.mp q
  have := (cl_real Z ok (PySem.mem_of_lookup e)).2
  have this : X.env.cells.lookup x = some c' := this
  rw [hc] at this
  rw [e, this]
theorem cl_apart (Z : CompS X scope N' nt fr) (ok : X.Ok) : (clX X scope).Pairwise fun x y => x.2 ≠ y.2 := by
  have gen : ∀ (names : List (Str × NameKind)) (acc : List (Str × Addr)), (∀ n, (n, NameKind.free) ∈ names → ∃ c, X.env.cells.lookup n = some c) → (names.map (·.1)).Nodup → (∀ p ∈ acc, p.1 ∉ names.map (·.1) ∧ X.env.cells.lookup p.1 = some p.2) → (acc.Pairwise fun x y => x.2 ≠ y.2) →
      (clOf X.env.cells names acc).Pairwise fun x y => x.2 ≠ y.2 := by
    intro names
    induction names with
    | nil => intro acc _ _ _ h; exact h
    | cons p r ih =>
      intro acc hf nd ha hp
      obtain ⟨n, k⟩ := p
      rw [List.map_cons, List.nodup_cons] at nd
      unfold clOf
      cases hk : k == NameKind.free with
      | false =>
        rw [if_neg (by simp)]
        exact ih acc (fun m hm => hf m (List.mem_cons_of_mem _ hm)) nd.2 (fun q hq => ⟨fun z => (ha q hq).1 (by rw [List.map_cons]; exact List.mem_cons_of_mem _ z), (ha q hq).2⟩) hp
      | true =>
        rw [if_pos rfl]
        have hk' : k = NameKind.free := by simpa using hk
        obtain ⟨c, hc⟩ := hf n (by rw [hk']; exact List.mem_cons_self)
        refine ih _ (fun m hm => hf m (List.mem_cons_of_mem _ hm)) nd.2 (fun q hq => ?_) (List.pairwise_cons.mpr ⟨fun y hy e => ?_, hp⟩)
        · rcases List.mem_cons.mp hq with rfl | hq
          · exact ⟨nd.1, by rw [hc]; rfl⟩
          · exact ⟨fun z => (ha q hq).1 (by rw [List.map_cons]; exact List.mem_cons_of_mem _ z), (ha q hq).2⟩
        · have e1 : (X.env.cells.lookup n).getD 0 = y.2 := e
          rw [hc, Option.getD_some] at e1
          have e2 := (ha y hy).2
          rw [← e1] at e2
          have := ok.inj _ _ _ e2 hc
          exact (ha y hy).1 (by rw [this, List.map_cons]; exact List.mem_cons_self)
  exact gen scope.names [] (fun n hn => ok.has n (Z.out n hn)) Z.nd (fun p hp => absurd hp (by simp)) List.Pairwise.nil
theorem comp_env {M : Model} {A : Around} {E : Value → Shared → Prop} {env : Env} {cl : List (Str × Addr)} {Q : Env → Shared → Prop}
    (h : Q { scope := scope, locals := s.heap.objs.size, globals := env.globals, cells := cellsFrom (s.heap.objs.size + 1) scope.names cl, qual := env.qual, func := none, code := env.code, frame := env.frame, builtins := env.builtins }
      { s with heap := pushCells (s.heap.push { cls := .type "dict", data := .dict #[] }) scope.names }) :
    wpAny M A (newFunctionEnv scope env.globals cl [] env.qual none .none (some env)) Q E s := by
  simp only [newFunctionEnv, Option.isSome_some, if_true]
  refine wpAny_bind (wpAny_alloc ?_)
  refine wpAny_bind (wpAny_layCells _ (fun name kind cells => by cases hkc : kind == NameKind.cell <;> simp [hkc]) _ _ _ _ ?_)
  rw [show ({ s with heap := s.heap.push { cls := .type "dict", data := .dict #[] } } : Shared).heap.objs.size = s.heap.objs.size + 1 from Heap.size_push ..]
  rw [List.forIn_nil]
  exact wpAny_bind (wpAny_pure (wpAny_pure h))
def comp0 (σ : L2.St) (nt : Nat) (fr : List Nat) : L2.St := List.replicate nt none ++ fr.map fun (j : Nat) => (σ[j]?).join
theorem inv_comp {fp : List Addr} (Z : CompS X scope N' nt fr) (I : Inv X pins σ H s) (hf : ∀ b ∈ fp, FpOk X pins H b) (hlt : ∀ b ∈ fp, b < s.heap.objs.size) :
    Inv (compCx X scope N' (cellsX X scope s.heap.objs.size) s.heap.objs.size s H fp) [] (comp0 σ nt fr) H { s with heap := pushCells (s.heap.push { cls := .type "dict", data := .dict #[] }) scope.names } := by
  have ok := I.ok
  have kp : ∀ b o, s.heap.get? b = some o → (pushCells (s.heap.push { cls := .type "dict", data := .dict #[] }) scope.names).get? b = some o := fun b o e => pushCells_keeps _ _ b o (Heap.get?_push_of_some _ e)
  have clt : ∀ p ∈ clX X scope, p.2 < s.heap.objs.size := fun p hp => by
    obtain ⟨_, e⟩ := cl_real Z ok hp
    obtain ⟨v, q⟩ := I.cell p.1 p.2 e
    exact q.lt
  have sz : (s.heap.push { cls := .type "dict", data := .dict #[] }).objs.size = s.heap.objs.size + 1 := Heap.size_push ..
  have cells : ∀ x c, (cellsX X scope s.heap.objs.size).lookup x = some c → (X.env.cells.lookup x = some c) ∨ (s.heap.objs.size + 1 ≤ c ∧ (pushCells (s.heap.push { cls := .type "dict", data := .dict #[] }) scope.names).IsCell c none) := fun x c e => by
    have m := PySem.mem_of_lookup e
    rcases own_above m with h | h
    · exact .inl (cl_real Z ok h).2
    · refine .inr ⟨h, ?_⟩
      have m' : (x, c) ∈ cellsFrom (s.heap.push { cls := .type "dict", data := .dict #[] }).objs.size scope.names (clX X scope) := by rw [sz]; exact m
      rcases push_cell m' with q | q
      · have l := clt _ q
        exact absurd (Nat.lt_of_lt_of_le l (Nat.le_of_succ_le h)) (Nat.lt_irrefl _)
      · exact q
  refine ⟨⟨ok.mod, Z.kind, ok.glob, ok.blt, Nat.le_refl _, fun x y c h1 h2 => ?_, fun x hx => ?_, fun x c h1 h2 => ?_, ok.hd, ok.frames, .inl rfl, fun b hb => ?_, I.bs, Nat.le_trans ok.bsz I.sz, fun b o e hb => ?_, fun b hb => ?_, I.stack, I.stkFree⟩,
    rfl, I.bare, Un.kept kp, ⟨fun _ => none, ?_, fun i x v h1 h2 h3 => ?_⟩, fun x c e => ?_, I.hok.fresh (Nat.le_refl _), fun x c e => ?_, fun p hp => absurd hp (by simp [compCx]), I.hok.kept kp, ?_⟩
  · exact name_of_addr (cells_apart (cl_apart Z ok) fun p hp => Nat.lt_succ_of_lt (clt p hp)) (PySem.mem_of_lookup h1) (PySem.mem_of_lookup h2)
  · have hx : (relabel scope X.env).names.lookup x = some .cell ∨ (relabel scope X.env).names.lookup x = some .free := hx
    have q : (x, NameKind.cell) ∈ scope.names ∨ (x, NameKind.free) ∈ scope.names := by
      rcases hx with hx | hx
      · obtain ⟨k', e, z | z⟩ := lookup_relabel hx
        · subst z; exact .inl (PySem.mem_of_lookup e)
        · subst z; exact .inr (PySem.mem_of_lookup e)
      · obtain ⟨k', e, z | z⟩ := lookup_relabel hx
        · subst z; exact .inr (PySem.mem_of_lookup e)
        · subst z; exact .inr (PySem.mem_of_lookup e)
    refine Option.isSome_iff_exists.mp (own_has (n := s.heap.objs.size + 1) (acc := clX X scope) ?_)
    rcases q with q | q
    · exact .inl q
    · exact .inr (clOf_has (.inl q))
  · have h1 : (scope.names.any fun p => p.1 == x && p.2 == NameKind.cell) = true := h1
    obtain ⟨p, hp, e⟩ := List.any_eq_true.mp h1
    rw [Bool.and_eq_true] at e
    have e1 : p.1 = x := by simpa using e.1
    have e2 : p.2 = NameKind.cell := by simpa using e.2
    have hm : (x, NameKind.cell) ∈ scope.names := by rw [← e1, ← e2]; exact hp
    exact Nat.le_of_succ_le (own_get hm h2)
  · refine ⟨Nat.ne_of_lt (hlt b hb), fun x c e z => ?_⟩
    rcases cells x c e with q | ⟨q, _⟩
    · exact (hf b hb).2.2.2.2.1 x c q z
    · have l := hlt b hb
      rw [← z] at l
      exact absurd (Nat.lt_of_lt_of_le l (Nat.le_of_succ_le q)) (Nat.lt_irrefl _)
  · rcases (hf b hb).2.2.2.1 with z | z
    · exact ok.noex b o e z
    · exact absurd (Nat.lt_of_lt_of_le (Heap.lt_size e) (Nat.le_trans ok.bsz z)) (Nat.lt_irrefl _)
  · intro hs
    rcases List.mem_cons.mp (I.stkSub b hs) with e | e
    · exact (hf b hb).2.1 e
    · exact (hf b hb).2.2.1 e
  · exact (Heap.Ns.new s.heap (.type "dict")).keeps (pushCells_keeps _ _)
  · -- a captured name
    have hi : nt ≤ i := by
      by_cases hi : i < nt
      · unfold comp0 at h2
        rw [List.getElem?_append_left (by simpa using hi), List.getElem?_replicate, if_pos hi] at h2
        cases h2
      · omega
    obtain ⟨i', rfl⟩ : ∃ i', i = nt + i' := ⟨i - nt, by omega⟩
    unfold comp0 at h2
    rw [List.getElem?_append_right (by simp), List.length_replicate, Nat.add_sub_cancel_left, List.getElem?_map] at h2
    cases ej : fr[i']? with
    | none => rw [ej] at h2; cases h2
    | some j =>
      rw [ej] at h2
      have h2 : (σ[j]?).join = some v := Option.some.inj h2
      have h2 : σ[j]? = some (some v) := by
        cases q : σ[j]? with
        | none => rw [q] at h2; cases h2
        | some w => rw [q] at h2; cases w with
          | none => cases h2
          | some w => cases h2; rfl
      obtain ⟨hN, hfree⟩ := Z.cap i' j x ej h1
      obtain ⟨c, hc, hcc⟩ := cl_lookup Z ok hfree
      have ho := Z.out x hfree
      obtain ⟨m, hn, hl⟩ := I.loc
      obtain ⟨u, r, l⟩ := hl j x v hN h2 (ho.elim (fun z => .inr (.inl z)) fun z => .inr (.inr z))
      refine ⟨u, r, .inr ⟨?_, c, hcc _, ?_⟩⟩
      · exact relabel_free (lookup_mem Z.nd hfree)
      · rcases l with ⟨k, _⟩ | ⟨_, c', e', z⟩
        · rcases ho with q | q
          · rw [k] at q; cases q
          · rw [k] at q; cases q
        · rw [hc] at e'; cases e'
          exact z.keeps kp
  · rcases cells x c e with q | ⟨_, q⟩
    · obtain ⟨v, z⟩ := I.cell x c q
      exact ⟨v, z.keeps kp⟩
    · exact ⟨none, q⟩
  · rcases cells x c e with q | ⟨q, _⟩
    · exact I.freeC x c q
    · exact I.hok.fresh (Nat.le_of_succ_le q)
  · show _ = N'.length
    unfold comp0
    rw [Z.len, List.length_append, List.length_replicate, List.length_map]
end
end L2.MP
set_option maxHeartbeats 4000000
namespace L2.MP
open PySem PySem.Spec PyProof.Rows
abbrev FF : Value → Shared → Prop := fun _ _ => False
theorem compLoop_go {prog : Program} {w : World} {A : Around} {R : Result → Shared → Prop} {s : Shared} {elt target iter : Expr} {ifs : List Expr} {scope : Scope} {pos : Pos} {it acc : Value} {env : Env} (I : Nat → Shared → Prop)
    (turn : ∀ n s, I n s → wpAny (model prog w) A (pyNext it) (fun r s1 => match r with
      | none => R (.ok .next) s1
      | some v => wpAny (model prog w) A (letOwnedTupleGo target it v) (fun _ s1 => wpAny (model prog w) A (assign target env v) (fun _ s2 =>
          wpAny (model prog w) A (forIn ifs true fun c r => if r = true then do let ok ← isTrue c env (eval c env); pure (ForInStep.yield ok) else pure (ForInStep.yield r)) (fun ok s3 =>
            if ok = true then wpAny (model prog w) A (eval elt env) (fun x s4 =>
              wpAny (model prog w) A (call (.builtin "list.append") [acc, x]) (fun _ s5 => ∃ m, m < n ∧ I m s5) FF s4) FF s3
            else ∃ m, m < n ∧ I m s3) FF s2) FF s1) FF s1) FF s)
    (n : Nat) (h : I n s) :
    codeAny (model prog w) A (.compLoop (.ListComp elt [⟨target, iter, ifs, 0⟩] scope pos) 0 it acc env) R s := by
  refine codeAny_loop rfl I (fun n s hI => ?_) n h
  show wpAny _ A ((compTurn (.ListComp elt [⟨target, iter, ifs, 0⟩] scope pos) 0 it acc env).onRaise (fun x => do noteFrame x env; theTreesLotGoes x)) _ _ s
  refine wpAny_noted ?_
  rw [compTurn_list]
  refine wpAny_bind (wpAny_standAt (wpAny_bind (wpAny_mono (turn n s hI) (fun r s₁ h₁ => ?_) fun _ _ h' => False.elim h')))
  cases r with
  | none => exact wpAny_pure h₁
  | some v =>
    refine wpAny_bind (wpAny_mono h₁ (fun _ s₂ h₂ => ?_) fun _ _ h' => False.elim h')
    refine wpAny_bind (wpAny_mono h₂ (fun _ s₂ h₂ => wpAny_bind (wpAny_mono h₂ (fun ok s₃ h₃ => ?_) fun _ _ h' => False.elim h')) fun _ _ h' => False.elim h')
    cases ok with
    | false => exact wpAny_pure ⟨rfl, h₃⟩
    | true =>
      exact wpAny_bind (wpAny_bind (wpAny_mono h₃ (fun x s₄ h₄ => wpAny_bind (wpAny_mono h₄ (fun _ s₅ h₅ => wpAny_pure (wpAny_pure ⟨rfl, h₅⟩)) fun _ _ h' => False.elim h')) fun _ _ h' => False.elim h'))
def mCI (W : Wk) (g : MG) (c : MT) (m : ME) : List D → Rho → Sto → Option (List D × Sto)
  | [], ρ, st => if walked W st = true then some ([], st) else none
  | d :: ds, ρ, st => if walked W st = true then (g d ρ st).bind fun (ρ1, s1) => (c ρ1 s1).bind fun (b, s2) =>
      if b = true then (m ρ1 s2).bind fun (x, s3) => (mCI W g c m ds ρ1 s3).map fun (xs, s4) => (x :: xs, s4) else mCI W g c m ds ρ1 s2 else none
def rho0 (ρ : Rho) (nt : Nat) (fr : List Nat) : Rho := List.replicate nt none ++ fr.map fun (j : Nat) => (ρ[j]?).join
def mComp (mi : MI) (nt : Nat) (fr : List Nat) (g : MG) (c : MT) (m : ME) : ME := fun ρ st => (mi ρ st).bind fun (W, s1) => (mCI W g c m W.ds (rho0 ρ nt fr) s1).bind fun (xs, s2) =>
  if fits xs.length = true then some (.ref s2.length, s2 ++ [.lst xs]) else none
def mTrue : MT := fun _ st => some (true, st)
def SC (X : Cx) (ifs : List Expr) (m : MT) : Prop := ∀ (pins : List (Addr × Obj)) (s : Shared) (σ : L2.St) (H : Hp) (Q : Bool → Hp → Prop), Inv X pins σ H s → tT X.K m σ H Q →
  wpAny (model X.prog X.w) X.A (forIn ifs true fun c r => if r = true then do let ok ← isTrue c X.env (eval c X.env); pure (ForInStep.yield ok) else pure (ForInStep.yield r)) (TP X pins σ Q) X.xe s
theorem sc_nil {X : Cx} : SC X [] mTrue := fun pins s σ H Q I ⟨ρ, st, io, b, st', E, S, e, k⟩ => by
  cases e
  rw [List.forIn_nil]
  exact wpAny_pure ⟨H, I, k H [] Ext.refl S.nil⟩
section
variable {K : PySem.W.Frag} {H H1 : Hp} {io ka : List Addr} {st : Sto} {σ : L2.St} {ρ : Rho}
theorem env_comp {nt : Nat} {fr : List Nat} (h : EnvR K H io σ ρ) : EnvR K H io (comp0 σ nt fr) (rho0 ρ nt fr) := by
  refine ⟨by unfold comp0 rho0; simp, fun i d e => ?_⟩
  unfold rho0 at e
  unfold comp0
  by_cases hi : i < nt
  · rw [List.getElem?_append_left (by simpa using hi), List.getElem?_replicate, if_pos hi] at e
    cases e
  · rw [List.getElem?_append_right (by simpa using hi), List.length_replicate, List.getElem?_map] at e ⊢
    cases ej : fr[i - nt]? with
    | none => rw [ej] at e; cases e
    | some j =>
      rw [ej] at e
      have e : (ρ[j]?).join = some d := Option.some.inj e
      have e : ρ[j]? = some (some d) := by
        cases q : ρ[j]? with
        | none => rw [q] at e; cases e
        | some w => rw [q] at e; cases w with
          | none => cases e
          | some w => cases e; rfl
      obtain ⟨v, hv, r⟩ := h.at_ j d e
      exact ⟨v, by simp [hv], r⟩
theorem adopt {p : Addr} {xs : List V} {ds : List D} (S : StR K H io st) (hp : H p = some (.lst xs)) (np : p ∉ io) (R : Reps K H io xs ds) : StR K H (io ++ [p]) (st ++ [.lst ds]) := by
  refine ⟨by simp [S.len], ?_, fun n a ob h1 h2 => ?_⟩
  · rw [List.nodup_append]
    refine ⟨S.nd, by simp, fun a ha b hb => ?_⟩
    rw [List.mem_singleton.mp hb]
    rintro rfl
    exact np ha
  · by_cases hn : n < io.length
    · rw [List.getElem?_append_left hn] at h1
      rw [List.getElem?_append_left (by rw [← S.len]; exact hn)] at h2
      exact OR.mono ⟨fun _ _ h => h, fun _ _ _ h => h⟩ rfl (S.ob n a ob h1 h2)
    · have hl : n < (io ++ [p]).length := (List.getElem?_eq_some_iff.mp h1).1
      rw [List.length_append, List.length_singleton] at hl
      have e : n = io.length := by omega
      subst e
      rw [List.getElem?_append_right (Nat.le_refl _), Nat.sub_self] at h1
      rw [S.len, List.getElem?_append_right (Nat.le_refl _), Nat.sub_self] at h2
      cases (Option.some.inj h1)
      cases (Option.some.inj h2)
      exact ⟨xs, hp, Reps.mono ⟨fun _ _ h => h, fun _ _ _ h => h⟩ R⟩
end
section
variable {X : Cx} {scope : Scope} {N' : List Str} {nt : Nat} {fr : List Nat} {elt tg iter : Expr} {ifs : List Expr} {pos : Pos} {mi : MI} {g : MG} {c : MT} {m : ME}
structure CompEnd (X : Cx) (pins : List (Addr × Obj)) (σ : L2.St) (H : Hp) (io : List Addr) (d : D) (st' : Sto) (Dd C : Addr) (H5 : Hp) (s6 : Shared) : Prop where
  inv : Inv X pins σ H5 s6
  ns : ∃ m, s6.heap.Ns C m
  free : H5 C = none
  ne : C ≠ X.env.locals
  young : X.s₀.heap.objs.size ≤ C
  cells : ∀ x c, X.env.cells.lookup x = some c → c ≠ C
  pin : ∀ p ∈ X.pn ++ pins, p.1 ≠ C
  val : ∃ ka, Ext io ka H H5 ∧ StR X.K H5 (io ++ ka) st' ∧ Rep X.K H5 (io ++ ka) (.ref Dd) d
theorem comp_run (hx : X.xe = FF) (hc : X.calm = true) (Z : CompS X scope N' nt fr) (hi : SI X tg iter mi)
    (hg : ∀ C s0 H0 fp, SG (compCx X scope N' (cellsX X scope C) C s0 H0 fp) tg g) (ht : ∀ C s0 H0 fp, SC (compCx X scope N' (cellsX X scope C) C s0 H0 fp) ifs c) (he : ∀ C s0 H0 fp, SE (compCx X scope N' (cellsX X scope C) C s0 H0 fp) elt m)
    (hs : ∀ x, foldedSetIterable iter X.env x = pure x) {pins : List (Addr × Obj)} {s : Shared} {σ : L2.St} {H : Hp} {ρ : Rho} {st st' : Sto} {io : List Addr} {d : D} {use : Option (Value → Sem Unit)} {Qf : Value → Shared → Prop} {ps : Pos}
    (I : Inv X pins σ H s) (E : EnvR X.K H io σ ρ) (S : StR X.K H io st) (e : mComp mi nt fr g c m ρ st = some (d, st'))
    (kf : ∀ Dd C H5 s6, CompEnd X pins σ H io d st' Dd C H5 s6 → compPost (model X.prog X.w) X.A X.xe use Qf (.ref Dd) C (.ok .next) s6) :
    wpAny (model X.prog X.w) X.A (comprehension (.ListComp elt [⟨tg, iter, ifs, 0⟩] scope pos) scope X.env ps (newList []) false (eval iter X.env) use) Qf X.xe s := by
  obtain ⟨⟨W, t1⟩, e1, e⟩ := ob_bind e
  obtain ⟨⟨xs, t2⟩, e2, e⟩ := ob_bind e
  obtain ⟨hfit, e⟩ := ite_some e
  cases e
  refine wpAny_comprehension_free (use := use) rfl hs (closure_of fun n hn => I.ok.has n (Z.out n hn)) Z.kind (fun x hx hl => by
    obtain ⟨n, k⟩ := x
    cases (show k = .local from hl)
    exact lookup_mem Z.nd hx) ?_
  refine thn (hi pins s σ H (fun J H1 => ∃ ka, Ext io ka H H1 ∧ StR X.K H1 (io ++ ka) t1 ∧ ItOk X.K H1 (io ++ ka) W J) I ⟨ρ, st, io, W, t1, E, S, e1, fun J H' ka X' S' O' => ⟨ka, X', S', O'⟩⟩) fun v sa ha => ?_
  refine thn ha fun itv s2 ⟨it, fp, tn, J, H1, eit, I1, T, tn0, fpok, k1, X1, S1, IO⟩ => ?_
  subst eit
  refine wpAny_newObj_type ?_
  -- the new list
  have hD : H1 s2.heap.objs.size = none := I1.hok.fresh (Nat.le_refl _)
  have I3 : Inv X pins σ (upd H1 s2.heap.objs.size (.lst [])) { s2 with heap := s2.heap.push { cls := .type "list", data := .seq ([] : List Value).toArray }, toks := s2.toks } := I1.lnew .nil (Nat.zero_le _)
  obtain ⟨X2, S2a⟩ := new_out (o := .lst []) S1 hD
  rw [List.append_nil] at S2a
  have S2 : StR X.K (upd H1 s2.heap.objs.size (.lst [])) (io ++ k1) t1 := S2a
  clear S2a
  generalize hH3 : upd H1 s2.heap.objs.size (.lst []) = H3 at I3 X2 S2
  have H3D : H3 s2.heap.objs.size = some (.lst []) := by rw [← hH3]; exact upd_same
  generalize hD' : s2.heap.objs.size = Dd at *
  generalize hs3 : ({ s2 with heap := s2.heap.push { cls := .type "list", data := .seq ([] : List Value).toArray }, toks := s2.toks } : Shared) = s3 at I3
  have fplt : ∀ b ∈ fp, b < s3.heap.objs.size := fun b hb => by
    obtain ⟨o, ho, _⟩ := T.obj 0 _ tn0 b hb
    rw [← hs3]
    exact Nat.lt_of_lt_of_le (Heap.lt_size ho) (by show _ ≤ (s2.heap.push _).objs.size; rw [Heap.size_push]; exact Nat.le_succ _)
  have fpD : ∀ b ∈ fp, b ≠ Dd := fun b hb z => by
    obtain ⟨o, ho, _⟩ := T.obj 0 _ tn0 b hb
    have := Heap.lt_size ho
    rw [z, ← hD'] at this
    exact Nat.lt_irrefl _ this
  have fp3 : ∀ b ∈ fp, FpOk X pins H3 b := fun b hb => ⟨by rw [← hH3, upd_ne (fpD b hb)]; exact (fpok b hb).1, (fpok b hb).2⟩
  have tn3 : tn 0 s3.heap := T.keep 0 _ _ tn0 fun b _ o ho => by rw [← hs3]; exact Heap.get?_push_of_some _ ho
  refine comp_env ?_
  have I4 := inv_comp (fp := fp) Z I3 fp3 fplt
  have tn4 : tn 0 (pushCells (s3.heap.push { cls := .type "dict", data := .dict #[] }) scope.names) := T.keep 0 _ _ tn3 fun b _ o ho => pushCells_keeps _ _ _ _ (Heap.get?_push_of_some _ ho)
  generalize hs4 : ({ s3 with heap := pushCells (s3.heap.push { cls := .type "dict", data := .dict #[] }) scope.names } : Shared) = s4 at I4
  have tn4 : tn 0 s4.heap := by rw [← hs4]; exact tn4
  show codeAny (model X.prog X.w) X.A (.compStart (.ListComp elt [⟨tg, iter, ifs, 0⟩] scope pos) 0 (.ref it) (.ref Dd) (compCx X scope N' (cellsX X scope s3.heap.objs.size) s3.heap.objs.size s3 H3 fp).env) _ _
  generalize hY : compCx X scope N' (cellsX X scope s3.heap.objs.size) s3.heap.objs.size s3 H3 fp = Y at I4
  have yP : Y.prog = X.prog := by rw [← hY]; rfl
  have yW : Y.w = X.w := by rw [← hY]; rfl
  have yK : Y.K = X.K := by rw [← hY]; rfl
  have yC : Y.calm = true := by rw [← hY]; exact hc
  have yA : Y.A = X.A := by rw [← hY]; rfl
  have yx : Y.xe = FF := by rw [← hY]; rfl
  have hg := hg s3.heap.objs.size s3 H3 fp
  have ht := ht s3.heap.objs.size s3 H3 fp
  have he := he s3.heap.objs.size s3 H3 fp
  rw [hY] at hg ht he
  have yex : Y.ex = fp := by rw [← hY]; rfl
  have yfs : ∀ b ∈ fp, b ∉ Y.fs := fun b hb hs => by
    rw [← hY] at hs
    have hs : b ∈ frs X.stack := hs
    rcases List.mem_cons.mp (I3.stkSub b hs) with z | z
    · exact (fp3 b hb).2.1 z
    · exact (fp3 b hb).2.2.1 z
  have yL : Y.env.locals = s3.heap.objs.size := by rw [← hY]; rfl
  -- the loop
  have hio : Dd ∉ io ++ k1 := fun hm => by
    obtain ⟨u, hu, _⟩ := S1.mem hm
    rw [hD] at hu; cases hu
  have start : ∀ {H' : Hp} {sx : Shared} {σ' : L2.St}, Inv Y [] σ' H' sx → (∀ b ∈ fp, H' b = none) → ∀ b ∈ fp, FpOk Y [] H' b := fun {H' sx σ'} I' hn b hb => by
    refine ⟨hn b hb, fun z => ?_, yfs b hb, .inl (by rw [yex]; exact hb), fun x cc e z => ?_, fun p hp => absurd hp (by rw [← hY]; simp [compCx])⟩
    · rw [yL] at z
      exact absurd (fplt b hb) (by rw [z]; exact Nat.lt_irrefl _)
    · exact (I'.ok.exf b (by rw [yex]; exact hb)).2 x cc e z
  have loop : ∀ sx : Shared, Inv Y [] (comp0 σ nt fr) H3 sx → tn 0 sx.heap → codeAny (model X.prog X.w) X.A (.compLoop (.ListComp elt [⟨tg, iter, ifs, 0⟩] scope pos) 0 (.ref it) (.ref Dd) Y.env) (compPost (model X.prog X.w) X.A X.xe use Qf (.ref Dd) s3.heap.objs.size) sx := by
    intro sx Ix tnx
    refine compLoop_go (fun n s5 => ∃ i σ5 H5 ρ5 st5 k5 ac rs, n = W.ds.length - i ∧ Inv Y [] σ5 H5 s5 ∧ tn i s5.heap ∧ (∀ b ∈ fp, H5 b = none) ∧ Ext (io ++ k1) k5 H1 H5 ∧ Dd ∉ k5 ∧ StR X.K H5 ((io ++ k1) ++ k5) st5 ∧ EnvR X.K H5 ((io ++ k1) ++ k5) σ5 ρ5 ∧
      (∃ vs, H5 Dd = some (.lst vs) ∧ Reps X.K H5 ((io ++ k1) ++ k5) vs ac) ∧ mCI W g c m (W.ds.drop i) ρ5 st5 = some (rs, t2) ∧ xs = ac ++ rs) ?_ (W.ds.length - 0)
      ⟨0, comp0 σ nt fr, H3, rho0 ρ nt fr, t1, [], [], xs, rfl, Ix, tnx, fun b hb => (fp3 b hb).1, X2, by simp, S2.nil, by rw [List.append_nil]; exact env_comp (by have := (E.ext S X1).ext S1 X2; rw [List.append_nil] at this; exact this), ⟨[], H3D, rfl⟩, by rw [List.drop_zero]; exact e2, rfl⟩
    rintro n s5 ⟨i, σ5, H5, ρ5, st5, k5, ac, rs, rfl, I5, tn5, fr5, X25, nk5, S5, E5, ⟨vs, hvs, Rvs⟩, e5, exs⟩
    have nD : ∀ {kk : List Addr}, Dd ∉ kk → Dd ∉ (io ++ k1) ++ kk := fun {kk} hk hm => (List.mem_append.mp hm).elim hio hk
    have nF : ∀ {kk jj : List Addr} {Ha Hb : Hp} {vv : List V}, Ext jj kk Ha Hb → Ha Dd = some (.lst vv) → Dd ∉ kk := fun {kk jj Ha Hb vv} Xx hv hm => by
      have q := Xx.fresh Dd hm
      rw [hv] at q; cases q
    cases hd : W.ds[i]? with
    | none =>
      have hl : W.ds.length ≤ i := List.getElem?_eq_none_iff.mp hd
      rw [List.drop_eq_nil_of_le hl] at e5
      obtain ⟨hw, e5⟩ := ite_some e5
      cases e5
      have := T.done Y yP yW yK yC i [] s5 σ5 H5 FF I5 (start I5 fr5) tn5 (IO.stop' H5 k5 _ i hl X25 S5 (walked_of hw))
      rw [yA] at this
      refine thn this fun r s6 ⟨hr, I6⟩ => ?_
      subst hr
      obtain ⟨mm, hn, _⟩ := id I6.loc
      rw [yL] at hn
      -- back in the frame
      have base : Un (frs X.stack) fp H3 H5 s3.heap s6.heap := by
        have b := I6.base
        rw [← hY] at b
        exact b
      have os : s6.os = s3.os := by
        have b := I6.os
        rw [← hY] at b
        exact b
      have free : H5 s3.heap.objs.size = none := by
        have b := I6.free
        rw [yL] at b
        exact b
      have hok : HOk X.prog X.w H5 s6.heap := by
        have b := I6.hok
        rw [yP, yW] at b
        exact b
      have I7 : Inv X pins σ H5 s6 := Inv.call' (s' := s6) (ch := fp) I3 os base hok I6.bare fun b hb => ⟨(fp3 b hb).2.2.2.1, (fp3 b hb).2.1, (fp3 b hb).2.2.2.2.1, (fp3 b hb).2.2.2.2.2⟩
      have np : Dd ∉ (io ++ k1) ++ k5 := nD nk5
      rw [List.append_nil] at exs
      subst exs
      have SA := adopt S5 hvs np Rvs
      have X6 : Ext io (k1 ++ k5) H H5 := X1.trans S1 X25
      have lt3 : X.env.locals < s3.heap.objs.size := I3.lt
      refine kf Dd s3.heap.objs.size H5 s6 ⟨I7, ⟨mm, hn⟩, free, Nat.ne_of_gt lt3, I3.sz, fun x cc e z => ?_, fun p hp z => ?_, ?_⟩
      · obtain ⟨vv, q⟩ := I3.cell x cc e
        have := q.lt
        rw [z] at this
        exact Nat.lt_irrefl _ this
      · have := Heap.lt_size (I3.pin p hp).1
        rw [z] at this
        exact Nat.lt_irrefl _ this
      refine ⟨(k1 ++ k5) ++ [Dd], ⟨fun b o hb nb => X6.keep b o hb nb, fun b hb => ?_, X6.frz⟩, (by simpa using SA), ⟨Dd, rfl, ?_⟩⟩
      · rcases List.mem_append.mp hb with hb | hb
        · exact X6.fresh b hb
        · rw [List.mem_singleton.mp hb]
          cases q : H Dd with
          | none => rfl
          | some o =>
            by_cases hb : Dd ∈ io
            · exact absurd (List.mem_append_left _ hb) hio
            · have := X1.keep Dd o q hb
              rw [hD] at this; cases this
      · have := getElem?_len ((io ++ k1) ++ k5) Dd
        rw [← S5.len]
        simpa using this
    | some dd =>
      have hl : i < W.ds.length := (List.getElem?_eq_some_iff.mp hd).1
      have hdr : W.ds.drop i = dd :: W.ds.drop (i + 1) := by
        rw [List.drop_eq_getElem_cons hl, (List.getElem?_eq_some_iff.mp hd).2]
      rw [hdr] at e5
      obtain ⟨hw, e5⟩ := ite_some e5
      obtain ⟨⟨ρ6, t6⟩, e6, e5⟩ := ob_bind e5
      obtain ⟨⟨b7, t7⟩, e7, e5⟩ := ob_bind e5
      obtain ⟨go, yl⟩ := IO.go i dd H5 k5 st5 hd X25 S5 (walked_of hw)
      have hit := T.item Y yP yW yK yC i [] s5 σ5 H5 FF I5 (start I5 fr5) tn5 go
      rw [yA] at hit
      refine thn hit fun r s6 ⟨u, hr, h6⟩ => ?_
      subst hr
      refine thn h6 fun _ s7 ⟨x, H7, I7, r7, y7, tn7, fr7⟩ => ?_
      obtain ⟨X7, S7, R7⟩ := yl x H7 y7
      have X57 : Ext (io ++ k1) k5 H1 H7 := (X25.trans S5 X7).app
      have hv7 : H7 Dd = some (.lst vs) := X7.keep _ _ hvs (nD nk5)
      have E7 : EnvR X.K H7 ((io ++ k1) ++ k5) σ5 ρ5 := by
        have := E5.ext S5 X7
        rw [List.append_nil] at this
        exact this
      have R7v : Reps X.K H7 ((io ++ k1) ++ k5) vs ac := by
        have := Rvs.ext S5 X7
        rw [List.append_nil] at this
        exact this
      have I7p := I7.pinned (start I7 fr7) (T.obj _ _ tn7)
      rw [← yA, ← yP, ← yW]
      rw [← yx]
      refine thn (hg _ s7 σ5 H7 x u (fun σ8 H8 => ∃ k8, Ext ((io ++ k1) ++ k5) k8 H7 H8 ∧ StR X.K H8 (((io ++ k1) ++ k5) ++ k8) t6 ∧ EnvR X.K H8 (((io ++ k1) ++ k5) ++ k8) σ8 ρ6) I7p r7 (by rw [yK]; exact ⟨dd, ρ5, st5, (io ++ k1) ++ k5, ρ6, t6, R7, E7, S7, e6, fun σ8 H8 k8 X8 S8 E8 => ⟨k8, X8, S8, E8⟩⟩)) fun _ s8 ⟨σ8, H8, I8, k8, X8, S8, E8⟩ => ?_
      have S8' : StR X.K H8 ((io ++ k1) ++ (k5 ++ k8)) t6 := by rw [← List.append_assoc]; exact S8
      have E8' : EnvR X.K H8 ((io ++ k1) ++ (k5 ++ k8)) σ8 ρ6 := by rw [← List.append_assoc]; exact E8
      have X38 : Ext (io ++ k1) (k5 ++ k8) H1 H8 := X57.trans S7 X8
      have nk8 : Dd ∉ k5 ++ k8 := fun hm => (List.mem_append.mp hm).elim nk5 (nF X8 hv7)
      refine thn (ht _ s8 σ8 H8 (fun b H9 => b = b7 ∧ ∃ k9, Ext ((io ++ k1) ++ (k5 ++ k8)) k9 H8 H9 ∧ StR X.K H9 (((io ++ k1) ++ (k5 ++ k8)) ++ k9) t7) I8 (by rw [yK]; exact ⟨ρ6, t6, (io ++ k1) ++ (k5 ++ k8), b7, t7, E8', S8', e7, fun H9 k9 X9 S9 => ⟨rfl, k9, X9, S9⟩⟩)) fun ok s9 ⟨H9, I9, eb, k9, X9, S9⟩ => ?_
      subst eb
      have X39 : Ext (io ++ k1) ((k5 ++ k8) ++ k9) H1 H9 := X38.trans S8' X9
      have S9' : StR X.K H9 ((io ++ k1) ++ ((k5 ++ k8) ++ k9)) t7 := by rw [← List.append_assoc]; exact S9
      have E9 : EnvR X.K H9 ((io ++ k1) ++ ((k5 ++ k8) ++ k9)) σ8 ρ6 := by
        have := E8'.ext S8' X9
        rw [List.append_assoc] at this
        exact this
      have hv8 : H8 Dd = some (.lst vs) := X8.keep _ _ hv7 (nD nk5)
      have hv9 : H9 Dd = some (.lst vs) := X9.keep _ _ hv8 (nD nk8)
      have nk9 : Dd ∉ (k5 ++ k8) ++ k9 := fun hm => (List.mem_append.mp hm).elim nk8 (nF X9 hv8)
      have R8v : Reps X.K H8 ((io ++ k1) ++ (k5 ++ k8)) vs ac := by
        have := R7v.ext S7 X8
        rw [List.append_assoc] at this
        exact this
      have R9v : Reps X.K H9 ((io ++ k1) ++ ((k5 ++ k8) ++ k9)) vs ac := by
        have := R8v.ext S8' X9
        rw [List.append_assoc] at this
        exact this
      have back : ∀ {Hx : Hp} {sx : Shared} {σx : L2.St}, Inv Y ([] ++ pinsAt fp s7.heap) σx Hx sx → Inv Y [] σx Hx sx ∧ tn (i + 1) sx.heap ∧ ∀ b ∈ fp, Hx b = none := fun {Hx sx σx} Ix => by
        refine ⟨Ix.unpinned, T.keep _ _ _ tn7 fun b hb o e => (Ix.pin (b, o) (List.mem_append_right _ (List.mem_append_right _ (mem_pinsAt hb e)))).1, fun b hb => ?_⟩
        obtain ⟨o, e, dn⟩ := T.obj _ _ tn7 b hb
        exact (Ix.pin (b, o) (List.mem_append_right _ (List.mem_append_right _ (mem_pinsAt hb e)))).2.1
      cases ok with
      | false =>
        rw [if_neg (by decide)]
        have e5 : mCI W g c m (W.ds.drop (i + 1)) ρ6 t7 = some (rs, t2) := e5
        obtain ⟨Ib, tnb, frb⟩ := back I9
        exact ⟨W.ds.length - (i + 1), by omega, i + 1, σ8, H9, ρ6, t7, (k5 ++ k8) ++ k9, ac, rs, rfl, Ib, tnb, frb, X39, nk9, S9', E9, ⟨vs, hv9, R9v⟩, e5, exs⟩
      | true =>
        rw [if_pos rfl]
        have e5 : ((m ρ6 t7).bind fun (x, s3) => (mCI W g c m (W.ds.drop (i + 1)) ρ6 s3).map fun (xs, s4) => (x :: xs, s4)) = some (rs, t2) := e5
        obtain ⟨⟨x10, t10⟩, e10, e5⟩ := ob_bind e5
        obtain ⟨⟨rs', t11⟩, e11, e5⟩ := map_some' e5
        cases e5
        refine thn (he _ s9 σ8 H9 (fun v H10 => ∃ k10, Ext ((io ++ k1) ++ ((k5 ++ k8) ++ k9)) k10 H9 H10 ∧ StR X.K H10 (((io ++ k1) ++ ((k5 ++ k8) ++ k9)) ++ k10) t10 ∧ Rep X.K H10 (((io ++ k1) ++ ((k5 ++ k8) ++ k9)) ++ k10) v x10) I9
          (by rw [yK]; exact ⟨ρ6, t7, (io ++ k1) ++ ((k5 ++ k8) ++ k9), x10, t10, E9, S9', e10, fun v H10 k10 X10 S10 R10 => ⟨k10, X10, S10, R10⟩⟩)) fun u10 s10 ⟨v10, H10, I10, r10, k10, X10, S10, R10⟩ => ?_
        have X310 : Ext (io ++ k1) (((k5 ++ k8) ++ k9) ++ k10) H1 H10 := X39.trans S9' X10
        have nk10 : Dd ∉ ((k5 ++ k8) ++ k9) ++ k10 := fun hm => (List.mem_append.mp hm).elim nk9 (nF X10 hv9)
        have S10' : StR X.K H10 ((io ++ k1) ++ (((k5 ++ k8) ++ k9) ++ k10)) t10 := by rw [← List.append_assoc]; exact S10
        have hv10 : H10 Dd = some (.lst vs) := X10.keep _ _ hv9 (nD nk9)
        have E10 : EnvR X.K H10 ((io ++ k1) ++ (((k5 ++ k8) ++ k9) ++ k10)) σ8 ρ6 := by
          have := E9.ext S9' X10
          rw [List.append_assoc] at this
          exact this
        have R10v : Reps X.K H10 ((io ++ k1) ++ (((k5 ++ k8) ++ k9) ++ k10)) (vs ++ [v10]) (ac ++ [x10]) := by
          have a := R9v.ext S9' X10
          rw [List.append_assoc] at a
          rw [List.append_assoc] at R10
          exact a.append (Reps.cons R10 Reps.nil)
        have hlen : vs.length < sizeLine := by
          rw [R9v.length]
          have := of_decide_eq_true hfit
          rw [exs] at this
          simp at this
          omega
        refine thn (mt_append _ s10 σ8 H10 (.ref Dd) [v10] (.ref Dd) [u10] (fun _ H11 => H11 = upd H10 Dd (.lst (vs ++ [v10]))) I10 rfl (.cons r10 .nil) ⟨Dd, vs, v10, rfl, rfl, hv10, hlen, rfl⟩) fun _ s11 ⟨_, H11, I11, _, e11'⟩ => ?_
        subst e11'
        have nD10 := nD nk10
        -- the new list is written: nothing of the store
        have XU : ∀ b o, H10 b = some o → b ≠ Dd → upd H10 Dd (.lst (vs ++ [v10])) b = some o := fun b o hb hn => by rw [upd_ne hn]; exact hb
        have TU : Kp H10 (upd H10 Dd (.lst (vs ++ [v10]))) := ⟨fun a ys hb => XU a _ hb (ne_of hb hv10 (by simp)), fun a o u hb => XU a _ hb (ne_of hb hv10 (by simp))⟩
        have S11 : StR X.K (upd H10 Dd (.lst (vs ++ [v10]))) ((io ++ k1) ++ (((k5 ++ k8) ++ k9) ++ k10)) t10 := by
          refine ⟨S10'.len, S10'.nd, fun n a ob h1 h2 => ?_⟩
          have hne : a ≠ Dd := fun z => nD10 (by rw [← z]; exact List.mem_of_getElem? h1)
          have := OR.mono (ka := []) TU (upd_ne hne) (S10'.ob n a ob h1 h2)
          rw [List.append_nil] at this
          exact this
        have mono0 : ∀ {v : V} {d : D}, Rep X.K H10 ((io ++ k1) ++ (((k5 ++ k8) ++ k9) ++ k10)) v d → Rep X.K (upd H10 Dd (.lst (vs ++ [v10]))) ((io ++ k1) ++ (((k5 ++ k8) ++ k9) ++ k10)) v d := fun {v d} h => by
          have := Rep.mono (ka := []) TU h
          rw [List.append_nil] at this
          exact this
        have mono1 : ∀ {v : List V} {d : List D}, Reps X.K H10 ((io ++ k1) ++ (((k5 ++ k8) ++ k9) ++ k10)) v d → Reps X.K (upd H10 Dd (.lst (vs ++ [v10]))) ((io ++ k1) ++ (((k5 ++ k8) ++ k9) ++ k10)) v d := fun {v d} h => by
          have := Reps.mono (ka := []) TU h
          rw [List.append_nil] at this
          exact this
        obtain ⟨Ib, tnb, frb⟩ := back I11
        refine ⟨W.ds.length - (i + 1), by omega, i + 1, σ8, upd H10 Dd (.lst (vs ++ [v10])), ρ6, t10, ((k5 ++ k8) ++ k9) ++ k10, ac ++ [x10], rs', rfl, Ib, tnb, frb, ⟨fun b o hb nb => XU b o (X310.keep b o hb nb) (fun z => by rw [z, hD] at hb; cases hb), X310.fresh, fun b o u hb => XU b _ (X310.frz b o u hb) (fun z => by rw [z, hD] at hb; cases hb)⟩, nk10, S11, ⟨E10.len, fun j dj hj => ?_⟩, ⟨_, upd_same, mono1 R10v⟩, e11, by rw [exs, List.append_assoc]; rfl⟩
        obtain ⟨v, q, r⟩ := E10.at_ j dj hj
        exact ⟨v, q, mono0 r⟩
  have l4 := loop s4 I4 tn4
  exact codeAny_compStart_list l4 (T.self _ 0 _ _ _ tn4 l4)
theorem se_comp (hx : X.xe = FF) (hc : X.calm = true) (Z : CompS X scope N' nt fr) (hi : SI X tg iter mi)
    (hg : ∀ C s0 H0 fp, SG (compCx X scope N' (cellsX X scope C) C s0 H0 fp) tg g) (ht : ∀ C s0 H0 fp, SC (compCx X scope N' (cellsX X scope C) C s0 H0 fp) ifs c) (he : ∀ C s0 H0 fp, SE (compCx X scope N' (cellsX X scope C) C s0 H0 fp) elt m)
    (hs : ∀ x, foldedSetIterable iter X.env x = pure x := by intro _; rfl) : SE X (.ListComp elt [⟨tg, iter, ifs, 0⟩] scope pos) (mComp mi nt fr g c m) := by
  intro pins s σ H Q I ⟨ρ, st, io, d, st', E, S, e, k⟩
  rw [eval_ListComp]
  refine comp_run (use := none) hx hc Z hi hg ht he hs I E S e fun Dd C H5 s6 R => ?_
  obtain ⟨m5, hn⟩ := R.ns
  refine ⟨m5, hn, fun h' hsb => ?_⟩
  obtain ⟨ka, X5, S5, R5⟩ := R.val
  exact ⟨.ref Dd, H5, R.inv.turned (t' := s6.toks) (it := C) (fun b o hb q => (hsb.2 b hb).trans q) R.free R.ne (.inr R.young) R.cells R.pin, rfl, k _ _ ka X5 S5 R5⟩
theorem ss_set_comp {i : Nat} {x : Str} {pos' spos : Pos} (hx : X.xe = FF) (hc : X.calm = true) (Z : CompS X scope N' nt fr) (hi : SI X tg iter mi)
    (hg : ∀ C s0 H0 fp, SG (compCx X scope N' (cellsX X scope C) C s0 H0 fp) tg g) (ht : ∀ C s0 H0 fp, SC (compCx X scope N' (cellsX X scope C) C s0 H0 fp) ifs c) (he : ∀ C s0 H0 fp, SE (compCx X scope N' (cellsX X scope C) C s0 H0 fp) elt m)
    (hN : X.N.Nodup) (hi' : X.N[i]? = some x) (hl : X.env.scope.names.lookup x = some .local)
    (hsw : swapsWith (.ListComp elt [⟨tg, iter, ifs, 0⟩] scope pos) (some (.Name x pos')) spos.line X.env = pure true := by rfl)
    (hs : ∀ x, foldedSetIterable iter X.env x = pure x := by intro _; rfl) : SS X (.Assign [.Name x pos'] (.ListComp elt [⟨tg, iter, ifs, 0⟩] scope pos) spos) (mAsg (mComp mi nt fr g c m) (gNm i)) := by
  intro pins s σ H N I h
  obtain ⟨ρ, st, io, f, st', E, S, e, w⟩ := ts_iff.mp h
  obtain ⟨⟨d, s1⟩, e1, e⟩ := ob_bind e
  obtain ⟨⟨ρ', s2⟩, e2, e⟩ := map_some' e
  cases e
  cases e2
  rw [exec_Assign_Name_used _ _ _ _ hsw]
  refine wpAny_bind (wpAny_standAt (wpAny_bind ?_))
  show wpAny _ X.A (do let _ ← comprehension (.ListComp elt [⟨tg, iter, ifs, 0⟩] scope pos) scope X.env _ (newList []) false (eval iter X.env) (some (assign (.Name x pos') X.env))) _ _ s
  refine wpAny_bind (thn (comp_run (use := some (assign (.Name x pos') X.env)) (Qf := fun _ s' => SP X pins N .next s') hx hc Z hi hg ht he hs I E S e1 fun Dd C H5 s6 R => ?_) fun _ s' hq => wpAny_pure (wpAny_pure hq))
  obtain ⟨m5, hn⟩ := R.ns
  obtain ⟨ka, X5, S5, R5⟩ := R.val
  show wpAny _ _ (assign (.Name x pos') X.env (.ref Dd)) _ _ _
  refine wpAny_assign_Name (store_ok2 (v := .ref Dd) R.inv hN hi' (.inl hl) rfl (fun s7 I7 ⟨a, sb, ha⟩ => ?_) (.inr hl))
  have hCa : C ≠ a := fun z => by
    rcases ha with q | q
    · exact R.ne (z.trans q)
    · exact R.cells _ _ q z.symm
  refine ⟨m5, hn.sameBut sb hCa, fun h' hsb => ?_⟩
  refine ⟨_, H5, I7.turned (t' := s7.toks) (it := C) (fun b o hb q => (hsb.2 b hb).trans q) R.free R.ne (.inr R.young) R.cells R.pin, ?_⟩
  exact w _ _ ka X5 S5 ((E.ext S X5).set i R5)
end
end L2.MP
set_option maxHeartbeats 4000000
namespace L2.MP
open PySem PySem.Spec PyProof.Rows
section
variable {X : Cx} {e a b c : Expr} {es : List Expr} {pos : Pos} {m ma mb mc : ME} {mm : MA}
variable {K : PySem.W.Frag} {H : Hp} {io ka : List Addr} {st st' : Sto}
def addD : G2
  | .int i, .int j, st => some (.int (i + j), st)
  | .str a, .str b, st => if fits (a.length + b.length) = true then some (.str (a ++ b), st) else none
  | .tup a, .tup b, st => if (!a.isEmpty && fits (a.length + b.length)) = true then some (.tup (a ++ b), st) else none
  | .ref a, .ref b, st => match st[a]?, st[b]? with
    | some (.lst x), some (.lst y) => if fits (x.length + y.length) = true then some (.ref st.length, st ++ [.lst (x ++ y)]) else none
    | _, _ => none
  | _, _, _ => none
theorem op_addM : OpM X (binaryOp .Add) addD := by
  intro pins s σ H x y v u Q I rx ry ⟨dx, dy, st, io, d, st', Rx, Ry, S, e, k⟩
  cases dx with
  | int i =>
    cases dy with
    | int j => cases e; exact op_add pins s σ H x y v u Q I rx ry ⟨i, j, Rx, Ry, k.now S rfl⟩
    | _ => cases e
  | str i =>
    cases dy with
    | str j =>
      obtain ⟨hf, e⟩ := ite_some e
      cases e; exact op_add_str pins s σ H x y v u Q I rx ry ⟨i, j, Rx, Ry, of_decide_eq_true hf, k.now S rfl⟩
    | _ => cases e
  | tup i =>
    cases dy with
    | tup j =>
      obtain ⟨hf, e⟩ := ite_some e
      cases e
      rw [Bool.and_eq_true] at hf
      obtain ⟨p, xs, ex, hp, r1⟩ := Rx
      obtain ⟨q, ys, ey, hq, r2⟩ := Ry
      refine op_catT pins s σ H x y v u Q I rx ry ⟨p, q, xs, ys, ex, ey, SqT.of hp, SqT.of hq, fun z => ?_, by rw [r1.length, r2.length]; exact of_decide_eq_true hf.2, fun z => ?_, fun z p hp => k.tup S (r1.append r2) hp⟩
      · have := r1.length
        rw [z] at this
        have : i = [] := List.eq_nil_of_length_eq_zero this.symm
        rw [this] at hf
        exact absurd hf.1 (by decide)
      · have := r2.length
        rw [z] at this
        have : j = [] := List.eq_nil_of_length_eq_zero this.symm
        subst this
        rw [List.append_nil] at k
        exact k.now S ⟨p, xs, rfl, hp, r1⟩
    | _ => cases e
  | ref i =>
    cases dy with
    | ref j =>
      unfold addD at e
      dsimp only at e
      split at e
      · rename_i l1 l2 e1 e2
        obtain ⟨hf, e⟩ := ite_some e
        cases e
        obtain ⟨p, ex, hp⟩ := Rx
        obtain ⟨q, ey, hq⟩ := Ry
        obtain ⟨xs, h1, r1⟩ := S.ob i p _ hp e1
        obtain ⟨ys, h2, r2⟩ := S.ob j q _ hq e2
        exact op_cat pins s σ H x y v u Q I rx ry ⟨p, q, xs, ys, ex, ey, h1, h2, by rw [r1.length, r2.length]; exact of_decide_eq_true hf, fun p hp => k.lst S (r1.append r2) hp⟩
      · cases e
    | _ => cases e
  | _ => cases e
def intD (c : Int → Int → Bool) (g : Int → Int → D) : G2
  | .int i, .int j, st => if c i j = true then some (g i j, st) else none
  | _, _, _ => none
theorem op_intM {f : Value → Value → Sem Value} {C : Int → Int → Prop} {c : Int → Int → Bool} {g : Int → Int → Int} (h : OpR X f (rI C fun i j => .int (g i j))) (hc : ∀ i j, c i j = true → C i j) : OpM X f (intD c fun i j => .int (g i j)) := by
  intro pins s σ H x y v u Q I rx ry ⟨dx, dy, st, io, d, st', Rx, Ry, S, e, k⟩
  cases dx with
  | int i =>
    cases dy with
    | int j =>
      obtain ⟨hf, e⟩ := ite_some e
      cases e; exact h pins s σ H x y v u Q I rx ry ⟨i, j, Rx, Ry, hc i j hf, k.now S rfl⟩
    | _ => cases e
  | _ => cases e
def tt2 : Int → Int → Bool := fun _ _ => true
def subD : G2 := intD tt2 fun i j => .int (i - j)
def in64 (i : Int) : Bool := decide (-(2 ^ 64) < i) && decide (i < 2 ^ 64)
def mulD : G2 := intD (fun i j => in64 i || in64 j) fun i j => .int (i * j)
theorem op_mulM : OpM X (binaryOp .Mult) mulD := op_intM op_mul fun i j h => by
  rw [Bool.or_eq_true] at h
  unfold in64 at h
  rw [Bool.and_eq_true, Bool.and_eq_true] at h
  rcases h with h | h
  · exact .inl ⟨of_decide_eq_true h.1, of_decide_eq_true h.2⟩
  · exact .inr ⟨of_decide_eq_true h.1, of_decide_eq_true h.2⟩
def modD : G2 := intD (fun _ j => decide (0 < j)) fun i j => .int (i % j)
theorem op_modM : OpM X (binaryOp .Mod) modD := op_intM op_mod fun i j h => of_decide_eq_true h
def cmpD (g : Int → Int → Bool) : G2
  | .int i, .int j, st => some (.bl (g i j), st)
  | _, _, _ => none
theorem op_cmpM {f : Value → Value → Sem Value} {g : Int → Int → Bool} (h : OpR X f (rI0 fun i j => .bl (g i j))) : OpM X f (cmpD g) := by
  intro pins s σ H x y v u Q I rx ry ⟨dx, dy, st, io, d, st', Rx, Ry, S, e, k⟩
  cases dx with
  | int i =>
    cases dy with
    | int j => cases e; exact h pins s σ H x y v u Q I rx ry ⟨i, j, Rx, Ry, k.now S rfl⟩
    | _ => cases e
  | _ => cases e
def ltD : G2 := cmpD fun i j => decide (i < j)
def leD : G2 := cmpD fun i j => decide (i ≤ j)
def gtD : G2 := cmpD fun i j => decide (j < i)
def geD : G2 := cmpD fun i j => decide (j ≤ i)
theorem op_ltM : OpM X (compareOp .Lt) ltD := op_cmpM op_lt
theorem op_leM : OpM X (compareOp .LtE) leD := op_cmpM op_le
theorem op_gtM : OpM X (compareOp .Gt) gtD := op_cmpM op_gt
theorem op_geM : OpM X (compareOp .GtE) geD := op_cmpM op_ge
def isNon : D → Bool
  | .non => true
  | _ => false
def isND : G2 := fun x y st => match y with
  | .non => some (.bl (isNon x), st)
  | _ => none
theorem rep_non {v : V} {d : D} (h : Rep K H io v d) : decide (v = .non) = isNon d := by
  cases d with
  | non => cases (show v = .non from h); rfl
  | bl b => cases (show v = .bl b from h); rfl
  | int b => cases (show v = .int b from h); rfl
  | str b => cases (show v = .str b from h); rfl
  | tup b => obtain ⟨a, xs, rfl, _⟩ := h; rfl
  | ref b => obtain ⟨a, rfl, _⟩ := h; rfl
  | kl b => obtain ⟨a, xs, rfl, _⟩ := h; rfl
theorem op_isNM : OpM X (compareOp .Is) isND := by
  intro pins s σ H x y v u Q I rx ry ⟨dx, dy, st, io, d, st', Rx, Ry, S, e, k⟩
  cases dy with
  | non =>
    cases e
    refine op_isN pins s σ H x y v u Q I rx ry ⟨Ry, ?_⟩
    rw [rep_non Rx]
    exact k.now S rfl
  | _ => cases e
def negD : D → Sto → Option (D × Sto)
  | .int i, st => some (.int (-i), st)
  | _, _ => none
def mNeg (m : ME) : ME := fun ρ st => (m ρ st).bind fun (x, s) => negD x s
theorem se_neg (ha : SE X a ma) : SE X (.UnaryOp .USub a pos) (mNeg ma) := PE.imp (pe_un un_neg ha) fun σ H Q ⟨ρ, st, io, d, st', E, S, e, k⟩ => by
  obtain ⟨⟨x, s1⟩, e1, e⟩ := ob_bind e
  cases x with
  | int i =>
    cases e
    exact ⟨ρ, st, io, .int i, _, E, S, e1, fun v H1 k1 X1 S1 R1 => ⟨i, R1, k _ H1 k1 X1 S1 rfl⟩⟩
  | _ => cases e
def idxD : G2
  | .tup ds, .int i, st => (atI ds i).map fun d => (d, st)
  | .ref n, .int i, st => (lstAt st n).bind fun ds => (atI ds i).map fun d => (d, st)
  | .kl ds, .int i, st => (atI ds i).map fun d => (d, st)
  | .str z, .int i, st => if fits z.length = true then (atI z.cps.toList i).map fun c => (.str ⟨#[c]⟩, st) else none
  | _, _, _ => none
theorem atI_rep {xs : List V} {ds : List D} {i : Int} {d : D} (r : Reps K H io xs ds) (h : atI ds i = some d) : ∃ v, atI xs i = some v ∧ Rep K H io v d := by
  unfold atI at h ⊢
  rw [r.length]
  obtain ⟨j, hj, h⟩ := ob_bind h
  obtain ⟨v, hv, rv⟩ := r.get h
  exact ⟨v, by rw [hj]; exact hv, rv⟩
theorem ix_M : IxR X (r2M X.K idxD) := by
  intro value slice pins s σ H x y v u Q I rx ry ⟨dx, dy, st, io, d, st', Rx, Ry, S, e, k⟩ hs
  cases dy with
  | int i =>
    cases dx with
    | tup ds =>
      obtain ⟨d', e1, e⟩ := map_some' e
      cases e
      obtain ⟨p, xs, ex, hp, r⟩ := Rx
      obtain ⟨w, hw, rw'⟩ := atI_rep r e1
      exact ix_tup value slice pins s σ H x y v u Q I rx ry ⟨p, xs, i, w, ex, Ry, SqT.of hp, hw, k.now S rw'⟩ hs
    | ref n =>
      obtain ⟨ds, e0, e⟩ := ob_bind e
      obtain ⟨d', e1, e⟩ := map_some' e
      cases e
      obtain ⟨p, ex, hp⟩ := Rx
      obtain ⟨xs, hx, r⟩ := lstAt_sq S hp e0
      obtain ⟨w, hw, rw'⟩ := atI_rep r e1
      exact ix_list value slice pins s σ H x y v u Q I rx ry ⟨p, xs, i, w, ex, Ry, hx, hw, k.now S rw'⟩ hs
    | kl ds =>
      obtain ⟨d', e1, e⟩ := map_some' e
      cases e
      obtain ⟨p, xs, ex, hx, r⟩ := Rx
      obtain ⟨w, hw, rw'⟩ := atI_rep r e1
      exact ix_list value slice pins s σ H x y v u Q I rx ry ⟨p, xs, i, w, ex, Ry, hx.sq, hw, k.now S rw'⟩ hs
    | str z =>
      obtain ⟨hf, e⟩ := ite_some e
      obtain ⟨d', e1, e⟩ := map_some' e
      cases e
      exact ix_str value slice pins s σ H x y v u Q I rx ry ⟨z, i, d', Rx, Ry, of_decide_eq_true hf, e1, k.now S rfl⟩ hs
    | _ => cases e
  | _ => cases dx <;> cases e
theorem se_ix (ha : SE X a ma) (hb : SE X b mb) (hs : PlainIx b := by intro _ _; rfl) : SE X (.Subscript a b pos) (mBin idxD ma mb) := PE.imp (pe_ix ix_M ha hb hs) fun _ _ _ h => bin_sound h
def lenD : GN
  | [.tup ds], st => some (.int ds.length, st)
  | [.ref n], st => (lstAt st n).map fun ds => (.int ds.length, st)
  | [.kl ds], st => some (.int ds.length, st)
  | [.str z], st => if fits z.length = true then some (.int z.length, st) else none
  | _, _ => none
theorem call_lenM : CallM X (.builtin "len") lenD := by
  intro pins s σ H xs us Q I r ⟨ds, st, io, d, st', R, S, e, k⟩
  cases ds with
  | nil => cases e
  | cons d0 r0 =>
  cases r0 with
  | cons d1 r1 => cases d0 <;> cases e
  | nil =>
  cases d0 with
  | tup ts =>
    cases e
    obtain ⟨v, rfl, p, ys, rfl, hp, r1⟩ := R.one
    refine call_len_seq pins s σ H _ us Q I r ⟨p, ys, rfl, .inr (SqT.of hp), ?_⟩
    rw [r1.length]
    exact k.now S rfl
  | ref n =>
    obtain ⟨ts, e0, e⟩ := map_some' e
    cases e
    obtain ⟨v, rfl, p, rfl, hp⟩ := R.one
    obtain ⟨ys, hx, r1⟩ := lstAt_sq S hp e0
    refine call_len_seq pins s σ H _ us Q I r ⟨p, ys, rfl, .inl hx, ?_⟩
    rw [r1.length]
    exact k.now S rfl
  | kl ts =>
    cases e
    obtain ⟨v, rfl, p, ys, rfl, hx, r1⟩ := R.one
    refine call_len_seq pins s σ H _ us Q I r ⟨p, ys, rfl, .inl hx.sq, ?_⟩
    rw [r1.length]
    exact k.now S rfl
  | str z =>
    obtain ⟨hf, e⟩ := ite_some e
    cases e
    obtain ⟨v, rfl, rfl⟩ := R.one
    exact call_len_str pins s σ H _ us Q I r ⟨z, rfl, of_decide_eq_true hf, k.now S rfl⟩
  | _ => cases e
def intC : GN
  | [.int i], st => some (.int i, st)
  | [.bl b], st => some (.int (if b then 1 else 0), st)
  | _, _ => none
theorem call_intM : CallM X (.type "int") intC := by
  intro pins s σ H xs us Q I r ⟨ds, st, io, d, st', R, S, e, k⟩
  cases ds with
  | nil => cases e
  | cons d0 r0 =>
  cases r0 with
  | cons d1 r1 => cases d0 <;> cases e
  | nil =>
  cases d0 with
  | int i =>
    cases e
    obtain ⟨v, rfl, rfl⟩ := R.one
    exact call_int1 pins s σ H _ us Q I r (.inl ⟨i, rfl, k.now S rfl⟩)
  | bl b =>
    cases e
    obtain ⟨v, rfl, rfl⟩ := R.one
    exact call_int1 pins s σ H _ us Q I r (.inr ⟨b, rfl, k.now S rfl⟩)
  | _ => cases e
def absC : GN
  | [.int i], st => some (.int (if i < 0 then -i else i), st)
  | _, _ => none
theorem call_absM : CallM X (.builtin "abs") absC := by
  intro pins s σ H xs us Q I r ⟨ds, st, io, d, st', R, S, e, k⟩
  cases ds with
  | nil => cases e
  | cons d0 r0 =>
  cases r0 with
  | cons d1 r1 => cases d0 <;> cases e
  | nil =>
  cases d0 with
  | int i =>
    cases e
    obtain ⟨v, rfl, rfl⟩ := R.one
    exact call_abs pins s σ H _ us Q I r ⟨i, rfl, k.now S rfl⟩
  | _ => cases e
def max2C : GN
  | [.int i, .int j], st => some (.int (if j > i then j else i), st)
  | _, _ => none
def min2C : GN
  | [.int i, .int j], st => some (.int (if j < i then j else i), st)
  | _, _ => none
theorem call_maxM (hc : X.calm = true) : CallM X (.builtin "max") max2C := by
  intro pins s σ H xs us Q I r ⟨ds, st, io, d, st', R, S, e, k⟩
  unfold max2C at e
  split at e
  · rename_i i j
    cases e
    obtain ⟨v, u, rfl, rfl, rfl⟩ := R.two
    exact call_max2 hc pins s σ H _ us Q I r ⟨i, j, rfl, k.now S rfl⟩
  · cases e
theorem call_minM (hc : X.calm = true) : CallM X (.builtin "min") min2C := by
  intro pins s σ H xs us Q I r ⟨ds, st, io, d, st', R, S, e, k⟩
  unfold min2C at e
  split at e
  · rename_i i j
    cases e
    obtain ⟨v, u, rfl, rfl, rfl⟩ := R.two
    exact call_min2 hc pins s σ H _ us Q I r ⟨i, j, rfl, k.now S rfl⟩
  · cases e
def tupleC : GN
  | [.tup ds], st => some (.tup ds, st)
  | [.ref n], st => (lstAt st n).map fun ds => (.tup ds, st)
  | _, _ => none
theorem call_tupleM : CallM X (.type "tuple") tupleC := by
  intro pins s σ H xs us Q I r ⟨ds, st, io, d, st', R, S, e, k⟩
  cases ds with
  | nil => cases e
  | cons d0 r0 =>
  cases r0 with
  | cons d1 r1 => cases d0 <;> cases e
  | nil =>
  cases d0 with
  | tup ts =>
    cases e
    obtain ⟨v, rfl, p, ys, rfl, hp, r1⟩ := R.one
    exact call_tuple_of pins s σ H _ us Q I r ⟨p, ys, rfl, .inr ⟨SqT.of hp, k.now S ⟨p, ys, rfl, hp, r1⟩⟩⟩
  | ref n =>
    obtain ⟨ts, e0, e⟩ := map_some' e
    cases e
    obtain ⟨v, rfl, p, rfl, hp⟩ := R.one
    obtain ⟨ys, hx, r1⟩ := lstAt_sq S hp e0
    exact call_tuple_of pins s σ H _ us Q I r ⟨p, ys, rfl, .inl ⟨hx, fun l hl => k.tup S r1 hl⟩⟩
  | _ => cases e
end
end L2.MP
set_option maxHeartbeats 4000000
namespace L2.MP
open PySem PySem.Spec PyProof.Rows
def toPs (f : D → Option PyData) : List D → Option (List PyData)
  | [] => some []
  | d :: ds => (f d).bind fun p => (toPs f ds).map fun ps => p :: ps
def toP : Nat → Sto → D → Option PyData
  | 0, _, _ => none
  | n + 1, st, d => match d with
    | .non => some .none
    | .bl b => some (.bool b)
    | .int i => some (.int i)
    | .str x => if PyData.strOk x = true then some (.str x) else none
    | .tup ds => (toPs (toP n st) ds).map .tuple
    | .ref k => (lstAt st k).bind fun ds => (toPs (toP n st) ds).map .list
    | .kl _ => none
theorem depthAll_le {n : Nat} : ∀ {ps : List PyData}, (∀ p ∈ ps, p.depth ≤ n) → PyData.depthAll ps ≤ n
  | [], _ => by rw [PyData.depthAll]; exact Nat.zero_le _
  | p :: ps, h => by
    rw [PyData.depthAll]
    exact Nat.max_le.mpr ⟨h p List.mem_cons_self, depthAll_le fun q hq => h q (List.mem_cons_of_mem _ hq)⟩
theorem canLayAll_of {ps : List PyData} : (∀ p ∈ ps, p.canLay0 = true) → PyData.canLayAll0 ps = true := by
  induction ps with
  | nil => intro _; simp only [PyData.canLayAll0]
  | cons p ps ih =>
    intro h
    simp only [PyData.canLayAll0]
    rw [h p List.mem_cons_self, ih fun q hq => h q (List.mem_cons_of_mem _ hq)]
    rfl
theorem toPs_mem {f : D → Option PyData} : ∀ {ds : List D} {ps : List PyData}, toPs f ds = some ps → ∀ p ∈ ps, ∃ d, f d = some p
  | [], ps, h, p, hp => by cases h; exact absurd hp (by simp)
  | d :: ds, ps, h, p, hp => by
    obtain ⟨q, e1, h⟩ := ob_bind h
    obtain ⟨qs, e2, h⟩ := map_some' h
    subst h
    rcases List.mem_cons.mp hp with rfl | hp
    · exact ⟨d, e1⟩
    · exact toPs_mem e2 p hp
theorem toP_ok : ∀ {n : Nat} {st : Sto} {d : D} {p : PyData}, toP n st d = some p → p.canLay0 = true ∧ p.depth ≤ n
  | 0, _, _, _, h => by cases h
  | n + 1, st, d, p, h => by
    cases d with
    | non => cases h; exact ⟨by simp only [PyData.canLay0], by simp only [PyData.depth]; exact Nat.zero_le _⟩
    | bl b => cases h; exact ⟨by simp only [PyData.canLay0], by simp only [PyData.depth]; exact Nat.zero_le _⟩
    | int b => cases h; exact ⟨by simp only [PyData.canLay0], by simp only [PyData.depth]; exact Nat.zero_le _⟩
    | str b =>
      obtain ⟨hs, h⟩ := ite_some h
      cases h; exact ⟨by simp only [PyData.canLay0]; exact hs, by simp only [PyData.depth]; exact Nat.zero_le _⟩
    | tup ds =>
      obtain ⟨ps, e, h⟩ := map_some' h
      subst h
      have q : ∀ p ∈ ps, p.canLay0 = true ∧ p.depth ≤ n := fun p hp => let ⟨d, hd⟩ := toPs_mem e p hp; toP_ok hd
      exact ⟨by simp only [PyData.canLay0]; exact canLayAll_of fun p hp => (q p hp).1, by simp only [PyData.depth]; exact Nat.succ_le_succ (depthAll_le fun p hp => (q p hp).2)⟩
    | kl ds => cases h
    | ref k =>
      obtain ⟨ds, e0, h⟩ := ob_bind h
      obtain ⟨ps, e, h⟩ := map_some' h
      subst h
      have q : ∀ p ∈ ps, p.canLay0 = true ∧ p.depth ≤ n := fun p hp => let ⟨d, hd⟩ := toPs_mem e p hp; toP_ok hd
      exact ⟨by simp only [PyData.canLay0]; exact canLayAll_of fun p hp => (q p hp).1, by simp only [PyData.depth]; exact Nat.succ_le_succ (depthAll_le fun p hp => (q p hp).2)⟩
section
variable {X : Cx} {a b : Expr} {pos : Pos} {ma mb : ME} {pins : List (Addr × Obj)} {σ : L2.St} {H : Hp} {s : Shared} {io : List Addr} {st : Sto}
theorem readsAll_of {f : D → Option PyData} (hf : ∀ {v : V} {u : Value} {d : D} {p : PyData}, Rep X.K H io v d → RelV v u → f d = some p → ∃ as, Reads s.heap u p as) :
    ∀ {xs : List V} {us : List Value} {ds : List D} {ps : List PyData}, Reps X.K H io xs ds → Vals xs us → toPs f ds = some ps → ∃ as, ReadsAll s.heap us ps as
  | _, _, [], ps, h, r, e => by
    cases (show _ = [] from h)
    cases r
    cases e
    exact ⟨_, .nil⟩
  | _, _, d :: ds, ps, h, r, e => by
    obtain ⟨y, ys, rfl, h1, h2⟩ := h
    cases r with
    | cons r1 r2 =>
      obtain ⟨q, e1, e⟩ := ob_bind e
      obtain ⟨qs, e2, e⟩ := map_some' e
      subst e
      obtain ⟨as, ra⟩ := hf h1 r1 e1
      obtain ⟨bs, rb⟩ := readsAll_of hf h2 r2 e2
      exact ⟨_, .cons ra rb⟩
theorem reads_of (I : Inv X pins σ H s) (S : StR X.K H io st) : ∀ {n : Nat} {v : V} {u : Value} {d : D} {p : PyData}, Rep X.K H io v d → RelV v u → toP n st d = some p → ∃ as, Reads s.heap u p as
  | 0, _, _, _, _, _, _, h => by cases h
  | n + 1, v, u, d, p, h, r, e => by
    cases d with
    | non => cases e; cases (show v = .non from h); cases r; exact ⟨_, .none⟩
    | bl b => cases e; cases (show v = .bl b from h); cases r; exact ⟨_, .bool _⟩
    | int b => cases e; cases (show v = .int b from h); obtain ⟨t, rfl⟩ := r; exact ⟨_, .int _ _⟩
    | str b =>
      obtain ⟨hs, e⟩ := ite_some e
      cases e; cases (show v = .str b from h); obtain ⟨t, rfl⟩ := r; exact ⟨_, .str _ _⟩
    | tup ds =>
      obtain ⟨ps, e', q⟩ := map_some' e
      subst q
      obtain ⟨a, xs, rfl, ha, rs⟩ := h
      cases r
      obtain ⟨its, rv, ⟨o, ho, hc, k, hd⟩, hz⟩ := I.tuple (SqT.of ha)
      obtain ⟨as, ra⟩ := readsAll_of (f := toP n st) (fun h r e => reads_of I S h r e) rs rv e'
      exact ⟨_, .tuple ho hc hd (by simpa using ra)⟩
    | kl ds => cases e
    | ref k =>
      obtain ⟨ds, e0, e⟩ := ob_bind e
      obtain ⟨ps, e', q⟩ := map_some' e
      subst q
      obtain ⟨a, rfl, ha⟩ := h
      cases r
      obtain ⟨xs, hx, rs⟩ := lstAt_sq S ha e0
      obtain ⟨its, rv, ⟨o, k, ho, hc, _, hd⟩, hz⟩ := I.list hx
      obtain ⟨as, ra⟩ := readsAll_of (f := toP n st) (fun h r e => reads_of I S h r e) rs rv e'
      exact ⟨_, .list ho hc hd (by simpa using ra)⟩
def eqD : G2 := fun x y st => (toP 100 st x).bind fun p => (toP 100 st y).map fun q => (.bl (PyData.eqv p q), st)
def neD : G2 := fun x y st => (toP 100 st x).bind fun p => (toP 100 st y).map fun q => (.bl !PyData.eqv p q, st)
theorem op_eqM (hu : X.A.units + 100 < cLine) : OpM X (compareOp .Eq) eqD := by
  intro pins s σ H x y v u Q I rx ry ⟨dx, dy, st, io, d, st', Rx, Ry, S, e, k⟩
  obtain ⟨p, e1, e⟩ := ob_bind e
  obtain ⟨q, e2, e⟩ := map_some' e
  cases e
  obtain ⟨as, ra⟩ := reads_of I S Rx rx e1
  obtain ⟨bs, rb⟩ := reads_of I S Ry ry e2
  have h1 := toP_ok e1
  have h2 := toP_ok e2
  exact PySem.SeqAt.compareEq_reads ra rb h1.1 h2.1 (Nat.lt_of_le_of_lt (Nat.add_le_add_left (Nat.le_trans (Nat.min_le_left _ _) h1.2) _) hu) ⟨.bl _, H, I, rfl, k.now S rfl⟩
theorem op_neM (hu : X.A.units + 100 < cLine) : OpM X (compareOp .NotEq) neD := by
  intro pins s σ H x y v u Q I rx ry ⟨dx, dy, st, io, d, st', Rx, Ry, S, e, k⟩
  obtain ⟨p, e1, e⟩ := ob_bind e
  obtain ⟨q, e2, e⟩ := map_some' e
  cases e
  obtain ⟨as, ra⟩ := reads_of I S Rx rx e1
  obtain ⟨bs, rb⟩ := reads_of I S Ry ry e2
  have h1 := toP_ok e1
  have h2 := toP_ok e2
  exact PySem.SeqAt.compareNe_reads ra rb h1.1 h2.1 (Nat.lt_of_le_of_lt (Nat.add_le_add_left (Nat.le_trans (Nat.min_le_left _ _) h1.2) _) hu) ⟨.bl _, H, I, rfl, k.now S rfl⟩
theorem room100 {k : Nat} {A : Around} (hr : Room k A) : A.units + 100 < cLine := by have := hr.un; omega
end
end L2.MP
set_option maxHeartbeats 4000000
namespace L2.MP
open PySem PySem.Spec PyProof.Rows
section
variable {X : Cx} {pins : List (Addr × Obj)} {σ : L2.St} {H : Hp} {s : Shared} {h' : Heap}
theorem Inv.turnNew {t' : Nat} {fp : List Addr} {p : Addr} {o : HO} (I : Inv X pins σ H s) (hf : ∀ b ∈ fp, FpOk X pins H b) (k : ∀ b ob, b ∉ fp → s.heap.get? b = some ob → h'.get? b = some ob) (hp : s.heap.objs.size ≤ p)
    (hfp : ∀ b ∈ fp, ∀ ob, s.heap.get? b = some ob → ∃ ob', h'.get? b = some ob') (new : ObjOk X.prog X.w (upd H p o) h' p o) : Inv X pins σ (upd H p o) { s with heap := h', toks := t' } := by
  have hpn := I.hok.fresh hp
  have nlt : ∀ b ob, s.heap.get? b = some ob → b ≠ p := fun b ob e => Nat.ne_of_lt (Nat.lt_of_lt_of_le (Heap.lt_size e) hp)
  refine Inv.step (ch := fp) (g' := s.gens) (d' := s.drawn) I (fun b hb => ⟨(hf b hb).2.2.2.1, (hf b hb).2.1, (hf b hb).2.2.2.2.1, (hf b hb).2.2.2.2.2⟩) (fun b ob _ _ hc e _ => k b ob hc e) (fun b ob _ _ hc e _ => ⟨ob.slots, k b ob hc e⟩)
    (fun b ob hc e n => by rw [upd_ne (nlt b ob e)]; exact n) (fun b ob hc e => ⟨ob, k b ob hc e⟩) (fun b xs e => by rw [upd_ne (ne_of_none e hpn)]; exact e) (fun b ob u e => by rw [upd_ne (ne_of_none e hpn)]; exact e)
    (fun b ps e => ⟨#[], by rw [upd_ne (ne_of_none e hpn), e]; simp⟩) (fun m hm => ?_) (fun b u e => ?_) I.bare
  · obtain ⟨ob, es, ep, ho, r⟩ := hm
    exact ⟨ob, es, ep, k _ ob (fun z => (hf _ z).2.1 rfl) ho, r⟩
  · by_cases hb : b = p
    · subst hb; rw [upd_same] at e; cases e; exact new
    · rw [upd_ne hb] at e
      refine (I.hok b u e).stay (fun c v hc q => k c v (fun z => ?_) q) (fun c q => by rw [upd_ne (ne_of_none q hpn)]; exact q) fun c xs q => by rw [upd_ne (ne_of_none q hpn)]; exact q
      have hz := (hf c z).1
      rcases hc with rfl | hc
      · rw [hz] at e; cases e
      · rw [hz] at hc; cases hc
theorem Inv.turnAll {t' : Nat} {fp : List Addr} (I : Inv X pins σ H s) (hf : ∀ b ∈ fp, FpOk X pins H b) (k : ∀ b ob, b ∉ fp → s.heap.get? b = some ob → h'.get? b = some ob) : Inv X pins σ H { s with heap := h', toks := t' } := by
  refine Inv.step (ch := fp) (g' := s.gens) (d' := s.drawn) I (fun b hb => ⟨(hf b hb).2.2.2.1, (hf b hb).2.1, (hf b hb).2.2.2.2.1, (hf b hb).2.2.2.2.2⟩) (fun b ob _ _ hc e _ => k b ob hc e) (fun b ob _ _ hc e _ => ⟨ob.slots, k b ob hc e⟩)
    (fun b ob hc e n => n) (fun b ob hc e => ⟨ob, k b ob hc e⟩) (fun b xs e => e) (fun b ob u e => e)
    (fun b ps e => ⟨#[], by rw [e]; simp⟩) (fun m hm => ?_) (fun b u e => ?_) I.bare
  · obtain ⟨ob, es, ep, ho, r⟩ := hm
    exact ⟨ob, es, ep, k _ ob (fun z => (hf _ z).2.1 rfl) ho, r⟩
  · refine (I.hok b u e).stay (fun c v hc q => k c v (fun z => ?_) q) (fun c q => q) fun c xs q => q
    have hz := (hf c z).1
    rcases hc with rfl | hc
    · rw [hz] at e; cases e
    · rw [hz] at hc; cases hc
end
section
variable {X : Cx} {m : ME}
def pairs (ds : List D) : List D := (ds.zipIdx).map fun (d, k) => .tup [.int (k : Nat), d]
end
end L2.MP
set_option maxHeartbeats 4000000
namespace L2.MP
open PySem PySem.Spec PyProof.Rows
section
variable {κ : Type} [DecidableEq κ] {K : PySem.W.Frag} {H : Hp} {io : List Addr}
def valD (kvs : List (κ × D)) (k : κ) : Option D := (kvs.find? fun kv => decide (kv.1 = k)).map (·.2)
def putD (kvs : List (κ × D)) (k : κ) (d : D) : List (κ × D) :=
  if (kvs.any fun kv => decide (kv.1 = k)) = true then kvs.map (fun kv => if kv.1 = k then (kv.1, d) else kv) else kvs ++ [(k, d)]
theorem KR.any {ps : List (κ × V)} {kvs : List (κ × D)} (r : KR κ K H io ps kvs) (k : κ) : (ps.any fun kv => decide (kv.1 = k)) = (kvs.any fun kv => decide (kv.1 = k)) := by
  induction r with
  | nil => rfl
  | cons z t ih => rw [List.any_cons, List.any_cons, ih, z.1]
theorem KR.length {ps : List (κ × V)} {kvs : List (κ × D)} (r : KR κ K H io ps kvs) : ps.length = kvs.length := Paired.length r
theorem KR.val {ps : List (κ × V)} {kvs : List (κ × D)} (r : KR κ K H io ps kvs) (k : κ) : (valD kvs k = none ∧ valV ps k = none) ∨ ∃ d v, valD kvs k = some d ∧ valV ps k = some v ∧ Rep K H io v d := by
  induction r with
  | nil => exact .inl ⟨rfl, rfl⟩
  | @cons p q l1 l2 z t ih =>
    unfold valD valV at *
    rw [List.find?_cons, List.find?_cons, z.1]
    by_cases e : q.1 = k
    · rw [decide_eq_true e]
      exact .inr ⟨q.2, p.2, rfl, rfl, z.2⟩
    · rw [decide_eq_false e]
      exact ih
theorem KR.append {ps qs : List (κ × V)} {kvs lvs : List (κ × D)} (r : KR κ K H io ps kvs) (r' : KR κ K H io qs lvs) : KR κ K H io (ps ++ qs) (kvs ++ lvs) := by
  induction r with
  | nil => exact r'
  | cons z t ih => exact .cons z ih
theorem KR.put {ps : List (κ × V)} {kvs : List (κ × D)} (r : KR κ K H io ps kvs) (k : κ) {v : V} {d : D} (rv : Rep K H io v d) : KR κ K H io (putK ps k v) (putD kvs k d) := by
  unfold putK putD
  rw [KR.any r k]
  by_cases e : (kvs.any fun kv => decide (kv.1 = k)) = true
  · rw [if_pos e, if_pos e]
    induction r with
    | nil => exact .nil
    | @cons p q l1 l2 z t ih =>
      rw [List.map_cons, List.map_cons]
      have hrest : KR κ K H io (l1.map fun kv => if kv.1 = k then (kv.1, v) else kv) (l2.map fun kv => if kv.1 = k then (kv.1, d) else kv) := by
        clear ih e
        induction t with
        | nil => exact .nil
        | @cons p q l1 l2 z t ih =>
          rw [List.map_cons, List.map_cons]
          refine .cons ?_ ih
          rw [z.1]
          by_cases e : q.1 = k
          · rw [if_pos e, if_pos e]; exact ⟨rfl, rv⟩
          · rw [if_neg e, if_neg e]; exact z
      refine .cons ?_ hrest
      rw [z.1]
      by_cases e : q.1 = k
      · rw [if_pos e, if_pos e]; exact ⟨rfl, rv⟩
      · rw [if_neg e, if_neg e]; exact z
  · rw [if_neg e, if_neg e]
    exact KR.append r (.cons ⟨rfl, rv⟩ .nil)
end
def keyOf : D → Option Key
  | .int i => some (.inl i)
  | .str x => some (.inr x)
  | _ => none
def keysOf : List D → Option (List Key)
  | [] => some []
  | d :: ds => (keyOf d).bind fun k => (keysOf ds).map fun ks => k :: ks
section
variable {X : Cx} {K : PySem.W.Frag} {H : Hp} {io : List Addr} {st st' : Sto} {a b e : Expr} {es : List Expr} {ma mb m : ME} {mm : MA} {pos : Pos}
theorem keyOf_rep {v : V} {d : D} {k : Key} (h : Rep K H io v d) (e : keyOf d = some k) : v = kV k := by
  cases d with
  | int i => cases e; exact h
  | str i => cases e; exact h
  | _ => cases e
theorem keysOf_rep : ∀ {xs : List V} {ds : List D} {ks : List Key}, Reps K H io xs ds → keysOf ds = some ks → xs = ks.map kV
  | _, [], ks, h, e => by cases e; exact h
  | _, d :: ds, ks, h, e => by
    obtain ⟨y, ys, rfl, h1, h2⟩ := h
    obtain ⟨k, e1, e⟩ := ob_bind e
    obtain ⟨ks', e2, e⟩ := map_some' e
    subst e
    rw [keyOf_rep h1 e1, keysOf_rep h2 e2]
    rfl
def look (st : Sto) (n : Nat) (k : D) : Option (Option D) := match st[n]? with
  | some (.dk kvs) => (keyOf k).map fun q => valD kvs q
  | some (.dt kvs) => match k with
    | .tup ds => (keysOf ds).map fun q => valD kvs q
    | _ => none
  | _ => none
theorem look_get {n : Nat} {p : Addr} {k : D} {y : V} {r : Option D} (S : StR K H io st) (hp : io[n]? = some p) (ry : Rep K H io y k) (h : look st n k = some r) : ∃ o, DGet H p y o ∧ ((r = none ∧ o = none) ∨ ∃ d v, r = some d ∧ o = some v ∧ Rep K H io v d) := by
  unfold look at h
  split at h
  · rename_i kvs e
    obtain ⟨q, e1, h⟩ := map_some' h
    subst h
    obtain ⟨ps, hH, r⟩ := S.ob n p _ hp e
    have ey := keyOf_rep ry e1
    subst ey
    refine ⟨_, DGet.k hH, ?_⟩
    rcases KR.val r q with ⟨h1, h2⟩ | ⟨d, v, h1, h2, h3⟩
    · exact .inl ⟨h1, h2⟩
    · exact .inr ⟨d, v, h1, h2, h3⟩
  · rename_i kvs e
    split at h
    · rename_i ds
      obtain ⟨q, e1, h⟩ := map_some' h
      subst h
      obtain ⟨ps, hH, r⟩ := S.ob n p _ hp e
      obtain ⟨b, xs, rfl, hb, rs⟩ := ry
      have ex := keysOf_rep rs e1
      subst ex
      refine ⟨_, DGet.t hH hb, ?_⟩
      rcases KR.val r q with ⟨h1, h2⟩ | ⟨d, v, h1, h2, h3⟩
      · exact .inl ⟨h1, h2⟩
      · exact .inr ⟨d, v, h1, h2, h3⟩
    · cases h
  · cases h
def mDGet (md mk : ME) : ME := fun ρ st => (md ρ st).bind fun (d, s1) => (mk ρ s1).bind fun (k, s2) => match d with
  | .ref n => (look s2 n k).bind fun r => r.map fun v => (v, s2)
  | _ => none
theorem se_dget {o i : Expr} {md mk : ME} (hu : X.A.units + 1 < cLine) (ho : SE X o md) (hi : SE X i mk) (hs : NoSl i := by intro _ _; rfl) : SE X (.Subscript o i pos) (mDGet md mk) := PE.imp (pe_dget hu ho hi hs) fun σ H Q ⟨ρ, st, io, d, st', E, S, e, k⟩ => by
  obtain ⟨⟨x, s1⟩, e1, e⟩ := ob_bind e
  obtain ⟨⟨y, s2⟩, e2, e⟩ := ob_bind e
  cases x with
  | ref n =>
    obtain ⟨r, e3, e⟩ := ob_bind e
    obtain ⟨w, e4, e⟩ := map_some' e
    cases e
    subst e4
    refine ⟨ρ, st, io, _, s1, E, S, e1, fun v1 H1 k1 X1 S1 R1 => ⟨ρ, s1, io ++ k1, y, _, E.ext S X1, S1, e2, fun v2 H2 k2 X2 S2 R2 => ?_⟩⟩
    obtain ⟨p, rfl, hp⟩ := R1
    obtain ⟨o, g, ⟨z, _⟩ | ⟨d', v, hd, hv, rv⟩⟩ := look_get S2 (append_get hp) R2 e3
    · cases z
    · cases hd
      subst hv
      exact ⟨p, v, rfl, g, ((k.on S1 X1).on S2 X2).now S2 rv⟩
  | _ => cases e
def mDIn (neg : Bool) (mk md : ME) : ME := fun ρ st => (mk ρ st).bind fun (k, s1) => (md ρ s1).bind fun (d, s2) => match d with
  | .ref n => (look s2 n k).map fun r => (.bl (if neg then !r.isSome else r.isSome), s2)
  | _ => none
theorem din_sound {neg : Bool} {mk md : ME} {σ : L2.St} {Q : VK} (h : tE K (mDIn neg mk md) σ H Q) : tE K mk σ H fun y H1 => tE K md σ H1 fun x H2 => ∃ a o, x = .ref a ∧ DGet H2 a y o ∧ Q (.bl (if neg then !o.isSome else o.isSome)) H2 := by
  obtain ⟨ρ, st, io, d, st', E, S, e, k⟩ := h
  obtain ⟨⟨y, s1⟩, e1, e⟩ := ob_bind e
  obtain ⟨⟨x, s2⟩, e2, e⟩ := ob_bind e
  cases x with
  | ref n =>
    obtain ⟨r, e3, e⟩ := map_some' e
    cases e
    refine ⟨ρ, st, io, y, s1, E, S, e1, fun v1 H1 k1 X1 S1 R1 => ⟨ρ, s1, io ++ k1, _, _, E.ext S X1, S1, e2, fun v2 H2 k2 X2 S2 R2 => ?_⟩⟩
    obtain ⟨p, rfl, hp⟩ := R2
    obtain ⟨o, g, z⟩ := look_get S2 hp (R1.ext S1 X2) e3
    have : o.isSome = r.isSome := by
      rcases z with ⟨a, b⟩ | ⟨d', v, a, b, _⟩
      · rw [a, b]; rfl
      · rw [a, b]; rfl
    exact ⟨p, o, rfl, g, by rw [this]; exact ((k.on S1 X1).on S2 X2).now S2 rfl⟩
  | _ => cases e
theorem se_din {o i : Expr} {md mk : ME} (hu : X.A.units + 1 < cLine) (hi : SE X i mk) (ho : SE X o md) (hm : behindInMarks .In o = false := by rfl) : SE X (.Compare i [.In] [o] pos) (mDIn false mk md) := PE.imp (pe_cmp (pc_din hu hi ho) hm) fun σ H Q h => din_sound h
theorem se_dnotin {o i : Expr} {md mk : ME} (hu : X.A.units + 1 < cLine) (hi : SE X i mk) (ho : SE X o md) (hm : behindInMarks .NotIn o = false := by rfl) : SE X (.Compare i [.NotIn] [o] pos) (mDIn true mk md) := PE.imp (pe_cmp (pc_dnotin hu hi ho) hm) fun σ H Q h => din_sound h
end
end L2.MP
set_option maxHeartbeats 4000000
namespace L2.MP
open PySem PySem.Spec PyProof.Rows
section
variable {X : Cx} {K : PySem.W.Frag} {H : Hp} {io : List Addr} {st st' : Sto} {a b c e : Expr} {es : List Expr} {ma mb mc m : ME} {mm : MA} {pos : Pos}
theorem sb_din {o i : Expr} {md mk : ME} (hu : X.A.units + 1 < cLine) (hi : SE X i mk) (ho : SE X o md) (hm : behindInMarks .In o = false := by rfl) : SB X (.Compare i [.In] [o] pos) (mTst (mDIn false mk md)) :=
  PT.imp (pt_cmp (pc_din hu hi ho) hm) fun σ H Q h => din_sound (tst_sound h)
def dput (st : Sto) (n : Nat) (k d : D) : Option Sto := match st[n]? with
  | some (.dk kvs) => (keyOf k).bind fun q => if decide (kvs.length < sizeLine) = true then some (st.set n (.dk (putD kvs q d))) else none
  | some (.dt kvs) => match k with
    | .tup ds => (keysOf ds).bind fun q => if decide (kvs.length < sizeLine) = true then some (st.set n (.dt (putD kvs q d))) else none
    | _ => none
  | _ => none
theorem dput_put {n : Nat} {p : Addr} {k d : D} {y v : V} (S : StR K H io st) (hp : io[n]? = some p) (ry : Rep K H io y k) (rv : Rep K H io v d) (h : dput st n k d = some st') : ∃ H', DPut H p y v H' ∧ Ext io [] H H' ∧ StR K H' (io ++ []) st' := by
  unfold dput at h
  split at h
  · rename_i kvs e
    obtain ⟨q, e1, h⟩ := ob_bind h
    obtain ⟨hl, h⟩ := ite_some h
    cases h
    obtain ⟨ps, hH, r⟩ := S.ob n p _ hp e
    have ey := keyOf_rep ry e1
    subst ey
    have := KR.length r
    refine ⟨_, DPut.k hH (by rw [this]; exact of_decide_eq_true hl), ?_⟩
    exact put_in S hp e (fun o u z => by rw [hH] at z; cases z) fun H' T e' => ⟨_, e', KR.put (KR.mono T r) q (Rep.mono T rv)⟩
  · rename_i kvs e
    split at h
    · rename_i ds
      obtain ⟨q, e1, h⟩ := ob_bind h
      obtain ⟨hl, h⟩ := ite_some h
      cases h
      obtain ⟨ps, hH, r⟩ := S.ob n p _ hp e
      obtain ⟨b, xs, rfl, hb, rs⟩ := ry
      have ex := keysOf_rep rs e1
      subst ex
      have := KR.length r
      refine ⟨_, DPut.t hH hb (by rw [this]; exact of_decide_eq_true hl), ?_⟩
      exact put_in S hp e (fun o u z => by rw [hH] at z; cases z) fun H' T e' => ⟨_, e', KR.put (KR.mono T r) q (Rep.mono T rv)⟩
    · cases h
  · cases h
def mDPut (md mk mv : ME) : MS := fun ρ st => (mv ρ st).bind fun (v, s1) => (md ρ s1).bind fun (d, s2) => (mk ρ s2).bind fun (k, s3) => match d with
  | .ref n => (dput s3 n k v).map fun s4 => (.nx ρ, s4)
  | _ => none
theorem ss_dput {o i value : Expr} {md mk mv : ME} {pos' : Pos} (hu : X.A.units + 1 < cLine) (ho : SE X o md) (hi : SE X i mk) (hv : SE X value mv) (hs : swapsWith value (some (.Subscript o i pos')) pos.line X.env = pure false := by rfl) :
    SS X (.Assign [.Subscript o i pos'] value pos) (mDPut md mk mv) := PS.imp (ps_dput hu ho hi hv hs) fun N σ H h => by
  obtain ⟨ρ, st, io, f, st', E, S, e, w⟩ := ts_iff.mp h
  obtain ⟨⟨v, s1⟩, e1, e⟩ := ob_bind e
  obtain ⟨⟨d, s2⟩, e2, e⟩ := ob_bind e
  obtain ⟨⟨k, s3⟩, e3, e⟩ := ob_bind e
  cases d with
  | ref n =>
    obtain ⟨s4, e4, e⟩ := map_some' e
    cases e
    refine ⟨ρ, st, io, v, s1, E, S, e1, fun v1 H1 k1 X1 S1 R1 => ⟨ρ, s1, io ++ k1, _, s2, E.ext S X1, S1, e2, fun v2 H2 k2 X2 S2 R2 => ⟨ρ, s2, (io ++ k1) ++ k2, k, s3, (E.ext S X1).ext S1 X2, S2, e3, fun v3 H3 k3 X3 S3 R3 => ?_⟩⟩⟩
    obtain ⟨p, rfl, hp⟩ := R2
    obtain ⟨H4, g, X4, S4⟩ := dput_put S3 (append_get hp) R3 ((R1.ext S1 X2).ext S2 X3) e4
    refine ⟨p, H4, rfl, g, ?_⟩
    have w3 : ∀ σ' H' kb, Ext (((io ++ k1) ++ k2) ++ k3) kb H3 H' → _ := on_env (on_env (on_env w X1 S1) X2 S2) X3 S3
    exact w3 σ H4 [] X4 S4 ((((E.ext S X1).ext S1 X2).ext S2 X3).ext S3 X4)
  | _ => cases e
def mDNew (t : Bool) : ME := fun _ st => some (.ref st.length, st ++ [if t then .dt [] else .dk []])
def mtM (K : PySem.W.Frag) (g : D → List D → Sto → Option (D × Sto)) : V → List V → Hp → VK → Prop := fun x xs H Q => ∃ dx ds st io d st', Rep K H io x dx ∧ Reps K H io xs ds ∧ StR K H io st ∧ g dx ds st = some (d, st') ∧ Bh K io H st' d Q
def appendD : D → List D → Sto → Option (D × Sto) := fun x xs st => match x, xs with
  | .ref n, [d] => match st[n]? with
    | some (.lst ds) => if decide (ds.length < sizeLine) = true then some (.non, st.set n (.lst (ds ++ [d]))) else none
    | _ => none
  | _, _ => none
theorem append_in {n : Nat} {d : D} {ds : List D} {xs : List D} (h : appendD (.ref n) xs st = some (d, st')) : ∃ ds x, st[n]? = some (.lst ds) ∧ xs = [x] ∧ ds.length < sizeLine ∧ d = .non ∧ st' = st.set n (.lst (ds ++ [x])) := by
  unfold appendD at h
  match xs, h with
  | [x], h =>
    dsimp only at h
    split at h
    · rename_i ds e
      obtain ⟨hl, h⟩ := ite_some h
      cases h
      exact ⟨ds, x, e, rfl, of_decide_eq_true hl, rfl, rfl⟩
    · cases h
  | [], h => cases h
  | _ :: _ :: _, h => cases h
theorem mt_appendM : MtR X "list.append" (mtM X.K appendD) := by
  intro pins s σ H x xs v us Q I rx rs ⟨dx, ds, st, io, d, st', Rx, Rs, S, e, k⟩
  cases dx with
  | ref n =>
    obtain ⟨l, y, e1, rfl, hl, rfl, rfl⟩ := append_in (ds := []) e
    obtain ⟨p, rfl, hp⟩ := Rx
    obtain ⟨w, rfl, Rw⟩ := Rs.one
    obtain ⟨ys, hH, r⟩ := S.ob n p _ hp e1
    refine mt_append pins s σ H _ _ v us Q I rx rs ⟨p, ys, w, rfl, rfl, hH, by rw [r.length]; exact hl, ?_⟩
    obtain ⟨E', S'⟩ := put_in (o := .lst (ys ++ [w])) (ob := .lst (l ++ [y])) S hp e1 (fun o u z => by rw [hH] at z; cases z) fun H' T e' => ⟨_, e', (Reps.mono T r).append (Reps.cons (Rep.mono T Rw) Reps.nil)⟩
    exact k _ _ [] E' S' rfl
  | _ => unfold appendD at e; cases ds <;> cases e
theorem tyV_list {n : Nat} {v : V} {l : List D} (R : Rep K H io v (.ref n)) (S : StR K H io st) (h : lstAt st n = some l) : tyV K "list" v H := by
  obtain ⟨p, rfl, hp⟩ := R
  obtain ⟨xs, hx, _⟩ := lstAt_sq S hp h
  exact .inl ⟨rfl, xs, hx⟩
def mApp (m : ME) (mm : MA) : ME := fun ρ st => (m ρ st).bind fun (x, s1) => match x with
  | .ref n => (lstAt s1 n).bind fun _ => (mm ρ s1).bind fun (xs, s2) => appendD x xs s2
  | _ => none
theorem se_append {o : Expr} {apos cpos : Pos} (ho : SE X o m) (ha : SA X (e :: es) mm)
    (hbase : attributeBase o "append" X.env (eval o X.env) = eval o X.env := by rfl)
    (hfew : ((backTo cpos (starEach (e :: es) X.env)).all (fun x => !x.1) && (backToKw cpos (keywordEach [] X.env)).all (fun x => x.1.isSome)
      && decide ((e :: es).length + ([] : List Keyword).length + (if ([] : List Keyword).isEmpty then 0 else 1) < 30)) = true := by rfl)
    (hline : (apos.endLine == cpos.line) = true := by rfl) (hs : starEach (e :: es) X.env = (false, eval e X.env) :: starEach es X.env := by rfl) (hplain : (backTo cpos (starEach es X.env)).any (·.1) = false := by rfl) :
    SE X (.Call (.Attribute o "append" apos) (e :: es) [] cpos) (mApp m mm) :=
  PE.imp (pe_bm PySem.F.plainAttrs_list PySem.F.slot_list_append PySem.F.type_list_append mt_appendM ho ha hbase hfew hline hs hplain) fun σ H Q ⟨ρ, st, io, d, st', E, S, e, k⟩ => by
    obtain ⟨⟨x, s1⟩, e1, e⟩ := ob_bind e
    cases x with
    | ref n =>
      obtain ⟨l, e0, e⟩ := ob_bind e
      obtain ⟨⟨xs, s2⟩, e2, e⟩ := ob_bind e
      refine ⟨ρ, st, io, _, s1, E, S, e1, fun v1 H1 k1 X1 S1 R1 => ⟨tyV_list R1 S1 e0, ρ, s1, io ++ k1, xs, s2, E.ext S X1, S1, e2, fun vs H2 k2 X2 S2 R2 => ?_⟩⟩
      exact ⟨_, xs, s2, (io ++ k1) ++ k2, d, st', R1.ext S1 X2, R2, S2, e, (k.on S1 X1).on S2 X2⟩
    | _ => cases e
abbrev MO := Rho → Sto → Option (Option Int × Sto)
def tOm (K : PySem.W.Frag) (m : MO) : TO := fun σ H Q => ∃ ρ st io d st', EnvR K H io σ ρ ∧ StR K H io st ∧ m ρ st = some (d, st') ∧ ∀ H' ka, Ext io ka H H' → StR K H' (io ++ ka) st' → Q d H'
def SO (X : Cx) (e : Option Expr) (m : MO) : Prop := PO X e (tOm X.K m)
def oNone : MO := fun _ st => some (none, st)
def oSome (m : ME) : MO := fun ρ st => (m ρ st).bind fun (d, s) => match d with
  | .int i => some (some i, s)
  | _ => none
theorem so_none : SO X none oNone := fun pins s σ H Q I ⟨ρ, st, io, d, st', E, S, e, k⟩ => po_none pins s σ H Q I (by cases e; exact k H [] Ext.refl S.nil)
theorem so_some (h : SE X e m) : SO X (some e) (oSome m) := fun pins s σ H Q I ⟨ρ, st, io, d, st', E, S, e, k⟩ => po_some h pins s σ H Q I (by
  obtain ⟨⟨x, s1⟩, e1, e⟩ := ob_bind e
  cases x with
  | int i =>
    cases e
    exact ⟨ρ, st, io, _, _, E, S, e1, fun v1 H1 k1 X1 S1 R1 => ⟨i, R1, k H1 k1 X1 S1⟩⟩
  | _ => cases e)
def cutD (xs : List D) (lo hi : Option Int) : List D := (xs.drop (HT.sIx xs.length 0 lo)).take (HT.sIx xs.length xs.length hi - HT.sIx xs.length 0 lo)
theorem cut_rep {xs : List V} {ds : List D} (r : Reps K H io xs ds) (lo hi : Option Int) : Reps K H io (cutV xs lo hi) (cutD ds lo hi) := by
  unfold cutV cutD
  rw [r.length]
  exact (r.drop _).take _
def slD : D → Option Int → Option Int → Sto → Option (D × Sto) := fun x lo hi st => match x with
  | .tup ds => if (decide (HT.sIx ds.length 0 lo = 0) && decide (HT.sIx ds.length ds.length hi = ds.length)) = true then none else some (.tup (cutD ds lo hi), st)
  | .ref n => (lstAt st n).map fun ds => (.ref st.length, st ++ [.lst (cutD ds lo hi)])
  | _ => none
def mSl (m : ME) (l h : MO) : ME := fun ρ st => (m ρ st).bind fun (x, s1) => (l ρ s1).bind fun (lo, s2) => (h ρ s2).bind fun (hi, s3) => slD x lo hi s3
def rSlM (K : PySem.W.Frag) : V → Option Int → Option Int → Hp → VK → Prop := fun x lo hi H Q => rSlT K x lo hi H Q ∨ rSlL K x lo hi H Q
theorem sl_M : SlR X (rSlM X.K) := by
  intro pins s σ H x v vl vu lo hi sl Q I rx hs pl pu h
  rcases h with h | h
  · exact sl_tup pins s σ H x v vl vu lo hi sl Q I rx hs pl pu h
  · exact sl_list pins s σ H x v vl vu lo hi sl Q I rx hs pl pu h
theorem se_slice {lo hi : Option Expr} {ml mh : MO} {p2 : Pos} (he : SE X e m) (hl : SO X lo ml) (hu : SO X hi mh) : SE X (.Subscript e (.Slice lo hi none p2) pos) (mSl m ml mh) := PE.imp (pe_slice sl_M he hl hu) fun σ H Q ⟨ρ, st, io, d, st', E, S, e, k⟩ => by
  obtain ⟨⟨x, s1⟩, e1, e⟩ := ob_bind e
  obtain ⟨⟨lo', s2⟩, e2, e⟩ := ob_bind e
  obtain ⟨⟨hi', s3⟩, e3, e⟩ := ob_bind e
  refine ⟨ρ, st, io, x, s1, E, S, e1, fun v1 H1 k1 X1 S1 R1 => ⟨ρ, s1, io ++ k1, lo', s2, E.ext S X1, S1, e2, fun H2 k2 X2 S2 => ⟨ρ, s2, (io ++ k1) ++ k2, hi', s3, (E.ext S X1).ext S1 X2, S2, e3, fun H3 k3 X3 S3 => ?_⟩⟩⟩
  have R3 := (R1.ext S1 X2).ext S2 X3
  have k' := ((k.on S1 X1).on S2 X2).on S3 X3
  cases x with
  | tup ds =>
    have e : (if (decide (HT.sIx ds.length 0 lo' = 0) && decide (HT.sIx ds.length ds.length hi' = ds.length)) = true then none else some (D.tup (cutD ds lo' hi'), s3)) = some (d, st') := e
    by_cases hw : (decide (HT.sIx ds.length 0 lo' = 0) && decide (HT.sIx ds.length ds.length hi' = ds.length)) = true
    · rw [if_pos hw] at e; cases e
    · rw [if_neg hw] at e
      cases e
      obtain ⟨p, xs, rfl, hp, r⟩ := R3
      refine .inl ⟨p, xs, rfl, SqT.of hp, fun z => hw ?_, fun q hq => k'.tup S3 (cut_rep r _ _) hq⟩
      rw [r.length] at z
      rw [Bool.and_eq_true]
      exact ⟨decide_eq_true z.1, decide_eq_true z.2⟩
  | ref n =>
    obtain ⟨ds, e0, e⟩ := map_some' e
    cases e
    obtain ⟨p, rfl, hp⟩ := R3
    obtain ⟨xs, hx, r⟩ := lstAt_sq S3 hp e0
    exact .inr ⟨p, xs, rfl, hx, fun q hq => k'.lst S3 (cut_rep r _ _) hq⟩
  | _ => cases e
def fdivB : G2 := intD (fun _ j => decide (0 < j) && decide (j < 2 ^ 128)) fun i j => .int (i / j)
theorem op_fdivB : OpM X (binaryOp .FloorDiv) fdivB := op_intM (C := fun i j => 0 < j ∧ j < 2 ^ 128) (opI fun i j _ _ _ _ _ hc q => by
  refine floordiv_int (by omega) (by rw [Int.fdiv_eq_ediv_of_nonneg i (by omega)]; exact q) (.inl (PyProof.noPylong_of_log2 ?_))
  have h0 : j.natAbs ≠ 0 := by omega
  have h1 : j.natAbs < 2 ^ 128 := by omega
  exact Nat.lt_trans ((Nat.log2_lt h0).mpr h1) (by decide)) fun i j h => by
    rw [Bool.and_eq_true] at h
    exact ⟨of_decide_eq_true h.1, of_decide_eq_true h.2⟩
def powB : G2 := intD (fun i j => decide (0 ≤ j) && decide ((Builtin.Int.intBits i : Int) * j ≤ 2 ^ 27)) fun i j => .int (i ^ j.toNat)
theorem op_powB : OpM X (binaryOp .Pow) powB := op_intM (C := fun i j => 0 ≤ j ∧ (Builtin.Int.intBits i : Int) * j ≤ 2 ^ 27) (opI fun i j _ _ _ _ _ hc q => pow_int hc.1 hc.2 q) fun i j h => by
    rw [Bool.and_eq_true] at h
    exact ⟨of_decide_eq_true h.1, of_decide_eq_true h.2⟩
end
end L2.MP
set_option maxHeartbeats 4000000
namespace L2.MP
open PySem PySem.Spec PyProof.Rows
def subT (t T : String) : Bool := t == T || (t == "bool" && T == "int")
def sorts : List String := ["NoneType", "bool", "int", "str", "tuple", "list", "dict"]
def kinds : List String := ["bool", "int", "str", "tuple", "list", "dict"]
theorem kit_sub {K : PySem.W.Frag} {t T : String} (ht : t ∈ sorts) (hT : T ∈ kinds) : PySem.W.kitOne K (.type t) (.type T) = some (subT t T) := by
  have all : ∀ t ∈ sorts, ∀ T ∈ kinds, PySem.W.kitOne K (.type t) (.type T) = some (subT t T) := by
    intro t ht T hT
    simp only [sorts, kinds, List.mem_cons, List.not_mem_nil, or_false] at ht hT
    rcases ht with rfl | rfl | rfl | rfl | rfl | rfl | rfl <;> rcases hT with rfl | rfl | rfl | rfl | rfl | rfl <;> rfl
  exact all t ht T hT
def tyName (st : Sto) : D → Option String
  | .non => some "NoneType"
  | .bl _ => some "bool"
  | .int _ => some "int"
  | .str _ => some "str"
  | .tup _ => some "tuple"
  | .ref n => match st[n]? with
    | some (.lst _) => some "list"
    | some (.fz _) => some "list"
    | some (.dk _) => some "dict"
    | some (.dt _) => some "dict"
    | _ => none
  | .kl _ => none
section
variable {X : Cx} {K : PySem.W.Frag} {H : Hp} {io : List Addr} {st st' : Sto} {a : Expr} {m : ME} {pos : Pos} {pins : List (Addr × Obj)} {σ : L2.St} {s : Shared}
theorem kit_list {xs : List V} {p : Addr} (I : Inv X pins σ H s) (h : SqL X.K H p xs) : PySem.W.KitAt p "list" s.heap := by
  obtain ⟨its, _, ⟨o, n, e, c, _, _⟩, _⟩ := I.list h
  exact ⟨o, e, c⟩
theorem kit_dictK {ps : List (Key × V)} {p : Addr} (I : Inv X pins σ H s) (h : H p = some (.dK ps)) : PySem.W.KitAt p "dict" s.heap := by
  obtain ⟨_, _, _, _, o, _, _, e, ex, _⟩ := I.hok p _ h
  exact ⟨o, e, ex.1⟩
theorem kit_dictT {ps : List (List Key × V)} {p : Addr} (I : Inv X pins σ H s) (h : H p = some (.dT ps)) : PySem.W.KitAt p "dict" s.heap := by
  obtain ⟨_, _, _, _, o, _, _, e, ex, _⟩ := I.hok p _ h
  exact ⟨o, e, ex.1⟩
theorem isi_val {d : D} {v : V} {u : Value} {t T : String} {Q : Value → Shared → Prop} {E : Value → Shared → Prop} (I : Inv X pins σ H s) (S : StR X.K H io st) (R : Rep X.K H io v d) (r : RelV v u) (ht : tyName st d = some t) (hT : T ∈ kinds)
    (q : ∀ tk, Q (.bool (subT t T)) { s with toks := tk }) : wpAny (model X.prog X.w) X.A (call (.builtin "isinstance") [u, .type T]) Q E s := by
  have k := fun {x : Value} {HH : Heap → Prop} (hs : t ∈ sorts) (Z : PySem.W.KitX X.K x (.type t) HH) (p : HH s.heap) (hx : x ≠ .builtin "__main__.__loader__#opaque") => PySem.W.kia_one (prog := X.prog) (w := X.w) (A := X.A) (E := E) Z I.kIn p (kit_sub hs hT) hx q
  cases d with
  | non => cases ht; cases (show v = .non from R); cases r; exact k (by decide) PySem.W.kitx_none trivial (by intro e; cases e)
  | bl b => cases ht; cases (show v = .bl b from R); cases r; exact k (by decide) PySem.W.kitx_bool trivial (by intro e; cases e)
  | int b => cases ht; cases (show v = .int b from R); obtain ⟨t, rfl⟩ := r; exact k (by decide) PySem.W.kitx_int trivial (by intro e; cases e)
  | str b => cases ht; cases (show v = .str b from R); obtain ⟨t, rfl⟩ := r; exact k (by decide) PySem.W.kitx_str trivial (by intro e; cases e)
  | tup ds =>
    cases ht
    obtain ⟨p, xs, rfl, hp, _⟩ := R
    cases r
    obtain ⟨its, _, ⟨o, e, c, _⟩, _⟩ := I.tuple (SqT.of hp)
    exact k (by decide) PySem.W.kitx_tuple ⟨o, e, c⟩ (by intro e; cases e)
  | ref n =>
    obtain ⟨p, rfl, hp⟩ := R
    cases r
    unfold tyName at ht
    dsimp only at ht
    split at ht
    · rename_i o e; cases ht
      obtain ⟨xs, hH, _⟩ := S.ob n p _ hp e
      exact k (by decide) PySem.W.kitx_list (kit_list I (SqL.of hH)) (by intro e; cases e)
    · rename_i o e; cases ht
      obtain ⟨ob, xs, hH, _⟩ := S.ob n p _ hp e
      exact k (by decide) PySem.W.kitx_list (kit_list I (.inl (.inr ⟨ob, hH⟩))) (by intro e; cases e)
    · rename_i o e; cases ht
      obtain ⟨xs, hH, _⟩ := S.ob n p _ hp e
      exact k (by decide) PySem.W.kitx_dict (kit_dictK I hH) (by intro e; cases e)
    · rename_i o e; cases ht
      obtain ⟨xs, hH, _⟩ := S.ob n p _ hp e
      exact k (by decide) PySem.W.kitx_dict (kit_dictT I hH) (by intro e; cases e)
    · cases ht
  | kl ds => cases ht
def rIsi (K : PySem.W.Frag) (T : String) : List V → Hp → VK → Prop := fun xs H Q => ∃ x d st io t, xs = [x, .ty T] ∧ Rep K H io x d ∧ StR K H io st ∧ tyName st d = some t ∧ Q (.bl (subT t T)) H
theorem call_isi {T : String} (hT : T ∈ kinds) : CallR X (.builtin "isinstance") (rIsi X.K T) := by
  intro pins s σ H xs us Q I r ⟨x, d, st, io, t, e, R, S, ht, q⟩
  subst e
  obtain ⟨u, w, rfl, ru, rw'⟩ := r.two
  cases rw'
  exact isi_val I S R ru ht hT fun tk => ⟨.bl _, H, I.tok tk, rfl, q⟩
def mIsi (T : String) (m : ME) : ME := fun ρ st => (m ρ st).bind fun (x, s) => (tyName s x).map fun t => (.bl (subT t T), s)
theorem se_isi {T : String} {x y : Str} {p p2 : Pos} (hT : T ∈ kinds) (hg : Gl X "isinstance") (hm : X.mg "isinstance" = none) (ha : SE X a m) (hgy : Gl X y) (hmy : X.mg y = none) (hvy : bootBuiltins y = some (.type T)) (hny : y ≠ "__name__" := by decide) (hdy : (y == ("__debug__" : Str)) = false := by decide)
    (hs : starEach [a, .Name y p2] X.env = (false, eval a X.env) :: starEach [.Name y p2] X.env := by rfl) (hs2 : starEach [.Name y p2] X.env = [(false, eval (.Name y p2) X.env)] := by rfl) (hpl : (backTo pos (starEach [.Name y p2] X.env)).any (·.1) = false := by rfl) :
    SE X (.Call (.Name "isinstance" p) [a, .Name y p2] [] pos) (mIsi T m) :=
  PE.imp (pe_callB (call_isi hT) hg hm (by decide +kernel) (pa_cons ha (pa_cons (pe_bltn (v := .ty T) hgy hmy hvy rfl hny hdy) pa_nil hs2) hs) (by decide) (by decide) hs hpl) fun σ H Q ⟨ρ, st, io, d, st', E, S, e, k⟩ => by
    obtain ⟨⟨x, s1⟩, e1, e⟩ := ob_bind e
    obtain ⟨t, e2, e⟩ := map_some' e
    cases e
    exact ⟨ρ, st, io, x, _, E, S, e1, fun v1 H1 k1 X1 S1 R1 => ⟨v1, x, _, io ++ k1, t, rfl, R1, S1, e2, k _ H1 k1 X1 S1 rfl⟩⟩
end
end L2.MP
set_option maxHeartbeats 4000000
namespace L2.MP
open PySem PySem.Spec PyProof.Rows
def sle (a b : Str) : Bool := !decide (b.cps.toList < a.cps.toList)
theorem str_ext {a b : Str} (h : a.cps.toList = b.cps.toList) : a = b := by
  obtain ⟨x⟩ := a
  obtain ⟨y⟩ := b
  have : x = y := by
    have h' : x.toList = y.toList := h
    exact Array.toList_inj.mp h'
  rw [this]
end L2.MP
set_option maxHeartbeats 4000000
namespace L2.MP
open PySem PySem.Spec PyProof.Rows
section
variable {X : Cx} {K : PySem.W.Frag} {H : Hp} {io : List Addr} {st st' : Sto} {a b c e : Expr} {es : List Expr} {ma mb mc m : ME} {mm : MA} {pos : Pos} {pins : List (Addr × Obj)} {σ : L2.St} {s : Shared}
def strsOf : List D → Option (List Str)
  | [] => some []
  | .str x :: r => (strsOf r).map fun xs => x :: xs
  | _ => none
theorem strsOf_cons {d : D} {r : List D} {ss : List Str} (h : strsOf (d :: r) = some ss) : ∃ x xs, d = .str x ∧ strsOf r = some xs ∧ ss = x :: xs := by
  cases d with
  | str x =>
    obtain ⟨xs, e, h⟩ := map_some' h
    exact ⟨x, xs, rfl, e, h.symm⟩
  | _ => cases h
theorem strsOf_map (ss : List Str) : strsOf (ss.map D.str) = some ss := by
  induction ss with
  | nil => rfl
  | cons x r ih => show (strsOf (r.map D.str)).map _ = _; rw [ih]; rfl
theorem strs_are : ∀ {xs : List V} {us : List Value} {ds : List D} {ss : List Str}, Reps K H io xs ds → Vals xs us → strsOf ds = some ss → StrsAre us ss
  | _, _, [], ss, h, r, e => by
    cases (show _ = [] from h); cases r; cases e; exact .nil
  | _, _, d :: ds, ss, h, r, e => by
    obtain ⟨y, ys, rfl, h1, h2⟩ := h
    obtain ⟨x, rest, rfl, e2, rfl⟩ := strsOf_cons e
    cases r with
    | cons r1 r2 =>
      cases (show y = .str x from h1)
      obtain ⟨t, rfl⟩ := r1
      exact .cons x t (strs_are h2 r2 e2)
theorem strs_reps (ss : List Str) : Reps K H io (ss.map V.str) (ss.map D.str) := by
  induction ss with
  | nil => exact rfl
  | cons x r ih => exact Reps.cons rfl ih
def joinD : D → List D → Sto → Option (D × Sto) := fun x xs st => match x, xs with
  | .str z, [.ref n] => (lstAt st n).bind fun ds => (strsOf ds).bind fun ss => if decide ((ss.map (·.length)).sum + ss.length * z.length ≤ 16777216) = true then some (.str (Txt.join z ss), st) else none
  | _, _ => none
theorem mt_joinM : MtR X "str.join" (mtM X.K joinD) := by
  intro pins s σ H x xs v us Q I rx rs ⟨dx, ds, st, io, d, st', Rx, Rs, S, e, k⟩
  unfold joinD at e
  split at e
  · rename_i z n
    obtain ⟨ts, e0, e⟩ := ob_bind e
    obtain ⟨ss, e1, e⟩ := ob_bind e
    obtain ⟨hl, e⟩ := ite_some e
    cases e
    cases (show x = .str z from Rx)
    obtain ⟨t, rfl⟩ := rx
    obtain ⟨w, rfl, p, rfl, hp⟩ := Rs.one
    obtain ⟨u, rfl, ru⟩ := rs.one
    cases ru
    obtain ⟨ys, hx, r1⟩ := lstAt_sq S hp e0
    obtain ⟨its, rv, pl, hz⟩ := I.list hx
    exact join_list pl.isList (strs_are r1 rv e1) (of_decide_eq_true hl) fun t' k' => ⟨.str _, H, I.tok k', ⟨t', rfl⟩, k.now S rfl⟩
  · cases e
def mJoin (m : ME) (mm : MA) : ME := fun ρ st => (m ρ st).bind fun (x, s1) => match x with
  | .str _ => (mm ρ s1).bind fun (xs, s2) => joinD x xs s2
  | _ => none
theorem se_join {o : Expr} {apos cpos : Pos} (ho : SE X o m) (ha : SA X (e :: es) mm)
    (hbase : attributeBase o "join" X.env (eval o X.env) = eval o X.env := by rfl)
    (hfew : ((backTo cpos (starEach (e :: es) X.env)).all (fun x => !x.1) && (backToKw cpos (keywordEach [] X.env)).all (fun x => x.1.isSome)
      && decide ((e :: es).length + ([] : List Keyword).length + (if ([] : List Keyword).isEmpty then 0 else 1) < 30)) = true := by rfl)
    (hline : (apos.endLine == cpos.line) = true := by rfl) (hs : starEach (e :: es) X.env = (false, eval e X.env) :: starEach es X.env := by rfl) (hplain : (backTo cpos (starEach es X.env)).any (·.1) = false := by rfl) :
    SE X (.Call (.Attribute o "join" apos) (e :: es) [] cpos) (mJoin m mm) :=
  PE.imp (pe_bm PySem.F.plainAttrs_str PySem.F.slot_str_join PySem.F.type_str_join mt_joinM ho ha hbase hfew hline hs hplain) fun σ H Q ⟨ρ, st, io, d, st', E, S, e, k⟩ => by
    obtain ⟨⟨x, s1⟩, e1, e⟩ := ob_bind e
    cases x with
    | str z =>
      obtain ⟨⟨xs, s2⟩, e2, e⟩ := ob_bind e
      refine ⟨ρ, st, io, _, s1, E, S, e1, fun v1 H1 k1 X1 S1 R1 => ⟨by cases (show v1 = .str z from R1); rfl, ρ, s1, io ++ k1, xs, s2, E.ext S X1, S1, e2, fun vs H2 k2 X2 S2 R2 => ?_⟩⟩
      exact ⟨_, xs, s2, (io ++ k1) ++ k2, d, st', R1.ext S1 X2, R2, S2, e, (k.on S1 X1).on S2 X2⟩
    | _ => cases e
def rSlS : V → Option Int → Option Int → Hp → VK → Prop := fun x lo hi H Q => ∃ z, x = .str z ∧ z.length ≤ sizeLine ∧ Q (.str (Txt.slice z lo hi)) H
theorem sl_str : SlR X rSlS := by
  intro pins s σ H x v vl vu lo hi sl Q I rx hs pl pu ⟨z, e, hz, q⟩
  subst e
  obtain ⟨t, rfl⟩ := rx
  refine ⟨"str", _, F.slot_str_getitem.lookup, typeIs_str _ _ _, ?_⟩
  have fin : ∀ t' k, EP X pins σ Q (.str (Txt.slice z lo hi) t') { s with toks := k } := fun t' k => ⟨.str _, H, I.tok k, ⟨t', rfl⟩, q⟩
  cases pl with
  | none =>
    cases pu with
    | none => exact wpAny_getItem_str_slice (l := none) (u := none) (st := none) hs rfl (post_val_or_str ⟨Nat.le_trans (Txt.slice_le z _ _) hz, fin⟩)
    | int j tj => exact wpAny_getItem_str_slice (l := none) (u := some (j, tj)) (st := none) hs rfl (post_val_or_str ⟨Nat.le_trans (Txt.slice_le z _ _) hz, fin⟩)
  | int i ti =>
    cases pu with
    | none => exact wpAny_getItem_str_slice (l := some (i, ti)) (u := none) (st := none) hs rfl (post_val_or_str ⟨Nat.le_trans (Txt.slice_le z _ _) hz, fin⟩)
    | int j tj => exact wpAny_getItem_str_slice (l := some (i, ti)) (u := some (j, tj)) (st := none) hs rfl (post_val_or_str ⟨Nat.le_trans (Txt.slice_le z _ _) hz, fin⟩)
def slS : D → Option Int → Option Int → Sto → Option (D × Sto) := fun x lo hi st => match x with
  | .str z => if fits z.length = true then some (.str (Txt.slice z lo hi), st) else none
  | _ => none
def mSlS (m : ME) (l h : MO) : ME := fun ρ st => (m ρ st).bind fun (x, s1) => (l ρ s1).bind fun (lo, s2) => (h ρ s2).bind fun (hi, s3) => slS x lo hi s3
theorem se_sliceS {lo hi : Option Expr} {ml mh : MO} {p2 : Pos} (he : SE X e m) (hl : SO X lo ml) (hu : SO X hi mh) : SE X (.Subscript e (.Slice lo hi none p2) pos) (mSlS m ml mh) := PE.imp (pe_slice sl_str he hl hu) fun σ H Q ⟨ρ, st, io, d, st', E, S, e, k⟩ => by
  obtain ⟨⟨x, s1⟩, e1, e⟩ := ob_bind e
  obtain ⟨⟨lo', s2⟩, e2, e⟩ := ob_bind e
  obtain ⟨⟨hi', s3⟩, e3, e⟩ := ob_bind e
  refine ⟨ρ, st, io, x, s1, E, S, e1, fun v1 H1 k1 X1 S1 R1 => ⟨ρ, s1, io ++ k1, lo', s2, E.ext S X1, S1, e2, fun H2 k2 X2 S2 => ⟨ρ, s2, (io ++ k1) ++ k2, hi', s3, (E.ext S X1).ext S1 X2, S2, e3, fun H3 k3 X3 S3 => ?_⟩⟩⟩
  have k' := ((k.on S1 X1).on S2 X2).on S3 X3
  cases x with
  | str z =>
    obtain ⟨hf, e⟩ := ite_some e
    cases e
    exact ⟨z, R1, of_decide_eq_true hf, k'.now S3 rfl⟩
  | _ => cases e
def repS (x : Str) (n : Int) : Str := if n < 1 then Str.empty else if (n == 1 || x.length == 0) = true then x else ⟨(List.replicate n.toNat x.cps).foldl (· ++ ·) #[]⟩
def mulSD : G2
  | .str x, .int n, st => if (decide (-(2 ^ 62) ≤ n) && decide (n < 2 ^ 20) && decide (x.length * n.toNat ≤ sizeLine) && decide ((repS x n).length ≤ sizeLine)) = true then some (.str (repS x n), st) else none
  | _, _, _ => none
theorem op_mulSM : OpM X (binaryOp .Mult) mulSD := by
  intro pins s σ H x y v u Q I rx ry ⟨dx, dy, st, io, d, st', Rx, Ry, S, e, k⟩
  unfold mulSD at e
  split at e
  · rename_i z n
    obtain ⟨hc, e⟩ := ite_some e
    cases e
    rw [Bool.and_eq_true, Bool.and_eq_true, Bool.and_eq_true] at hc
    obtain ⟨⟨⟨h1, h2⟩, h3⟩, h4⟩ := hc
    have h1 := of_decide_eq_true h1
    have h2 := of_decide_eq_true h2
    have h3 := of_decide_eq_true h3
    have h4 := of_decide_eq_true h4
    cases (show x = .str z from Rx)
    cases (show y = .int n from Ry)
    obtain ⟨t, rfl⟩ := rx
    obtain ⟨t2, rfl⟩ := ry
    have fin : ∀ t' k', EP X pins σ Q (.str (repS z n) t') { s with toks := k' } := fun t' k' => ⟨.str _, H, I.tok k', ⟨t', rfl⟩, k.now S rfl⟩
    refine PySem.P.mul_str (by rw [decide_eq_false (by omega), decide_eq_false (by omega)]; rfl) (fun hn _ => ?_) (fun hn _ => ?_) ?_
    · have hs : sizeLine = 16777216 := sizeLine_eq
      have hnn : ((n.toNat : Nat) : Int) = n := Int.toNat_of_nonneg (by omega)
      have hm : (z.length : Int) * n ≤ 2 ^ 63 - 1 := by
        rw [← hnn, ← Int.natCast_mul]
        omega
      have := Int.le_ediv_of_mul_le (by omega : 0 < n) hm
      omega
    · unfold Builtin.Str.tooLong
      exact decide_eq_false (by omega)
    · unfold repS at fin h4
      by_cases hn : n < 1
      · rw [if_pos hn] at fin h4 ⊢
        exact ⟨h4, fin s.toks (s.toks + 1)⟩
      · rw [if_neg hn] at fin h4 ⊢
        exact post_val_or_str ⟨h4, fin⟩
  · cases e
end
end L2.MP
set_option maxHeartbeats 4000000
namespace L2.MP
open PySem PySem.Spec PyProof.Rows
section
variable {X : Cx} {K : PySem.W.Frag} {H : Hp} {io : List Addr} {st st' : Sto} {a b c e : Expr} {es : List Expr} {ma mb mc m : ME} {mm : MA} {pos : Pos} {pins : List (Addr × Obj)} {σ : L2.St} {s : Shared}
def memP (p : PyData) : PyData → Option Bool
  | .list xs => some (xs.any fun y => PyData.eqv y p)
  | .tuple xs => some (xs.any fun y => PyData.eqv y p)
  | _ => none
def inD (neg : Bool) : G2 := fun x y st => (toP 50 st x).bind fun p => (toP 50 st y).bind fun q => (memP p q).map fun b => (.bl (if neg then !b else b), st)
theorem canLay_list {xs : List PyData} (h : (PyData.list xs).canLay0 = true) : PyData.canLayAll0 xs = true := by simpa only [PyData.canLay0] using h
theorem canLay_tuple {xs : List PyData} (h : (PyData.tuple xs).canLay0 = true) : PyData.canLayAll0 xs = true := by simpa only [PyData.canLay0] using h
theorem op_inM (hu : X.A.units + 100 < cLine) : OpM X (compareOp .In) (inD false) := by
  intro pins s σ H x y v u Q I rx ry ⟨dx, dy, st, io, d, st', Rx, Ry, S, e, k⟩
  obtain ⟨p, e1, e⟩ := ob_bind e
  obtain ⟨q, e2, e⟩ := ob_bind e
  obtain ⟨r, e3, e⟩ := map_some' e
  cases e
  obtain ⟨as, ra⟩ := reads_of I S Rx rx e1
  obtain ⟨bs, rb⟩ := reads_of I S Ry ry e2
  have h1 := toP_ok e1
  have h2 := toP_ok e2
  have hb : ∀ n, X.A.units + 1 + min n p.depth < cLine := fun n => by have := Nat.min_le_right n p.depth; omega
  cases q with
  | list xs => cases e3; exact PySem.SeqAt.in_list_reads rb ra (canLay_list h2.1) h1.1 (hb _) ⟨.bl _, H, I, rfl, k.now S rfl⟩
  | tuple xs => cases e3; exact PySem.SeqAt.in_tuple_reads rb ra (canLay_tuple h2.1) h1.1 (hb _) ⟨.bl _, H, I, rfl, k.now S rfl⟩
  | _ => cases e3
theorem op_notInM (hu : X.A.units + 100 < cLine) : OpM X (compareOp .NotIn) (inD true) := by
  intro pins s σ H x y v u Q I rx ry ⟨dx, dy, st, io, d, st', Rx, Ry, S, e, k⟩
  obtain ⟨p, e1, e⟩ := ob_bind e
  obtain ⟨q, e2, e⟩ := ob_bind e
  obtain ⟨r, e3, e⟩ := map_some' e
  cases e
  obtain ⟨as, ra⟩ := reads_of I S Rx rx e1
  obtain ⟨bs, rb⟩ := reads_of I S Ry ry e2
  have h1 := toP_ok e1
  have h2 := toP_ok e2
  have hb : ∀ n, X.A.units + 1 + min n p.depth < cLine := fun n => by have := Nat.min_le_right n p.depth; omega
  cases q with
  | list xs => cases e3; exact PySem.SeqAt.notIn_list_reads rb ra (canLay_list h2.1) h1.1 (hb _) ⟨.bl _, H, I, rfl, k.now S rfl⟩
  | tuple xs => cases e3; exact PySem.SeqAt.notIn_tuple_reads rb ra (canLay_tuple h2.1) h1.1 (hb _) ⟨.bl _, H, I, rfl, k.now S rfl⟩
  | _ => cases e3
def inSD : G2
  | .str i, .str j, st => some (.bl (!(Builtin.Str.occurrences j i 0 j.length 1).isEmpty), st)
  | _, _, _ => none
theorem op_inSM : OpM X (compareOp .In) inSD := by
  intro pins s σ H x y v u Q I rx ry ⟨dx, dy, st, io, d, st', Rx, Ry, S, e, k⟩
  unfold inSD at e
  split at e
  · rename_i i j
    cases e; exact op_in_str pins s σ H x y v u Q I rx ry ⟨i, j, Rx, Ry, k.now S rfl⟩
  · cases e
def blsOf : List D → Option (List Bool)
  | [] => some []
  | .bl x :: r => (blsOf r).map fun xs => x :: xs
  | _ => none
theorem blsOf_cons {d : D} {r : List D} {ss : List Bool} (h : blsOf (d :: r) = some ss) : ∃ x xs, d = .bl x ∧ blsOf r = some xs ∧ ss = x :: xs := by
  cases d with
  | bl x =>
    obtain ⟨xs, e, h⟩ := map_some' h
    exact ⟨x, xs, rfl, e, h.symm⟩
  | _ => cases h
theorem bls_are : ∀ {xs : List V} {us : List Value} {ds : List D} {ss : List Bool}, Reps K H io xs ds → Vals xs us → blsOf ds = some ss → us = ss.map Value.bool
  | _, _, [], ss, h, r, e => by
    cases (show _ = [] from h); cases r; cases e; rfl
  | _, _, d :: ds, ss, h, r, e => by
    obtain ⟨y, ys, rfl, h1, h2⟩ := h
    obtain ⟨x, rest, rfl, e2, rfl⟩ := blsOf_cons e
    cases r with
    | cons r1 r2 =>
      cases (show y = .bl x from h1)
      cases r1
      rw [bls_are h2 r2 e2]; rfl
def allC : GN
  | [.ref n], st => (lstAt st n).bind fun ds => (blsOf ds).map fun bs => (.bl (bs.all id), st)
  | _, _ => none
theorem range_all (bs : List Bool) : ((List.range bs.length).all fun i => bs.getD i false) = bs.all id := by
  rw [Bool.eq_iff_iff, List.all_eq_true, List.all_eq_true]
  constructor
  · intro h b hb
    obtain ⟨i, hi, e⟩ := List.getElem_of_mem hb
    have := h i (List.mem_range.mpr hi)
    rw [List.getD_eq_getElem?_getD, List.getElem?_eq_getElem hi, e] at this
    exact this
  · intro h i hi
    have hi := List.mem_range.mp hi
    rw [List.getD_eq_getElem?_getD, List.getElem?_eq_getElem hi]
    exact h _ (List.getElem_mem hi)
theorem call_allM (hc : X.calm = true) : CallM X (.builtin "all") allC := by
  intro pins s σ H xs us Q I r ⟨ds, st, io, d, st', R, S, e, k⟩
  unfold allC at e
  split at e
  · rename_i n
    obtain ⟨ts, e0, e⟩ := ob_bind e
    obtain ⟨bs, e1, e⟩ := map_some' e
    cases e
    obtain ⟨v, rfl, p, rfl, hp⟩ := R.one
    obtain ⟨u, rfl, ru⟩ := r.one
    cases ru
    obtain ⟨ys, hx, r1⟩ := lstAt_sq S hp e0
    obtain ⟨its, rv, pl, hz⟩ := I.list hx
    have hb := bls_are r1 rv e1
    subst hb
    refine call_all_walk (wpAny_pyIter_list pl.isList ?_)
    have hlt : p < s.heap.objs.size := by
      obtain ⟨o, _, e, _⟩ := pl
      exact Heap.lt_size e
    refine ⟨_, _, _, _, _, _, fun i => bs.getD i false, rfl, Walks.list (A := X.A.in1) (I.ok.hd hc) s.heap.objs.size p (Nat.ne_of_lt hlt) (bs.map Value.bool).toArray, ⟨⟨_, Heap.get?_push_size _ rfl, rfl, rfl⟩, ?_⟩, ?_, fun h' tk hk => ?_⟩
    · obtain ⟨o, nn, e, c, dd, sq⟩ := pl
      exact ⟨o, Heap.get?_push_of_some _ e, c, nn, sq⟩
    · intro i v s' Q' E' hv hq
      have hv : ((bs.map Value.bool).toArray)[i]? = some v := hv
      rw [List.getElem?_toArray, List.getElem?_map] at hv
      cases ei : bs[i]? with
      | none => rw [ei] at hv; cases hv
      | some bb =>
        rw [ei] at hv
        cases hv
        refine wpAny_truthy_bool ?_
        have hg : bs.getD i false = bb := by rw [List.getD_eq_getElem?_getD, ei]; rfl
        have hq : Q' (bs.getD i false) s' := hq
        rw [hg] at hq
        exact hq
    · refine ⟨.bl _, H, I.kept (t' := tk) fun b o q => hk b o ?_ (Heap.get?_push_of_some _ q), rfl, ?_⟩
      · simp
        exact Nat.ne_of_lt (Heap.lt_size q)
      · have : ((List.range (bs.map Value.bool).toArray.size).all fun i => bs.getD i false) = bs.all id := by simpa using range_all bs
        rw [this]
        exact k.now S rfl
  · cases e
end
end L2.MP
set_option maxHeartbeats 4000000
namespace Srt
open PySem PySem.W PyProof.Rows
def Hd (n : Nat) (r : Nat → Int) {α : Type} : KasT α → (α → Prop) → Prop
  | .ret a, Q => Q a
  | .ask i j k, Q => (i < n ∧ j < n) ∧ Hd n r (k (decide (r i < r j))) Q
section
variable {n : Nat} {r : Nat → Int} {α β : Type}
theorem Hd.bind {f : α → KasT β} {Q : β → Prop} : ∀ {t : KasT α}, Hd n r t (fun a => Hd n r (f a) Q) → Hd n r (t.bind f) Q
  | .ret _, h => h
  | .ask i j k, h => ⟨h.1, Hd.bind (t := k _) h.2⟩
theorem Hd.mono {P Q : α → Prop} (k : ∀ a, P a → Q a) : ∀ {t : KasT α}, Hd n r t P → Hd n r t Q
  | .ret a, h => k a h
  | .ask i j f, h => ⟨h.1, Hd.mono k (t := f _) h.2⟩
end
end Srt
set_option maxHeartbeats 4000000
namespace L2.MP
open PySem PySem.Spec PyProof.Rows
def tle (a b : List Int) : Bool := !HT.lexLt b a
end L2.MP
set_option maxHeartbeats 4000000
namespace L2.MP
open PySem PySem.Spec PyProof.Rows
end L2.MP
set_option maxHeartbeats 4000000
namespace L2.MP
open PySem PySem.Spec PyProof.Rows
end L2.MP
set_option maxHeartbeats 4000000
namespace L2.MP
open PySem PySem.Spec PyProof.Rows
end L2.MP
set_option maxHeartbeats 4000000
namespace L2.MP
open PySem PySem.Spec PyProof.Rows
end L2.MP
set_option maxHeartbeats 4000000
namespace L2.MP
open PySem PySem.Spec PyProof.Rows
end L2.MP
set_option maxHeartbeats 4000000
namespace L2.MP
open PySem PySem.Spec PyProof.Rows
section
variable {X : Cx} {K : PySem.W.Frag} {H : Hp} {io : List Addr} {st st' : Sto} {a b c e : Expr} {es : List Expr} {ma mb mc m : ME} {mm : MA} {pos : Pos} {pins : List (Addr × Obj)} {σ : L2.St} {s : Shared}
def orO {α : Type} : Option α → Option α → Option α
  | some x, _ => some x
  | none, y => y
theorem orO_some {α : Type} {x y : Option α} {z : α} (h : orO x y = some z) : x = some z ∨ y = some z := by
  cases x with
  | none => exact .inr h
  | some w => exact .inl h
def orG (g h : G2) : G2 := fun x y st => orO (g x y st) (h x y st)
def orN (g h : GN) : GN := fun xs st => orO (g xs st) (h xs st)
theorem op_orM {f : Value → Value → Sem Value} {g h : G2} (p : OpM X f g) (q : OpM X f h) : OpM X f (orG g h) := by
  intro pins s σ H x y v u Q I rx ry ⟨dx, dy, st, io, d, st', Rx, Ry, S, e, k⟩
  rcases orO_some e with e | e
  · exact p pins s σ H x y v u Q I rx ry ⟨dx, dy, st, io, d, st', Rx, Ry, S, e, k⟩
  · exact q pins s σ H x y v u Q I rx ry ⟨dx, dy, st, io, d, st', Rx, Ry, S, e, k⟩
theorem call_orM {f : Value} {g h : GN} (p : CallM X f g) (q : CallM X f h) : CallM X f (orN g h) := by
  intro pins s σ H xs us Q I r ⟨ds, st, io, d, st', R, S, e, k⟩
  rcases orO_some e with e | e
  · exact p pins s σ H xs us Q I r ⟨ds, st, io, d, st', R, S, e, k⟩
  · exact q pins s σ H xs us Q I r ⟨ds, st, io, d, st', R, S, e, k⟩
theorem mBin_eq {g : G2} {ρ : Rho} {x y : D} {s0 s1 s2 : Sto} {r : D × Sto} (h1 : ma ρ s0 = some (x, s1)) (h2 : mb ρ s1 = some (y, s2)) (h3 : g x y s2 = some r) : mBin g ma mb ρ s0 = some r := by
  unfold mBin
  rw [h1]
  show Option.bind (mb ρ s1) _ = _
  rw [h2]
  exact h3
theorem se_orB {g h : G2} (p : SE X e (mBin g ma mb)) (q : SE X e (mBin h ma mb)) : SE X e (mBin (orG g h) ma mb) := by
  intro pins s σ H Q I ⟨ρ, st, io, d, st', E, S, e, k⟩
  obtain ⟨⟨x, s1⟩, e1, e⟩ := ob_bind e
  obtain ⟨⟨y, s2⟩, e2, e⟩ := ob_bind e
  rcases orO_some e with e | e
  · exact p pins s σ H Q I ⟨ρ, st, io, d, st', E, S, mBin_eq e1 e2 e, k⟩
  · exact q pins s σ H Q I ⟨ρ, st, io, d, st', E, S, mBin_eq e1 e2 e, k⟩
theorem sb_orB {g h : G2} (p : SB X e (mTst (mBin g ma mb))) (q : SB X e (mTst (mBin h ma mb))) : SB X e (mTst (mBin (orG g h) ma mb)) := by
  intro pins s σ H Q I ⟨ρ, st, io, d, st', E, S, e, k⟩
  have e := tst_of e
  obtain ⟨⟨x, s1⟩, e1, e⟩ := ob_bind e
  obtain ⟨⟨y, s2⟩, e2, e⟩ := ob_bind e
  rcases orO_some e with e | e
  · exact p pins s σ H Q I ⟨ρ, st, io, d, st', E, S, by unfold mTst; rw [mBin_eq e1 e2 e]; rfl, k⟩
  · exact q pins s σ H Q I ⟨ρ, st, io, d, st', E, S, by unfold mTst; rw [mBin_eq e1 e2 e]; rfl, k⟩
def dgetD : G2 := fun d k st => match d with
  | .ref n => (look st n k).bind fun r => r.map fun v => (v, st)
  | _ => none
def ixA : G2 := orG idxD dgetD
theorem se_ixA (hu : X.A.units + 1 < cLine) (ha : SE X a ma) (hb : SE X b mb) (hs : PlainIx b := by intro _ _; rfl) (hs' : NoSl b := by intro _ _; rfl) : SE X (.Subscript a b pos) (mBin ixA ma mb) :=
  se_orB (se_ix ha hb hs) (show SE X (.Subscript a b pos) (mDGet ma mb) from se_dget hu ha hb hs')
def dinD (neg : Bool) : G2 := fun k d st => match d with
  | .ref n => (look st n k).map fun r => (.bl (if neg then !r.isSome else r.isSome), st)
  | _ => none
def inA : G2 := orG (orG (inD false) inSD) (dinD false)
def notInA : G2 := orG (inD true) (dinD true)
theorem se_inA (hu : X.A.units + 100 < cLine) (ha : SE X a ma) (hb : SE X b mb) (hm : behindInMarks .In b = false := by rfl) : SE X (.Compare a [.In] [b] pos) (mBin inA ma mb) :=
  se_orB (se_cmp (op_orM (op_inM hu) op_inSM) ha hb hm) (show SE X _ (mDIn false ma mb) from se_din (by omega) ha hb hm)
theorem sb_inA (hu : X.A.units + 100 < cLine) (ha : SE X a ma) (hb : SE X b mb) (hm : behindInMarks .In b = false := by rfl) : SB X (.Compare a [.In] [b] pos) (mTst (mBin inA ma mb)) :=
  sb_orB (sb_cmp (op_orM (op_inM hu) op_inSM) ha hb hm) (show SB X _ (mTst (mDIn false ma mb)) from sb_din (by omega) ha hb hm)
theorem se_notInA (hu : X.A.units + 100 < cLine) (ha : SE X a ma) (hb : SE X b mb) (hm : behindInMarks .NotIn b = false := by rfl) : SE X (.Compare a [.NotIn] [b] pos) (mBin notInA ma mb) :=
  se_orB (se_cmp (op_notInM hu) ha hb hm) (show SE X _ (mDIn true ma mb) from se_dnotin (by omega) ha hb hm)
def slA : D → Option Int → Option Int → Sto → Option (D × Sto) := fun x lo hi st => orO (slD x lo hi st) (slS x lo hi st)
def mSlA (m : ME) (l h : MO) : ME := fun ρ st => (m ρ st).bind fun (x, s1) => (l ρ s1).bind fun (lo, s2) => (h ρ s2).bind fun (hi, s3) => slA x lo hi s3
theorem se_sliceA {lo hi : Option Expr} {ml mh : MO} {p2 : Pos} (he : SE X e m) (hl : SO X lo ml) (hu : SO X hi mh) : SE X (.Subscript e (.Slice lo hi none p2) pos) (mSlA m ml mh) := by
  intro pins s σ H Q I ⟨ρ, st, io, d, st', E, S, e0, k⟩
  obtain ⟨⟨x, s1⟩, e1, e0⟩ := ob_bind e0
  obtain ⟨⟨lo', s2⟩, e2, e0⟩ := ob_bind e0
  obtain ⟨⟨hi', s3⟩, e3, e0⟩ := ob_bind e0
  rcases orO_some e0 with e0 | e0
  · exact se_slice he hl hu pins s σ H Q I ⟨ρ, st, io, d, st', E, S, by simp only [mSl, e1, e2, e3, Option.bind_some]; exact e0, k⟩
  · exact se_sliceS he hl hu pins s σ H Q I ⟨ρ, st, io, d, st', E, S, by simp only [mSlS, e1, e2, e3, Option.bind_some]; exact e0, k⟩
def walkD : D → Sto → Option (Wk × Sto)
  | .ref n, s => (lstAt s n).map fun ds => (⟨ds, [(n, ds)]⟩, s)
  | .tup ds, s => some (⟨ds, []⟩, s)
  | _, _ => none
def mW (m : ME) : MI := fun ρ st => (m ρ st).bind fun (d, s) => walkD d s
theorem si_walk {tg l : Expr} (hl : SE X l m) : SI X tg l (mW m) := by
  intro pins s σ H R I ⟨ρ, st, io, W, st', E, S, e0, k⟩
  obtain ⟨⟨d, s1⟩, e1, e0⟩ := ob_bind e0
  cases d with
  | ref n => exact si_list hl pins s σ H R I ⟨ρ, st, io, W, st', E, S, by unfold mWL; rw [e1]; exact e0, k⟩
  | tup ds => exact si_tup hl pins s σ H R I ⟨ρ, st, io, W, st', E, S, by unfold mWT; rw [e1]; exact e0, k⟩
  | _ => cases e0
def setD : G3 := fun o i v st => match o, i with
  | .ref n, .int k => match st[n]? with
    | some (.lst ds) => (ixN ds.length k).map fun j => st.set n (.lst (ds.set j v))
    | _ => none
  | _, _ => none
theorem set_M : SetM X setD := by
  intro pins s σ H o i v ov iv u Q I ro ri rv ⟨d1, d2, d3, st, io, st', R1, R2, R3, S, e, k⟩
  cases d1 with
  | ref n =>
    cases d2 with
    | int j =>
      unfold setD at e
      dsimp only at e
      split at e
      · rename_i ds e0
        obtain ⟨q, e1, e⟩ := map_some' e
        cases e
        obtain ⟨p, rfl, hp⟩ := R1
        obtain ⟨ys, hH, r⟩ := S.ob n p _ hp e0
        refine set_list pins s σ H _ _ v ov iv u Q I ro ri rv ⟨p, ys, j, q, rfl, R2, hH, by rw [r.length]; exact e1, ?_⟩
        obtain ⟨E', S'⟩ := put_in (o := .lst (ys.set q v)) (ob := .lst (ds.set q d3)) S hp e0 (fun o u z => by rw [hH] at z; cases z) fun H' T e' => ⟨_, e', (Reps.mono T r).set q (Rep.mono T R3)⟩
        exact k _ [] E' S'
      · cases e
    | _ => cases e
  | _ => cases d2 <;> cases e
def putA (mo mi mv : ME) : MS := fun ρ st => orO (mAsg mv (gSb setD mo mi) ρ st) (mDPut mo mi mv ρ st)
theorem ss_put {o i value : Expr} {mo mi mv : ME} {pos' : Pos} (hu : X.A.units + 1 < cLine) (ho : SE X o mo) (hi : SE X i mi) (hv : SE X value mv) (hs : swapsWith value (some (.Subscript o i pos')) pos.line X.env = pure false := by rfl)
    (ha : ∀ v, assign (.Subscript o i pos') X.env v = (do
      let ov ← holding [v] (eval o X.env)
      let iv ← holding [v, ov] (eval i X.env)
      standAt pos'
      holding [v, ov, iv] (setItem ov iv v)
      release [v, ov, iv] []) := by intro _; rfl)
    (hs2 : swapsWithSole [.Subscript o i pos'] value pos.line X.env = pure false := by rfl) (hw : swappedStores [.Subscript o i pos'] value X.env = pure none := by rfl)
    (h1 : (assignEach [.Subscript o i pos'] X.env).map (·.2) = [assign (.Subscript o i pos') X.env] := by rfl) : SS X (.Assign [.Subscript o i pos'] value pos) (putA mo mi mv) := by
  intro pins s σ H N I h
  obtain ⟨ρ, st, io, f, st', E, S, e, w⟩ := ts_iff.mp h
  rcases orO_some e with e | e
  · exact ss_asg hv (sg_sub ho hi set_M ha) hs2 hw h1 pins s σ H N I (ts_in E S e w)
  · exact ss_dput hu ho hi hv hs pins s σ H N I (ts_in E S e w)
def mPar (i j : Nat) (mm : MA) : MS := fun ρ st => (mm ρ st).bind fun (xs, s) => match xs with
  | [x, y] => some (.nx ((ρ.set i (some x)).set j (some y)), s)
  | _ => none
theorem ss_par {i j : Nat} {x y : Str} {px py pt : Pos} {kt k2 pt2} (hc : X.calm = true) (hN : X.N.Nodup) (hi : X.N[i]? = some x) (hj : X.N[j]? = some y) (hij : i ≠ j)
    (hx : X.env.scope.names.lookup x = some .local) (hy : X.env.scope.names.lookup y = some .local) (ha : SA X [a, b] mm)
    (hw : swappedStores [.Tuple [.Name x px, .Name y py] kt pt] (.Tuple [a, b] k2 pt2) X.env = pure (some [x, y]) := by rfl)
    (hs : swapsWithSole [.Tuple [.Name x px, .Name y py] kt pt] (.Tuple [a, b] k2 pt2) pos.line X.env = pure false := by rfl) :
    SS X (.Assign [.Tuple [.Name x px, .Name y py] kt pt] (.Tuple [a, b] k2 pt2) pos) (mPar i j mm) := PS.imp (ps_par hc hN hi hj hij hx hy ha hw hs) fun N σ H h => by
  obtain ⟨ρ, st, io, f, st', E, S, e, w⟩ := ts_iff.mp h
  obtain ⟨⟨xs, s1⟩, e1, e⟩ := ob_bind e
  match xs, e, e1 with
  | [u, v], e, e1 =>
    cases e
    refine ⟨ρ, st, io, _, _, E, S, e1, fun vs H1 k1 X1 S1 R1 => ?_⟩
    obtain ⟨p, q, rfl, r1, r2⟩ := R1.two
    exact ⟨p, q, rfl, w _ H1 k1 X1 S1 (((E.ext S X1).set i r1).set j r2)⟩
def DefOk (P : Program) (w : World) (K : PySem.W.Frag) (mg : Str → Option Value) (base : Heap) (k : Nat) (x : Str) (n : Nat) (g : GN) : Prop :=
  ∃ f fd ps, FnOk P w K mg base CX0 k f fd ps (spM K n g) ∧ mg x = some (.ref f) ∧ PySem.W.keepIn K (.ref f) = true ∧ Binds K fd ps []
theorem DefOk.mono {P : Program} {w : World} {mg : Str → Option Value} {base : Heap} {j k : Nat} {x : Str} {n : Nat} {g : GN} (h : DefOk P w K mg base j x n g) (hjk : j ≤ k) : DefOk P w K mg base k x n g := by
  obtain ⟨f, fd, ps, F, r⟩ := h
  exact ⟨f, fd, ps, F.mono hjk, r⟩
def lenOk (n : Nat) (mm : MA) : Prop := ∀ ρ st xs s, mm ρ st = some (xs, s) → xs.length = n
theorem lenOk.nil : lenOk 0 mNil := fun _ _ _ _ h => mNil_len h
theorem lenOk.cons {n : Nat} (h : lenOk n mm) : lenOk (n + 1) (mCons m mm) := fun _ _ _ _ q => mCons_len h q
theorem se_callD {x : Str} {p : Pos} {k n : Nat} {g : GN} (F : DefOk X.prog X.w X.K X.mg X.base k x n g) (hr : Room k X.A) (hg : Gl X x) (ha : SA X (e :: es) mm) (hl : lenOk n mm) (hdb : (x == ("__debug__" : Str)) = false := by decide)
    (he : starEach (e :: es) X.env = (false, eval e X.env) :: starEach es X.env := by rfl) (hpl : (backTo pos (starEach es X.env)).any (·.1) = false := by rfl) (hn : (e :: es).length = n := by rfl) :
    SE X (.Call (.Name x p) (e :: es) [] pos) (mCall g mm) := by
  obtain ⟨f, fd, ps, F, hm, hk, hb⟩ := F
  exact se_call F hr hg hm hk hb ha hdb he hpl hn hl
def Laid (K : PySem.W.Frag) (mg : Str → Option Value) (x : Str) (st : Stmt) (ps : List Str) : Prop := ∃ f fd, Fun K x x st f fd ∧ mg x = some (.ref f) ∧ Binds K fd ps []
theorem def_ok {P : Program} {w : World} {mg : Str → Option Value} {base : Heap} {x : Str} {st : Stmt} {N ps : List Str} {k : Nat} {m : MS} (L : Laid K mg x st ps) (S : FnScope N ps (defScope st))
    (hbody : ∀ (f : Addr) (cdv : Value) (A : Around) (outer : List Env) (s : Shared) (H : Hp) (E : XK), Room k (A.deeper (envOfC x (defScope st) s.heap.objs.size f cdv)) →
      SSs (cxOf CX0 P w K mg base N x (defScope st) f cdv A outer s H E).nox (defBody st) m) : DefOk P w K mg base (k + 1) x ps.length (fnM N.length m) := by
  obtain ⟨f, fd, F, hm, hb⟩ := L
  exact ⟨f, fd, ps, fn_m F S (hbody f), hm, F.kp, hb⟩
def noG : GN := fun _ _ => none
def recG (n : Nat) (G : GN → MS) : Nat → GN
  | 0 => noG
  | k + 1 => fnM n (G (recG n G k))
theorem def_rec {P : Program} {w : World} {mg : Str → Option Value} {base : Heap} {x : Str} {st : Stmt} {N ps : List Str} {j : Nat} {G : GN → MS} (L : Laid K mg x st ps) (S : FnScope N ps (defScope st))
    (hbody : ∀ (i : Nat) (g : GN), DefOk P w K mg base (j + i) x ps.length g → ∀ (f : Addr) (cdv : Value) (A : Around) (outer : List Env) (s : Shared) (H : Hp) (E : XK), Room (j + i) (A.deeper (envOfC x (defScope st) s.heap.objs.size f cdv)) →
      SSs (cxOf CX0 P w K mg base N x (defScope st) f cdv A outer s H E).nox (defBody st) (G g)) : ∀ i, DefOk P w K mg base (j + i) x ps.length (recG N.length G i)
  | 0 => by
    obtain ⟨f, fd, F, hm, hb⟩ := L
    refine ⟨f, fd, ps, ⟨fun vs H Q E h => ?_, fun A outer s H args us vs Q E hr he hb hv h => ?_⟩, hm, F.kp, hb⟩
    · obtain ⟨_, _, _, _, _, h, _⟩ := h; exact h
    · obtain ⟨_, _, _, _, _, _, _, _, h, _⟩ := h; cases h
  | i + 1 => def_ok L S fun f cdv A outer s H E hr => hbody i _ (def_rec L S hbody i) f cdv A outer s H E hr
end
end L2.MP
set_option maxHeartbeats 4000000
namespace L2.MP
open PySem PySem.Spec PyProof.Rows
end L2.MP
set_option maxHeartbeats 4000000
namespace L2.MP
open PySem PySem.Spec PyProof.Rows
end L2.MP
set_option maxHeartbeats 4000000
namespace L2.MP
open PySem PySem.Spec PyProof.Rows
section
variable {X : Cx} {K : PySem.W.Frag} {H : Hp} {io : List Addr} {m : ME} {st st' : Sto}
def keyD : Key → D
  | .inl i => .int i
  | .inr x => .str x
def itemsD (kvs : List (List Key × D)) : List D := kvs.map fun p => .tup [.tup (p.1.map keyD), p.2]
def walkI : D → Sto → Option (Wk × Sto)
  | .ref n, s => match s[n]? with
    | some (.dt kvs) => some (⟨itemsD kvs, []⟩, s.set n (.ft kvs))
    | _ => none
  | _, _ => none
def mItems (m : ME) : MI := fun ρ st => (m ρ st).bind fun (d, s) => walkI d s
end
end L2.MP
set_option maxHeartbeats 4000000
namespace L2.MP
open PySem PySem.Spec PyProof.Rows
inductive Sr where
  | l (a : Addr) | t (a : Addr)
def Sr.ad : Sr → Addr
  | .l a => a
  | .t a => a
def Sr.ob : Sr → Obj
  | .l a => { cls := .type "list_iterator", data := .fields #[.ref a, .int 0 0] }
  | .t a => { cls := .type "tuple_iterator", data := .fields #[.ref a, .int 0 0] }
def Sr.is (h : Heap) (xs : Array Value) : Sr → Prop
  | .l a => h.IsList a xs
  | .t a => IsTup h a xs
def Sr.at_ (h : Heap) (i : Addr) (k : Nat) : Sr → Prop
  | .l a => h.IsListIter i a k
  | .t a => IsTupIter h i a k
theorem Sr.is_keep {h h' : Heap} {xs : Array Value} {x : Sr} (q : x.is h xs) (k : ∀ u, h.get? x.ad = some u → h'.get? x.ad = some u) : x.is h' xs := by
  cases x with
  | l a => exact Heap.IsList.at q k
  | t a => obtain ⟨o, g, c⟩ := q; exact ⟨o, k o g, c⟩
theorem Sr.at_keep {h h' : Heap} {i : Addr} {n : Nat} {x : Sr} (q : x.at_ h i n) (k : ∀ u, h.get? i = some u → h'.get? i = some u) : x.at_ h' i n := by
  cases x with
  | l a => exact Heap.IsListIter.at q k
  | t a => obtain ⟨o, g, c⟩ := q; exact ⟨o, k o g, c⟩
theorem Sr.at_get {h : Heap} {i : Addr} {n : Nat} {x : Sr} (q : x.at_ h i n) : ∃ o vs, h.get? i = some o ∧ o.data = .fields vs := by
  cases x with
  | l a => obtain ⟨o, g, c, d⟩ := q; exact ⟨o, _, g, d⟩
  | t a => obtain ⟨o, g, c, d⟩ := q; exact ⟨o, _, g, d⟩
section
variable {prog : Program} {w : World} {A : Around} {E : Value → Shared → Prop} {s : Shared}
theorem Sr.iter {x : Sr} {xs : Array Value} {R : Value → Shared → Prop} (h : x.is s.heap xs) (k : R (.ref s.heap.objs.size) { s with heap := s.heap.push x.ob }) : wpAny (model prog w) A (pyIter (.ref x.ad)) R E s := by
  cases x with
  | l a => exact wpAny_pyIter_list h k
  | t a => exact iter_tuple h k
theorem nextOf_tup {it a : Addr} {i : Nat} {xs : Array Value} {v : Value} {R : Value → Shared → Prop} (hit : IsTupIter s.heap it a i) (ht : IsTup s.heap a xs) (hx : xs[i]? = some v)
    (k : ∀ h', IsTupIter h' it a (i + 1) → Heap.SameBut it s.heap h' → R v { s with heap := h' }) : wpAny (model prog w) A (Builtin.SmallTypes.nextOf (.ref it)) R E s := by
  obtain ⟨ro, rg, rc, rd⟩ := id hit
  obtain ⟨to, tg, _, tn, td⟩ := ht
  unfold Builtin.SmallTypes.nextOf
  refine wpAny_bind (wpAny_callSpecial?_slot (name := Str.ofString "__next__") hit.typeIs slot_tupleiter_next (wpAny_call_entry slot_tupleiter_next hit.typeIs entry_tupleiter_next ?_ (args_tupleiter_next _)))
  show wpAny _ _ (field (.ref it) 0 >>= _) _ _ s
  refine wpAny_bind (wpAny_field rg rd (x := .ref a) rfl ?_)
  show wpAny _ _ (if (Value.ref a == Value.none) = true then _ else _) _ _ s
  rw [if_neg (show ¬ (Value.ref a == Value.none) = true from fun z => Bool.false_ne_true z)]
  show wpAny _ _ (field (.ref it) 1 >>= _) _ _ s
  refine wpAny_bind (wpAny_field rg rd (x := .int i 0) rfl ?_)
  show wpAny _ _ (seqItems? (.ref a) >>= _) _ _ s
  refine wpAny_bind (wpAny_seqItems tg td ?_)
  simp only [Int.toNat_natCast, hx]
  refine wpAny_bind (wpAny_setField rg rd (by simp) (wpAny_pure ⟨v, rfl, wpAny_pure (k _ ⟨_, Heap.get?_update_self _ rg (Obj.isFreed_of_fields (Obj.data_mapFields rd _)), (Obj.cls_mapFields ..).trans rc, ?_⟩ (Heap.SameBut.update ..))⟩))
  rw [Obj.data_mapFields rd]
  simp [rawInt]
theorem nextOf_tup_end {it a : Addr} {i : Nat} {xs : Array Value} {R : Value → Shared → Prop} (hh : A.handled = none) (hit : IsTupIter s.heap it a i) (ht : IsTup s.heap a xs) (hx : xs[i]? = none)
    (k : ∀ h' e, Heap.ExtBut it s.heap h' → (∃ o, h'.get? e = some o ∧ o.cls = .type "StopIteration") → E (.ref e) { s with heap := h' }) : wpAny (model prog w) A (Builtin.SmallTypes.nextOf (.ref it)) R E s := by
  obtain ⟨ro, rg, rc, rd⟩ := id hit
  obtain ⟨to, tg, _, tn, td⟩ := ht
  unfold Builtin.SmallTypes.nextOf
  refine wpAny_bind (wpAny_callSpecial?_slot (name := Str.ofString "__next__") hit.typeIs slot_tupleiter_next (wpAny_call_entry slot_tupleiter_next hit.typeIs entry_tupleiter_next ?_ (args_tupleiter_next _)))
  show wpAny _ _ (field (.ref it) 0 >>= _) _ _ s
  refine wpAny_bind (wpAny_field rg rd (x := .ref a) rfl ?_)
  show wpAny _ _ (if (Value.ref a == Value.none) = true then _ else _) _ _ s
  rw [if_neg (show ¬ (Value.ref a == Value.none) = true from fun z => Bool.false_ne_true z)]
  show wpAny _ _ (field (.ref it) 1 >>= _) _ _ s
  refine wpAny_bind (wpAny_field rg rd (x := .int i 0) rfl ?_)
  show wpAny _ _ (seqItems? (.ref a) >>= _) _ _ s
  refine wpAny_bind (wpAny_seqItems tg td ?_)
  simp only [Int.toNat_natCast, hx]
  refine wpAny_bind (wpAny_rule (wpAny_bind (wpAny_setField rg rd (by simp) ?_)))
  show wpAny _ _ (newExc (.type "StopIteration") [] >>= _) _ _ _
  simp only [newExc, newTuple]
  refine wpAny_bind (wpAny_bind (wpAny_newObj_type (wpAny_bind (m := firstArgMember _ _) (wpAny_of_eq (a := Value.none) (by first | rfl | (simp only [firstArgMember]; rfl)) (wpAny_newObj_type ?_ (by size_fits)))) (by size_fits)))
  simp only [raiseNew]
  refine wpAny_bind (wpAny_handled ?_)
  first | rw [show A.in1.handled = none from hh] | rw [hh]
  refine wpAny_bind (wpAny_pure (wpAny_throw ?_))
  exact k _ _ (((Heap.SameBut.update ..).extBut.push _).push _) ⟨_, Heap.get?_push_size _ rfl, rfl⟩
theorem Sr.next {x : Sr} {it : Addr} {i : Nat} {xs : Array Value} {v : Value} {R : Value → Shared → Prop} (hit : x.at_ s.heap it i) (h : x.is s.heap xs) (hx : xs[i]? = some v) (k : ∀ h', x.at_ h' it (i + 1) → Heap.SameBut it s.heap h' → R v { s with heap := h' }) :
    wpAny (model prog w) A (Builtin.SmallTypes.nextOf (.ref it)) R E s := by
  cases x with
  | l a => exact wpAny_nextOf_list_item hit h hx k
  | t a => exact nextOf_tup hit h hx k
theorem Sr.stop {x : Sr} {it : Addr} {i : Nat} {xs : Array Value} {R : Value → Shared → Prop} (hh : A.handled = none) (hit : x.at_ s.heap it i) (h : x.is s.heap xs) (hx : xs[i]? = none)
    (k : ∀ h' e, Heap.ExtBut it s.heap h' → (∃ o, h'.get? e = some o ∧ o.cls = .type "StopIteration") → E (.ref e) { s with heap := h' }) : wpAny (model prog w) A (Builtin.SmallTypes.nextOf (.ref it)) R E s := by
  cases x with
  | l a => exact wpAny_nextOf_list_end hh hit h hx k
  | t a => exact nextOf_tup_end hh hit h hx k
end
theorem Sr.at_new {h : Heap} {x : Sr} {i : Addr} (g : h.get? i = some x.ob) : x.at_ h i 0 := by
  cases x with
  | l a => exact ⟨_, g, rfl, rfl⟩
  | t a => exact ⟨_, g, rfl, rfl⟩
abbrev zp1 (h : Heap) (x : Sr) : Heap := h.push x.ob
abbrev zp2 (h : Heap) (x y : Sr) : Heap := (zp1 h x).push y.ob
abbrev zp3 (h : Heap) (x y : Sr) : Heap := (zp2 h x y).push { cls := .type "tuple", data := .seq #[.ref h.objs.size, .ref (zp1 h x).objs.size] }
abbrev zp4 (h : Heap) (x y : Sr) : Heap := (zp3 h x y).push { cls := .type "tuple", data := .seq #[.none, .none] }
abbrev zp5 (h : Heap) (x y : Sr) : Heap := (zp4 h x y).push { cls := .type "zip", data := .fields #[.none, .bool false, .bool false, .ref (zp2 h x y).objs.size, .ref (zp3 h x y).objs.size] }
theorem zip_meets (x y : Sr) (xs ys : Array Value) : Meets (Builtin.«zip.__new__» ⟨[.type "zip", .ref x.ad, .ref y.ad], []⟩) (fun _ R s => x.is s.heap xs ∧ y.is s.heap ys ∧ R (.ok (.ret (.ref (zp4 s.heap x y).objs.size))) { s with heap := zp5 s.heap x y }) :=
  .of_wp fun prog w A R s h => by
    obtain ⟨hp, g, d, tk, os⟩ := s
    obtain ⟨h1, h2, h⟩ := h
    have hsub := sub_zip
    have hx : x.is (Shared.heap ⟨hp, g, d, tk, os⟩) xs := h1
    have hy : y.is (Shared.heap ⟨hp.push x.ob, g, d, tk, os⟩) ys := Sr.is_keep h2 fun u q => Heap.get?_push_of_some _ q
    wp_walk using Sr.iter hx, Sr.iter hy
    exact ⟨_, rfl, h⟩
end L2.MP
set_option maxHeartbeats 4000000
namespace L2.MP
open PySem PySem.Spec PyProof.Rows
structure Zp (z TI TO i j : Addr) : Prop where
  TIz : TI ≠ z
  TOz : TO ≠ z
  iz : i ≠ z
  jz : j ≠ z
  TIO : TI ≠ TO
  TIi : TI ≠ i
  TIj : TI ≠ j
  TOi : TO ≠ i
  TOj : TO ≠ j
  ij : i ≠ j
theorem neq {a b : Nat} (h : a ≠ b) : (show Addr from a) ≠ (show Addr from b) := h
theorem Zp.new (n : Nat) : Zp (n + 4) (n + 2) (n + 3) n (n + 1) := ⟨neq (by omega), neq (by omega), neq (by omega), neq (by omega), neq (by omega), neq (by omega), neq (by omega), neq (by omega), neq (by omega), neq (by omega)⟩
section
variable {prog : Program} {w : World} {A : Around} {E : Value → Shared → Prop} {s : Shared}
theorem call_zipS {x y : Sr} {xs ys : Array Value} {R : Value → Shared → Prop} (hx : x.is s.heap xs) (hy : y.is s.heap ys)
    (k : ∀ h', IsZip h' (s.heap.objs.size + 4) (s.heap.objs.size + 2) (s.heap.objs.size + 3) .none → IsPair h' (s.heap.objs.size + 2) (.ref s.heap.objs.size) (.ref (s.heap.objs.size + 1)) → IsPair h' (s.heap.objs.size + 3) .none .none →
      x.at_ h' s.heap.objs.size 0 → y.at_ h' (s.heap.objs.size + 1) 0 → (∀ c u, s.heap.get? c = some u → h'.get? c = some u) → R (.ref (s.heap.objs.size + 4)) { s with heap := h' }) : wpAny (model prog w) A (call (.type "zip") [.ref x.ad, .ref y.ad]) R E s := by
  refine callType_new F.called_zip (by decide) (F.typeCall_zip_2 _ _) (F.newCall_zip_2 _ _) (fun obj => F.args_object_init_3 obj _ _) F.entry_zip_new (zip_meets x y xs ys) ⟨hx, hy, ?_⟩
  have e1 : (zp1 s.heap x).objs.size = s.heap.objs.size + 1 := Heap.size_push ..
  have e2 : (zp2 s.heap x y).objs.size = s.heap.objs.size + 2 := (Heap.size_push ..).trans (by rw [e1])
  have e3 : (zp3 s.heap x y).objs.size = s.heap.objs.size + 3 := (Heap.size_push ..).trans (by rw [e2])
  have e4 : (zp4 s.heap x y).objs.size = s.heap.objs.size + 4 := (Heap.size_push ..).trans (by rw [e3])
  have up : ∀ c u, (zp1 s.heap x).get? c = some u → (zp5 s.heap x y).get? c = some u := fun c u q => Heap.get?_push_of_some _ (Heap.get?_push_of_some _ (Heap.get?_push_of_some _ (Heap.get?_push_of_some _ q)))
  have f5 : (zp5 s.heap x y).get? (zp4 s.heap x y).objs.size = some { cls := .type "zip", data := .fields #[.none, .bool false, .bool false, .ref (zp2 s.heap x y).objs.size, .ref (zp3 s.heap x y).objs.size] } := Heap.get?_push_size _ rfl
  have f4 : (zp5 s.heap x y).get? (zp3 s.heap x y).objs.size = some { cls := .type "tuple", data := .seq #[.none, .none] } := Heap.get?_push_of_some _ (Heap.get?_push_size _ rfl)
  have f3 : (zp5 s.heap x y).get? (zp2 s.heap x y).objs.size = some { cls := .type "tuple", data := .seq #[.ref s.heap.objs.size, .ref (zp1 s.heap x).objs.size] } := Heap.get?_push_of_some _ (Heap.get?_push_of_some _ (Heap.get?_push_size _ rfl))
  have f2 : (zp5 s.heap x y).get? (zp1 s.heap x).objs.size = some y.ob := Heap.get?_push_of_some _ (Heap.get?_push_of_some _ (Heap.get?_push_of_some _ (Heap.get?_push_size _ (by cases y <;> rfl))))
  have f1 : (zp5 s.heap x y).get? s.heap.objs.size = some x.ob := up _ _ (Heap.get?_push_size _ (by cases x <;> rfl))
  rw [e2, e3, e4] at f5
  rw [e1, e2] at f3
  rw [e3] at f4
  rw [e1] at f2
  show _ ∧ _
  rw [e4]
  exact ⟨⟨_, f5, rfl⟩, k _ f5 f3 f4 (Sr.at_new f1) (Sr.at_new f2) fun c u q => up c u (Heap.get?_push_of_some _ q)⟩
theorem zip_step {z TI TO i j : Addr} {x y : Sr} {n m : Nat} {xs ys : Array Value} {u v a b : Value} {R : Option Value → Shared → Prop} (D : Zp z TI TO i j) (xz : x.ad ≠ z ∧ x.ad ≠ TO ∧ x.ad ≠ i ∧ x.ad ≠ j) (yz : y.ad ≠ z ∧ y.ad ≠ TO ∧ y.ad ≠ i ∧ y.ad ≠ j)
    (hz : IsZip s.heap z TI TO .none) (hTI : IsPair s.heap TI (.ref i) (.ref j)) (hTO : IsPair s.heap TO a b) (hi : x.at_ s.heap i n) (hj : y.at_ s.heap j m) (hx : x.is s.heap xs) (hy : y.is s.heap ys) (gx : xs[n]? = some u) (gy : ys[m]? = some v)
    (k : ∀ h', IsZip h' z TI TO (rawInt s.heap.objs.size) → IsPair h' TI (.ref i) (.ref j) → IsPair h' TO u v → x.at_ h' i (n + 1) → y.at_ h' j (m + 1) → IsPair h' s.heap.objs.size u v →
      (∀ c o, c ≠ z → c ≠ TO → c ≠ i → c ≠ j → s.heap.get? c = some o → h'.get? c = some o) → R (some (.ref s.heap.objs.size)) { s with heap := h' }) : wpAny (model prog w) A (pyNext (.ref z)) R E s := by
  have ty : s.TypeIs (.ref z) "zip" := ⟨_, hz, rfl⟩
  unfold pyNext
  refine wpAny_bind (wpAny_attempt (wpAny_callSpecial?_slot (name := Str.ofString "__next__") ty F.slot_zip_next (wpAny_call_entry F.slot_zip_next ty F.entry_zip_next ?_ (F.args_zip_next_1 _))))
  show wpAny _ _ (field (.ref z) 2 >>= _) _ _ _
  refine wpAny_bind (wpAny_field hz rfl (x := .bool false) rfl ?_)
  show wpAny _ _ (field (.ref z) 3 >>= _) _ _ _
  refine wpAny_bind (wpAny_field hz rfl (x := .ref TI) rfl (wpAny_bind (wpAny_seqItems hTI rfl ?_)))
  show wpAny _ _ (Builtin.SmallTypes.ownedTupleIsFree (.ref z) >>= _) _ _ _
  unfold Builtin.SmallTypes.ownedTupleIsFree
  refine wpAny_bind (wpAny_bind (wpAny_field hz rfl (x := .none) rfl (wpAny_pure ?_)))
  simp only [if_true]
  refine wpAny_bind (wpAny_rule (wpAny_bind (wpAny_field hz rfl (x := .ref TO) rfl (wpAny_bind (wpAny_setField_rec hz (by simp) fun g1 z1 s1 => ?_)))))
  replace z1 : IsZip g1 z TI TO .ellipsis := z1
  have k1 : ∀ c o, c ≠ z → s.heap.get? c = some o → g1.get? c = some o := fun c o nc q => s1.extBut c o nc q
  simp only [List.zipIdx_cons, List.zipIdx_nil, List.forIn_cons, List.forIn_nil]
  refine wpAny_bind (wpAny_bind (wpAny_bind (wpAny_onRaise ?_)))
  show wpAny _ _ (Builtin.SmallTypes.nextOf (.ref i) >>= _) _ _ _
  refine wpAny_bind (Sr.next (Sr.at_keep hi fun o q => k1 _ o D.iz q) (Sr.is_keep hx fun o q => k1 _ o xz.1 q) gx fun g2 i2 s2 => wpAny_pure ?_)
  have k2 : ∀ c o, c ≠ z → c ≠ i → s.heap.get? c = some o → g2.get? c = some o := fun c o nc ni q => s2.extBut c o ni (k1 c o nc q)
  have o2 : IsPair g2 TO a b := k2 _ _ D.TOz D.TOi hTO
  refine wpAny_bind (wpAny_seqItems o2 rfl (wpAny_bind (wpAny_updateSeq_pair o2 fun g3 o3 s3 => (wpAny_bind (wpAny_letGo (wpAny_pure ?_))))))
  replace o3 : IsPair g3 TO u b := o3
  have k3 : ∀ c o, c ≠ z → c ≠ i → c ≠ TO → s.heap.get? c = some o → g3.get? c = some o := fun c o nc ni nt q => s3.extBut c o nt (k2 c o nc ni q)
  refine wpAny_bind (wpAny_bind (wpAny_onRaise ?_))
  show wpAny _ _ (Builtin.SmallTypes.nextOf (.ref j) >>= _) _ _ _
  refine wpAny_bind (Sr.next (Sr.at_keep hj fun o q => k3 _ o D.jz D.ij.symm D.TOj.symm q) (Sr.is_keep hy fun o q => k3 _ o yz.1 yz.2.2.1 yz.2.1 q) gy fun g4 j4 s4 => wpAny_pure ?_)
  have o4 : IsPair g4 TO u b := s4.extBut _ _ D.TOj o3
  refine wpAny_bind (wpAny_seqItems o4 rfl (wpAny_bind (wpAny_updateSeq_pair o4 fun g5 o5 s5 => (wpAny_bind (wpAny_letGo (wpAny_pure (wpAny_pure ?_)))))))
  replace o5 : IsPair g5 TO u v := o5
  refine wpAny_bind (wpAny_seqItems o5 rfl (wpAny_bind (wpAny_newTuple ?_)))
  have sz : g5.objs.size = s.heap.objs.size := by rw [s5.1, s4.1, s3.1, s2.1, s1.1]
  have z5 : IsZip g5 z TI TO .ellipsis := s5.extBut _ _ D.TOz.symm (s4.extBut _ _ D.jz.symm (s3.extBut _ _ D.TOz.symm (s2.extBut _ _ D.iz.symm z1)))
  have k5 : ∀ c o, c ≠ z → c ≠ TO → c ≠ i → c ≠ j → s.heap.get? c = some o → g5.get? c = some o := fun c o c1 c2 c3 c4 q => s5.extBut c o c2 (s4.extBut c o c4 (k3 c o c1 c3 c2 q))
  have i5 : x.at_ g5 i (n + 1) := Sr.at_keep i2 fun o q => s5.extBut _ _ D.TOi.symm (s4.extBut _ _ D.ij (s3.extBut _ _ D.TOi.symm q))
  have j5 : y.at_ g5 j (m + 1) := Sr.at_keep j4 fun o q => s5.extBut _ _ D.TOj.symm q
  have lz : z < g5.objs.size := Heap.lt_size z5
  show wpAny _ _ (Builtin.SmallTypes.ownedTupleHandOut (.ref z) (.ref g5.objs.size) >>= _) _ _ _
  unfold Builtin.SmallTypes.ownedTupleHandOut
  have z6 : IsZip (g5.push { cls := .type "tuple", data := .seq #[u, v] }) z TI TO .ellipsis := Heap.get?_push_of_some _ z5
  refine wpAny_bind (wpAny_bind (wpAny_setField_rec z6 (by simp) fun g7 z7 s7 => ?_))
  replace z7 : IsZip g7 z TI TO (rawInt g5.objs.size) := z7
  refine wpAny_setField_rec z7 (by simp) fun g8 z8 s8 => ?_
  replace z8 : IsZip g8 z TI TO (rawInt g5.objs.size) := z8
  have up : ∀ c o, c ≠ z → g5.get? c = some o → g8.get? c = some o := fun c o nc q => s8.extBut c o nc (s7.extBut c o nc (Heap.get?_push_of_some _ q))
  have t8 : IsPair g8 g5.objs.size u v := s8.extBut _ _ (Nat.ne_of_gt lz) (s7.extBut _ _ (Nat.ne_of_gt lz) (Heap.get?_push_size _ rfl))
  rw [sz] at z8 t8
  refine wpAny_pure ⟨_, rfl, wpAny_pure ?_⟩
  show R (some (.ref g5.objs.size)) _
  rw [sz]
  exact k g8 z8 (up _ _ D.TIz (k5 _ _ D.TIz D.TIO D.TIi D.TIj hTI)) (up _ _ D.TOz o5) (Sr.at_keep i5 fun o q => up _ o D.iz q) (Sr.at_keep j5 fun o q => up _ o D.jz q) t8 fun c o c1 c2 c3 c4 q => up c o c1 (k5 c o c1 c2 c3 c4 q)
theorem zip_end {z TI TO i j : Addr} {x y : Sr} {n m : Nat} {xs ys : Array Value} {a b : Value} {R : Option Value → Shared → Prop} (hh : A.handled = none) (D : Zp z TI TO i j) (xz : x.ad ≠ z ∧ x.ad ≠ TO ∧ x.ad ≠ i ∧ x.ad ≠ j) (yz : y.ad ≠ z ∧ y.ad ≠ TO ∧ y.ad ≠ i ∧ y.ad ≠ j)
    (hz : IsZip s.heap z TI TO .none) (hTI : IsPair s.heap TI (.ref i) (.ref j)) (hTO : IsPair s.heap TO a b) (hi : x.at_ s.heap i n) (hj : y.at_ s.heap j m) (hx : x.is s.heap xs) (hy : y.is s.heap ys) (he : xs[n]? = none ∨ ys[m]? = none)
    (k : ∀ h', (∀ c o, c ≠ z → c ≠ TO → c ≠ i → c ≠ j → s.heap.get? c = some o → h'.get? c = some o) → R none { s with heap := h' }) : wpAny (model prog w) A (pyNext (.ref z)) R E s := by
  have ty : s.TypeIs (.ref z) "zip" := ⟨_, hz, rfl⟩
  have halt : ∀ h' e, (∀ c o, c ≠ z → c ≠ TO → c ≠ i → c ≠ j → s.heap.get? c = some o → h'.get? c = some o) → (∃ o, h'.get? e = some o ∧ o.cls = .type "StopIteration") →
      wpAny (model prog w) A (do if ← isInstance (.ref e) (.type "StopIteration") then pure none else throw (Value.ref e)) R E { s with heap := h' } := fun h' e q ⟨o, g, c⟩ =>
    wpAny_bind (wpAny_isInstance (T := "StopIteration") (b := true) ⟨o, g, c⟩ isSubtype_stop (wpAny_pure (k h' q)))
  unfold pyNext
  refine wpAny_bind (wpAny_attempt (wpAny_callSpecial?_slot (name := Str.ofString "__next__") ty F.slot_zip_next (wpAny_call_entry F.slot_zip_next ty F.entry_zip_next ?_ (F.args_zip_next_1 _))))
  show wpAny _ _ (field (.ref z) 2 >>= _) _ _ _
  refine wpAny_bind (wpAny_field hz rfl (x := .bool false) rfl ?_)
  show wpAny _ _ (field (.ref z) 3 >>= _) _ _ _
  refine wpAny_bind (wpAny_field hz rfl (x := .ref TI) rfl (wpAny_bind (wpAny_seqItems hTI rfl ?_)))
  show wpAny _ _ (Builtin.SmallTypes.ownedTupleIsFree (.ref z) >>= _) _ _ _
  unfold Builtin.SmallTypes.ownedTupleIsFree
  refine wpAny_bind (wpAny_bind (wpAny_field hz rfl (x := .none) rfl (wpAny_pure ?_)))
  simp only [if_true]
  refine wpAny_bind (wpAny_rule (wpAny_bind (wpAny_field hz rfl (x := .ref TO) rfl (wpAny_bind (wpAny_setField_rec hz (by simp) fun g1 z1 s1 => ?_)))))
  replace z1 : IsZip g1 z TI TO .ellipsis := z1
  have k1 : ∀ c o, c ≠ z → s.heap.get? c = some o → g1.get? c = some o := fun c o nc q => s1.extBut c o nc q
  have sep : ∀ {g : Heap} {e : Addr} {o : Obj}, IsZip g z TI TO .ellipsis → g.get? e = some o → o.cls = .type "StopIteration" → e ≠ z := fun {g e o} q h c r => by
    subst r
    rw [q] at h
    cases h
    simp at c
  simp only [List.zipIdx_cons, List.zipIdx_nil, List.forIn_cons, List.forIn_nil]
  refine wpAny_bind (wpAny_bind (wpAny_bind (wpAny_onRaise ?_)))
  show wpAny _ _ (Builtin.SmallTypes.nextOf (.ref i) >>= _) _ _ _
  cases gx : xs[n]? with
  | none =>
    refine wpAny_bind (Sr.stop hh (Sr.at_keep hi fun o q => k1 _ o D.iz q) (Sr.is_keep hx fun o q => k1 _ o xz.1 q) gx fun g2 e s2 ⟨oe, he, ce⟩ => ?_)
    have z2 : IsZip g2 z TI TO .ellipsis := s2 _ _ D.iz.symm z1
    exact wpAny_setField_rec z2 (by simp) fun g3 _ s3 => halt g3 e (fun c o c1 _ c3 _ q => s3.extBut c o c1 (s2 c o c3 (k1 c o c1 q))) ⟨oe, s3.extBut _ _ (sep z2 he ce) he, ce⟩
  | some u =>
    have gy : ys[m]? = none := he.resolve_left (by rw [gx]; simp)
    refine wpAny_bind (Sr.next (Sr.at_keep hi fun o q => k1 _ o D.iz q) (Sr.is_keep hx fun o q => k1 _ o xz.1 q) gx fun g2 i2 s2 => wpAny_pure ?_)
    have k2 : ∀ c o, c ≠ z → c ≠ i → s.heap.get? c = some o → g2.get? c = some o := fun c o nc ni q => s2.extBut c o ni (k1 c o nc q)
    have o2 : IsPair g2 TO a b := k2 _ _ D.TOz D.TOi hTO
    refine wpAny_bind (wpAny_seqItems o2 rfl (wpAny_bind (wpAny_updateSeq_pair o2 fun g3 o3 s3 => (wpAny_bind (wpAny_letGo (wpAny_pure ?_))))))
    have k3 : ∀ c o, c ≠ z → c ≠ i → c ≠ TO → s.heap.get? c = some o → g3.get? c = some o := fun c o nc ni nt q => s3.extBut c o nt (k2 c o nc ni q)
    refine wpAny_bind (wpAny_bind (wpAny_onRaise ?_))
    show wpAny _ _ (Builtin.SmallTypes.nextOf (.ref j) >>= _) _ _ _
    refine wpAny_bind (Sr.stop hh (Sr.at_keep hj fun o q => k3 _ o D.jz D.ij.symm D.TOj.symm q) (Sr.is_keep hy fun o q => k3 _ o yz.1 yz.2.2.1 yz.2.1 q) gy fun g4 e s4 ⟨oe, he, ce⟩ => ?_)
    have z4 : IsZip g4 z TI TO .ellipsis := s4 _ _ D.jz.symm (s3.extBut _ _ D.TOz.symm (s2.extBut _ _ D.iz.symm z1))
    exact wpAny_setField_rec z4 (by simp) fun g5 _ s5 => halt g5 e (fun c o c1 c2 c3 c4 q => s5.extBut c o c1 (s4 c o c4 (k3 c o c1 c3 c2 q))) ⟨oe, s5.extBut _ _ (sep z4 he ce) he, ce⟩
end
def Sr.sq (H : Hp) (xs : List V) : Sr → Prop
  | .l a => H a = some (.lst xs) ∨ ∃ o, H a = some (.frz o (.lst xs))
  | .t a => H a = some (.tup xs)
theorem Sr.sq_ne {H : Hp} {xs : List V} {x : Sr} {b : Addr} (h : x.sq H xs) (hb : H b = none) : x.ad ≠ b := by
  cases x with
  | l a => rcases h with h | ⟨o, h⟩ <;> exact ne_of_none h hb
  | t a => exact ne_of_none (show H a = some (.tup xs) from h) hb
theorem Sr.sq_inj {H : Hp} {xs ys : List V} {x : Sr} (h : x.sq H xs) (h' : x.sq H ys) : xs = ys := by
  cases x with
  | l a => rcases h with h | ⟨o, h⟩ <;> rcases h' with h' | ⟨o', h'⟩ <;> rw [h] at h' <;> cases h' <;> rfl
  | t a =>
    have h : H a = some (.tup xs) := h
    have h' : H a = some (.tup ys) := h'
    rw [h] at h'
    cases h'
    rfl
theorem Sr.sq_is {X : Cx} {pins : List (Addr × Obj)} {σ : L2.St} {H : Hp} {s : Shared} {xs : List V} {x : Sr} (I : Inv X pins σ H s) (h : x.sq H xs) : ∃ its : List Value, Vals xs its ∧ x.is s.heap its.toArray := by
  cases x with
  | l a =>
    obtain ⟨its, rv, p, _⟩ := I.list (show SqL X.K H a xs from .inl h)
    exact ⟨its, rv, p.isList⟩
  | t a =>
    obtain ⟨its, rv, p, _⟩ := I.tuple (SqT.of (K := X.K) h)
    exact ⟨its, rv, p⟩
def Itz (x y : Sr) : It :=
  ⟨fun i H => ∃ xs ys u v, x.sq H xs ∧ y.sq H ys ∧ xs[i]? = some u ∧ ys[i]? = some v, fun i H r H' => ∃ p u v, H p = none ∧ H' = upd H p (.tup [u, v]) ∧ r = .ref p ∧ (∀ xs, x.sq H xs → xs[i]? = some u) ∧ ∀ ys, y.sq H ys → ys[i]? = some v,
    fun i H => ∃ xs ys, x.sq H xs ∧ y.sq H ys ∧ (xs.length ≤ i ∨ ys.length ≤ i)⟩
theorem turn_zip {P : Program} {w : World} {K : PySem.W.Frag} {elts : List Expr} {x1} {pos : Pos} (x y : Sr) {z TI TO i j : Addr} (D : Zp z TI TO i j) :
    Turn P w K (.Tuple elts x1 pos) (Itz x y) [z, TI, TO, i, j] z (fun n h => IsZip h z TI TO .none ∧ IsPair h TI (.ref i) (.ref j) ∧ (∃ a b, IsPair h TO a b) ∧ x.at_ h i n ∧ y.at_ h j n) where
  mem := by simp
  obj := fun n h st b hb => by
    obtain ⟨hz, hTI, ⟨a, c, hTO⟩, hi, hj⟩ := st
    simp only [List.mem_cons, List.not_mem_nil, or_false] at hb
    rcases hb with rfl | rfl | rfl | rfl | rfl
    · exact ⟨_, hz, fun v q => by cases q⟩
    · exact ⟨_, hTI, fun v q => by cases q⟩
    · exact ⟨_, hTO, fun v q => by cases q⟩
    · obtain ⟨o, vs, g, d⟩ := Sr.at_get hi
      exact ⟨o, g, fun v q => by rw [d] at q; cases q⟩
    · obtain ⟨o, vs, g, d⟩ := Sr.at_get hj
      exact ⟨o, g, fun v q => by rw [d] at q; cases q⟩
  keep := fun n h h' st k => by
    obtain ⟨hz, hTI, ⟨a, c, hTO⟩, hi, hj⟩ := st
    exact ⟨k z (by simp) _ hz, k TI (by simp) _ hTI, ⟨a, c, k TO (by simp) _ hTO⟩, Sr.at_keep hi fun o q => k i (by simp) o q, Sr.at_keep hj fun o q => k j (by simp) o q⟩
  item := by
    intro X hP hw hK hc n pins s σ H E I hf st hg
    subst hP hw hK
    obtain ⟨xs, ys, u, v, hx, hy, gu, gv⟩ := hg
    obtain ⟨hz, hTI, ⟨a, c, hTO⟩, hi, hj⟩ := st
    obtain ⟨its, rx, ix⟩ := Sr.sq_is I hx
    obtain ⟨jts, ry, iy⟩ := Sr.sq_is I hy
    obtain ⟨u', gu', ru⟩ := rx.get gu
    obtain ⟨v', gv', rv⟩ := ry.get gv
    have fz := (hf z (by simp)).1
    have fTO := (hf TO (by simp)).1
    have fi := (hf i (by simp)).1
    have fj := (hf j (by simp)).1
    refine zip_step D ⟨Sr.sq_ne hx fz, Sr.sq_ne hx fTO, Sr.sq_ne hx fi, Sr.sq_ne hx fj⟩ ⟨Sr.sq_ne hy fz, Sr.sq_ne hy fTO, Sr.sq_ne hy fi, Sr.sq_ne hy fj⟩ hz hTI hTO hi hj ix iy (u := u') (v := v') (by simpa using gu') (by simpa using gv') fun h1 z1 ti1 to1 i1 j1 t1 k1 => ?_
    refine ⟨_, rfl, wpAny_letOwnedTupleGo_zip (s := { s with heap := h1 }) z1 fun h2 z2 b2 => ?_⟩
    have up : ∀ b o, b ≠ z → h1.get? b = some o → h2.get? b = some o := fun b o nb q => (b2.2 b nb).trans q
    have k2 : ∀ b o, b ∉ [z, TI, TO, i, j] → s.heap.get? b = some o → h2.get? b = some o := fun b o hb q => by
      simp only [List.mem_cons, List.not_mem_nil, or_false, not_or] at hb
      exact up b o hb.1 (k1 b o hb.1 hb.2.2.1 hb.2.2.2.1 hb.2.2.2.2 q)
    have lt : ∀ b ∈ [z, TI, TO, i, j], b < s.heap.objs.size := fun b hb => by
      simp only [List.mem_cons, List.not_mem_nil, or_false] at hb
      rcases hb with rfl | rfl | rfl | rfl | rfl
      · exact Heap.lt_size hz
      · exact Heap.lt_size hTI
      · exact Heap.lt_size hTO
      · obtain ⟨o, vs, g, d⟩ := Sr.at_get hi; exact Heap.lt_size g
      · obtain ⟨o, vs, g, d⟩ := Sr.at_get hj; exact Heap.lt_size g
    have t2 : h2.get? s.heap.objs.size = some { cls := .type "tuple", data := .seq #[u', v'] } := up _ _ (Nat.ne_of_gt (lt z (by simp))) t1
    have st2 : IsZip h2 z TI TO .none ∧ IsPair h2 TI (.ref i) (.ref j) ∧ (∃ a b, IsPair h2 TO a b) ∧ x.at_ h2 i (n + 1) ∧ y.at_ h2 j (n + 1) :=
      ⟨z2, up _ _ D.TIz ti1, ⟨_, _, up _ _ D.TOz to1⟩, Sr.at_keep i1 fun o q => up _ o D.iz q, Sr.at_keep j1 fun o q => up _ o D.jz q⟩
    refine ⟨.ref s.heap.objs.size, upd H s.heap.objs.size (.tup [u, v]), ?_, rfl, ⟨_, u, v, I.hok.fresh (Nat.le_refl _), rfl, rfl, fun zs h => by rw [Sr.sq_inj h hx]; exact gu, fun zs h => by rw [Sr.sq_inj h hy]; exact gv⟩, st2, fun b hb => ?_⟩
    · refine Inv.turnNew (s := s) (h' := h2) (t' := s.toks) I hf k2 (Nat.le_refl _) (fun b hb ob q => ?_) ⟨by show 2 ≤ sizeLine; decide, [u', v'], .cons ru (.cons rv .nil), ⟨_, t2, rfl, rfl, _, rfl⟩⟩
      simp only [List.mem_cons, List.not_mem_nil, or_false] at hb
      rcases hb with rfl | rfl | rfl | rfl | rfl
      · exact ⟨_, z2⟩
      · exact ⟨_, st2.2.1⟩
      · obtain ⟨_, _, q⟩ := st2.2.2.1; exact ⟨_, q⟩
      · obtain ⟨o, vs, g, d⟩ := Sr.at_get st2.2.2.2.1; exact ⟨o, g⟩
      · obtain ⟨o, vs, g, d⟩ := Sr.at_get st2.2.2.2.2; exact ⟨o, g⟩
    · rw [upd_ne (Nat.ne_of_lt (lt b hb))]
      exact (hf b hb).1
  done := by
    intro X hP hw hK hc n pins s σ H E I hf st hg
    subst hP hw hK
    obtain ⟨xs, ys, hx, hy, he⟩ := hg
    obtain ⟨hz, hTI, ⟨a, c, hTO⟩, hi, hj⟩ := st
    obtain ⟨its, rx, ix⟩ := Sr.sq_is I hx
    obtain ⟨jts, ry, iy⟩ := Sr.sq_is I hy
    have fz := (hf z (by simp)).1
    have fTO := (hf TO (by simp)).1
    have fi := (hf i (by simp)).1
    have fj := (hf j (by simp)).1
    have l1 := rx.length
    have l2 := ry.length
    exact zip_end (I.ok.hd hc) D ⟨Sr.sq_ne hx fz, Sr.sq_ne hx fTO, Sr.sq_ne hx fi, Sr.sq_ne hx fj⟩ ⟨Sr.sq_ne hy fz, Sr.sq_ne hy fTO, Sr.sq_ne hy fi, Sr.sq_ne hy fj⟩ hz hTI hTO hi hj ix iy (by
      rcases he with h | h
      · exact .inl (by simp; omega)
      · exact .inr (by simp; omega)) fun h' k => ⟨rfl, Inv.turnAll (t' := s.toks) I hf fun b o hb q => by
        simp only [List.mem_cons, List.not_mem_nil, or_false, not_or] at hb
        exact k b o hb.1 hb.2.2.1 hb.2.2.2.1 hb.2.2.2.2 q⟩
  self := fun _ _ _ _ _ st h => wpAny_pyIter_zip st.1 h
section
variable {X : Cx} {K : PySem.W.Frag} {H : Hp} {io : List Addr} {ma mb : ME} {st st' : Sto}
def seqD (s : Sto) : D → Option (List D × List (Nat × List D))
  | .ref n => (lstAt s n).map fun ds => (ds, [(n, ds)])
  | .tup ds => some (ds, [])
  | _ => none
def pairD (a b : List D) : List D := (a.zip b).map fun p => .tup [p.1, p.2]
def zipW (x y : D) (s : Sto) : Option (Wk × Sto) := (seqD s x).bind fun (a, f) => (seqD s y).map fun (b, g) => (⟨pairD a b, f ++ g⟩, s)
def mZip (ma mb : ME) : MI := fun ρ st => (ma ρ st).bind fun (x, s1) => (mb ρ s1).bind fun (y, s2) => zipW x y s2
theorem seq_src {d : D} {v : V} {ds : List D} {g : List (Nat × List D)} (S : StR K H io st) (R : Rep K H io v d) (h : seqD st d = some (ds, g)) : ∃ x : Sr, v = .ref x.ad ∧ (∃ xs, x.sq H xs) ∧
    ∀ H1 ka s1, Ext io ka H H1 → StR K H1 (io ++ ka) s1 → (∀ p, p ∈ g → s1[p.1]? = some (.lst p.2) ∨ s1[p.1]? = some (.fz p.2)) → ∃ xs, x.sq H1 xs ∧ Reps K H1 (io ++ ka) xs ds := by
  cases d with
  | ref n =>
    obtain ⟨l, e, q⟩ := map_some' h
    cases q
    obtain ⟨p, rfl, hp⟩ := R
    refine ⟨.l p, rfl, ?_, fun H1 ka s1 X1 S1 hs => ?_⟩
    · unfold lstAt at e
      split at e
      · rename_i o he; cases e
        obtain ⟨xs, q, _⟩ := S.ob n p _ hp he
        exact ⟨xs, .inl q⟩
      · rename_i o he; cases e
        obtain ⟨ob, xs, q, _⟩ := S.ob n p _ hp he
        exact ⟨xs, .inr ⟨ob, q⟩⟩
      · cases e
    · rcases hs (n, ds) List.mem_cons_self with q | q
      · obtain ⟨xs, q', r⟩ := S1.ob n p _ (append_get hp) q
        exact ⟨xs, .inl q', r⟩
      · obtain ⟨ob, xs, q', r⟩ := S1.ob n p _ (append_get hp) q
        exact ⟨xs, .inr ⟨ob, q'⟩, r⟩
  | tup ts =>
    cases h
    obtain ⟨p, xs, rfl, hp, r⟩ := R
    exact ⟨.t p, rfl, ⟨xs, hp⟩, fun H1 ka s1 X1 S1 _ => ⟨xs, X1.sqT S p xs hp, r.ext S X1⟩⟩
  | _ => cases h
theorem pairD_get {a b : List D} {i : Nat} {d : D} (h : (pairD a b)[i]? = some d) : ∃ x y, a[i]? = some x ∧ b[i]? = some y ∧ d = .tup [x, y] := by
  unfold pairD at h
  rw [List.getElem?_map] at h
  obtain ⟨⟨x, y⟩, e, q⟩ := map_some' h
  rw [List.getElem?_zip_eq_some] at e
  exact ⟨x, y, e.1, e.2, q.symm⟩
theorem boot_zip : bootBuiltins "zip" = some (.type "zip") := by decide +kernel
theorem si_zip {elts : List Expr} {x1} {tp : Pos} {a b : Expr} {p pos : Pos} (hg : Gl X "zip") (hm : X.mg "zip" = none) (ha : SE X a ma) (hb : SE X b mb) (hs : starEach [a, b] X.env = [(false, eval a X.env), (false, eval b X.env)] := by rfl)
    (hs2 : starEach [b] X.env = [(false, eval b X.env)] := by rfl) (hpl : (backTo pos (starEach [b] X.env)).any (·.1) = false := by rfl) : SI X (.Tuple elts x1 tp) (.Call (.Name "zip" p) [a, b] [] pos) (mZip ma mb) := by
  intro pins s σ H R I ⟨ρ, st, io, W, st', E, S, e, k⟩
  obtain ⟨⟨x, s1⟩, e1, e⟩ := ob_bind e
  obtain ⟨⟨y, s2⟩, e2, e⟩ := ob_bind e
  obtain ⟨⟨as, f⟩, e3, e⟩ := ob_bind e
  obtain ⟨⟨bs, g⟩, e4, e⟩ := map_some' e
  cases e
  have hs1 : starEach [a, b] X.env = (false, eval a X.env) :: starEach [b] X.env := by rw [hs, hs2]
  refine Call_ (ld_blt I hg hm boot_zip (PyProof.Rows.callWith_type1 (thn (sa_cons ha (sa_cons hb sa_nil hs2) hs1 pos pins s σ H (fun vs H' => ∃ ka, Ext io ka H H' ∧ StR X.K H' (io ++ ka) st' ∧ Reps X.K H' (io ++ ka) vs [x, y]) I ⟨ρ, st, io, [x, y], st', E, S, mCons_eq e1 (mCons_eq e2 rfl), fun vs H1 k1 X1 S1 R1 => ⟨k1, X1, S1, R1⟩⟩) fun us t1 ⟨vs, H1, I1, r1, k1, X1, S1, R1⟩ => ?_) hs1 hpl))
  obtain ⟨v, u, rfl, Rx, Ry⟩ := R1.two
  obtain ⟨v', u', rfl, rv, ru⟩ := r1.two
  obtain ⟨xx, rfl, ⟨xs, hx⟩, kx⟩ := seq_src S1 Rx e3
  obtain ⟨yy, rfl, ⟨ys, hy⟩, ky⟩ := seq_src S1 Ry e4
  cases rv
  cases ru
  obtain ⟨its, vx, ix⟩ := Sr.sq_is I1 hx
  obtain ⟨jts, vy, iy⟩ := Sr.sq_is I1 hy
  refine call_zipS ix iy fun h' hz hTI hTO hi hj kk => wpAny_pyIter_zip hz ?_
  refine ⟨_, _, _, _, H1, rfl, I1.kept (t' := t1.toks) kk, turn_zip xx yy (Zp.new t1.heap.objs.size), ⟨hz, hTI, ⟨_, _, hTO⟩, hi, hj⟩, fun b hb => ?_, ?_⟩
  · have hle : t1.heap.objs.size ≤ b := by
      simp only [List.mem_cons, List.not_mem_nil, or_false] at hb
      rcases hb with rfl | rfl | rfl | rfl | rfl
      · exact Nat.le_add_right _ 4
      · exact Nat.le_add_right _ 2
      · exact Nat.le_add_right _ 3
      · exact Nat.le_refl _
      · exact Nat.le_add_right _ 1
    exact I1.fpOk hle (I1.hok.fresh hle)
  · refine k _ H1 k1 X1 S1 ?_
    have st1 : ∀ {s3 : Sto}, stays ⟨pairD as bs, f ++ g⟩ s3 → (∀ p, p ∈ f → s3[p.1]? = some (.lst p.2) ∨ s3[p.1]? = some (.fz p.2)) ∧ ∀ p, p ∈ g → s3[p.1]? = some (.lst p.2) ∨ s3[p.1]? = some (.fz p.2) := fun {s3} h => ⟨fun p hp => h p (List.mem_append_left _ hp), fun p hp => h p (List.mem_append_right _ hp)⟩
    have len : ∀ {a b : List D}, (pairD a b).length = min a.length b.length := fun {a b} => by unfold pairD; rw [List.length_map, List.length_zip]
    refine ⟨fun i d H2 k2 s3 hd X2 S2 hs => ?_, fun H2 k2 s3 X2 S2 hs => ?_, fun H2 k2 s3 i hi X2 S2 hs => ?_⟩
    · obtain ⟨xs2, qx, rx⟩ := kx H2 k2 s3 X2 S2 (st1 hs).1
      obtain ⟨ys2, qy, ry⟩ := ky H2 k2 s3 X2 S2 (st1 hs).2
      obtain ⟨dx, dy, g1, g2, rfl⟩ := pairD_get hd
      obtain ⟨u1, gu, ru⟩ := rx.get g1
      obtain ⟨v1, gv, rv⟩ := ry.get g2
      refine ⟨⟨xs2, ys2, u1, v1, qx, qy, gu, gv⟩, fun r H' yl => ?_⟩
      obtain ⟨q, u2, v2, hq, rfl, rfl, yu, yv⟩ := yl
      have e5 := yu xs2 qx
      have e6 := yv ys2 qy
      rw [gu] at e5
      rw [gv] at e6
      cases e5
      cases e6
      obtain ⟨E', S'⟩ := new_out (o := .tup [u1, v1]) S2 hq
      rw [List.append_nil] at S'
      refine ⟨E', S', ⟨q, _, rfl, upd_same, ?_⟩⟩
      have r2 := ru.ext S2 E'
      have r3 := rv.ext S2 E'
      rw [List.append_nil] at r2 r3
      exact Reps.cons r2 (Reps.cons r3 Reps.nil)
    · obtain ⟨xs2, qx, rx⟩ := kx H2 k2 s3 X2 S2 (st1 hs).1
      obtain ⟨ys2, qy, ry⟩ := ky H2 k2 s3 X2 S2 (st1 hs).2
      refine ⟨xs2, ys2, qx, qy, ?_⟩
      show xs2.length ≤ (pairD as bs).length ∨ ys2.length ≤ (pairD as bs).length
      rw [len, rx.length, ry.length]
      omega
    · obtain ⟨xs2, qx, rx⟩ := kx H2 k2 s3 X2 S2 (st1 hs).1
      obtain ⟨ys2, qy, ry⟩ := ky H2 k2 s3 X2 S2 (st1 hs).2
      refine ⟨xs2, ys2, qx, qy, ?_⟩
      have hi : (pairD as bs).length ≤ i := hi
      rw [len] at hi
      rw [rx.length, ry.length]
      omega
end
end L2.MP
set_option maxHeartbeats 4000000
namespace L2.MP
open PySem PySem.Spec PyProof.Rows
def Caps (X : Cx) (fs : List Str) : List Nat → List Str → Prop
  | [], [] => True
  | j :: js, x :: xs => (X.N[j]? = some x ∧ x ∈ fs) ∧ Caps X fs js xs
  | _, _ => False
def Outs (X : Cx) : List Str → Prop
  | [] => True
  | x :: xs => (X.env.kindOf x = some .cell ∨ X.env.kindOf x = some .free) ∧ Outs X xs
theorem Outs.get {X : Cx} : ∀ {fs : List Str} {x : Str}, Outs X fs → x ∈ fs → X.env.kindOf x = some .cell ∨ X.env.kindOf x = some .free
  | [], _, _, m => nomatch m
  | y :: ys, x, h, m => by
    rcases List.mem_cons.mp m with rfl | m
    · exact h.1
    · exact Outs.get h.2 m
theorem Caps.get {X : Cx} {fs : List Str} : ∀ {fr : List Nat} {xs : List Str} {i j : Nat} {x : Str}, Caps X fs fr xs → fr[i]? = some j → xs[i]? = some x → X.N[j]? = some x ∧ x ∈ fs
  | [], [], i, j, x, _, h, _ => by simp at h
  | [], _ :: _, i, j, x, h, _, _ => h.elim
  | _ :: _, [], i, j, x, h, _, _ => h.elim
  | k :: ks, y :: ys, 0, j, x, h, h1, h2 => by
    simp at h1 h2
    subst h1 h2
    exact h.1
  | k :: ks, y :: ys, i + 1, j, x, h, h1, h2 => Caps.get (i := i) h.2 (by simpa using h1) (by simpa using h2)
theorem compS_of {X : Cx} {scope : Scope} {N' : List Str} {nt : Nat} {fr : List Nat} (fs : List Str) (kind : scope.kind = .function) (nd : (scope.names.map (·.1)).Nodup) (hf : scope.names.all (fun p => !(p.2 == NameKind.free) || fs.contains p.1) = true)
    (hb : fs.all (fun x => scope.names.contains (x, NameKind.free)) = true) (len : N'.length = nt + fr.length) (cap : Caps X fs fr (N'.drop nt)) (out : Outs X fs) : CompS X scope N' nt fr := by
  refine ⟨kind, nd, len, fun i j x h1 h2 => ?_, fun x hx => ?_⟩
  · have h2' : (N'.drop nt)[i]? = some x := by rw [List.getElem?_drop]; exact h2
    obtain ⟨a, b⟩ := cap.get h1 h2'
    refine ⟨a, ?_⟩
    have := List.all_eq_true.mp hb x b
    simpa using this
  · have := List.all_eq_true.mp hf _ hx
    have hm : x ∈ fs := by simpa using this
    exact out.get hm
theorem bt_len : bootBuiltins "len" = some (.builtin "len") := by decide +kernel
theorem bt_abs : bootBuiltins "abs" = some (.builtin "abs") := by decide +kernel
theorem bt_max : bootBuiltins "max" = some (.builtin "max") := by decide +kernel
theorem bt_min : bootBuiltins "min" = some (.builtin "min") := by decide +kernel
theorem bt_all : bootBuiltins "all" = some (.builtin "all") := by decide +kernel
theorem bt_int : bootBuiltins "int" = some (.type "int") := by decide +kernel
theorem bt_bool : bootBuiltins "bool" = some (.type "bool") := by decide +kernel
theorem bt_str : bootBuiltins "str" = some (.type "str") := by decide +kernel
theorem bt_tuple : bootBuiltins "tuple" = some (.type "tuple") := by decide +kernel
def mulA : G2 := orG mulD mulSD
theorem op_mulA {X : Cx} : OpM X (binaryOp .Mult) mulA := op_orM op_mulM op_mulSM
end L2.MP
namespace L2.MP
open PySem PySem.Spec PyProof.Rows
theorem ints_kl {K : PySem.W.Frag} {H : Hp} {io : List Addr} : ∀ (ns : List Int), Reps K H io (ns.map V.int) (ns.map D.int)
  | [] => rfl
  | n :: ns => ⟨_, _, rfl, rfl, ints_kl ns⟩
theorem sp_start {K : PySem.W.Frag} {H : Hp} {a : Addr} {ns : List Int} {g : GN} {st : Sto} {E : XK} (hO : Only H) (hS : SqL K H a (ns.map V.int)) (e : g [.kl (ns.map D.int)] [] = some (.bl true, st)) : spM K 1 g [.ref a] H (fun v _ => v = .bl true) E := by
  have hF : SqF K H a (ns.map V.int) := by
    rcases hS with (h | h) | h
    · rcases hO a with z | ⟨o, xs, z⟩
      · rw [z] at h; cases h
      · rw [z] at h; cases h
    · exact .inl h
    · exact .inr h
  refine ⟨_, [], [], _, _, rfl, Reps.cons (show Rep K H [] (.ref a) (.kl (ns.map D.int)) from ⟨a, _, rfl, hF, ints_kl ns⟩) Reps.nil, ⟨rfl, List.nodup_nil, fun n b o h => by simp at h⟩, e, fun v H' ka E' S' R' => R'⟩
end L2.MP
set_option maxHeartbeats 1000000
namespace L2.MP
open PySem
structure Gr (st st' : Sto) : Prop where
  len : st.length ≤ st'.length
  old : ∀ k, k < st.length → st'[k]? = st[k]?
structure Fr (n : Nat) (st st' : Sto) : Prop where
  len : st.length ≤ st'.length
  old : ∀ k, k < st.length → k ≠ n → st'[k]? = st[k]?
theorem Gr.refl (st : Sto) : Gr st st := ⟨Nat.le_refl _, fun _ _ => rfl⟩
theorem Fr.refl (n : Nat) (st : Sto) : Fr n st st := ⟨Nat.le_refl _, fun _ _ _ => rfl⟩
theorem Gr.fr {st st' : Sto} (h : Gr st st') (n : Nat) : Fr n st st' := ⟨h.len, fun k hk _ => h.old k hk⟩
theorem Gr.trans {a b c : Sto} (h : Gr a b) (h' : Gr b c) : Gr a c := ⟨Nat.le_trans h.len h'.len, fun k hk => (h'.old k (Nat.lt_of_lt_of_le hk h.len)).trans (h.old k hk)⟩
theorem Fr.trans {n : Nat} {a b c : Sto} (h : Fr n a b) (h' : Fr n b c) : Fr n a c := ⟨Nat.le_trans h.len h'.len, fun k hk nk => (h'.old k (Nat.lt_of_lt_of_le hk h.len) nk).trans (h.old k hk nk)⟩
theorem Gr.app (st : Sto) (l : List O) : Gr st (st ++ l) := ⟨by simp, fun k hk => List.getElem?_append_left hk⟩
theorem Fr.app (n : Nat) (st : Sto) (l : List O) : Fr n st (st ++ l) := (Gr.app st l).fr n
theorem Fr.set (n : Nat) (st : Sto) (o : O) : Fr n st (st.set n o) := ⟨by simp, fun k _ hk => by rw [List.getElem?_set_ne (fun h => hk h.symm)]⟩
theorem getElem?_lt {α : Type} {l : List α} {n : Nat} {x : α} (h : l[n]? = some x) : n < l.length := (List.getElem?_eq_some_iff.mp h).1
theorem app_at (st : Sto) (o : O) : (st ++ [o])[st.length]? = some o := getElem?_len st o
theorem loop_ok {W : Wk} {g : MG} {m : MS} : ∀ {ds : List D} {Inv : Nat → Rho → Sto → Prop} {ρ : Rho} {st : Sto}, Inv 0 ρ st → (∀ k ρ s, k ≤ ds.length → Inv k ρ s → walked W s = true) →
    (∀ k d ρ s, ds[k]? = some d → Inv k ρ s → ∃ ρ1 s1 ρ2 s2, g d ρ s = some (ρ1, s1) ∧ m ρ1 s1 = some (.nx ρ2, s2) ∧ Inv (k + 1) ρ2 s2) → ∃ ρ' s', mLoop W g m ds ρ st = some (.nx ρ', s') ∧ Inv ds.length ρ' s'
  | [], Inv, ρ, st, h0, wk, step => ⟨ρ, st, by unfold mLoop; rw [if_pos (wk 0 ρ st (Nat.le_refl _) h0)], h0⟩
  | d :: ds, Inv, ρ, st, h0, wk, step => by
    obtain ⟨ρ1, s1, ρ2, s2, e1, e2, h1⟩ := step 0 d ρ st rfl h0
    obtain ⟨ρ', s', e, h⟩ := loop_ok (W := W) (g := g) (m := m) (ds := ds) (Inv := fun k => Inv (k + 1)) h1 (fun k ρ s hk h => wk (k + 1) ρ s (Nat.succ_le_succ hk) h) (fun k d ρ s hd h => step (k + 1) d ρ s (by simpa using hd) h)
    refine ⟨ρ', s', ?_, h⟩
    unfold mLoop
    rw [if_pos (wk 0 ρ st (Nat.zero_le _) h0), e1]
    simp only [Option.bind_some, e2]
    exact e
theorem ci_ok {W : Wk} {g : MG} {c : MT} {m : ME} : ∀ {ds : List D} {Inv : Nat → List D → Rho → Sto → Prop} {acc : List D} {ρ : Rho} {st : Sto}, Inv 0 acc ρ st → (∀ k a ρ s, k ≤ ds.length → Inv k a ρ s → walked W s = true) →
    (∀ k d a ρ s, ds[k]? = some d → Inv k a ρ s → ∃ ρ1 s1 b s2, g d ρ s = some (ρ1, s1) ∧ c ρ1 s1 = some (b, s2) ∧ ((b = true ∧ ∃ x s3, m ρ1 s2 = some (x, s3) ∧ Inv (k + 1) (a ++ [x]) ρ1 s3) ∨ (b = false ∧ Inv (k + 1) a ρ1 s2))) →
    ∃ xs ρ' s', mCI W g c m ds ρ st = some (xs, s') ∧ Inv ds.length (acc ++ xs) ρ' s'
  | [], Inv, acc, ρ, st, h0, wk, step => ⟨[], ρ, st, by unfold mCI; rw [if_pos (wk 0 acc ρ st (Nat.le_refl _) h0)], by rw [List.append_nil]; exact h0⟩
  | d :: ds, Inv, acc, ρ, st, h0, wk, step => by
    obtain ⟨ρ1, s1, b, s2, e1, e2, h1⟩ := step 0 d acc ρ st rfl h0
    have wk' : ∀ k a ρ s, k ≤ ds.length → Inv (k + 1) a ρ s → walked W s = true := fun k a ρ s hk h => wk (k + 1) a ρ s (Nat.succ_le_succ hk) h
    have st' : ∀ k d a ρ s, ds[k]? = some d → Inv (k + 1) a ρ s → ∃ ρ1 s1 b s2, g d ρ s = some (ρ1, s1) ∧ c ρ1 s1 = some (b, s2) ∧ ((b = true ∧ ∃ x s3, m ρ1 s2 = some (x, s3) ∧ Inv (k + 1 + 1) (a ++ [x]) ρ1 s3) ∨ (b = false ∧ Inv (k + 1 + 1) a ρ1 s2)) := fun k d a ρ s hd h => step (k + 1) d a ρ s (by simpa using hd) h
    rcases h1 with ⟨rfl, x, s3, e3, h1⟩ | ⟨rfl, h1⟩
    · obtain ⟨xs, ρ', s', e, h⟩ := ci_ok (W := W) (g := g) (c := c) (m := m) (ds := ds) (Inv := fun k => Inv (k + 1)) h1 wk' st'
      refine ⟨x :: xs, ρ', s', ?_, by simpa using h⟩
      unfold mCI
      rw [if_pos (wk 0 acc ρ st (Nat.zero_le _) h0), e1]
      simp only [Option.bind_some, e2, if_true, e3, e, Option.map_some]
    · obtain ⟨xs, ρ', s', e, h⟩ := ci_ok (W := W) (g := g) (c := c) (m := m) (ds := ds) (Inv := fun k => Inv (k + 1)) h1 wk' st'
      refine ⟨xs, ρ', s', ?_, h⟩
      unfold mCI
      rw [if_pos (wk 0 acc ρ st (Nat.zero_le _) h0), e1]
      simp only [Option.bind_some, e2, Bool.false_eq_true, if_false, e]
theorem ci_map {W : Wk} {g : MG} {c : MT} {m : ME} {α : Type} {f h : α → D} {R : Rho → Prop} : ∀ {as : List α} {ρ : Rho} {st : Sto}, R ρ → walked W st = true → (∀ a ∈ as, ∀ ρ, R ρ → ∃ ρ1, g (f a) ρ st = some (ρ1, st) ∧ c ρ1 st = some (true, st) ∧ m ρ1 st = some (h a, st) ∧ R ρ1) →
    mCI W g c m (as.map f) ρ st = some (as.map h, st)
  | [], ρ, st, r, wk, _ => by unfold mCI; rw [List.map_nil]; simp only [wk, if_true, List.map_nil]
  | a :: as, ρ, st, r, wk, hs => by
    obtain ⟨ρ1, e1, e2, e3, r1⟩ := hs a List.mem_cons_self ρ r
    have e := ci_map (W := W) (g := g) (c := c) (m := m) (f := f) (h := h) (R := R) (as := as) r1 wk fun b hb => hs b (List.mem_cons_of_mem _ hb)
    rw [List.map_cons]
    unfold mCI
    rw [if_pos wk, e1]
    simp only [Option.bind_some, e2, if_true, e3, e, Option.map_some, List.map_cons]
theorem walked_one {ds xs : List D} {n : Nat} {s : Sto} (h : s[n]? = some (.lst xs)) : walked ⟨ds, [(n, xs)]⟩ s = true := by
  unfold walked
  simp only [List.all_cons, List.all_nil, Bool.and_true]
  exact holdsL_lst h
theorem fits_small {n : Nat} (h : n ≤ 10000) : fits n = true := by
  unfold fits
  exact decide_eq_true (Nat.le_trans h (by decide))
end L2.MP
namespace L2.MP
theorem orO_l {α : Type} (x : α) (y : Option α) : orO (some x) y = some x := rfl
theorem orO_r {α : Type} (y : Option α) : orO none y = y := rfl
end L2.MP
namespace L2.MP.Hn
open PySem L2.MP
def B_q_law_pot : MS := mSeq (mAsg (mCon (.int 0)) (gNm 2)) (mSeq (mIf (mTst (mBin ltD (mVar 1) (mCall lenD (mCons (mVar 0) (mNil))))) (mAsg (mBin ixA (mVar 0) (mVar 1)) (gNm 2)) (mPass)) (mSeq (mAsg (mBin addD (mBin mulA (mCon (.int 2)) (mBin modD (mCall absC (mCons (mVar 2) (mNil))) (mBin powB (mBin powB (mCon (.int 10)) (mCon (.int 60))) (mCon (.int 15))))) (mCall intC (mCons (mBin ltD (mVar 2) (mCon (.int 0))) (mNil)))) (gNm 3)) (mSeq (mAsg (mBin modD (mVar 3) (mCon (.int 18446744073709551557))) (gNm 4)) (mSeq (mAsg (mBin modD (mBin addD (mBin addD (mBin mulA (mVar 4) (mCon (.int 6364136223846793005))) (mBin mulA (mCon (.int 97)) (mVar 1))) (mCon (.int 3))) (mCon (.int 18446744073709551616))) (gNm 5)) (mRet (mLst (mCons (mBin mulA (mVar 3) (mCall intC (mCons (mBin geD (mVar 3) (mBin mulA (mCon (.int 2)) (mBin powB (mCon (.int 10)) (mCon (.int 18))))) (mNil)))) (mCons (mVar 5) (mNil)))))))))
def G_q_law_pot : GN := fnM 6 B_q_law_pot
def B_q_law_next : MS := mSeq (mIf (mTst (mBin gtD (mBin ixA (mVar 0) (mCon (.int 0))) (mCon (.int 0)))) (mSeq (mAsg (mBin modD (mBin ixA (mVar 0) (mCon (.int 0))) (mVar 1)) (gNm 2)) (mSeq (putA (mVar 0) (mCon (.int 0)) (mBin fdivB (mBin ixA (mVar 0) (mCon (.int 0))) (mVar 1))) (mRet (mVar 2)))) (mPass)) (mSeq (putA (mVar 0) (mCon (.int 1)) (mBin modD (mBin addD (mBin mulA (mBin ixA (mVar 0) (mCon (.int 1))) (mCon (.int 6364136223846793005))) (mCon (.int 1442695040888963407))) (mCon (.int 18446744073709551616)))) (mRet (mBin fdivB (mBin mulA (mBin fdivB (mBin ixA (mVar 0) (mCon (.int 1))) (mCon (.int 4294967296))) (mVar 1)) (mCon (.int 4294967296)))))
def G_q_law_next : GN := fnM 3 B_q_law_next
def B_q_law_of : MS := mRet (mBin ixA (mVar 1) (mCall G_q_law_next (mCons (mVar 0) (mCons (mCall lenD (mCons (mVar 1) (mNil))) (mNil)))))
def G_q_law_of : GN := fnM 2 B_q_law_of
def C_q_law_same_1 (g : GN) : ME := mCall g (mCons (mVar 0) (mCons (mVar 1) (mNil)))
def B_q_law_same (g : GN) : MS := mSeq (mIf (mAndT (mTst (mIsi "tuple" (mVar 0))) (mTst (mIsi "tuple" (mVar 1)))) (mRet (mAndV (mBin eqD (mCall lenD (mCons (mVar 0) (mNil))) (mCall lenD (mCons (mVar 1) (mNil)))) (mCall allC (mCons (mComp (mZip (mVar 0) (mVar 1)) 2 [] (gTp 2 (gC (gNm 0) (gC (gNm 1) (gN0)))) (mTrue) (C_q_law_same_1 g)) (mNil))))) (mPass)) (mSeq (mIf (mAndT (mTst (mIsi "str" (mVar 0))) (mTst (mIsi "str" (mVar 1)))) (mRet (mBin eqD (mVar 0) (mVar 1))) (mPass)) (mSeq (mIf (mAndT (mTst (mIsi "int" (mVar 0))) (mTst (mIsi "int" (mVar 1)))) (mRet (mAndV (mBin eqD (mIsi "bool" (mVar 0)) (mIsi "bool" (mVar 1))) (mBin eqD (mVar 0) (mVar 1)))) (mPass)) (mRet (mAndV (mBin isND (mVar 0) (mCon .non)) (mBin isND (mVar 1) (mCon .non))))))
def G_q_law_same : GN := recG 2 B_q_law_same 12
end L2.MP.Hn
namespace L2.MP
open PySem
section
variable {ρ ρ1 : Rho} {st s1 : Sto} {m n ma mb : ME} {mm : MA} {ms mq : MS} {mt mu : MT} {g : G2} {gn : GN} {d : D} {i j : Nat} {ds : List D} {mg : MG} {mgs : MGs} {ml mh : MO}
theorem ap_var : mVar i ρ st = match ρ[i]? with
  | some (some d) => some (d, st)
  | _ => none := rfl
theorem ap_con : mCon d ρ st = some (d, st) := rfl
theorem ap_bin : mBin g ma mb ρ st = (ma ρ st).bind fun p => (mb ρ p.2).bind fun q => g p.1 q.1 q.2 := rfl
theorem ap_tst : mTst m ρ st = (m ρ st).bind fun p => match p.1 with
  | .bl b => some (b, p.2)
  | _ => none := rfl
theorem ap_notT : mNotT mt ρ st = (mt ρ st).map fun p => (!p.1, p.2) := rfl
theorem ap_andT : mAndT mt mu ρ st = (mt ρ st).bind fun p => if p.1 = true then mu ρ p.2 else some (false, p.2) := rfl
theorem ap_orT : mOrT mt mu ρ st = (mt ρ st).bind fun p => if p.1 = true then some (true, p.2) else mu ρ p.2 := rfl
theorem ap_andV : mAndV m n ρ st = (mTst m ρ st).bind fun p => if p.1 = true then n ρ p.2 else some (.bl false, p.2) := rfl
theorem ap_orV : mOrV m n ρ st = (mTst m ρ st).bind fun p => if p.1 = true then some (.bl true, p.2) else n ρ p.2 := rfl
theorem ap_notV : mNotV m ρ st = (mTst m ρ st).map fun p => (.bl !p.1, p.2) := rfl
theorem ap_call : mCall gn mm ρ st = (mm ρ st).bind fun p => gn p.1 p.2 := rfl
theorem ap_cons : mCons m mm ρ st = (m ρ st).bind fun p => (mm ρ p.2).bind fun q => some (p.1 :: q.1, q.2) := rfl
theorem ap_nil : mNil ρ st = some ([], st) := rfl
theorem ap_tup : mTup mm ρ st = (mm ρ st).bind fun p => if fits p.1.length = true then some (.tup p.1, p.2) else none := rfl
theorem ap_lst : mLst mm ρ st = (mm ρ st).bind fun p => if fits p.1.length = true then some (.ref p.2.length, p.2 ++ [.lst p.1]) else none := rfl
theorem ap_ret : mRet m ρ st = (m ρ st).map fun p => (.rt p.1, p.2) := rfl
theorem ap_exp : mExp m ρ st = (m ρ st).map fun p => (.nx ρ, p.2) := rfl
theorem ap_asg : mAsg m mg ρ st = (m ρ st).bind fun p => (mg p.1 ρ p.2).map fun q => (.nx q.1, q.2) := rfl
theorem ap_nm : gNm i d ρ st = some (ρ.set i (some d), st) := rfl
theorem ap_pass : mPass ρ st = some (.nx ρ, st) := rfl
theorem ap_neg : mNeg m ρ st = (m ρ st).bind fun p => negD p.1 p.2 := rfl
theorem ap_if : mIf mt ms mq ρ st = (mt ρ st).bind fun p => if p.1 = true then ms ρ p.2 else mq ρ p.2 := rfl
theorem ap_put : putA ma mb m ρ st = orO (mAsg m (gSb setD ma mb) ρ st) (mDPut ma mb m ρ st) := rfl
theorem ap_sb {g3 : G3} : gSb g3 ma mb d ρ st = (ma ρ st).bind fun p => (mb ρ p.2).bind fun q => (g3 p.1 q.1 d q.2).map fun s => (ρ, s) := rfl
theorem ap_tp : gTp i mgs d ρ st = match d with
  | .tup ds => if ds.length = i then mgs ds ρ st else none
  | _ => none := rfl
theorem ap_gC0 : gN0 [] ρ st = some (ρ, st) := rfl
theorem ap_gC : gC mg mgs (d :: ds) ρ st = (mg d ρ st).bind fun p => mgs ds p.1 p.2 := rfl
theorem ap_w : mW m ρ st = (m ρ st).bind fun p => walkD p.1 p.2 := rfl
theorem ap_r1 : mR1 m ρ st = (m ρ st).bind fun p => match p.1 with
  | .int j => if small j = true then some (⟨run 0 j.toNat, []⟩, p.2) else none
  | _ => none := rfl
theorem ap_true : mTrue ρ st = some (true, st) := rfl
theorem ap_comp {mi : MI} {k : Nat} {fr : List Nat} : mComp mi k fr mg mt m ρ st = (mi ρ st).bind fun p => (mCI p.1 mg mt m p.1.ds (rho0 ρ k fr) p.2).bind fun q => if fits q.1.length = true then some (.ref q.2.length, q.2 ++ [.lst q.1]) else none := rfl
theorem ap_for {mi : MI} : mFor mi mg ms ρ st = (mi ρ st).bind fun p => mLoop p.1 mg ms p.1.ds ρ p.2 := rfl
theorem ap_slA : mSlA m ml mh ρ st = (m ρ st).bind fun p => (ml ρ p.2).bind fun q => (mh ρ q.2).bind fun r => slA p.1 q.1 r.1 r.2 := rfl
theorem ap_oN : oNone ρ st = some (none, st) := rfl
theorem ap_oS : oSome m ρ st = (m ρ st).bind fun p => match p.1 with
  | .int i => some (some i, p.2)
  | _ => none := rfl
theorem ap_isi {T : String} : mIsi T m ρ st = (m ρ st).bind fun p => (tyName p.2 p.1).map fun t => (.bl (subT t T), p.2) := rfl
theorem ap_join : mJoin m mm ρ st = (m ρ st).bind fun p => match p.1 with
  | .str _ => (mm ρ p.2).bind fun q => joinD p.1 q.1 q.2
  | _ => none := rfl
theorem ap_app : mApp m mm ρ st = (m ρ st).bind fun p => match p.1 with
  | .ref n => (lstAt p.2 n).bind fun _ => (mm ρ p.2).bind fun q => appendD p.1 q.1 q.2
  | _ => none := rfl
theorem ap_par : mPar i j mm ρ st = (mm ρ st).bind fun p => match p.1 with
  | [x, y] => some (.nx ((ρ.set i (some x)).set j (some y)), p.2)
  | _ => none := rfl
theorem ap_items : mItems m ρ st = (m ρ st).bind fun p => walkI p.1 p.2 := rfl
theorem ap_zip : mZip ma mb ρ st = (ma ρ st).bind fun p => (mb ρ p.2).bind fun q => zipW p.1 q.1 q.2 := rfl
theorem ap_dnewT : mDNew true ρ st = some (.ref st.length, st ++ [.dt []]) := rfl
theorem ap_dnewK : mDNew false ρ st = some (.ref st.length, st ++ [.dk []]) := rfl
theorem seq_to {r : Option (Fl × Sto)} (h : ms ρ st = some (.nx ρ1, s1)) (k : mq ρ1 s1 = r) : mSeq ms mq ρ st = r := by
  unfold mSeq
  rw [h]
  exact k
theorem seq_rt {s : Sto} (h : ms ρ st = some (.rt d, s)) : mSeq ms mq ρ st = some (.rt d, s) := by
  unfold mSeq
  rw [h]
  rfl
theorem fn_rt {N : Nat} {s : Sto} (h : ms (rho N ds) st = some (.rt d, s)) : fnM N ms ds st = some (d, s) := by
  unfold fnM
  rw [h]
  rfl
theorem fits_lit {k : Nat} (h : k ≤ 10000 := by decide) : fits k = true := fits_small h
theorem fits0 : fits 0 = true := fits_lit
theorem fits1 : fits 1 = true := fits_lit
theorem fits2 : fits 2 = true := fits_lit
theorem fits3 : fits 3 = true := fits_lit
theorem fits4 : fits 4 = true := fits_lit
theorem fits5 : fits 5 = true := fits_lit
theorem fits6 : fits 6 = true := fits_lit
theorem fits7 : fits 7 = true := fits_lit
theorem fits8 : fits 8 = true := fits_lit
theorem small_lit {k : Int} (h0 : 0 ≤ k) (h1 : k ≤ 1000000) : small k = true := by
  unfold small
  simp
  omega
theorem ix_lst {n : Nat} {ds : List D} {k : Int} {x : D} (h : st[n]? = some (.lst ds)) (h0 : 0 ≤ k) (hx : ds[k.toNat]? = some x) : ixA (.ref n) (.int k) st = some (x, st) := by
  have hl := getElem?_lt hx
  have h1 : k < ds.length := by omega
  simp [ixA, orG, idxD, lstAt, h, atI, ixN, h0, h1, orO_l]
  exact (List.getElem?_eq_some_iff.mp hx).2
theorem ix_tup {ds : List D} {k : Int} {x : D} (h0 : 0 ≤ k) (hx : ds[k.toNat]? = some x) : ixA (.tup ds) (.int k) st = some (x, st) := by
  have hl := getElem?_lt hx
  have h1 : k < ds.length := by omega
  simp [ixA, orG, idxD, atI, ixN, h0, h1, orO_l]
  exact (List.getElem?_eq_some_iff.mp hx).2
theorem ix_kl {ds : List D} {k : Int} {x : D} (h0 : 0 ≤ k) (hx : ds[k.toNat]? = some x) : ixA (.kl ds) (.int k) st = some (x, st) := by
  have hl := getElem?_lt hx
  have h1 : k < ds.length := by omega
  simp [ixA, orG, idxD, atI, ixN, h0, h1, orO_l]
  exact (List.getElem?_eq_some_iff.mp hx).2
theorem ix_str {z : Str} {k : Int} {c : Nat} (hz : z.length ≤ 10000) (h0 : 0 ≤ k) (hx : z.cps[k.toNat]? = some c) : ixA (.str z) (.int k) st = some (.str ⟨#[c]⟩, st) := by
  have hl : k.toNat < z.cps.size := (Array.getElem?_eq_some_iff.mp hx).1
  have h1 : k < z.cps.size := by omega
  have hf : fits z.length = true := fits_small hz
  simp [ixA, orG, idxD, atI, ixN, h0, h1, orO_l, hf]
  exact (Array.getElem?_eq_some_iff.mp hx).2
theorem len_lst {n : Nat} (h : st[n]? = some (.lst ds)) : lenD [.ref n] st = some (.int ds.length, st) := by simp [lenD, lstAt, h]
theorem len_tup : lenD [.tup ds] st = some (.int ds.length, st) := rfl
theorem len_kl : lenD [.kl ds] st = some (.int ds.length, st) := rfl
theorem tuple_lst {n : Nat} (h : st[n]? = some (.lst ds)) : tupleC [.ref n] st = some (.tup ds, st) := by simp [tupleC, lstAt, h]
theorem add_int (a b : Int) : addD (.int a) (.int b) st = some (.int (a + b), st) := rfl
theorem sub_int (a b : Int) : subD (.int a) (.int b) st = some (.int (a - b), st) := rfl
theorem mul_int {a b : Int} (h : -1000000 ≤ a ∧ a ≤ 1000000) : mulA (.int a) (.int b) st = some (.int (a * b), st) := by
  have : in64 a = true := by unfold in64; simp; omega
  simp [mulA, orG, mulD, intD, this, orO_l]
theorem add_lst {a b : Nat} {x y : List D} (ha : st[a]? = some (.lst x)) (hb : st[b]? = some (.lst y)) (h : x.length + y.length ≤ 10000) : addD (.ref a) (.ref b) st = some (.ref st.length, st ++ [.lst (x ++ y)]) := by
  have : fits (x.length + y.length) = true := fits_small h
  simp [addD, ha, hb, this]
theorem add_str {a b : Str} (h : a.length + b.length ≤ 10000) : addD (.str a) (.str b) st = some (.str (a ++ b), st) := by
  have : fits (a.length + b.length) = true := fits_small h
  simp [addD, this]
theorem append_at {n : Nat} {x : D} (h : st[n]? = some (.lst ds)) (hl : ds.length ≤ 10000) : appendD (.ref n) [x] st = some (.non, st.set n (.lst (ds ++ [x]))) := by
  have : ds.length < sizeLine := Nat.lt_of_le_of_lt hl (by decide)
  simp [appendD, h, this]
end
end L2.MP
set_option linter.unusedSimpArgs false
set_option maxHeartbeats 2000000
namespace L2.MP.Hn
open PySem L2.MP
def PotAt (n : Nat) (st : Sto) : Prop := ∃ a b : Int, st[n]? = some (.lst [.int a, .int b]) ∧ 0 ≤ a ∧ 0 ≤ b ∧ b < 18446744073709551616
theorem PotAt.lt {n : Nat} {st : Sto} (h : PotAt n st) : n < st.length := by
  obtain ⟨a, b, e, _⟩ := h
  exact getElem?_lt e
theorem PotAt.gr {n : Nat} {st st' : Sto} (h : PotAt n st) (g : Gr st st') : PotAt n st' := by
  obtain ⟨a, b, e, r⟩ := h
  exact ⟨a, b, by rw [g.old n (getElem?_lt e)]; exact e, r⟩
theorem div_lt {x m : Int} (h0 : 0 ≤ x) (h1 : x < 4294967296) (hm : 0 < m) : 0 ≤ x * m / 4294967296 ∧ x * m / 4294967296 < m := by
  have h2 : x * m < 4294967296 * m := Int.mul_lt_mul_of_pos_right h1 hm
  have h3 : 0 ≤ x * m := Int.mul_nonneg h0 (Int.le_of_lt hm)
  omega
theorem next_ok {n : Nat} {st : Sto} {many : Int} (h : PotAt n st) (h1 : 0 < many) (h2 : many < 18446744073709551616) : ∃ (r : Int) (st' : Sto), G_q_law_next [.ref n, .int many] st = some (.int r, st') ∧ 0 ≤ r ∧ r < many ∧ PotAt n st' ∧ Fr n st st' ∧ st'.length = st.length := by
  obtain ⟨a, b, e, ha, hb, hb2⟩ := h
  have hn := getElem?_lt e
  have hm2 : many < 340282366920938463463374607431768211456 := by omega
  by_cases hp : 0 < a
  · refine ⟨a % many, st.set n (.lst [.int (a / many), .int b]), ?_, Int.emod_nonneg _ (by omega), Int.emod_lt_of_pos _ h1, ⟨a / many, b, by simp [hn], Int.ediv_nonneg ha (by omega), hb, hb2⟩, Fr.set _ _ _, by simp⟩
    simp [G_q_law_next, B_q_law_next, fnM, mSeq, mIf, mTst, mBin, mVar, mCon, mCall, mCons, mNil, mRet, mAsg, gNm, mPass, ixA, orG, orO_l, orO_r, idxD, dgetD, lstAt, atI, ixN, ltD, leD, gtD, geD, cmpD, addD, subD, modD, fdivB, mulA, mulD, mulSD, powB, intD, tt2, intC, absC, lenD, putA, gSb, setD, rho, ap_lst, fits2, e, hp, h1, hm2]
  · have hz : a = 0 := by omega
    subst hz
    have q0 : 0 ≤ (b * 6364136223846793005 + 1442695040888963407) % 18446744073709551616 := Int.emod_nonneg _ (by decide)
    have q1 : (b * 6364136223846793005 + 1442695040888963407) % 18446744073709551616 < 18446744073709551616 := Int.emod_lt_of_pos _ (by decide)
    generalize hq : (b * 6364136223846793005 + 1442695040888963407) % 18446744073709551616 = q at q0 q1
    have q2 : 0 ≤ q / 4294967296 := by omega
    have q3 : q / 4294967296 < 4294967296 := by omega
    obtain ⟨r0, r1⟩ := div_lt q2 q3 h1
    refine ⟨q / 4294967296 * many / 4294967296, st.set n (.lst [.int 0, .int q]), ?_, r0, r1, ⟨0, q, by simp [hn], by omega, q0, q1⟩, Fr.set _ _ _, by simp⟩
    have i1 : in64 b = true := by unfold in64; simp; omega
    have i2 : in64 (q / 4294967296) = true := by unfold in64; simp; omega
    have hs : ∀ o, (List.set st n o)[n]? = some o := fun o => by simp [hn]
    simp [G_q_law_next, B_q_law_next, fnM, mSeq, mIf, mTst, mBin, mVar, mCon, mCall, mCons, mNil, mRet, mAsg, gNm, mPass, ixA, orG, orO_l, orO_r, idxD, dgetD, lstAt, atI, ixN, ltD, leD, gtD, geD, cmpD, addD, subD, modD, fdivB, mulA, mulD, mulSD, powB, intD, tt2, intC, absC, lenD, putA, gSb, setD, rho, ap_lst, fits2, e, hs, i1, i2, hq]
end L2.MP.Hn
namespace L2.MP.Hn
open PySem L2.MP
theorem of_ok {n l : Nat} {st : Sto} {ds : List D} (h : PotAt n st) (hl : st[l]? = some (.lst ds)) (hne : 0 < ds.length) (hlen : ds.length < 1000000) (hln : l ≠ n) :
    ∃ d st', G_q_law_of [.ref n, .ref l] st = some (d, st') ∧ d ∈ ds ∧ PotAt n st' ∧ Fr n st st' := by
  obtain ⟨r, s1, e1, r0, r1, p1, f1, _⟩ := next_ok (many := ds.length) h (by omega) (by omega)
  have hx : r.toNat < ds.length := by omega
  have hl1 : s1[l]? = some (.lst ds) := (f1.old l (getElem?_lt hl) hln).trans hl
  refine ⟨ds[r.toNat], s1, fn_rt ?_, List.getElem_mem hx, p1, f1⟩
  unfold B_q_law_of
  simp [rho, ap_var, ap_con, ap_bin, ap_tst, ap_notT, ap_andT, ap_orT, ap_andV, ap_orV, ap_notV, ap_call, ap_cons, ap_nil, ap_tup, ap_lst, ap_ret, ap_exp, ap_asg, ap_nm, ap_pass, ap_neg, ap_if, ap_put, ap_sb, ap_tp, ap_gC0, ap_gC, ap_w, ap_r1, ap_true, ap_comp, ap_for, ap_slA, ap_oN, ap_oS, ap_isi, ap_join, ap_app, ap_par, ap_items, ap_zip, ap_dnewT, ap_dnewK, orO_l, orO_r, fits0, fits1, fits2, fits3, fits4, fits5, fits6, fits7, fits8, Option.bind_some, Option.map_some, add_int, sub_int, ltD, leD, gtD, geD, cmpD, intC, rho0, len_lst hl, e1]
  exact ix_lst hl1 r0 (List.getElem?_eq_getElem hx)
theorem ofL_ok {n : Nat} {st : Sto} (ds : List D) (h : PotAt n st) (hne : 0 < ds.length) (hlen : ds.length < 1000000) : ∃ d st', G_q_law_of [.ref n, .ref st.length] (st ++ [.lst ds]) = some (d, st') ∧ d ∈ ds ∧ PotAt n st' ∧ Fr n st st' := by
  obtain ⟨d, s, e, hd, p, f⟩ := of_ok (l := st.length) (h.gr (Gr.app st [.lst ds])) (app_at st _) hne hlen (Nat.ne_of_gt h.lt)
  exact ⟨d, s, e, hd, p, (Fr.app n st _).trans f⟩
theorem pows : ∃ P M Q : Int, 0 < M ∧ (∀ st : Sto, powB (.int 10) (.int 60) st = some (.int P, st)) ∧ (∀ st : Sto, powB (.int P) (.int 15) st = some (.int M, st)) ∧ ∀ st : Sto, powB (.int 10) (.int 18) st = some (.int Q, st) :=
  ⟨10 ^ 60, (10 ^ 60) ^ 15, 10 ^ 18, by decide, fun st => rfl, fun st => rfl, fun st => rfl⟩
theorem pot_ok {ns : List Int} {k : Int} {st : Sto} (h0 : 0 ≤ k) (h1 : k < 1000) : ∃ st', G_q_law_pot [.kl (ns.map D.int), .int k] st = some (.ref st.length, st') ∧ PotAt st.length st' ∧ Gr st st' := by
  obtain ⟨P, M, Q, hM, p1, p2, p3⟩ := pows
  have cell : ∃ c : Int, mIf (mTst (mBin ltD (mVar 1) (mCall lenD (mCons (mVar 0) (mNil))))) (mAsg (mBin ixA (mVar 0) (mVar 1)) (gNm 2)) (mPass) [some (.kl (ns.map D.int)), some (.int k), some (.int 0), none, none, none] st =
      some (.nx [some (.kl (ns.map D.int)), some (.int k), some (.int c), none, none, none], st) := by
    by_cases hk : k < ns.length
    · have hx : k.toNat < ns.length := by omega
      refine ⟨ns[k.toNat], ?_⟩
      have e : ixA (.kl (ns.map D.int)) (.int k) st = some (.int ns[k.toNat], st) := ix_kl h0 (by rw [List.getElem?_map, List.getElem?_eq_getElem hx]; rfl)
      simp [rho, ap_var, ap_con, ap_bin, ap_tst, ap_notT, ap_andT, ap_orT, ap_andV, ap_orV, ap_notV, ap_call, ap_cons, ap_nil, ap_tup, ap_lst, ap_ret, ap_exp, ap_asg, ap_nm, ap_pass, ap_neg, ap_if, ap_put, ap_sb, ap_tp, ap_gC0, ap_gC, ap_w, ap_r1, ap_true, ap_comp, ap_for, ap_slA, ap_oN, ap_oS, ap_isi, ap_join, ap_app, ap_par, ap_items, ap_zip, ap_dnewT, ap_dnewK, orO_l, orO_r, fits0, fits1, fits2, fits3, fits4, fits5, fits6, fits7, fits8, Option.bind_some, Option.map_some, add_int, sub_int, ltD, leD, gtD, geD, cmpD, intC, rho0, len_kl, hk, e]
    · refine ⟨0, ?_⟩
      simp [rho, ap_var, ap_con, ap_bin, ap_tst, ap_notT, ap_andT, ap_orT, ap_andV, ap_orV, ap_notV, ap_call, ap_cons, ap_nil, ap_tup, ap_lst, ap_ret, ap_exp, ap_asg, ap_nm, ap_pass, ap_neg, ap_if, ap_put, ap_sb, ap_tp, ap_gC0, ap_gC, ap_w, ap_r1, ap_true, ap_comp, ap_for, ap_slA, ap_oN, ap_oS, ap_isi, ap_join, ap_app, ap_par, ap_items, ap_zip, ap_dnewT, ap_dnewK, orO_l, orO_r, fits0, fits1, fits2, fits3, fits4, fits5, fits6, fits7, fits8, Option.bind_some, Option.map_some, add_int, sub_int, ltD, leD, gtD, geD, cmpD, intC, rho0, len_kl, hk]
  obtain ⟨c, ec⟩ := cell
  have hR : ∃ R : Int, 0 ≤ R ∧ modD (.int (if c < 0 then -c else c)) (.int M) st = some (.int R, st) := ⟨(if c < 0 then -c else c) % M, Int.emod_nonneg _ (by omega), by simp [modD, intD, hM]⟩
  obtain ⟨R, hR0, eR⟩ := hR
  have hN : ∃ N : Int, 0 ≤ N ∧ 2 * R + (if c < 0 then 1 else 0) = N := ⟨_, by split <;> omega, rfl⟩
  obtain ⟨N, hN0, eN⟩ := hN
  have hb0 : 0 ≤ N % 18446744073709551557 := Int.emod_nonneg _ (by decide)
  have hb1 : N % 18446744073709551557 < 18446744073709551557 := Int.emod_lt_of_pos _ (by decide)
  generalize hB : N % 18446744073709551557 = B at hb0 hb1
  have hx0 : 0 ≤ (B * 6364136223846793005 + 97 * k + 3) % 18446744073709551616 := Int.emod_nonneg _ (by decide)
  have hx1 : (B * 6364136223846793005 + 97 * k + 3) % 18446744073709551616 < 18446744073709551616 := Int.emod_lt_of_pos _ (by decide)
  generalize hX : (B * 6364136223846793005 + 97 * k + 3) % 18446744073709551616 = X at hx0 hx1
  have iB : in64 B = true := by unfold in64; simp; omega
  have i97 : in64 97 = true := by decide
  have i2 : in64 2 = true := by decide
  have hY : ∃ Y : Int, 0 ≤ Y ∧ mulA (.int N) (.int (if 2 * Q ≤ N then 1 else 0)) st = some (.int Y, st) := by
    by_cases hq : 2 * Q ≤ N
    · refine ⟨N * 1, by omega, ?_⟩
      have : in64 1 = true := by decide
      simp [hq, mulA, orG, mulD, intD, this, orO_l]
    · refine ⟨N * 0, by omega, ?_⟩
      have : in64 0 = true := by decide
      simp [hq, mulA, orG, mulD, intD, this, orO_l]
  obtain ⟨Y, hY0, eY⟩ := hY
  refine ⟨st ++ [.lst [.int Y, .int X]], fn_rt ?_, ⟨Y, X, app_at _ _, hY0, hx0, hx1⟩, Gr.app _ _⟩
  unfold B_q_law_pot
  refine seq_to (ρ1 := [some (.kl (ns.map D.int)), some (.int k), some (.int 0), none, none, none]) (s1 := st) (by simp [rho, ap_var, ap_con, ap_bin, ap_tst, ap_notT, ap_andT, ap_orT, ap_andV, ap_orV, ap_notV, ap_call, ap_cons, ap_nil, ap_tup, ap_lst, ap_ret, ap_exp, ap_asg, ap_nm, ap_pass, ap_neg, ap_if, ap_put, ap_sb, ap_tp, ap_gC0, ap_gC, ap_w, ap_r1, ap_true, ap_comp, ap_for, ap_slA, ap_oN, ap_oS, ap_isi, ap_join, ap_app, ap_par, ap_items, ap_zip, ap_dnewT, ap_dnewK, orO_l, orO_r, fits0, fits1, fits2, fits3, fits4, fits5, fits6, fits7, fits8, Option.bind_some, Option.map_some, add_int, sub_int, ltD, leD, gtD, geD, cmpD, intC, rho0]) ?_
  refine seq_to ec ?_
  refine seq_to (ρ1 := [some (.kl (ns.map D.int)), some (.int k), some (.int c), some (.int N), none, none]) (s1 := st) (by
    simp [rho, ap_var, ap_con, ap_bin, ap_tst, ap_notT, ap_andT, ap_orT, ap_andV, ap_orV, ap_notV, ap_call, ap_cons, ap_nil, ap_tup, ap_lst, ap_ret, ap_exp, ap_asg, ap_nm, ap_pass, ap_neg, ap_if, ap_put, ap_sb, ap_tp, ap_gC0, ap_gC, ap_w, ap_r1, ap_true, ap_comp, ap_for, ap_slA, ap_oN, ap_oS, ap_isi, ap_join, ap_app, ap_par, ap_items, ap_zip, ap_dnewT, ap_dnewK, orO_l, orO_r, fits0, fits1, fits2, fits3, fits4, fits5, fits6, fits7, fits8, Option.bind_some, Option.map_some, add_int, sub_int, ltD, leD, gtD, geD, cmpD, intC, rho0, p1, p2, absC, eR, mulA, orG, mulD, intD, i2, eN]) ?_
  refine seq_to (ρ1 := [some (.kl (ns.map D.int)), some (.int k), some (.int c), some (.int N), some (.int B), none]) (s1 := st) (by simp [rho, ap_var, ap_con, ap_bin, ap_tst, ap_notT, ap_andT, ap_orT, ap_andV, ap_orV, ap_notV, ap_call, ap_cons, ap_nil, ap_tup, ap_lst, ap_ret, ap_exp, ap_asg, ap_nm, ap_pass, ap_neg, ap_if, ap_put, ap_sb, ap_tp, ap_gC0, ap_gC, ap_w, ap_r1, ap_true, ap_comp, ap_for, ap_slA, ap_oN, ap_oS, ap_isi, ap_join, ap_app, ap_par, ap_items, ap_zip, ap_dnewT, ap_dnewK, orO_l, orO_r, fits0, fits1, fits2, fits3, fits4, fits5, fits6, fits7, fits8, Option.bind_some, Option.map_some, add_int, sub_int, ltD, leD, gtD, geD, cmpD, intC, rho0, modD, intD, hB]) ?_
  refine seq_to (ρ1 := [some (.kl (ns.map D.int)), some (.int k), some (.int c), some (.int N), some (.int B), some (.int X)]) (s1 := st) (by simp [rho, ap_var, ap_con, ap_bin, ap_tst, ap_notT, ap_andT, ap_orT, ap_andV, ap_orV, ap_notV, ap_call, ap_cons, ap_nil, ap_tup, ap_lst, ap_ret, ap_exp, ap_asg, ap_nm, ap_pass, ap_neg, ap_if, ap_put, ap_sb, ap_tp, ap_gC0, ap_gC, ap_w, ap_r1, ap_true, ap_comp, ap_for, ap_slA, ap_oN, ap_oS, ap_isi, ap_join, ap_app, ap_par, ap_items, ap_zip, ap_dnewT, ap_dnewK, orO_l, orO_r, fits0, fits1, fits2, fits3, fits4, fits5, fits6, fits7, fits8, Option.bind_some, Option.map_some, add_int, sub_int, ltD, leD, gtD, geD, cmpD, intC, rho0, modD, mulA, orG, mulD, intD, iB, i97, hX]) ?_
  have eY' : mulA (.int N) (.int (if decide (2 * Q ≤ N) = true then 1 else 0)) st = some (.int Y, st) := by simpa using eY
  have e2Q : mulA (.int 2) (.int Q) st = some (.int (2 * Q), st) := mul_int (by omega)
  simp [rho, ap_var, ap_con, ap_bin, ap_tst, ap_notT, ap_andT, ap_orT, ap_andV, ap_orV, ap_notV, ap_call, ap_cons, ap_nil, ap_tup, ap_lst, ap_ret, ap_exp, ap_asg, ap_nm, ap_pass, ap_neg, ap_if, ap_put, ap_sb, ap_tp, ap_gC0, ap_gC, ap_w, ap_r1, ap_true, ap_comp, ap_for, ap_slA, ap_oN, ap_oS, ap_isi, ap_join, ap_app, ap_par, ap_items, ap_zip, ap_dnewT, ap_dnewK, orO_l, orO_r, fits0, fits1, fits2, fits3, fits4, fits5, fits6, fits7, fits8, Option.bind_some, Option.map_some, add_int, sub_int, ltD, leD, gtD, geD, cmpD, intC, rho0, p3, e2Q, eY]
end L2.MP.Hn
namespace L2.MP
open PySem PySem.Builtin PySem.Builtin.Str
end L2.MP
set_option maxHeartbeats 2000000
namespace L2.MP
open PySem
theorem toPs_strs {f : D → Option PyData} (hf : ∀ x : Str, PyData.strOk x = true → f (.str x) = some (.str x)) : ∀ {ss : List Str}, (∀ x ∈ ss, PyData.strOk x = true) → toPs f (ss.map D.str) = some (ss.map PyData.str)
  | [], _ => rfl
  | x :: ss, h => by
    rw [List.map_cons, toPs, hf x (h x List.mem_cons_self), Option.bind_some, toPs_strs hf fun y hy => h y (List.mem_cons_of_mem _ hy)]
    rfl
theorem toP_str {n : Nat} {st : Sto} {x : Str} (h : PyData.strOk x = true) : toP (n + 1) st (.str x) = some (.str x) := by
  rw [toP]
  simp [h]
theorem toP_strs {n : Nat} {st : Sto} {k : Nat} {ss : List Str} (hk : st[k]? = some (.lst (ss.map D.str))) (h : ∀ x ∈ ss, PyData.strOk x = true) : toP (n + 2) st (.ref k) = some (.list (ss.map PyData.str)) := by
  rw [toP]
  simp only [lstAt, hk, Option.bind_some]
  rw [toPs_strs (fun x hx => toP_str hx) h]
  rfl
theorem eq_int (a b : Int) (st : Sto) : eqD (.int a) (.int b) st = some (.bl (a == b), st) := by
  unfold eqD
  rw [toP, toP]
  simp [PyData.eqv]
end L2.MP
namespace L2.MP.Hn
open PySem L2.MP
structure NameOk (x : Str) : Prop where
  lo : 1 ≤ x.cps.toList.length
  hi : x.cps.toList.length ≤ 8
  ab : ∀ c ∈ x.cps.toList, 97 ≤ c ∧ c ≤ 122
theorem NameOk.str {x : Str} (h : NameOk x) : PyData.strOk x = true := by
  unfold PyData.strOk
  rw [Array.all_eq_true']
  intro c hc
  have := h.ab c (by simpa using hc)
  simp
  omega
end L2.MP.Hn
set_option maxHeartbeats 2000000
namespace L2.MP.Hn
open PySem L2.MP
structure NInv (n f : Nat) (many : Int) (st0 : Sto) (ss : List Str) (s : Sto) : Prop where
  at_ : s[f]? = some (.lst (ss.map D.str))
  ok : ∀ x ∈ ss, NameOk x
  nd : ss.Nodup
  len : (ss.length : Int) ≤ many
  pot : PotAt n s
  fr : Fr n st0 s
theorem NInv.fr' {n f : Nat} {many : Int} {st0 : Sto} {ss : List Str} {s s' : Sto} (h : NInv n f many st0 ss s) (hf : f ≠ n) (p : PotAt n s') (g : Fr n s s') : NInv n f many st0 ss s' :=
  ⟨(g.old f (getElem?_lt h.at_) hf).trans h.at_, h.ok, h.nd, h.len, p, h.fr.trans g⟩
theorem NInv.app {n f : Nat} {many : Int} {st0 : Sto} {ss : List Str} {s : Sto} (h : NInv n f many st0 ss s) (hf : f ≠ n) (l : List O) : NInv n f many st0 ss (s ++ l) := h.fr' hf (h.pot.gr (Gr.app _ _)) (Fr.app _ _ _)
end L2.MP.Hn
set_option maxHeartbeats 2000000
namespace L2.MP
open PySem
def kindD (k : List Str) : D := .tup (k.map D.str)
end L2.MP
namespace L2.MP.Hn
open PySem L2.MP
structure FaceOk (x : Str) : Prop where
  len : x.cps.toList.length ≤ 1
  ab : ∀ c ∈ x.cps.toList, (97 ≤ c ∧ c ≤ 122) ∨ (48 ≤ c ∧ c ≤ 57)
theorem FaceOk.str {x : Str} (h : FaceOk x) : PyData.strOk x = true := by
  unfold PyData.strOk
  rw [Array.all_eq_true']
  intro c hc
  have := h.ab c (by simpa using hc)
  simp
  omega
def SideOk (ns : List Str) (x : Str) : Prop := x = "" ∨ x ∈ ns
def KindOk (ns : List Str) (k : List Str) : Prop := ∃ f a b c d, k = [f, a, b, c, d] ∧ FaceOk f ∧ SideOk ns a ∧ SideOk ns b ∧ SideOk ns c ∧ SideOk ns d
theorem empty_ok : PyData.strOk ("" : Str) = true := by decide +kernel
theorem SideOk.str {ns : List Str} {x : Str} (hn : ∀ y ∈ ns, NameOk y) (h : SideOk ns x) : PyData.strOk x = true := by
  rcases h with rfl | h
  · exact empty_ok
  · exact (hn x h).str
theorem KindOk.str {ns : List Str} {k : List Str} (hn : ∀ y ∈ ns, NameOk y) (h : KindOk ns k) : ∀ x ∈ k, PyData.strOk x = true := by
  obtain ⟨f, a, b, c, d, rfl, hf, ha, hb, hc, hd⟩ := h
  intro x hx
  simp at hx
  rcases hx with rfl | rfl | rfl | rfl | rfl
  · exact hf.str
  · exact ha.str hn
  · exact hb.str hn
  · exact hc.str hn
  · exact hd.str hn
abbrev signs : Str := "abcdefghijklmnopqrstuvwxyz0123456789"
theorem face_mul {z : Str} {b : Bool} {st : Sto} (hz : z.length ≤ 100) : mulA (.str z) (.int (if b = true then 1 else 0)) st = some (.str (if b = true then z else Str.empty), st) := by
  have hs : sizeLine = 16777216 := by decide
  cases b with
  | true =>
    have e : repS z 1 = z := by simp [repS]
    simp [mulA, orG, mulD, mulSD, intD, orO_r, e, hs]
    omega
  | false =>
    have e : repS z 0 = Str.empty := by simp [repS]
    have e2 : Str.empty.length = 0 := by decide
    simp [mulA, orG, mulD, mulSD, intD, orO_r, e, hs, e2]
structure KInv (n f l : Nat) (ns sd : List Str) (st0 : Sto) (ks : List (List Str)) (s : Sto) : Prop where
  at_ : s[f]? = some (.lst (ks.map kindD))
  sd_ : s[l]? = some (.lst (sd.map D.str))
  ok : ∀ k ∈ ks, KindOk ns k
  pot : PotAt n s
  fr : Fr n st0 s
theorem KInv.fr' {n f l : Nat} {ns sd : List Str} {st0 : Sto} {ks : List (List Str)} {s s' : Sto} (h : KInv n f l ns sd st0 ks s) (hf : f ≠ n) (hl : l ≠ n) (p : PotAt n s') (g : Fr n s s') : KInv n f l ns sd st0 ks s' :=
  ⟨(g.old f (getElem?_lt h.at_) hf).trans h.at_, (g.old l (getElem?_lt h.sd_) hl).trans h.sd_, h.ok, p, h.fr.trans g⟩
theorem KInv.app {n f l : Nat} {ns sd : List Str} {st0 : Sto} {ks : List (List Str)} {s : Sto} (h : KInv n f l ns sd st0 ks s) (hf : f ≠ n) (hl : l ≠ n) (o : List O) : KInv n f l ns sd st0 ks (s ++ o) := h.fr' hf hl (h.pot.gr (Gr.app _ _)) (Fr.app _ _ _)
end L2.MP.Hn
set_option maxHeartbeats 2000000
namespace L2.MP.Hn
open PySem L2.MP
structure House where
  e : Int
  sticks : List (Str × Int)
  kinds : List (List Str)
structure House.Ok (h : House) (most : Int) : Prop where
  e0 : 1 ≤ h.e
  e1 : h.e ≤ 4
  names : ∀ p ∈ h.sticks, NameOk p.1
  srt : (h.sticks.map (·.1)).Pairwise fun a b => sle a b = true
  nd : (h.sticks.map (·.1)).Nodup
  str : ∀ p ∈ h.sticks, 1 ≤ p.2 ∧ p.2 ≤ 4
  few : h.sticks.length ≤ 5
  kind : ∀ k ∈ h.kinds, KindOk (h.sticks.map (·.1)) k
  k0 : 0 < h.kinds.length
  k1 : (h.kinds.length : Int) ≤ most
end L2.MP.Hn
set_option maxHeartbeats 2000000
namespace L2.MP
open PySem
abbrev Tl := Int × Int × Int
def kvOf (t : Tl) : List Key × D := ([Sum.inl t.1, Sum.inl t.2.1], .int t.2.2)
def rowT (t : Tl) : List Int := [t.1, t.2.1, t.2.2]
def samePl (a b : Tl) : Bool := decide (a.1 = b.1) && decide (a.2.1 = b.2.1)
def PlNd (l : List Tl) : Prop := l.Pairwise fun a b => samePl a b = false
end L2.MP
set_option maxHeartbeats 2000000
namespace L2.MP.Hn
open PySem L2.MP
def TileOk (w h kn : Int) (t : Tl) : Prop := 0 ≤ t.1 ∧ t.1 < w ∧ 0 ≤ t.2.1 ∧ t.2.1 < h ∧ 0 ≤ t.2.2 ∧ t.2.2 < kn
structure StandOk (w h kn : Int) (ts : List Tl) : Prop where
  ok : ∀ t ∈ ts, TileOk w h kn t
  nd : PlNd ts
  srt : (ts.map rowT).Pairwise fun a b => tle a b = true
structure SInv (n t : Nat) (w h kn : Int) (st0 : Sto) (l : List Tl) (s : Sto) : Prop where
  at_ : s[t]? = some (.dt (l.map kvOf))
  ok : ∀ u ∈ l, TileOk w h kn u
  nd : PlNd l
  pot : PotAt n s
  fr : Fr n st0 s
theorem SInv.fr' {n t : Nat} {w h kn : Int} {st0 : Sto} {l : List Tl} {s s' : Sto} (q : SInv n t w h kn st0 l s) (ht : t ≠ n) (p : PotAt n s') (g : Fr n s s') : SInv n t w h kn st0 l s' := ⟨(g.old t (getElem?_lt q.at_) ht).trans q.at_, q.ok, q.nd, p, q.fr.trans g⟩
end L2.MP.Hn
set_option maxHeartbeats 2000000
namespace L2.MP.Hn
open PySem L2.MP
structure Bed where
  ho : House
  w : Int
  h : Int
  ts : List Tl
structure Bed.Ok (b : Bed) (most : Int) : Prop where
  ho : b.ho.Ok most
  w0 : 1 ≤ b.w
  w1 : b.w ≤ 12
  h0 : 1 ≤ b.h
  h1 : b.h ≤ 12
  ts : StandOk b.w b.h b.ho.kinds.length b.ts
  len : b.ts.length ≤ 6
def plain : Nat → D → Prop
  | 0, _ => False
  | _ + 1, .non => True
  | _ + 1, .bl _ => True
  | _ + 1, .int _ => True
  | _ + 1, .str x => PyData.strOk x = true
  | n + 1, .tup ds => ds.length ≤ 10000 ∧ ∀ d ∈ ds, plain n d
  | _ + 1, .ref _ => False
  | _ + 1, .kl _ => False
theorem blsOf_true : ∀ n : Nat, blsOf (List.replicate n (.bl true)) = some (List.replicate n true)
  | 0 => rfl
  | n + 1 => by rw [List.replicate_succ, blsOf, blsOf_true n]; rfl
theorem same_ok : ∀ {n : Nat} {d : D} {st : Sto}, plain n d → ∃ st', recG 2 B_q_law_same n [d, d] st = some (.bl true, st') ∧ Gr st st'
  | 0, d, st, h => h.elim
  | n + 1, .non, st, h => by
    refine ⟨st, fn_rt ?_, Gr.refl _⟩
    unfold B_q_law_same
    refine seq_to (ρ1 := [some .non, some .non]) (s1 := st) (by simp [rho, ap_var, ap_con, ap_bin, ap_tst, ap_notT, ap_andT, ap_orT, ap_andV, ap_orV, ap_notV, ap_call, ap_cons, ap_nil, ap_tup, ap_lst, ap_ret, ap_exp, ap_asg, ap_nm, ap_pass, ap_neg, ap_if, ap_put, ap_sb, ap_tp, ap_gC0, ap_gC, ap_w, ap_r1, ap_true, ap_comp, ap_for, ap_slA, ap_oN, ap_oS, ap_isi, ap_join, ap_app, ap_par, ap_items, ap_zip, ap_dnewT, ap_dnewK, orO_l, orO_r, fits0, fits1, fits2, fits3, fits4, fits5, fits6, fits7, fits8, Option.bind_some, Option.map_some, add_int, sub_int, ltD, leD, gtD, geD, cmpD, intC, rho0, tyName, subT]) ?_
    refine seq_to (ρ1 := [some .non, some .non]) (s1 := st) (by simp [rho, ap_var, ap_con, ap_bin, ap_tst, ap_notT, ap_andT, ap_orT, ap_andV, ap_orV, ap_notV, ap_call, ap_cons, ap_nil, ap_tup, ap_lst, ap_ret, ap_exp, ap_asg, ap_nm, ap_pass, ap_neg, ap_if, ap_put, ap_sb, ap_tp, ap_gC0, ap_gC, ap_w, ap_r1, ap_true, ap_comp, ap_for, ap_slA, ap_oN, ap_oS, ap_isi, ap_join, ap_app, ap_par, ap_items, ap_zip, ap_dnewT, ap_dnewK, orO_l, orO_r, fits0, fits1, fits2, fits3, fits4, fits5, fits6, fits7, fits8, Option.bind_some, Option.map_some, add_int, sub_int, ltD, leD, gtD, geD, cmpD, intC, rho0, tyName, subT]) ?_
    refine seq_to (ρ1 := [some .non, some .non]) (s1 := st) (by simp [rho, ap_var, ap_con, ap_bin, ap_tst, ap_notT, ap_andT, ap_orT, ap_andV, ap_orV, ap_notV, ap_call, ap_cons, ap_nil, ap_tup, ap_lst, ap_ret, ap_exp, ap_asg, ap_nm, ap_pass, ap_neg, ap_if, ap_put, ap_sb, ap_tp, ap_gC0, ap_gC, ap_w, ap_r1, ap_true, ap_comp, ap_for, ap_slA, ap_oN, ap_oS, ap_isi, ap_join, ap_app, ap_par, ap_items, ap_zip, ap_dnewT, ap_dnewK, orO_l, orO_r, fits0, fits1, fits2, fits3, fits4, fits5, fits6, fits7, fits8, Option.bind_some, Option.map_some, add_int, sub_int, ltD, leD, gtD, geD, cmpD, intC, rho0, tyName, subT]) ?_
    simp [rho, ap_var, ap_con, ap_bin, ap_tst, ap_notT, ap_andT, ap_orT, ap_andV, ap_orV, ap_notV, ap_call, ap_cons, ap_nil, ap_tup, ap_lst, ap_ret, ap_exp, ap_asg, ap_nm, ap_pass, ap_neg, ap_if, ap_put, ap_sb, ap_tp, ap_gC0, ap_gC, ap_w, ap_r1, ap_true, ap_comp, ap_for, ap_slA, ap_oN, ap_oS, ap_isi, ap_join, ap_app, ap_par, ap_items, ap_zip, ap_dnewT, ap_dnewK, orO_l, orO_r, fits0, fits1, fits2, fits3, fits4, fits5, fits6, fits7, fits8, Option.bind_some, Option.map_some, add_int, sub_int, ltD, leD, gtD, geD, cmpD, intC, rho0, isND, isNon]
  | n + 1, .bl b, st, h => by
    refine ⟨st, fn_rt ?_, Gr.refl _⟩
    unfold B_q_law_same
    refine seq_to (ρ1 := [some (.bl b), some (.bl b)]) (s1 := st) (by simp [rho, ap_var, ap_con, ap_bin, ap_tst, ap_notT, ap_andT, ap_orT, ap_andV, ap_orV, ap_notV, ap_call, ap_cons, ap_nil, ap_tup, ap_lst, ap_ret, ap_exp, ap_asg, ap_nm, ap_pass, ap_neg, ap_if, ap_put, ap_sb, ap_tp, ap_gC0, ap_gC, ap_w, ap_r1, ap_true, ap_comp, ap_for, ap_slA, ap_oN, ap_oS, ap_isi, ap_join, ap_app, ap_par, ap_items, ap_zip, ap_dnewT, ap_dnewK, orO_l, orO_r, fits0, fits1, fits2, fits3, fits4, fits5, fits6, fits7, fits8, Option.bind_some, Option.map_some, add_int, sub_int, ltD, leD, gtD, geD, cmpD, intC, rho0, tyName, subT]) ?_
    refine seq_to (ρ1 := [some (.bl b), some (.bl b)]) (s1 := st) (by simp [rho, ap_var, ap_con, ap_bin, ap_tst, ap_notT, ap_andT, ap_orT, ap_andV, ap_orV, ap_notV, ap_call, ap_cons, ap_nil, ap_tup, ap_lst, ap_ret, ap_exp, ap_asg, ap_nm, ap_pass, ap_neg, ap_if, ap_put, ap_sb, ap_tp, ap_gC0, ap_gC, ap_w, ap_r1, ap_true, ap_comp, ap_for, ap_slA, ap_oN, ap_oS, ap_isi, ap_join, ap_app, ap_par, ap_items, ap_zip, ap_dnewT, ap_dnewK, orO_l, orO_r, fits0, fits1, fits2, fits3, fits4, fits5, fits6, fits7, fits8, Option.bind_some, Option.map_some, add_int, sub_int, ltD, leD, gtD, geD, cmpD, intC, rho0, tyName, subT]) ?_
    refine seq_rt ?_
    have e1 : ∀ x : Bool, eqD (.bl x) (.bl x) st = some (.bl true, st) := fun x => by unfold eqD; rw [toP]; simp [PyData.eqv]
    simp [rho, ap_var, ap_con, ap_bin, ap_tst, ap_notT, ap_andT, ap_orT, ap_andV, ap_orV, ap_notV, ap_call, ap_cons, ap_nil, ap_tup, ap_lst, ap_ret, ap_exp, ap_asg, ap_nm, ap_pass, ap_neg, ap_if, ap_put, ap_sb, ap_tp, ap_gC0, ap_gC, ap_w, ap_r1, ap_true, ap_comp, ap_for, ap_slA, ap_oN, ap_oS, ap_isi, ap_join, ap_app, ap_par, ap_items, ap_zip, ap_dnewT, ap_dnewK, orO_l, orO_r, fits0, fits1, fits2, fits3, fits4, fits5, fits6, fits7, fits8, Option.bind_some, Option.map_some, add_int, sub_int, ltD, leD, gtD, geD, cmpD, intC, rho0, tyName, subT, e1]
  | n + 1, .int i, st, h => by
    refine ⟨st, fn_rt ?_, Gr.refl _⟩
    unfold B_q_law_same
    refine seq_to (ρ1 := [some (.int i), some (.int i)]) (s1 := st) (by simp [rho, ap_var, ap_con, ap_bin, ap_tst, ap_notT, ap_andT, ap_orT, ap_andV, ap_orV, ap_notV, ap_call, ap_cons, ap_nil, ap_tup, ap_lst, ap_ret, ap_exp, ap_asg, ap_nm, ap_pass, ap_neg, ap_if, ap_put, ap_sb, ap_tp, ap_gC0, ap_gC, ap_w, ap_r1, ap_true, ap_comp, ap_for, ap_slA, ap_oN, ap_oS, ap_isi, ap_join, ap_app, ap_par, ap_items, ap_zip, ap_dnewT, ap_dnewK, orO_l, orO_r, fits0, fits1, fits2, fits3, fits4, fits5, fits6, fits7, fits8, Option.bind_some, Option.map_some, add_int, sub_int, ltD, leD, gtD, geD, cmpD, intC, rho0, tyName, subT]) ?_
    refine seq_to (ρ1 := [some (.int i), some (.int i)]) (s1 := st) (by simp [rho, ap_var, ap_con, ap_bin, ap_tst, ap_notT, ap_andT, ap_orT, ap_andV, ap_orV, ap_notV, ap_call, ap_cons, ap_nil, ap_tup, ap_lst, ap_ret, ap_exp, ap_asg, ap_nm, ap_pass, ap_neg, ap_if, ap_put, ap_sb, ap_tp, ap_gC0, ap_gC, ap_w, ap_r1, ap_true, ap_comp, ap_for, ap_slA, ap_oN, ap_oS, ap_isi, ap_join, ap_app, ap_par, ap_items, ap_zip, ap_dnewT, ap_dnewK, orO_l, orO_r, fits0, fits1, fits2, fits3, fits4, fits5, fits6, fits7, fits8, Option.bind_some, Option.map_some, add_int, sub_int, ltD, leD, gtD, geD, cmpD, intC, rho0, tyName, subT]) ?_
    refine seq_rt ?_
    have e1 : ∀ x : Bool, eqD (.bl x) (.bl x) st = some (.bl true, st) := fun x => by unfold eqD; rw [toP]; simp [PyData.eqv]
    simp [rho, ap_var, ap_con, ap_bin, ap_tst, ap_notT, ap_andT, ap_orT, ap_andV, ap_orV, ap_notV, ap_call, ap_cons, ap_nil, ap_tup, ap_lst, ap_ret, ap_exp, ap_asg, ap_nm, ap_pass, ap_neg, ap_if, ap_put, ap_sb, ap_tp, ap_gC0, ap_gC, ap_w, ap_r1, ap_true, ap_comp, ap_for, ap_slA, ap_oN, ap_oS, ap_isi, ap_join, ap_app, ap_par, ap_items, ap_zip, ap_dnewT, ap_dnewK, orO_l, orO_r, fits0, fits1, fits2, fits3, fits4, fits5, fits6, fits7, fits8, Option.bind_some, Option.map_some, add_int, sub_int, ltD, leD, gtD, geD, cmpD, intC, rho0, tyName, subT, e1, eq_int]
  | n + 1, .str x, st, h => by
    refine ⟨st, fn_rt ?_, Gr.refl _⟩
    unfold B_q_law_same
    refine seq_to (ρ1 := [some (.str x), some (.str x)]) (s1 := st) (by simp [rho, ap_var, ap_con, ap_bin, ap_tst, ap_notT, ap_andT, ap_orT, ap_andV, ap_orV, ap_notV, ap_call, ap_cons, ap_nil, ap_tup, ap_lst, ap_ret, ap_exp, ap_asg, ap_nm, ap_pass, ap_neg, ap_if, ap_put, ap_sb, ap_tp, ap_gC0, ap_gC, ap_w, ap_r1, ap_true, ap_comp, ap_for, ap_slA, ap_oN, ap_oS, ap_isi, ap_join, ap_app, ap_par, ap_items, ap_zip, ap_dnewT, ap_dnewK, orO_l, orO_r, fits0, fits1, fits2, fits3, fits4, fits5, fits6, fits7, fits8, Option.bind_some, Option.map_some, add_int, sub_int, ltD, leD, gtD, geD, cmpD, intC, rho0, tyName, subT]) ?_
    refine seq_rt ?_
    have e1 : eqD (.str x) (.str x) st = some (.bl true, st) := by
      unfold eqD
      rw [toP_str (n := 99) (show PyData.strOk x = true from h)]
      simp [PyData.eqv]
    simp [rho, ap_var, ap_con, ap_bin, ap_tst, ap_notT, ap_andT, ap_orT, ap_andV, ap_orV, ap_notV, ap_call, ap_cons, ap_nil, ap_tup, ap_lst, ap_ret, ap_exp, ap_asg, ap_nm, ap_pass, ap_neg, ap_if, ap_put, ap_sb, ap_tp, ap_gC0, ap_gC, ap_w, ap_r1, ap_true, ap_comp, ap_for, ap_slA, ap_oN, ap_oS, ap_isi, ap_join, ap_app, ap_par, ap_items, ap_zip, ap_dnewT, ap_dnewK, orO_l, orO_r, fits0, fits1, fits2, fits3, fits4, fits5, fits6, fits7, fits8, Option.bind_some, Option.map_some, add_int, sub_int, ltD, leD, gtD, geD, cmpD, intC, rho0, tyName, subT, e1]
  | n + 1, .tup ds, st, h => by
    obtain ⟨hl, hd⟩ : ds.length ≤ 10000 ∧ ∀ d ∈ ds, plain n d := h
    have ep : pairD ds ds = ds.map fun d => .tup [d, d] := by
      unfold pairD
      clear hl hd
      induction ds with
      | nil => rfl
      | cons d ds ih => rw [List.zip_cons_cons, List.map_cons, ih]; rfl
    have key := ci_ok (W := ⟨pairD ds ds, []⟩) (g := gTp 2 (gC (gNm 0) (gC (gNm 1) (gN0)))) (c := mTrue) (m := C_q_law_same_1 (recG 2 B_q_law_same n)) (ds := pairD ds ds) (acc := []) (st := st) (ρ := [none, none])
      (Inv := fun k a ρ s => (∃ x y, ρ = [x, y]) ∧ a = List.replicate k (.bl true) ∧ Gr st s) ⟨⟨none, none, rfl⟩, rfl, Gr.refl _⟩ (fun _ _ _ _ _ _ => rfl) (fun k d a ρ s hk hI => by
        obtain ⟨⟨x, y, rfl⟩, rfl, g⟩ := hI
        rw [ep, List.getElem?_map] at hk
        obtain ⟨e, he, rfl⟩ := map_some' hk
        obtain ⟨s1, e1, g1⟩ := same_ok (st := s) (hd e (List.mem_of_getElem? he))
        refine ⟨[some e, some e], s, true, s, by simp [rho, ap_var, ap_con, ap_bin, ap_tst, ap_notT, ap_andT, ap_orT, ap_andV, ap_orV, ap_notV, ap_call, ap_cons, ap_nil, ap_tup, ap_lst, ap_ret, ap_exp, ap_asg, ap_nm, ap_pass, ap_neg, ap_if, ap_put, ap_sb, ap_tp, ap_gC0, ap_gC, ap_w, ap_r1, ap_true, ap_comp, ap_for, ap_slA, ap_oN, ap_oS, ap_isi, ap_join, ap_app, ap_par, ap_items, ap_zip, ap_dnewT, ap_dnewK, orO_l, orO_r, fits0, fits1, fits2, fits3, fits4, fits5, fits6, fits7, fits8, Option.bind_some, Option.map_some, add_int, sub_int, ltD, leD, gtD, geD, cmpD, intC, rho0], rfl, .inl ⟨rfl, .bl true, s1, ?_, ⟨_, _, rfl⟩, ?_, g.trans g1⟩⟩
        · unfold C_q_law_same_1
          simp [rho, ap_var, ap_con, ap_bin, ap_tst, ap_notT, ap_andT, ap_orT, ap_andV, ap_orV, ap_notV, ap_call, ap_cons, ap_nil, ap_tup, ap_lst, ap_ret, ap_exp, ap_asg, ap_nm, ap_pass, ap_neg, ap_if, ap_put, ap_sb, ap_tp, ap_gC0, ap_gC, ap_w, ap_r1, ap_true, ap_comp, ap_for, ap_slA, ap_oN, ap_oS, ap_isi, ap_join, ap_app, ap_par, ap_items, ap_zip, ap_dnewT, ap_dnewK, orO_l, orO_r, fits0, fits1, fits2, fits3, fits4, fits5, fits6, fits7, fits8, Option.bind_some, Option.map_some, add_int, sub_int, ltD, leD, gtD, geD, cmpD, intC, rho0, e1]
        · rw [← List.replicate_succ'])
    obtain ⟨xs, ρ', s1, e1, _, hx, g1⟩ := key
    rw [List.nil_append] at hx
    subst hx
    have hpl : (pairD ds ds).length = ds.length := by rw [ep, List.length_map]
    rw [hpl] at e1
    have fl : fits ds.length = true := fits_small hl
    have ea : allC [.ref s1.length] (s1 ++ [.lst (List.replicate ds.length (.bl true))]) = some (.bl true, s1 ++ [.lst (List.replicate ds.length (.bl true))]) := by
      unfold allC
      simp only [lstAt, app_at, Option.bind_some, blsOf_true, Option.map_some]
      simp
    refine ⟨s1 ++ [.lst (List.replicate ds.length (.bl true))], fn_rt ?_, g1.trans (Gr.app _ _)⟩
    show B_q_law_same (recG 2 B_q_law_same n) _ _ = _
    generalize recG 2 B_q_law_same n = g at e1 ⊢
    unfold B_q_law_same
    refine seq_rt ?_
    simp [rho, ap_var, ap_con, ap_bin, ap_tst, ap_notT, ap_andT, ap_orT, ap_andV, ap_orV, ap_notV, ap_call, ap_cons, ap_nil, ap_tup, ap_lst, ap_ret, ap_exp, ap_asg, ap_nm, ap_pass, ap_neg, ap_if, ap_put, ap_sb, ap_tp, ap_gC0, ap_gC, ap_w, ap_r1, ap_true, ap_comp, ap_for, ap_slA, ap_oN, ap_oS, ap_isi, ap_join, ap_app, ap_par, ap_items, ap_zip, ap_dnewT, ap_dnewK, orO_l, orO_r, fits0, fits1, fits2, fits3, fits4, fits5, fits6, fits7, fits8, Option.bind_some, Option.map_some, add_int, sub_int, ltD, leD, gtD, geD, cmpD, intC, rho0, tyName, subT, len_tup, eq_int, zipW, seqD, e1, fl, ea]
end L2.MP.Hn
set_option maxHeartbeats 2000000
namespace L2.MP.Hn
open PySem L2.MP
theorem plain_up : ∀ {n m : Nat} {d : D}, plain n d → n ≤ m → plain m d
  | 0, _, _, h, _ => h.elim
  | n + 1, 0, _, _, hm => absurd hm (by omega)
  | n + 1, m + 1, .non, _, _ => trivial
  | n + 1, m + 1, .bl _, _, _ => trivial
  | n + 1, m + 1, .int _, _, _ => trivial
  | n + 1, m + 1, .str _, h, _ => h
  | n + 1, m + 1, .tup ds, h, hm => ⟨h.1, fun d hd => plain_up (h.2 d hd) (by omega)⟩
  | n + 1, m + 1, .ref _, h, _ => h
  | n + 1, m + 1, .kl _, h, _ => h
theorem toPs_some {f : D → Option PyData} : ∀ {ds : List D}, (∀ d ∈ ds, ∃ p, f d = some p ∧ PyData.eqv p p = true) → ∃ ps, toPs f ds = some ps ∧ PyData.eqvAll ps ps = true
  | [], _ => ⟨[], rfl, by simp [PyData.eqvAll]⟩
  | d :: ds, h => by
    obtain ⟨p, e, q⟩ := h d List.mem_cons_self
    obtain ⟨ps, es, qs⟩ := toPs_some fun x hx => h x (List.mem_cons_of_mem _ hx)
    refine ⟨p :: ps, ?_, ?_⟩
    · rw [toPs, e, Option.bind_some, es]; rfl
    · rw [PyData.eqvAll, q, qs]; rfl
theorem plain_toP : ∀ {n : Nat} {d : D} {st : Sto}, plain n d → ∃ p, toP n st d = some p ∧ PyData.eqv p p = true
  | 0, _, _, h => h.elim
  | n + 1, .non, st, _ => ⟨.none, by rw [toP], by simp [PyData.eqv]⟩
  | n + 1, .bl b, st, _ => ⟨.bool b, by rw [toP], by simp [PyData.eqv]⟩
  | n + 1, .int i, st, _ => ⟨.int i, by rw [toP], by simp [PyData.eqv]⟩
  | n + 1, .str x, st, h => ⟨.str x, toP_str h, by simp [PyData.eqv]⟩
  | n + 1, .tup ds, st, h => by
    obtain ⟨ps, e, q⟩ := toPs_some (f := toP n st) fun d hd => plain_toP (st := st) (h.2 d hd)
    refine ⟨.tuple ps, ?_, ?_⟩
    · rw [toP, e]; rfl
    · rw [PyData.eqv]; exact q
  | n + 1, .ref _, _, h => h.elim
  | n + 1, .kl _, _, h => h.elim
theorem ne_same {n : Nat} {d : D} {st : Sto} (h : plain n d) (hn : n ≤ 100) : neD d d st = some (.bl false, st) := by
  obtain ⟨p, e, q⟩ := plain_toP (st := st) (plain_up h hn)
  unfold neD
  rw [e]
  simp [q]
structure Bed.P (b : Bed) : Prop where
  names : ∀ p ∈ b.ho.sticks, PyData.strOk p.1 = true
  few : b.ho.sticks.length ≤ 10000
  kinds : ∀ k ∈ b.ho.kinds, k.length = 5 ∧ ∀ x ∈ k, PyData.strOk x = true
  many : b.ho.kinds.length ≤ 10000
  len : b.ts.length < 64
end L2.MP.Hn
set_option maxHeartbeats 4000000
namespace L2.MP
open PySem PySem.Spec PyProof.Rows
end L2.MP
set_option maxHeartbeats 2000000
namespace L2.MP
open PySem
end L2.MP
namespace L2.MP.Hn
open PySem L2.MP
end L2.MP.Hn
set_option maxHeartbeats 4000000
namespace L2.MP
open PySem PySem.Spec PyProof.Rows
section
set_option maxRecDepth 100000
end
section
variable {X : Cx} {K : PySem.W.Frag} {H : Hp} {io : List Addr} {m : ME} {st st' : Sto}
def enumW (x : D) (s : Sto) : Option (Wk × Sto) := (seqD s x).map fun (a, f) => (⟨pairs a, f⟩, s)
def mEnum (m : ME) : MI := fun ρ st => (m ρ st).bind fun (x, s1) => enumW x s1
end
end L2.MP
set_option maxHeartbeats 4000000
namespace L2.MP
open PySem PySem.Spec PyProof.Rows
section
variable {X : Cx} {K : PySem.W.Frag} {H : Hp} {io : List Addr} {m : ME} {st st' : Sto}
theorem ap_enum {ρ : Rho} : mEnum m ρ st = (m ρ st).bind fun p => enumW p.1 p.2 := rfl
end
end L2.MP
set_option maxHeartbeats 4000000
namespace L2.MP
open PySem PySem.Spec PyProof.Rows
section
variable {X : Cx} {K : PySem.W.Frag} {H : Hp} {io : List Addr} {m ma mb mc : ME} {st st' : Sto} {a b c : Expr} {pos : Pos}
def mChain (g g' : G2) (ma mb mc : ME) : ME := fun ρ st => (ma ρ st).bind fun (x, s1) => (mb ρ s1).bind fun (y, s2) => (g x y s2).bind fun (z, s3) => match z with
  | .bl q => if q = true then (mc ρ s3).bind fun (w, s4) => g' y w s4 else some (.bl false, s3)
  | _ => none
theorem chain_sound {g g' : G2} {σ : L2.St} {H : Hp} {Q : VK} (h : tE K (mChain g g' ma mb mc) σ H Q) : tChain (r2M K g) (r2M K g') (tE K ma) (tE K mb) (tE K mc) σ H Q := by
  obtain ⟨ρ, st, io, d, st', E, S, e, k⟩ := h
  obtain ⟨⟨x, s1⟩, e1, e⟩ := ob_bind e
  obtain ⟨⟨y, s2⟩, e2, e⟩ := ob_bind e
  obtain ⟨⟨z, s3⟩, e3, e⟩ := ob_bind e
  refine ⟨ρ, st, io, x, s1, E, S, e1, fun v1 H1 k1 X1 S1 R1 => ?_⟩
  refine ⟨ρ, s1, io ++ k1, y, s2, E.ext S X1, S1, e2, fun v2 H2 k2 X2 S2 R2 => ?_⟩
  refine ⟨x, y, s2, (io ++ k1) ++ k2, z, s3, R1.ext S1 X2, R2, S2, e3, fun v3 H3 k3 X3 S3 R3 => ?_⟩
  have k' := ((k.on S1 X1).on S2 X2).on S3 X3
  dsimp only at e
  split at e
  · rename_i q
    refine ⟨q, R3, ?_⟩
    cases q with
    | true =>
      rw [if_pos rfl] at e ⊢
      obtain ⟨⟨w, s4⟩, e4, e5⟩ := ob_bind e
      refine ⟨ρ, s3, ((io ++ k1) ++ k2) ++ k3, w, s4, ((E.ext S X1).ext S1 X2).ext S2 X3, S3, e4, fun v4 H4 k4 X4 S4 R4 => ?_⟩
      exact ⟨y, w, s4, (((io ++ k1) ++ k2) ++ k3) ++ k4, d, st', (R2.ext S2 X3).ext S3 X4, R4, S4, e5, k'.on S4 X4⟩
    | false =>
      rw [if_neg Bool.false_ne_true] at e ⊢
      cases e
      exact Bh.now k' S3 rfl
  · cases e
theorem sb_chain {op op' : CmpOp} {g g' : G2} (ho : OpM X (compareOp op) g) (ho' : OpM X (compareOp op') g') (ha : SE X a ma) (hb : SE X b mb) (hc : SE X c mc) (hm : lastMarks [op, op'] [b, c] = false := by with_unfolding_all rfl) :
    SB X (.Compare a [op, op'] [b, c] pos) (mTst (mChain g g' ma mb mc)) := PT.imp (pt_chain ho ho' ha hb hc hm) fun _ _ _ h => chain_sound (tst_sound h)
end
end L2.MP
set_option maxHeartbeats 4000000
namespace L2.MP
open PySem PySem.Spec PyProof.Rows
end L2.MP
set_option maxHeartbeats 4000000
namespace L2.MP
open PySem PySem.Spec PyProof.Rows
end L2.MP
set_option maxHeartbeats 4000000
set_option maxRecDepth 100000
namespace L2.MP
open PySem PySem.Spec PyProof.Rows
section
variable {prog : Program} {w : World} {A : Around} {E : Value → Shared → Prop} {s : Shared} {a : Addr}
def PairAt (prog : Program) (w : World) (h : Heap) (v : Value) (kv : Key × Value) : Prop := ∃ p kx, v = .ref p ∧ IsTup h p #[kx, kv.2] ∧ (mixKind prog w).is kv.1 kx = true
theorem PairAt.keep {h h' : Heap} {v : Value} {kv : Key × Value} (q : PairAt prog w h v kv) (k : ∀ b o, v = .ref b → h.get? b = some o → h'.get? b = some o) : PairAt prog w h' v kv := by
  obtain ⟨p, kx, rfl, ⟨o, g, c⟩, i⟩ := q
  exact ⟨p, kx, rfl, ⟨o, k p o rfl g, c⟩, i⟩
end
end L2.MP
set_option maxHeartbeats 4000000
set_option maxRecDepth 100000
namespace L2.MP
open PySem PySem.Spec PyProof.Rows
end L2.MP
set_option maxHeartbeats 4000000
namespace L2.MP
open PySem PySem.Spec PyProof.Rows
end L2.MP
set_option maxHeartbeats 4000000
namespace L2.MP
open PySem PySem.Spec PyProof.Rows
def Itw (n : Nat) (f : Nat → Option V) : It := ⟨fun i _ => i < n, fun i H v H' => H' = H ∧ f i = some v, fun i _ => n ≤ i⟩
def keepsTuple : List String := ["enumerate", "zip", "dict_itemiterator", "dict_reverseitemiterator", "odict_iterator", "itertools.zip_longest", "itertools.pairwise"]
theorem turn_walks {P : Program} {w : World} {K : PySem.W.Frag} {tg : Expr} (it : Addr) (n : Nat) (f : Nat → Option V) {R : Nat → Value → Prop} {T : Nat → Heap → Prop} (W : ∀ A : Around, A.handled = none → Walks P w A it [it] [it] n R T)
    (hr : ∀ i v, R i v → ∃ x, f i = some x ∧ RelV x v) (hob : ∀ i h, T i h → ∃ o nm vs, h.get? it = some o ∧ o.cls = .type nm ∧ o.data = .fields vs ∧ keepsTuple.contains nm = false)
    (hself : ∀ (A : Around) (i : Nat) (s : Shared) (Q : Value → Shared → Prop) (E : Value → Shared → Prop), T i s.heap → Q (.ref it) s → wpAny (model P w) A (pyIter (.ref it)) Q E s) :
    Turn P w K tg (Itw n f) [it] it (fun i h => i ≤ n ∧ T i h) where
  mem := by simp
  obj := fun i h st b hb => by
    have e : b = it := by simpa using hb
    subst e
    obtain ⟨o, nm, vs, e, c, d, _⟩ := hob i h st.2
    exact ⟨o, e, fun v z => by rw [d] at z; cases z⟩
  keep := fun i h h' st k => ⟨st.1, (W {} rfl).frame i h h' st.2 k⟩
  item := by
    intro X hP hw hK hc i pins s σ H E I hf st hg
    subst hP hw hK
    obtain ⟨f0, f1, f2, f3, f4, f5⟩ := hf it (by simp)
    refine (W X.A (I.ok.hd hc)).item i s _ _ hg st.2 fun v h' tk hv st' kk => ?_
    obtain ⟨x, hx, rx⟩ := hr i v hv
    have I1 : Inv X pins σ H { s with heap := h', toks := tk } := I.turned (fun b o hb e => kk b o (by simpa using hb) e) f0 f1 f3 f4 f5
    obtain ⟨o, nm, vs, e, c, d, hn⟩ := hob (i + 1) h' st'
    exact ⟨_, rfl, go_of (s := { s with heap := h', toks := tk }) e c d hn ⟨x, H, I1, rx, ⟨rfl, hx⟩, ⟨hg, st'⟩, fun b hb => (hf b hb).1⟩⟩
  done := by
    intro X hP hw hK hc i pins s σ H E I hf st hg
    subst hP hw hK
    obtain ⟨f0, f1, f2, f3, f4, f5⟩ := hf it (by simp)
    have e : i = n := Nat.le_antisymm st.1 hg
    subst e
    exact (W X.A (I.ok.hd hc)).done s _ _ st.2 fun h' tk kk => ⟨rfl, I.turned (fun b o hb e => kk b o (by simpa using hb) e) f0 f1 f3 f4 f5⟩
  self := fun A i s Q E st h => hself A i s Q E st.2 h
theorem itw_ok {K : PySem.W.Frag} {H : Hp} {io : List Addr} {ds : List D} {n : Nat} {f : Nat → Option V} (hn : n = ds.length) (hf : ∀ i d, ds[i]? = some d → ∃ v, f i = some v ∧ ∀ H io, Rep K H io v d) : ItOk K H io ⟨ds, []⟩ (Itw n f) where
  go := fun i d H1 k1 s hd X1 S1 hs => by
    have hi : i < ds.length := (List.getElem?_eq_some_iff.mp hd).1
    refine ⟨by show i < n; omega, fun x H' y => ?_⟩
    obtain ⟨rfl, y⟩ := y
    obtain ⟨v, hv, rv⟩ := hf i d hd
    rw [hv] at y
    cases y
    exact ⟨Ext.refl, S1, rv _ _⟩
  stop := fun H1 k1 s X1 S1 hs => by show n ≤ ds.length; omega
  stop' := fun H1 k1 s i hi X1 S1 hs => by
    show n ≤ i
    have hi : ds.length ≤ i := hi
    omega
section
variable {X : Cx} {K : PySem.W.Frag} {H : Hp} {io : List Addr} {st st' : Sto} {a b c e : Expr} {es : List Expr} {ma mb mc m : ME} {mm : MA} {mt : MT} {ms : MS} {pos : Pos} {tg : Expr} {body : List Stmt}
def signs (z : Str) : List D := z.cps.toList.map fun c => D.str ⟨#[c]⟩
def signV (z : Str) (i : Nat) : Option V := z.cps[i]?.map fun c => V.str ⟨#[c]⟩
theorem walks_str {P : Program} {w : World} {A : Around} (hh : A.handled = none) (I : Addr) (x : Str) (t : Tok) : Walks P w A I [I] [I] x.cps.size (SignAt x) (fun i h => h.IsStrIter I (strIterType x) x t i) := by
  unfold strIterType
  cases x.cps.all (· < 128)
  · exact Walks.strWide hh I x t
  · exact Walks.strAscii hh I x t
theorem turn_str {P : Program} {w : World} {K : PySem.W.Frag} {tg : Expr} (it : Addr) (x : Str) (t : Tok) : Turn P w K tg (Itw x.cps.size (signV x)) [it] it (fun i h => i ≤ x.cps.size ∧ h.IsStrIter it (strIterType x) x t i) :=
  turn_walks it x.cps.size (signV x) (fun A hA => walks_str hA it x t) (fun i v ⟨c, u, hc, hv⟩ => ⟨.str ⟨#[c]⟩, by unfold signV; rw [hc]; rfl, u, hv⟩)
    (fun i h ⟨o, e, c, d⟩ => ⟨o, _, _, e, c, d, by unfold strIterType; split <;> decide⟩) fun A i s Q E st h => by
      unfold strIterType at st
      split at st
      · exact wpAny_pyIter_striter_ascii st h
      · exact wpAny_pyIter_striter_wide st h
def iStr (tl : TE) : TI := fun σ H R => tl σ H fun x H1 => ∃ z, x = .str z ∧ R (Itw z.cps.size (signV z)) H1
theorem pi_str {l : Expr} {tl : TE} (hl : PE X l tl) : PI X tg l (iStr tl) := by
  intro pins s σ H R I h
  refine thn (hl pins s σ H _ I h) fun v s1 ⟨x, H1, I1, r1, q1⟩ => ?_
  obtain ⟨z, e, q⟩ := q1
  subst e
  obtain ⟨t, rfl⟩ := r1
  refine wpAny_pyIter_strU ?_
  refine ⟨s1.heap.objs.size, [s1.heap.objs.size], _, _, H1, rfl, I1.kept (t' := s1.toks) fun b o e => Heap.get?_push_of_some _ e, turn_str _ z t, ⟨Nat.zero_le _, _, Heap.get?_push_size _ rfl, rfl, rfl⟩, fun b hb => ?_, q⟩
  have e : b = s1.heap.objs.size := by simpa using hb
  subst e
  exact I1.fpOk (Nat.le_refl _) (I1.hok.fresh (Nat.le_refl _))
theorem signs_get {z : Str} {i : Nat} {d : D} (h : (signs z)[i]? = some d) : ∃ v, signV z i = some v ∧ ∀ H io, Rep K H io v d := by
  unfold signs at h
  rw [List.getElem?_map] at h
  obtain ⟨c, hc, e⟩ := map_some' h
  subst e
  refine ⟨.str ⟨#[c]⟩, ?_, fun H io => rfl⟩
  unfold signV
  rw [Array.getElem?_toList] at hc
  rw [hc]
  rfl
theorem signs_len (z : Str) : z.cps.size = (signs z).length := by unfold signs; rw [List.length_map, Array.length_toList]
def mWS (m : ME) : MI := fun ρ st => (m ρ st).bind fun (d, s) => match d with
  | .str z => some (⟨signs z, []⟩, s)
  | _ => none
theorem si_str {l : Expr} (hl : SE X l m) : SI X tg l (mWS m) := PI.imp (pi_str hl) fun σ H R ⟨ρ, st, io, W, st', E, S, e, k⟩ => by
  obtain ⟨⟨d, s1⟩, e1, e⟩ := ob_bind e
  dsimp only at e
  split at e
  · rename_i z
    cases e
    refine ⟨ρ, st, io, _, _, E, S, e1, fun v H1 k1 X1 S1 R1 => ?_⟩
    exact ⟨z, R1, k _ H1 k1 X1 S1 (itw_ok (signs_len z) fun i d h => signs_get h)⟩
  · cases e
def mWA (m : ME) : MI := fun ρ st => (m ρ st).bind fun (d, s) => orO (walkD d s) (match d with | .str z => some (⟨signs z, []⟩, s) | _ => none)
theorem si_walkA {l : Expr} (hl : SE X l m) : SI X tg l (mWA m) := by
  intro pins s σ H R I ⟨ρ, st, io, W, st', E, S, e0, k⟩
  obtain ⟨⟨d, s1⟩, e1, e0⟩ := ob_bind e0
  rcases orO_some e0 with e0 | e0
  · exact si_walk hl pins s σ H R I ⟨ρ, st, io, W, st', E, S, by unfold mW; rw [e1]; exact e0, k⟩
  · exact si_str hl pins s σ H R I ⟨ρ, st, io, W, st', E, S, by unfold mWS; rw [e1]; exact e0, k⟩
end
end L2.MP
set_option maxHeartbeats 4000000
namespace L2.MP
open PySem PySem.Spec PyProof.Rows
section
variable {X : Cx} {K : PySem.W.Frag} {H : Hp} {io : List Addr} {st st' : Sto} {a b c e : Expr} {es : List Expr} {ma mb mc m : ME} {mm : MA} {mt : MT} {ms : MS} {pos : Pos} {tg : Expr} {body : List Stmt}
def mMetS (g : D → List D → Sto → Option (D × Sto)) (m : ME) (mm : MA) : ME := fun ρ st => (m ρ st).bind fun (x, s1) => match x with
  | .str _ => (mm ρ s1).bind fun (xs, s2) => g x xs s2
  | _ => none
theorem metS_sound {g : D → List D → Sto → Option (D × Sto)} {σ : L2.St} {H : Hp} {Q : VK} (h : tE K (mMetS g m mm) σ H Q) : tBM K "str" (mtM K g) (tE K m) (tA K mm) σ H Q := by
  obtain ⟨ρ, st, io, d, st', E, S, e, k⟩ := h
  obtain ⟨⟨x, s1⟩, e1, e⟩ := ob_bind e
  cases x with
  | str z =>
    obtain ⟨⟨xs, s2⟩, e2, e⟩ := ob_bind e
    refine ⟨ρ, st, io, _, s1, E, S, e1, fun v1 H1 k1 X1 S1 R1 => ⟨by cases (show v1 = .str z from R1); rfl, ρ, s1, io ++ k1, xs, s2, E.ext S X1, S1, e2, fun vs H2 k2 X2 S2 R2 => ?_⟩⟩
    exact ⟨_, xs, s2, (io ++ k1) ++ k2, d, st', R1.ext S1 X2, R2, S2, e, (k.on S1 X1).on S2 X2⟩
  | _ => cases e
theorem se_metS {name : Str} {id : String} {g : D → List D → Sto → Option (D × Sto)} {o : Expr} {apos cpos : Pos} (slot : Slot "str" name id) (hty : typeOf (.builtin id) = pure (.type "method_descriptor")) (hm : MtR X id (mtM X.K g)) (ho : SE X o m) (ha : SA X (e :: es) mm)
    (hbase : attributeBase o name X.env (eval o X.env) = eval o X.env := by rfl)
    (hfew : ((backTo cpos (starEach (e :: es) X.env)).all (fun x => !x.1) && (backToKw cpos (keywordEach [] X.env)).all (fun x => x.1.isSome)
      && decide ((e :: es).length + ([] : List Keyword).length + (if ([] : List Keyword).isEmpty then 0 else 1) < 30)) = true := by rfl)
    (hline : (apos.endLine == cpos.line) = true := by rfl) (hs : starEach (e :: es) X.env = (false, eval e X.env) :: starEach es X.env := by rfl) (hplain : (backTo cpos (starEach es X.env)).any (·.1) = false := by rfl) :
    SE X (.Call (.Attribute o name apos) (e :: es) [] cpos) (mMetS g m mm) :=
  PE.imp (pe_bm PySem.F.plainAttrs_str slot hty hm ho ha hbase hfew hline hs hplain) fun σ H Q h => metS_sound h
def slK : D → Option Int → Option Int → Sto → Option (D × Sto) := fun x lo hi st => match x with
  | .kl ds => some (.ref st.length, st ++ [.lst (cutD ds lo hi)])
  | _ => none
def slB : D → Option Int → Option Int → Sto → Option (D × Sto) := fun x lo hi st => orO (slA x lo hi st) (slK x lo hi st)
def mSlB (m : ME) (l h : MO) : ME := fun ρ st => (m ρ st).bind fun (x, s1) => (l ρ s1).bind fun (lo, s2) => (h ρ s2).bind fun (hi, s3) => slB x lo hi s3
theorem se_sliceB {lo hi : Option Expr} {ml mh : MO} {p2 : Pos} (he : SE X e m) (hl : SO X lo ml) (hu : SO X hi mh) : SE X (.Subscript e (.Slice lo hi none p2) pos) (mSlB m ml mh) := by
  intro pins s σ H Q I ⟨ρ, st, io, d, st', E, S, e0, k⟩
  obtain ⟨⟨x, s1⟩, e1, e0⟩ := ob_bind e0
  obtain ⟨⟨lo', s2⟩, e2, e0⟩ := ob_bind e0
  obtain ⟨⟨hi', s3⟩, e3, e0⟩ := ob_bind e0
  rcases orO_some e0 with e0 | e0
  · exact se_sliceA he hl hu pins s σ H Q I ⟨ρ, st, io, d, st', E, S, by simp only [mSlA, e1, e2, e3, Option.bind_some]; exact e0, k⟩
  · refine pe_slice sl_list he hl hu pins s σ H Q I ?_
    refine ⟨ρ, st, io, x, s1, E, S, e1, fun v1 H1 k1 X1 S1 R1 => ⟨ρ, s1, io ++ k1, lo', s2, E.ext S X1, S1, e2, fun H2 k2 X2 S2 => ⟨ρ, s2, (io ++ k1) ++ k2, hi', s3, (E.ext S X1).ext S1 X2, S2, e3, fun H3 k3 X3 S3 => ?_⟩⟩⟩
    have R3 := (R1.ext S1 X2).ext S2 X3
    have k' := ((k.on S1 X1).on S2 X2).on S3 X3
    cases x with
    | kl ds =>
      cases e0
      obtain ⟨p, xs, rfl, hx, r⟩ := R3
      exact ⟨p, xs, rfl, hx.sq, fun q hq => k'.lst S3 (cut_rep r _ _) hq⟩
    | _ => cases e0
def notInSD : G2
  | .str i, .str j, st => some (.bl (!(!(Builtin.Str.occurrences j i 0 j.length 1).isEmpty)), st)
  | _, _, _ => none
theorem op_notInSM : OpM X (compareOp .NotIn) notInSD := by
  intro pins s σ H x y v u Q I rx ry ⟨dx, dy, st, io, d, st', Rx, Ry, S, e, k⟩
  cases dx with
  | str i =>
    cases dy with
    | str j => cases e; exact op_notin_str pins s σ H x y v u Q I rx ry ⟨i, j, Rx, Ry, k.now S rfl⟩
    | _ => cases e
  | _ => cases e
def notInB : G2 := orG notInA notInSD
theorem se_notInB (hu : X.A.units + 100 < cLine) (ha : SE X a ma) (hb : SE X b mb) (hm : behindInMarks .NotIn b = false := by rfl) : SE X (.Compare a [.NotIn] [b] pos) (mBin notInB ma mb) :=
  se_orB (se_notInA hu ha hb hm) (se_cmp op_notInSM ha hb hm)
end
end L2.MP
set_option maxHeartbeats 4000000
set_option maxRecDepth 100000
namespace PySem.F
end PySem.F
set_option maxHeartbeats 4000000
set_option maxRecDepth 100000
namespace PySem
open Builtin
section
variable {prog : Program} {w : World} {A : Around} {E : Value → Shared → Prop} {s : Shared}
def IsRvs (h : Heap) (a : Addr) (x : Str) (t : Tok) (i : Int) : Prop := ∃ o, h.get? a = some o ∧ o.cls = .type "reversed" ∧ o.data = .fields #[.str x t, rawInt i]
theorem IsRvs.ty {a : Addr} {x : Str} {t : Tok} {i : Int} (y : IsRvs s.heap a x t i) : s.TypeIs (.ref a) "reversed" := let ⟨o, ho, hc, _⟩ := y; ⟨o, ho, hc⟩
end
end PySem
namespace L2.MP
open PySem PySem.Spec PyProof.Rows
end L2.MP
set_option maxHeartbeats 4000000
namespace L2.MP
open PySem PySem.Spec PyProof.Rows
section
variable {ρ ρ1 : Rho} {st s1 : Sto} {m n o ma mb : ME} {mm : MA} {ms mq : MS} {mt mu : MT} {d : D} {ml mh : MO}
theorem ap_wA : mWA m ρ st = (m ρ st).bind fun p => orO (walkD p.1 p.2) (match p.1 with | .str z => some (⟨signs z, []⟩, p.2) | _ => none) := rfl
theorem ap_metS {g : D → List D → Sto → Option (D × Sto)} : mMetS g m mm ρ st = (m ρ st).bind fun p => match p.1 with
  | .str _ => (mm ρ p.2).bind fun q => g p.1 q.1 q.2
  | _ => none := rfl
theorem ap_slB : mSlB m ml mh ρ st = (m ρ st).bind fun p => (ml ρ p.2).bind fun q => (mh ρ q.2).bind fun r => slB p.1 q.1 r.1 r.2 := rfl
end
end L2.MP
set_option maxHeartbeats 4000000
namespace L2.MP
open PySem PySem.Spec PyProof.Rows
section
variable {X : Cx} {K : PySem.W.Frag} {H : Hp} {io : List Addr} {st st' : Sto} {a b c e : Expr} {es : List Expr} {ma mb mc m : ME} {mm : MA} {pos : Pos} {pins : List (Addr × Obj)} {σ : L2.St} {s : Shared}
def intsL : List D → Option (List Int)
  | [] => some []
  | .int i :: r => (intsL r).map fun is => i :: is
  | _ => none
end
end L2.MP
set_option maxHeartbeats 4000000
namespace L2.MP
open PySem PySem.Spec PyProof.Rows
end L2.MP
set_option maxHeartbeats 4000000
namespace L2.MP
open PySem PySem.Spec PyProof.Rows
end L2.MP
set_option maxHeartbeats 4000000
set_option maxRecDepth 100000
namespace L2.MP
open PySem PySem.Spec PyProof.Rows
end L2.MP
set_option maxHeartbeats 4000000
set_option maxRecDepth 100000
namespace L2.MP
open PySem PySem.Spec PyProof.Rows
end L2.MP
set_option maxHeartbeats 4000000
set_option maxRecDepth 100000
namespace L2.MP
open PySem PySem.Spec PyProof.Rows
end L2.MP
set_option maxHeartbeats 4000000
set_option maxRecDepth 100000
namespace L2.MP
open PySem PySem.Spec PyProof.Rows
end L2.MP
set_option maxHeartbeats 4000000
set_option maxRecDepth 100000
namespace L2.MP
open PySem PySem.Spec PyProof.Rows
end L2.MP
set_option maxHeartbeats 4000000
namespace L2.MP
open PySem PySem.Spec PyProof.Rows
end L2.MP
set_option maxHeartbeats 4000000
namespace L2.MP
open PySem PySem.Spec PyProof.Rows
section
variable {X : Cx} {K : PySem.W.Frag} {H : Hp} {io : List Addr} {st st' : Sto} {a b c e : Expr} {es : List Expr} {ma mb mc m : ME} {mm : MA} {pos : Pos}
theorem se_gint {x : Str} {z : Int} {t : Tok} {pos : Pos} (hg : Gl X x) (hm : X.mg x = some (.int z t)) (hd : (x == ("__debug__" : Str)) = false := by decide) : SE X (.Name x pos) (mCon (.int z)) :=
  PE.imp (pe_glob hg hm (v := .int z) ⟨t, rfl⟩ hd) fun σ H Q ⟨ρ, st, io, d, st', E, S, e, k⟩ => by
    cases e; exact k.now S rfl
def lowBits (i : Int) : Bool := decide (i.natAbs.log2 < 1920)
def strC : GN
  | [.str x], st => some (.str x, st)
  | [.int i], st => if lowBits i = true then some (.str (toString i), st) else none
  | _, _ => none
theorem call_strM : CallM X (.type "str") strC := by
  intro pins s σ H xs us Q I r ⟨ds, st, io, d, st', R, S, e, k⟩
  unfold strC at e
  split at e
  · rename_i x
    cases e
    obtain ⟨v, rfl, rv⟩ := R.one
    cases (show v = .str x from rv)
    obtain ⟨u, rfl, t, rfl⟩ := r.one
    exact PySem.P.str_of_str ⟨.str x, H, I, ⟨t, rfl⟩, k.now S rfl⟩
  · rename_i i
    obtain ⟨hf, e⟩ := ite_some e
    cases e
    obtain ⟨v, rfl, rv⟩ := R.one
    cases (show v = .int i from rv)
    exact call_str_int pins s σ H _ us Q I r ⟨i, rfl, of_decide_eq_true hf, k.now S rfl⟩
  · cases e
end
end L2.MP
set_option maxHeartbeats 4000000
namespace L2.MP
section
open PySem PySem.Spec PyProof.Rows PySem.Builtin PySem.Builtin.Str
variable {prog : Program} {w : World} {A : Around} {E : Value → Shared → Prop} {s : Shared} {z y : Str} {t u : Tok} {Q : Value → Shared → Prop}
theorem split_wp (hy : (y.length == 0) = false) (hz : z.length + 2 ≤ sizeLine)
    (k : ∀ (ps : List (Str × Tok)) (n : Nat), ps.map (·.1) = Txt.split z y → Q (.ref s.heap.objs.size) { s with heap := s.heap.push { cls := .type "list", data := .seq (strValues ps).toArray }, toks := n }) :
    wpAny (model prog w) A (call (.builtin "str.split") [.str z t, .str y u]) Q E s := by
  have few : (partsBetween z (occurrences z y 0 z.length (z.length + 1)) y.length).length ≤ sizeLine := by
    have := StrLaws.occ_length_le z y 0 z.length (z.length + 1)
    rw [length_partsBetween]
    omega
  by_cases c1 : (decide (z.length < y.length) || decide (strKind z < strKind y)) = true
  · refine call_meets F.slot_str_split (typeIs_str _ _ _) F.entry_str_split (F.args_str_split_2 _ _) (meets_str_split_cannot_occur z y t u c1) ?_
    exact k [(z, t)] s.toks (if_pos c1).symm
  · have c1' := Bool.eq_false_iff.mpr c1
    by_cases c2 : (occurrences z y 0 z.length (z.length + 1)).isEmpty = true
    · refine call_meets F.slot_str_split (typeIs_str _ _ _) F.entry_str_split (F.args_str_split_2 _ _) (meets_str_split_not_found z y t u c1' hy c2) ?_
      exact k [(z, t)] s.toks ((if_neg c1).trans (if_pos c2)).symm
    · refine call_meets F.slot_str_split (typeIs_str _ _ _) F.entry_str_split (F.args_str_split_2 _ _) (meets_str_split_sep z y t u c1' hy (Bool.eq_false_iff.mpr c2) (by omega) few) ?_
      have q := k (numbered s.toks (partsBetween z (occurrences z y 0 z.length (z.length + 1)) y.length)) (s.toks + (partsBetween z (occurrences z y 0 z.length (z.length + 1)) y.length).length) ((numbered_texts _ _).trans ((if_neg c1).trans (if_neg c2)).symm)
      rw [← strsFrom_eq] at q
      exact q
theorem strVals : ∀ ps : List (Str × Tok), Vals (ps.map fun p => V.str p.1) (strValues ps)
  | [] => .nil
  | p :: ps => .cons ⟨p.2, rfl⟩ (strVals ps)
end
section
open PySem PySem.Spec PyProof.Rows
variable {X : Cx} {K : PySem.W.Frag} {H : Hp} {io : List Addr} {st st' : Sto} {a b c e : Expr} {es : List Expr} {ma mb mc m : ME} {mm : MA} {pos : Pos}
def splitD : D → List D → Sto → Option (D × Sto) := fun x xs st => match x, xs with
  | .str z, [.str y] => if (!(y.length == 0) && fits (z.length + 2) && fits (Txt.split z y).length) = true then some (.ref st.length, st ++ [.lst ((Txt.split z y).map D.str)]) else none
  | _, _ => none
theorem mt_splitM : MtR X "str.split" (mtM X.K splitD) := by
  intro pins s σ H x xs v us Q I rx rs ⟨dx, ds, st, io, d, st', Rx, Rs, S, e, k⟩
  unfold splitD at e
  split at e
  · rename_i z y
    obtain ⟨hf, e⟩ := ite_some e
    cases e
    rw [Bool.and_eq_true, Bool.and_eq_true] at hf
    have h1 : (y.length == 0) = false := by simpa using hf.1.1
    have h2 : z.length + 2 ≤ sizeLine := of_decide_eq_true hf.1.2
    have h3 : (Txt.split z y).length ≤ sizeLine := of_decide_eq_true hf.2
    cases (show x = .str z from Rx)
    obtain ⟨w, rfl, Rw⟩ := Rs.one
    cases (show w = .str y from Rw)
    obtain ⟨t, rfl⟩ := rx
    obtain ⟨u, rfl, ru⟩ := Vals.one rs
    obtain ⟨t', rfl⟩ := ru
    refine split_wp h1 h2 fun ps n hp => ?_
    have e1 : (ps.map fun p => V.str p.1) = (Txt.split z y).map V.str := by rw [← hp, List.map_map]; rfl
    have hv := strVals ps
    rw [e1] at hv
    refine ⟨.ref s.heap.objs.size, upd H s.heap.objs.size (.lst ((Txt.split z y).map V.str)), I.lnew (t' := n) hv (by rw [List.length_map]; exact h3), rfl, ?_⟩
    exact k.lst S (strs_reps _) (I.hok.fresh (Nat.le_refl _))
  · cases e
end
end L2.MP
namespace L2.MP
open PySem
theorem loop_rt {W : Wk} {g : MG} {m : MS} {d r : D} {ds : List D} {ρ ρ1 : Rho} {st s1 s2 : Sto} (wk : walked W st = true) (e1 : g d ρ st = some (ρ1, s1)) (e2 : m ρ1 s1 = some (.rt r, s2)) : mLoop W g m (d :: ds) ρ st = some (.rt r, s2) := by
  unfold mLoop
  rw [if_pos wk, e1]
  simp only [Option.bind_some, e2]
theorem loop_nx {W : Wk} {g : MG} {m : MS} {d : D} {ds : List D} {ρ ρ1 ρ2 : Rho} {st s1 s2 : Sto} (wk : walked W st = true) (e1 : g d ρ st = some (ρ1, s1)) (e2 : m ρ1 s1 = some (.nx ρ2, s2)) : mLoop W g m (d :: ds) ρ st = mLoop W g m ds ρ2 s2 := by
  conv => lhs; unfold mLoop
  rw [if_pos wk, e1]
  simp only [Option.bind_some, e2]
end L2.MP
set_option maxHeartbeats 4000000
namespace L2.MP
open PySem PySem.Spec PyProof.Rows
section
variable {X : Cx} {K : PySem.W.Frag} {H : Hp} {io : List Addr} {st st' : Sto}
def intTC : GN
  | [.str x], st => if decide (x.length ≤ 640) = true then (PySem.intText? x).map fun n => (.int n, st) else none
  | _, _ => none
theorem call_intTM : CallM X (.type "int") intTC := by
  intro pins s σ H xs us Q I r ⟨ds, st, io, d, st', R, S, e, k⟩
  unfold intTC at e
  split at e
  · rename_i x
    obtain ⟨hf, e⟩ := ite_some e
    obtain ⟨n, e1, e⟩ := map_some' e
    cases e
    obtain ⟨v, rfl, rv⟩ := R.one
    cases (show v = .str x from rv)
    obtain ⟨u, rfl, t, rfl⟩ := r.one
    exact PySem.W.KIN.call_text e1 (of_decide_eq_true hf) ⟨.int n, H, I.tok _, ⟨_, rfl⟩, k.now S rfl⟩
  · cases e
def intA : GN := orN intC intTC
theorem call_intA : CallM X (.type "int") intA := call_orM call_intM call_intTM
end
end L2.MP
set_option maxHeartbeats 4000000
namespace L2.MP
open PySem PySem.Spec PyProof.Rows
section
variable {X : Cx} {K : PySem.W.Frag} {H : Hp} {io : List Addr} {st st' : Sto}
def stripD : D → List D → Sto → Option (D × Sto) := fun x xs st => match x, xs with
  | .str z, [.str y] => if fits z.length = true then some (.str (Txt.stripChars z y), st) else none
  | _, _ => none
theorem mt_stripM : MtR X "str.strip" (mtM X.K stripD) := by
  intro pins s σ H x xs v us Q I rx rs ⟨dx, ds, st, io, d, st', Rx, Rs, S, e, k⟩
  unfold stripD at e
  split at e
  · rename_i z y
    obtain ⟨hf, e⟩ := ite_some e
    cases e
    cases (show x = .str z from Rx)
    obtain ⟨w, rfl, Rw⟩ := Rs.one
    cases (show w = .str y from Rw)
    obtain ⟨t, rfl⟩ := rx
    obtain ⟨u, rfl, ru⟩ := Vals.one rs
    obtain ⟨t', rfl⟩ := ru
    exact PySem.SC.stripChars (fun t' n => ⟨.str _, H, I.tok _, ⟨t', rfl⟩, k.now S rfl⟩) (of_decide_eq_true hf)
  · cases e
def maxOf : List Int → Int
  | [] => 0
  | x :: xs => xs.foldl max x
theorem foldl_max : ∀ (xs : List Int) (x : Int), (xs.foldl max x = x ∨ xs.foldl max x ∈ xs) ∧ x ≤ xs.foldl max x ∧ ∀ a ∈ xs, a ≤ xs.foldl max x
  | [], x => ⟨.inl rfl, Int.le_refl _, by simp⟩
  | y :: xs, x => by
    obtain ⟨h1, h2, h3⟩ := foldl_max xs (max x y)
    rw [List.foldl_cons]
    refine ⟨?_, by omega, fun a ha => ?_⟩
    · rcases h1 with h1 | h1
      · rw [h1]
        by_cases h : x ≤ y
        · exact .inr (by rw [show max x y = y by omega]; exact List.mem_cons_self)
        · exact .inl (by omega)
      · exact .inr (List.mem_cons_of_mem _ h1)
    · rcases List.mem_cons.mp ha with rfl | ha
      · omega
      · exact h3 a ha
theorem maxOf_is {ns : List Int} {M : Int} (h1 : M ∈ ns) (h2 : ∀ a ∈ ns, a ≤ M) : M = maxOf ns := by
  match ns, h1 with
  | x :: xs, h1 =>
    obtain ⟨q1, q2, q3⟩ := foldl_max xs x
    have a1 : M ≤ xs.foldl max x := by
      rcases List.mem_cons.mp h1 with rfl | h
      · exact q2
      · exact q3 M h
    have a2 : xs.foldl max x ≤ M := by
      rcases q1 with q1 | q1
      · rw [q1]; exact h2 x List.mem_cons_self
      · exact h2 _ (List.mem_cons_of_mem _ q1)
    show M = xs.foldl max x
    omega
def maxL : GN
  | [.ref n], st => (lstAt st n).bind fun ds => (intsL ds).bind fun ns => if (!ns.isEmpty) = true then some (.int (maxOf ns), st) else none
  | _, _ => none
theorem intsAre_of : ∀ {ys : List V} {its : List Value} {ds : List D} {ns : List Int}, Reps K H io ys ds → Vals ys its → intsL ds = some ns → IntsAre its ns
  | _, _, [], ns, h, r, e => by
    cases e
    cases (show _ = [] from h)
    cases r
    exact .nil
  | _, _, d :: ds, ns, h, r, e => by
    obtain ⟨y, ys, rfl, h1, h2⟩ := h
    cases d with
    | int i =>
      obtain ⟨is, e2, e⟩ := map_some' e
      subst e
      cases r with
      | cons r1 r2 =>
        cases (show y = .int i from h1)
        obtain ⟨t, rfl⟩ := r1
        exact .cons i t (intsAre_of h2 r2 e2)
    | _ => cases e
theorem call_maxL (hc : X.calm = true) : CallM X (.builtin "max") maxL := by
  intro pins s σ H xs us Q I r ⟨ds, st, io, d, st', R, S, e, k⟩
  unfold maxL at e
  split at e
  · rename_i n
    obtain ⟨ts, e0, e⟩ := ob_bind e
    obtain ⟨ns, e1, e⟩ := ob_bind e
    obtain ⟨hf, e⟩ := ite_some e
    cases e
    obtain ⟨v, rfl, p, rfl, hp⟩ := R.one
    obtain ⟨u, rfl, ru⟩ := r.one
    cases ru
    obtain ⟨ys, hx, r1⟩ := lstAt_sq S hp e0
    obtain ⟨its, rv, pl, hz⟩ := I.list hx
    have hi := intsAre_of r1 rv e1
    obtain ⟨qs, eq⟩ := hi.allInts.items
    have hns : ns = qs.toList.map (·.1) := by rw [← hi.numsOf, ← nums_intItems, ← eq]
    have hne : 0 < qs.size := by
      cases ns with
      | nil => simp at hf
      | cons a b =>
        have := congrArg List.length hns
        simp at this
        omega
    have hl := pl.isList
    rw [eq] at hl
    refine PySem.max_intList (I.ok.hd hc) hl hne fun v h' tk hv hk => ?_
    obtain ⟨t, rfl⟩ := intItems_at hv
    obtain ⟨h1, h2⟩ := argBest_gt (numAt qs) (qs.size - 1)
    refine ⟨.int _, H, I.kept (t' := tk) fun b o q => hk b o q, ⟨t, rfl⟩, ?_⟩
    have hm := maxOf_is (ns := ns) (M := numAt qs (argBest (fun i j => decide (numAt qs i > numAt qs j)) (qs.size - 1))) (by
      rw [hns, numAt_eq]
      exact PySem.getD_mem (by rw [List.length_map, Array.length_toList]; omega)) fun a ha => by
      rw [hns] at ha
      obtain ⟨j, hj, rfl⟩ := PySem.mem_getD ha
      rw [List.length_map, Array.length_toList] at hj
      rw [← numAt_eq]
      exact h2 j (by omega)
    rw [hm]
    exact k.now S rfl
  · cases e
end
end L2.MP
set_option maxHeartbeats 4000000
namespace L2.MP
open PySem PySem.Spec PyProof.Rows
@[irreducible] def JSs (X : Cx) (s : List Stmt) (m : MS) : Prop := SSs X s m
@[irreducible] def JS (X : Cx) (s : Stmt) (m : MS) : Prop := SS X s m
@[irreducible] def JA (X : Cx) (es : List Expr) (m : MA) : Prop := SA X es m
section
variable {X : Cx} {e a b c : Expr} {es : List Expr} {st1 st2 : Stmt} {rest body orelse : List Stmt} {pos : Pos} {m ma mb mc : ME} {mt mu : MT} {mm : MA} {ms mq mr : MS} {mg : MG} {mi : MI}
theorem JSs.out (h : JSs X body ms) : SSs X body ms := by unfold JSs at h; exact h
theorem JSs.mk (h : SSs X body ms) : JSs X body ms := by unfold JSs; exact h
theorem JS.out (h : JS X st1 ms) : SS X st1 ms := by unfold JS at h; exact h
theorem JS.mk (h : SS X st1 ms) : JS X st1 ms := by unfold JS; exact h
theorem JA.out (h : JA X es mm) : SA X es mm := by unfold JA at h; exact h
theorem JA.mk (h : SA X es mm) : JA X es mm := by unfold JA; exact h
theorem jss_nil : JSs X [] mPass := .mk sss_nil
theorem jss_one (h : JS X st1 ms) : JSs X [st1] ms := .mk (sss_one h.out)
theorem jss_cons (h : JS X st1 ms) (h2 : JSs X rest mq) : JSs X (st1 :: rest) (mSeq ms mq) := .mk (sss_cons h.out h2.out)
theorem js_if (hc : SB X c mt) (h1 : JSs X body ms) (h2 : JSs X orelse mq) : JS X (.If c body orelse pos) (mIf mt ms mq) := .mk (ss_if hc h1.out h2.out)
theorem js_for {tg iter : Expr} (hp : PassesOwn (model X.prog X.w) X.A X.env X.xe) (hc : X.calm = true) (hi : SI X tg iter mi) (hg : SG X tg mg) (hb : JSs X body ms) (hs : ∀ x, foldedSetIterable iter X.env x = pure x := by intro _; rfl) : JS X (.For tg iter body [] pos) (mFor mi mg ms) := .mk (ss_for hp hc hi hg hb.out hs)
theorem ja_nil : JA X [] mNil := .mk sa_nil
theorem ja_cons (ha : SE X e m) (hr : JA X es mm) (hs : ∀ q, starEach (e :: q) X.env = (false, eval e X.env) :: starEach q X.env := by intro _; rfl) : JA X (e :: es) (mCons m mm) := .mk (sa_cons ha hr.out (hs _))
theorem js_setL {i : Nat} {x : Str} {pos' p2 : Pos} (hN : X.N.Nodup) (hi : X.N[i]? = some x) (hx : Loc X.env.scope x) (h : JA X es mm) (hf : X.fn x = true ∨ X.env.scope.names.lookup x = some .local := by first | exact .inl rfl | exact .inr rfl | assumption) : JS X (.Assign [.Name x pos'] (.List es p2) pos) (mAsg (mLst mm) (gNm i)) := .mk (ss_set hN hi hx (se_lst h.out) rfl hf)
end
end L2.MP
namespace L2.MP.Hb
open PySem L2.MP
end L2.MP.Hb
set_option maxHeartbeats 2000000
namespace L2.MP
open PySem
end L2.MP
namespace L2.MP.Hb
open PySem L2.MP
def PotB (n q : Nat) (st : Sto) : Prop := ∃ (as : List Int) (b : Int), st[n]? = some (.lst [.ref q, .int b]) ∧ st[q]? = some (.lst (as.map D.int)) ∧ q ≠ n ∧ (∀ a ∈ as, 0 ≤ a) ∧ as.length ≤ 63 ∧ 0 ≤ b ∧ b < 2305843009213693951
structure FrB (n q : Nat) (st st' : Sto) : Prop where
  len : st.length ≤ st'.length
  old : ∀ k, k < st.length → k ≠ n → k ≠ q → st'[k]? = st[k]?
theorem FrB.refl (n q : Nat) (st : Sto) : FrB n q st st := ⟨Nat.le_refl _, fun _ _ _ _ => rfl⟩
theorem FrB.trans {n q : Nat} {a b c : Sto} (h : FrB n q a b) (h' : FrB n q b c) : FrB n q a c := ⟨Nat.le_trans h.len h'.len, fun k hk n1 n2 => (h'.old k (Nat.lt_of_lt_of_le hk h.len) n1 n2).trans (h.old k hk n1 n2)⟩
theorem FrB.app (n q : Nat) (st : Sto) (l : List O) : FrB n q st (st ++ l) := ⟨by simp, fun k hk _ _ => List.getElem?_append_left hk⟩
theorem FrB.of {n q : Nat} {a b : Sto} (h : Gr a b) : FrB n q a b := ⟨h.len, fun k hk _ _ => h.old k hk⟩
theorem PotB.gr {n q : Nat} {st st' : Sto} (h : PotB n q st) (g : Gr st st') : PotB n q st' := by
  obtain ⟨as, b, e1, e2, r⟩ := h
  exact ⟨as, b, by rw [g.old n (getElem?_lt e1)]; exact e1, by rw [g.old q (getElem?_lt e2)]; exact e2, r⟩
theorem PotB.lt {n q : Nat} {st : Sto} (h : PotB n q st) : n < st.length ∧ q < st.length := by
  obtain ⟨as, b, e1, e2, r⟩ := h
  exact ⟨getElem?_lt e1, getElem?_lt e2⟩
end L2.MP.Hb
set_option maxHeartbeats 2000000
namespace L2.MP.Hb
open PySem L2.MP
end L2.MP.Hb
set_option maxHeartbeats 2000000
namespace L2.MP.Hb
open PySem L2.MP
theorem PotB.ne {n q : Nat} {st : Sto} (h : PotB n q st) : n ≠ st.length ∧ q ≠ st.length := by
  have := h.lt
  omega
theorem PotB.set {n q l : Nat} {st : Sto} {o : O} (h : PotB n q st) (h1 : l ≠ n) (h2 : l ≠ q) : PotB n q (st.set l o) := by
  obtain ⟨as, b, e1, e2, r⟩ := h
  exact ⟨as, b, by rw [List.getElem?_set_ne h1]; exact e1, by rw [List.getElem?_set_ne h2]; exact e2, r⟩
end L2.MP.Hb
set_option maxHeartbeats 2000000
namespace L2.MP.Hb
open PySem L2.MP
end L2.MP.Hb
set_option maxHeartbeats 2000000
namespace L2.MP.Hb
open PySem L2.MP
end L2.MP.Hb
set_option maxHeartbeats 2000000
namespace L2.MP.Hb
open PySem L2.MP
end L2.MP.Hb
set_option maxHeartbeats 2000000
namespace L2.MP.Hb
open PySem L2.MP
end L2.MP.Hb
set_option maxHeartbeats 4000000
namespace L2.MP.Hb
open PySem L2.MP
end L2.MP.Hb
namespace L2.MP.Hd
open PySem L2.MP
end L2.MP.Hd
set_option maxHeartbeats 4000000
namespace L2.MP.Hd
open PySem L2.MP
def PotD (n m : Nat) (st : Sto) : Prop := ∃ a b c : Int, st[n]? = some (.lst [.int a, .int b, .int c]) ∧ 0 ≤ a ∧ 0 ≤ b ∧ b < 2305843009213693951 ∧ 0 ≤ c ∧ c ≤ (m : Int)
theorem PotD.lt {n m : Nat} {st : Sto} (h : PotD n m st) : n < st.length := by
  obtain ⟨a, b, c, e, _⟩ := h
  exact getElem?_lt e
theorem PotD.ne {n m : Nat} {st : Sto} (h : PotD n m st) : st.length ≠ n := Nat.ne_of_gt h.lt
theorem PotD.gr {n m : Nat} {st st' : Sto} (h : PotD n m st) (g : Gr st st') : PotD n m st' := by
  obtain ⟨a, b, c, e, r⟩ := h
  exact ⟨a, b, c, (g.old n (getElem?_lt e)).trans e, r⟩
theorem PotD.up {n m k : Nat} {st : Sto} (h : PotD n m st) (hk : m ≤ k) : PotD n k st := by
  obtain ⟨a, b, c, e, h1, h2, h3, h4, h5⟩ := h
  exact ⟨a, b, c, e, h1, h2, h3, h4, by omega⟩
theorem PotD.set {n m l : Nat} {st : Sto} {o : O} (h : PotD n m st) (hl : l ≠ n) : PotD n m (st.set l o) := by
  obtain ⟨a, b, c, e, r⟩ := h
  exact ⟨a, b, c, by rw [List.getElem?_set_ne hl]; exact e, r⟩
end L2.MP.Hd
set_option maxHeartbeats 4000000
namespace L2.MP.Hd
open PySem L2.MP
end L2.MP.Hd
set_option maxHeartbeats 4000000
namespace L2.MP.Hd
open PySem L2.MP
end L2.MP.Hd
set_option maxHeartbeats 4000000
namespace L2.MP.Hd
open PySem L2.MP
end L2.MP.Hd
set_option maxHeartbeats 4000000
namespace L2.MP.Hd
open PySem L2.MP
theorem eq_str {a b : Str} {st : Sto} (ha : PyData.strOk a = true) (hb : PyData.strOk b = true) : eqD (.str a) (.str b) st = some (.bl (a == b), st) := by
  unfold eqD
  rw [toP_str ha, toP_str hb]
  simp [PyData.eqv]
theorem ne_str {a b : Str} {st : Sto} (ha : PyData.strOk a = true) (hb : PyData.strOk b = true) : neD (.str a) (.str b) st = some (.bl (a != b), st) := by
  unfold neD
  rw [toP_str ha, toP_str hb]
  simp [PyData.eqv, bne]
end L2.MP.Hd
set_option maxHeartbeats 4000000
namespace L2.MP.Hd
open PySem L2.MP
end L2.MP.Hd
set_option maxHeartbeats 4000000
namespace L2.MP.Hd
open PySem L2.MP
end L2.MP.Hd
set_option maxHeartbeats 4000000
namespace L2.MP.Hd
open PySem L2.MP
end L2.MP.Hd
set_option maxHeartbeats 4000000
namespace L2.MP.Hd
open PySem L2.MP
structure TameP (w : Nat) (p : PyData) : Prop where
  lay : p.canLay0 = true
  int : p.intsShort 13 = true
  shw : p.showable = true
  wt : p.weight ≤ w
def Tame (w k : Nat) (d : D) : Prop := ∃ p, (∀ (m : Nat) (st : Sto), toP (m + k) st d = some p) ∧ TameP w p
theorem Tame.up {w k w' k' : Nat} {d : D} (h : Tame w k d) (hw : w ≤ w') (hk : k ≤ k') : Tame w' k' d := by
  obtain ⟨p, e, t⟩ := h
  refine ⟨p, fun m st => ?_, t.lay, t.int, t.shw, Nat.le_trans t.wt hw⟩
  have := e (m + (k' - k)) st
  rw [show m + (k' - k) + k = m + k' by omega] at this
  exact this
end L2.MP.Hd
namespace L2.MP
open PySem
theorem ci_gr {W : Wk} {g : MG} {c : MT} {m : ME} {α : Type} {f h : α → D} {R : Rho → Prop} : ∀ {as : List α} {ρ : Rho} {st : Sto}, R ρ → (∀ s, Gr st s → walked W s = true) → (∀ a ∈ as, ∀ ρ s, R ρ → Gr st s → ∃ ρ1 s1, g (f a) ρ s = some (ρ1, s) ∧ c ρ1 s = some (true, s) ∧ m ρ1 s = some (h a, s1) ∧ Gr s s1 ∧ R ρ1) →
    ∃ s', mCI W g c m (as.map f) ρ st = some (as.map h, s') ∧ Gr st s'
  | [], ρ, st, r, wk, _ => ⟨st, by unfold mCI; rw [List.map_nil]; simp only [wk st (Gr.refl st), if_true, List.map_nil], Gr.refl st⟩
  | a :: as, ρ, st, r, wk, hs => by
    obtain ⟨ρ1, s1, e1, e2, e3, g1, r1⟩ := hs a List.mem_cons_self ρ st r (Gr.refl st)
    obtain ⟨s', e, g'⟩ := ci_gr (W := W) (g := g) (c := c) (m := m) (f := f) (h := h) (R := R) (as := as) (st := s1) r1 (fun s q => wk s (g1.trans q)) fun b hb ρ s q z => hs b (List.mem_cons_of_mem _ hb) ρ s q (g1.trans z)
    refine ⟨s', ?_, g1.trans g'⟩
    rw [List.map_cons]
    unfold mCI
    rw [if_pos (wk st (Gr.refl st)), e1]
    simp only [Option.bind_some, e2, if_true, e3, e, Option.map_some, List.map_cons]
theorem join_ok {st : Sto} {l : Nat} {z : Str} {ss : List Str} (hl : st[l]? = some (.lst (ss.map D.str))) (hb : (ss.map (·.length)).sum + ss.length * z.length ≤ 16777216) : joinD (.str z) [.ref l] st = some (.str (Txt.join z ss), st) := by
  unfold joinD
  simp only [lstAt, hl, Option.bind_some]
  rw [strsOf_map]
  simp only [Option.bind_some]
  rw [if_pos (decide_eq_true hb)]
theorem sum_le {α : Type} {f : α → Nat} {c : Nat} : ∀ {l : List α}, (∀ x ∈ l, f x ≤ c) → (l.map f).sum ≤ l.length * c
  | [], _ => by simp
  | x :: l, h => by
    have h1 := h x List.mem_cons_self
    have h2 := sum_le (l := l) fun y hy => h y (List.mem_cons_of_mem _ hy)
    rw [List.map_cons, List.sum_cons, List.length_cons, Nat.succ_mul]
    omega
theorem join_few {st : Sto} {l c n : Nat} {z : Str} {ss : List Str} (hl : st[l]? = some (.lst (ss.map D.str))) (h1 : ∀ x ∈ ss, x.length ≤ c) (h2 : ss.length ≤ n) (hz : z.length ≤ 1) (hb : n * c + n ≤ 16777216) : joinD (.str z) [.ref l] st = some (.str (Txt.join z ss), st) := by
  refine join_ok hl ?_
  have a := sum_le (f := fun x : Str => x.length) h1
  have b : ss.length * c ≤ n * c := Nat.mul_le_mul_right c h2
  have d : ss.length * z.length ≤ ss.length * 1 := Nat.mul_le_mul_left _ hz
  omega
theorem low_small {i : Int} (h0 : 0 ≤ i) (h1 : i ≤ 1000000) : lowBits i = true := by
  unfold lowBits
  apply decide_eq_true
  by_cases h : i.natAbs = 0
  · rw [h]; decide
  · have : i.natAbs.log2 < 20 := (Nat.log2_lt h).mpr (by omega)
    omega
def itos (i : Int) : Str := Str.ofString (toString i)
theorem str_of_small {i : Int} {s : Sto} (h0 : 0 ≤ i) (h1 : i ≤ 1000000) : strC [.int i] s = some (.str (itos i), s) := by
  unfold strC
  simp only [low_small h0 h1, if_true]
  rfl
theorem itos_cps {i : Int} (h0 : 0 ≤ i) : (itos i).cps.toList = (Nat.toDigits 10 i.toNat).map Char.toNat := by
  obtain ⟨m, rfl⟩ := Int.eq_ofNat_of_zero_le h0
  have := PyProof.Rows.text_ofNat m
  show (Str.ofString (toString (Int.ofNat m))).cps.toList = _
  rw [this]
  simp
theorem itos_len {i : Int} (h0 : 0 ≤ i) (h1 : i ≤ 1000000) : (itos i).length ≤ 7 := by
  show (itos i).cps.size ≤ 7
  rw [← Array.length_toList, itos_cps h0, List.length_map]
  exact PyProof.Rows.digits10_le (by decide) (by omega)
theorem all1 {α : Type} {P : α → Prop} {a : α} (ha : P a) : ∀ x ∈ [a], P x := fun x hx => by rw [List.mem_singleton.mp hx]; exact ha
theorem allc {α : Type} {P : α → Prop} {a : α} {l : List α} (ha : P a) (hl : ∀ x ∈ l, P x) : ∀ x ∈ a :: l, P x := fun x hx => by
  rcases List.mem_cons.mp hx with rfl | hx
  · exact ha
  · exact hl x hx
theorem all2 {α : Type} {P : α → Prop} {a b : α} (ha : P a) (hb : P b) : ∀ x ∈ [a, b], P x := allc ha (all1 hb)
theorem all3 {α : Type} {P : α → Prop} {a b c : α} (ha : P a) (hb : P b) (hc : P c) : ∀ x ∈ [a, b, c], P x := allc ha (all2 hb hc)
end L2.MP
namespace L2.MP
open PySem
theorem itos_dig {i : Int} (h0 : 0 ≤ i) : ∀ c ∈ (itos i).cps.toList, 48 ≤ c ∧ c ≤ 57 := by
  intro c hc
  rw [itos_cps h0] at hc
  obtain ⟨ch, hch, e⟩ := List.mem_map.mp hc
  have r := PyProof.Rows.digit_range (Nat.isDigit_of_mem_toDigits (by decide) (by decide) hch)
  rw [← e]
  exact r
theorem strOk_of {z : Str} (h : ∀ c ∈ z.cps.toList, c < 1114112) : PyData.strOk z = true := by
  unfold PyData.strOk
  rw [Array.all_eq_true']
  intro c hc
  exact decide_eq_true (h c (by simpa using hc))
end L2.MP
namespace L2.MP.stickytiles_k81_texts_of_no_row
open PySem L2.MP L2.MP.Hn
def C_read_number_1 : ME := mBin inA (mVar 0) (mCon (.str "0123456789"))
def B_read_number : MS := mSeq (mIf (mOrT (mNotT (mTst (mChain leD leD (mCon (.int 1)) (mCall lenD (mCons (mVar 0) (mNil))) (mCon (.int 6))))) (mNotT (mTst (mCall allC (mCons (mComp (mWA (mVar 0)) 1 [] (gNm 0) (mTrue) (C_read_number_1)) (mNil)))))) (mRet (mCon .non)) (mPass)) (mSeq (mIf (mAndT (mTst (mBin eqD (mBin ixA (mVar 0) (mCon (.int 0))) (mCon (.str "0")))) (mTst (mBin neD (mVar 0) (mCon (.str "0"))))) (mRet (mCon .non)) (mPass)) (mRet (mCall intA (mCons (mVar 0) (mNil)))))
def G_read_number : GN := fnM 1 B_read_number
def C_read_numbers_1 : ME := mCall G_read_number (mCons (mVar 0) (mNil))
def B_read_numbers : MS := mRet (mCall tupleC (mCons (mComp (mWA (mVar 0)) 1 [] (gNm 0) (mTrue) (C_read_numbers_1)) (mNil)))
def G_read_numbers : GN := fnM 1 B_read_numbers
def C_read_row_1 : ME := mCall G_read_numbers (mCons (mMetS splitD (mVar 0) (mCons (mCon (.str ",")) (mNil))) (mNil))
def C_read_row_2 : ME := mAndV (mBin eqD (mCall lenD (mCons (mVar 0) (mNil))) (mCon (.int 3))) (mBin notInB (mCon .non) (mVar 0))
def B_read_row : MS := mSeq (mIf (mTst (mBin eqD (mVar 0) (mCon (.str "-")))) (mRet (mTup (mNil))) (mPass)) (mSeq (mAsg (mComp (mWA (mMetS splitD (mVar 0) (mCons (mCon (.str " ")) (mNil)))) 1 [] (gNm 0) (mTrue) (C_read_row_1)) (gNm 1)) (mSeq (mIf (mNotT (mTst (mCall allC (mCons (mComp (mWA (mVar 1)) 1 [] (gNm 0) (mTrue) (C_read_row_2)) (mNil))))) (mRet (mCon .non)) (mPass)) (mRet (mCall tupleC (mCons (mVar 1) (mNil))))))
def G_read_row : GN := fnM 2 B_read_row
def B_q_law_number : MS := mSeq (mIf (mOrT (mTst (mBin eqD (mVar 0) (mCon (.str "")))) (mOrT (mTst (mBin neD (mMetS stripD (mVar 0) (mCons (mCon (.str "0123456789")) (mNil))) (mCon (.str "")))) (mOrT (mAndT (mTst (mBin eqD (mBin ixA (mVar 0) (mCon (.int 0))) (mCon (.str "0")))) (mTst (mBin neD (mVar 0) (mCon (.str "0"))))) (mTst (mBin gtD (mCall lenD (mCons (mVar 0) (mNil))) (mCon (.int 9))))))) (mRet (mNeg (mCon (.int 1)))) (mPass)) (mRet (mCall intA (mCons (mVar 0) (mNil))))
def G_q_law_number : GN := fnM 1 B_q_law_number
def B_q_law_sign : MS := mSeq (mAsg (mCon (.str " !\"#$&'()*+,-./0123456789:;<=>?@ABCDEFGHIJKLMNOPQRSTUVWXYZ[\\]^_`abcdefghijklmnopqrstuvwxyz{|}~")) (gNm 1)) (mRet (mBin ixA (mVar 1) (mCall G_q_law_next (mCons (mVar 0) (mCons (mCall lenD (mCons (mVar 1) (mNil))) (mNil))))))
def G_q_law_sign : GN := fnM 2 B_q_law_sign
def B_q_law_text_bent : MS := mSeq (mPar 2 3 (mCons (mCall G_q_law_next (mCons (mVar 0) (mCons (mBin addD (mCall lenD (mCons (mVar 1) (mNil))) (mCon (.int 1))) (mNil)))) (mCons (mCall G_q_law_next (mCons (mVar 0) (mCons (mCon (.int 7)) (mNil)))) (mNil)))) (mSeq (mAsg (mCall G_q_law_of (mCons (mVar 0) (mCons (mLst (mCons (mCall G_q_law_sign (mCons (mVar 0) (mNil))) (mCons (mCall G_q_law_of (mCons (mVar 0) (mCons (mLst (mCons (mCon (.str " ")) (mCons (mCon (.str "\n")) (mCons (mCon (.str "0")) (mCons (mCon (.str "-")) (mCons (mCon (.str ",")) (mCons (mCon (.str "1")) (mCons (mCon (.str "a")) (mNil))))))))) (mNil)))) (mNil)))) (mNil)))) (gNm 4)) (mSeq (mIf (mTst (mBin ltD (mVar 3) (mCon (.int 2)))) (mRet (mBin addD (mBin addD (mSlB (mVar 1) (oNone) (oSome (mVar 2))) (mVar 4)) (mSlB (mVar 1) (oSome (mVar 2)) (oNone)))) (mPass)) (mSeq (mIf (mTst (mBin ltD (mVar 3) (mCon (.int 4)))) (mRet (mBin addD (mSlB (mVar 1) (oNone) (oSome (mVar 2))) (mSlB (mVar 1) (oSome (mBin addD (mVar 2) (mCon (.int 1)))) (oNone)))) (mPass)) (mSeq (mIf (mTst (mBin ltD (mVar 3) (mCon (.int 6)))) (mRet (mBin addD (mBin addD (mSlB (mVar 1) (oNone) (oSome (mVar 2))) (mVar 4)) (mSlB (mVar 1) (oSome (mBin addD (mVar 2) (mCon (.int 1)))) (oNone)))) (mPass)) (mRet (mSlB (mVar 1) (oNone) (oSome (mVar 2))))))))
def G_q_law_text_bent : GN := fnM 5 B_q_law_text_bent
def C_q_law_row_due_1 : ME := mCall G_q_law_number (mCons (mVar 0) (mNil))
def C_q_law_row_due_2 : ME := mCall lenD (mCons (mVar 0) (mNil))
def L_q_law_row_due_1 : MS := mSeq (mAsg (mMetS splitD (mVar 2) (mCons (mCon (.str ",")) (mNil))) (gNm 3)) (mSeq (mAsg (mComp (mWA (mVar 3)) 1 [] (gNm 0) (mTrue) (C_q_law_row_due_1)) (gNm 4)) (mSeq (mIf (mOrT (mTst (mBin neD (mCall lenD (mCons (mVar 3) (mNil))) (mCon (.int 3)))) (mOrT (mTst (mBin inA (mNeg (mCon (.int 1))) (mVar 4))) (mTst (mBin gtD (mCall maxL (mCons (mComp (mWA (mVar 3)) 1 [] (gNm 0) (mTrue) (C_q_law_row_due_2)) (mNil))) (mCon (.int 6)))))) (mRet (mCon .non)) (mPass)) (mExp (mApp (mVar 1) (mCons (mCall tupleC (mCons (mVar 4) (mNil))) (mNil))))))
def B_q_law_row_due : MS := mSeq (mIf (mTst (mBin eqD (mVar 0) (mCon (.str "-")))) (mRet (mTup (mNil))) (mPass)) (mSeq (mAsg (mLst (mNil)) (gNm 1)) (mSeq (mFor (mWA (mMetS splitD (mVar 0) (mCons (mCon (.str " ")) (mNil)))) (gNm 2) (L_q_law_row_due_1)) (mRet (mCall tupleC (mCons (mVar 1) (mNil))))))
def G_q_law_row_due : GN := fnM 5 B_q_law_row_due
def C_law_1 : ME := mCall strC (mCons (mCall G_q_law_next (mCons (mVar 1) (mCons (mCall G_q_law_of (mCons (mVar 1) (mCons (mLst (mCons (mCon (.int 3)) (mCons (mCon (.int 12)) (mCons (mBin powB (mCon (.int 10)) (mCon (.int 6))) (mNil))))) (mNil)))) (mNil)))) (mNil))
def L_law_1 : MS := mExp (mApp (mVar 3) (mCons (mJoin (mCon (.str ",")) (mCons (mComp (mR1 (mCon (.int 3))) 1 [2] (gNm 0) (mTrue) (C_law_1)) (mNil))) (mNil)))
def L_law_2 : MS := mAsg (mCall G_q_law_text_bent (mCons (mVar 2) (mCons (mVar 8) (mNil)))) (gNm 8)
def L_law_3 : MS := mSeq (mAsg (mCall G_q_law_text_bent (mCons (mVar 2) (mCons (mVar 5) (mNil)))) (gNm 8)) (mSeq (mFor (mR1 (mCall G_q_law_next (mCons (mVar 2) (mCons (mCon (.int 3)) (mNil))))) (gNm 9) (L_law_2)) (mExp (mApp (mVar 6) (mCons (mVar 8) (mNil)))))
def L_law_4 : MS := mSeq (mAsg (mCall G_q_law_row_due (mCons (mVar 10) (mNil))) (gNm 11)) (mIf (mOrT (mNotT (mTst (mCall G_q_law_same (mCons (mCall G_read_row (mCons (mVar 10) (mNil))) (mCons (mVar 11) (mNil)))))) (mTst (mBin neD (mCall G_read_row (mCons (mVar 10) (mNil))) (mVar 11)))) (mRet (mCon (.bl false))) (mPass))
def L_law_5 : MS := mSeq (mAsg (mCall G_q_law_pot (mCons (mVar 0) (mCons (mVar 1) (mNil)))) (gNm 2)) (mSeq (mAsg (mLst (mNil)) (gNm 3)) (mSeq (mFor (mR1 (mCall G_q_law_next (mCons (mVar 2) (mCons (mCon (.int 6)) (mNil))))) (gNm 4) (L_law_1)) (mSeq (mAsg (mBin addD (mJoin (mCon (.str " ")) (mCons (mVar 3) (mNil))) (mBin mulA (mCon (.str "-")) (mCall intC (mCons (mBin eqD (mVar 3) (mLst (mNil))) (mNil))))) (gNm 5)) (mSeq (mAsg (mLst (mCons (mCon (.str "")) (mCons (mCon (.str " ")) (mCons (mCon (.str "-")) (mCons (mCon (.str "--")) (mCons (mCon (.str "- -")) (mCons (mCon (.str "-,-,-")) (mCons (mCon (.str "0,0,0")) (mCons (mCon (.str "1,2")) (mCons (mCon (.str "1,2,3,4")) (mCons (mCon (.str "1,2,")) (mCons (mCon (.str ",,")) (mCons (mCon (.str "1000000,1,1")) (mCons (mCon (.str "01,1,1")) (mNil))))))))))))))) (gNm 6)) (mSeq (mAsg (mBin addD (mVar 6) (mLst (mCons (mCon (.str "1, 1,1")) (mCons (mCon (.str "1,1,1 ")) (mCons (mCon (.str " 1,1,1")) (mCons (mCon (.str "1,1,1  2,2,2")) (mCons (mCon (.str "1,1,1\n2,2,2")) (mCons (mCon (.str "-1,1,1")) (mCons (mCon (.str "1,1,+1")) (mCons (mCon (.str "1,1,1_0")) (mNil))))))))))) (gNm 6)) (mSeq (mFor (mR1 (mCon (.int 16))) (gNm 7) (L_law_3)) (mFor (mWA (mBin addD (mVar 6) (mLst (mCons (mVar 5) (mNil))))) (gNm 10) (L_law_4))))))))
def B_law : MS := mSeq (mFor (mR1 (mCall max2C (mCons (mCon (.int 1)) (mCons (mCall min2C (mCons (mCall lenD (mCons (mVar 0) (mNil))) (mCons (mCon (.int 12)) (mNil)))) (mNil))))) (gNm 1) (L_law_5)) (mRet (mCon (.bl true)))
def G_law : GN := fnM 12 B_law
end L2.MP.stickytiles_k81_texts_of_no_row
set_option maxRecDepth 100000
set_option maxHeartbeats 8000000
namespace L2.MP.stickytiles_k81_texts_of_no_row
open PySem L2 L2.MP L2.MP.Hn PySem.Spec PyProof.Rows
def top (i : Nat) : Stmt := PySem.Challenge.pw_stickytiles_k81_texts_of_no_row.main.body.getD i (.Pass ⟨0, 0, 0, 0⟩)
section
variable {P : Program} {w : World} {K : PySem.W.Frag} {mg : Str → Option Value} {base : Heap}
theorem nd_0 : (["sign"] : List Str).Nodup := by decide +kernel
theorem nd_1 : (["word"] : List Str).Nodup := by decide +kernel
theorem nd_2 : (["text", "row"] : List Str).Nodup := by decide +kernel
theorem nd_3 : (["tile"] : List Str).Nodup := by decide +kernel
theorem nd_4 : (["_law_script", "_law_k", "_law_cell", "_law_number_here", "_law_part", "_law_mixed"] : List Str).Nodup := by decide +kernel
theorem nd_5 : (["_law_pot_here", "_law_many", "_law_digit"] : List Str).Nodup := by decide +kernel
theorem nd_6 : (["_law_a", "_law_b"] : List Str).Nodup := by decide +kernel
theorem nd_7 : (["_law_pot_here", "_law_signs"] : List Str).Nodup := by decide +kernel
theorem nd_8 : (["_law_pot_here", "_law_text", "_law_at", "_law_way", "_law_sign_here"] : List Str).Nodup := by decide +kernel
theorem nd_9 : (["_law_text", "_law_found", "_law_word", "_law_parts", "_law_numbers"] : List Str).Nodup := by decide +kernel
theorem nd_10 : (["_law_part"] : List Str).Nodup := by decide +kernel
theorem nd_11 : (["_law_script", "_law_k", "_law_pot_here", "_law_tiles", "_law_number_here", "_law_text", "_law_some", "_law_turn", "_law_bent", "_law_more", "_law_one", "_law_due"] : List Str).Nodup := by decide +kernel
theorem nd_12 : (["_law_part", "_law_pot_here"] : List Str).Nodup := by decide +kernel
theorem sc_read_number : FnScope ["word"] ["word"] (defScope (top 3)) := ⟨rfl, rfl, rfl, by decide +kernel, rfl, by decide +kernel, by decide +kernel⟩
theorem ok_read_number {t_MOST_FIGURES : Tok} {t_TEN_FIGURES : Tok} (L : Laid K mg "read_number" (top 3) ["word"]) (b_len : mg "len" = none) (b_all : mg "all" = none) (b_int : mg "int" = none) (g_MOST_FIGURES : mg "MOST_FIGURES" = some (.int 6 t_MOST_FIGURES)) (g_TEN_FIGURES : mg "TEN_FIGURES" = some (.str "0123456789" t_TEN_FIGURES)) : DefOk P w K mg base 1 "read_number" 1 G_read_number :=
  def_ok (k := 0) L sc_read_number fun f cdv A outer s H E hr => JSs.out (jss_cons (js_if (SW.sb (sw_or (sb_not (sb_chain op_leM op_leM (se_int) (se_callB call_lenM rfl b_len bt_len (sa_cons (se_var 0) (sa_nil))) (se_gint rfl g_MOST_FIGURES))) (sw_or1 (sb_not (sb_of (se_callB (call_allM rfl) rfl b_all bt_all (sa_cons (se_comp rfl rfl (compS_of (N' := ["sign"]) (nt := 1) (fr := []) [] rfl (by decide +kernel) (by decide +kernel) (by decide +kernel) rfl trivial trivial) (si_walkA (se_var 0)) (fun C s0 H0 fp => sg_name (i := 0) nd_0 rfl (by first | exact Or.inl rfl | exact Or.inr rfl)) (fun C s0 H0 fp => sc_nil) (fun C s0 H0 fp => se_inA (room100 hr) (se_var 0) (se_gstr rfl g_TEN_FIGURES))) (sa_nil)))))))) (jss_one (JS.mk (ss_ret (se_non)))) (jss_nil)) (jss_cons (js_if (SW.sb (sw_and (sb_cmp (op_eqM (room100 hr)) (se_ixA (hu_of hr) (se_var 0) (se_int)) (se_str) rfl) (sw_and1 (sb_cmp (op_neM (room100 hr)) (se_var 0) (se_str) rfl)))) (jss_one (JS.mk (ss_ret (se_non)))) (jss_nil)) (jss_one (JS.mk (ss_ret (se_callTy call_intA rfl b_int bt_int (sa_cons (se_var 0) (sa_nil))))))))
theorem sc_read_numbers : FnScope ["words"] ["words"] (defScope (top 4)) := ⟨rfl, rfl, rfl, by decide +kernel, rfl, by decide +kernel, by decide +kernel⟩
theorem ok_read_numbers (L : Laid K mg "read_numbers" (top 4) ["words"]) (b_tuple : mg "tuple" = none) (h_read_number : DefOk P w K mg base 1 "read_number" 1 G_read_number) : DefOk P w K mg base 2 "read_numbers" 1 G_read_numbers :=
  def_ok (k := 1) L sc_read_numbers fun f cdv A outer s H E hr => JSs.out (jss_one (JS.mk (ss_ret (se_callTy call_tupleM rfl b_tuple bt_tuple (sa_cons (se_comp rfl rfl (compS_of (N' := ["word"]) (nt := 1) (fr := []) [] rfl (by decide +kernel) (by decide +kernel) (by decide +kernel) rfl trivial trivial) (si_walkA (se_var 0)) (fun C s0 H0 fp => sg_name (i := 0) nd_1 rfl (by first | exact Or.inl rfl | exact Or.inr rfl)) (fun C s0 H0 fp => sc_nil) (fun C s0 H0 fp => se_callD h_read_number (hr.mono (by decide)) rfl (sa_cons (se_var 0) (sa_nil)) (lenOk.cons lenOk.nil))) (sa_nil))))))
theorem sc_read_row : FnScope ["text", "row"] ["text"] (defScope (top 5)) := ⟨rfl, rfl, rfl, by decide +kernel, rfl, by decide +kernel, by decide +kernel⟩
theorem ok_read_row (L : Laid K mg "read_row" (top 5) ["text"]) (b_len : mg "len" = none) (b_all : mg "all" = none) (b_tuple : mg "tuple" = none) (h_read_numbers : DefOk P w K mg base 2 "read_numbers" 1 G_read_numbers) : DefOk P w K mg base 3 "read_row" 1 G_read_row :=
  def_ok (k := 2) L sc_read_row fun f cdv A outer s H E hr => JSs.out (jss_cons (js_if (sb_cmp (op_eqM (room100 hr)) (se_var 0) (se_str) rfl) (jss_one (JS.mk (ss_ret (se_tup (sa_nil))))) (jss_nil)) (jss_cons (JS.mk (ss_set_comp (i := 1) rfl rfl (compS_of (N' := ["word"]) (nt := 1) (fr := []) [] rfl (by decide +kernel) (by decide +kernel) (by decide +kernel) rfl trivial trivial) (si_walkA (se_metS PySem.F.slot_str_split PySem.F.type_str_split mt_splitM (se_var 0) (sa_cons (se_str) (sa_nil)))) (fun C s0 H0 fp => sg_name (i := 0) nd_1 rfl (by first | exact Or.inl rfl | exact Or.inr rfl)) (fun C s0 H0 fp => sc_nil) (fun C s0 H0 fp => se_callD h_read_numbers (hr.mono (by decide)) rfl (sa_cons (se_metS PySem.F.slot_str_split PySem.F.type_str_split mt_splitM (se_var 0) (sa_cons (se_str) (sa_nil))) (sa_nil)) (lenOk.cons lenOk.nil)) nd_2 rfl rfl)) (jss_cons (js_if (sb_not (sb_of (se_callB (call_allM rfl) rfl b_all bt_all (sa_cons (se_comp rfl rfl (compS_of (N' := ["tile"]) (nt := 1) (fr := []) [] rfl (by decide +kernel) (by decide +kernel) (by decide +kernel) rfl trivial trivial) (si_walkA (se_var 1)) (fun C s0 H0 fp => sg_name (i := 0) nd_3 rfl (by first | exact Or.inl rfl | exact Or.inr rfl)) (fun C s0 H0 fp => sc_nil) (fun C s0 H0 fp => se_and (se_cmp (op_eqM (room100 hr)) (se_callB call_lenM rfl b_len bt_len (sa_cons (se_var 0) (sa_nil))) (se_int) rfl) (se_and1 (se_notInB (room100 hr) (se_non) (se_var 0))))) (sa_nil))))) (jss_one (JS.mk (ss_ret (se_non)))) (jss_nil)) (jss_one (JS.mk (ss_ret (se_callTy call_tupleM rfl b_tuple bt_tuple (sa_cons (se_var 1) (sa_nil)))))))))
theorem sc_q_law_pot : FnScope ["_law_script", "_law_k", "_law_cell", "_law_number_here", "_law_part", "_law_mixed"] ["_law_script", "_law_k"] (defScope (top 7)) := ⟨rfl, rfl, rfl, by decide +kernel, rfl, by decide +kernel, by decide +kernel⟩
theorem ok_q_law_pot (L : Laid K mg "_law_pot" (top 7) ["_law_script", "_law_k"]) (b_len : mg "len" = none) (b_abs : mg "abs" = none) (b_int : mg "int" = none) : DefOk P w K mg base 1 "_law_pot" 2 G_q_law_pot :=
  def_ok (k := 0) L sc_q_law_pot fun f cdv A outer s H E hr => JSs.out (jss_cons (JS.mk (ss_set (i := 2) nd_4 rfl (by first | exact Or.inl rfl | exact Or.inr rfl) (se_int))) (jss_cons (js_if (sb_cmp op_ltM (se_var 1) (se_callB call_lenM rfl b_len bt_len (sa_cons (se_var 0) (sa_nil))) rfl) (jss_one (JS.mk (ss_set (i := 2) nd_4 rfl (by first | exact Or.inl rfl | exact Or.inr rfl) (se_ixA (hu_of hr) (se_var 0) (se_var 1))))) (jss_nil)) (jss_cons (JS.mk (ss_set (i := 3) nd_4 rfl (by first | exact Or.inl rfl | exact Or.inr rfl) (se_bin op_addM (se_bin op_mulA (se_int) (se_bin op_modM (se_callB call_absM rfl b_abs bt_abs (sa_cons (se_var 2) (sa_nil))) (se_bin op_powB (se_bin op_powB (se_int) (se_int)) (se_int)))) (se_callTy call_intM rfl b_int bt_int (sa_cons (se_cmp op_ltM (se_var 2) (se_int) rfl) (sa_nil)))))) (jss_cons (JS.mk (ss_set (i := 4) nd_4 rfl (by first | exact Or.inl rfl | exact Or.inr rfl) (se_bin op_modM (se_var 3) (se_int)))) (jss_cons (JS.mk (ss_set (i := 5) nd_4 rfl (by first | exact Or.inl rfl | exact Or.inr rfl) (se_bin op_modM (se_bin op_addM (se_bin op_addM (se_bin op_mulA (se_var 4) (se_int)) (se_bin op_mulA (se_int) (se_var 1))) (se_int)) (se_int)))) (jss_one (JS.mk (ss_ret (se_lst (sa_cons (se_bin op_mulA (se_var 3) (se_callTy call_intM rfl b_int bt_int (sa_cons (se_cmp op_geM (se_var 3) (se_bin op_mulA (se_int) (se_bin op_powB (se_int) (se_int))) rfl) (sa_nil)))) (sa_cons (se_var 5) (sa_nil))))))))))))
theorem sc_q_law_next : FnScope ["_law_pot_here", "_law_many", "_law_digit"] ["_law_pot_here", "_law_many"] (defScope (top 8)) := ⟨rfl, rfl, rfl, by decide +kernel, rfl, by decide +kernel, by decide +kernel⟩
theorem ok_q_law_next (L : Laid K mg "_law_next" (top 8) ["_law_pot_here", "_law_many"]) : DefOk P w K mg base 1 "_law_next" 2 G_q_law_next :=
  def_ok (k := 0) L sc_q_law_next fun f cdv A outer s H E hr => JSs.out (jss_cons (js_if (sb_cmp op_gtM (se_ixA (hu_of hr) (se_var 0) (se_int)) (se_int) rfl) (jss_cons (JS.mk (ss_set (i := 2) nd_5 rfl (by first | exact Or.inl rfl | exact Or.inr rfl) (se_bin op_modM (se_ixA (hu_of hr) (se_var 0) (se_int)) (se_var 1)))) (jss_cons (JS.mk (ss_put (hu_of hr) (se_var 0) (se_int) (se_bin op_fdivB (se_ixA (hu_of hr) (se_var 0) (se_int)) (se_var 1)))) (jss_one (JS.mk (ss_ret (se_var 2)))))) (jss_nil)) (jss_cons (JS.mk (ss_put (hu_of hr) (se_var 0) (se_int) (se_bin op_modM (se_bin op_addM (se_bin op_mulA (se_ixA (hu_of hr) (se_var 0) (se_int)) (se_int)) (se_int)) (se_int)))) (jss_one (JS.mk (ss_ret (se_bin op_fdivB (se_bin op_mulA (se_bin op_fdivB (se_ixA (hu_of hr) (se_var 0) (se_int)) (se_int)) (se_var 1)) (se_int)))))))
theorem sc_q_law_of : FnScope ["_law_pot_here", "_law_some"] ["_law_pot_here", "_law_some"] (defScope (top 9)) := ⟨rfl, rfl, rfl, by decide +kernel, rfl, by decide +kernel, by decide +kernel⟩
theorem ok_q_law_of (L : Laid K mg "_law_of" (top 9) ["_law_pot_here", "_law_some"]) (b_len : mg "len" = none) (h_q_law_next : DefOk P w K mg base 1 "_law_next" 2 G_q_law_next) : DefOk P w K mg base 2 "_law_of" 2 G_q_law_of :=
  def_ok (k := 1) L sc_q_law_of fun f cdv A outer s H E hr => JSs.out (jss_one (JS.mk (ss_ret (se_ixA (hu_of hr) (se_var 1) (se_callD h_q_law_next (hr.mono (by decide)) rfl (sa_cons (se_var 0) (sa_cons (se_callB call_lenM rfl b_len bt_len (sa_cons (se_var 1) (sa_nil))) (sa_nil))) (lenOk.cons (lenOk.cons lenOk.nil)))))))
theorem sc_q_law_same : FnScope ["_law_one", "_law_two"] ["_law_one", "_law_two"] (defScope (top 10)) := ⟨rfl, rfl, rfl, by decide +kernel, rfl, by decide +kernel, by decide +kernel⟩
theorem ok_q_law_same (L : Laid K mg "_law_same" (top 10) ["_law_one", "_law_two"]) (b_isinstance : mg "isinstance" = none) (b_tuple : mg "tuple" = none) (b_len : mg "len" = none) (b_zip : mg "zip" = none) (b_all : mg "all" = none) (b_str : mg "str" = none) (b_int : mg "int" = none) (b_bool : mg "bool" = none) : DefOk P w K mg base 12 "_law_same" 2 G_q_law_same :=
  def_rec (j := 0) L sc_q_law_same (fun i g hself f cdv A outer s H E hr => JSs.out (jss_cons (js_if (SW.sb (sw_and (sb_of (se_isi (T := "tuple") (x := "isinstance") (by decide) rfl b_isinstance (se_var 0) rfl b_tuple bt_tuple)) (sw_and1 (sb_of (se_isi (T := "tuple") (x := "isinstance") (by decide) rfl b_isinstance (se_var 1) rfl b_tuple bt_tuple))))) (jss_one (JS.mk (ss_ret (se_and (se_cmp (op_eqM (room100 hr)) (se_callB call_lenM rfl b_len bt_len (sa_cons (se_var 0) (sa_nil))) (se_callB call_lenM rfl b_len bt_len (sa_cons (se_var 1) (sa_nil))) rfl) (se_and1 (se_callB (call_allM rfl) rfl b_all bt_all (sa_cons (se_comp rfl rfl (compS_of (N' := ["_law_a", "_law_b"]) (nt := 2) (fr := []) [] rfl (by decide +kernel) (by decide +kernel) (by decide +kernel) rfl trivial trivial) (si_zip rfl b_zip (se_var 0) (se_var 1)) (fun C s0 H0 fp => sg_tup rfl (sgs_cons (sg_name (i := 0) nd_6 rfl (by first | exact Or.inl rfl | exact Or.inr rfl)) (sgs_cons (sg_name (i := 1) nd_6 rfl (by first | exact Or.inl rfl | exact Or.inr rfl)) (sgs_nil)))) (fun C s0 H0 fp => sc_nil) (fun C s0 H0 fp => se_callD hself hr rfl (sa_cons (se_var 0) (sa_cons (se_var 1) (sa_nil))) (lenOk.cons (lenOk.cons lenOk.nil)))) (sa_nil)))))))) (jss_nil)) (jss_cons (js_if (SW.sb (sw_and (sb_of (se_isi (T := "str") (x := "isinstance") (by decide) rfl b_isinstance (se_var 0) rfl b_str bt_str)) (sw_and1 (sb_of (se_isi (T := "str") (x := "isinstance") (by decide) rfl b_isinstance (se_var 1) rfl b_str bt_str))))) (jss_one (JS.mk (ss_ret (se_cmp (op_eqM (room100 hr)) (se_var 0) (se_var 1) rfl)))) (jss_nil)) (jss_cons (js_if (SW.sb (sw_and (sb_of (se_isi (T := "int") (x := "isinstance") (by decide) rfl b_isinstance (se_var 0) rfl b_int bt_int)) (sw_and1 (sb_of (se_isi (T := "int") (x := "isinstance") (by decide) rfl b_isinstance (se_var 1) rfl b_int bt_int))))) (jss_one (JS.mk (ss_ret (se_and (se_cmp (op_eqM (room100 hr)) (se_isi (T := "bool") (x := "isinstance") (by decide) rfl b_isinstance (se_var 0) rfl b_bool bt_bool) (se_isi (T := "bool") (x := "isinstance") (by decide) rfl b_isinstance (se_var 1) rfl b_bool bt_bool) rfl) (se_and1 (se_cmp (op_eqM (room100 hr)) (se_var 0) (se_var 1) rfl)))))) (jss_nil)) (jss_one (JS.mk (ss_ret (se_and (se_cmp op_isNM (se_var 0) (se_non) rfl) (se_and1 (se_cmp op_isNM (se_var 1) (se_non) rfl)))))))))) 12
theorem sc_q_law_number : FnScope ["_law_word"] ["_law_word"] (defScope (top 11)) := ⟨rfl, rfl, rfl, by decide +kernel, rfl, by decide +kernel, by decide +kernel⟩
theorem ok_q_law_number (L : Laid K mg "_law_number" (top 11) ["_law_word"]) (b_len : mg "len" = none) (b_int : mg "int" = none) : DefOk P w K mg base 1 "_law_number" 1 G_q_law_number :=
  def_ok (k := 0) L sc_q_law_number fun f cdv A outer s H E hr => JSs.out (jss_cons (js_if (SW.sb (sw_or (sb_cmp (op_eqM (room100 hr)) (se_var 0) (se_str) rfl) (sw_or (sb_cmp (op_neM (room100 hr)) (se_metS PySem.F.slot_str_strip PySem.F.type_str_strip mt_stripM (se_var 0) (sa_cons (se_str) (sa_nil))) (se_str) rfl) (sw_or (SW.sb (sw_and (sb_cmp (op_eqM (room100 hr)) (se_ixA (hu_of hr) (se_var 0) (se_int)) (se_str) rfl) (sw_and1 (sb_cmp (op_neM (room100 hr)) (se_var 0) (se_str) rfl)))) (sw_or1 (sb_cmp op_gtM (se_callB call_lenM rfl b_len bt_len (sa_cons (se_var 0) (sa_nil))) (se_int) rfl)))))) (jss_one (JS.mk (ss_ret (se_neg (se_int))))) (jss_nil)) (jss_one (JS.mk (ss_ret (se_callTy call_intA rfl b_int bt_int (sa_cons (se_var 0) (sa_nil)))))))
theorem sc_q_law_sign : FnScope ["_law_pot_here", "_law_signs"] ["_law_pot_here"] (defScope (top 12)) := ⟨rfl, rfl, rfl, by decide +kernel, rfl, by decide +kernel, by decide +kernel⟩
theorem ok_q_law_sign (L : Laid K mg "_law_sign" (top 12) ["_law_pot_here"]) (b_len : mg "len" = none) (h_q_law_next : DefOk P w K mg base 1 "_law_next" 2 G_q_law_next) : DefOk P w K mg base 2 "_law_sign" 1 G_q_law_sign :=
  def_ok (k := 1) L sc_q_law_sign fun f cdv A outer s H E hr => JSs.out (jss_cons (JS.mk (ss_set (i := 1) nd_7 rfl (by first | exact Or.inl rfl | exact Or.inr rfl) (se_str))) (jss_one (JS.mk (ss_ret (se_ixA (hu_of hr) (se_var 1) (se_callD h_q_law_next (hr.mono (by decide)) rfl (sa_cons (se_var 0) (sa_cons (se_callB call_lenM rfl b_len bt_len (sa_cons (se_var 1) (sa_nil))) (sa_nil))) (lenOk.cons (lenOk.cons lenOk.nil))))))))
theorem sc_q_law_text_bent : FnScope ["_law_pot_here", "_law_text", "_law_at", "_law_way", "_law_sign_here"] ["_law_pot_here", "_law_text"] (defScope (top 13)) := ⟨rfl, rfl, rfl, by decide +kernel, rfl, by decide +kernel, by decide +kernel⟩
theorem ok_q_law_text_bent (L : Laid K mg "_law_text_bent" (top 13) ["_law_pot_here", "_law_text"]) (b_len : mg "len" = none) (h_q_law_next : DefOk P w K mg base 1 "_law_next" 2 G_q_law_next) (h_q_law_of : DefOk P w K mg base 2 "_law_of" 2 G_q_law_of) (h_q_law_sign : DefOk P w K mg base 2 "_law_sign" 1 G_q_law_sign) : DefOk P w K mg base 3 "_law_text_bent" 2 G_q_law_text_bent :=
  def_ok (k := 2) L sc_q_law_text_bent fun f cdv A outer s H E hr => JSs.out (jss_cons (JS.mk (ss_par (i := 2) (j := 3) rfl nd_8 rfl rfl (by decide) rfl rfl (sa_cons (se_callD h_q_law_next (hr.mono (by decide)) rfl (sa_cons (se_var 0) (sa_cons (se_bin op_addM (se_callB call_lenM rfl b_len bt_len (sa_cons (se_var 1) (sa_nil))) (se_int)) (sa_nil))) (lenOk.cons (lenOk.cons lenOk.nil))) (sa_cons (se_callD h_q_law_next (hr.mono (by decide)) rfl (sa_cons (se_var 0) (sa_cons (se_int) (sa_nil))) (lenOk.cons (lenOk.cons lenOk.nil))) (sa_nil))))) (jss_cons (JS.mk (ss_set (i := 4) nd_8 rfl (by first | exact Or.inl rfl | exact Or.inr rfl) (se_callD h_q_law_of (hr.mono (by decide)) rfl (sa_cons (se_var 0) (sa_cons (se_lst (sa_cons (se_callD h_q_law_sign (hr.mono (by decide)) rfl (sa_cons (se_var 0) (sa_nil)) (lenOk.cons lenOk.nil)) (sa_cons (se_callD h_q_law_of (hr.mono (by decide)) rfl (sa_cons (se_var 0) (sa_cons (se_lst (JA.out (ja_cons (se_str) (ja_cons (se_str) (ja_cons (se_str) (ja_cons (se_str) (ja_cons (se_str) (ja_cons (se_str) (ja_cons (se_str) (ja_nil)))))))))) (sa_nil))) (lenOk.cons (lenOk.cons lenOk.nil))) (sa_nil)))) (sa_nil))) (lenOk.cons (lenOk.cons lenOk.nil))))) (jss_cons (js_if (sb_cmp op_ltM (se_var 3) (se_int) rfl) (jss_one (JS.mk (ss_ret (se_bin op_addM (se_bin op_addM (se_sliceB (se_var 1) (so_none) (so_some (se_var 2))) (se_var 4)) (se_sliceB (se_var 1) (so_some (se_var 2)) (so_none)))))) (jss_nil)) (jss_cons (js_if (sb_cmp op_ltM (se_var 3) (se_int) rfl) (jss_one (JS.mk (ss_ret (se_bin op_addM (se_sliceB (se_var 1) (so_none) (so_some (se_var 2))) (se_sliceB (se_var 1) (so_some (se_bin op_addM (se_var 2) (se_int))) (so_none)))))) (jss_nil)) (jss_cons (js_if (sb_cmp op_ltM (se_var 3) (se_int) rfl) (jss_one (JS.mk (ss_ret (se_bin op_addM (se_bin op_addM (se_sliceB (se_var 1) (so_none) (so_some (se_var 2))) (se_var 4)) (se_sliceB (se_var 1) (so_some (se_bin op_addM (se_var 2) (se_int))) (so_none)))))) (jss_nil)) (jss_one (JS.mk (ss_ret (se_sliceB (se_var 1) (so_none) (so_some (se_var 2)))))))))))
theorem sc_q_law_row_due : FnScope ["_law_text", "_law_found", "_law_word", "_law_parts", "_law_numbers"] ["_law_text"] (defScope (top 14)) := ⟨rfl, rfl, rfl, by decide +kernel, rfl, by decide +kernel, by decide +kernel⟩
theorem ok_q_law_row_due (L : Laid K mg "_law_row_due" (top 14) ["_law_text"]) (b_len : mg "len" = none) (b_max : mg "max" = none) (b_tuple : mg "tuple" = none) (h_q_law_number : DefOk P w K mg base 1 "_law_number" 1 G_q_law_number) : DefOk P w K mg base 2 "_law_row_due" 1 G_q_law_row_due :=
  def_ok (k := 1) L sc_q_law_row_due fun f cdv A outer s H E hr => JSs.out (jss_cons (js_if (sb_cmp (op_eqM (room100 hr)) (se_var 0) (se_str) rfl) (jss_one (JS.mk (ss_ret (se_tup (sa_nil))))) (jss_nil)) (jss_cons (JS.mk (ss_set (i := 1) nd_9 rfl (by first | exact Or.inl rfl | exact Or.inr rfl) (se_lst (sa_nil)))) (jss_cons (js_for PassesOwn.never rfl (si_walkA (se_metS PySem.F.slot_str_split PySem.F.type_str_split mt_splitM (se_var 0) (sa_cons (se_str) (sa_nil)))) (sg_name (i := 2) nd_9 rfl (by first | exact Or.inl rfl | exact Or.inr rfl)) (jss_cons (JS.mk (ss_set (i := 3) nd_9 rfl (by first | exact Or.inl rfl | exact Or.inr rfl) (se_metS PySem.F.slot_str_split PySem.F.type_str_split mt_splitM (se_var 2) (sa_cons (se_str) (sa_nil))))) (jss_cons (JS.mk (ss_set_comp (i := 4) rfl rfl (compS_of (N' := ["_law_part"]) (nt := 1) (fr := []) [] rfl (by decide +kernel) (by decide +kernel) (by decide +kernel) rfl trivial trivial) (si_walkA (se_var 3)) (fun C s0 H0 fp => sg_name (i := 0) nd_10 rfl (by first | exact Or.inl rfl | exact Or.inr rfl)) (fun C s0 H0 fp => sc_nil) (fun C s0 H0 fp => se_callD h_q_law_number (hr.mono (by decide)) rfl (sa_cons (se_var 0) (sa_nil)) (lenOk.cons lenOk.nil)) nd_9 rfl rfl)) (jss_cons (js_if (SW.sb (sw_or (sb_cmp (op_neM (room100 hr)) (se_callB call_lenM rfl b_len bt_len (sa_cons (se_var 3) (sa_nil))) (se_int) rfl) (sw_or (sb_inA (room100 hr) (se_neg (se_int)) (se_var 4)) (sw_or1 (sb_cmp op_gtM (se_callB (call_maxL rfl) rfl b_max bt_max (sa_cons (se_comp rfl rfl (compS_of (N' := ["_law_part"]) (nt := 1) (fr := []) [] rfl (by decide +kernel) (by decide +kernel) (by decide +kernel) rfl trivial trivial) (si_walkA (se_var 3)) (fun C s0 H0 fp => sg_name (i := 0) nd_10 rfl (by first | exact Or.inl rfl | exact Or.inr rfl)) (fun C s0 H0 fp => sc_nil) (fun C s0 H0 fp => se_callB call_lenM rfl b_len bt_len (sa_cons (se_var 0) (sa_nil)))) (sa_nil))) (se_int) rfl))))) (jss_one (JS.mk (ss_ret (se_non)))) (jss_nil)) (jss_one (JS.mk (ss_expr (se_append (se_var 1) (sa_cons (se_callTy call_tupleM rfl b_tuple bt_tuple (sa_cons (se_var 4) (sa_nil))) (sa_nil)))))))))) (jss_one (JS.mk (ss_ret (se_callTy call_tupleM rfl b_tuple bt_tuple (sa_cons (se_var 1) (sa_nil)))))))))
theorem sc_law : FnScope ["_law_script", "_law_k", "_law_pot_here", "_law_tiles", "_law_number_here", "_law_text", "_law_some", "_law_turn", "_law_bent", "_law_more", "_law_one", "_law_due"] ["_law_script"] (defScope (top 15)) := ⟨rfl, rfl, rfl, by decide +kernel, rfl, by decide +kernel, by decide +kernel⟩
theorem fn_law {f : Addr} {fd : FuncData} (F : Fun K "law" "law" (top 15) f fd) (b_len : mg "len" = none) (b_min : mg "min" = none) (b_max : mg "max" = none) (b_range : mg "range" = none) (b_str : mg "str" = none) (b_int : mg "int" = none) (h_q_law_pot : DefOk P w K mg base 1 "_law_pot" 2 G_q_law_pot) (h_q_law_next : DefOk P w K mg base 1 "_law_next" 2 G_q_law_next) (h_q_law_of : DefOk P w K mg base 2 "_law_of" 2 G_q_law_of) (h_q_law_text_bent : DefOk P w K mg base 3 "_law_text_bent" 2 G_q_law_text_bent) (h_q_law_row_due : DefOk P w K mg base 2 "_law_row_due" 1 G_q_law_row_due) (h_read_row : DefOk P w K mg base 3 "read_row" 1 G_read_row) (h_q_law_same : DefOk P w K mg base 12 "_law_same" 2 G_q_law_same) : FnOk P w K mg base CX0 13 f fd ["_law_script"] (spM K 1 G_law) :=
  fn_m (k := 12) F sc_law fun cdv A outer s H E hr => JSs.out (jss_cons (js_for PassesOwn.never rfl (si_range1 rfl b_range (se_callB (call_maxM rfl) rfl b_max bt_max (sa_cons (se_int) (sa_cons (se_callB (call_minM rfl) rfl b_min bt_min (sa_cons (se_callB call_lenM rfl b_len bt_len (sa_cons (se_var 0) (sa_nil))) (sa_cons (se_int) (sa_nil)))) (sa_nil))))) (sg_name (i := 1) nd_11 rfl (by first | exact Or.inl rfl | exact Or.inr rfl)) (jss_cons (JS.mk (ss_set (i := 2) nd_11 rfl (by first | exact Or.inl rfl | exact Or.inr rfl) (se_callD h_q_law_pot (hr.mono (by decide)) rfl (sa_cons (se_var 0) (sa_cons (se_var 1) (sa_nil))) (lenOk.cons (lenOk.cons lenOk.nil))))) (jss_cons (JS.mk (ss_set (i := 3) nd_11 rfl (by first | exact Or.inl rfl | exact Or.inr rfl) (se_lst (sa_nil)))) (jss_cons (js_for PassesOwn.never rfl (si_range1 rfl b_range (se_callD h_q_law_next (hr.mono (by decide)) rfl (sa_cons (se_var 2) (sa_cons (se_int) (sa_nil))) (lenOk.cons (lenOk.cons lenOk.nil)))) (sg_name (i := 4) nd_11 rfl (by first | exact Or.inl rfl | exact Or.inr rfl)) (jss_one (JS.mk (ss_expr (se_append (se_var 3) (sa_cons (se_join (se_str) (sa_cons (se_comp rfl rfl (compS_of (N' := ["_law_part", "_law_pot_here"]) (nt := 1) (fr := [2]) ["_law_pot_here"] rfl (by decide +kernel) (by decide +kernel) (by decide +kernel) rfl ⟨⟨rfl, by decide⟩, trivial⟩ ⟨by first | exact Or.inl rfl | exact Or.inr rfl, trivial⟩) (si_range1 rfl b_range (se_int)) (fun C s0 H0 fp => sg_name (i := 0) nd_12 rfl (by first | exact Or.inl rfl | exact Or.inr rfl)) (fun C s0 H0 fp => sc_nil) (fun C s0 H0 fp => se_callTy call_strM rfl b_str bt_str (sa_cons (se_callD h_q_law_next (hr.mono (by decide)) rfl (sa_cons (se_var 1) (sa_cons (se_callD h_q_law_of (hr.mono (by decide)) rfl (sa_cons (se_var 1) (sa_cons (se_lst (sa_cons (se_int) (sa_cons (se_int) (sa_cons (se_bin op_powB (se_int) (se_int)) (sa_nil))))) (sa_nil))) (lenOk.cons (lenOk.cons lenOk.nil))) (sa_nil))) (lenOk.cons (lenOk.cons lenOk.nil))) (sa_nil)))) (sa_nil))) (sa_nil))))))) (jss_cons (JS.mk (ss_set (i := 5) nd_11 rfl (by first | exact Or.inl rfl | exact Or.inr rfl) (se_bin op_addM (se_join (se_str) (sa_cons (se_var 3) (sa_nil))) (se_bin op_mulA (se_str) (se_callTy call_intM rfl b_int bt_int (sa_cons (se_cmp (op_eqM (room100 hr)) (se_var 3) (se_lst (sa_nil)) rfl) (sa_nil))))))) (jss_cons (js_setL (i := 6) nd_11 rfl (by first | exact Or.inl rfl | exact Or.inr rfl) (ja_cons (se_str) (ja_cons (se_str) (ja_cons (se_str) (ja_cons (se_str) (ja_cons (se_str) (ja_cons (se_str) (ja_cons (se_str) (ja_cons (se_str) (ja_cons (se_str) (ja_cons (se_str) (ja_cons (se_str) (ja_cons (se_str) (ja_cons (se_str) (ja_nil))))))))))))))) (jss_cons (JS.mk (ss_set (i := 6) nd_11 rfl (by first | exact Or.inl rfl | exact Or.inr rfl) (se_bin op_addM (se_var 6) (se_lst (JA.out (ja_cons (se_str) (ja_cons (se_str) (ja_cons (se_str) (ja_cons (se_str) (ja_cons (se_str) (ja_cons (se_str) (ja_cons (se_str) (ja_cons (se_str) (ja_nil)))))))))))))) (jss_cons (js_for PassesOwn.never rfl (si_range1 rfl b_range (se_int)) (sg_name (i := 7) nd_11 rfl (by first | exact Or.inl rfl | exact Or.inr rfl)) (jss_cons (JS.mk (ss_set (i := 8) nd_11 rfl (by first | exact Or.inl rfl | exact Or.inr rfl) (se_callD h_q_law_text_bent (hr.mono (by decide)) rfl (sa_cons (se_var 2) (sa_cons (se_var 5) (sa_nil))) (lenOk.cons (lenOk.cons lenOk.nil))))) (jss_cons (js_for PassesOwn.never rfl (si_range1 rfl b_range (se_callD h_q_law_next (hr.mono (by decide)) rfl (sa_cons (se_var 2) (sa_cons (se_int) (sa_nil))) (lenOk.cons (lenOk.cons lenOk.nil)))) (sg_name (i := 9) nd_11 rfl (by first | exact Or.inl rfl | exact Or.inr rfl)) (jss_one (JS.mk (ss_set (i := 8) nd_11 rfl (by first | exact Or.inl rfl | exact Or.inr rfl) (se_callD h_q_law_text_bent (hr.mono (by decide)) rfl (sa_cons (se_var 2) (sa_cons (se_var 8) (sa_nil))) (lenOk.cons (lenOk.cons lenOk.nil))))))) (jss_one (JS.mk (ss_expr (se_append (se_var 6) (sa_cons (se_var 8) (sa_nil))))))))) (jss_one (js_for PassesOwn.never rfl (si_walkA (se_bin op_addM (se_var 6) (se_lst (sa_cons (se_var 5) (sa_nil))))) (sg_name (i := 10) nd_11 rfl (by first | exact Or.inl rfl | exact Or.inr rfl)) (jss_cons (JS.mk (ss_set (i := 11) nd_11 rfl (by first | exact Or.inl rfl | exact Or.inr rfl) (se_callD h_q_law_row_due (hr.mono (by decide)) rfl (sa_cons (se_var 10) (sa_nil)) (lenOk.cons lenOk.nil)))) (jss_one (js_if (SW.sb (sw_or (sb_not (sb_of (se_callD h_q_law_same (hr.mono (by decide)) rfl (sa_cons (se_callD h_read_row (hr.mono (by decide)) rfl (sa_cons (se_var 10) (sa_nil)) (lenOk.cons lenOk.nil)) (sa_cons (se_var 11) (sa_nil))) (lenOk.cons (lenOk.cons lenOk.nil))))) (sw_or1 (sb_cmp (op_neM (room100 hr)) (se_callD h_read_row (hr.mono (by decide)) rfl (sa_cons (se_var 10) (sa_nil)) (lenOk.cons lenOk.nil)) (se_var 11) rfl)))) (jss_one (JS.mk (ss_ret (se_bl)))) (jss_nil)))))))))))))) (jss_one (JS.mk (ss_ret (se_bl)))))
end
end L2.MP.stickytiles_k81_texts_of_no_row
set_option maxRecDepth 100000
set_option maxHeartbeats 8000000
namespace L2.MP.stickytiles_k81_texts_of_no_row
open PySem L2 L2.MP L2.MP.Hn PySem.Spec PyProof.Rows
theorem all_fn {P : Program} {w : World} {K : PySem.W.Frag} {mg : Str → Option Value} {base : Heap} {f : Addr} {fd : FuncData} (b_len : mg "len" = none) (b_all : mg "all" = none) (b_int : mg "int" = none) (b_tuple : mg "tuple" = none) (b_abs : mg "abs" = none) (b_isinstance : mg "isinstance" = none) (b_zip : mg "zip" = none) (b_str : mg "str" = none) (b_bool : mg "bool" = none) (b_max : mg "max" = none) (b_min : mg "min" = none) (b_range : mg "range" = none) {t_MOST_FIGURES : Tok} (g_MOST_FIGURES : mg "MOST_FIGURES" = some (.int 6 t_MOST_FIGURES)) {t_TEN_FIGURES : Tok} (g_TEN_FIGURES : mg "TEN_FIGURES" = some (.str "0123456789" t_TEN_FIGURES)) (L_read_number : Laid K mg "read_number" (top 3) ["word"]) (L_read_numbers : Laid K mg "read_numbers" (top 4) ["words"]) (L_read_row : Laid K mg "read_row" (top 5) ["text"]) (L_q_law_pot : Laid K mg "_law_pot" (top 7) ["_law_script", "_law_k"]) (L_q_law_next : Laid K mg "_law_next" (top 8) ["_law_pot_here", "_law_many"]) (L_q_law_of : Laid K mg "_law_of" (top 9) ["_law_pot_here", "_law_some"]) (L_q_law_same : Laid K mg "_law_same" (top 10) ["_law_one", "_law_two"]) (L_q_law_number : Laid K mg "_law_number" (top 11) ["_law_word"]) (L_q_law_sign : Laid K mg "_law_sign" (top 12) ["_law_pot_here"]) (L_q_law_text_bent : Laid K mg "_law_text_bent" (top 13) ["_law_pot_here", "_law_text"]) (L_q_law_row_due : Laid K mg "_law_row_due" (top 14) ["_law_text"]) (F : Fun K "law" "law" (top 15) f fd) : FnOk P w K mg base CX0 13 f fd ["_law_script"] (spM K 1 G_law) := by
  have h_read_number := ok_read_number (P := P) (w := w) (base := base) L_read_number b_len b_all b_int g_MOST_FIGURES g_TEN_FIGURES 
  have h_read_numbers := ok_read_numbers (P := P) (w := w) (base := base) L_read_numbers b_tuple  h_read_number
  have h_read_row := ok_read_row (P := P) (w := w) (base := base) L_read_row b_len b_all b_tuple  h_read_numbers
  have h_q_law_pot := ok_q_law_pot (P := P) (w := w) (base := base) L_q_law_pot b_len b_abs b_int  
  have h_q_law_next := ok_q_law_next (P := P) (w := w) (base := base) L_q_law_next   
  have h_q_law_of := ok_q_law_of (P := P) (w := w) (base := base) L_q_law_of b_len  h_q_law_next
  have h_q_law_same := ok_q_law_same (P := P) (w := w) (base := base) L_q_law_same b_isinstance b_tuple b_len b_zip b_all b_str b_int b_bool  
  have h_q_law_number := ok_q_law_number (P := P) (w := w) (base := base) L_q_law_number b_len b_int  
  have h_q_law_sign := ok_q_law_sign (P := P) (w := w) (base := base) L_q_law_sign b_len  h_q_law_next
  have h_q_law_text_bent := ok_q_law_text_bent (P := P) (w := w) (base := base) L_q_law_text_bent b_len  h_q_law_next h_q_law_of h_q_law_sign
  have h_q_law_row_due := ok_q_law_row_due (P := P) (w := w) (base := base) L_q_law_row_due b_len b_max b_tuple  h_q_law_number
  exact fn_law F b_len b_min b_max b_range b_str b_int h_q_law_pot h_q_law_next h_q_law_of h_q_law_text_bent h_q_law_row_due h_read_row h_q_law_same
theorem all_mk {l : PySem.W.OpenLaw} {w : World} {K : PySem.W.Frag} {h : Heap} {mg : Str → Option Value} {fa : Addr} (X : K.In h) (G : h.Ns mainGlobals mg) (hfa : mg "law" = some (.ref fa)) {f0 f1 f2 f3 f4 f5 f6 f7 f8 f9 f10 f11 : Addr} {od0 an0 od1 an1 od2 an2 od3 an3 od4 an4 od5 an5 od6 an6 od7 an7 od8 an8 od9 an9 od10 an10 od11 an11 : Option Addr} {sl0 sl1 sl2 sl3 sl4 sl5 sl6 sl7 sl8 sl9 sl10 sl11 : Array (Option Value)} {oc0 kV0 dc0 pm0 cd0 ct0 oc1 kV1 dc1 pm1 cd1 ct1 oc2 kV2 dc2 pm2 cd2 ct2 oc3 kV3 dc3 pm3 cd3 ct3 oc4 kV4 dc4 pm4 cd4 ct4 oc5 kV5 dc5 pm5 cd5 ct5 oc6 kV6 dc6 pm6 cd6 ct6 oc7 kV7 dc7 pm7 cd7 ct7 oc8 kV8 dc8 pm8 cd8 ct8 oc9 kV9 dc9 pm9 cd9 ct9 oc10 kV10 dc10 pm10 cd10 ct10 oc11 kV11 dc11 pm11 cd11 ct11 : Value}
    (a0 : PySem.W.nsIn K mainGlobals "read_number" = some (some (.ref f0))) (l0 : K.lookup f0 = some ⟨oc0, od0, .func (PySem.W.fnOf "read_number" "read_number" (defArgs (top 3)) (defBody (top 3)) (defScope (top 3)) .none kV0 dc0 pm0 an0 cd0 ct0), sl0⟩) (c0 : PySem.W.codeIn K cd0 "read_number" = true) (k0 : PySem.W.keepIn K (.ref f0) = true)
    (a1 : PySem.W.nsIn K mainGlobals "read_numbers" = some (some (.ref f1))) (l1 : K.lookup f1 = some ⟨oc1, od1, .func (PySem.W.fnOf "read_numbers" "read_numbers" (defArgs (top 4)) (defBody (top 4)) (defScope (top 4)) .none kV1 dc1 pm1 an1 cd1 ct1), sl1⟩) (c1 : PySem.W.codeIn K cd1 "read_numbers" = true) (k1 : PySem.W.keepIn K (.ref f1) = true)
    (a2 : PySem.W.nsIn K mainGlobals "read_row" = some (some (.ref f2))) (l2 : K.lookup f2 = some ⟨oc2, od2, .func (PySem.W.fnOf "read_row" "read_row" (defArgs (top 5)) (defBody (top 5)) (defScope (top 5)) .none kV2 dc2 pm2 an2 cd2 ct2), sl2⟩) (c2 : PySem.W.codeIn K cd2 "read_row" = true) (k2 : PySem.W.keepIn K (.ref f2) = true)
    (a3 : PySem.W.nsIn K mainGlobals "_law_pot" = some (some (.ref f3))) (l3 : K.lookup f3 = some ⟨oc3, od3, .func (PySem.W.fnOf "_law_pot" "_law_pot" (defArgs (top 7)) (defBody (top 7)) (defScope (top 7)) .none kV3 dc3 pm3 an3 cd3 ct3), sl3⟩) (c3 : PySem.W.codeIn K cd3 "_law_pot" = true) (k3 : PySem.W.keepIn K (.ref f3) = true)
    (a4 : PySem.W.nsIn K mainGlobals "_law_next" = some (some (.ref f4))) (l4 : K.lookup f4 = some ⟨oc4, od4, .func (PySem.W.fnOf "_law_next" "_law_next" (defArgs (top 8)) (defBody (top 8)) (defScope (top 8)) .none kV4 dc4 pm4 an4 cd4 ct4), sl4⟩) (c4 : PySem.W.codeIn K cd4 "_law_next" = true) (k4 : PySem.W.keepIn K (.ref f4) = true)
    (a5 : PySem.W.nsIn K mainGlobals "_law_of" = some (some (.ref f5))) (l5 : K.lookup f5 = some ⟨oc5, od5, .func (PySem.W.fnOf "_law_of" "_law_of" (defArgs (top 9)) (defBody (top 9)) (defScope (top 9)) .none kV5 dc5 pm5 an5 cd5 ct5), sl5⟩) (c5 : PySem.W.codeIn K cd5 "_law_of" = true) (k5 : PySem.W.keepIn K (.ref f5) = true)
    (a6 : PySem.W.nsIn K mainGlobals "_law_same" = some (some (.ref f6))) (l6 : K.lookup f6 = some ⟨oc6, od6, .func (PySem.W.fnOf "_law_same" "_law_same" (defArgs (top 10)) (defBody (top 10)) (defScope (top 10)) .none kV6 dc6 pm6 an6 cd6 ct6), sl6⟩) (c6 : PySem.W.codeIn K cd6 "_law_same" = true) (k6 : PySem.W.keepIn K (.ref f6) = true)
    (a7 : PySem.W.nsIn K mainGlobals "_law_number" = some (some (.ref f7))) (l7 : K.lookup f7 = some ⟨oc7, od7, .func (PySem.W.fnOf "_law_number" "_law_number" (defArgs (top 11)) (defBody (top 11)) (defScope (top 11)) .none kV7 dc7 pm7 an7 cd7 ct7), sl7⟩) (c7 : PySem.W.codeIn K cd7 "_law_number" = true) (k7 : PySem.W.keepIn K (.ref f7) = true)
    (a8 : PySem.W.nsIn K mainGlobals "_law_sign" = some (some (.ref f8))) (l8 : K.lookup f8 = some ⟨oc8, od8, .func (PySem.W.fnOf "_law_sign" "_law_sign" (defArgs (top 12)) (defBody (top 12)) (defScope (top 12)) .none kV8 dc8 pm8 an8 cd8 ct8), sl8⟩) (c8 : PySem.W.codeIn K cd8 "_law_sign" = true) (k8 : PySem.W.keepIn K (.ref f8) = true)
    (a9 : PySem.W.nsIn K mainGlobals "_law_text_bent" = some (some (.ref f9))) (l9 : K.lookup f9 = some ⟨oc9, od9, .func (PySem.W.fnOf "_law_text_bent" "_law_text_bent" (defArgs (top 13)) (defBody (top 13)) (defScope (top 13)) .none kV9 dc9 pm9 an9 cd9 ct9), sl9⟩) (c9 : PySem.W.codeIn K cd9 "_law_text_bent" = true) (k9 : PySem.W.keepIn K (.ref f9) = true)
    (a10 : PySem.W.nsIn K mainGlobals "_law_row_due" = some (some (.ref f10))) (l10 : K.lookup f10 = some ⟨oc10, od10, .func (PySem.W.fnOf "_law_row_due" "_law_row_due" (defArgs (top 14)) (defBody (top 14)) (defScope (top 14)) .none kV10 dc10 pm10 an10 cd10 ct10), sl10⟩) (c10 : PySem.W.codeIn K cd10 "_law_row_due" = true) (k10 : PySem.W.keepIn K (.ref f10) = true)
    (a11 : PySem.W.nsIn K mainGlobals "law" = some (some (.ref f11))) (l11 : K.lookup f11 = some ⟨oc11, od11, .func (PySem.W.fnOf "law" "law" (defArgs (top 15)) (defBody (top 15)) (defScope (top 15)) .none kV11 dc11 pm11 an11 cd11 ct11), sl11⟩) (c11 : PySem.W.codeIn K cd11 "law" = true) (k11 : PySem.W.keepIn K (.ref f11) = true)
    (z0 : PySem.W.nsIn K mainGlobals "len" = some none)
    (z1 : PySem.W.nsIn K mainGlobals "all" = some none)
    (z2 : PySem.W.nsIn K mainGlobals "int" = some none)
    (z3 : PySem.W.nsIn K mainGlobals "tuple" = some none)
    (z4 : PySem.W.nsIn K mainGlobals "abs" = some none)
    (z5 : PySem.W.nsIn K mainGlobals "isinstance" = some none)
    (z6 : PySem.W.nsIn K mainGlobals "zip" = some none)
    (z7 : PySem.W.nsIn K mainGlobals "str" = some none)
    (z8 : PySem.W.nsIn K mainGlobals "bool" = some none)
    (z9 : PySem.W.nsIn K mainGlobals "max" = some none)
    (z10 : PySem.W.nsIn K mainGlobals "min" = some none)
    (z11 : PySem.W.nsIn K mainGlobals "range" = some none)
    {tg0 : Tok} (y0 : PySem.W.nsIn K mainGlobals "MOST_FIGURES" = some (some (.int 6 tg0)))
    {tg1 : Tok} (y1 : PySem.W.nsIn K mainGlobals "TEN_FIGURES" = some (some (.str "0123456789" tg1))) :
    ∃ fd : FuncData, (∀ (s : Shared) (v : Value), BindsTo s fd ⟨[v], []⟩ [("_law_script", v)]) ∧ ∀ base : Heap, K.In base → base.Ns mainGlobals mg → FnOk l.prog w K mg base CX0 13 fa fd ["_law_script"] (spM K 1 G_law) := by
  have e := hfa.symm.trans (PySem.W.mg_of X G a11)
  cases e
  have L0 : Laid K mg "read_number" (top 3) ["word"] := ⟨_, _, fun_mk (st := top 3) l0 c0 k0, PySem.W.mg_of X G a0, (fun_mk (st := top 3) l0 c0 k0).binds (ps := ["word"]) fun _ _ _ _ _ _ us hl => match us, hl with | [_], _ => rfl⟩
  have L1 : Laid K mg "read_numbers" (top 4) ["words"] := ⟨_, _, fun_mk (st := top 4) l1 c1 k1, PySem.W.mg_of X G a1, (fun_mk (st := top 4) l1 c1 k1).binds (ps := ["words"]) fun _ _ _ _ _ _ us hl => match us, hl with | [_], _ => rfl⟩
  have L2 : Laid K mg "read_row" (top 5) ["text"] := ⟨_, _, fun_mk (st := top 5) l2 c2 k2, PySem.W.mg_of X G a2, (fun_mk (st := top 5) l2 c2 k2).binds (ps := ["text"]) fun _ _ _ _ _ _ us hl => match us, hl with | [_], _ => rfl⟩
  have L3 : Laid K mg "_law_pot" (top 7) ["_law_script", "_law_k"] := ⟨_, _, fun_mk (st := top 7) l3 c3 k3, PySem.W.mg_of X G a3, (fun_mk (st := top 7) l3 c3 k3).binds (ps := ["_law_script", "_law_k"]) fun _ _ _ _ _ _ us hl => match us, hl with | [_, _], _ => rfl⟩
  have L4 : Laid K mg "_law_next" (top 8) ["_law_pot_here", "_law_many"] := ⟨_, _, fun_mk (st := top 8) l4 c4 k4, PySem.W.mg_of X G a4, (fun_mk (st := top 8) l4 c4 k4).binds (ps := ["_law_pot_here", "_law_many"]) fun _ _ _ _ _ _ us hl => match us, hl with | [_, _], _ => rfl⟩
  have L5 : Laid K mg "_law_of" (top 9) ["_law_pot_here", "_law_some"] := ⟨_, _, fun_mk (st := top 9) l5 c5 k5, PySem.W.mg_of X G a5, (fun_mk (st := top 9) l5 c5 k5).binds (ps := ["_law_pot_here", "_law_some"]) fun _ _ _ _ _ _ us hl => match us, hl with | [_, _], _ => rfl⟩
  have L6 : Laid K mg "_law_same" (top 10) ["_law_one", "_law_two"] := ⟨_, _, fun_mk (st := top 10) l6 c6 k6, PySem.W.mg_of X G a6, (fun_mk (st := top 10) l6 c6 k6).binds (ps := ["_law_one", "_law_two"]) fun _ _ _ _ _ _ us hl => match us, hl with | [_, _], _ => rfl⟩
  have L7 : Laid K mg "_law_number" (top 11) ["_law_word"] := ⟨_, _, fun_mk (st := top 11) l7 c7 k7, PySem.W.mg_of X G a7, (fun_mk (st := top 11) l7 c7 k7).binds (ps := ["_law_word"]) fun _ _ _ _ _ _ us hl => match us, hl with | [_], _ => rfl⟩
  have L8 : Laid K mg "_law_sign" (top 12) ["_law_pot_here"] := ⟨_, _, fun_mk (st := top 12) l8 c8 k8, PySem.W.mg_of X G a8, (fun_mk (st := top 12) l8 c8 k8).binds (ps := ["_law_pot_here"]) fun _ _ _ _ _ _ us hl => match us, hl with | [_], _ => rfl⟩
  have L9 : Laid K mg "_law_text_bent" (top 13) ["_law_pot_here", "_law_text"] := ⟨_, _, fun_mk (st := top 13) l9 c9 k9, PySem.W.mg_of X G a9, (fun_mk (st := top 13) l9 c9 k9).binds (ps := ["_law_pot_here", "_law_text"]) fun _ _ _ _ _ _ us hl => match us, hl with | [_, _], _ => rfl⟩
  have L10 : Laid K mg "_law_row_due" (top 14) ["_law_text"] := ⟨_, _, fun_mk (st := top 14) l10 c10 k10, PySem.W.mg_of X G a10, (fun_mk (st := top 14) l10 c10 k10).binds (ps := ["_law_text"]) fun _ _ _ _ _ _ us hl => match us, hl with | [_], _ => rfl⟩
  exact ⟨_, fun s v => .of_eq rfl, fun base _ _ => all_fn (PySem.W.mg_none_of X G z0) (PySem.W.mg_none_of X G z1) (PySem.W.mg_none_of X G z2) (PySem.W.mg_none_of X G z3) (PySem.W.mg_none_of X G z4) (PySem.W.mg_none_of X G z5) (PySem.W.mg_none_of X G z6) (PySem.W.mg_none_of X G z7) (PySem.W.mg_none_of X G z8) (PySem.W.mg_none_of X G z9) (PySem.W.mg_none_of X G z10) (PySem.W.mg_none_of X G z11) (PySem.W.mg_of X G y0) (PySem.W.mg_of X G y1) L0 L1 L2 L3 L4 L5 L6 L7 L8 L9 L10 (fun_mk (st := top 15) l11 c11 k11)⟩
end L2.MP.stickytiles_k81_texts_of_no_row
set_option maxHeartbeats 4000000
namespace L2.MP.stickytiles_k81_texts_of_no_row
open PySem L2.MP L2.MP.Hn
open L2.MP.Hd (eq_str ne_str)
structure TOk (z : Str) (m : Nat) : Prop where
  len : z.length ≤ m
  ok : ∀ c ∈ z.cps.toList, c < 1114112
theorem TOk.str {z : Str} {m : Nat} (h : TOk z m) : PyData.strOk z = true := strOk_of h.ok
theorem TOk.up {z : Str} {m m' : Nat} (h : TOk z m) (hm : m ≤ m') : TOk z m' := ⟨Nat.le_trans h.len hm, h.ok⟩
theorem part_mem {z y p : Str} (hp : p ∈ Txt.split z y) {c : Nat} (hc : c ∈ p.cps.toList) : c ∈ z.cps.toList := by
  have e := StrLaws.join_split z y
  rw [← e, PyProof.Rows.mem_join]
  exact .inl ⟨p, hp, hc⟩
theorem TOk.part {z y p : Str} {m : Nat} (h : TOk z m) (hp : p ∈ Txt.split z y) : TOk p m := ⟨Nat.le_trans (PyProof.Rows.part_short hp) h.len, fun c hc => h.ok c (part_mem hp hc)⟩
theorem split_few (z y : Str) : (Txt.split z y).length ≤ z.length + 2 := by
  unfold Txt.split
  split
  · simp
  · split
    · simp
    · rw [length_partsBetween]
      have := StrLaws.occ_length_le z y 0 z.length (z.length + 1)
      omega
theorem split_rd {z y : Str} {s : Sto} (hy : (y.length == 0) = false) (hz : z.length ≤ 9000) : splitD (.str z) [.str y] s = some (.ref s.length, s ++ [.lst ((Txt.split z y).map D.str)]) := by
  have := split_few z y
  have f1 : fits (z.length + 2) = true := fits_small (by omega)
  have f2 : fits (Txt.split z y).length = true := fits_small (by omega)
  unfold splitD
  simp only [hy, f1, f2, Bool.not_false, Bool.and_self, if_true]
def dig (c : Nat) : Bool := decide (48 ≤ c) && decide (c ≤ 57)
def digs (w : Str) : Bool := w.cps.toList.all dig
def lead (w : Str) : Bool := (w.cps.toList.head? == some 48) && (w != "0")
def good (w : Str) (m : Nat) : Bool := decide (1 ≤ w.length) && decide (w.length ≤ m) && digs w && !lead w
def val (w : Str) : Int := ((NumText.digitsVal w.cps.toList : Nat) : Int)
def numD (w : Str) : D := if good w 6 = true then .int (val w) else .non
theorem good_int {w : Str} {m : Nat} (h : good w m = true) (hm : m ≤ 600) (s : Sto) : intA [.str w] s = some (.int (val w), s) := by
  unfold good at h
  rw [Bool.and_eq_true, Bool.and_eq_true, Bool.and_eq_true] at h
  obtain ⟨⟨⟨h1, h2⟩, h3⟩, _⟩ := h
  have h1 := of_decide_eq_true h1
  have h2 := of_decide_eq_true h2
  have e : PySem.intText? w = some (val w) := by
    refine PySem.intText_digits (fun c hc => ?_) ?_ (by omega)
    · have := List.all_eq_true.mp h3 c hc
      unfold dig at this
      rw [Bool.and_eq_true] at this
      exact ⟨of_decide_eq_true this.1, of_decide_eq_true this.2⟩
    · intro z
      have : w.cps.toList.length = w.length := Array.length_toList
      rw [z] at this
      simp at this
      omega
  have et : intTC [.str w] s = if decide (w.length ≤ 640) = true then (PySem.intText? w).map (fun n => (D.int n, s)) else none := rfl
  unfold intA orN
  rw [show intC [.str w] s = none from rfl, orO_r, et, if_pos (decide_eq_true (by omega)), e]
  rfl
theorem in_ten (c : Nat) (hc : c < 1114112) (s : Sto) : inA (.str ⟨#[c]⟩) (.str "0123456789") s = some (.bl (dig c), s) := by
  have e0 : memP (.str ⟨#[c]⟩) (.str "0123456789") = none := rfl
  have e1 : inD false (.str ⟨#[c]⟩) (.str "0123456789") s = none := by
    unfold inD
    rw [toP, toP]
    by_cases h1 : PyData.strOk ⟨#[c]⟩ = true
    · by_cases h2 : PyData.strOk "0123456789" = true
      · simp [h1, h2, e0]
      · simp [h1, h2]
    · simp [h1]
  have e2 := StrLaws.found_one "0123456789" c
  have e3 : decide (c ∈ (Str.ofString "0123456789").cps.toList) = dig c := by
    have : (Str.ofString "0123456789").cps.toList = [48, 49, 50, 51, 52, 53, 54, 55, 56, 57] := by decide
    rw [this]
    unfold dig
    rw [Bool.eq_iff_iff]
    simp
    omega
  rw [e3] at e2
  unfold inA orG
  rw [e1, orO_r]
  simp only [inSD, e2, orO_l]
theorem bls_of : ∀ bs : List Bool, blsOf (bs.map D.bl) = some bs
  | [] => rfl
  | b :: bs => by
    rw [List.map_cons, blsOf, bls_of bs]
    rfl
theorem all_rd {l : Nat} {bs : List Bool} {s : Sto} (h : s[l]? = some (.lst (bs.map D.bl))) : allC [.ref l] s = some (.bl (bs.all id), s) := by
  unfold allC
  simp only [lstAt, h, Option.bind_some, bls_of, Option.map_some]
theorem all_ten {z : Str} {m : Nat} (h : TOk z m) (hm : m ≤ 9000) (s : Sto) : mCall allC (mCons (mComp (mWA (mVar 0)) 1 [] (gNm 0) (mTrue) (C_read_number_1)) (mNil)) [some (.str z)] s = some (.bl (digs z), s ++ [.lst ((z.cps.toList.map dig).map D.bl)]) := by
  have ec : mCI ⟨signs z, []⟩ (gNm 0) mTrue C_read_number_1 (signs z) [none] s = some (z.cps.toList.map fun c => D.bl (dig c), s) := by
    unfold signs
    refine ci_map (R := fun ρ => ∃ u, ρ = [u]) ⟨none, rfl⟩ rfl fun c hc ρ hρ => ?_
    obtain ⟨u, rfl⟩ := hρ
    refine ⟨[some (.str ⟨#[c]⟩)], rfl, rfl, ?_, ⟨_, rfl⟩⟩
    unfold C_read_number_1
    simp only [ap_bin, ap_var, ap_con, List.getElem?_cons_zero, Option.bind_some, in_ten c (h.ok c hc)]
  have hz : z.cps.toList.length ≤ 9000 := by rw [Array.length_toList]; exact Nat.le_trans h.len hm
  have fl : fits (z.cps.toList.map fun c => D.bl (dig c)).length = true := fits_small (by rw [List.length_map]; omega)
  have em : (z.cps.toList.map fun c => D.bl (dig c)) = (z.cps.toList.map dig).map D.bl := by simp
  have ew : mWA (mVar 0) [some (.str z)] s = some (⟨signs z, []⟩, s) := by
    rw [ap_wA]
    rfl
  rw [ap_call, ap_cons, ap_comp, ew]
  simp only [Option.bind_some]
  rw [show rho0 [some (.str z)] 1 [] = [none] from rfl, ec]
  simp only [Option.bind_some, fl, if_true, ap_nil]
  rw [em, all_rd (app_at s _)]
  unfold digs
  rw [List.all_map]
  rfl
theorem head_rd {w : Str} {c : Nat} {r : List Nat} (e : w.cps.toList = c :: r) (hw : w.length ≤ 9000) (s : Sto) : ixA (.str w) (.int 0) s = some (.str ⟨#[c]⟩, s) := by
  have eg : w.cps[(0 : Int).toNat]? = some c := by
    rw [← Array.getElem?_toList, e]
    rfl
  exact ix_str (by omega) (by decide) eg
theorem zero_ok : PyData.strOk ("0" : Str) = true := by decide +kernel
theorem one_eq (c : Nat) : ((⟨#[c]⟩ : Str) == "0") = decide (c = 48) := by
  rw [Bool.eq_iff_iff]
  rw [beq_iff_eq, decide_eq_true_eq]
  have e48 : ("0" : Str) = ⟨#[48]⟩ := by decide
  rw [e48]
  constructor
  · intro h
    have h := congrArg (fun z : Str => z.cps.toList) h
    have h : [c] = [48] := h
    exact (List.cons.inj h).1
  · rintro rfl
    rfl
theorem lead_rd {w : Str} {m : Nat} (h : TOk w m) (hm : m ≤ 9000) (hl : 1 ≤ w.length) (s : Sto) : mAndT (mTst (mBin eqD (mBin ixA (mVar 0) (mCon (.int 0))) (mCon (.str "0")))) (mTst (mBin neD (mVar 0) (mCon (.str "0")))) [some (.str w)] s = some (lead w, s) := by
  match e : w.cps.toList with
  | [] =>
    have : w.cps.toList.length = w.length := Array.length_toList
    rw [e] at this
    simp at this
    omega
  | c :: r =>
    have i1 := head_rd e (Nat.le_trans h.len hm) s
    have k1 : PyData.strOk ⟨#[c]⟩ = true := strOk_of fun d hd => by
      have : d = c := by simpa using hd
      rw [this]
      exact h.ok c (by rw [e]; exact List.mem_cons_self)
    have i2 := eq_str (st := s) k1 zero_ok
    have i3 := ne_str (st := s) h.str zero_ok
    rw [one_eq] at i2
    have el : lead w = (decide (c = 48) && (w != "0")) := by
      unfold lead
      rw [e]
      have : (some c == some 48) = decide (c = 48) := by
        rw [Bool.eq_iff_iff]
        simp
      show (some c == some 48 && (w != "0")) = _
      rw [this]
    rw [el]
    simp only [ap_andT, ap_tst, ap_bin, ap_var, ap_con, List.getElem?_cons_zero, Option.bind_some, i1, i2]
    cases decide (c = 48)
    · rfl
    · simp only [if_true, i3, Option.bind_some, Bool.true_and]
theorem chain_rd {z : Str} {s : Sto} (h : z.length ≤ 9000) : mChain leD leD (mCon (.int 1)) (mCall lenD (mCons (mVar 0) (mNil))) (mCon (.int 6)) [some (.str z)] s = some (.bl (decide (1 ≤ z.length) && decide (z.length ≤ 6)), s) := by
  unfold mChain
  have fz : fits z.length = true := fits_small (by omega)
  have e1 : lenD [.str z] s = some (.int z.length, s) := by simp [lenD, fz]
  have d1 : decide ((1 : Int) ≤ (z.length : Int)) = decide (1 ≤ z.length) := by rw [decide_eq_decide]; omega
  have d2 : decide ((z.length : Int) ≤ 6) = decide (z.length ≤ 6) := by rw [decide_eq_decide]; omega
  simp only [ap_con, ap_call, ap_cons, ap_var, ap_nil, List.getElem?_cons_zero, Option.bind_some, e1, leD, cmpD, d1, d2]
  cases decide (1 ≤ z.length) <;> simp
theorem read_number_ok {w : Str} {m : Nat} (h : TOk w m) (hm : m ≤ 9000) (s : Sto) : ∃ s', G_read_number [.str w] s = some (numD w, s') ∧ Gr s s' := by
  have e0 := chain_rd (s := s) (Nat.le_trans h.len hm)
  have er : rho 1 [.str w] = [some (.str w)] := rfl
  by_cases hc : (decide (1 ≤ w.length) && decide (w.length ≤ 6)) = true
  · rw [hc] at e0
    have hl : 1 ≤ w.length := by rw [Bool.and_eq_true] at hc; exact of_decide_eq_true hc.1
    have e1 := all_ten h hm s
    generalize hs1 : s ++ [O.lst ((w.cps.toList.map dig).map D.bl)] = s1 at e1
    have g1 : Gr s s1 := by rw [← hs1]; exact Gr.app _ _
    refine ⟨s1, fn_rt ?_, g1⟩
    unfold B_read_number
    rw [er]
    cases hd : digs w with
    | false =>
      rw [hd] at e1
      have : numD w = .non := by unfold numD good; rw [hc, hd]; rfl
      rw [this]
      refine seq_rt ?_
      rw [ap_if, ap_orT, ap_notT, ap_tst, e0]
      simp only [Option.bind_some, Option.map_some, Bool.not_true, Bool.false_eq_true, if_false, ap_notT, ap_tst, e1, Bool.not_false, if_true]
      rfl
    | true =>
      rw [hd] at e1
      refine seq_to (ρ1 := [some (.str w)]) (s1 := s1) ?_ ?_
      · rw [ap_if, ap_orT, ap_notT, ap_tst, e0]
        simp only [Option.bind_some, Option.map_some, Bool.not_true, Bool.false_eq_true, if_false, ap_notT, ap_tst, e1]
        rfl
      have el := lead_rd h hm hl s1
      cases hL : lead w with
      | true =>
        rw [hL] at el
        have : numD w = .non := by unfold numD good; rw [hc, hd, hL]; rfl
        rw [this]
        refine seq_rt ?_
        rw [ap_if, el]
        rfl
      | false =>
        rw [hL] at el
        have hg : good w 6 = true := by unfold good; rw [hc, hd, hL]; rfl
        have ei := good_int hg (by decide) s1
        refine seq_to (ρ1 := [some (.str w)]) (s1 := s1) (by rw [ap_if, el]; rfl) ?_
        rw [show numD w = .int (val w) from if_pos hg]
        simp only [ap_ret, ap_call, ap_cons, ap_var, List.getElem?_cons_zero, Option.bind_some, ap_nil, ei, Option.map_some]
  · have hc := Bool.eq_false_iff.mpr hc
    rw [hc] at e0
    have : numD w = .non := by unfold numD good; rw [hc]; rfl
    refine ⟨s, fn_rt (seq_rt ?_), Gr.refl _⟩
    rw [er, this, ap_if, ap_orT, ap_notT, ap_tst, e0]
    rfl
def lawN (w : Str) : Int := if good w 9 = true then val w else -1
theorem tw_all {p : Nat → Bool} : ∀ {l : List Nat}, (∀ c ∈ l, p c = true) → l.takeWhile p = l
  | [], _ => rfl
  | a :: l, h => by
    rw [List.takeWhile_cons, if_pos (h a List.mem_cons_self), tw_all fun c hc => h c (List.mem_cons_of_mem _ hc)]
theorem tw_lt {p : Nat → Bool} : ∀ {l : List Nat}, (∃ c ∈ l, p c = false) → (l.takeWhile p).length < l.length ∧ ∃ c ∈ l.drop (l.takeWhile p).length, p c = false
  | [], h => by simp at h
  | a :: l, h => by
    rw [List.takeWhile_cons]
    cases ha : p a with
    | false =>
      rw [if_neg (by simp)]
      exact ⟨by simp, a, by simp, ha⟩
    | true =>
      rw [if_pos rfl]
      have : ∃ c ∈ l, p c = false := by
        obtain ⟨c, hc, q⟩ := h
        rcases List.mem_cons.mp hc with rfl | hc
        · rw [ha] at q; cases q
        · exact ⟨c, hc, q⟩
      obtain ⟨h1, h2⟩ := tw_lt this
      exact ⟨by simp; omega, by simpa using h2⟩
theorem strip_nil (w : Str) : (Txt.stripChars w "0123456789" != "") = !digs w := by
  have ed : ∀ c : Nat, (Str.ofString "0123456789").cps.contains c = dig c := by
    intro c
    rw [← Array.contains_toList]
    have : (Str.ofString "0123456789").cps.toList = [48, 49, 50, 51, 52, 53, 54, 55, 56, 57] := by decide
    rw [this]
    unfold dig
    rw [Bool.eq_iff_iff]
    simp
    omega
  have ef : (Str.ofString "0123456789").cps.contains = dig := funext ed
  have hl : w.cps.toList.length = w.length := Array.length_toList
  have e0 : ("" : Str).cps.toList = [] := by decide
  unfold Txt.stripChars Txt.stripBy
  rw [ef]
  cases hd : digs w with
  | true =>
    have ht : w.cps.toList.takeWhile dig = w.cps.toList := tw_all fun c hc => List.all_eq_true.mp hd c hc
    have lo : stripLo dig true w = w.length := by unfold stripLo; rw [if_pos rfl, ht, hl]
    have hi : stripHi dig true w w.length = w.length := by
      unfold stripHi
      rw [if_pos rfl, List.drop_of_length_le (by omega)]
      simp
    unfold stripSame stripped
    rw [lo, hi]
    by_cases h0 : w.length = 0
    · have : w = "" := by
        apply str_ext
        have : w.cps.toList = [] := List.eq_nil_of_length_eq_zero (by omega)
        rw [this]
        decide
      subst this
      decide
    · rw [if_neg (by simp [h0])]
      have : Builtin.Str.strSub w w.length w.length = "" := by
        apply str_ext
        rw [e0]
        show (w.cps.extract w.length w.length).toList = []
        simp
      rw [this]
      decide
  | false =>
    have hx : ∃ c ∈ w.cps.toList, dig c = false := by
      unfold digs at hd
      rw [List.all_eq_false] at hd
      obtain ⟨c, hc, q⟩ := hd
      exact ⟨c, hc, by simpa using q⟩
    obtain ⟨h1, h2⟩ := tw_lt hx
    have h3 : ∃ c ∈ (w.cps.toList.drop (w.cps.toList.takeWhile dig).length).reverse, dig c = false := by
      obtain ⟨c, hc, q⟩ := h2
      exact ⟨c, List.mem_reverse.mpr hc, q⟩
    obtain ⟨h4, _⟩ := tw_lt h3
    rw [List.length_reverse, List.length_drop] at h4
    have lo : stripLo dig true w = (w.cps.toList.takeWhile dig).length := by unfold stripLo; rw [if_pos rfl]
    rw [Bool.not_false, bne_iff_ne]
    intro hE
    have hE := congrArg (fun z : Str => z.cps.toList.length) hE
    have hE : (if stripSame dig true true w = true then w else stripped dig true true w).cps.toList.length = ("" : Str).cps.toList.length := hE
    rw [e0] at hE
    split at hE
    · rw [List.length_nil] at hE
      omega
    · unfold stripped at hE
      rw [lo] at hE
      unfold stripHi at hE
      rw [if_pos rfl] at hE
      have hE : (w.cps.extract (w.cps.toList.takeWhile dig).length (w.length - ((w.cps.toList.drop (w.cps.toList.takeWhile dig).length).reverse.takeWhile dig).length)).toList.length = 0 := hE
      rw [Array.length_toList, Array.size_extract] at hE
      have hz : w.cps.size = w.length := rfl
      omega
theorem empty_ok' : PyData.strOk ("" : Str) = true := by decide +kernel
theorem law_number_ok {w : Str} {m : Nat} (h : TOk w m) (hm : m ≤ 9000) (s : Sto) : G_q_law_number [.str w] s = some (.int (lawN w), s) := by
  have er : rho 1 [.str w] = [some (.str w)] := rfl
  have lw := Nat.le_trans h.len hm
  have fz : fits w.length = true := fits_small (by omega)
  have i0 := eq_str (st := s) h.str empty_ok'
  have i1 : stripD (.str w) [.str "0123456789"] s = some (.str (Txt.stripChars w "0123456789"), s) := by
    unfold stripD
    simp only [fz, if_true]
  have so : PyData.strOk (Txt.stripChars w "0123456789") = true := strOk_of fun c hc => h.ok c (by
    unfold Txt.stripChars Txt.stripBy at hc
    split at hc
    · exact hc
    · unfold stripped at hc
      have hc : c ∈ (w.cps.extract _ _).toList := hc
      rw [Array.toList_extract] at hc
      exact List.mem_of_mem_drop (List.mem_of_mem_take hc))
  have i2 := ne_str (st := s) so empty_ok'
  rw [strip_nil] at i2
  have e1 : lenD [.str w] s = some (.int w.length, s) := by simp [lenD, fz]
  have d9 : decide ((w.length : Int) > 9) = !decide (w.length ≤ 9) := by
    rw [Bool.eq_iff_iff]
    simp
    omega
  have emp : (w == "") = !decide (1 ≤ w.length) := by
    rw [Bool.eq_iff_iff]
    rw [beq_iff_eq]
    simp
    constructor
    · rintro rfl
      decide
    · intro z
      apply str_ext
      have : w.cps.toList.length = w.length := Array.length_toList
      have : w.cps.toList = [] := List.eq_nil_of_length_eq_zero (by omega)
      rw [this]
      decide
  rw [emp] at i0
  have eG : good w 9 = (decide (1 ≤ w.length) && decide (w.length ≤ 9) && digs w && !lead w) := rfl
  have test : mOrT (mTst (mBin eqD (mVar 0) (mCon (.str "")))) (mOrT (mTst (mBin neD (mMetS stripD (mVar 0) (mCons (mCon (.str "0123456789")) (mNil))) (mCon (.str "")))) (mOrT (mAndT (mTst (mBin eqD (mBin ixA (mVar 0) (mCon (.int 0))) (mCon (.str "0")))) (mTst (mBin neD (mVar 0) (mCon (.str "0"))))) (mTst (mBin gtD (mCall lenD (mCons (mVar 0) (mNil))) (mCon (.int 9)))))) [some (.str w)] s = some (!good w 9, s) := by
    rw [eG, ap_orT]
    simp only [ap_tst, ap_bin, ap_var, ap_con, List.getElem?_cons_zero, Option.bind_some, i0]
    cases h1 : decide (1 ≤ w.length) with
    | false => rfl
    | true =>
      simp only [Bool.not_true, Bool.false_eq_true, if_false, ap_orT, ap_tst, ap_bin, ap_metS, ap_var, ap_con, List.getElem?_cons_zero, Option.bind_some, ap_cons, ap_nil, i1, i2]
      cases h2 : digs w with
      | false => simp
      | true =>
        have el := lead_rd h hm (of_decide_eq_true h1) s
        simp only [Bool.not_true, Bool.false_eq_true, if_false]
        rw [el]
        cases h3 : lead w with
        | true => simp
        | false =>
          simp only [Option.bind_some, Bool.false_eq_true, if_false, ap_tst, ap_bin, ap_call, ap_cons, ap_var, ap_con, List.getElem?_cons_zero, ap_nil, e1, gtD, cmpD, d9]
          simp
  refine fn_rt ?_
  unfold B_q_law_number
  rw [er]
  cases hg : good w 9 with
  | false =>
    rw [hg] at test
    refine seq_rt ?_
    rw [ap_if, test]
    have : lawN w = -1 := by unfold lawN; rw [hg]; rfl
    rw [this]
    rfl
  | true =>
    rw [hg] at test
    have ei := good_int hg (by decide) s
    refine seq_to (ρ1 := [some (.str w)]) (s1 := s) (by rw [ap_if, test]; rfl) ?_
    rw [show lawN w = val w from if_pos hg]
    simp only [ap_ret, ap_call, ap_cons, ap_var, List.getElem?_cons_zero, Option.bind_some, ap_nil, ei, Option.map_some]
theorem walk_ref {m : ME} {ρ : Rho} {s s1 : Sto} {l : Nat} {ds : List D} (h : m ρ s = some (.ref l, s1)) (ha : s1[l]? = some (.lst ds)) : mWA m ρ s = some (⟨ds, [(l, ds)]⟩, s1) := by
  have el : lstAt s1 l = some ds := by unfold lstAt; rw [ha]
  rw [ap_wA, h]
  simp only [Option.bind_some, walkD, el, Option.map_some, orO_l]
theorem read_numbers_ok {ws : List Str} {m l : Nat} {s : Sto} (h : ∀ w ∈ ws, TOk w m) (hm : m ≤ 9000) (hl : ws.length ≤ 9100) (ha : s[l]? = some (.lst (ws.map D.str))) : ∃ s', G_read_numbers [.ref l] s = some (.tup (ws.map numD), s') ∧ Gr s s' := by
  obtain ⟨s1, e1, g1⟩ := ci_gr (W := ⟨ws.map D.str, [(l, ws.map D.str)]⟩) (g := gNm 0) (c := mTrue) (m := C_read_numbers_1) (f := D.str) (h := numD) (R := fun ρ => ∃ u, ρ = [u]) (as := ws) (ρ := [none]) (st := s) ⟨none, rfl⟩
    (fun s' g => walked_one ((g.old _ (getElem?_lt ha)).trans ha)) (fun w hw ρ s' hρ _ => by
      obtain ⟨u, rfl⟩ := hρ
      obtain ⟨s2, e2, g2⟩ := read_number_ok (h w hw) hm s'
      refine ⟨[some (.str w)], s2, rfl, rfl, ?_, g2, ⟨_, rfl⟩⟩
      unfold C_read_numbers_1
      simp only [ap_call, ap_cons, ap_var, List.getElem?_cons_zero, Option.bind_some, ap_nil, e2])
  have fl : fits (ws.map numD).length = true := fits_small (by rw [List.length_map]; omega)
  have et := tuple_lst (app_at s1 (.lst (ws.map numD)))
  refine ⟨s1 ++ [.lst (ws.map numD)], fn_rt ?_, g1.trans (Gr.app _ _)⟩
  unfold B_read_numbers
  rw [ap_ret, ap_call, ap_cons, ap_comp, walk_ref (m := mVar 0) (s1 := s) rfl ha]
  simp only [Option.bind_some]
  rw [show rho0 (rho 1 [.ref l]) 1 [] = [none] from rfl, e1]
  simp only [Option.bind_some, fl, if_true, ap_nil, et, Option.map_some]
def wordD (w : Str) : D := .tup ((Txt.split w ",").map numD)
def wOk (w : Str) : Bool := decide ((Txt.split w ",").length = 3) && (Txt.split w ",").all fun p => good p 6
theorem read_word {w : Str} {m : Nat} (h : TOk w m) (hm : m ≤ 9000) (s : Sto) : ∃ s', C_read_row_1 [some (.str w)] s = some (wordD w, s') ∧ Gr s s' := by
  have lw := Nat.le_trans h.len hm
  have es := split_rd (z := w) (y := ",") (s := s) (by decide) lw
  have sf := split_few w ","
  obtain ⟨s1, e1, g1⟩ := read_numbers_ok (l := s.length) (s := s ++ [.lst ((Txt.split w ",").map D.str)]) (fun p hp => h.part hp) hm (by omega) (app_at _ _)
  refine ⟨s1, ?_, (Gr.app _ _).trans g1⟩
  unfold C_read_row_1
  simp only [ap_call, ap_cons, ap_metS, ap_var, List.getElem?_cons_zero, Option.bind_some, ap_con, ap_nil, es, e1]
  rfl
def pN (w : Str) : PyData := if good w 6 = true then .int (val w) else .none
theorem toPs_num {n : Nat} {s : Sto} : ∀ ps : List Str, toPs (toP (n + 1) s) (ps.map numD) = some (ps.map pN)
  | [] => rfl
  | p :: ps => by
    rw [List.map_cons, toPs, toPs_num ps]
    have : toP (n + 1) s (numD p) = some (pN p) := by
      unfold numD pN
      split <;> rfl
    rw [this]
    rfl
theorem any_none : ∀ ps : List Str, ((ps.map pN).any fun y => PyData.eqv y .none) = !(ps.all fun p => good p 6)
  | [] => rfl
  | p :: ps => by
    rw [List.map_cons, List.any_cons, any_none ps, List.all_cons]
    have : PyData.eqv (pN p) .none = !good p 6 := by
      unfold pN
      cases good p 6 <;> rfl
    rw [this]
    cases good p 6 <;> rfl
theorem none_in (ps : List Str) (s : Sto) : notInB .non (.tup (ps.map numD)) s = some (.bl (ps.all fun p => good p 6), s) := by
  have e1 : toP 50 s (.tup (ps.map numD)) = some (.tuple (ps.map pN)) := by
    rw [toP]
    rw [toPs_num (n := 48)]
    rfl
  have e2 : toP 50 s .non = some .none := rfl
  have e : inD true .non (.tup (ps.map numD)) s = some (.bl (ps.all fun p => good p 6), s) := by
    unfold inD
    rw [e1, e2]
    simp only [Option.bind_some, memP, Option.map_some, any_none, if_true, Bool.not_not]
  unfold notInB notInA orG
  rw [e]
  rfl
theorem three_rd (w : Str) (s : Sto) : C_read_row_2 [some (wordD w)] s = some (.bl (wOk w), s) := by
  have e1 : lenD [wordD w] s = some (.int (Txt.split w ",").length, s) := by
    unfold wordD
    rw [len_tup, List.length_map]
  have e2 := eq_int ((Txt.split w ",").length : Int) 3 s
  have e3 : (((Txt.split w ",").length : Int) == 3) = decide ((Txt.split w ",").length = 3) := by
    rw [Bool.eq_iff_iff]
    simp
    omega
  rw [e3] at e2
  have e4 := none_in (Txt.split w ",") s
  have e4 : notInB .non (wordD w) s = some (.bl ((Txt.split w ",").all fun p => good p 6), s) := e4
  unfold C_read_row_2 wOk
  simp only [ap_andV, ap_tst, ap_bin, ap_call, ap_cons, ap_var, List.getElem?_cons_zero, Option.bind_some, ap_nil, e1, ap_con, e2]
  cases decide ((Txt.split w ",").length = 3) with
  | false => rfl
  | true => simp only [if_true, e4, Option.bind_some, Bool.true_and]
def rowD (z : Str) : D := if z = "-" then .tup [] else if (Txt.split z " ").all wOk = true then .tup ((Txt.split z " ").map wordD) else .non
theorem dash_ok : PyData.strOk ("-" : Str) = true := by decide +kernel
theorem read_row_ok {z : Str} {m : Nat} (h : TOk z m) (hm : m ≤ 5000) (s : Sto) : ∃ s', G_read_row [.str z] s = some (rowD z, s') ∧ Gr s s' := by
  have er : rho 2 [.str z] = [some (.str z), none] := rfl
  have ee := eq_str (st := s) h.str dash_ok
  by_cases hz : z = "-"
  · subst hz
    refine ⟨s, fn_rt (seq_rt ?_), Gr.refl _⟩
    rw [er, show rowD "-" = .tup [] from rfl]
    simp only [ap_if, ap_tst, ap_bin, ap_var, List.getElem?_cons_zero, ap_con, Option.bind_some, ee, beq_self_eq_true, if_true, ap_ret, ap_tup, ap_nil, Option.map_some]
    rfl
  · have lz := Nat.le_trans h.len hm
    have ne : (z == "-") = false := beq_eq_false_iff_ne.mpr hz
    rw [ne] at ee
    have es := split_rd (z := z) (y := " ") (s := s) (by decide) (by omega)
    have sf := split_few z " "
    have tp : ∀ w ∈ Txt.split z " ", TOk w m := fun w hw => h.part hw
    have erd : rowD z = if (Txt.split z " ").all wOk = true then .tup ((Txt.split z " ").map wordD) else .non := if_neg hz
    generalize Txt.split z " " = ws at *
    have a1 : (s ++ [O.lst (ws.map D.str)])[s.length]? = some (.lst (ws.map D.str)) := app_at _ _
    obtain ⟨s2, e2, g2⟩ := ci_gr (W := ⟨ws.map D.str, [(s.length, ws.map D.str)]⟩) (g := gNm 0) (c := mTrue) (m := C_read_row_1) (f := D.str) (h := wordD) (R := fun ρ => ∃ u, ρ = [u]) (as := ws) (ρ := [none]) (st := s ++ [O.lst (ws.map D.str)]) ⟨none, rfl⟩
      (fun s' g => walked_one ((g.old _ (by simp)).trans a1)) (fun w hw ρ s' hρ _ => by
        obtain ⟨u, rfl⟩ := hρ
        obtain ⟨s3, e3, g3⟩ := read_word (tp w hw) (by omega) s'
        exact ⟨_, s3, rfl, rfl, e3, g3, ⟨_, rfl⟩⟩)
    have fl : fits (ws.map wordD).length = true := fits_small (by rw [List.length_map]; omega)
    have em1 : mComp (mWA (mMetS splitD (mVar 0) (mCons (mCon (.str " ")) (mNil)))) 1 [] (gNm 0) (mTrue) (C_read_row_1) [some (.str z), none] s = some (.ref s2.length, s2 ++ [.lst (ws.map wordD)]) := by
      rw [ap_comp, walk_ref (l := s.length) (s1 := s ++ [O.lst (ws.map D.str)]) (by rw [ap_metS]; simp only [ap_var, List.getElem?_cons_zero, Option.bind_some, ap_cons, ap_con, ap_nil, es]) a1]
      simp only [Option.bind_some]
      rw [show rho0 [some (.str z), none] 1 [] = [none] from rfl, e2]
      simp only [Option.bind_some, fl, if_true]
    generalize hs3 : s2 ++ [O.lst (ws.map wordD)] = s3 at em1
    have a3 : s3[s2.length]? = some (.lst (ws.map wordD)) := by rw [← hs3]; exact app_at _ _
    have g3 : Gr s s3 := by rw [← hs3]; exact ((Gr.app _ _).trans g2).trans (Gr.app _ _)
    have ec : mCI ⟨ws.map wordD, [(s2.length, ws.map wordD)]⟩ (gNm 0) mTrue C_read_row_2 (ws.map wordD) [none] s3 = some (ws.map fun w => D.bl (wOk w), s3) := by
      refine ci_map (R := fun ρ => ∃ u, ρ = [u]) ⟨none, rfl⟩ (walked_one a3) fun w hw ρ hρ => ?_
      obtain ⟨u, rfl⟩ := hρ
      exact ⟨[some (wordD w)], rfl, rfl, three_rd w s3, ⟨_, rfl⟩⟩
    have fl2 : fits (ws.map fun w => D.bl (wOk w)).length = true := fits_small (by rw [List.length_map]; omega)
    have emb : (ws.map fun w => D.bl (wOk w)) = (ws.map wOk).map D.bl := by simp
    have em2 : mCall allC (mCons (mComp (mWA (mVar 1)) 1 [] (gNm 0) (mTrue) (C_read_row_2)) (mNil)) [some (.str z), some (.ref s2.length)] s3 = some (.bl (ws.all wOk), s3 ++ [.lst ((ws.map wOk).map D.bl)]) := by
      rw [ap_call, ap_cons, ap_comp, walk_ref (m := mVar 1) (s1 := s3) rfl a3]
      simp only [Option.bind_some]
      rw [show rho0 [some (.str z), some (.ref s2.length)] 1 [] = [none] from rfl, ec]
      simp only [Option.bind_some, fl2, if_true, ap_nil]
      rw [emb, all_rd (app_at s3 _), List.all_map]
      rfl
    generalize hs4 : s3 ++ [O.lst ((ws.map wOk).map D.bl)] = s4 at em2
    have g4 : Gr s3 s4 := by rw [← hs4]; exact Gr.app _ _
    have et := tuple_lst ((g4.old _ (getElem?_lt a3)).trans a3)
    refine ⟨s4, fn_rt ?_, g3.trans g4⟩
    rw [er]
    unfold B_read_row
    refine seq_to (ρ1 := [some (.str z), none]) (s1 := s) ?_ ?_
    · simp only [ap_if, ap_tst, ap_bin, ap_var, List.getElem?_cons_zero, ap_con, Option.bind_some, ee, Bool.false_eq_true, if_false, ap_pass]
    refine seq_to (ρ1 := [some (.str z), some (.ref s2.length)]) (s1 := s3) ?_ ?_
    · rw [ap_asg, em1]
      rfl
    rw [erd]
    cases hw : ws.all wOk with
    | false =>
      rw [hw] at em2
      refine seq_rt ?_
      rw [ap_if, ap_notT, ap_tst, em2]
      rfl
    | true =>
      rw [hw] at em2
      refine seq_to (ρ1 := [some (.str z), some (.ref s2.length)]) (s1 := s4) (by rw [ap_if, ap_notT, ap_tst, em2]; rfl) ?_
      rw [ap_ret, ap_call, ap_cons, show (mVar 1 [some (.str z), some (.ref s2.length)] s4 : Option (D × Sto)) = some (.ref s2.length, s4) from rfl]
      simp only [Option.bind_some, ap_nil, et, Option.map_some]
      rfl
theorem good_up {w : Str} (h : good w 6 = true) : good w 9 = true := by
  unfold good at *
  rw [Bool.and_eq_true, Bool.and_eq_true, Bool.and_eq_true] at *
  exact ⟨⟨⟨h.1.1.1, decide_eq_true (by have := of_decide_eq_true h.1.1.2; omega)⟩, h.1.2⟩, h.2⟩
theorem good_down {w : Str} (h : good w 9 = true) (hl : w.length ≤ 6) : good w 6 = true := by
  unfold good at *
  rw [Bool.and_eq_true, Bool.and_eq_true, Bool.and_eq_true] at *
  exact ⟨⟨⟨h.1.1.1, decide_eq_true hl⟩, h.1.2⟩, h.2⟩
theorem good_len {w : Str} (h : good w 6 = true) : w.length ≤ 6 := by
  unfold good at h
  rw [Bool.and_eq_true, Bool.and_eq_true, Bool.and_eq_true] at h
  exact of_decide_eq_true h.1.1.2
theorem lawN_neg (w : Str) : (lawN w = -1) ↔ good w 9 = false := by
  unfold lawN val
  cases good w 9 with
  | false => simp
  | true => simp
theorem same_num {w : Str} (h : good w 6 = true) : D.int (lawN w) = numD w := by
  unfold lawN numD
  rw [if_pos (good_up h), if_pos h]
theorem any_neg : ∀ ps : List Str, ((ps.map fun p => PyData.int (lawN p)).any fun y => PyData.eqv y (.int (-1))) = !(ps.all fun p => good p 9)
  | [] => rfl
  | p :: ps => by
    rw [List.map_cons, List.any_cons, any_neg ps, List.all_cons]
    have : PyData.eqv (.int (lawN p)) (.int (-1)) = !good p 9 := by
      have h1 := lawN_neg p
      have h2 : PyData.eqv (.int (lawN p)) (.int (-1)) = (lawN p == -1) := by simp [PyData.eqv]
      rw [h2]
      cases hg : good p 9 with
      | false =>
        rw [h1.mpr hg]
        rfl
      | true =>
        have : lawN p ≠ -1 := fun e => by rw [h1.mp e] at hg; cases hg
        rw [beq_eq_false_iff_ne.mpr this]
        rfl
    rw [this]
    cases good p 9 <;> rfl
theorem toPs_lawN {n : Nat} {s : Sto} : ∀ ps : List Str, toPs (toP (n + 1) s) (ps.map fun p => D.int (lawN p)) = some (ps.map fun p => PyData.int (lawN p))
  | [] => rfl
  | p :: ps => by
    rw [List.map_cons, toPs, toPs_lawN ps]
    rfl
theorem neg_in {l : Nat} {ps : List Str} {s : Sto} (h : s[l]? = some (.lst (ps.map fun p => D.int (lawN p)))) : inA (.int (-1)) (.ref l) s = some (.bl (!(ps.all fun p => good p 9)), s) := by
  have e1 : toP 50 s (.ref l) = some (.list (ps.map fun p => PyData.int (lawN p))) := by
    rw [toP]
    simp only [lstAt, h, Option.bind_some]
    rw [toPs_lawN (n := 48)]
    rfl
  have e2 : toP 50 s (.int (-1)) = some (.int (-1)) := rfl
  have e : inD false (.int (-1)) (.ref l) s = some (.bl (!(ps.all fun p => good p 9)), s) := by
    unfold inD
    rw [e1, e2]
    simp only [Option.bind_some, memP, Option.map_some, any_neg, Bool.false_eq_true, if_false]
  unfold inA orG
  rw [e]
  rfl
theorem ints_of : ∀ ns : List Int, intsL (ns.map D.int) = some ns
  | [] => rfl
  | n :: ns => by
    rw [List.map_cons, intsL, ints_of ns]
    rfl
theorem neI (a b : Int) (s : Sto) : neD (.int a) (.int b) s = some (.bl (!(a == b)), s) := by
  unfold neD
  rw [toP, toP]
  simp [PyData.eqv]
abbrev drho (z : Str) (r : Nat) (v2 v3 v4 : Option D) : Rho := [some (.str z), some (.ref r), v2, v3, v4]
theorem word_turn {z w : Str} {m r : Nat} {v3 v4 : Option D} {A : List D} {s : Sto} (h : TOk w m) (hm : m ≤ 5000) (ha : s[r]? = some (.lst A)) (hA : A.length ≤ 9000) :
    (wOk w = true ∧ ∃ w3 w4 s', L_q_law_row_due_1 (drho z r (some (.str w)) v3 v4) s = some (.nx (drho z r (some (.str w)) w3 w4), s') ∧ Fr r s s' ∧ s'[r]? = some (.lst (A ++ [wordD w]))) ∨
    (wOk w = false ∧ ∃ s', L_q_law_row_due_1 (drho z r (some (.str w)) v3 v4) s = some (.rt .non, s') ∧ Gr s s') := by
  have lw := Nat.le_trans h.len hm
  have es := split_rd (z := w) (y := ",") (s := s) (by decide) (by omega)
  have sf := split_few w ","
  have tp : ∀ p ∈ Txt.split w ",", TOk p m := fun p hp => h.part hp
  have eW : wOk w = (decide ((Txt.split w ",").length = 3) && (Txt.split w ",").all fun p => good p 6) := rfl
  have eD : wordD w = .tup ((Txt.split w ",").map numD) := rfl
  generalize Txt.split w "," = ps at *
  generalize hs1 : s ++ [O.lst (ps.map D.str)] = s1 at es
  have a1 : s1[s.length]? = some (.lst (ps.map D.str)) := by rw [← hs1]; exact app_at _ _
  have g1 : Gr s s1 := by rw [← hs1]; exact Gr.app _ _
  have ec : mCI ⟨ps.map D.str, [(s.length, ps.map D.str)]⟩ (gNm 0) mTrue C_q_law_row_due_1 (ps.map D.str) [none] s1 = some (ps.map fun p => D.int (lawN p), s1) := by
    refine ci_map (R := fun ρ => ∃ u, ρ = [u]) ⟨none, rfl⟩ (walked_one a1) fun p hp ρ hρ => ?_
    obtain ⟨u, rfl⟩ := hρ
    refine ⟨[some (.str p)], rfl, rfl, ?_, ⟨_, rfl⟩⟩
    have := law_number_ok (tp p hp) (by omega) s1
    unfold C_q_law_row_due_1
    simp only [ap_call, ap_cons, ap_var, List.getElem?_cons_zero, Option.bind_some, ap_nil, this]
  have fl : fits (ps.map fun p => D.int (lawN p)).length = true := fits_small (by rw [List.length_map]; omega)
  have em : mComp (mWA (mVar 3)) 1 [] (gNm 0) (mTrue) (C_q_law_row_due_1) (drho z r (some (.str w)) (some (.ref s.length)) v4) s1 = some (.ref s1.length, s1 ++ [.lst (ps.map fun p => D.int (lawN p))]) := by
    rw [ap_comp, walk_ref (m := mVar 3) (s1 := s1) rfl a1]
    simp only [Option.bind_some]
    rw [show rho0 (drho z r (some (.str w)) (some (.ref s.length)) v4) 1 [] = [none] from rfl, ec]
    simp only [Option.bind_some, fl, if_true]
  generalize hs2 : s1 ++ [O.lst (ps.map fun p => D.int (lawN p))] = s2 at em
  have a2 : s2[s1.length]? = some (.lst (ps.map fun p => D.int (lawN p))) := by rw [← hs2]; exact app_at _ _
  have g2 : Gr s1 s2 := by rw [← hs2]; exact Gr.app _ _
  have b2 : s2[s.length]? = some (.lst (ps.map D.str)) := (g2.old _ (getElem?_lt a1)).trans a1
  have x1 : mAsg (mMetS splitD (mVar 2) (mCons (mCon (.str ",")) (mNil))) (gNm 3) (drho z r (some (.str w)) v3 v4) s = some (.nx (drho z r (some (.str w)) (some (.ref s.length)) v4), s1) := by
    rw [ap_asg, ap_metS, show (mVar 2 (drho z r (some (.str w)) v3 v4) s : Option (D × Sto)) = some (.str w, s) from rfl]
    simp only [Option.bind_some, ap_cons, ap_con, ap_nil, es, ap_nm, Option.map_some]
    rfl
  have x2 : mAsg (mComp (mWA (mVar 3)) 1 [] (gNm 0) (mTrue) (C_q_law_row_due_1)) (gNm 4) (drho z r (some (.str w)) (some (.ref s.length)) v4) s1 = some (.nx (drho z r (some (.str w)) (some (.ref s.length)) (some (.ref s1.length))), s2) := by
    rw [ap_asg, em]
    rfl
  have l1 : lenD [.ref s.length] s2 = some (.int ps.length, s2) := by rw [len_lst b2, List.length_map]
  have n1 : neD (.int ps.length) (.int 3) s2 = some (.bl (!decide (ps.length = 3)), s2) := by
    rw [neI]
    have : ((ps.length : Int) == 3) = decide (ps.length = 3) := by
      rw [Bool.eq_iff_iff]
      simp
      omega
    rw [this]
  have n2 := neg_in a2
  -- the lengths
  have ecl : mCI ⟨ps.map D.str, [(s.length, ps.map D.str)]⟩ (gNm 0) mTrue C_q_law_row_due_2 (ps.map D.str) [none] s2 = some (ps.map fun p => D.int p.length, s2) := by
    refine ci_map (R := fun ρ => ∃ u, ρ = [u]) ⟨none, rfl⟩ (walked_one b2) fun p hp ρ hρ => ?_
    obtain ⟨u, rfl⟩ := hρ
    refine ⟨[some (.str p)], rfl, rfl, ?_, ⟨_, rfl⟩⟩
    have fz : fits p.length = true := fits_small (by have := (tp p hp).len; omega)
    unfold C_q_law_row_due_2
    simp only [ap_call, ap_cons, ap_var, List.getElem?_cons_zero, Option.bind_some, ap_nil, lenD, fz, if_true]
  have fl2 : fits (ps.map fun p => D.int p.length).length = true := fits_small (by rw [List.length_map]; omega)
  have emx : ps ≠ [] → mCall maxL (mCons (mComp (mWA (mVar 3)) 1 [] (gNm 0) (mTrue) (C_q_law_row_due_2)) (mNil)) (drho z r (some (.str w)) (some (.ref s.length)) (some (.ref s1.length))) s2 = some (.int (maxOf (ps.map fun p => (p.length : Int))), s2 ++ [.lst (ps.map fun p => D.int p.length)]) := by
    intro hne
    have eml : (ps.map fun p => D.int p.length) = (ps.map fun p => (p.length : Int)).map D.int := by simp
    rw [ap_call, ap_cons, ap_comp, walk_ref (m := mVar 3) (s1 := s2) rfl b2]
    simp only [Option.bind_some]
    rw [show rho0 (drho z r (some (.str w)) (some (.ref s.length)) (some (.ref s1.length))) 1 [] = [none] from rfl, ecl]
    simp only [Option.bind_some, fl2, if_true, ap_nil]
    unfold maxL
    simp only [lstAt, app_at, Option.bind_some]
    rw [eml, ints_of]
    have : (!(ps.map fun p => (p.length : Int)).isEmpty) = true := by
      cases ps with
      | nil => exact absurd rfl hne
      | cons a b => rfl
    simp only [Option.bind_some, this, if_true]
  have ar2 : s2[r]? = some (.lst A) := ((g1.trans g2).old _ (getElem?_lt ha)).trans ha
  unfold L_q_law_row_due_1
  -- the test
  by_cases c1 : ps.length = 3
  · have hne : ps ≠ [] := by intro e; rw [e] at c1; cases c1
    have n1' : neD (.int ps.length) (.int 3) s2 = some (.bl false, s2) := by rw [n1, decide_eq_true c1]; rfl
    by_cases c2 : (ps.all fun p => good p 9) = true
    · have n2' : inA (.int (-1)) (.ref s1.length) s2 = some (.bl false, s2) := by rw [n2, c2]; rfl
      have em3 := emx hne
      generalize hs3 : s2 ++ [O.lst (ps.map fun p => D.int p.length)] = s3 at em3
      have g3 : Gr s2 s3 := by rw [← hs3]; exact Gr.app _ _
      have key : (decide (maxOf (ps.map fun p => (p.length : Int)) > 6)) = !(ps.all fun p => good p 6) := by
        obtain ⟨q1, q2, q3⟩ := foldl_max ((ps.map fun p => (p.length : Int)).tail) ((ps.map fun p => (p.length : Int)).headD 0)
        have hmx : maxOf (ps.map fun p => (p.length : Int)) ∈ (ps.map fun p => (p.length : Int)) ∧ ∀ a ∈ (ps.map fun p => (p.length : Int)), a ≤ maxOf (ps.map fun p => (p.length : Int)) := by
          cases ps with
          | nil => exact absurd rfl hne
          | cons a b =>
            obtain ⟨q1, q2, q3⟩ := foldl_max (b.map fun p => (p.length : Int)) (a.length : Int)
            refine ⟨?_, fun x hx => ?_⟩
            · show (b.map fun p => (p.length : Int)).foldl max (a.length : Int) ∈ _
              rcases q1 with q1 | q1
              · rw [q1]; exact List.mem_cons_self
              · exact List.mem_cons_of_mem _ q1
            · rcases List.mem_cons.mp hx with rfl | hx
              · exact q2
              · exact q3 x hx
        rw [Bool.eq_iff_iff, decide_eq_true_eq, Bool.not_eq_true', List.all_eq_false]
        constructor
        · intro hgt
          obtain ⟨p, hp, e⟩ := List.mem_map.mp hmx.1
          refine ⟨p, hp, fun hg => ?_⟩
          have := good_len hg
          omega
        · rintro ⟨p, hp, hg⟩
          have h9 := List.all_eq_true.mp c2 p hp
          have : ¬ p.length ≤ 6 := fun hl => hg (good_down h9 hl)
          have := hmx.2 _ (List.mem_map_of_mem hp)
          omega
      have et : mOrT (mTst (mBin neD (mCall lenD (mCons (mVar 3) (mNil))) (mCon (.int 3)))) (mOrT (mTst (mBin inA (mNeg (mCon (.int 1))) (mVar 4))) (mTst (mBin gtD (mCall maxL (mCons (mComp (mWA (mVar 3)) 1 [] (gNm 0) (mTrue) (C_q_law_row_due_2)) (mNil))) (mCon (.int 6))))) (drho z r (some (.str w)) (some (.ref s.length)) (some (.ref s1.length))) s2 = some (!(ps.all fun p => good p 6), s3) := by
        rw [ap_orT, ap_tst, ap_bin, ap_call, ap_cons, show (mVar 3 (drho z r (some (.str w)) (some (.ref s.length)) (some (.ref s1.length))) s2 : Option (D × Sto)) = some (.ref s.length, s2) from rfl]
        simp only [Option.bind_some, ap_nil, l1, ap_con, n1', Bool.false_eq_true, if_false]
        rw [ap_orT, ap_tst, ap_bin, ap_neg, ap_con, Option.bind_some, show negD (.int 1) s2 = some (.int (-1), s2) from rfl]
        simp only [Option.bind_some]
        rw [show (mVar 4 (drho z r (some (.str w)) (some (.ref s.length)) (some (.ref s1.length))) s2 : Option (D × Sto)) = some (.ref s1.length, s2) from rfl]
        simp only [Option.bind_some, n2', Bool.false_eq_true, if_false]
        rw [ap_tst, ap_bin, em3]
        simp only [Option.bind_some, ap_con, gtD, cmpD, key]
      cases c3 : (ps.all fun p => good p 6) with
      | false =>
        rw [c3] at et
        refine .inr ⟨by rw [eW, c3, Bool.and_false], s3, ?_, (g1.trans g2).trans g3⟩
        refine seq_to x1 (seq_to x2 (seq_rt ?_))
        rw [ap_if, et]
        rfl
      | true =>
        rw [c3] at et
        have ar3 : s3[r]? = some (.lst A) := (g3.old _ (getElem?_lt ar2)).trans ar2
        have a3 : s3[s1.length]? = some (.lst (ps.map fun p => D.int (lawN p))) := (g3.old _ (getElem?_lt a2)).trans a2
        have et3 := tuple_lst a3
        have esame : (ps.map fun p => D.int (lawN p)) = ps.map numD := List.map_congr_left fun p hp => same_num (List.all_eq_true.mp c3 p hp)
        rw [esame, ← eD] at et3
        have ea := append_at (x := wordD w) ar3 (by omega)
        have el : lstAt s3 r = some A := by unfold lstAt; rw [ar3]
        refine .inl ⟨by rw [eW, c3, decide_eq_true c1]; rfl, some (.ref s.length), some (.ref s1.length), s3.set r (.lst (A ++ [wordD w])), ?_, ?_, List.getElem?_set_self (getElem?_lt ar3)⟩
        · refine seq_to x1 (seq_to x2 (seq_to (ρ1 := drho z r (some (.str w)) (some (.ref s.length)) (some (.ref s1.length))) (s1 := s3) (by rw [ap_if, et]; rfl) ?_))
          rw [ap_exp, ap_app, show (mVar 1 (drho z r (some (.str w)) (some (.ref s.length)) (some (.ref s1.length))) s3 : Option (D × Sto)) = some (.ref r, s3) from rfl]
          simp only [Option.bind_some, el, ap_cons, ap_call]
          rw [show (mVar 4 (drho z r (some (.str w)) (some (.ref s.length)) (some (.ref s1.length))) s3 : Option (D × Sto)) = some (.ref s1.length, s3) from rfl]
          simp only [Option.bind_some, ap_nil, et3, ea, Option.map_some]
        · exact (((g1.trans g2).trans g3).fr r).trans (Fr.set _ _ _)
    · have c2 := Bool.eq_false_iff.mpr c2
      have n2' : inA (.int (-1)) (.ref s1.length) s2 = some (.bl true, s2) := by rw [n2, c2]; rfl
      have c3 : (ps.all fun p => good p 6) = false := by
        rw [List.all_eq_false] at c2 ⊢
        obtain ⟨p, hp, hg⟩ := c2
        exact ⟨p, hp, fun z => hg (good_up z)⟩
      refine .inr ⟨by rw [eW, c3, Bool.and_false], s2, ?_, g1.trans g2⟩
      refine seq_to x1 (seq_to x2 (seq_rt ?_))
      rw [ap_if, ap_orT, ap_tst, ap_bin, ap_call, ap_cons, show (mVar 3 (drho z r (some (.str w)) (some (.ref s.length)) (some (.ref s1.length))) s2 : Option (D × Sto)) = some (.ref s.length, s2) from rfl]
      simp only [Option.bind_some, ap_nil, l1, ap_con, n1', Bool.false_eq_true, if_false]
      rw [ap_orT, ap_tst, ap_bin, ap_neg, ap_con, Option.bind_some, show negD (.int 1) s2 = some (.int (-1), s2) from rfl]
      simp only [Option.bind_some]
      rw [show (mVar 4 (drho z r (some (.str w)) (some (.ref s.length)) (some (.ref s1.length))) s2 : Option (D × Sto)) = some (.ref s1.length, s2) from rfl]
      simp only [Option.bind_some, n2', if_true]
      rfl
  · have n1' : neD (.int ps.length) (.int 3) s2 = some (.bl true, s2) := by rw [n1, decide_eq_false c1]; rfl
    refine .inr ⟨by rw [eW, decide_eq_false c1]; rfl, s2, ?_, g1.trans g2⟩
    refine seq_to x1 (seq_to x2 (seq_rt ?_))
    rw [ap_if, ap_orT, ap_tst, ap_bin, ap_call, ap_cons, show (mVar 3 (drho z r (some (.str w)) (some (.ref s.length)) (some (.ref s1.length))) s2 : Option (D × Sto)) = some (.ref s.length, s2) from rfl]
    simp only [Option.bind_some, ap_nil, l1, ap_con, n1', if_true]
    rfl
theorem rows_loop {z : Str} {m r q : Nat} {WS : List D} (hm : m ≤ 5000) (hqr : q ≠ r) : ∀ (us : List Str) (v2 v3 v4 : Option D) (A : List D) (s : Sto), (∀ w ∈ us, TOk w m) → s[r]? = some (.lst A) → A.length + us.length ≤ 8000 → s[q]? = some (.lst WS) →
    (us.all wOk = true ∧ ∃ w2 w3 w4 s', mLoop ⟨WS, [(q, WS)]⟩ (gNm 2) L_q_law_row_due_1 (us.map D.str) (drho z r v2 v3 v4) s = some (.nx (drho z r w2 w3 w4), s') ∧ Fr r s s' ∧ s'[r]? = some (.lst (A ++ us.map wordD))) ∨
    (us.all wOk = false ∧ ∃ s', mLoop ⟨WS, [(q, WS)]⟩ (gNm 2) L_q_law_row_due_1 (us.map D.str) (drho z r v2 v3 v4) s = some (.rt .non, s') ∧ Fr r s s')
  | [], v2, v3, v4, A, s, _, ha, _, hq => .inl ⟨rfl, v2, v3, v4, s, by rw [List.map_nil, mLoop, if_pos (walked_one hq)], Fr.refl _ _, by rw [List.map_nil, List.append_nil]; exact ha⟩
  | w :: us, v2, v3, v4, A, s, h, ha, hl, hq => by
    have wk : walked ⟨WS, [(q, WS)]⟩ s = true := walked_one hq
    have eg : gNm 2 (.str w) (drho z r v2 v3 v4) s = some (drho z r (some (.str w)) v3 v4, s) := rfl
    rw [List.length_cons] at hl
    rw [List.map_cons, List.all_cons]
    rcases word_turn (z := z) (v3 := v3) (v4 := v4) (h w List.mem_cons_self) hm ha (by omega) with ⟨c, w3, w4, s1, e1, f1, a1⟩ | ⟨c, s1, e1, g1⟩
    · rw [loop_nx wk eg e1, c, Bool.true_and]
      have hq1 : s1[q]? = some (.lst WS) := (f1.old _ (getElem?_lt hq) hqr).trans hq
      rcases rows_loop (z := z) hm hqr us (some (.str w)) w3 w4 (A ++ [wordD w]) s1 (fun u hu => h u (List.mem_cons_of_mem _ hu)) a1 (by simp; omega) hq1 with ⟨c2, u2, u3, u4, s2, e2, f2, a2⟩ | ⟨c2, s2, e2, f2⟩
      · refine .inl ⟨c2, u2, u3, u4, s2, e2, f1.trans f2, ?_⟩
        rw [a2, List.map_cons, List.append_assoc]
        rfl
      · exact .inr ⟨c2, s2, e2, f1.trans f2⟩
    · rw [loop_rt wk eg e1, c, Bool.false_and]
      exact .inr ⟨rfl, s1, rfl, g1.fr r⟩
theorem row_due_ok {z : Str} {m : Nat} (h : TOk z m) (hm : m ≤ 5000) (s : Sto) : ∃ s', G_q_law_row_due [.str z] s = some (rowD z, s') ∧ Gr s s' := by
  have er : rho 5 [.str z] = [some (.str z), none, none, none, none] := rfl
  have ee := eq_str (st := s) h.str dash_ok
  by_cases hz : z = "-"
  · subst hz
    refine ⟨s, fn_rt (seq_rt ?_), Gr.refl _⟩
    rw [er, show rowD "-" = .tup [] from rfl]
    simp only [ap_if, ap_tst, ap_bin, ap_var, List.getElem?_cons_zero, ap_con, Option.bind_some, ee, beq_self_eq_true, if_true, ap_ret, ap_tup, ap_nil, Option.map_some]
    rfl
  · have lz := Nat.le_trans h.len hm
    have ne : (z == "-") = false := beq_eq_false_iff_ne.mpr hz
    rw [ne] at ee
    have es := split_rd (z := z) (y := " ") (s := s ++ [O.lst []]) (by decide) (by omega)
    have sf := split_few z " "
    have tp : ∀ w ∈ Txt.split z " ", TOk w m := fun w hw => h.part hw
    have erd : rowD z = if (Txt.split z " ").all wOk = true then .tup ((Txt.split z " ").map wordD) else .non := if_neg hz
    generalize Txt.split z " " = ws at *
    generalize hs1 : (s ++ [O.lst []]) ++ [O.lst (ws.map D.str)] = s1 at es
    have gA : Gr s (s ++ [O.lst []]) := Gr.app _ _
    have g1 : Gr (s ++ [O.lst []]) s1 := by rw [← hs1]; exact Gr.app _ _
    have a1 : s1[s.length]? = some (.lst []) := (g1.old _ (by simp)).trans (app_at _ _)
    have q1 : s1[(s ++ [O.lst []]).length]? = some (.lst (ws.map D.str)) := by rw [← hs1]; exact app_at _ _
    have ew : mWA (mMetS splitD (mVar 0) (mCons (mCon (.str " ")) (mNil))) (drho z s.length none none none) (s ++ [O.lst []]) = some (⟨ws.map D.str, [((s ++ [O.lst []]).length, ws.map D.str)]⟩, s1) := walk_ref (by rw [ap_metS]; simp only [ap_var, List.getElem?_cons_zero, Option.bind_some, ap_cons, ap_con, ap_nil, es]) q1
    have start : mSeq (mIf (mTst (mBin eqD (mVar 0) (mCon (.str "-")))) (mRet (mTup (mNil))) (mPass)) = mSeq (mIf (mTst (mBin eqD (mVar 0) (mCon (.str "-")))) (mRet (mTup (mNil))) (mPass)) := rfl
    have x0 : mIf (mTst (mBin eqD (mVar 0) (mCon (.str "-")))) (mRet (mTup (mNil))) (mPass) [some (.str z), none, none, none, none] s = some (.nx [some (.str z), none, none, none, none], s) := by
      simp only [ap_if, ap_tst, ap_bin, ap_var, List.getElem?_cons_zero, ap_con, Option.bind_some, ee, Bool.false_eq_true, if_false, ap_pass]
    have x1 : mAsg (mLst (mNil)) (gNm 1) [some (.str z), none, none, none, none] s = some (.nx (drho z s.length none none none), s ++ [O.lst []]) := by
      simp only [ap_asg, ap_lst, ap_nil, Option.bind_some, List.length_nil, fits0, if_true, ap_nm, Option.map_some]
      rfl
    have old : ∀ s' : Sto, Fr s.length s1 s' → Gr s s' := fun s' f => ⟨Nat.le_trans (gA.trans g1).len f.len, fun k hk => (f.old k (by have := (gA.trans g1).len; omega) (by omega)).trans ((gA.trans g1).old k hk)⟩
    rcases rows_loop (z := z) (r := s.length) (q := (s ++ [O.lst []]).length) hm (by simp) ws none none none [] s1 tp a1 (by simp; omega) q1 with ⟨c, w2, w3, w4, s2, e2, f2, a2⟩ | ⟨c, s2, e2, f2⟩
    · have et := tuple_lst a2
      refine ⟨s2, fn_rt ?_, old s2 f2⟩
      rw [er, erd, if_pos c]
      refine seq_to x0 (seq_to x1 (seq_to (ρ1 := drho z s.length w2 w3 w4) (s1 := s2) (by rw [ap_for, ew]; exact e2) ?_))
      rw [ap_ret, ap_call, ap_cons, show (mVar 1 (drho z s.length w2 w3 w4) s2 : Option (D × Sto)) = some (.ref s.length, s2) from rfl]
      simp only [Option.bind_some, ap_nil, et, Option.map_some]
      rfl
    · refine ⟨s2, fn_rt ?_, old s2 f2⟩
      rw [er, erd, c, if_neg (by simp)]
      refine seq_to x0 (seq_to x1 (seq_rt ?_))
      rw [ap_for, ew]
      exact e2
theorem row_plain {z : Str} {m : Nat} (h : TOk z m) (hm : m ≤ 5000) : plain 4 (rowD z) := by
  unfold rowD
  have sf := split_few z " "
  have lz := Nat.le_trans h.len hm
  split
  · exact ⟨by simp, by simp⟩
  · split
    · refine ⟨by rw [List.length_map]; omega, fun d hd => ?_⟩
      obtain ⟨w, hw, rfl⟩ := List.mem_map.mp hd
      have := (h.part hw).len
      have sw := split_few w ","
      refine ⟨by rw [List.length_map]; omega, fun e he => ?_⟩
      obtain ⟨p, hp, rfl⟩ := List.mem_map.mp he
      unfold numD
      split
      · exact trivial
      · exact trivial
    · exact trivial
theorem slice_mem {z : Str} {lo hi : Option Int} {c : Nat} (h : c ∈ (Txt.slice z lo hi).cps.toList) : c ∈ z.cps.toList := by
  unfold Txt.slice at h
  split at h
  · exact h
  · have h : c ∈ ((List.filterMap _ _).toArray).toList := h
    rw [List.toList_toArray] at h
    obtain ⟨i, _, e⟩ := List.mem_filterMap.mp h
    rw [Array.mem_toList_iff]
    exact Array.mem_of_getElem? e
theorem TOk.slice {z : Str} {m : Nat} (h : TOk z m) (lo hi : Option Int) : TOk (Txt.slice z lo hi) m := ⟨Nat.le_trans (Txt.slice_le z lo hi) h.len, fun c hc => h.ok c (slice_mem hc)⟩
theorem slB_str {z : Str} {lo hi : Option Int} {st : Sto} (hz : z.length ≤ 10000) : slB (.str z) lo hi st = some (.str (Txt.slice z lo hi), st) := by
  have : fits z.length = true := fits_small hz
  simp [slB, slA, slD, slS, this, orO_r, orO_l]
abbrev allSigns : Str := " !\"#$&'()*+,-./0123456789:;<=>?@ABCDEFGHIJKLMNOPQRSTUVWXYZ[\\]^_`abcdefghijklmnopqrstuvwxyz{|}~"
theorem signs_ok : allSigns.length = 94 ∧ allSigns.cps.toList.all (fun c => decide (c < 128)) = true := by decide +kernel
def One (z : Str) : Prop := z.length = 1 ∧ ∀ c ∈ z.cps.toList, c < 128
theorem sign_ok {n : Nat} {s : Sto} (hp : PotAt n s) : ∃ (z : Str) (s' : Sto), G_q_law_sign [.ref n] s = some (.str z, s') ∧ One z ∧ PotAt n s' ∧ Fr n s s' := by
  obtain ⟨r, s1, e1, r0, r1, p1, f1, _⟩ := next_ok (many := 94) hp (by decide) (by decide)
  have hl : r.toNat < allSigns.cps.size := by have : allSigns.cps.size = 94 := signs_ok.1; omega
  have eg := Array.getElem?_eq_getElem hl
  have hc := List.all_eq_true.mp signs_ok.2 _ (Array.getElem_mem_toList hl)
  generalize allSigns.cps[r.toNat] = c at eg hc
  have ei : ixA (.str allSigns) (.int r) s1 = some (.str ⟨#[c]⟩, s1) := ix_str (by rw [signs_ok.1]; decide) r0 eg
  have fz : fits allSigns.length = true := fits_small (by rw [signs_ok.1]; decide)
  have el : lenD [.str allSigns] s = some (.int 94, s) := by
    unfold lenD
    simp only [fz, if_true]
    rw [signs_ok.1]
    rfl
  refine ⟨⟨#[c]⟩, s1, fn_rt ?_, ⟨rfl, fun d hd => ?_⟩, p1, f1⟩
  · unfold B_q_law_sign
    refine seq_to (ρ1 := [some (.ref n), some (.str allSigns)]) (s1 := s) rfl ?_
    generalize allSigns = Z at *
    simp only [ap_ret, ap_bin, ap_call, ap_cons, ap_var, List.getElem?_cons_zero, List.getElem?_cons_succ, Option.bind_some, ap_nil, el, e1, ei, Option.map_some]
  · have : d = c := by simpa using hd
    rw [this]
    exact of_decide_eq_true hc
theorem TOk.app {a b : Str} {m k : Nat} (h : TOk a m) (h' : TOk b k) : TOk (a ++ b) (m + k) := ⟨by rw [Str.length_append]; have := h.len; have := h'.len; omega, fun c hc => by
  rw [PyProof.Rows.cps_toList_append] at hc
  rcases List.mem_append.mp hc with hc | hc
  · exact h.ok c hc
  · exact h'.ok c hc⟩
theorem One.t {z : Str} (h : One z) : TOk z 1 := ⟨by rw [h.1]; exact Nat.le_refl _, fun c hc => by have := h.2 c hc; omega⟩
theorem ones : ∀ d ∈ ([.str " ", .str "\n", .str "0", .str "-", .str ",", .str "1", .str "a"] : List D), ∃ z : Str, d = .str z ∧ One z := by
  have h : ∀ z : Str, (decide (z.length = 1) && z.cps.toList.all (fun c => decide (c < 128))) = true → One z := fun z hz => by
    rw [Bool.and_eq_true] at hz
    exact ⟨of_decide_eq_true hz.1, fun c hc => of_decide_eq_true (List.all_eq_true.mp hz.2 c hc)⟩
  exact allc ⟨_, rfl, h _ (by decide)⟩ (allc ⟨_, rfl, h _ (by decide)⟩ (allc ⟨_, rfl, h _ (by decide)⟩ (allc ⟨_, rfl, h _ (by decide)⟩ (all3 ⟨_, rfl, h _ (by decide)⟩ ⟨_, rfl, h _ (by decide)⟩ ⟨_, rfl, h _ (by decide)⟩))))
theorem bent_ok {n m : Nat} {z : Str} {s : Sto} (hp : PotAt n s) (h : TOk z m) (hm : m ≤ 3000) : ∃ (z' : Str) (s' : Sto), G_q_law_text_bent [.ref n, .str z] s = some (.str z', s') ∧ TOk z' (m + 1 + m) ∧ PotAt n s' ∧ Fr n s s' := by
  have lz := Nat.le_trans h.len hm
  have fz : fits z.length = true := fits_small (by omega)
  have el : lenD [.str z] s = some (.int z.length, s) := by simp [lenD, fz]
  obtain ⟨a, s1, e1, a0, a1, p1, f1, _⟩ := next_ok (many := (z.length : Int) + 1) hp (by omega) (by omega)
  obtain ⟨w, s2, e2, w0, w1, p2, f2, _⟩ := next_ok (many := 7) p1 (by decide) (by decide)
  obtain ⟨g, s3, e3, og, p3, f3⟩ := sign_ok p2
  obtain ⟨d, s4, e4, hd, p4, f4⟩ := ofL_ok [.str " ", .str "\n", .str "0", .str "-", .str ",", .str "1", .str "a"] p3 (by decide) (by decide)
  obtain ⟨y, rfl, oy⟩ := ones d hd
  obtain ⟨d5, s5, e5, hd5, p5, f5⟩ := ofL_ok [.str g, .str y] p4 (by simp) (by simp)
  obtain ⟨x, rfl, ox⟩ : ∃ x : Str, d5 = .str x ∧ One x := by
    simp only [List.mem_cons, List.not_mem_nil, or_false] at hd5
    rcases hd5 with rfl | rfl
    · exact ⟨_, rfl, og⟩
    · exact ⟨_, rfl, oy⟩
  have sl : ∀ lo hi : Option Int, slB (.str z) lo hi s5 = some (.str (Txt.slice z lo hi), s5) := fun lo hi => slB_str (by omega)
  have tA := h.slice none (some a)
  have tB := h.slice (some a) none
  have tC := h.slice (some (a + 1)) none
  have lx := ox.1
  have tx := ox.t
  have eG : ∀ r : D, B_q_law_text_bent [some (.ref n), some (.str z), none, none, none] s = some (.rt r, s5) → G_q_law_text_bent [.ref n, .str z] s = some (r, s5) := fun r q => fn_rt q
  have x1 : mPar 2 3 (mCons (mCall G_q_law_next (mCons (mVar 0) (mCons (mBin addD (mCall lenD (mCons (mVar 1) (mNil))) (mCon (.int 1))) (mNil)))) (mCons (mCall G_q_law_next (mCons (mVar 0) (mCons (mCon (.int 7)) (mNil)))) (mNil))) [some (.ref n), some (.str z), none, none, none] s = some (.nx [some (.ref n), some (.str z), some (.int a), some (.int w), none], s2) := by
    simp [rho, ap_var, ap_con, ap_bin, ap_tst, ap_notT, ap_andT, ap_orT, ap_andV, ap_call, ap_cons, ap_nil, ap_tup, ap_lst, ap_ret, ap_exp, ap_asg, ap_nm, ap_pass, ap_neg, ap_if, ap_put, ap_sb, ap_tp, ap_gC0, ap_gC, ap_r1, ap_true, ap_for, ap_oN, ap_oS, ap_join, ap_app, ap_par, ap_zip, ap_dnewT, ap_dnewK, orO_l, orO_r, fits0, fits1, fits2, fits3, fits4, fits5, fits6, fits7, fits8, Option.bind_some, Option.map_some, add_int, sub_int, ltD, leD, gtD, geD, cmpD, intC, rho0, ap_wA, ap_metS, ap_slB, ap_enum, el, e1, e2]
  have x2 : mAsg (mCall G_q_law_of (mCons (mVar 0) (mCons (mLst (mCons (mCall G_q_law_sign (mCons (mVar 0) (mNil))) (mCons (mCall G_q_law_of (mCons (mVar 0) (mCons (mLst (mCons (mCon (.str " ")) (mCons (mCon (.str "\n")) (mCons (mCon (.str "0")) (mCons (mCon (.str "-")) (mCons (mCon (.str ",")) (mCons (mCon (.str "1")) (mCons (mCon (.str "a")) (mNil))))))))) (mNil)))) (mNil)))) (mNil)))) (gNm 4) [some (.ref n), some (.str z), some (.int a), some (.int w), none] s2 = some (.nx [some (.ref n), some (.str z), some (.int a), some (.int w), some (.str x)], s5) := by
    simp [rho, ap_var, ap_con, ap_bin, ap_tst, ap_notT, ap_andT, ap_orT, ap_andV, ap_call, ap_cons, ap_nil, ap_tup, ap_lst, ap_ret, ap_exp, ap_asg, ap_nm, ap_pass, ap_neg, ap_if, ap_put, ap_sb, ap_tp, ap_gC0, ap_gC, ap_r1, ap_true, ap_for, ap_oN, ap_oS, ap_join, ap_app, ap_par, ap_zip, ap_dnewT, ap_dnewK, orO_l, orO_r, fits0, fits1, fits2, fits3, fits4, fits5, fits6, fits7, fits8, Option.bind_some, Option.map_some, add_int, sub_int, ltD, leD, gtD, geD, cmpD, intC, rho0, ap_wA, ap_metS, ap_slB, ap_enum, e3, e4, e5]
  have F := (((f1.trans f2).trans f3).trans f4).trans f5
  have lA := tA.len
  have lB := tB.len
  have lC := tC.len
  have b0 : addD (.str (Txt.slice z none (some a))) (.str x) s5 = some (.str (Txt.slice z none (some a) ++ x), s5) := add_str (by omega)
  have fin : ∃ z' : Str, mSeq (mIf (mTst (mBin ltD (mVar 3) (mCon (.int 2)))) (mRet (mBin addD (mBin addD (mSlB (mVar 1) (oNone) (oSome (mVar 2))) (mVar 4)) (mSlB (mVar 1) (oSome (mVar 2)) (oNone)))) (mPass)) (mSeq (mIf (mTst (mBin ltD (mVar 3) (mCon (.int 4)))) (mRet (mBin addD (mSlB (mVar 1) (oNone) (oSome (mVar 2))) (mSlB (mVar 1) (oSome (mBin addD (mVar 2) (mCon (.int 1)))) (oNone)))) (mPass)) (mSeq (mIf (mTst (mBin ltD (mVar 3) (mCon (.int 6)))) (mRet (mBin addD (mBin addD (mSlB (mVar 1) (oNone) (oSome (mVar 2))) (mVar 4)) (mSlB (mVar 1) (oSome (mBin addD (mVar 2) (mCon (.int 1)))) (oNone)))) (mPass)) (mRet (mSlB (mVar 1) (oNone) (oSome (mVar 2))))))
      [some (.ref n), some (.str z), some (.int a), some (.int w), some (.str x)] s5 = some (.rt (.str z'), s5) ∧ TOk z' (m + 1 + m) := by
    by_cases c1 : w < 2
    · refine ⟨_, seq_rt ?_, (tA.app tx).app tB⟩
      have b2 : addD (.str (Txt.slice z none (some a) ++ x)) (.str (Txt.slice z (some a) none)) s5 = some (.str (Txt.slice z none (some a) ++ x ++ Txt.slice z (some a) none), s5) := add_str (by rw [Str.length_append]; omega)
      simp [rho, ap_var, ap_con, ap_bin, ap_tst, ap_notT, ap_andT, ap_orT, ap_andV, ap_call, ap_cons, ap_nil, ap_tup, ap_lst, ap_ret, ap_exp, ap_asg, ap_nm, ap_pass, ap_neg, ap_if, ap_put, ap_sb, ap_tp, ap_gC0, ap_gC, ap_r1, ap_true, ap_for, ap_oN, ap_oS, ap_join, ap_app, ap_par, ap_zip, ap_dnewT, ap_dnewK, orO_l, orO_r, fits0, fits1, fits2, fits3, fits4, fits5, fits6, fits7, fits8, Option.bind_some, Option.map_some, add_int, sub_int, ltD, leD, gtD, geD, cmpD, intC, rho0, ap_wA, ap_metS, ap_slB, ap_enum, c1, sl, b0, b2]
    · refine (fun ⟨z', q, r⟩ => ⟨z', seq_to (ρ1 := [some (.ref n), some (.str z), some (.int a), some (.int w), some (.str x)]) (s1 := s5) (by simp [rho, ap_var, ap_con, ap_bin, ap_tst, ap_notT, ap_andT, ap_orT, ap_andV, ap_call, ap_cons, ap_nil, ap_tup, ap_lst, ap_ret, ap_exp, ap_asg, ap_nm, ap_pass, ap_neg, ap_if, ap_put, ap_sb, ap_tp, ap_gC0, ap_gC, ap_r1, ap_true, ap_for, ap_oN, ap_oS, ap_join, ap_app, ap_par, ap_zip, ap_dnewT, ap_dnewK, orO_l, orO_r, fits0, fits1, fits2, fits3, fits4, fits5, fits6, fits7, fits8, Option.bind_some, Option.map_some, add_int, sub_int, ltD, leD, gtD, geD, cmpD, intC, rho0, ap_wA, ap_metS, ap_slB, ap_enum, c1]) q, r⟩) (?_ : ∃ z' : Str, _ ∧ TOk z' (m + 1 + m))
      by_cases c2 : w < 4
      · refine ⟨_, seq_rt ?_, (tA.app tC).up (by omega)⟩
        have b1 : addD (.str (Txt.slice z none (some a))) (.str (Txt.slice z (some (a + 1)) none)) s5 = some (.str (Txt.slice z none (some a) ++ Txt.slice z (some (a + 1)) none), s5) := add_str (by omega)
        simp [rho, ap_var, ap_con, ap_bin, ap_tst, ap_notT, ap_andT, ap_orT, ap_andV, ap_call, ap_cons, ap_nil, ap_tup, ap_lst, ap_ret, ap_exp, ap_asg, ap_nm, ap_pass, ap_neg, ap_if, ap_put, ap_sb, ap_tp, ap_gC0, ap_gC, ap_r1, ap_true, ap_for, ap_oN, ap_oS, ap_join, ap_app, ap_par, ap_zip, ap_dnewT, ap_dnewK, orO_l, orO_r, fits0, fits1, fits2, fits3, fits4, fits5, fits6, fits7, fits8, Option.bind_some, Option.map_some, add_int, sub_int, ltD, leD, gtD, geD, cmpD, intC, rho0, ap_wA, ap_metS, ap_slB, ap_enum, c2, sl, b1]
      · refine (fun ⟨z', q, r⟩ => ⟨z', seq_to (ρ1 := [some (.ref n), some (.str z), some (.int a), some (.int w), some (.str x)]) (s1 := s5) (by simp [rho, ap_var, ap_con, ap_bin, ap_tst, ap_notT, ap_andT, ap_orT, ap_andV, ap_call, ap_cons, ap_nil, ap_tup, ap_lst, ap_ret, ap_exp, ap_asg, ap_nm, ap_pass, ap_neg, ap_if, ap_put, ap_sb, ap_tp, ap_gC0, ap_gC, ap_r1, ap_true, ap_for, ap_oN, ap_oS, ap_join, ap_app, ap_par, ap_zip, ap_dnewT, ap_dnewK, orO_l, orO_r, fits0, fits1, fits2, fits3, fits4, fits5, fits6, fits7, fits8, Option.bind_some, Option.map_some, add_int, sub_int, ltD, leD, gtD, geD, cmpD, intC, rho0, ap_wA, ap_metS, ap_slB, ap_enum, c2]) q, r⟩) (?_ : ∃ z' : Str, _ ∧ TOk z' (m + 1 + m))
        by_cases c3 : w < 6
        · refine ⟨_, seq_rt ?_, (tA.app tx).app tC⟩
          have b2 : addD (.str (Txt.slice z none (some a) ++ x)) (.str (Txt.slice z (some (a + 1)) none)) s5 = some (.str (Txt.slice z none (some a) ++ x ++ Txt.slice z (some (a + 1)) none), s5) := add_str (by rw [Str.length_append]; omega)
          simp [rho, ap_var, ap_con, ap_bin, ap_tst, ap_notT, ap_andT, ap_orT, ap_andV, ap_call, ap_cons, ap_nil, ap_tup, ap_lst, ap_ret, ap_exp, ap_asg, ap_nm, ap_pass, ap_neg, ap_if, ap_put, ap_sb, ap_tp, ap_gC0, ap_gC, ap_r1, ap_true, ap_for, ap_oN, ap_oS, ap_join, ap_app, ap_par, ap_zip, ap_dnewT, ap_dnewK, orO_l, orO_r, fits0, fits1, fits2, fits3, fits4, fits5, fits6, fits7, fits8, Option.bind_some, Option.map_some, add_int, sub_int, ltD, leD, gtD, geD, cmpD, intC, rho0, ap_wA, ap_metS, ap_slB, ap_enum, c3, sl, b0, b2]
        · exact ⟨_, seq_to (ρ1 := [some (.ref n), some (.str z), some (.int a), some (.int w), some (.str x)]) (s1 := s5) (by simp [rho, ap_var, ap_con, ap_bin, ap_tst, ap_notT, ap_andT, ap_orT, ap_andV, ap_call, ap_cons, ap_nil, ap_tup, ap_lst, ap_ret, ap_exp, ap_asg, ap_nm, ap_pass, ap_neg, ap_if, ap_put, ap_sb, ap_tp, ap_gC0, ap_gC, ap_r1, ap_true, ap_for, ap_oN, ap_oS, ap_join, ap_app, ap_par, ap_zip, ap_dnewT, ap_dnewK, orO_l, orO_r, fits0, fits1, fits2, fits3, fits4, fits5, fits6, fits7, fits8, Option.bind_some, Option.map_some, add_int, sub_int, ltD, leD, gtD, geD, cmpD, intC, rho0, ap_wA, ap_metS, ap_slB, ap_enum, c3]) (by simp [rho, ap_var, ap_con, ap_bin, ap_tst, ap_notT, ap_andT, ap_orT, ap_andV, ap_call, ap_cons, ap_nil, ap_tup, ap_lst, ap_ret, ap_exp, ap_asg, ap_nm, ap_pass, ap_neg, ap_if, ap_put, ap_sb, ap_tp, ap_gC0, ap_gC, ap_r1, ap_true, ap_for, ap_oN, ap_oS, ap_join, ap_app, ap_par, ap_zip, ap_dnewT, ap_dnewK, orO_l, orO_r, fits0, fits1, fits2, fits3, fits4, fits5, fits6, fits7, fits8, Option.bind_some, Option.map_some, add_int, sub_int, ltD, leD, gtD, geD, cmpD, intC, rho0, ap_wA, ap_metS, ap_slB, ap_enum, sl]), tA.up (by omega)⟩
  obtain ⟨z', q, r⟩ := fin
  exact ⟨z', s5, eG _ (seq_to x1 (seq_to x2 q)), r, p5, F⟩
abbrev wrho (kl : D) (k : Int) (n : Nat) (v3 v4 v5 v6 v7 v8 v9 v10 v11 : Option D) : Rho := [some kl, some (.int k), some (.ref n), v3, v4, v5, v6, v7, v8, v9, v10, v11]
theorem bits_ok {n : Nat} {s : Sto} {v : Option D} (hp : PotAt n s) : ∃ (ss : List Str) (s' : Sto), mCI ⟨run 0 3, []⟩ (gNm 0) mTrue C_law_1 (run 0 3) [v, some (.ref n)] s = some (ss.map D.str, s') ∧ ss.length = 3 ∧ (∀ w ∈ ss, TOk w 7) ∧ PotAt n s' ∧ Fr n s s' := by
  have key := ci_ok (W := ⟨run 0 3, []⟩) (g := gNm 0) (c := mTrue) (m := C_law_1) (ds := run 0 3) (acc := []) (st := s) (ρ := [v, some (.ref n)])
    (Inv := fun k a ρ s' => (∃ x, ρ = [x, some (.ref n)]) ∧ (∃ ss : List Str, a = ss.map D.str ∧ ss.length = k ∧ ∀ w ∈ ss, TOk w 7) ∧ PotAt n s' ∧ Fr n s s')
    ⟨⟨v, rfl⟩, ⟨[], rfl, rfl, by simp⟩, hp, Fr.refl _ _⟩ (fun _ _ _ _ _ _ => rfl) (fun k d a ρ s1 hd hI => by
      obtain ⟨⟨x, rfl⟩, ⟨ss, rfl, hl, hm⟩, hp, hf⟩ := hI
      obtain ⟨r, s2, e2, hr, p2, f2⟩ := ofL_ok [.int 3, .int 12, .int 1000000] hp (by decide) (by decide)
      obtain ⟨m, rfl, m1, m2⟩ : ∃ m : Int, r = .int m ∧ 2 ≤ m ∧ m ≤ 1000000 := by
        simp at hr
        rcases hr with rfl | rfl | rfl <;> exact ⟨_, rfl, by decide, by decide⟩
      obtain ⟨q, s3, e3, q0, q1, p3, f3, _⟩ := next_ok (many := m) p2 (by omega) (by omega)
      have ep : powB (.int 10) (.int 6) s1 = some (.int 1000000, s1) := rfl
      have es := str_of_small (s := s3) q0 (by omega)
      refine ⟨[some d, some (.ref n)], s1, true, s1, rfl, rfl, .inl ⟨rfl, .str (itos q), s3, ?_, ⟨_, rfl⟩, ⟨ss ++ [itos q], by simp, by simp [hl], ?_⟩, p3, (hf.trans f2).trans f3⟩⟩
      · unfold C_law_1
        simp [rho, ap_var, ap_con, ap_bin, ap_tst, ap_notT, ap_andT, ap_orT, ap_andV, ap_call, ap_cons, ap_nil, ap_tup, ap_lst, ap_ret, ap_exp, ap_asg, ap_nm, ap_pass, ap_neg, ap_if, ap_put, ap_sb, ap_tp, ap_gC0, ap_gC, ap_r1, ap_true, ap_for, ap_oN, ap_oS, ap_join, ap_app, ap_par, ap_zip, ap_dnewT, ap_dnewK, orO_l, orO_r, fits0, fits1, fits2, fits3, fits4, fits5, fits6, fits7, fits8, Option.bind_some, Option.map_some, add_int, sub_int, ltD, leD, gtD, geD, cmpD, intC, rho0, ap_wA, ap_metS, ap_slB, ap_enum, ep, e2, e3, es]
      · intro c hc
        rcases List.mem_append.mp hc with hc | hc
        · exact hm c hc
        · rw [List.mem_singleton.mp hc]
          exact ⟨itos_len q0 (by omega), fun c hc => by have := itos_dig q0 c hc; omega⟩)
  obtain ⟨xs, ρ', s', e, _, ⟨ss, hx, hl, hm⟩, hp, hf⟩ := key
  rw [List.nil_append] at hx
  subst hx
  exact ⟨ss, s', e, by rw [hl, run_len], hm, hp, hf⟩
theorem join_t {ss : List Str} {c n : Nat} {z : Str} (h : ∀ w ∈ ss, TOk w c) (hl : ss.length ≤ n) (hz : TOk z 1) : TOk (Txt.join z ss) (n * c + n) := by
  refine ⟨?_, fun x hx => ?_⟩
  · have e : (Txt.join z ss).length = _ := size_glued z ss
    have a := sum_le (f := fun x : Str => x.length) (c := c) (l := ss) fun x hx => (h x hx).len
    have b : ss.length * c ≤ n * c := Nat.mul_le_mul_right c hl
    have d : (ss.length - 1) * z.length ≤ (ss.length - 1) * 1 := Nat.mul_le_mul_left _ hz.len
    rw [e]
    omega
  · have e : Txt.join z ss = Str.join z ss := StrLaws.glued_eq_join _ _
    rw [e, PyProof.Rows.mem_join] at hx
    rcases hx with ⟨w, hw, hc⟩ | ⟨_, hc⟩
    · exact (h w hw).ok x hc
    · exact hz.ok x hc
theorem comma_t : TOk ("," : Str) 1 := ⟨by decide, by decide⟩
theorem blank_t : TOk (" " : Str) 1 := ⟨by decide, by decide⟩
theorem tile_turn {kl : D} {k : Int} {n t : Nat} {v4 v5 v6 v7 v8 v9 v10 v11 : Option D} {ss : List Str} {st0 s : Sto} (hp : PotAt n s) (hf : Fr n st0 s) (ht0 : st0.length ≤ t) (htn : t ≠ n) (ha : s[t]? = some (.lst (ss.map D.str))) (hl : ss.length ≤ 100) :
    ∃ (u : Str) (s' : Sto), L_law_1 (wrho kl k n (some (.ref t)) v4 v5 v6 v7 v8 v9 v10 v11) s = some (.nx (wrho kl k n (some (.ref t)) v4 v5 v6 v7 v8 v9 v10 v11), s') ∧ TOk u 24 ∧ PotAt n s' ∧ Fr n st0 s' ∧ s'[t]? = some (.lst ((ss ++ [u]).map D.str)) := by
  obtain ⟨ws, s1, e1, l1, m1, p1, f1⟩ := bits_ok (v := none) hp
  have fm : fits (ws.map D.str).length = true := fits_small (by rw [List.length_map]; omega)
  have hlt := getElem?_lt ha
  have a1 : s1[t]? = some (.lst (ss.map D.str)) := (f1.old _ hlt htn).trans ha
  have a2 : (s1 ++ [O.lst (ws.map D.str)])[t]? = some (.lst (ss.map D.str)) := ((Gr.app s1 _).old _ (getElem?_lt a1)).trans a1
  have ej := join_few (z := ",") (c := 7) (n := 3) (app_at s1 (.lst (ws.map D.str))) (fun x hx => (m1 x hx).len) (by omega) (by decide) (by decide)
  have ea := append_at (x := .str (Txt.join "," ws)) a2 (by rw [List.length_map]; omega)
  have el : lstAt s t = some (ss.map D.str) := by unfold lstAt; rw [ha]
  refine ⟨Txt.join "," ws, (s1 ++ [O.lst (ws.map D.str)]).set t (.lst (ss.map D.str ++ [.str (Txt.join "," ws)])), ?_, join_t (n := 3) m1 (by omega) comma_t, ?_, ?_, ?_⟩
  · unfold L_law_1
    have sm : small 3 = true := by decide
    rw [ap_exp, ap_app, show (mVar 3 (wrho kl k n (some (.ref t)) v4 v5 v6 v7 v8 v9 v10 v11) s : Option (D × Sto)) = some (.ref t, s) from rfl]
    simp only [Option.bind_some, el, ap_cons, ap_join, ap_con, ap_comp, ap_r1, sm, if_true]
    rw [show rho0 (wrho kl k n (some (.ref t)) v4 v5 v6 v7 v8 v9 v10 v11) 1 [2] = [none, some (.ref n)] from rfl, show (3 : Int).toNat = 3 from rfl, e1]
    simp only [Option.bind_some, fm, if_true, ap_nil, ej, ea, Option.map_some]
  · obtain ⟨c, d, e, r⟩ := p1.gr (Gr.app s1 [O.lst (ws.map D.str)])
    exact ⟨c, d, by rw [List.getElem?_set_ne htn]; exact e, r⟩
  · have := (hf.trans f1).trans (Fr.app n s1 [O.lst (ws.map D.str)])
    exact ⟨by rw [List.length_set]; exact this.len, fun j hj nj => by rw [List.getElem?_set_ne (by omega)]; exact this.old j hj nj⟩
  · rw [List.getElem?_set_self (getElem?_lt a2)]
    simp
theorem more_turn {kl : D} {k : Int} {n m : Nat} {v3 v4 v5 v6 v7 v9 v10 v11 : Option D} {z : Str} {s : Sto} (hp : PotAt n s) (h : TOk z m) (hm : m ≤ 3000) :
    ∃ (z' : Str) (s' : Sto), L_law_2 (wrho kl k n v3 v4 v5 v6 v7 (some (.str z)) v9 v10 v11) s = some (.nx (wrho kl k n v3 v4 v5 v6 v7 (some (.str z')) v9 v10 v11), s') ∧ TOk z' (m + 1 + m) ∧ PotAt n s' ∧ Fr n s s' := by
  obtain ⟨z', s1, e1, t1, p1, f1⟩ := bent_ok hp h hm
  refine ⟨z', s1, ?_, t1, p1, f1⟩
  unfold L_law_2
  simp [rho, ap_var, ap_con, ap_bin, ap_tst, ap_notT, ap_andT, ap_orT, ap_andV, ap_call, ap_cons, ap_nil, ap_tup, ap_lst, ap_ret, ap_exp, ap_asg, ap_nm, ap_pass, ap_neg, ap_if, ap_put, ap_sb, ap_tp, ap_gC0, ap_gC, ap_r1, ap_true, ap_for, ap_oN, ap_oS, ap_join, ap_app, ap_par, ap_zip, ap_dnewT, ap_dnewK, orO_l, orO_r, fits0, fits1, fits2, fits3, fits4, fits5, fits6, fits7, fits8, Option.bind_some, Option.map_some, add_int, sub_int, ltD, leD, gtD, geD, cmpD, intC, rho0, ap_wA, ap_metS, ap_slB, ap_enum, e1]
def bnd : Nat → Nat
  | 0 => 400
  | j + 1 => bnd j + 1 + bnd j
theorem bent_turn {kl : D} {k : Int} {n t m : Nat} {v3 v4 v7 v8 v9 v10 v11 : Option D} {z : Str} {ss : List Str} {st0 s : Sto} (hp : PotAt n s) (hf : Fr n st0 s) (ht0 : st0.length ≤ t) (htn : t ≠ n) (hz : TOk z 199) (ha : s[t]? = some (.lst (ss.map D.str))) (hl : ss.length ≤ 100) :
    ∃ (u : Str) (w8 w9 : Option D) (s' : Sto), L_law_3 (wrho kl k n v3 v4 (some (.str z)) (some (.ref t)) v7 v8 v9 v10 v11) s = some (.nx (wrho kl k n v3 v4 (some (.str z)) (some (.ref t)) v7 w8 w9 v10 v11), s') ∧ TOk u 2000 ∧ PotAt n s' ∧ Fr n st0 s' ∧ s'[t]? = some (.lst ((ss ++ [u]).map D.str)) := by
  obtain ⟨z1, s1, e1, t1, p1, f1⟩ := bent_ok hp hz (by decide)
  obtain ⟨q, s2, e2, q0, q1, p2, f2, _⟩ := next_ok (many := 3) p1 (by decide) (by decide)
  have hlt := getElem?_lt ha
  have key := loop_ok (W := ⟨run 0 q.toNat, []⟩) (g := gNm 9) (m := L_law_2) (ds := run 0 q.toNat) (ρ := wrho kl k n v3 v4 (some (.str z)) (some (.ref t)) v7 (some (.str z1)) v9 v10 v11) (st := s2)
    (Inv := fun j ρ s' => (∃ (y : Str) (u9 : Option D), ρ = wrho kl k n v3 v4 (some (.str z)) (some (.ref t)) v7 (some (.str y)) u9 v10 v11 ∧ TOk y (bnd j)) ∧ PotAt n s' ∧ Fr n s s')
    ⟨⟨z1, v9, rfl, t1.up (by decide)⟩, p2, f1.trans f2⟩ (fun _ _ _ _ _ => rfl) (fun j d ρ s' hd hI => by
      obtain ⟨⟨y, u9, rfl, ty⟩, hp, hf⟩ := hI
      obtain ⟨hj, rfl⟩ := run_get hd
      have hb : bnd j ≤ 3000 := by
        have : j = 0 ∨ j = 1 := by omega
        rcases this with rfl | rfl <;> decide
      obtain ⟨z', s3, e3, t3, p3, f3⟩ := more_turn (kl := kl) (k := k) (v3 := v3) (v4 := v4) (v5 := some (.str z)) (v6 := some (.ref t)) (v7 := v7) (v9 := some (.int (0 + (j : Int)))) (v10 := v10) (v11 := v11) hp ty hb
      exact ⟨_, s', _, s3, rfl, e3, ⟨z', _, rfl, t3⟩, p3, hf.trans f3⟩)
  obtain ⟨ρ', s3, e3, ⟨u, u9, rfl, tu⟩, p3, f3⟩ := key
  rw [run_len] at tu
  have hb : bnd q.toNat ≤ 2000 := by
    have : q.toNat = 0 ∨ q.toNat = 1 ∨ q.toNat = 2 := by omega
    rcases this with h | h | h <;> rw [h] <;> decide
  have a3 : s3[t]? = some (.lst (ss.map D.str)) := (f3.old _ hlt htn).trans ha
  have ea := append_at (x := .str u) a3 (by rw [List.length_map]; omega)
  have el : lstAt s3 t = some (ss.map D.str) := by unfold lstAt; rw [a3]
  refine ⟨u, some (.str u), u9, s3.set t (.lst (ss.map D.str ++ [.str u])), ?_, tu.up hb, ?_, ?_, ?_⟩
  · unfold L_law_3
    refine seq_to (ρ1 := wrho kl k n v3 v4 (some (.str z)) (some (.ref t)) v7 (some (.str z1)) v9 v10 v11) (s1 := s1) (by simp [rho, ap_var, ap_con, ap_bin, ap_tst, ap_notT, ap_andT, ap_orT, ap_andV, ap_call, ap_cons, ap_nil, ap_tup, ap_lst, ap_ret, ap_exp, ap_asg, ap_nm, ap_pass, ap_neg, ap_if, ap_put, ap_sb, ap_tp, ap_gC0, ap_gC, ap_r1, ap_true, ap_for, ap_oN, ap_oS, ap_join, ap_app, ap_par, ap_zip, ap_dnewT, ap_dnewK, orO_l, orO_r, fits0, fits1, fits2, fits3, fits4, fits5, fits6, fits7, fits8, Option.bind_some, Option.map_some, add_int, sub_int, ltD, leD, gtD, geD, cmpD, intC, rho0, ap_wA, ap_metS, ap_slB, ap_enum, e1]) ?_
    refine seq_to (ρ1 := wrho kl k n v3 v4 (some (.str z)) (some (.ref t)) v7 (some (.str u)) u9 v10 v11) (s1 := s3) ?_ ?_
    · have sq : small q = true := small_lit q0 (by omega)
      have em : mR1 (mCall G_q_law_next (mCons (mVar 2) (mCons (mCon (.int 3)) (mNil)))) (wrho kl k n v3 v4 (some (.str z)) (some (.ref t)) v7 (some (.str z1)) v9 v10 v11) s1 = some (⟨run 0 q.toNat, []⟩, s2) := by
        rw [ap_r1]
        simp [rho, ap_var, ap_con, ap_bin, ap_tst, ap_notT, ap_andT, ap_orT, ap_andV, ap_call, ap_cons, ap_nil, ap_tup, ap_lst, ap_ret, ap_exp, ap_asg, ap_nm, ap_pass, ap_neg, ap_if, ap_put, ap_sb, ap_tp, ap_gC0, ap_gC, ap_r1, ap_true, ap_for, ap_oN, ap_oS, ap_join, ap_app, ap_par, ap_zip, ap_dnewT, ap_dnewK, orO_l, orO_r, fits0, fits1, fits2, fits3, fits4, fits5, fits6, fits7, fits8, Option.bind_some, Option.map_some, add_int, sub_int, ltD, leD, gtD, geD, cmpD, intC, rho0, ap_wA, ap_metS, ap_slB, ap_enum, e2, sq]
      rw [ap_for, em]
      exact e3
    · simp [rho, ap_var, ap_con, ap_bin, ap_tst, ap_notT, ap_andT, ap_orT, ap_andV, ap_call, ap_cons, ap_nil, ap_tup, ap_lst, ap_ret, ap_exp, ap_asg, ap_nm, ap_pass, ap_neg, ap_if, ap_put, ap_sb, ap_tp, ap_gC0, ap_gC, ap_r1, ap_true, ap_for, ap_oN, ap_oS, ap_join, ap_app, ap_par, ap_zip, ap_dnewT, ap_dnewK, orO_l, orO_r, fits0, fits1, fits2, fits3, fits4, fits5, fits6, fits7, fits8, Option.bind_some, Option.map_some, add_int, sub_int, ltD, leD, gtD, geD, cmpD, intC, rho0, ap_wA, ap_metS, ap_slB, ap_enum, el, ea]
  · obtain ⟨c, d, e, r⟩ := p3
    exact ⟨c, d, by rw [List.getElem?_set_ne htn]; exact e, r⟩
  · have := hf.trans f3
    exact ⟨by rw [List.length_set]; exact this.len, fun j hj nj => by rw [List.getElem?_set_ne (by omega)]; exact this.old j hj nj⟩
  · rw [List.getElem?_set_self (getElem?_lt a3)]
    simp
theorem look_turn {kl : D} {k : Int} {n : Nat} {v3 v4 v5 v6 v7 v8 v9 v11 : Option D} {z : Str} {s : Sto} (h : TOk z 2000) :
    ∃ (w11 : Option D) (s' : Sto), L_law_4 (wrho kl k n v3 v4 v5 v6 v7 v8 v9 (some (.str z)) v11) s = some (.nx (wrho kl k n v3 v4 v5 v6 v7 v8 v9 (some (.str z)) w11), s') ∧ Gr s s' := by
  obtain ⟨s1, e1, g1⟩ := row_due_ok h (by decide) s
  obtain ⟨s2, e2, g2⟩ := read_row_ok h (by decide) s1
  have pl := row_plain h (by decide)
  obtain ⟨s3, e3, g3⟩ := same_ok (n := 12) (st := s2) (plain_up pl (by decide))
  have e3' : G_q_law_same [rowD z, rowD z] s2 = some (.bl true, s3) := e3
  obtain ⟨s4, e4, g4⟩ := read_row_ok h (by decide) s3
  have n4 := ne_same (st := s4) pl (by decide)
  refine ⟨some (rowD z), s4, ?_, ((g1.trans g2).trans g3).trans g4⟩
  generalize rowD z = r at *
  unfold L_law_4
  refine seq_to (ρ1 := wrho kl k n v3 v4 v5 v6 v7 v8 v9 (some (.str z)) (some r)) (s1 := s1) (by simp [rho, ap_var, ap_con, ap_bin, ap_tst, ap_notT, ap_andT, ap_orT, ap_andV, ap_call, ap_cons, ap_nil, ap_tup, ap_lst, ap_ret, ap_exp, ap_asg, ap_nm, ap_pass, ap_neg, ap_if, ap_put, ap_sb, ap_tp, ap_gC0, ap_gC, ap_r1, ap_true, ap_for, ap_oN, ap_oS, ap_join, ap_app, ap_par, ap_zip, ap_dnewT, ap_dnewK, orO_l, orO_r, fits0, fits1, fits2, fits3, fits4, fits5, fits6, fits7, fits8, Option.bind_some, Option.map_some, add_int, sub_int, ltD, leD, gtD, geD, cmpD, intC, rho0, ap_wA, ap_metS, ap_slB, ap_enum, e1]) ?_
  simp [rho, ap_var, ap_con, ap_bin, ap_tst, ap_notT, ap_andT, ap_orT, ap_andV, ap_call, ap_cons, ap_nil, ap_tup, ap_lst, ap_ret, ap_exp, ap_asg, ap_nm, ap_pass, ap_neg, ap_if, ap_put, ap_sb, ap_tp, ap_gC0, ap_gC, ap_r1, ap_true, ap_for, ap_oN, ap_oS, ap_join, ap_app, ap_par, ap_zip, ap_dnewT, ap_dnewK, orO_l, orO_r, fits0, fits1, fits2, fits3, fits4, fits5, fits6, fits7, fits8, Option.bind_some, Option.map_some, add_int, sub_int, ltD, leD, gtD, geD, cmpD, intC, rho0, ap_wA, ap_metS, ap_slB, ap_enum, e2, e3', e4, n4]
abbrev firsts : List Str := ["", " ", "-", "--", "- -", "-,-,-", "0,0,0", "1,2", "1,2,3,4", "1,2,", ",,", "1000000,1,1", "01,1,1"]
abbrev nexts : List Str := ["1, 1,1", "1,1,1 ", " 1,1,1", "1,1,1  2,2,2", "1,1,1\n2,2,2", "-1,1,1", "1,1,+1", "1,1,1_0"]
theorem some_ok : ∀ z ∈ firsts ++ nexts, TOk z 2000 := by
  have h : (firsts ++ nexts).all (fun z => decide (z.length ≤ 2000) && z.cps.toList.all (fun c => decide (c < 1114112))) = true := by decide +kernel
  intro z hz
  have := List.all_eq_true.mp h z hz
  rw [Bool.and_eq_true] at this
  exact ⟨of_decide_eq_true this.1, fun c hc => of_decide_eq_true (List.all_eq_true.mp this.2 c hc)⟩
theorem eq_nilS {s : Sto} {f g : Nat} {ss : List Str} (hf : s[f]? = some (.lst (ss.map D.str))) (hg : s[g]? = some (.lst [])) (h : ∀ x ∈ ss, PyData.strOk x = true) : eqD (.ref f) (.ref g) s = some (.bl ss.isEmpty, s) := by
  unfold eqD
  rw [toP_strs (n := 98) hf h, toP_strs (n := 98) (ss := []) hg (by simp)]
  cases ss <;> rfl
theorem text_rd {ss : List Str} {s : Sto} (h : ∀ w ∈ ss, TOk w 24) (hl : ss.length ≤ 5) : ∃ z : Str, addD (.str (Txt.join " " ss)) (.str (if ss.isEmpty = true then "-" else Str.empty)) s = some (.str z, s) ∧ TOk z 199 := by
  have hj := join_t (n := 5) h hl blank_t
  refine ⟨Txt.join " " ss ++ (if ss.isEmpty = true then ("-" : Str) else Str.empty), add_str ?_, (hj.app (k := 1) ?_).up (by decide)⟩
  · have := hj.len
    split
    · have : (("-" : Str)).length = 1 := by decide
      omega
    · have : Str.empty.length = 0 := by decide
      omega
  · split
    · exact ⟨by decide, by decide⟩
    · exact ⟨by decide, by decide⟩
theorem turn_ok {ns : List Int} {k : Int} {st : Sto} {v2 v3 v4 v5 v6 v7 v8 v9 v10 v11 : Option D} (k0 : 0 ≤ k) (k1 : k < 1000) : ∃ (w2 w3 w4 w5 w6 w7 w8 w9 w10 w11 : Option D) (st' : Sto),
    L_law_5 [some (.kl (ns.map D.int)), some (.int k), v2, v3, v4, v5, v6, v7, v8, v9, v10, v11] st = some (.nx [some (.kl (ns.map D.int)), some (.int k), w2, w3, w4, w5, w6, w7, w8, w9, w10, w11], st') := by
  obtain ⟨s1, e1, p1, g1⟩ := pot_ok (ns := ns) (st := st) k0 k1
  generalize hkl : D.kl (ns.map D.int) = kl at e1 ⊢
  generalize hn : st.length = n at e1 p1
  have pn := p1.lt
  -- the tiles
  have pA : PotAt n (s1 ++ [.lst []]) := p1.gr (Gr.app _ _)
  obtain ⟨q, s2, e2, q0, q1, p2, f2, _⟩ := next_ok (many := 6) pA (by decide) (by decide)
  have a2 : s2[s1.length]? = some (.lst (([] : List Str).map D.str)) := (f2.old _ (by simp) (by omega)).trans (app_at s1 _)
  have key := loop_ok (W := ⟨run 0 q.toNat, []⟩) (g := gNm 4) (m := L_law_1) (ds := run 0 q.toNat) (ρ := wrho kl k n (some (.ref s1.length)) v4 v5 v6 v7 v8 v9 v10 v11) (st := s2)
    (Inv := fun j ρ s' => (∃ u4, ρ = wrho kl k n (some (.ref s1.length)) u4 v5 v6 v7 v8 v9 v10 v11) ∧ PotAt n s' ∧ Fr n s1 s' ∧ ∃ ss : List Str, s'[s1.length]? = some (.lst (ss.map D.str)) ∧ ss.length = j ∧ ∀ w ∈ ss, TOk w 24)
    ⟨⟨_, rfl⟩, p2, (Fr.app _ _ _).trans f2, [], a2, rfl, by simp⟩ (fun _ _ _ _ _ => rfl) (fun j d ρ s' hd hI => by
      obtain ⟨⟨u4, rfl⟩, hp, hf, ss, ha, hl, ht⟩ := hI
      obtain ⟨hj, rfl⟩ := run_get hd
      obtain ⟨u, s3, e3, tu, p3, f3, a3⟩ := tile_turn (kl := kl) (k := k) (v4 := some (.int (0 + (j : Int)))) (v5 := v5) (v6 := v6) (v7 := v7) (v8 := v8) (v9 := v9) (v10 := v10) (v11 := v11) hp hf (Nat.le_refl _) (by omega) ha (by omega)
      refine ⟨_, s', _, s3, rfl, e3, ⟨_, rfl⟩, p3, f3, ss ++ [u], a3, by simp [hl], fun t h => ?_⟩
      rcases List.mem_append.mp h with h | h
      · exact ht t h
      · rw [List.mem_singleton.mp h]
        exact tu)
  obtain ⟨ρ', s3, e3, ⟨u4, rfl⟩, p3, f3, ss, a3, hl3, ht3⟩ := key
  rw [run_len] at hl3
  -- the text
  have ej := join_few (z := " ") (c := 24) (n := 5) a3 (fun w hw => (ht3 w hw).len) (by omega) (by decide) (by decide)
  have a4 : (s3 ++ [O.lst []])[s1.length]? = some (.lst (ss.map D.str)) := ((Gr.app s3 _).old _ (getElem?_lt a3)).trans a3
  have ee := eq_nilS a4 (app_at s3 (.lst [])) fun x hx => (ht3 x hx).str
  have em := face_mul (z := "-") (b := ss.isEmpty) (st := s3 ++ [O.lst []]) (by decide)
  obtain ⟨z, ez, tz⟩ := text_rd (s := s3 ++ [O.lst []]) ht3 (by omega)
  have ei : intC [.bl ss.isEmpty] (s3 ++ [O.lst []]) = some (.int (if ss.isEmpty = true then 1 else 0), s3 ++ [O.lst []]) := rfl
  have x4 : mAsg (mBin addD (mJoin (mCon (.str " ")) (mCons (mVar 3) (mNil))) (mBin mulA (mCon (.str "-")) (mCall intC (mCons (mBin eqD (mVar 3) (mLst (mNil))) (mNil))))) (gNm 5) (wrho kl k n (some (.ref s1.length)) u4 v5 v6 v7 v8 v9 v10 v11) s3 = some (.nx (wrho kl k n (some (.ref s1.length)) u4 (some (.str z)) v6 v7 v8 v9 v10 v11), s3 ++ [O.lst []]) := by
    rw [ap_asg, ap_bin, ap_join, ap_con, Option.bind_some]
    have v3' : ∀ s' : Sto, (mVar 3 (wrho kl k n (some (.ref s1.length)) u4 v5 v6 v7 v8 v9 v10 v11) s' : Option (D × Sto)) = some (.ref s1.length, s') := fun _ => rfl
    simp only [ap_cons, v3', Option.bind_some, ap_nil, ej, ap_bin, ap_con, ap_call, ap_lst, List.length_nil, fits0, if_true, ee, ei, em, ez]
    rfl
  generalize hs4 : s3 ++ [O.lst []] = s4 at x4
  have p4 : PotAt n s4 := by rw [← hs4]; exact p3.gr (Gr.app _ _)
  -- the texts to be asked
  have x5 : mAsg (mLst (mCons (mCon (.str "")) (mCons (mCon (.str " ")) (mCons (mCon (.str "-")) (mCons (mCon (.str "--")) (mCons (mCon (.str "- -")) (mCons (mCon (.str "-,-,-")) (mCons (mCon (.str "0,0,0")) (mCons (mCon (.str "1,2")) (mCons (mCon (.str "1,2,3,4")) (mCons (mCon (.str "1,2,")) (mCons (mCon (.str ",,")) (mCons (mCon (.str "1000000,1,1")) (mCons (mCon (.str "01,1,1")) (mNil))))))))))))))) (gNm 6) (wrho kl k n (some (.ref s1.length)) u4 (some (.str z)) v6 v7 v8 v9 v10 v11) s4 = some (.nx (wrho kl k n (some (.ref s1.length)) u4 (some (.str z)) (some (.ref s4.length)) v7 v8 v9 v10 v11), s4 ++ [O.lst (firsts.map D.str)]) := by
    have f13 : fits 13 = true := by decide
    simp only [ap_asg, ap_lst, ap_cons, ap_con, ap_nil, Option.bind_some, List.length_cons, List.length_nil, Nat.zero_add, Nat.reduceAdd, f13, if_true, ap_nm, Option.map_some]
    rfl
  generalize hs5 : s4 ++ [O.lst (firsts.map D.str)] = s5 at x5
  have p5 : PotAt n s5 := by rw [← hs5]; exact p4.gr (Gr.app _ _)
  have a5 : s5[s4.length]? = some (.lst (firsts.map D.str)) := by rw [← hs5]; exact app_at _ _
  have a6 : (s5 ++ [O.lst (nexts.map D.str)])[s4.length]? = some (.lst (firsts.map D.str)) := ((Gr.app s5 _).old _ (getElem?_lt a5)).trans a5
  have ea6 := add_lst a6 (app_at s5 (.lst (nexts.map D.str))) (by decide)
  rw [← List.map_append] at ea6
  have hs6 : ∃ s6, s6 = s5 ++ [O.lst (nexts.map D.str)] := ⟨_, rfl⟩
  obtain ⟨s6, hs6⟩ := hs6
  rw [← hs6] at ea6
  have x6 : mAsg (mBin addD (mVar 6) (mLst (mCons (mCon (.str "1, 1,1")) (mCons (mCon (.str "1,1,1 ")) (mCons (mCon (.str " 1,1,1")) (mCons (mCon (.str "1,1,1  2,2,2")) (mCons (mCon (.str "1,1,1\n2,2,2")) (mCons (mCon (.str "-1,1,1")) (mCons (mCon (.str "1,1,+1")) (mCons (mCon (.str "1,1,1_0")) (mNil))))))))))) (gNm 6) (wrho kl k n (some (.ref s1.length)) u4 (some (.str z)) (some (.ref s4.length)) v7 v8 v9 v10 v11) s5 = some (.nx (wrho kl k n (some (.ref s1.length)) u4 (some (.str z)) (some (.ref s6.length)) v7 v8 v9 v10 v11), s6 ++ [O.lst ((firsts ++ nexts).map D.str)]) := by
    have el : mLst (mCons (mCon (.str "1, 1,1")) (mCons (mCon (.str "1,1,1 ")) (mCons (mCon (.str " 1,1,1")) (mCons (mCon (.str "1,1,1  2,2,2")) (mCons (mCon (.str "1,1,1\n2,2,2")) (mCons (mCon (.str "-1,1,1")) (mCons (mCon (.str "1,1,+1")) (mCons (mCon (.str "1,1,1_0")) (mNil))))))))) (wrho kl k n (some (.ref s1.length)) u4 (some (.str z)) (some (.ref s4.length)) v7 v8 v9 v10 v11) s5 = some (.ref s5.length, s6) := by
      rw [hs6]
      simp only [ap_lst, ap_cons, ap_con, ap_nil, Option.bind_some, List.length_cons, List.length_nil, Nat.zero_add, Nat.reduceAdd, fits8, if_true]
      rfl
    rw [ap_asg, ap_bin, show (mVar 6 (wrho kl k n (some (.ref s1.length)) u4 (some (.str z)) (some (.ref s4.length)) v7 v8 v9 v10 v11) s5 : Option (D × Sto)) = some (.ref s4.length, s5) from rfl]
    simp only [Option.bind_some, el, ea6]
    rfl
  have p6 : PotAt n (s6 ++ [O.lst ((firsts ++ nexts).map D.str)]) := by rw [hs6]; exact (p5.gr (Gr.app _ _)).gr (Gr.app _ _)
  have a7 : (s6 ++ [O.lst ((firsts ++ nexts).map D.str)])[s6.length]? = some (.lst ((firsts ++ nexts).map D.str)) := app_at _ _
  have l6 : n < s6.length := by rw [hs6, ← hs5, ← hs4]; simp; have := f3.len; omega
  have fl0 : (firsts ++ nexts).length = 21 := by decide
  have tall := some_ok
  generalize firsts ++ nexts = fs at *
  have key2 := loop_ok (W := ⟨run 0 16, []⟩) (g := gNm 7) (m := L_law_3) (ds := run 0 16) (ρ := wrho kl k n (some (.ref s1.length)) u4 (some (.str z)) (some (.ref s6.length)) v7 v8 v9 v10 v11) (st := s6 ++ [O.lst (fs.map D.str)])
    (Inv := fun j ρ s' => (∃ u7 u8 u9, ρ = wrho kl k n (some (.ref s1.length)) u4 (some (.str z)) (some (.ref s6.length)) u7 u8 u9 v10 v11) ∧ PotAt n s' ∧ Fr n s6 s' ∧ ∃ us : List Str, s'[s6.length]? = some (.lst (us.map D.str)) ∧ us.length = 21 + j ∧ ∀ w ∈ us, TOk w 2000)
    ⟨⟨_, _, _, rfl⟩, p6, Fr.app _ _ _, fs, a7, fl0, tall⟩ (fun _ _ _ _ _ => rfl) (fun j d ρ s' hd hI => by
      obtain ⟨⟨u7, u8, u9, rfl⟩, hp, hf, us, ha, hl, ht⟩ := hI
      obtain ⟨hj, rfl⟩ := run_get hd
      obtain ⟨u, w8, w9, s7, e7, tu, p7, f7, a7⟩ := bent_turn (kl := kl) (k := k) (m := 0) (v3 := some (.ref s1.length)) (v4 := u4) (v7 := some (.int (0 + (j : Int)))) (v8 := u8) (v9 := u9) (v10 := v10) (v11 := v11) hp hf (Nat.le_refl _) (by omega) tz ha (by omega)
      refine ⟨_, s', _, s7, rfl, e7, ⟨_, _, _, rfl⟩, p7, f7, us ++ [u], a7, by simp [hl]; omega, fun t h => ?_⟩
      rcases List.mem_append.mp h with h | h
      · exact ht t h
      · rw [List.mem_singleton.mp h]
        exact tu)
  obtain ⟨ρ'', s7, e7, ⟨u7, u8, u9, rfl⟩, p7, f7, us, a7', hl7, ht7⟩ := key2
  rw [run_len] at hl7
  -- the looks
  have a8 : (s7 ++ [O.lst [D.str z]])[s6.length]? = some (.lst (us.map D.str)) := ((Gr.app s7 _).old _ (getElem?_lt a7')).trans a7'
  have ea8 := add_lst a8 (app_at s7 (.lst [.str z])) (by simp; omega)
  have em8 : us.map D.str ++ [D.str z] = (us ++ [z]).map D.str := by simp
  rw [em8] at ea8
  have hs8 : ∃ s8, s8 = s7 ++ [O.lst [D.str z]] := ⟨_, rfl⟩
  obtain ⟨s8, hs8⟩ := hs8
  rw [← hs8] at ea8
  have ht8 : ∀ w ∈ us ++ [z], TOk w 2000 := fun w hw => by
    rcases List.mem_append.mp hw with h | h
    · exact ht7 w h
    · rw [List.mem_singleton.mp h]
      exact tz.up (by decide)
  generalize us ++ [z] = vs at *
  have ew : mWA (mBin addD (mVar 6) (mLst (mCons (mVar 5) (mNil)))) (wrho kl k n (some (.ref s1.length)) u4 (some (.str z)) (some (.ref s6.length)) u7 u8 u9 v10 v11) s7 = some (⟨vs.map D.str, [(s8.length, vs.map D.str)]⟩, s8 ++ [O.lst (vs.map D.str)]) := by
    refine walk_ref (l := s8.length) (s1 := s8 ++ [O.lst (vs.map D.str)]) ?_ (app_at _ _)
    have el : mLst (mCons (mVar 5) (mNil)) (wrho kl k n (some (.ref s1.length)) u4 (some (.str z)) (some (.ref s6.length)) u7 u8 u9 v10 v11) s7 = some (.ref s7.length, s8) := by
      rw [hs8]
      simp [rho, ap_var, ap_con, ap_bin, ap_tst, ap_notT, ap_andT, ap_orT, ap_andV, ap_call, ap_cons, ap_nil, ap_tup, ap_lst, ap_ret, ap_exp, ap_asg, ap_nm, ap_pass, ap_neg, ap_if, ap_put, ap_sb, ap_tp, ap_gC0, ap_gC, ap_r1, ap_true, ap_for, ap_oN, ap_oS, ap_join, ap_app, ap_par, ap_zip, ap_dnewT, ap_dnewK, orO_l, orO_r, fits0, fits1, fits2, fits3, fits4, fits5, fits6, fits7, fits8, Option.bind_some, Option.map_some, add_int, sub_int, ltD, leD, gtD, geD, cmpD, intC, rho0, ap_wA, ap_metS, ap_slB, ap_enum]
    rw [ap_bin, show (mVar 6 (wrho kl k n (some (.ref s1.length)) u4 (some (.str z)) (some (.ref s6.length)) u7 u8 u9 v10 v11) s7 : Option (D × Sto)) = some (.ref s6.length, s7) from rfl]
    simp only [Option.bind_some, el, ea8]
  have key3 := loop_ok (W := ⟨vs.map D.str, [(s8.length, vs.map D.str)]⟩) (g := gNm 10) (m := L_law_4) (ds := vs.map D.str) (ρ := wrho kl k n (some (.ref s1.length)) u4 (some (.str z)) (some (.ref s6.length)) u7 u8 u9 v10 v11) (st := s8 ++ [O.lst (vs.map D.str)])
    (Inv := fun j ρ s' => (∃ u10 u11, ρ = wrho kl k n (some (.ref s1.length)) u4 (some (.str z)) (some (.ref s6.length)) u7 u8 u9 u10 u11) ∧ Gr (s8 ++ [O.lst (vs.map D.str)]) s')
    ⟨⟨_, _, rfl⟩, Gr.refl _⟩ (fun _ _ s' _ hI => walked_one ((hI.2.old _ (by simp)).trans (app_at s8 _))) (fun j d ρ s' hd hI => by
      obtain ⟨⟨u10, u11, rfl⟩, g⟩ := hI
      rw [List.getElem?_map] at hd
      obtain ⟨w, hw, rfl⟩ := map_some' hd
      obtain ⟨w11, s9, e9, g9⟩ := look_turn (kl := kl) (k := k) (n := n) (v3 := some (.ref s1.length)) (v4 := u4) (v5 := some (.str z)) (v6 := some (.ref s6.length)) (v7 := u7) (v8 := u8) (v9 := u9) (v11 := u11) (s := s') (ht8 w (List.mem_of_getElem? hw))
      exact ⟨_, s', _, s9, rfl, e9, ⟨_, _, rfl⟩, g.trans g9⟩)
  obtain ⟨ρ3, s9, e9, ⟨u10, u11, rfl⟩, g9⟩ := key3
  refine ⟨some (.ref n), some (.ref s1.length), u4, some (.str z), some (.ref s6.length), u7, u8, u9, u10, u11, s9, ?_⟩
  unfold L_law_5
  refine seq_to (ρ1 := wrho kl k n v3 v4 v5 v6 v7 v8 v9 v10 v11) (s1 := s1) (by rw [← hn] at e1 ⊢; simp [rho, ap_var, ap_con, ap_bin, ap_tst, ap_notT, ap_andT, ap_orT, ap_andV, ap_call, ap_cons, ap_nil, ap_tup, ap_lst, ap_ret, ap_exp, ap_asg, ap_nm, ap_pass, ap_neg, ap_if, ap_put, ap_sb, ap_tp, ap_gC0, ap_gC, ap_r1, ap_true, ap_for, ap_oN, ap_oS, ap_join, ap_app, ap_par, ap_zip, ap_dnewT, ap_dnewK, orO_l, orO_r, fits0, fits1, fits2, fits3, fits4, fits5, fits6, fits7, fits8, Option.bind_some, Option.map_some, add_int, sub_int, ltD, leD, gtD, geD, cmpD, intC, rho0, ap_wA, ap_metS, ap_slB, ap_enum, e1]) ?_
  refine seq_to (ρ1 := wrho kl k n (some (.ref s1.length)) v4 v5 v6 v7 v8 v9 v10 v11) (s1 := s1 ++ [.lst []]) (by simp [rho, ap_var, ap_con, ap_bin, ap_tst, ap_notT, ap_andT, ap_orT, ap_andV, ap_call, ap_cons, ap_nil, ap_tup, ap_lst, ap_ret, ap_exp, ap_asg, ap_nm, ap_pass, ap_neg, ap_if, ap_put, ap_sb, ap_tp, ap_gC0, ap_gC, ap_r1, ap_true, ap_for, ap_oN, ap_oS, ap_join, ap_app, ap_par, ap_zip, ap_dnewT, ap_dnewK, orO_l, orO_r, fits0, fits1, fits2, fits3, fits4, fits5, fits6, fits7, fits8, Option.bind_some, Option.map_some, add_int, sub_int, ltD, leD, gtD, geD, cmpD, intC, rho0, ap_wA, ap_metS, ap_slB, ap_enum]) ?_
  refine seq_to (ρ1 := wrho kl k n (some (.ref s1.length)) u4 v5 v6 v7 v8 v9 v10 v11) (s1 := s3) ?_ ?_
  · have sq : small q = true := small_lit q0 (by omega)
    have em : mR1 (mCall G_q_law_next (mCons (mVar 2) (mCons (mCon (.int 6)) (mNil)))) (wrho kl k n (some (.ref s1.length)) v4 v5 v6 v7 v8 v9 v10 v11) (s1 ++ [.lst []]) = some (⟨run 0 q.toNat, []⟩, s2) := by
      rw [ap_r1]
      simp [rho, ap_var, ap_con, ap_bin, ap_tst, ap_notT, ap_andT, ap_orT, ap_andV, ap_call, ap_cons, ap_nil, ap_tup, ap_lst, ap_ret, ap_exp, ap_asg, ap_nm, ap_pass, ap_neg, ap_if, ap_put, ap_sb, ap_tp, ap_gC0, ap_gC, ap_r1, ap_true, ap_for, ap_oN, ap_oS, ap_join, ap_app, ap_par, ap_zip, ap_dnewT, ap_dnewK, orO_l, orO_r, fits0, fits1, fits2, fits3, fits4, fits5, fits6, fits7, fits8, Option.bind_some, Option.map_some, add_int, sub_int, ltD, leD, gtD, geD, cmpD, intC, rho0, ap_wA, ap_metS, ap_slB, ap_enum, e2, sq]
    rw [ap_for, em]
    exact e3
  refine seq_to x4 (seq_to x5 (seq_to x6 ?_))
  refine seq_to (ρ1 := wrho kl k n (some (.ref s1.length)) u4 (some (.str z)) (some (.ref s6.length)) u7 u8 u9 v10 v11) (s1 := s7) ?_ ?_
  · have sq : small 16 = true := by decide
    rw [ap_for, ap_r1, ap_con]
    simp only [Option.bind_some, sq, if_true]
    exact e7
  · rw [ap_for, ew]
    exact e9
theorem law_true (ns : List Int) (hl : ns.length ≤ 63) : ∃ st, G_law [.kl (ns.map D.int)] [] = some (.bl true, st) := by
  obtain ⟨j, hj, hj12, ej⟩ : ∃ j : Int, 0 ≤ j ∧ j ≤ 12 ∧ (mCall max2C (mCons (mCon (.int 1)) (mCons (mCall min2C (mCons (mCall lenD (mCons (mVar 0) (mNil))) (mCons (mCon (.int 12)) (mNil)))) (mNil)))) [some (.kl (ns.map D.int)), none, none, none, none, none, none, none, none, none, none, none] [] = some (.int j, []) := by
    have em : ∀ a b : Int, min2C [.int a, .int b] [] = some (.int (if b < a then b else a), []) := fun a b => rfl
    have ex : ∀ a b : Int, max2C [.int a, .int b] [] = some (.int (if b > a then b else a), []) := fun a b => rfl
    refine ⟨_, ?_, ?_, by simp [rho, ap_var, ap_con, ap_bin, ap_tst, ap_notT, ap_andT, ap_orT, ap_andV, ap_call, ap_cons, ap_nil, ap_tup, ap_lst, ap_ret, ap_exp, ap_asg, ap_nm, ap_pass, ap_neg, ap_if, ap_put, ap_sb, ap_tp, ap_gC0, ap_gC, ap_r1, ap_true, ap_for, ap_oN, ap_oS, ap_join, ap_app, ap_par, ap_zip, ap_dnewT, ap_dnewK, orO_l, orO_r, fits0, fits1, fits2, fits3, fits4, fits5, fits6, fits7, fits8, Option.bind_some, Option.map_some, add_int, sub_int, ltD, leD, gtD, geD, cmpD, intC, rho0, ap_wA, ap_metS, ap_slB, ap_enum, len_kl, em, ex]; rfl⟩
    · split <;> (try split) <;> omega
    · split <;> (try split) <;> omega
  have key := loop_ok (W := ⟨run 0 j.toNat, []⟩) (g := gNm 1) (m := L_law_5) (ds := run 0 j.toNat) (ρ := [some (.kl (ns.map D.int)), none, none, none, none, none, none, none, none, none, none, none]) (st := [])
    (Inv := fun k ρ s => ∃ v1 v2 v3 v4 v5 v6 v7 v8 v9 v10 v11, ρ = [some (.kl (ns.map D.int)), v1, v2, v3, v4, v5, v6, v7, v8, v9, v10, v11]) ⟨none, none, none, none, none, none, none, none, none, none, none, rfl⟩ (fun _ _ _ _ _ => rfl) (fun k d ρ s hd hI => by
      obtain ⟨v1, v2, v3, v4, v5, v6, v7, v8, v9, v10, v11, rfl⟩ := hI
      obtain ⟨hk, rfl⟩ := run_get hd
      obtain ⟨w2, w3, w4, w5, w6, w7, w8, w9, w10, w11, s', e⟩ := turn_ok (ns := ns) (k := 0 + (k : Int)) (st := s) (v2 := v2) (v3 := v3) (v4 := v4) (v5 := v5) (v6 := v6) (v7 := v7) (v8 := v8) (v9 := v9) (v10 := v10) (v11 := v11) (by omega) (by omega)
      exact ⟨_, s, _, s', rfl, e, _, w2, w3, w4, w5, w6, w7, w8, w9, w10, w11, rfl⟩)
  obtain ⟨ρ', s', e, v1, v2, v3, v4, v5, v6, v7, v8, v9, v10, v11, rfl⟩ := key
  refine ⟨s', fn_rt ?_⟩
  unfold B_law
  have sj : small j = true := small_lit hj (by omega)
  refine seq_to (ρ1 := [some (.kl (ns.map D.int)), v1, v2, v3, v4, v5, v6, v7, v8, v9, v10, v11]) (s1 := s') ?_ (by simp [rho, ap_var, ap_con, ap_bin, ap_tst, ap_notT, ap_andT, ap_orT, ap_andV, ap_call, ap_cons, ap_nil, ap_tup, ap_lst, ap_ret, ap_exp, ap_asg, ap_nm, ap_pass, ap_neg, ap_if, ap_put, ap_sb, ap_tp, ap_gC0, ap_gC, ap_r1, ap_true, ap_for, ap_oN, ap_oS, ap_join, ap_app, ap_par, ap_zip, ap_dnewT, ap_dnewK, orO_l, orO_r, fits0, fits1, fits2, fits3, fits4, fits5, fits6, fits7, fits8, Option.bind_some, Option.map_some, add_int, sub_int, ltD, leD, gtD, geD, cmpD, intC, rho0, ap_wA, ap_metS, ap_slB, ap_enum])
  show mFor _ _ _ [some (.kl (ns.map D.int)), none, none, none, none, none, none, none, none, none, none, none] [] = _
  rw [ap_for, ap_r1, ej]
  simp only [Option.bind_some, sj, if_true]
  exact e
end L2.MP.stickytiles_k81_texts_of_no_row
namespace L2.MP.stickytiles_k81_texts_of_no_row
open PySem L2 L2.MP PySem.Spec PyProof.Rows
theorem sp_law {K : PySem.W.Frag} {H : Hp} {a : Addr} {ns : List Int} (hl : ns.length ≤ 63) (hO : Only H) (hS : SqL K H a (ns.map V.int)) : spM K 1 G_law [.ref a] H (fun v _ => v = .bl true) fun _ _ _ => False := by
  obtain ⟨st, e⟩ := law_true ns hl
  exact sp_start hO hS e
theorem walk {l : PySem.W.OpenLaw} {q : Program} {loose : List Str} {XP : (Str → Option Value) → Heap → Prop} {YP : World → Heap → Prop} {d : DefRec} {K : Params → PySem.W.Frag} (hn : l.most = some 63) (hdf : d.params.defaults = [])
    (hY : ∀ (w : World) (h : Heap), YP w h → (K w.params).In h)
    (F : ∀ (w : World) (mg : Str → Option Value) (fa : Addr) (h : Heap), (K w.params).In h → h.Ns mainGlobals mg → mg d.name = some (.ref fa) →
      ∃ fd : FuncData, (∀ (s : Shared) (u : Value), BindsTo s fd ⟨[u], []⟩ [("_law_script", u)]) ∧ ∀ base : Heap, (K w.params).In base → base.Ns mainGlobals mg → FnOk l.prog w (K w.params) mg base CX0 13 fa fd ["_law_script"] (spM (K w.params) 1 G_law)) :
    PySem.W.WalkO q loose XP YP l.row.toRowW d [] (fun f vs => PySem.call f vs) :=
  L2.walk_of (n := 63) (k := 13) (x := "_law_script") (CX := fun _ => CX0) (sp := fun w => spM (K w.params) 1 G_law) hn (by decide) hdf ⟨rfl, by decide, by decide, rfl⟩ hY F (fun _ _ a ns hl hO hS => sp_law hl hO hS) fun _ _ _ _ _ z => z
end L2.MP.stickytiles_k81_texts_of_no_row
open PySem PySem.W PyProof.Rows
set_option maxRecDepth 100000 in
set_option maxHeartbeats 0 in
theorem PySem.Challenge.cw_stickytiles_k81_texts_of_no_row_holds : PySem.Challenge.rw_stickytiles_k81_texts_of_no_row.Holds := by
  w_on; o_law; k_head; (case hw => w_witness2)
  k_fill
  refine L2.MP.stickytiles_k81_texts_of_no_row.walk (l := PySem.Challenge.rw_stickytiles_k81_texts_of_no_row) rfl rfl (fun w h Y => PySem.W.kIn_of Y) ?F
  case F =>
    intro w mg fa h KX G hmg
    refine' L2.MP.stickytiles_k81_texts_of_no_row.all_mk KX G hmg ?a0 ?l0 ?c0 ?k0 ?a1 ?l1 ?c1 ?k1 ?a2 ?l2 ?c2 ?k2 ?a3 ?l3 ?c3 ?k3 ?a4 ?l4 ?c4 ?k4 ?a5 ?l5 ?c5 ?k5 ?a6 ?l6 ?c6 ?k6 ?a7 ?l7 ?c7 ?k7 ?a8 ?l8 ?c8 ?k8 ?a9 ?l9 ?c9 ?k9 ?a10 ?l10 ?c10 ?k10 ?a11 ?l11 ?c11 ?k11 ?z0 ?z1 ?z2 ?z3 ?z4 ?z5 ?z6 ?z7 ?z8 ?z9 ?z10 ?z11 ?y0 ?y1
    (case a0 => k_is); (case l0 => k_is); (case c0 => k_is); (case k0 => k_is)
    (case a1 => k_is); (case l1 => k_is); (case c1 => k_is); (case k1 => k_is)
    (case a2 => k_is); (case l2 => k_is); (case c2 => k_is); (case k2 => k_is)
    (case a3 => k_is); (case l3 => k_is); (case c3 => k_is); (case k3 => k_is)
    (case a4 => k_is); (case l4 => k_is); (case c4 => k_is); (case k4 => k_is)
    (case a5 => k_is); (case l5 => k_is); (case c5 => k_is); (case k5 => k_is)
    (case a6 => k_is); (case l6 => k_is); (case c6 => k_is); (case k6 => k_is)
    (case a7 => k_is); (case l7 => k_is); (case c7 => k_is); (case k7 => k_is)
    (case a8 => k_is); (case l8 => k_is); (case c8 => k_is); (case k8 => k_is)
    (case a9 => k_is); (case l9 => k_is); (case c9 => k_is); (case k9 => k_is)
    (case a10 => k_is); (case l10 => k_is); (case c10 => k_is); (case k10 => k_is)
    (case a11 => k_is); (case l11 => k_is); (case c11 => k_is); (case k11 => k_is)
    (case z0 => k_is); (case z1 => k_is); (case z2 => k_is); (case z3 => k_is); (case z4 => k_is); (case z5 => k_is); (case z6 => k_is); (case z7 => k_is); (case z8 => k_is); (case z9 => k_is); (case z10 => k_is); (case z11 => k_is); (case y0 => k_is); (case y1 => k_is)
