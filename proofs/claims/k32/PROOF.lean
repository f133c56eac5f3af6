import PyProof.Rows.All
import Wide.All
import OpenK.AllK
import Wide.FinOn
import Lean
import PyProof.EqAt
import PyProof.EqKinds
import PyProof.TupleCall
import KE.KTryMore
import PyProof.NsDelKeeps
import OpenK.KOwn
import PyProof.ExcClass3
import KE.KSuper
import PyProof.InstStoreFacts
import PyProof.ExcArgsOwn
import PyProof.ExcAttrAll.ValueError
import KE.KIsAll
import PyProof.EnumFor
import PyProof.EnumStmt
import PyProof.EnumIter
import KE.KStar
import KE.KUnpack
import PyProof.ListRange
import PyProof.P3In
import PyProof.Rows.SortShell
import PyProof.Rows.SortWalk
import PyProof.SeqI3
import PyProof.WalkInts
import KE.KRevIter
import PyProof.CollectIter
import PyProof.TupleOfGen
import PySem.Challenge.RW_laterline_k32_cuts_told
set_option Elab.async false
set_option linter.all false
set_option maxRecDepth 100000
/-! THE HAND LAYER, for ints, bools, texts, own classes, LISTS and tuples (index, slices, in, append, pop ..), calls, loops. Paste it whole ahead of your own text; what your proof does not reach may be deleted. -/
namespace L2
open PySem PySem.Spec PyProof.Rows

/-- a key: an int or a str -/
abbrev Key := Sum Int Str
def keyIs : Key → Value → Bool
  | .inl k, v => Value.isInt k v
  | .inr x, v => Value.isStrOf x v
def keyH (w : World) : Key → Int
  | .inl k => hashInt k
  | .inr x => hashStr w x
theorem keyIs_shape : ∀ {k : Key} {v : Value}, keyIs k v = true → (∃ i t, k = Sum.inl i ∧ v = Value.int i t) ∨ (∃ x t, k = Sum.inr x ∧ v = Value.str x t)
  | .inl i, v, h => by
    obtain ⟨t, e⟩ := Value.isInt_shape (k := i) (v := v) h
    exact .inl ⟨i, t, rfl, e⟩
  | .inr x, v, h => by
    obtain ⟨t, e⟩ := Value.isStrOf_shape (x := x) (v := v) h
    exact .inr ⟨x, t, rfl, e⟩
theorem key_ll (a b : Int) : decide ((Sum.inl a : Key) = Sum.inl b) = (a == b) := by
  by_cases e : a = b
  · subst e; simp
  · have h : ¬ (Sum.inl a : Key) = Sum.inl b := fun q => e (Sum.inl.inj q)
    rw [decide_eq_false h]
    exact (beq_eq_false_iff_ne.mpr e).symm
theorem key_rr (a b : Str) : decide ((Sum.inr a : Key) = Sum.inr b) = decide (a = b) := by
  by_cases e : a = b
  · subst e; simp
  · have h : ¬ (Sum.inr a : Key) = Sum.inr b := fun q => e (Sum.inr.inj q)
    rw [decide_eq_false h, decide_eq_false e]
theorem key_lr (a : Int) (b : Str) : decide ((Sum.inl a : Key) = Sum.inr b) = false := decide_eq_false (fun q => nomatch q)
theorem key_rl (a : Str) (b : Int) : decide ((Sum.inr a : Key) = Sum.inl b) = false := decide_eq_false (fun q => nomatch q)

def mixKind (prog : Program) (w : World) : PySem.KeyKind prog w Key where
  is := keyIs
  hash := keyH w
  inj := fun v a b ha hb => by
    rcases keyIs_shape ha with ⟨i, t, rfl, rfl⟩ | ⟨x, t, rfl, rfl⟩
    · rcases keyIs_shape hb with ⟨j, u, rfl, e⟩ | ⟨y, u, rfl, e⟩
      · injection e with e1 _; rw [e1]
      · exact nomatch e
    · rcases keyIs_shape hb with ⟨j, u, rfl, e⟩ | ⟨y, u, rfl, e⟩
      · exact nomatch e
      · injection e with e1 _; rw [e1]
  byValue := fun k v h => by
    rcases keyIs_shape h with ⟨i, t, rfl, rfl⟩ | ⟨x, t, rfl, rfl⟩ <;> rfl
  pyHash := fun hv h => by
    rcases keyIs_shape hv with ⟨i, t, rfl, rfl⟩ | ⟨x, t, rfl, rfl⟩
    · exact wpAny_pyHash_int h
    · exact wpAny_pyHash_str h
  eqBool := fun hu hv h => by
    rcases keyIs_shape hu with ⟨i, t, rfl, rfl⟩ | ⟨x, t, rfl, rfl⟩
    · rcases keyIs_shape hv with ⟨j, u, rfl, rfl⟩ | ⟨y, u, rfl, rfl⟩
      · rw [key_ll] at h; exact wpAny_eqBool_int h
      · rw [key_lr] at h; exact SeqAt.EqAt.int_str i t y u _ _ _ _ h
    · rcases keyIs_shape hv with ⟨j, u, rfl, rfl⟩ | ⟨y, u, rfl, rfl⟩
      · rw [key_rl] at h; exact SeqAt.EqAt.str_int x t j u _ _ _ _ h
      · rw [key_rr] at h; exact wpAny_eqBool_str h
  «strs» := fun k x t v h => by
    rcases keyIs_shape h with ⟨i, u, rfl, e⟩ | ⟨y, u, rfl, e⟩
    · exact nomatch e
    · injection e with e1 _
      subst e1
      cases v <;> rfl

end L2

namespace L2
open PySem PySem.Spec PyProof.Rows

/-- a value, without the heap -/
inductive V where
  | non | bl (b : Bool) | int (i : Int) | str (x : Str) | byt (b : Array UInt8) | flt (b : UInt64) | ref (a : Addr) | ty (n : String)
  deriving DecidableEq

def RelV : V → Value → Prop
  | .non, u => u = Value.none
  | .bl b, u => u = Value.bool b
  | .int i, u => ∃ t, u = Value.int i t
  | .str x, u => ∃ t, u = Value.str x t
  | .byt b, u => ∃ t, u = Value.bytes b t
  | .flt b, u => ∃ t, u = Value.float b t
  | .ref a, u => u = Value.ref a
  | .ty n, u => u = Value.type n

abbrev Vals : List V → List Value → Prop := Paired RelV
theorem Vals.length {xs : List V} {us : List Value} (r : Vals xs us) : xs.length = us.length := Paired.length r
theorem Vals.get : ∀ {xs : List V} {us : List Value} {i : Nat} {x : V}, Vals xs us → xs[i]? = some x → ∃ u, us[i]? = some u ∧ RelV x u
  | _, _, _, _, .nil, e => by simp at e
  | _, _, 0, _, .cons r _, e => by simp at e; subst e; exact ⟨_, rfl, r⟩
  | _, _, i + 1, x, .cons _ t, e => by
    obtain ⟨u, h1, h2⟩ := Vals.get (i := i) (x := x) t (by simpa using e)
    exact ⟨u, by simpa using h1, h2⟩
theorem Vals.set {x : V} {u : Value} (r : RelV x u) : ∀ {xs : List V} {us : List Value} (i : Nat), Vals xs us → Vals (xs.set i x) (us.set i u)
  | _, _, _, .nil => .nil
  | _, _, 0, .cons _ t => .cons r t
  | _, _, i + 1, .cons q t => .cons q (Vals.set r i t)
theorem Vals.append : ∀ {xs ys : List V} {us ws : List Value}, Vals xs us → Vals ys ws → Vals (xs ++ ys) (us ++ ws)
  | _, _, _, _, .nil, s => s
  | _, _, _, _, .cons r t, s => .cons r (Vals.append t s)
theorem Vals.take : ∀ {xs : List V} {us : List Value} (n : Nat), Vals xs us → Vals (xs.take n) (us.take n)
  | _, _, 0, _ => .nil
  | _, _, _ + 1, .nil => .nil
  | _, _, n + 1, .cons r t => .cons r (Vals.take n t)
theorem Vals.drop : ∀ {xs : List V} {us : List Value} (n : Nat), Vals xs us → Vals (xs.drop n) (us.drop n)
  | _, _, 0, r => r
  | _, _, _ + 1, .nil => .nil
  | _, _, n + 1, .cons _ t => Vals.drop n t
def RelO : Option V → Option Value → Prop
  | some v, some u => RelV v u
  | none, none => True
  | _, _ => False
def KV {κ : Type} : List (κ × V) → List (κ × Value) → Prop := Paired fun (p : κ × V) (q : κ × Value) => p.1 = q.1 ∧ RelV p.2 q.2

/-- a key of a dict (00_mix): an int or a text -/
def kV : Key → V
  | .inl i => .int i
  | .inr x => .str x

/-- what stands at a tracked address -/
inductive HO where
  /-- a list -/
  | lst (xs : List V)
  /-- a tuple (never changes) -/
  | tup (xs : List V)
  /-- a dict whose keys are ints and texts; one whose keys are tuples of ints and texts (the empty one is both) -/
  | dK (kvs : List (Key × V)) | dT (kvs : List (List Key × V))
  /-- a set of ints: its members, its size -/
  | set (S : Int → Bool) (n : Nat)
  /-- an instance of the class at C, its dict at dx, its attributes -/
  | ins (C dx : Addr) (fs : List (Str × V))
  /-- the dict of the instance at x -/
  | own (x : Addr)
  /-- the dict of an exception -/
  | xd (fs : List (Str × V))
  /-- a bound method, f of x -/
  | met (f x : Addr)
  /-- a range object lo, lo + 1, .. below hi -/
  | rng (lo hi : Int)
  /-- a thing that is known to the object (the script; a dict while a loop walks it): read, never written while it is so -/
  | frz (o : Obj) (u : HO)
  /-- a code object's table -/
  | tbl (ps : Array Value)
  /-- any other thing, by what is true of its one object (a def of one's own: SetO a S n := HO.ext fun h => ..) -/
  | ext (φ : Heap → Prop)

abbrev Hp := Addr → Option HO
def upd (H : Hp) (a : Addr) (o : HO) : Hp := fun b => if b = a then some o else H b
theorem upd_same {H : Hp} {a : Addr} {o : HO} : upd H a o a = some o := by unfold upd; rw [if_pos rfl]
theorem upd_ne {H : Hp} {a b : Addr} {o : HO} (h : b ≠ a) : upd H a o b = H b := by unfold upd; rw [if_neg h]
theorem ne_of_none {H : Hp} {a b : Addr} {o : HO} (h : H a = some o) (h' : H b = none) : a ≠ b := by
  intro e; subst e; rw [h] at h'; cases h'

section
variable (P : Program) (w : World)
def ObjOk (H : Hp) (h : Heap) (a : Addr) : HO → Prop
  | .lst xs => xs.length ≤ sizeLine ∧ ∃ (its : List Value) (n : Nat), Vals xs its ∧ h.get? a = some { cls := .type "list", data := .seq its.toArray n }
  | .tup xs => xs.length ≤ sizeLine ∧ ∃ its : List Value, Vals xs its ∧ IsTup h a its.toArray
  | .dK kvs => kvs.length ≤ sizeLine ∧ (a == sysModules) = false ∧ ∃ vs, KV kvs vs ∧ h.DictOf (mixKind P w) a vs
  | .dT kvs => kvs.length ≤ sizeLine ∧ (a == sysModules) = false ∧ ∃ xs : List (List Key × Addr × Value),
      Paired (fun (p : List Key × V) (q : List Key × Addr × Value) => p.1 = q.1 ∧ H q.2.1 = some (.tup (p.1.map kV)) ∧ RelV p.2 q.2.2) kvs xs ∧
      ∃ o es ep, h.get? a = some o ∧ o.ExactDict ∧ o.data = .dict es ep ∧ es.toList = xs.map (entryOfKey (tupleKind (mixKind P w))) ∧ (xs.map (·.1)).Nodup
  | .set S n => h.SetOf (intKind P w) a S n
  | .ins C dx fs => H dx = some (.own a) ∧ fs.length ≤ 1000 ∧ dx ≠ a ∧ h.get? a = some (PySem.W.instObj C dx) ∧
      ∃ mA, h.Ns1 dx mA ∧ (∀ f, RelO (fs.lookup f) (mA f)) ∧ PySem.Within mA (fs.map (·.1))
  | .own _ => ∃ o, h.get? a = some o
  | .xd fs => ∃ mA, h.Ns1 a mA ∧ ∀ f, RelO (fs.lookup f) (mA f)
  | .rng lo hi => ∃ t u v, h.get? a = some { cls := .type "range", data := .fields #[.int lo t, .int hi u, .int 1 v] }
  | .frz o u => h.get? a = some o ∧ ObjOk H h a u
  | .tbl ps => h.get? a = some { cls := .none, data := .fields ps }
  | .met f x => h.get? a = some (PySem.W.methodObj (.ref f) (.ref x))
  | .ext φ => φ h ∧ (∃ o, h.get? a = some o) ∧ ∀ h1 h2 : Heap, φ h1 → (∀ o, h1.get? a = some o → h2.get? a = some o) → φ h2
/-- the abstract heap is held -/
def HOk (H : Hp) (h : Heap) : Prop := ∀ a o, H a = some o → ObjOk P w H h a o
end

section
variable {P : Program} {w : World} {H H' : Hp} {h h' : Heap} {a : Addr} {o : HO}
theorem ObjOk.lt (x : ObjOk P w H h a o) : a < h.objs.size := by
  cases o with
  | lst xs => obtain ⟨_, _, _, _, e⟩ := x; exact Heap.lt_size e
  | tup xs => obtain ⟨_, _, _, p⟩ := x; exact p.lt
  | dK kvs => obtain ⟨_, _, _, _, o, _, _, e, _⟩ := x; exact Heap.lt_size e
  | dT kvs => obtain ⟨_, _, _, _, o, _, _, e, _⟩ := x; exact Heap.lt_size e
  | set S n => obtain ⟨o, _, _, _, e, _⟩ := x; exact Heap.lt_size e
  | ins C dx fs => obtain ⟨_, _, _, e, _⟩ := x; exact Heap.lt_size e
  | own y => obtain ⟨_, e⟩ := x; exact Heap.lt_size e
  | xd fs => obtain ⟨_, ⟨_, _, _, e, _⟩, _⟩ := x; exact Heap.lt_size e
  | rng lo hi => obtain ⟨_, _, _, e⟩ := x; exact Heap.lt_size e
  | frz ob u => obtain ⟨e, _⟩ := x; exact Heap.lt_size e
  | tbl ps => exact Heap.lt_size (show h.get? a = some _ from x)
  | met f y => exact Heap.lt_size (show h.get? a = some _ from x)
  | ext φ => obtain ⟨_, ⟨_, e⟩, _⟩ := x; exact Heap.lt_size e
theorem Paired.mapP {α β : Type} {F G : α → β → Prop} : ∀ {l₁ : List α} {l₂ : List β}, Paired F l₁ l₂ → (∀ a b, F a b → G a b) → Paired G l₁ l₂
  | _, _, .nil, _ => .nil
  | _, _, .cons r t, f => .cons (f _ _ r) (Paired.mapP t f)
/-- what an object's description leans on: its own object, its own dict, the tuples -/
theorem ObjOk.stay (x : ObjOk P w H h a o) (k : ∀ b u, (b = a ∨ H b = some (.own a)) → h.get? b = some u → h'.get? b = some u)
    (ho : ∀ b, H b = some (.own a) → H' b = some (.own a)) (ht : ∀ b xs, H b = some (.tup xs) → H' b = some (.tup xs)) : ObjOk P w H' h' a o := by
  induction o with
  | lst xs => obtain ⟨z, its, n, r, e⟩ := x; exact ⟨z, its, n, r, k _ _ (.inl rfl) e⟩
  | tup xs => obtain ⟨z, its, r, ob, e, c⟩ := x; exact ⟨z, its, r, ob, k _ _ (.inl rfl) e, c⟩
  | dK kvs => obtain ⟨z, y, vs, r, ob, es, ep, e, c⟩ := x; exact ⟨z, y, vs, r, ob, es, ep, k _ _ (.inl rfl) e, c⟩
  | dT kvs =>
    obtain ⟨z, y, xs, r, ob, es, ep, e, c⟩ := x
    exact ⟨z, y, xs, Paired.mapP r fun p q z => ⟨z.1, ht _ _ z.2.1, z.2.2⟩, ob, es, ep, k _ _ (.inl rfl) e, c⟩
  | set S n => obtain ⟨ob, es, ep, t, e, c⟩ := x; exact ⟨ob, es, ep, t, k _ _ (.inl rfl) e, c⟩
  | ins C dx fs =>
    obtain ⟨d, z, ne, e, mA, ⟨od, es, ep, e2, c⟩, r⟩ := x
    exact ⟨ho _ d, z, ne, k _ _ (.inl rfl) e, mA, ⟨od, es, ep, k _ _ (.inr d) e2, c⟩, r⟩
  | own y => obtain ⟨ob, e⟩ := x; exact ⟨ob, k _ _ (.inl rfl) e⟩
  | xd fs => obtain ⟨mA, ⟨od, es, ep, e, c⟩, r⟩ := x; exact ⟨mA, ⟨od, es, ep, k _ _ (.inl rfl) e, c⟩, r⟩
  | rng lo hi => obtain ⟨t, u, v, e⟩ := x; exact ⟨t, u, v, k _ _ (.inl rfl) e⟩
  | frz ob u ih => obtain ⟨e, q⟩ := x; exact ⟨k _ _ (.inl rfl) e, ih q⟩
  | tbl ps =>
    have e : h.get? a = some { cls := .none, data := .fields ps } := x
    show h'.get? a = some { cls := .none, data := .fields ps }
    exact k a _ (.inl rfl) e
  | met f y =>
    have e : h.get? a = some (PySem.W.methodObj (.ref f) (.ref y)) := x
    show h'.get? a = some (PySem.W.methodObj (.ref f) (.ref y))
    exact k a _ (.inl rfl) e
  | ext φ => obtain ⟨p, ⟨o, e⟩, st⟩ := x; exact ⟨st _ _ p fun o q => k _ _ (.inl rfl) q, ⟨o, k _ _ (.inl rfl) e⟩, st⟩
theorem HOk.lt (x : HOk P w H h) (e : H a = some o) : a < h.objs.size := (x a o e).lt
theorem HOk.fresh (x : HOk P w H h) (e : h.objs.size ≤ a) : H a = none := by
  cases q : H a with
  | none => rfl
  | some u => exact absurd (Nat.lt_of_lt_of_le (x.lt q) e) (Nat.lt_irrefl _)
/-- every object of the heap is kept -/
theorem HOk.kept (x : HOk P w H h) (k : ∀ b u, h.get? b = some u → h'.get? b = some u) : HOk P w H h' := fun a o e =>
  (x a o e).stay (fun b u _ q => k b u q) (fun _ q => q) fun _ _ q => q
/-- a new object is laid and tracked -/
theorem HOk.laid (x : HOk P w H h) (k : ∀ b u, h.get? b = some u → h'.get? b = some u) (hp : h.objs.size ≤ a) (new : ObjOk P w (upd H a o) h' a o) : HOk P w (upd H a o) h' := fun b u e => by
  have hn := x.fresh hp
  by_cases hb : b = a
  · subst hb; rw [upd_same] at e; cases e; exact new
  · rw [upd_ne hb] at e
    exact (x b u e).stay (fun c v _ q => k c v q) (fun c q => by rw [upd_ne (ne_of_none q hn)]; exact q) fun c xs q => by rw [upd_ne (ne_of_none q hn)]; exact q
end

/-- what may be read as u: it is u, or a known u -/
def Rd (H : Hp) (a : Addr) (u : HO) : Prop := H a = some u ∨ ∃ o, H a = some (.frz o u)
theorem Rd.ok {P : Program} {w : World} {H : Hp} {h : Heap} {a : Addr} {u : HO} (r : Rd H a u) (x : HOk P w H h) : ObjOk P w H h a u := by
  rcases r with r | ⟨o, r⟩
  · exact x a u r
  · obtain ⟨_, q⟩ := x a _ r
    exact q
/-- what may be written -/
def Mut : Option HO → Prop
  | some (.lst _) => True
  | some (.dK _) => True
  | some (.dT _) => True
  | some (.set _ _) => True
  | some (.ins _ _ _) => True
  | some (.ext _) => True
  | _ => False
section
variable {P : Program} {w : World} {H : Hp} {h h' : Heap} {x e : Addr} {o' : HO}
/-- the object at e is changed: x itself, or the dict of the instance x -/
theorem HOk.write (ok : HOk P w H h) (mu : Mut (H x)) (he : e = x ∨ H e = some (.own x)) (k : ∀ b u, b ≠ e → h.get? b = some u → h'.get? b = some u) (heo : ∃ u, h'.get? e = some u)
    (new : ObjOk P w (upd H x o') h' x o') : HOk P w (upd H x o') h' := fun b u q => by
  have nown : ∀ c y, H c = some (.own y) → c ≠ x := fun c y r z => by subst z; rw [r] at mu; exact mu
  have ntup : ∀ c xs, H c = some (.tup xs) → c ≠ x := fun c xs r z => by subst z; rw [r] at mu; exact mu
  by_cases hb : b = x
  · subst hb; rw [upd_same] at q; cases q; exact new
  · rw [upd_ne hb] at q
    by_cases hbe : b = e
    · have q' : H b = some (.own x) := by
        rcases he with z | z
        · exact absurd (hbe.trans z) hb
        · rw [hbe]; exact z
      rw [q] at q'; cases q'
      obtain ⟨v, hv⟩ := heo
      exact ⟨v, by rw [hbe]; exact hv⟩
    · refine (ok b u q).stay (fun c v hc r => k c v ?_ r) (fun c r => by rw [upd_ne (nown c b r)]; exact r) fun c xs r => by rw [upd_ne (ntup c xs r)]; exact r
      rcases hc with rfl | hc
      · exact hbe
      · rintro rfl
        rcases he with z | z
        · exact nown c b hc z
        · rw [hc] at z; cases z; exact hb rfl
end

/-! ### kept unless tracked; of the frames at fs (the callers') the slots may change (an exception that passes writes there); of the records at ex (iterators) nothing is said -/
structure Un (fs ex : List Addr) (H H' : Hp) (h h' : Heap) : Prop where
  keep : ∀ b o, h.get? b = some o → H b = none → b ∉ fs → b ∉ ex → h'.get? b = some o
  slot : ∀ b o, h.get? b = some o → H b = none → b ∈ fs → b ∉ ex → ∃ sl, h'.get? b = some { o with slots := sl }
  free : ∀ b o, h.get? b = some o → H b = none → b ∉ ex → H' b = none
  there : ∀ b o, h.get? b = some o → b ∉ ex → ∃ o', h'.get? b = some o'
  tups : ∀ b xs, H b = some (.tup xs) → H' b = some (.tup xs)
  frzs : ∀ b o u, H b = some (.frz o u) → H' b = some (.frz o u)
  tbls : ∀ b ps, H b = some (.tbl ps) → ∃ more, H' b = some (.tbl (ps ++ more))
section
variable {fs fs' ex ex' : List Addr} {H H1 H2 : Hp} {h h1 h2 h' : Heap} {a x e : Addr} {o : HO}
theorem Un.any (u : Un fs ex H H1 h h1) {b : Addr} {ob : Obj} (q : h.get? b = some ob) (n : H b = none) (hx : b ∉ ex) : ∃ sl, h1.get? b = some { ob with slots := sl } := by
  by_cases hb : b ∈ fs
  · exact u.slot b ob q n hb hx
  · exact ⟨ob.slots, u.keep b ob q n hb hx⟩
theorem Un.kept (k : ∀ b u, h.get? b = some u → h'.get? b = some u) : Un fs ex H H h h' :=
  ⟨fun b ob q _ _ _ => k b ob q, fun b ob q _ _ _ => ⟨ob.slots, k b ob q⟩, fun _ _ _ n _ => n, fun b ob q _ => ⟨ob, k b ob q⟩, fun _ _ q => q, fun _ _ _ q => q, fun _ ps q => ⟨#[], by rw [q]; simp⟩⟩
theorem Un.refl : Un fs ex H H h h := Un.kept fun _ _ q => q
theorem Un.laid (k : ∀ b u, h.get? b = some u → h'.get? b = some u) (hp : h.objs.size ≤ a) (hn : H a = none) : Un fs ex H (upd H a o) h h' where
  keep := fun b u q _ _ _ => k b u q
  slot := fun b u q _ _ _ => ⟨u.slots, k b u q⟩
  free := fun b u q n _ => by rw [upd_ne (Nat.ne_of_lt (Nat.lt_of_lt_of_le (Heap.lt_size q) hp))]; exact n
  there := fun b u q _ => ⟨u, k b u q⟩
  tups := fun b xs q => by rw [upd_ne (ne_of_none q hn)]; exact q
  frzs := fun b u xs q => by rw [upd_ne (ne_of_none q hn)]; exact q
  tbls := fun b ps q => ⟨#[], by rw [upd_ne (ne_of_none q hn), q]; simp⟩
theorem Un.write (mu : Mut (H x)) (he : e = x ∨ H e = some (.own x)) (k : ∀ b u, b ≠ e → h.get? b = some u → h'.get? b = some u) (heo : ∃ u, h'.get? e = some u) : Un fs ex H (upd H x o) h h' := by
  have hx : ∀ b, H b = none → b ≠ x := fun b n z => by subst z; rw [n] at mu; exact mu
  have hb : ∀ b, H b = none → b ≠ e := fun b n z => by
    subst z
    rcases he with r | r
    · exact hx b n r
    · rw [n] at r; cases r
  have hm : ∀ b u, H b = some u → ¬ Mut (some u) → b ≠ x := fun b u q nm z => by subst z; rw [q] at mu; exact nm mu
  refine ⟨fun b u q n _ _ => k b u (hb b n) q, fun b u q n _ _ => ⟨u.slots, k b u (hb b n) q⟩, fun b u q n _ => by rw [upd_ne (hx b n)]; exact n, fun b u q _ => ?_,
    fun b xs q => by rw [upd_ne (hm b _ q fun z => z)]; exact q, fun b u xs q => by rw [upd_ne (hm b _ q fun z => z)]; exact q, fun b ps q => ⟨#[], by rw [upd_ne (hm b _ q fun z => z), q]; simp⟩⟩
  by_cases hbe : b = e
  · subst hbe; exact heo
  · exact ⟨u, k b u hbe q⟩
end

/-! ### the heap without what is tracked -/
def trk (h : Heap) (H : Hp) : List Addr := (List.range h.objs.size).filter fun a => (H a).isSome
def hidT (h : Heap) (H : Hp) : Heap := PySem.W.hideAll h (trk h H)
theorem hidT_size (h : Heap) (H : Hp) : (hidT h H).objs.size = h.objs.size := PySem.W.hideAll_size _ _
theorem hidT_get {h : Heap} {H : Hp} {b : Addr} {o : Obj} (e : h.get? b = some o) (n : H b = none) : (hidT h H).get? b = some o :=
  PySem.W.hideAll_get _ e fun hm => by
    have q : (H b).isSome = true := (List.mem_filter.mp hm).2
    rw [n] at q; simp at q
theorem of_hidT {h : Heap} {H : Hp} {b : Addr} {o : Obj} (e : (hidT h H).get? b = some o) : h.get? b = some o ∧ H b = none := by
  have e' : h.get? b = some o := PySem.W.of_hideAll (trk h H) e
  refine ⟨e', ?_⟩
  cases q : H b with
  | none => rfl
  | some x =>
    have hm : b ∈ trk h H := List.mem_filter.mpr ⟨List.mem_range.mpr (Heap.lt_size e'), by simp [q]⟩
    have z : (hidT h H).get? b = none := PySem.W.hideAll_none (trk h H) hm
    rw [z] at e; cases e

/-! ### OpenK's ledger, filled with every new object but one -/
def allNews (g h : Heap) (L : Addr) : List (Addr × Obj) := (List.range h.objs.size).filterMap fun a => if a = L ∨ (g.get? a).isSome = true then none else (h.get? a).map fun o => (a, o)
def rest (g h : Heap) (L d : Addr) : List (Addr × Obj) := (allNews g h L).filter fun p => decide (p.1 ≠ d)
end L2

namespace L2
open PySem PySem.Spec PyProof.Rows

/-- the module's facts, over the base: the heap at the law's entry without what is tracked there -/
structure Mod (K : PySem.W.Frag) (mg : Str → Option Value) (base : Heap) : Prop where
  kin : K.In base
  glob : base.Ns mainGlobals mg
  blt : ∃ mb, base.Ns builtinsNs mb ∧ ∀ x : Str, x ≠ "__name__" → mb x = bootBuiltins x
  nolimit : base.NoLimit

/-- the context: a def's body (or a comprehension's block) running. base: fixed through the whole law; s₀, H₀: the entry; outer: the frames whose slots others may change (a def's callers); stack: all frames that run;
   ex: iterators that were made ahead of the entry and are walked here (a comprehension's); fn: the names whose cells were made at the entry (a def: all; a comprehension's block: its own); calm: not within an except suite; pn: pins that every state bears; xe: what is wanted of an exception that leaves the code -/
structure Cx where
  prog : Program
  w : World
  K : PySem.W.Frag
  mg : Str → Option Value
  base : Heap
  A : Around
  N : List Str
  s₀ : Shared
  H₀ : Hp
  env : Env
  outer : List Env
  stack : List Env
  ex : List Addr
  fn : Str → Bool
  calm : Bool
  pn : List (Addr × Obj)
  xe : Value → Shared → Prop
/-- the callers' frames -/
def frs (l : List Env) : List Addr := l.filterMap (·.frame)
abbrev Cx.fs (X : Cx) : List Addr := frs X.outer

def Vis (sc : Scope) (x : Str) : Prop := sc.names.lookup x = some .local ∨ sc.names.lookup x = some .cell ∨ sc.names.lookup x = some .free
def Loc (sc : Scope) (x : Str) : Prop := sc.names.lookup x = some .local ∨ sc.names.lookup x = some .cell
def Look (env : Env) (h : Heap) (m : Str → Option Value) (x : Str) (u : Value) : Prop :=
  (env.kindOf x = some .local ∧ m x = some u) ∨ ((env.kindOf x = some .cell ∨ env.kindOf x = some .free) ∧ ∃ c, env.cells.lookup x = some c ∧ h.IsCell c (some u))

structure Cx.Ok (X : Cx) : Prop where
  mod : Mod X.K X.mg X.base
  kind : X.env.scope.kind = .function
  glob : X.env.globals = mainGlobals
  blt : X.env.builtins = builtinsNs
  above : X.s₀.heap.objs.size ≤ X.env.locals
  inj : ∀ x y c, X.env.cells.lookup x = some c → X.env.cells.lookup y = some c → x = y
  has : ∀ x, (X.env.kindOf x = some .cell ∨ X.env.kindOf x = some .free) → ∃ c, X.env.cells.lookup x = some c
  cab : ∀ x c, X.fn x = true → X.env.cells.lookup x = some c → X.s₀.heap.objs.size ≤ c
  hd : X.calm = true → X.A.handled = none
  frames : X.A.frames = some X.stack
  stk : X.stack = X.outer ∨ (X.stack = X.env :: X.outer ∧ X.env.frame = some X.env.locals)
  exf : ∀ b ∈ X.ex, b ≠ X.env.locals ∧ ∀ x c, X.env.cells.lookup x = some c → c ≠ b
  bs : ∀ b o, X.base.get? b = some o → X.s₀.heap.get? b = some o ∧ X.H₀ b = none
  bsz : X.base.objs.size ≤ X.s₀.heap.objs.size
  noex : ∀ b o, X.base.get? b = some o → b ∉ X.ex
  exfs : ∀ b ∈ X.ex, b ∉ X.fs
  funs : X.s₀.heap.FunFrames X.base X.outer
  frf : ∀ b ∈ X.fs, X.H₀ b = none

structure Inv (X : Cx) (pins : List (Addr × Obj)) (σ : List (Option V)) (H : Hp) (s : Shared) : Prop where
  ok : X.Ok
  os : s.os = X.s₀.os
  bare : AllBare s.gens
  base : Un X.fs X.ex X.H₀ H X.s₀.heap s.heap
  loc : ∃ m, s.heap.Ns X.env.locals m ∧ ∀ (i : Nat) (x : Str) (v : V), X.N[i]? = some x → σ[i]? = some (some v) → Vis X.env.scope x → ∃ u, RelV v u ∧ Look X.env s.heap m x u
  cell : ∀ x c, X.env.cells.lookup x = some c → ∃ v, s.heap.IsCell c v
  free : H X.env.locals = none
  freeC : ∀ x c, X.env.cells.lookup x = some c → H c = none
  pin : ∀ p ∈ X.pn ++ pins, s.heap.get? p.1 = some p.2 ∧ H p.1 = none ∧ p.1 ≠ X.env.locals ∧ p.1 ∉ X.fs ∧ ∀ v, p.2.data ≠ .cell v
  hok : HOk X.prog X.w H s.heap
  len : σ.length = X.N.length

section
variable {X : Cx} {pins : List (Addr × Obj)} {σ : List (Option V)} {H H' : Hp} {s : Shared} {h' : Heap}

theorem Cx.Ok.nofr (ok : X.Ok) {b : Addr} {o : Obj} (e : X.base.get? b = some o) : b ∉ X.fs := fun hb => by
  have := (ok.funs.mem hb).1
  rw [e] at this; cases this
theorem Inv.bs (I : Inv X pins σ H s) : ∀ b o, X.base.get? b = some o → s.heap.get? b = some o ∧ H b = none := fun b o e =>
  ⟨I.base.keep b o (I.ok.bs b o e).1 (I.ok.bs b o e).2 (I.ok.nofr e) (I.ok.noex b o e), I.base.free b o (I.ok.bs b o e).1 (I.ok.bs b o e).2 (I.ok.noex b o e)⟩
theorem Inv.bk (I : Inv X pins σ H s) : ∀ b o, X.base.get? b = some o → s.heap.get? b = some o := fun b o e => (I.bs b o e).1
theorem Inv.mod (I : Inv X pins σ H s) : Mod X.K X.mg X.base := I.ok.mod
theorem Inv.kIn (I : Inv X pins σ H s) : X.K.In s.heap := I.ok.mod.kin.keeps I.bk
theorem Inv.lt (I : Inv X pins σ H s) : X.env.locals < s.heap.objs.size := let ⟨_, hn, _⟩ := I.loc; hn.lt
theorem Inv.sz (I : Inv X pins σ H s) : X.s₀.heap.objs.size ≤ s.heap.objs.size := Nat.le_trans I.ok.above (Nat.le_of_lt I.lt)
theorem Inv.nofs (I : Inv X pins σ H s) {a : Addr} (h : s.heap.objs.size ≤ a) : a ∉ X.fs := fun hb => by
  obtain ⟨_, o, ho, _⟩ := I.ok.funs.mem hb
  exact absurd (Nat.lt_of_lt_of_le (Heap.lt_size ho) (Nat.le_trans I.sz h)) (Nat.lt_irrefl _)
theorem Inv.cne (I : Inv X pins σ H s) : ∀ x c, X.env.cells.lookup x = some c → c ≠ X.env.locals := fun x c e z => by
  obtain ⟨v, o, ho, hd⟩ := I.cell x c e
  obtain ⟨m, ⟨o', es, ep, ho', hd', _⟩, _⟩ := I.loc
  rw [z, ho'] at ho; cases ho; rw [hd'] at hd; cases hd
theorem Inv.funs (I : Inv X pins σ H s) : s.heap.FunFrames X.base X.outer := by
  have all : ∀ (l : List Env), (∀ b ∈ frs l, b ∈ X.fs) → X.s₀.heap.FunFrames X.base l → s.heap.FunFrames X.base l := by
    intro l
    induction l with
    | nil => intro _ _; trivial
    | cons env r ih =>
      intro hs hl
      obtain ⟨hk, ⟨L, o, hf, hn, ho, hd⟩, hr⟩ := hl
      have hL : L ∈ X.fs := hs L (by unfold frs; rw [List.filterMap_cons, hf]; exact List.mem_cons_self)
      obtain ⟨sl, e⟩ := I.base.slot L o ho (I.ok.frf L hL) hL fun z => I.ok.exfs L z hL
      exact ⟨hk, ⟨L, _, hf, hn, e, hd⟩, ih (fun b hb => hs b (by unfold frs; rw [List.filterMap_cons, hf]; exact List.mem_cons_of_mem _ hb)) hr⟩
  exact all X.outer (fun _ hb => hb) I.ok.funs

/-- the frames that run, for a call -/
theorem Inv.stack (I : Inv X pins σ H s) : s.heap.FunFrames X.base X.stack := by
  rcases I.ok.stk with e | ⟨e, hf⟩
  · rw [e]; exact I.funs
  · rw [e]
    obtain ⟨m, hn, _⟩ := I.loc
    refine .cons (by rw [I.ok.kind]; decide) hf hn ?_ I.funs
    exact Heap.get?_none_of_le (Nat.le_trans I.ok.bsz I.ok.above)
theorem Inv.stkSub (I : Inv X pins σ H s) : ∀ b ∈ frs X.stack, b ∈ X.env.locals :: X.fs := fun b hb => by
  rcases I.ok.stk with e | ⟨e, hf⟩
  · rw [e] at hb; exact List.mem_cons_of_mem _ hb
  · rw [e] at hb
    unfold frs at hb
    rw [List.filterMap_cons, hf] at hb
    exact hb
theorem Inv.stkFree (I : Inv X pins σ H s) : ∀ b ∈ frs X.stack, H b = none := fun b hb => by
  rcases List.mem_cons.mp (I.stkSub b hb) with e | hb
  · rw [e]; exact I.free
  · obtain ⟨_, o, ho, _⟩ := I.ok.funs.mem hb
    exact I.base.free b o ho (I.ok.frf b hb) fun z => I.ok.exfs b z hb

/-- THE STEP: the untracked objects but the frame and the records at ch are kept (the callers' frames up to slots), the frame's map is kept, the new abstract heap is held -/
theorem Inv.step {g' : Array GenState} {t' : Nat} {d' : Drawn} {ch : List Addr} (I : Inv X pins σ H s)
    (hch : ∀ b ∈ ch, (b ∈ X.ex ∨ X.s₀.heap.objs.size ≤ b) ∧ b ≠ X.env.locals ∧ (∀ x c, X.env.cells.lookup x = some c → c ≠ b) ∧ ∀ p ∈ X.pn ++ pins, p.1 ≠ b)
    (keep : ∀ b o, b ≠ X.env.locals → b ∉ X.fs → b ∉ ch → s.heap.get? b = some o → H b = none → h'.get? b = some o)
    (slot : ∀ b o, b ≠ X.env.locals → b ∈ X.fs → b ∉ ch → s.heap.get? b = some o → H b = none → ∃ sl, h'.get? b = some { o with slots := sl }) (free : ∀ b o, b ∉ ch → s.heap.get? b = some o → H b = none → H' b = none)
    (there : ∀ b o, b ∉ ch → s.heap.get? b = some o → ∃ o', h'.get? b = some o')
    (tups : ∀ b xs, H b = some (.tup xs) → H' b = some (.tup xs)) (frzs : ∀ b o u, H b = some (.frz o u) → H' b = some (.frz o u)) (tbls : ∀ b ps, H b = some (.tbl ps) → ∃ more, H' b = some (.tbl (ps ++ more)))
    (ns : ∀ m, s.heap.Ns X.env.locals m → h'.Ns X.env.locals m) (hok : HOk X.prog X.w H' h') (hg : AllBare g') :
    Inv X pins σ H' { s with heap := h', gens := g', drawn := d', toks := t' } := by
  have neL : ∀ b o, X.s₀.heap.get? b = some o → b ≠ X.env.locals := fun b o e => Nat.ne_of_lt (Nat.lt_of_lt_of_le (Heap.lt_size e) I.ok.above)
  have neC : ∀ b o, X.s₀.heap.get? b = some o → b ∉ X.ex → b ∉ ch := fun b o e hx hb => by
    rcases (hch b hb).1 with z | z
    · exact hx z
    · exact absurd (Nat.lt_of_lt_of_le (Heap.lt_size e) z) (Nat.lt_irrefl _)
  have cellK : ∀ x c, X.env.cells.lookup x = some c → ∀ v, s.heap.IsCell c v → h'.IsCell c v := fun x c e v ⟨o, ho, hd⟩ => by
    have nch : c ∉ ch := fun z => (hch c z).2.2.1 x c e rfl
    by_cases hc : c ∈ X.fs
    · obtain ⟨sl, q⟩ := slot c o (I.cne x c e) hc nch ho (I.freeC x c e)
      exact ⟨_, q, hd⟩
    · exact ⟨o, keep c o (I.cne x c e) hc nch ho (I.freeC x c e), hd⟩
  refine ⟨I.ok, I.os, hg, ⟨fun b o e n hb hx => ?_, fun b o e n hb hx => ?_, fun b o e n hx => ?_, fun b o e hx => ?_, fun b xs e => tups b xs (I.base.tups b xs e), fun b o xs e => frzs b o xs (I.base.frzs b o xs e), fun b ps e => ?_⟩, ?_, fun x c e => ?_, ?_, fun x c e => ?_, fun p hp => ?_, hok, I.len⟩
  · exact keep b o (neL b o e) hb (neC b o e hx) (I.base.keep b o e n hb hx) (I.base.free b o e n hx)
  · obtain ⟨sl, e1⟩ := I.base.slot b o e n hb hx
    obtain ⟨sl', e2⟩ := slot b _ (neL b o e) hb (neC b o e hx) e1 (I.base.free b o e n hx)
    exact ⟨sl', e2⟩
  · obtain ⟨o', e1⟩ := I.base.there b o e hx
    exact free b o' (neC b o e hx) e1 (I.base.free b o e n hx)
  · obtain ⟨o', e1⟩ := I.base.there b o e hx
    exact there b o' (neC b o e hx) e1
  · obtain ⟨m1, e1⟩ := I.base.tbls b ps e
    obtain ⟨m2, e2⟩ := tbls b _ e1
    exact ⟨m1 ++ m2, by rw [e2, Array.append_assoc]⟩
  · obtain ⟨m, hn, hl⟩ := I.loc
    refine ⟨m, ns m hn, fun i x v e1 e2 e3 => ?_⟩
    obtain ⟨u, r, l⟩ := hl i x v e1 e2 e3
    refine ⟨u, r, ?_⟩
    rcases l with l | ⟨k, c, e, z⟩
    · exact .inl l
    · exact .inr ⟨k, c, e, cellK x c e _ z⟩
  · obtain ⟨v, z⟩ := I.cell x c e
    exact ⟨v, cellK x c e v z⟩
  · obtain ⟨m, ⟨o, _, _, ho, _⟩, _⟩ := I.loc
    exact free _ o (fun z => (hch _ z).2.1 rfl) ho I.free
  · obtain ⟨v, o, ho, hd⟩ := I.cell x c e
    exact free c o (fun z => (hch c z).2.2.1 x c e rfl) ho (I.freeC x c e)
  · obtain ⟨e, n, ne, nf, d⟩ := I.pin p hp
    have nch : p.1 ∉ ch := fun z => (hch p.1 z).2.2.2 p hp rfl
    exact ⟨keep p.1 p.2 ne nf nch e n, free p.1 p.2 nch e n, ne, nf, d⟩
/-- .. where the frame's own object is kept too -/
theorem Inv.un {t' : Nat} (I : Inv X pins σ H s) (u : Un X.fs [] H H' s.heap h') (hok : HOk X.prog X.w H' h') : Inv X pins σ H' { s with heap := h', toks := t' } := by
  obtain ⟨m, ⟨o, es, ep, ho, r⟩, _⟩ := id I.loc
  obtain ⟨sl, hL⟩ := u.any ho I.free (by simp)
  exact I.step (g' := s.gens) (d' := s.drawn) (ch := []) (fun _ z => nomatch z) (fun b o _ hb _ e n => u.keep b o e n hb (by simp)) (fun b o _ hb _ e n => u.slot b o e n hb (by simp)) (fun b o _ e n => u.free b o e n (by simp)) (fun b o _ e => u.there b o e (by simp)) u.tups u.frzs u.tbls (fun m' hm => by
    obtain ⟨o', es', ep', ho', r'⟩ := hm
    rw [ho] at ho'; cases ho'
    exact ⟨_, es', ep', hL, r'⟩) hok I.bare
/-- behind a call (or a comprehension's block): the slots of this frame may have changed too, the records at ch may have turned -/
theorem Inv.call {g' : Array GenState} {t' : Nat} {d' : Drawn} {ch : List Addr} (I : Inv X pins σ H s) (u : Un (frs X.stack) ch H H' s.heap h') (hok : HOk X.prog X.w H' h') (hg : AllBare g')
    (hch : ∀ b ∈ ch, (b ∈ X.ex ∨ X.s₀.heap.objs.size ≤ b) ∧ b ≠ X.env.locals ∧ (∀ x c, X.env.cells.lookup x = some c → c ≠ b) ∧ ∀ p ∈ X.pn ++ pins, p.1 ≠ b) :
    Inv X pins σ H' { s with heap := h', gens := g', drawn := d', toks := t' } := by
  obtain ⟨m, ⟨o, es, ep, ho, r⟩, _⟩ := id I.loc
  obtain ⟨sl, hL⟩ := u.any ho I.free fun z => (hch _ z).2.1 rfl
  exact I.step (ch := ch) hch (fun b o hL hb hc e n => u.keep b o e n (fun z => (List.mem_cons.mp (I.stkSub b z)).elim hL hb) hc) (fun b o _ _ hc e n => u.any e n hc) (fun b o hc e n => u.free b o e n hc) (fun b o hc e => u.there b o e hc) u.tups u.frzs u.tbls (fun m' hm => by
    obtain ⟨o', es', ep', ho', r'⟩ := hm
    rw [ho] at ho'; cases ho'
    exact ⟨_, es', ep', hL, r'⟩) hok hg
/-- an untracked record of ours (an iterator) has turned -/
theorem Inv.turned {t' : Nat} {it : Addr} (I : Inv X pins σ H s) (k : ∀ b o, b ≠ it → s.heap.get? b = some o → h'.get? b = some o) (hn : H it = none) (hL : it ≠ X.env.locals)
    (h1 : it ∈ X.ex ∨ X.s₀.heap.objs.size ≤ it) (h2 : ∀ x c, X.env.cells.lookup x = some c → c ≠ it) (h3 : ∀ p ∈ X.pn ++ pins, p.1 ≠ it) : Inv X pins σ H { s with heap := h', toks := t' } := by
  have nit : ∀ b u, H b = some u → b ≠ it := fun b u e z => by rw [z, hn] at e; cases e
  refine I.step (g' := s.gens) (d' := s.drawn) (ch := [it]) (fun b hb => ?_) (fun b o _ _ hc e _ => k b o (fun z => hc (by simp [z])) e) (fun b o _ _ hc e _ => ⟨o.slots, k b o (fun z => hc (by simp [z])) e⟩) (fun _ _ _ _ n => n)
    (fun b o hc e => ⟨o, k b o (fun z => hc (by simp [z])) e⟩) (fun _ _ e => e) (fun _ _ _ e => e) (fun b ps e => ⟨#[], by rw [e]; simp⟩) (fun m hm => ?_) (fun b u e => ?_) I.bare
  · have e : b = it := by simpa using hb
    subst e
    exact ⟨h1, hL, h2, h3⟩
  · obtain ⟨o, es, ep, ho, r⟩ := hm
    exact ⟨o, es, ep, k _ o (Ne.symm hL) ho, r⟩
  · refine (I.hok b u e).stay (fun c v hc q => k c v ?_ q) (fun _ q => q) fun _ _ q => q
    rcases hc with z | z
    · rw [z]; exact nit b u e
    · exact nit c _ z
theorem Inv.tok (I : Inv X pins σ H s) (t : Nat) : Inv X pins σ H { s with toks := t } := I.un (h' := s.heap) (t' := t) Un.refl I.hok
/-- all objects kept -/
theorem Inv.kept {t' : Nat} (I : Inv X pins σ H s) (k : ∀ b u, s.heap.get? b = some u → h'.get? b = some u) : Inv X pins σ H { s with heap := h', toks := t' } := I.un (Un.kept k) (I.hok.kept k)
/-- a new object laid and tracked -/
theorem Inv.laid {a : Addr} {o : HO} {t' : Nat} (I : Inv X pins σ H s) (k : ∀ b u, s.heap.get? b = some u → h'.get? b = some u) (hp : s.heap.objs.size ≤ a) (new : ObjOk X.prog X.w (upd H a o) h' a o) :
    Inv X pins σ (upd H a o) { s with heap := h', toks := t' } := I.un (Un.laid k hp (I.hok.fresh hp)) (I.hok.laid k hp new)
/-- an object written -/
theorem Inv.write {x e : Addr} {o : HO} {t' : Nat} (I : Inv X pins σ H s) (mu : Mut (H x)) (he : e = x ∨ H e = some (.own x)) (k : ∀ b u, b ≠ e → s.heap.get? b = some u → h'.get? b = some u) (heo : ∃ u, h'.get? e = some u)
    (new : ObjOk X.prog X.w (upd H x o) h' x o) : Inv X pins σ (upd H x o) { s with heap := h', toks := t' } := I.un (Un.write mu he k heo) (I.hok.write mu he k heo new)
theorem Inv.pins_of {pins' : List (Addr × Obj)} (I : Inv X pins σ H s) (h : ∀ p ∈ pins', s.heap.get? p.1 = some p.2 ∧ H p.1 = none ∧ p.1 ≠ X.env.locals ∧ p.1 ∉ X.fs ∧ ∀ v, p.2.data ≠ .cell v) : Inv X pins' σ H s :=
  ⟨I.ok, I.os, I.bare, I.base, I.loc, I.cell, I.free, I.freeC, fun p hp => (List.mem_append.mp hp).elim (fun z => I.pin p (List.mem_append_left _ z)) (h p), I.hok, I.len⟩

theorem nodup_ix {N : List Str} (hN : N.Nodup) {i j : Nat} {x : Str} (a : N[i]? = some x) (b : N[j]? = some x) : i = j := by
  obtain ⟨h1, e1⟩ := List.getElem?_eq_some_iff.mp a
  obtain ⟨h2, e2⟩ := List.getElem?_eq_some_iff.mp b
  exact (List.getElem_inj hN).mp (e1.trans e2.symm)

/-- a name is stored; what changed -/
theorem store_ok2 {M : Model} {A : Around} {E : Value → Shared → Prop} {i : Nat} {x : Str} {v : V} {u : Value} {Q : Unit → Shared → Prop} (I : Inv X pins σ H s) (hN : X.N.Nodup) (hi : X.N[i]? = some x) (hx : Loc X.env.scope x) (r : RelV v u)
    (h : ∀ s', Inv X pins (σ.set i (some v)) H s' → (∃ a, Heap.SameBut a s.heap s'.heap ∧ (a = X.env.locals ∨ X.env.cells.lookup x = some a)) → Q () s') (hf : X.fn x = true ∨ X.env.scope.names.lookup x = some .local := by first | exact .inl rfl | exact .inr rfl | assumption) : wpAny M A (storeName X.env x u) Q E s := by
  obtain ⟨m, hn, hl⟩ := id I.loc
  have hcls : (X.env.scope.kind == .class || (X.env.scope.kind == .module && X.env.locals != X.env.globals)) = false := by rw [I.ok.kind]; rfl
  have hiσ : i < σ.length := by rw [I.len]; exact (List.getElem?_eq_some_iff.mp hi).1
  have cne := I.cne
  have tracked : ∀ {a : Addr} {h' : Heap}, (∃ o, s.heap.get? a = some o ∧ H a = none) → Heap.SameBut a s.heap h' → HOk X.prog X.w H h' := fun {a h'} ha hs b ob e => by
    obtain ⟨_, _, hfree⟩ := ha
    refine (I.hok b ob e).stay (fun c w' hc q => (hs.2 c ?_).trans q) (fun _ q => q) fun _ _ q => q
    rintro rfl
    rcases hc with rfl | hc
    · rw [hfree] at e; cases e
    · rw [hfree] at hc; cases hc
  rcases hx with hk | hk
  · refine wpAny_storeName_local hk hn (fun h' hn' hs => ?_) hcls
    obtain ⟨oL, _, _, hoL, _⟩ := id hn
    refine h _ ⟨I.ok, I.os, I.bare, ⟨fun b o e n hb hx => ?_, fun b o e n hb hx => ?_, I.base.free, fun b o e hx => ?_, I.base.tups, I.base.frzs, I.base.tbls⟩, ⟨_, hn', fun j y v' e1 e2 e3 => ?_⟩, fun y c e => ?_, I.free, I.freeC, fun p hp => ?_, tracked ⟨oL, hoL, I.free⟩ hs, by simpa using I.len⟩ ⟨_, hs, .inl rfl⟩
    · exact (hs.2 b (Nat.ne_of_lt (Nat.lt_of_lt_of_le (Heap.lt_size e) I.ok.above))).trans (I.base.keep b o e n hb hx)
    · obtain ⟨sl, e1⟩ := I.base.slot b o e n hb hx
      exact ⟨sl, (hs.2 b (Nat.ne_of_lt (Nat.lt_of_lt_of_le (Heap.lt_size e) I.ok.above))).trans e1⟩
    · obtain ⟨o', e1⟩ := I.base.there b o e hx
      exact ⟨o', (hs.2 b (Nat.ne_of_lt (Nat.lt_of_lt_of_le (Heap.lt_size e) I.ok.above))).trans e1⟩
    · by_cases hj : j = i
      · subst hj
        rw [hi] at e1; cases e1
        rw [List.getElem?_set_self hiσ] at e2
        cases e2
        exact ⟨u, r, .inl ⟨hk, by simp⟩⟩
      · rw [List.getElem?_set_ne (Ne.symm hj)] at e2
        obtain ⟨u', r', q⟩ := hl j y v' e1 e2 e3
        refine ⟨u', r', ?_⟩
        rcases q with ⟨k, e⟩ | ⟨k, c, e, z⟩
        · refine .inl ⟨k, ?_⟩
          have : y ≠ x := fun e => hj (nodup_ix hN e1 (e ▸ hi))
          simp [this, e]
        · exact .inr ⟨k, c, e, z.sameBut hs (cne y c e)⟩
    · obtain ⟨w', z⟩ := I.cell y c e
      exact ⟨w', z.sameBut hs (cne y c e)⟩
    · obtain ⟨e, n, ne, nf, d⟩ := I.pin p hp
      exact ⟨(hs.2 p.1 ne).trans e, n, ne, nf, d⟩
  · have hfn : X.fn x = true := by
      rcases hf with z | z
      · exact z
      · rw [z] at hk; cases hk
    obtain ⟨c, hc⟩ := I.ok.has x (.inl hk)
    obtain ⟨w', z⟩ := I.cell x c hc
    refine wpAny_storeName_cell I.ok.kind hk hc z (fun h' hc' hs => ?_)
    obtain ⟨oc, hoc, hocd⟩ := id z
    refine h { s with heap := h' } ⟨I.ok, I.os, I.bare, ⟨fun b o e n hb hx => ?_, fun b o e n hb hx => ?_, I.base.free, fun b o e hx => ?_, I.base.tups, I.base.frzs, I.base.tbls⟩, ⟨m, hn.sameBut hs (Ne.symm (cne x c hc)), fun j y v' e1 e2 e3 => ?_⟩, fun y c' e => ?_, I.free, I.freeC, fun p hp => ?_, tracked ⟨oc, hoc, I.freeC x c hc⟩ hs, by simpa using I.len⟩ ⟨c, hs, .inr hc⟩
    · exact (hs.2 b (Nat.ne_of_lt (Nat.lt_of_lt_of_le (Heap.lt_size e) (I.ok.cab x c hfn hc)))).trans (I.base.keep b o e n hb hx)
    · obtain ⟨sl, e1⟩ := I.base.slot b o e n hb hx
      exact ⟨sl, (hs.2 b (Nat.ne_of_lt (Nat.lt_of_lt_of_le (Heap.lt_size e) (I.ok.cab x c hfn hc)))).trans e1⟩
    · obtain ⟨o', e1⟩ := I.base.there b o e hx
      exact ⟨o', (hs.2 b (Nat.ne_of_lt (Nat.lt_of_lt_of_le (Heap.lt_size e) (I.ok.cab x c hfn hc)))).trans e1⟩
    · by_cases hj : j = i
      · subst hj
        rw [hi] at e1; cases e1
        rw [List.getElem?_set_self hiσ] at e2
        cases e2
        exact ⟨u, r, .inr ⟨.inl hk, c, hc, hc'⟩⟩
      · rw [List.getElem?_set_ne (Ne.symm hj)] at e2
        obtain ⟨u', r', q⟩ := hl j y v' e1 e2 e3
        refine ⟨u', r', ?_⟩
        rcases q with q | ⟨k, c', e, z'⟩
        · exact .inl q
        · refine .inr ⟨k, c', e, z'.sameBut hs ?_⟩
          rintro rfl
          exact hj (nodup_ix hN e1 (I.ok.inj _ _ _ e hc ▸ hi))
    · by_cases hcc : c' = c
      · subst hcc; exact ⟨_, hc'⟩
      · obtain ⟨w2, z2⟩ := I.cell y c' e
        exact ⟨w2, z2.sameBut hs hcc⟩
    · obtain ⟨e, n, ne, nf, d⟩ := I.pin p hp
      refine ⟨(hs.2 p.1 ?_).trans e, n, ne, nf, d⟩
      intro q
      rw [q, hoc] at e
      have q' : oc = p.2 := Option.some.inj e
      exact d w' (by rw [← q']; exact hocd)
theorem store_ok {M : Model} {A : Around} {E : Value → Shared → Prop} {i : Nat} {x : Str} {v : V} {u : Value} {Q : Unit → Shared → Prop} (I : Inv X pins σ H s) (hN : X.N.Nodup) (hi : X.N[i]? = some x) (hx : Loc X.env.scope x) (r : RelV v u)
    (h : ∀ s', Inv X pins (σ.set i (some v)) H s' → Q () s') (hf : X.fn x = true ∨ X.env.scope.names.lookup x = some .local := by first | exact .inl rfl | exact .inr rfl | assumption) : wpAny M A (storeName X.env x u) Q E s :=
  store_ok2 I hN hi hx r (fun s' I' _ => h s' I') hf
end

/-! ### the judgements -/
/-- an exception: its class, its own dict's address (where it has one), the abstract heap behind it -/
abbrev XK := Value → Option Addr → Hp → Prop
abbrev St := List (Option V)
abbrev VK := V → Hp → Prop
/-- an expression's reading; a test's; an argument list's -/
abbrev TE := St → Hp → VK → Prop
abbrev TT := St → Hp → (Bool → Hp → Prop) → Prop
abbrev TA := St → Hp → (List V → Hp → Prop) → Prop
/-- what is wanted behind a statement -/
structure Ends where
  nx : St → Hp → Prop
  rt : VK
  bk : St → Hp → Prop := fun _ _ => False
  ct : St → Hp → Prop := fun _ _ => False
abbrev TS := Ends → St → Hp → Prop

def EP (X : Cx) (pins : List (Addr × Obj)) (σ : St) (Q : VK) (u : Value) (s' : Shared) : Prop := ∃ v H', Inv X pins σ H' s' ∧ RelV v u ∧ Q v H'
def TP (X : Cx) (pins : List (Addr × Obj)) (σ : St) (Q : Bool → Hp → Prop) (b : Bool) (s' : Shared) : Prop := ∃ H', Inv X pins σ H' s' ∧ Q b H'
def AP (X : Cx) (pins : List (Addr × Obj)) (σ : St) (Q : List V → Hp → Prop) (us : List Value) (s' : Shared) : Prop := ∃ vs H', Inv X pins σ H' s' ∧ Vals vs us ∧ Q vs H'
def SP (X : Cx) (pins : List (Addr × Obj)) (D : Ends) (f : Flow) (s' : Shared) : Prop :=
  match f with
  | .next => ∃ σ' H', Inv X pins σ' H' s' ∧ D.nx σ' H'
  | .brk => ∃ σ' H', Inv X pins σ' H' s' ∧ D.bk σ' H'
  | .cont => ∃ σ' H', Inv X pins σ' H' s' ∧ D.ct σ' H'
  | .ret u => ∃ v σ' H', Inv X pins σ' H' s' ∧ RelV v u ∧ D.rt v H'

def PE (X : Cx) (e : Expr) (t : TE) : Prop :=
  ∀ (pins : List (Addr × Obj)) (s : Shared) (σ : St) (H : Hp) (Q : VK), Inv X pins σ H s → t σ H Q → wpAny (model X.prog X.w) X.A (eval e X.env) (EP X pins σ Q) X.xe s
def PT (X : Cx) (e : Expr) (t : TT) : Prop :=
  ∀ (pins : List (Addr × Obj)) (s : Shared) (σ : St) (H : Hp) (Q : Bool → Hp → Prop), Inv X pins σ H s → t σ H Q → wpAny (model X.prog X.w) X.A (isTrue e X.env (eval e X.env)) (TP X pins σ Q) X.xe s
/-- a test whatever its 'whole' is (and, or) -/
def PW (X : Cx) (e : Expr) (t : TT) : Prop :=
  ∀ (whole : Sem Value) (pins : List (Addr × Obj)) (s : Shared) (σ : St) (H : Hp) (Q : Bool → Hp → Prop), Inv X pins σ H s → t σ H Q → wpAny (model X.prog X.w) X.A (isTrue e X.env whole) (TP X pins σ Q) X.xe s
theorem PW.pt {X : Cx} {e : Expr} {t : TT} (h : PW X e t) : PT X e t := h _
/-- an argument list (no star), from the left -/
def PA (X : Cx) (es : List Expr) (t : TA) : Prop :=
  ∀ (pos : Pos) (pins : List (Addr × Obj)) (s : Shared) (σ : St) (H : Hp) (Q : List V → Hp → Prop), Inv X pins σ H s → t σ H Q → wpAny (model X.prog X.w) X.A (spliced (backTo pos (starEach es X.env))) (AP X pins σ Q) X.xe s
def PS (X : Cx) (st : Stmt) (t : TS) : Prop :=
  ∀ (pins : List (Addr × Obj)) (s : Shared) (σ : St) (H : Hp) (D : Ends), Inv X pins σ H s → t D σ H → wpAny (model X.prog X.w) X.A (exec st X.env) (SP X pins D) X.xe s
def PSs (X : Cx) (st : List Stmt) (t : TS) : Prop :=
  ∀ (pins : List (Addr × Obj)) (s : Shared) (σ : St) (H : Hp) (D : Ends), Inv X pins σ H s → t D σ H → wpAny (model X.prog X.w) X.A (execs st X.env) (SP X pins D) X.xe s
/-- weaken the end -/
theorem thn {α : Type} {t : Sem α} {Q Q' : α → Shared → Prop} {M : Model} {A : Around} {E : Value → Shared → Prop} {s : Shared} (h : wpAny M A t Q E s) (hQ : ∀ a s, Q a s → Q' a s) : wpAny M A t Q' E s := wpAny_mono h hQ fun _ _ x => x
end L2

namespace L2
open PySem PySem.Spec PyProof.Rows
section
variable {X : Cx}

/-! ### names and constants -/
def tVar (i : Nat) : TE := fun σ H Q => ∃ v, σ[i]? = some (some v) ∧ Q v H
def tC (v : V) : TE := fun _ H Q => Q v H
theorem pe_var {i : Nat} {x : Str} {pos : Pos} (hN : X.N[i]? = some x) (hv : Vis X.env.scope x) (hd : (x == ("__debug__" : Str)) = false := by decide) (hcd : (x == ("__classdict__" : Str)) = false := by decide) : PE X (.Name x pos) (tVar i) := by
  intro pins s σ H Q I h
  obtain ⟨v, e, h⟩ := h
  obtain ⟨m, hn, hl⟩ := I.loc
  obtain ⟨u, r, l⟩ := hl i x v hN e hv
  have fin : EP X pins σ Q u s := ⟨v, H, I, r, h⟩
  rcases l with ⟨hk, hm⟩ | ⟨hk, c, hc, hcell⟩
  · exact wpAny_Name (wpAny_loadName_local I.ok.kind hk hn hm fin) hd
  · rcases hk with hk | hk
    · exact wpAny_Name (wpAny_loadName_cell I.ok.kind hk hc hcell fin) hd
    · exact wpAny_Name (wpAny_loadName_free I.ok.kind hk hc hcell fin hcd) hd
theorem pe_int {i j pos} : PE X (.Constant (.int i) j pos) (tC (.int i)) := fun _ _ _ H _ I h => wpAny_Constant_int ⟨.int i, H, I.tok _, ⟨_, rfl⟩, h⟩
theorem pe_bl {b j pos} : PE X (.Constant (.bool b) j pos) (tC (.bl b)) := fun _ _ _ H _ I h => Constant_bool ⟨.bl b, H, I, rfl, h⟩
theorem pe_non {j pos} : PE X (.Constant .none j pos) (tC .non) := fun _ _ _ H _ I h => Constant_none ⟨.non, H, I, rfl, h⟩
theorem pe_str {x j pos} : PE X (.Constant (.str x) j pos) (tC (.str x)) := fun _ _ _ H _ I h => Calls.Constant_str ⟨.str x, H, I.tok _, ⟨_, rfl⟩, h⟩

/-- a global name of the def -/
def Gl (X : Cx) (x : Str) : Prop := X.env.kindOf x = some .globalImplicit
theorem ld_glob {E : Value → Shared → Prop} {pins : List (Addr × Obj)} {s : Shared} {σ : St} {H : Hp} {x : Str} {u : Value} {pos : Pos} {Q : Value → Shared → Prop} (I : Inv X pins σ H s) (hg : Gl X x) (hm : X.mg x = some u) (h : Q u s)
    (hd : (x == ("__debug__" : Str)) = false := by decide) : wpAny (model X.prog X.w) X.A (eval (.Name x pos) X.env) Q E s :=
  Calls.Name_function_global I.ok.kind hg (Calls.loadGlobal_global (by rw [I.ok.glob]; exact I.mod.glob.keeps I.bk) hm h) hd
theorem ld_blt {E : Value → Shared → Prop} {pins : List (Addr × Obj)} {s : Shared} {σ : St} {H : Hp} {x : Str} {u : Value} {pos : Pos} {Q : Value → Shared → Prop} (I : Inv X pins σ H s) (hg : Gl X x) (hm : X.mg x = none) (hv : bootBuiltins x = some u) (h : Q u s)
    (hn : x ≠ "__name__" := by decide) (hd : (x == ("__debug__" : Str)) = false := by decide) : wpAny (model X.prog X.w) X.A (eval (.Name x pos) X.env) Q E s := by
  obtain ⟨mb, h1, h2⟩ := I.mod.blt
  exact Calls.Name_function_global I.ok.kind hg (Calls.loadGlobal_builtin (by rw [I.ok.glob]; exact I.mod.glob.keeps I.bk) hm (by rw [I.ok.blt]; exact h1.keeps I.bk) ((h2 x hn).trans hv) h) hd
/-- a module's constant, a class, a function, as a value -/
theorem pe_glob {x : Str} {v : V} {u : Value} {pos : Pos} (hg : Gl X x) (hm : X.mg x = some u) (r : RelV v u) (hd : (x == ("__debug__" : Str)) = false := by decide) : PE X (.Name x pos) (tC v) :=
  fun _ _ _ H _ I h => ld_glob I hg hm ⟨v, H, I, r, h⟩ hd
theorem pe_bltn {x : Str} {v : V} {u : Value} {pos : Pos} (hg : Gl X x) (hm : X.mg x = none) (hv : bootBuiltins x = some u) (r : RelV v u) (hn : x ≠ "__name__" := by decide) (hd : (x == ("__debug__" : Str)) = false := by decide) : PE X (.Name x pos) (tC v) :=
  fun _ _ _ H _ I h => ld_blt I hg hm hv ⟨v, H, I, r, h⟩ hn hd

/-! ### arithmetic -/
/-- two ints -/
def t2I (ta tb : TE) (k : Int → Int → Hp → Prop) : St → Hp → Prop := fun σ H => ta σ H fun x H1 => tb σ H1 fun y H2 => ∃ i j, x = .int i ∧ y = .int j ∧ k i j H2
def tAdd (ta tb : TE) : TE := fun σ H Q => t2I ta tb (fun i j H2 => Q (.int (i + j)) H2) σ H
def tSub (ta tb : TE) : TE := fun σ H Q => t2I ta tb (fun i j H2 => Q (.int (i - j)) H2) σ H
/-- the left factor below 2^64 -/
def tMul (ta tb : TE) : TE := fun σ H Q => t2I ta tb (fun i j H2 => (-(2 ^ 64) < i ∧ i < 2 ^ 64) ∧ Q (.int (i * j)) H2) σ H
variable {a b : Expr} {ta tb : TE} {pos : Pos}
/-! ### comparisons -/
def PC (X : Cx) (op : CmpOp) (a b : Expr) (t : TE) : Prop :=
  ∀ (pins : List (Addr × Obj)) (s : Shared) (σ : St) (H : Hp) (Q : VK), Inv X pins σ H s → t σ H Q →
    wpAny (model X.prog X.w) X.A (eval a X.env) (fun v s₁ => wpAny (model X.prog X.w) X.A (eval b X.env) (fun u s₂ => wpAny (model X.prog X.w) X.A (compareOp op v u) (EP X pins σ Q) X.xe s₂) X.xe s₁) X.xe s
def tCmp (p : Int → Int → Bool) (ta tb : TE) : TE := fun σ H Q => t2I ta tb (fun i j H2 => Q (.bl (p i j)) H2) σ H
abbrev tLt : TE → TE → TE := tCmp fun i j => decide (i < j)
abbrev tLe : TE → TE → TE := tCmp fun i j => decide (i ≤ j)
abbrev tGt : TE → TE → TE := tCmp fun i j => decide (j < i)
abbrev tGe : TE → TE → TE := tCmp fun i j => decide (j ≤ i)
abbrev tEqI : TE → TE → TE := tCmp fun i j => decide (i = j)
abbrev tNeI : TE → TE → TE := tCmp fun i j => !decide (i = j)
/-- is None -/
def tIsN (ta : TE) : TE := fun σ H Q => ta σ H fun x H1 => Q (.bl (decide (x = .non))) H1
def tNotN (ta : TE) : TE := fun σ H Q => ta σ H fun x H1 => Q (.bl (!decide (x = .non))) H1
/-- a comparison as a value, as a test -/
def tB (t : TE) : TT := fun σ H Q => t σ H fun x H1 => ∃ c, x = .bl c ∧ Q c H1
/-- an expression whose value is a bool, as a test -/
theorem pt_val {e : Expr} {t : TE} (h : PE X e t) (he : ∀ whole, isTrue e X.env whole = (do let v ← whole; standAt e.pos; holding [v] (truthy v)) := by intro _; rfl) : PT X e (tB t) := by
  intro pins s σ H Q I hw
  refine isTrue_plain (thn (h pins s σ H _ I hw) fun v s1 ⟨x, H1, I1, r1, q1⟩ => ?_) (he _)
  obtain ⟨d, rfl, q⟩ := q1
  cases r1
  exact wpAny_truthy_bool ⟨H1, I1, q⟩

/-! ### and, or, not -/
variable {tA tB' : TT} {rest : List Expr}
def tAnd (t u : TT) : TT := fun σ H Q => t σ H fun c H1 => if c = true then u σ H1 Q else Q false H1
def tOr (t u : TT) : TT := fun σ H Q => t σ H fun c H1 => if c = true then Q true H1 else u σ H1 Q
def tNot (t : TT) : TT := fun σ H Q => t σ H fun c H1 => Q (!c) H1
theorem pw_and1 (ha : PT X a tA) : PW X (.BoolOp .And [a] pos) tA := by
  intro wh pins s σ H Q I h
  refine isTrue_and (thn (ha pins s σ H Q I h) fun c s1 e => ?_)
  cases c with
  | true => exact isTrue_and_nil e
  | false => exact e
theorem pw_or1 (ha : PT X a tA) : PW X (.BoolOp .Or [a] pos) tA := by
  intro wh pins s σ H Q I h
  refine isTrue_or (thn (ha pins s σ H Q I h) fun c s1 e => ?_)
  cases c with
  | false => exact isTrue_or_nil e
  | true => exact e
theorem pw_and (ha : PT X a tA) (hb : PW X (.BoolOp .And (b :: rest) pos) tB') : PW X (.BoolOp .And (a :: b :: rest) pos) (tAnd tA tB') := by
  intro wh pins s σ H Q I h
  refine isTrue_and (thn (ha pins s σ H _ I h) fun c s1 ⟨H1, I1, q1⟩ => ?_)
  cases c with
  | true => exact hb wh pins s1 σ H1 Q I1 q1
  | false => exact ⟨H1, I1, q1⟩
theorem pw_or (ha : PT X a tA) (hb : PW X (.BoolOp .Or (b :: rest) pos) tB') : PW X (.BoolOp .Or (a :: b :: rest) pos) (tOr tA tB') := by
  intro wh pins s σ H Q I h
  refine isTrue_or (thn (ha pins s σ H _ I h) fun c s1 ⟨H1, I1, q1⟩ => ?_)
  cases c with
  | true => exact ⟨H1, I1, q1⟩
  | false => exact hb wh pins s1 σ H1 Q I1 q1
theorem pt_not (ha : PT X a tA) : PT X (.UnaryOp .Not a pos) (tNot tA) := by
  intro pins s σ H Q I h
  exact isTrue_not (ha pins s σ H (fun c H1 => Q (!c) H1) I h)
/-- .. as values (bools) -/
def tAndV (ta tb : TE) : TE := fun σ H Q => ta σ H fun x H1 => ∃ c, x = .bl c ∧ if c = true then tb σ H1 Q else Q (.bl false) H1
def tOrV (ta tb : TE) : TE := fun σ H Q => ta σ H fun x H1 => ∃ c, x = .bl c ∧ if c = true then Q (.bl true) H1 else tb σ H1 Q
def tNotV (ta : TE) : TE := fun σ H Q => ta σ H fun x H1 => ∃ c, x = .bl c ∧ Q (.bl (!c)) H1
theorem pe_one {op} {t : TE} (h : PE X a t) : PE X (.BoolOp op [a] pos) t := fun pins s σ H Q I hw => BoolOp_one (h pins s σ H Q I hw)
theorem pe_and (ha : PE X a ta) (hb : PE X (.BoolOp .And (b :: rest) pos) tb) : PE X (.BoolOp .And (a :: b :: rest) pos) (tAndV ta tb) := by
  intro pins s σ H Q I h
  refine BoolOp_and (thn (ha pins s σ H _ I h) fun v s1 ⟨x, H1, I1, r1, q1⟩ => ?_)
  obtain ⟨c, rfl, q1⟩ := q1
  cases r1
  refine wpAny_truthy_bool ?_
  cases c with
  | true => exact hb pins s1 σ H1 Q I1 q1
  | false => exact ⟨.bl false, H1, I1, rfl, q1⟩
theorem pe_not (ha : PE X a ta) : PE X (.UnaryOp .Not a pos) (tNotV ta) := by
  intro pins s σ H Q I h
  refine UnaryOp_ (thn (ha pins s σ H _ I h) fun v s1 ⟨x, H1, I1, r1, q1⟩ => ?_)
  obtain ⟨c, rfl, q1⟩ := q1
  cases r1
  exact not_of (wpAny_truthy_bool ⟨.bl (!c), H1, I1, rfl, q1⟩)
/-- a if t else b -/
def tIf (t : TT) (ta tb : TE) : TE := fun σ H Q => t σ H fun c H1 => if c = true then ta σ H1 Q else tb σ H1 Q
end
end L2

namespace L2
open PySem PySem.Spec PyProof.Rows

/-! ### a list, a tuple that is read: tracked, frozen, or an object of the module -/
def SqL (K : PySem.W.Frag) (H : Hp) (a : Addr) (xs : List V) : Prop :=
  Rd H a (.lst xs) ∨
    ∃ (o : Obj) (its : Array Value) (n : Nat), K.lookup a = some o ∧ o.cls = .type "list" ∧ o.dict = none ∧ o.data = .seq its n ∧ its.size ≤ sizeLine ∧ Vals xs its.toList
def SqT (K : PySem.W.Frag) (H : Hp) (a : Addr) (xs : List V) : Prop :=
  Rd H a (.tup xs) ∨
    ∃ (o : Obj) (its : Array Value) (n : Nat), K.lookup a = some o ∧ o.cls = .type "tuple" ∧ o.data = .seq its n ∧ its.size ≤ sizeLine ∧ Vals xs its.toList
def absV : Value → Option V
  | .none => some .non
  | .bool b => some (.bl b)
  | .int i _ => some (.int i)
  | .str x _ => some (.str x)
  | .bytes b _ => some (.byt b)
  | .float b _ => some (.flt b)
  | .ref a => some (.ref a)
  | .type n => some (.ty n)
  | _ => none
theorem RelV.abs {x : V} {u : Value} (r : RelV x u) : absV u = some x := by
  cases x with
  | non => cases r; rfl
  | bl _ => cases r; rfl
  | int _ => obtain ⟨t, rfl⟩ := r; rfl
  | str _ => obtain ⟨t, rfl⟩ := r; rfl
  | byt _ => obtain ⟨t, rfl⟩ := r; rfl
  | flt _ => obtain ⟨t, rfl⟩ := r; rfl
  | ref _ => cases r; rfl
  | ty _ => cases r; rfl
theorem RelV.inj {x y : V} {u : Value} (r : RelV x u) (q : RelV y u) : x = y := Option.some.inj (r.abs.symm.trans q.abs)
theorem Vals.inj : ∀ {xs ys : List V} {us : List Value}, Vals xs us → Vals ys us → xs = ys
  | _, _, _, .nil, .nil => rfl
  | _, _, _, .cons r t, .cons r' t' => by rw [r.inj r', Vals.inj t t']
section
variable {X : Cx} {pins : List (Addr × Obj)} {σ : St} {H : Hp} {s : Shared} {a : Addr} {xs ys : List V}
theorem SqL.of {K : PySem.W.Frag} (h : H a = some (.lst xs)) : SqL K H a xs := .inl (.inl h)
theorem SqT.of {K : PySem.W.Frag} (h : H a = some (.tup xs)) : SqT K H a xs := .inl (.inl h)
theorem Inv.list (I : Inv X pins σ H s) (h : SqL X.K H a xs) : ∃ its : List Value, Vals xs its ∧ PlainL s.heap a its.toArray ∧ xs.length ≤ sizeLine := by
  rcases h with h | ⟨o, its, n, hk, hc, hd, hs, hz, r⟩
  · obtain ⟨z, its, n, r, e⟩ := h.ok I.hok
    exact ⟨its, r, ⟨_, n, e, rfl, rfl, rfl⟩, z⟩
  · refine ⟨its.toList, r, ⟨o, n, I.kIn a o hk, hc, hd, by simpa using hs⟩, ?_⟩
    have e := r.length
    simp only [Array.length_toList] at e
    omega
theorem Inv.tuple (I : Inv X pins σ H s) (h : SqT X.K H a xs) : ∃ its : List Value, Vals xs its ∧ IsTup s.heap a its.toArray ∧ xs.length ≤ sizeLine := by
  rcases h with h | ⟨o, its, n, hk, hc, hs, hz, r⟩
  · obtain ⟨z, its, r, p⟩ := h.ok I.hok
    exact ⟨its, r, p, z⟩
  · refine ⟨its.toList, r, ⟨o, I.kIn a o hk, hc, n, by simpa using hs⟩, ?_⟩
    have e := r.length
    simp only [Array.length_toList] at e
    omega
theorem Inv.list_inj (I : Inv X pins σ H s) (h : SqL X.K H a xs) (h' : SqL X.K H a ys) : xs = ys := by
  obtain ⟨its, r, ⟨o, n, e, _, _, d⟩, _⟩ := I.list h
  obtain ⟨its', r', ⟨o', n', e', _, _, d'⟩, _⟩ := I.list h'
  rw [e] at e'; cases e'
  rw [d] at d'
  injection d' with d1 _
  have : its = its' := by simpa using congrArg Array.toList d1
  subst this
  exact r.inj r'
theorem Inv.tuple_inj (I : Inv X pins σ H s) (h : SqT X.K H a xs) (h' : SqT X.K H a ys) : xs = ys := by
  obtain ⟨its, r, ⟨o, e, _, n, d⟩, _⟩ := I.tuple h
  obtain ⟨its', r', ⟨o', e', _, n', d'⟩, _⟩ := I.tuple h'
  rw [e] at e'; cases e'
  rw [d] at d'
  injection d' with d1 _
  have : its = its' := by simpa using congrArg Array.toList d1
  subst this
  exact r.inj r'
end

/-! ### another wish about exceptions -/
abbrev Cx.wish (X : Cx) (E : Value → Shared → Prop) : Cx := { X with xe := E }
/-- no exception leaves -/
abbrev Cx.nox (X : Cx) : Cx := X.wish fun _ _ => False
theorem Cx.Ok.wish {X : Cx} (ok : X.Ok) (E : Value → Shared → Prop) : (X.wish E).Ok :=
  ⟨ok.mod, ok.kind, ok.glob, ok.blt, ok.above, ok.inj, ok.has, ok.cab, ok.hd, ok.frames, ok.stk, ok.exf, ok.bs, ok.bsz, ok.noex, ok.exfs, ok.funs, ok.frf⟩
theorem Cx.Ok.unwish {X : Cx} {E : Value → Shared → Prop} (ok : (X.wish E).Ok) : X.Ok :=
  ⟨ok.mod, ok.kind, ok.glob, ok.blt, ok.above, ok.inj, ok.has, ok.cab, ok.hd, ok.frames, ok.stk, ok.exf, ok.bs, ok.bsz, ok.noex, ok.exfs, ok.funs, ok.frf⟩
section
variable {X : Cx} {pins : List (Addr × Obj)} {σ : St} {H : Hp} {s : Shared} {E : Value → Shared → Prop}
theorem Inv.wish (I : Inv X pins σ H s) (E : Value → Shared → Prop) : Inv (X.wish E) pins σ H s := ⟨I.ok.wish E, I.os, I.bare, I.base, I.loc, I.cell, I.free, I.freeC, I.pin, I.hok, I.len⟩
theorem Inv.unwish (I : Inv (X.wish E) pins σ H s) : Inv X pins σ H s := ⟨I.ok.unwish, I.os, I.bare, I.base, I.loc, I.cell, I.free, I.freeC, I.pin, I.hok, I.len⟩
theorem SP.unwish {D : Ends} {f : Flow} {s' : Shared} (h : SP (X.wish E) pins D f s') : SP X pins D f s' := by
  cases f with
  | next => obtain ⟨σ', H', I, q⟩ := h; exact ⟨σ', H', I.unwish, q⟩
  | brk => obtain ⟨σ', H', I, q⟩ := h; exact ⟨σ', H', I.unwish, q⟩
  | cont => obtain ⟨σ', H', I, q⟩ := h; exact ⟨σ', H', I.unwish, q⟩
  | ret u => obtain ⟨v, σ', H', I, r, q⟩ := h; exact ⟨v, σ', H', I.unwish, r, q⟩
theorem PSs.nox {st : List Stmt} {t : TS} (h : PSs X.nox st t) : PSs X st t := fun pins s σ H D I hw =>
  wpAny_mono (h pins s σ H D (I.wish _) hw) (fun _ _ q => q.unwish) fun _ _ z => False.elim z
end

/-! ### blocks and small statements -/
section
variable {X : Cx} {st : Stmt} {rest : List Stmt} {t u : TS} {e : Expr} {te : TE} {pos : Pos}
def tNext : TS := fun D σ H => D.nx σ H
def tSeq (t u : TS) : TS := fun D σ H => t { D with nx := u D } σ H
theorem pss_nil : PSs X [] tNext := fun _ _ σ H _ I h => wpAny_execs_nil ⟨σ, H, I, h⟩
theorem pss_cons (h1 : PS X st t) (h2 : PSs X rest u) : PSs X (st :: rest) (tSeq t u) := by
  intro pins s σ H D I h
  refine wpAny_execs_cons (thn (h1 pins s σ H { D with nx := u D } I h) fun f s1 q => ?_)
  cases f with
  | next =>
    obtain ⟨σ', H', I', q⟩ := q
    exact h2 pins s1 σ' H' D I' q
  | ret v => exact q
  | brk => exact q
  | cont => exact q
theorem pss_one (h1 : PS X st t) : PSs X [st] t := by
  intro pins s σ H D I h
  refine wpAny_execs_cons (thn (h1 pins s σ H D I h) fun f s1 q => ?_)
  cases f with
  | next => exact wpAny_execs_nil q
  | ret v => exact q
  | brk => exact q
  | cont => exact q
def tBreak : TS := fun D σ H => D.bk σ H
def tCont : TS := fun D σ H => D.ct σ H
/-- in a def's body nothing is shown -/
theorem Inv.quiet {pins : List (Addr × Obj)} {σ : St} {H : Hp} {s : Shared} (I : Inv X pins σ H s) : interactive X.env = false := by simp [interactive, I.ok.kind]
/-- an expression whose value is dropped -/
def tDrop (te : TE) : TS := fun D σ H => te σ H fun _ H1 => D.nx σ H1
theorem ps_expr (he : PE X e te) (hs : swapsWith e none pos.line X.env = pure false := by rfl) : PS X (.Expr e pos) (tDrop te) := by
  intro pins s σ H D I h
  exact wpAny_Expr_any (thn (he pins s σ H _ I h) fun v s1 ⟨x, H1, I1, r1, q1⟩ => ⟨σ, H1, I1, q1⟩) I.quiet hs
def tRet (te : TE) : TS := fun D σ H => te σ H D.rt
theorem ps_ret (he : PE X e te) : PS X (.Return (some e) pos) (tRet te) := by
  intro pins s σ H D I h
  exact wpAny_Return_some (thn (he pins s σ H _ I h) fun v s1 ⟨x, H1, I1, r1, q1⟩ => ⟨x, σ, H1, I1, r1, q1⟩)
def tRetN : TS := fun D _ H => D.rt .non H
def tIfS (c : TT) (t u : TS) : TS := fun D σ H => c σ H fun b H1 => if b = true then t D σ H1 else u D σ H1
theorem ps_if {c : Expr} {a b : List Stmt} {tc : TT} (hc : PT X c tc) (ha : PSs X a t) (hb : PSs X b u) : PS X (.If c a b pos) (tIfS tc t u) := by
  intro pins s σ H D I h
  refine wpAny_If (thn (hc pins s σ H _ I h) fun d s1 ⟨H1, I1, q1⟩ => ?_)
  cases d with
  | true => exact ha pins s1 σ H1 D I1 q1
  | false => exact hb pins s1 σ H1 D I1 q1
/-- code that the proof never comes to -/
def tNever : TS := fun _ _ _ => False
end

/-! ### targets -/
abbrev TG := V → St → Hp → (St → Hp → Prop) → Prop
abbrev TGs := List V → St → Hp → (St → Hp → Prop) → Prop
def PG (X : Cx) (target : Expr) (t : TG) : Prop :=
  ∀ (pins : List (Addr × Obj)) (s : Shared) (σ : St) (H : Hp) (v : V) (u : Value) (Q : St → Hp → Prop), Inv X pins σ H s → RelV v u → t v σ H Q →
    wpAny (model X.prog X.w) X.A (assign target X.env u) (fun _ s' => ∃ σ' H', Inv X pins σ' H' s' ∧ Q σ' H') X.xe s
/-- several targets, one after another -/
def PGs (X : Cx) (ts : List Expr) (t : TGs) : Prop :=
  ∀ (pins : List (Addr × Obj)) (s : Shared) (σ : St) (H : Hp) (vs : List V) (us : List Value) (Q : St → Hp → Prop), Inv X pins σ H s → Vals vs us → t vs σ H Q →
    wpAny (model X.prog X.w) X.A (assignInOrder ((assignEach ts X.env).map (·.2)) us) (fun _ s' => ∃ σ' H', Inv X pins σ' H' s' ∧ Q σ' H') X.xe s
/-- o[i] = v, by values -/
abbrev TSet := V → V → V → Hp → (Hp → Prop) → Prop
def PSet (X : Cx) (t : TSet) : Prop :=
  ∀ (pins : List (Addr × Obj)) (s : Shared) (σ : St) (H : Hp) (o i v : V) (ov iv u : Value) (Q : Hp → Prop), Inv X pins σ H s → RelV o ov → RelV i iv → RelV v u → t o i v H Q →
    wpAny (model X.prog X.w) X.A (setItem ov iv u) (fun _ s' => ∃ H', Inv X pins σ H' s' ∧ Q H') X.xe s
/-- a op= b, by values -/
abbrev TIp := V → V → Hp → VK → Prop
def PIp (X : Cx) (op : Operator) (t : TIp) : Prop :=
  ∀ (pins : List (Addr × Obj)) (s : Shared) (σ : St) (H : Hp) (x y : V) (v u : Value) (Q : VK), Inv X pins σ H s → RelV x v → RelV y u → t x y H Q →
    wpAny (model X.prog X.w) X.A (inplaceOp op v u) (EP X pins σ Q) X.xe s
section
variable {X : Cx} {pos : Pos}
def gName (i : Nat) : TG := fun v σ H Q => Q (σ.set i (some v)) H
theorem pg_name {i : Nat} {x : Str} (hN : X.N.Nodup) (hi : X.N[i]? = some x) (hx : Loc X.env.scope x) (hf : X.fn x = true ∨ X.env.scope.names.lookup x = some .local := by first | exact .inl rfl | exact .inr rfl | assumption) : PG X (.Name x pos) (gName i) := by
  intro pins s σ H v u Q I r h
  exact wpAny_assign_Name (store_ok I hN hi hx r (fun s' I' => ⟨_, H, I', h⟩) hf)
def gNil : TGs := fun vs σ H Q => vs = [] ∧ Q σ H
def gCons (t : TG) (u : TGs) : TGs := fun vs σ H Q => ∃ v r, vs = v :: r ∧ t v σ H fun σ' H' => u r σ' H' Q
theorem pgs_nil : PGs X [] gNil := by
  intro pins s σ H vs us Q I r h
  obtain ⟨e, h⟩ := h
  subst e
  cases r
  exact assignInOrder_nil ⟨σ, H, I, h⟩
theorem pgs_cons {e : Expr} {es : List Expr} {t : TG} {u : TGs} (h1 : PG X e t) (h2 : PGs X es u)
    (hs : (assignEach (e :: es) X.env).map (·.2) = assign e X.env :: (assignEach es X.env).map (·.2) := by rfl) : PGs X (e :: es) (gCons t u) := by
  intro pins s σ H vs us Q I r h
  obtain ⟨v, vr, e1, h⟩ := h
  subst e1
  cases r with
  | cons r rr =>
    rw [hs]
    refine assignInOrder_cons (thn (h1 pins s σ H _ _ _ I r h) fun _ s1 ⟨σ1, H1, I1, q1⟩ => ?_)
    exact h2 pins s1 σ1 H1 _ _ Q I1 rr q1
/-- (a, b, ..) = a tuple of that length -/
def gTup (K : PySem.W.Frag) (n : Nat) (t : TGs) : TG := fun v σ H Q => ∃ a xs, v = .ref a ∧ SqT K H a xs ∧ xs.length = n ∧ t xs σ H Q
theorem pg_tup {es : List Expr} {k : Nat} {t : TGs} {n : Nat} (hc : X.calm = true) (h : PGs X es t)
    (hn : (assignEach es X.env).length = n := by rfl) (hst : (assignEach es X.env).findIdx? (·.1) = none := by rfl) : PG X (.Tuple es k pos) (gTup X.K n t) := by
  intro pins s σ H v u Q I r hw
  obtain ⟨a, xs, e1, hq, hl, hw⟩ := hw
  subst e1
  cases r
  obtain ⟨its, rv, ht, hz⟩ := I.tuple hq
  refine assign_Tuple_tuple (I.ok.hd hc) ht (by simp [hn, ← hl, rv.length]) hst fun h' hx => ?_
  have I1 : Inv X pins σ H { s with heap := h' } := I.kept (t' := s.toks) fun b o e => hx b o (Nat.ne_of_lt (Heap.lt_size e)) e
  exact h pins _ σ H xs _ Q I1 (by simpa using rv) hw
/-- o[i] = .. -/
def gSub (to ti : TE) (t : TSet) : TG := fun v σ H Q => to σ H fun o H1 => ti σ H1 fun i H2 => t o i v H2 fun H3 => Q σ H3
theorem pg_sub {o i : Expr} {to ti : TE} {t : TSet} (ho : PE X o to) (hi : PE X i ti) (hs : PSet X t)
    (ha : ∀ v, assign (.Subscript o i pos) X.env v = (do
      let ov ← holding [v] (eval o X.env)
      let iv ← holding [v, ov] (eval i X.env)
      standAt pos
      holding [v, ov, iv] (setItem ov iv v)
      release [v, ov, iv] []) := by intro _; rfl) : PG X (.Subscript o i pos) (gSub to ti t) := by
  intro pins s σ H v u Q I r h
  rw [ha]
  refine wpAny_bind (wpAny_holding (thn (ho pins s σ H _ I h) fun ov s1 ⟨x, H1, I1, r1, q1⟩ => ?_))
  refine wpAny_bind (wpAny_holding (thn (hi pins s1 σ H1 _ I1 q1) fun iv s2 ⟨y, H2, I2, r2, q2⟩ => ?_))
  refine wpAny_bind (wpAny_standAt (wpAny_bind (wpAny_holding (thn (hs pins s2 σ H2 x y v ov iv u _ I2 r1 r2 r q2) fun _ s3 ⟨H3, I3, q3⟩ => ?_))))
  exact wpAny_release ⟨σ, H3, I3, q3⟩
/-- target = value -/
def tAsg (te : TE) (g : TG) : TS := fun D σ H => te σ H fun x H1 => g x σ H1 D.nx
theorem ps_asg {tg e : Expr} {te : TE} {g : TG} (he : PE X e te) (hg : PG X tg g) (hs : swapsWithSole [tg] e pos.line X.env = pure false := by rfl) (hw : swappedStores [tg] e X.env = pure none := by rfl)
    (h1 : (assignEach [tg] X.env).map (·.2) = [assign tg X.env] := by rfl) : PS X (.Assign [tg] e pos) (tAsg te g) := by
  intro pins s σ H D I h
  refine wpAny_Assign_stores (thn (he pins s σ H _ I h) fun v s1 ⟨x, H1, I1, r1, q1⟩ => ?_) hs hw
  rw [h1]
  exact thn (hg pins s1 σ H1 x v _ I1 r1 q1) fun _ s2 q => q
/-- name = value -/
theorem ps_set {i : Nat} {x : Str} {e : Expr} {te : TE} {pos' : Pos} (hN : X.N.Nodup) (hi : X.N[i]? = some x) (hx : Loc X.env.scope x) (he : PE X e te) (hs : swapsWith e (some (.Name x pos')) pos.line X.env = pure false := by rfl) (hf : X.fn x = true ∨ X.env.scope.names.lookup x = some .local := by first | exact .inl rfl | exact .inr rfl | assumption) :
    PS X (.Assign [.Name x pos'] e pos) (tAsg te (gName i)) := by
  intro pins s σ H D I h
  refine wpAny_Assign_Name (thn (he pins s σ H _ I h) fun v s1 ⟨y, H1, I1, r1, q1⟩ => ?_) hs
  exact store_ok I1 hN hi hx r1 (fun s2 I2 => ⟨_, H1, I2, q1⟩) hf
/-- a, b = x, y with plain local names: stored from the right; the pair itself is not tracked (the opening rows as in PyProof/Rows/TupAssign.lean:23) -/
def tPar (i j : Nat) (ta : TA) : TS := fun D σ H => ta σ H fun vs H1 => ∃ v w, vs = [v, w] ∧ D.nx ((σ.set i (some v)).set j (some w)) H1
/-- name op= e -/
def tAug (i : Nat) (te : TE) (ti : TIp) : TS := fun D σ H => ∃ x, σ[i]? = some (some x) ∧ te σ H fun y H1 => ti x y H1 fun z H2 => D.nx (σ.set i (some z)) H2
/-- o[i] op= e -/
def tAugS (to ti te : TE) (tget : V → V → Hp → VK → Prop) (tip : TIp) (tset : TSet) : TS := fun D σ H => to σ H fun o H1 => ti σ H1 fun i H2 => tget o i H2 fun x H3 => te σ H3 fun y H4 => tip x y H4 fun z H5 => tset o i z H5 fun H6 => D.nx σ H6
/-- o[i], by values -/
def PGet (X : Cx) (t : V → V → Hp → VK → Prop) : Prop :=
  ∀ (pins : List (Addr × Obj)) (s : Shared) (σ : St) (H : Hp) (o i : V) (ov iv : Value) (Q : VK), Inv X pins σ H s → RelV o ov → RelV i iv → t o i H Q →
    wpAny (model X.prog X.w) X.A (getItem ov iv) (EP X pins σ Q) X.xe s
/-- ints -/
def ipI (f : Int → Int → Int) : TIp := fun x y H Q => ∃ i j, x = .int i ∧ y = .int j ∧ Q (.int (f i j)) H
end

/-! ### while -/
section
variable {X : Cx} {pos : Pos}
/-- the invariant W with its measure -/
def tWhile (c : TT) (tb : TS) : TS := fun D σ H => ∃ W : Nat → St → Hp → Prop, (∃ m, W m σ H) ∧ ∀ m σ H, W m σ H →
  c σ H fun b H1 => if b = true then ∃ N : St → Hp → Prop, (∀ σ' H', N σ' H' → ∃ m', m' < m ∧ W m' σ' H') ∧ tb { D with nx := N, ct := N, bk := D.nx } σ H1 else D.nx σ H1
end

/-! ### what a loop or a comprehension walks -/
/-- at turn i: it yields x (the heap may grow), or it stops -/
structure It where
  go : Nat → Hp → Prop
  yld : Nat → Hp → V → Hp → Prop
  stop : Nat → Hp → Prop
/-- the iterator's own objects may turn: they are not the frame's, not pinned, younger than the entry (or a comprehension's own) -/
def FpOk (X : Cx) (pins : List (Addr × Obj)) (H : Hp) (b : Addr) : Prop :=
  H b = none ∧ b ≠ X.env.locals ∧ b ∉ X.fs ∧ (b ∈ X.ex ∨ X.s₀.heap.objs.size ≤ b) ∧ (∀ x c, X.env.cells.lookup x = some c → c ≠ b) ∧ ∀ p ∈ X.pn ++ pins, p.1 ≠ b
theorem Inv.fpOk {X : Cx} {pins : List (Addr × Obj)} {σ : St} {H H' : Hp} {s : Shared} {b : Addr} (I : Inv X pins σ H s) (hb : s.heap.objs.size ≤ b) (hn : H' b = none) : FpOk X pins H' b := by
  refine ⟨hn, Nat.ne_of_gt (Nat.lt_of_lt_of_le I.lt hb), I.nofs hb, .inr (Nat.le_trans I.sz hb), fun x c e z => ?_, fun p hp z => ?_⟩
  · obtain ⟨v, q⟩ := I.cell x c e
    exact absurd (Nat.lt_of_lt_of_le q.lt (by rw [z]; exact hb)) (Nat.lt_irrefl _)
  · exact absurd (Nat.lt_of_lt_of_le (Heap.lt_size (I.pin p hp).1) (by rw [z]; exact hb)) (Nat.lt_irrefl _)
structure Turn (P : Program) (w : World) (K : PySem.W.Frag) (tg : Expr) (J : It) (fp : List Addr) (it : Addr) (tn : Nat → Heap → Prop) : Prop where
  mem : it ∈ fp
  obj : ∀ i h, tn i h → ∀ b ∈ fp, ∃ o, h.get? b = some o ∧ ∀ v, o.data ≠ .cell v
  keep : ∀ i h h', tn i h → (∀ b ∈ fp, ∀ o, h.get? b = some o → h'.get? b = some o) → tn i h'
  item : ∀ (X : Cx), X.prog = P → X.w = w → X.K = K → X.calm = true → ∀ (i : Nat) (pins : List (Addr × Obj)) (s : Shared) (σ : St) (H : Hp) (E : Value → Shared → Prop), Inv X pins σ H s → (∀ b ∈ fp, FpOk X pins H b) → tn i s.heap → J.go i H →
    wpAny (model P w) X.A (pyNext (.ref it)) (fun r s1 => ∃ u, r = some u ∧
      wpAny (model P w) X.A (letOwnedTupleGo tg (.ref it) u) (fun _ s2 => ∃ x H', Inv X pins σ H' s2 ∧ RelV x u ∧ J.yld i H x H' ∧ tn (i + 1) s2.heap ∧ ∀ b ∈ fp, H' b = none) E s1) E s
  done : ∀ (X : Cx), X.prog = P → X.w = w → X.K = K → X.calm = true → ∀ (i : Nat) (pins : List (Addr × Obj)) (s : Shared) (σ : St) (H : Hp) (E : Value → Shared → Prop), Inv X pins σ H s → (∀ b ∈ fp, FpOk X pins H b) → tn i s.heap → J.stop i H →
    wpAny (model P w) X.A (pyNext (.ref it)) (fun r s1 => r = none ∧ Inv X pins σ H s1) E s
  self : ∀ (A : Around) (i : Nat) (s : Shared) (Q : Value → Shared → Prop) (E : Value → Shared → Prop), tn i s.heap → Q (.ref it) s → wpAny (model P w) A (pyIter (.ref it)) Q E s
abbrev TI := St → Hp → (It → Hp → Prop) → Prop
/-- an iterator has come -/
def PIE (X : Cx) (pins : List (Addr × Obj)) (σ : St) (tg : Expr) (R : It → Hp → Prop) (itv : Value) (s2 : Shared) : Prop :=
  ∃ (it : Addr) (fp : List Addr) (tn : Nat → Heap → Prop) (J : It) (H' : Hp), itv = .ref it ∧ Inv X pins σ H' s2 ∧ Turn X.prog X.w X.K tg J fp it tn ∧ tn 0 s2.heap ∧ (∀ b ∈ fp, FpOk X pins H' b) ∧ R J H'
def PI (X : Cx) (tg iter : Expr) (wi : TI) : Prop :=
  ∀ (pins : List (Addr × Obj)) (s : Shared) (σ : St) (H : Hp) (R : It → Hp → Prop), Inv X pins σ H s → wi σ H R →
    wpAny (model X.prog X.w) X.A (eval iter X.env) (fun v s1 => wpAny (model X.prog X.w) X.A (pyIter v) (PIE X pins σ tg R) X.xe s1) X.xe s

/-- the step ahead of the store is nothing for an iterator that keeps no tuple -/
theorem go_of {M : Model} {A : Around} {E : Value → Shared → Prop} {s : Shared} {tg : Expr} {it : Addr} {u : Value} {o : Obj} {n : String} {vs : Array Value} {Q : Unit → Shared → Prop} (ho : s.heap.get? it = some o) (hc : o.cls = .type n) (hd : o.data = .fields vs)
    (hn : ["enumerate", "zip", "dict_itemiterator", "dict_reverseitemiterator", "odict_iterator", "itertools.zip_longest", "itertools.pairwise"].contains n = false) (hQ : Q () s) : wpAny M A (letOwnedTupleGo tg (.ref it) u) Q E s := by
  unfold letOwnedTupleGo
  cases tg <;> first
    | exact wpAny_pure hQ
    | (cases u <;> first
        | exact wpAny_pure hQ
        | (refine wpAny_bind (wpAny_load ho ?_)
           rw [hc, hd]
           show wpAny M A (if (["enumerate", "zip", "dict_itemiterator", "dict_reverseitemiterator", "odict_iterator", "itertools.zip_longest", "itertools.pairwise"].contains n && vs[0]? == some (rawInt _)) = true then _ else _) Q E s
           rw [if_neg (by intro h; rw [hn, Bool.false_and] at h; cases h)]
           exact wpAny_pure hQ))

/-- the list at a, as it stands at each turn (a loop may append to it) -/
def Itl (K : PySem.W.Frag) (a : Addr) : It :=
  ⟨fun i H => ∃ xs x, SqL K H a xs ∧ xs[i]? = some x, fun i H x H' => H' = H ∧ ∀ xs, SqL K H a xs → xs[i]? = some x, fun i H => ∃ xs, SqL K H a xs ∧ xs.length ≤ i⟩
def Itt (K : PySem.W.Frag) (a : Addr) : It :=
  ⟨fun i H => ∃ xs x, SqT K H a xs ∧ xs[i]? = some x, fun i H x H' => H' = H ∧ ∀ xs, SqT K H a xs → xs[i]? = some x, fun i H => ∃ xs, SqT K H a xs ∧ xs.length ≤ i⟩
/-- lo, lo + 1, .. (n of them) -/
def Itr (lo : Int) (n : Nat) : It := ⟨fun i _ => i < n, fun i H x H' => H' = H ∧ x = .int (lo + i), fun i _ => n ≤ i⟩
theorem turn_list {P : Program} {w : World} {K : PySem.W.Frag} {tg : Expr} (a it : Addr) : Turn P w K tg (Itl K a) [it] it (fun i h => h.IsListIter it a i) where
  mem := by simp
  obj := fun i h st b hb => by
    have e : b = it := by simpa using hb
    subst e
    obtain ⟨o, e, c, d⟩ := st
    exact ⟨o, e, fun v z => by rw [d] at z; cases z⟩
  keep := fun i h h' st k => st.at fun o e => k it (by simp) o e
  item := by
    intro X hP hw hK hc i pins s σ H E I hf st hg
    subst hP hw hK
    obtain ⟨xs, x, hq, hx⟩ := hg
    obtain ⟨its, rv, p, hz⟩ := I.list hq
    obtain ⟨u, hu, ru⟩ := rv.get hx
    obtain ⟨f0, f1, f2, f3, f4, f5⟩ := hf it (by simp)
    refine wpAny_pyNext_list_item st p.isList (x := u) (by simpa using hu) fun h' st' sb => ?_
    have I1 : Inv X pins σ H { s with heap := h' } := I.turned (t' := s.toks) (fun b o hb e => (sb.2 b hb).trans e) f0 f1 f3 f4 f5
    obtain ⟨o, e, c, d⟩ := id st'
    exact ⟨u, rfl, go_of (s := { s with heap := h' }) e c d (by decide) ⟨x, H, I1, ru, ⟨rfl, fun ys hy => by rw [I.list_inj hy hq]; exact hx⟩, st', fun b hb => (hf b hb).1⟩⟩
  done := by
    intro X hP hw hK hc i pins s σ H E I hf st hg
    subst hP hw hK
    obtain ⟨xs, hq, hx⟩ := hg
    obtain ⟨its, rv, p, hz⟩ := I.list hq
    obtain ⟨f0, f1, f2, f3, f4, f5⟩ := hf it (by simp)
    have hl := rv.length
    exact wpAny_pyNext_list_end (I.ok.hd hc) st p.isList (by simp; omega) fun h' eb => ⟨rfl, I.turned (t' := s.toks) (fun b o hb e => eb b o hb e) f0 f1 f3 f4 f5⟩
  self := fun _ _ _ _ _ st h => wpAny_pyIter_listiter st h
theorem turn_tuple {P : Program} {w : World} {K : PySem.W.Frag} {tg : Expr} (a it : Addr) : Turn P w K tg (Itt K a) [it] it (fun i h => h.IsTupleIter it a i) where
  mem := by simp
  obj := fun i h st b hb => by
    have e : b = it := by simpa using hb
    subst e
    obtain ⟨o, e, c, d⟩ := st
    exact ⟨o, e, fun v z => by rw [d] at z; cases z⟩
  keep := fun i h h' st k => st.at fun o e => k it (by simp) o e
  item := by
    intro X hP hw hK hc i pins s σ H E I hf st hg
    subst hP hw hK
    obtain ⟨xs, x, hq, hx⟩ := hg
    obtain ⟨its, rv, p, hz⟩ := I.tuple hq
    obtain ⟨u, hu, ru⟩ := rv.get hx
    obtain ⟨f0, f1, f2, f3, f4, f5⟩ := hf it (by simp)
    refine wpAny_pyNext_tuple_item st (show s.heap.IsTuple a its.toArray from p) (x := u) (by simpa using hu) fun h' st' sb => ?_
    have I1 : Inv X pins σ H { s with heap := h' } := I.turned (t' := s.toks) (fun b o hb e => (sb.2 b hb).trans e) f0 f1 f3 f4 f5
    obtain ⟨o, e, c, d⟩ := id st'
    exact ⟨u, rfl, go_of (s := { s with heap := h' }) e c d (by decide) ⟨x, H, I1, ru, ⟨rfl, fun ys hy => by rw [I.tuple_inj hy hq]; exact hx⟩, st', fun b hb => (hf b hb).1⟩⟩
  done := by
    intro X hP hw hK hc i pins s σ H E I hf st hg
    subst hP hw hK
    obtain ⟨xs, hq, hx⟩ := hg
    obtain ⟨its, rv, p, hz⟩ := I.tuple hq
    obtain ⟨f0, f1, f2, f3, f4, f5⟩ := hf it (by simp)
    have hl := rv.length
    exact wpAny_pyNext_tuple_end (I.ok.hd hc) st (show s.heap.IsTuple a its.toArray from p) (by simp; omega) fun h' eb => ⟨rfl, I.turned (t' := s.toks) (fun b o hb e => eb b o hb e) f0 f1 f3 f4 f5⟩
  self := fun _ _ _ _ _ st h => wpAny_pyIter_tupleiter st h
theorem turn_range {P : Program} {w : World} {K : PySem.W.Frag} {tg : Expr} (it : Addr) (lo : Int) (n : Nat) : Turn P w K tg (Itr lo n) [it] it (fun i h => IsRangeIter h it (lo + (i : Nat) * 1) ((n : Int) - (i : Nat)) 1) where
  mem := by simp
  obj := fun i h st b hb => by
    have e : b = it := by simpa using hb
    subst e
    exact ⟨_, st, fun v z => by
      have z' : Data.fields _ = Data.cell v := z
      cases z'⟩
  keep := fun i h h' st k => k it (by simp) _ st
  item := by
    intro X hP hw hK hc i pins s σ H E I hf st hg
    subst hP hw hK
    obtain ⟨f0, f1, f2, f3, f4, f5⟩ := hf it (by simp)
    have W := Walks.range (prog := X.prog) (w := X.w) (I.ok.hd hc) it lo 1 n
    refine W.item i s _ _ hg st fun v h' tk hv st' kk => ?_
    obtain ⟨t, rfl⟩ := hv
    have I1 : Inv X pins σ H { s with heap := h', toks := tk } := I.turned (fun b o hb e => kk b o (by simpa using hb) e) f0 f1 f3 f4 f5
    refine ⟨_, rfl, go_of (s := { s with heap := h', toks := tk }) (n := "range_iterator") st' rfl rfl (by decide) ⟨.int (lo + i), H, I1, ⟨t, ?_⟩, ⟨rfl, rfl⟩, st', fun b hb => (hf b hb).1⟩⟩
    rw [Int.mul_one]
  done := by
    intro X hP hw hK hc i pins s σ H E I hf st hg
    subst hP hw hK
    obtain ⟨f0, f1, f2, f3, f4, f5⟩ := hf it (by simp)
    exact wpAny_pyNext_range_end (I.ok.hd hc) st (by have : n ≤ i := hg; omega) fun h' eb => ⟨rfl, I.turned (t' := s.toks) (fun b o hb e => eb b o hb e) f0 f1 f3 f4 f5⟩
  self := fun _ _ _ _ _ st h => wpAny_pyIter_rangeiter st h
end L2

namespace L2
open PySem PySem.Spec PyProof.Rows
section
variable {X : Cx} {tg : Expr}
def iList (K : PySem.W.Frag) (tl : TE) : TI := fun σ H R => tl σ H fun x H1 => ∃ a, x = .ref a ∧ (∃ xs, SqL K H1 a xs) ∧ R (Itl K a) H1
def iTup (K : PySem.W.Frag) (tl : TE) : TI := fun σ H R => tl σ H fun x H1 => ∃ a, x = .ref a ∧ (∃ xs, SqT K H1 a xs) ∧ R (Itt K a) H1
theorem pi_list {l : Expr} {tl : TE} (hl : PE X l tl) : PI X tg l (iList X.K tl) := by
  intro pins s σ H R I h
  refine thn (hl pins s σ H _ I h) fun v s1 ⟨x, H1, I1, r1, q1⟩ => ?_
  obtain ⟨a, e, ⟨xs, hq⟩, q⟩ := q1
  subst e
  cases r1
  obtain ⟨its, rv, p, hz⟩ := I1.list hq
  refine wpAny_pyIter_list p.isList ?_
  refine ⟨s1.heap.objs.size, [s1.heap.objs.size], _, _, H1, rfl, I1.kept (t' := s1.toks) fun b o e => Heap.get?_push_of_some _ e, turn_list a _, ⟨_, Heap.get?_push_size _ rfl, rfl, rfl⟩, fun b hb => ?_, q⟩
  have e : b = s1.heap.objs.size := by simpa using hb
  subst e
  exact I1.fpOk (Nat.le_refl _) (I1.hok.fresh (Nat.le_refl _))
theorem pi_tup {l : Expr} {tl : TE} (hl : PE X l tl) : PI X tg l (iTup X.K tl) := by
  intro pins s σ H R I h
  refine thn (hl pins s σ H _ I h) fun v s1 ⟨x, H1, I1, r1, q1⟩ => ?_
  obtain ⟨a, e, ⟨xs, hq⟩, q⟩ := q1
  subst e
  cases r1
  obtain ⟨its, rv, p, hz⟩ := I1.tuple hq
  refine wpAny_pyIter_tuple (show s1.heap.IsTuple a its.toArray from p) ?_
  refine ⟨s1.heap.objs.size, [s1.heap.objs.size], _, _, H1, rfl, I1.kept (t' := s1.toks) fun b o e => Heap.get?_push_of_some _ e, turn_tuple a _, ⟨_, Heap.get?_push_size _ rfl, rfl, rfl⟩, fun b hb => ?_, q⟩
  have e : b = s1.heap.objs.size := by simpa using hb
  subst e
  exact I1.fpOk (Nat.le_refl _) (I1.hok.fresh (Nat.le_refl _))
/-- a range object just made, walked -/
theorem range_it {pins : List (Addr × Obj)} {σ : St} {H : Hp} {s : Shared} {R : It → Hp → Prop} {E : Value → Shared → Prop} {lo hi : Int} {t u v : Tok} {tk : Nat} (I : Inv X pins σ H s) (h1 : -(2 ^ 62) ≤ lo) (h2 : lo < 2 ^ 62) (h3 : -(2 ^ 62) ≤ hi) (h4 : hi < 2 ^ 62)
    (q : R (Itr lo (hi - lo).toNat) H) : wpAny (model X.prog X.w) X.A (pyIter (.ref s.heap.objs.size)) (PIE X pins σ tg R) E { s with heap := s.heap.push { cls := .type "range", data := .fields #[.int lo t, .int hi u, .int 1 v] }, toks := tk } := by
  refine wpAny_pyIter_range (IsRange.new ..) (small_one h1 h2 h3 h4) ?_
  have I1 : Inv X pins σ H { s with heap := s.heap.push { cls := .type "range", data := .fields #[.int lo t, .int hi u, .int 1 v] }, toks := tk } := I.kept fun b o e => Heap.get?_push_of_some _ e
  refine ⟨(s.heap.push { cls := .type "range", data := .fields #[.int lo t, .int hi u, .int 1 v] }).objs.size, [(s.heap.push { cls := .type "range", data := .fields #[.int lo t, .int hi u, .int 1 v] }).objs.size], _, _, H, rfl,
    I1.kept (t' := tk) fun b o e => Heap.get?_push_of_some _ e, turn_range _ lo (hi - lo).toNat, ?_, fun b hb => ?_, q⟩
  · have e1 : lo + ((0 : Nat) : Int) * 1 = lo := by simp
    have e2 : (((hi - lo).toNat : Nat) : Int) - ((0 : Nat) : Int) = Builtin.Range.rangeSize lo hi 1 := by rw [rangeSize_one]; split <;> omega
    show IsRangeIter _ _ (lo + ((0 : Nat) : Int) * 1) ((((hi - lo).toNat : Nat) : Int) - ((0 : Nat) : Int)) 1
    rw [e1, e2]
    exact Heap.get?_push_size _ rfl
  · have e : b = (s.heap.push { cls := .type "range", data := .fields #[.int lo t, .int hi u, .int 1 v] }).objs.size := by simpa using hb
    subst e
    exact I1.fpOk (Nat.le_refl _) (I1.hok.fresh (Nat.le_refl _))
def iRng1 (ta : TA) : TI := fun σ H R => ta σ H fun vs H1 => ∃ j : Int, vs = [.int j] ∧ -(2 ^ 62) ≤ j ∧ j < 2 ^ 62 ∧ R (Itr 0 j.toNat) H1
def iRng2 (ta : TA) : TI := fun σ H R => ta σ H fun vs H1 => ∃ i j : Int, vs = [.int i, .int j] ∧ (-(2 ^ 62) ≤ i ∧ i < 2 ^ 62 ∧ -(2 ^ 62) ≤ j ∧ j < 2 ^ 62) ∧ R (Itr i (j - i).toNat) H1
theorem pi_range1 {a : Expr} {ta : TA} {p pos : Pos} (hg : Gl X "range") (hm : X.mg "range" = none) (ha : PA X [a] ta) (hs : starEach [a] X.env = [(false, eval a X.env)] := by rfl) : PI X tg (.Call (.Name "range" p) [a] [] pos) (iRng1 ta) := by
  intro pins s σ H R I h
  refine Call_ (ld_blt I hg hm boot_range (PyProof.Rows.callWith_type1 (thn (ha pos pins s σ H _ I h) fun us s1 ⟨vs, H1, I1, r1, q1⟩ => ?_) hs rfl))
  obtain ⟨j, e, q1, q2, q⟩ := q1
  subst e
  cases r1 with
  | cons r rr =>
    cases rr
    obtain ⟨t, rfl⟩ := r
    exact call_range_1 (range_it I1 (by omega) (by omega) q1 q2 (by simpa using q))
/-! ### for -/
/-- W: the invariant by the turn and a measure; N: what the body is to reach -/
def tFor (wi : TI) (g : TG) (tb : TS) : TS := fun D σ H => wi σ H fun J H1 => ∃ W : Nat → Nat → St → Hp → Prop, (∃ m, W 0 m σ H1) ∧ ∀ i m σ H, W i m σ H →
  (J.stop i H ∧ D.nx σ H) ∨ (J.go i H ∧ ∃ N : St → Hp → Prop, (∀ σ' H', N σ' H' → ∃ m', m' < m ∧ W (i + 1) m' σ' H') ∧ ∀ x H', J.yld i H x H' → g x σ H' fun σ2 H2 => tb { D with nx := N, ct := N, bk := D.nx } σ2 H2)
/-- the records at fp as they stand -/
def pinsAt (fp : List Addr) (h : Heap) : List (Addr × Obj) := fp.filterMap fun b => (h.get? b).map fun o => (b, o)
theorem mem_pinsAt {fp : List Addr} {h : Heap} {b : Addr} {o : Obj} (hb : b ∈ fp) (e : h.get? b = some o) : (b, o) ∈ pinsAt fp h := List.mem_filterMap.mpr ⟨b, hb, by rw [e]; rfl⟩
theorem of_pinsAt {fp : List Addr} {h : Heap} {p : Addr × Obj} (hp : p ∈ pinsAt fp h) : p.1 ∈ fp ∧ h.get? p.1 = some p.2 := by
  obtain ⟨b, hb, e⟩ := List.mem_filterMap.mp hp
  cases q : h.get? b with
  | none => rw [q] at e; cases e
  | some o =>
    rw [q] at e
    have e' : (b, o) = p := Option.some.inj e
    subst e'
    exact ⟨hb, q⟩
theorem Inv.pinned {pins : List (Addr × Obj)} {σ : St} {H : Hp} {s : Shared} {fp : List Addr} (I : Inv X pins σ H s) (hf : ∀ b ∈ fp, FpOk X pins H b) (ho : ∀ b ∈ fp, ∃ o, s.heap.get? b = some o ∧ ∀ v, o.data ≠ .cell v) : Inv X (pins ++ pinsAt fp s.heap) σ H s :=
  I.pins_of fun p hp => (List.mem_append.mp hp).elim (fun z => I.pin p (List.mem_append_right _ z)) fun z => by
    obtain ⟨hb, e⟩ := of_pinsAt z
    obtain ⟨f0, f1, f2, _⟩ := hf p.1 hb
    obtain ⟨o, e', d⟩ := ho p.1 hb
    rw [e] at e'; cases e'
    exact ⟨e, f0, f1, f2, d⟩
theorem Inv.unpinned {pins pl : List (Addr × Obj)} {σ : St} {H : Hp} {s : Shared} (I : Inv X (pins ++ pl) σ H s) : Inv X pins σ H s := I.pins_of fun p hp => I.pin p (List.mem_append_right _ (List.mem_append_left _ hp))
theorem ps_for {iter : Expr} {body : List Stmt} {wi : TI} {g : TG} {tb : TS} {pos : Pos} (hp : PassesOwn (model X.prog X.w) X.A X.env X.xe) (hc : X.calm = true) (hi : PI X tg iter wi) (hg : PG X tg g) (hb : PSs X body tb)
    (hs : ∀ x, foldedSetIterable iter X.env x = pure x := by intro _; rfl) : PS X (.For tg iter body [] pos) (tFor wi g tb) := by
  intro pins s σ H D I h
  refine wpAny_For (thn (hi pins s σ H _ I h) fun v s1 h1 => thn h1 fun itv s2 h2 => ?_) hs
  obtain ⟨it, fp, tn, J, H2, e, I2, T, st2, f2, W, ⟨m0, w0⟩, turn⟩ := h2
  subst e
  -- what stays true of the iterator's objects through the loop
  have stat : ∀ {H' : Hp}, (∀ b ∈ fp, H' b = none) → ∀ b ∈ fp, FpOk X pins H' b := fun hn b hb => ⟨hn b hb, (f2 b hb).2⟩
  refine codeAny_forLoop_any (fun n s' => ∃ i σ' H', Inv X pins σ' H' s' ∧ tn i s'.heap ∧ (∀ b ∈ fp, H' b = none) ∧ W i n σ' H') ?_ m0 ⟨0, σ, H2, I2, st2, fun b hb => (f2 b hb).1, w0⟩
  rintro n s3 ⟨i, σ3, H3, I3, st3, fr3, w3⟩
  rcases turn i n σ3 H3 w3 with ⟨stop, qn⟩ | ⟨go, N, hN, step⟩
  · refine wpAny_passesOwn hp (thn (T.done X rfl rfl rfl hc i pins s3 σ3 H3 X.xe I3 (stat fr3) st3 stop) fun r s4 ⟨hr, I4⟩ => ?_)
    subst hr
    exact wpAny_execs_nil ⟨σ3, H3, I4, qn⟩
  · refine wpAny_passesOwn hp (thn (T.item X rfl rfl rfl hc i pins s3 σ3 H3 X.xe I3 (stat fr3) st3 go) fun r s4 ⟨u, hr, h4⟩ => ?_)
    subst hr
    refine wpAny_passesOwn hp (thn h4 fun _ s5 ⟨x, H5, I5, r5, y5, st5, fr5⟩ => ?_)
    have I5' := I5.pinned (stat fr5) (T.obj _ _ st5)
    refine wpAny_passesOwn hp (thn (hg _ s5 σ3 H5 x u _ I5' r5 (step x H5 y5)) fun _ s6 ⟨σ6, H6, I6, q6⟩ => ?_)
    refine wpAny_passesOwn hp (thn (hb _ s6 σ6 H6 _ I6 q6) fun f s7 q7 => ?_)
    have again : ∀ {σ7 : St} {H7 : Hp}, Inv X (pins ++ pinsAt fp s5.heap) σ7 H7 s7 → N σ7 H7 → ∃ m, m < n ∧ ∃ i σ' H', Inv X pins σ' H' s7 ∧ tn i s7.heap ∧ (∀ b ∈ fp, H' b = none) ∧ W i m σ' H' := fun {σ7 H7} I7 n7 => by
      obtain ⟨m', hm, w7⟩ := hN σ7 H7 n7
      refine ⟨m', hm, i + 1, σ7, H7, I7.unpinned, T.keep _ _ _ st5 fun b hb o e => (I7.pin (b, o) (List.mem_append_right _ (List.mem_append_right _ (mem_pinsAt hb e)))).1, fun b hb => ?_, w7⟩
      obtain ⟨o, e, d⟩ := T.obj _ _ st5 b hb
      exact (I7.pin (b, o) (List.mem_append_right _ (List.mem_append_right _ (mem_pinsAt hb e)))).2.1
    cases f with
    | next => obtain ⟨σ7, H7, I7, n7⟩ := q7; exact again I7 n7
    | cont => obtain ⟨σ7, H7, I7, n7⟩ := q7; exact again I7 n7
    | brk => obtain ⟨σ7, H7, I7, q7⟩ := q7; exact ⟨σ7, H7, I7.unpinned, q7⟩
    | ret v => obtain ⟨x7, σ7, H7, I7, r7, q7⟩ := q7; exact ⟨x7, σ7, H7, I7.unpinned, r7, q7⟩
end

/-! ### the forms one uses -/
theorem for_tup {K : PySem.W.Frag} {a : Addr} {xs : List V} {g : TG} {tb : TS} {D : Ends} {σ : St} {H : Hp} (Pv : Nat → St → Hp → Prop) (h0 : Pv 0 σ H) (hl : ∀ i σ H, i ≤ xs.length → Pv i σ H → SqT K H a xs)
    (hs : ∀ i x σ H, xs[i]? = some x → Pv i σ H → g x σ H fun σ2 H2 => tb { D with nx := Pv (i + 1), ct := Pv (i + 1), bk := D.nx } σ2 H2) (hd : ∀ σ H, Pv xs.length σ H → D.nx σ H) :
    ∃ W : Nat → Nat → St → Hp → Prop, (∃ m, W 0 m σ H) ∧ ∀ i m σ H, W i m σ H →
      ((Itt K a).stop i H ∧ D.nx σ H) ∨ ((Itt K a).go i H ∧ ∃ N : St → Hp → Prop, (∀ σ' H', N σ' H' → ∃ m', m' < m ∧ W (i + 1) m' σ' H') ∧ ∀ x H', (Itt K a).yld i H x H' → g x σ H' fun σ2 H2 => tb { D with nx := N, ct := N, bk := D.nx } σ2 H2) := by
  refine ⟨fun i m σ H => m = xs.length - i ∧ i ≤ xs.length ∧ Pv i σ H, ⟨xs.length, by simp, Nat.zero_le _, h0⟩, ?_⟩
  rintro i m σ H ⟨rfl, hi, p⟩
  have q := hl i σ H hi p
  by_cases hlt : i < xs.length
  · refine .inr ⟨⟨xs, xs[i], q, by simp [hlt]⟩, Pv (i + 1), fun σ' H' p' => ⟨xs.length - (i + 1), by omega, rfl, hlt, p'⟩, fun x H' y => ?_⟩
    obtain ⟨e, y⟩ := y
    subst e
    exact hs i x σ _ (y xs q) p
  · have e : i = xs.length := by omega
    subst e
    exact .inl ⟨⟨xs, q, Nat.le_refl _⟩, hd σ H p⟩
theorem for_range {lo : Int} {n : Nat} {g : TG} {tb : TS} {D : Ends} {σ : St} {H : Hp} (Pv : Nat → St → Hp → Prop) (h0 : Pv 0 σ H)
    (hs : ∀ i σ H, i < n → Pv i σ H → g (.int (lo + i)) σ H fun σ2 H2 => tb { D with nx := Pv (i + 1), ct := Pv (i + 1), bk := D.nx } σ2 H2) (hd : ∀ σ H, Pv n σ H → D.nx σ H) :
    ∃ W : Nat → Nat → St → Hp → Prop, (∃ m, W 0 m σ H) ∧ ∀ i m σ H, W i m σ H →
      ((Itr lo n).stop i H ∧ D.nx σ H) ∨ ((Itr lo n).go i H ∧ ∃ N : St → Hp → Prop, (∀ σ' H', N σ' H' → ∃ m', m' < m ∧ W (i + 1) m' σ' H') ∧ ∀ x H', (Itr lo n).yld i H x H' → g x σ H' fun σ2 H2 => tb { D with nx := N, ct := N, bk := D.nx } σ2 H2) := by
  refine ⟨fun i m σ H => m = n - i ∧ i ≤ n ∧ Pv i σ H, ⟨n, by simp, Nat.zero_le _, h0⟩, ?_⟩
  rintro i m σ H ⟨rfl, hi, p⟩
  by_cases hlt : i < n
  · refine .inr ⟨hlt, Pv (i + 1), fun σ' H' p' => ⟨n - (i + 1), by omega, rfl, hlt, p'⟩, fun x H' y => ?_⟩
    obtain ⟨e, y⟩ := y
    subst e y
    exact hs i σ _ hlt p
  · have e : i = n := by omega
    subst e
    exact .inl ⟨Nat.le_refl _, hd σ H p⟩
end L2

namespace L2
open PySem PySem.Spec PyProof.Rows

abbrev R2 := V → V → Hp → VK → Prop
/-- a two-place operation on values: f is binaryOp op, inplaceOp op or compareOp op -/
def OpR (X : Cx) (f : Value → Value → Sem Value) (r : R2) : Prop :=
  ∀ (pins : List (Addr × Obj)) (s : Shared) (σ : St) (H : Hp) (x y : V) (v u : Value) (Q : VK), Inv X pins σ H s → RelV x v → RelV y u → r x y H Q →
    wpAny (model X.prog X.w) X.A (f v u) (EP X pins σ Q) X.xe s
/-- a one-place operation -/
def UnR (X : Cx) (f : Value → Sem Value) (r : V → Hp → VK → Prop) : Prop :=
  ∀ (pins : List (Addr × Obj)) (s : Shared) (σ : St) (H : Hp) (x : V) (v : Value) (Q : VK), Inv X pins σ H s → RelV x v → r x H Q →
    wpAny (model X.prog X.w) X.A (f v) (EP X pins σ Q) X.xe s
/-- a call of a value that is known (a builtin, a type) with values -/
def CallR (X : Cx) (f : Value) (r : List V → Hp → VK → Prop) : Prop :=
  ∀ (pins : List (Addr × Obj)) (s : Shared) (σ : St) (H : Hp) (xs : List V) (us : List Value) (Q : VK), Inv X pins σ H s → Vals xs us → r xs H Q →
    wpAny (model X.prog X.w) X.A (call f us) (EP X pins σ Q) X.xe s
/-- a value's truth -/
def TruR (X : Cx) (r : V → Hp → (Bool → Hp → Prop) → Prop) : Prop :=
  ∀ (pins : List (Addr × Obj)) (s : Shared) (σ : St) (H : Hp) (x : V) (v : Value) (Q : Bool → Hp → Prop), Inv X pins σ H s → RelV x v → r x H Q →
    wpAny (model X.prog X.w) X.A (truthy v) (TP X pins σ Q) X.xe s

def tOp (r : R2) (ta tb : TE) : TE := fun σ H Q => ta σ H fun x H1 => tb σ H1 fun y H2 => r x y H2 Q
def tUn (r : V → Hp → VK → Prop) (ta : TE) : TE := fun σ H Q => ta σ H fun x H1 => r x H1 Q
/-- ints in, under C, and a value out -/
def rI (C : Int → Int → Prop) (g : Int → Int → V) : R2 := fun x y H Q => ∃ i j, x = .int i ∧ y = .int j ∧ C i j ∧ Q (g i j) H
def rI0 (g : Int → Int → V) : R2 := fun x y H Q => ∃ i j, x = .int i ∧ y = .int j ∧ Q (g i j) H
def rU (g : Int → V) : V → Hp → VK → Prop := fun x H Q => ∃ i, x = .int i ∧ Q (g i) H

section
variable {X : Cx} {a b c : Expr} {ta tb tc : TE} {pos : Pos}

theorem binT (ha : PE X a ta) (hb : PE X b tb) {pins : List (Addr × Obj)} {s : Shared} {σ : St} {H : Hp} {R : V → V → Hp → Prop} (I : Inv X pins σ H s)
    (h : ta σ H fun x H1 => tb σ H1 fun y H2 => R x y H2) {Q : Value → Shared → Prop} {f : Value → Value → Sem Value}
    (hf : ∀ v u s2 x y H2, Inv X pins σ H2 s2 → RelV x v → RelV y u → R x y H2 → wpAny (model X.prog X.w) X.A (f v u) Q X.xe s2) :
    wpAny (model X.prog X.w) X.A (eval a X.env) (fun v s₁ => wpAny (model X.prog X.w) X.A (eval b X.env) (fun u s₂ => wpAny (model X.prog X.w) X.A (f v u) Q X.xe s₂) X.xe s₁) X.xe s := by
  refine thn (ha pins s σ H _ I h) fun v s1 ⟨x, H1, I1, r1, q1⟩ => ?_
  refine thn (hb pins s1 σ H1 _ I1 q1) fun u s2 ⟨y, H2, I2, r2, q2⟩ => ?_
  exact hf v u s2 x y H2 I2 r1 r2 q2

theorem pe_op {op : Operator} {r : R2} (ho : OpR X (binaryOp op) r) (ha : PE X a ta) (hb : PE X b tb) : PE X (.BinOp a op b pos) (tOp r ta tb) := by
  intro pins s σ H Q I h
  exact wpAny_BinOp (binT ha hb I h fun v u s2 x y H2 I2 rx ry q => ho pins s2 σ H2 x y v u Q I2 rx ry q)
/-! ### ints -/
theorem opI {f : Value → Value → Sem Value} {C : Int → Int → Prop} {g : Int → Int → Int}
    (rule : ∀ (i j : Int) (t u : Tok) (s : Shared) (Q : Value → Shared → Prop) (E : Value → Shared → Prop), C i j → Q (.int (g i j) s.toks) { s with toks := s.toks + 1 } → wpAny (model X.prog X.w) X.A (f (.int i t) (.int j u)) Q E s) :
    OpR X f (rI C fun i j => .int (g i j)) := by
  intro pins s σ H x y v u Q I rx ry h
  obtain ⟨i, j, rfl, rfl, hc, q⟩ := h
  obtain ⟨t, rfl⟩ := rx
  obtain ⟨t', rfl⟩ := ry
  exact rule i j t t' s _ _ hc ⟨.int (g i j), H, I.tok _, ⟨_, rfl⟩, q⟩
theorem opI0 {f : Value → Value → Sem Value} {g : Int → Int → Int}
    (rule : ∀ (i j : Int) (t u : Tok) (s : Shared) (Q : Value → Shared → Prop) (E : Value → Shared → Prop), Q (.int (g i j) s.toks) { s with toks := s.toks + 1 } → wpAny (model X.prog X.w) X.A (f (.int i t) (.int j u)) Q E s) :
    OpR X f (rI0 fun i j => .int (g i j)) := by
  intro pins s σ H x y v u Q I rx ry h
  obtain ⟨i, j, rfl, rfl, q⟩ := h
  obtain ⟨t, rfl⟩ := rx
  obtain ⟨t', rfl⟩ := ry
  exact rule i j t t' s _ _ ⟨.int (g i j), H, I.tok _, ⟨_, rfl⟩, q⟩
theorem opB0 {f : Value → Value → Sem Value} {g : Int → Int → Bool}
    (rule : ∀ (i j : Int) (t u : Tok) (s : Shared) (Q : Value → Shared → Prop) (E : Value → Shared → Prop), Q (.bool (g i j)) s → wpAny (model X.prog X.w) X.A (f (.int i t) (.int j u)) Q E s) :
    OpR X f (rI0 fun i j => .bl (g i j)) := by
  intro pins s σ H x y v u Q I rx ry h
  obtain ⟨i, j, rfl, rfl, q⟩ := h
  obtain ⟨t, rfl⟩ := rx
  obtain ⟨t', rfl⟩ := ry
  exact rule i j t t' s _ _ ⟨.bl (g i j), H, I, rfl, q⟩

def CDiv (i j : Int) : Prop := 0 < j ∧ j < 1073741824
def CDivN (i j : Int) : Prop := j ≠ 0 ∧ j.natAbs < 1073741824
def CPow (i j : Int) : Prop := 0 ≤ j ∧ j ≤ 1000000 ∧ i.natAbs < 2 ^ 64
def CMul (i j : Int) : Prop := (-(2 ^ 64) < i ∧ i < 2 ^ 64) ∨ (-(2 ^ 64) < j ∧ j < 2 ^ 64)
theorem CMul.ok {i j : Int} (h : CMul i j) : IntMulOk i j := by
  rcases h with ⟨h1, h2⟩ | ⟨h1, h2⟩
  · exact .of_left (intBits_le_64 h1 h2)
  · exact .of_right (intBits_le_64 h1 h2)
theorem op_add : OpR X (binaryOp .Add) (rI0 fun i j => .int (i + j)) := opI0 fun _ _ _ _ _ _ _ q => add_int q
theorem op_sub : OpR X (binaryOp .Sub) (rI0 fun i j => .int (i - j)) := opI0 fun _ _ _ _ _ _ _ q => sub_int q
theorem op_mul : OpR X (binaryOp .Mult) (rI CMul fun i j => .int (i * j)) := opI fun _ _ _ _ _ _ _ hc q => mul_int q hc.ok
/-- // by a positive divisor -/
theorem op_fdiv : OpR X (binaryOp .FloorDiv) (rI CDiv fun i j => .int (i / j)) := opI fun i j _ _ _ _ _ hc q => by
  have h1 : (0 : Int) < j := hc.1
  have h2 : j < 1073741824 := hc.2
  exact floordiv_int (by omega) (by rw [Int.fdiv_eq_ediv_of_nonneg i (by omega)]; exact q) (.inl (PyProof.noPylong_small (by omega)))
/-- % by a positive divisor of any size -/
theorem op_mod : OpR X (binaryOp .Mod) (rI (fun _ j => 0 < j) fun i j => .int (i % j)) := opI fun i j _ _ _ _ _ hc q => by
  have h1 : (0 : Int) < j := hc
  exact mod_int' (by omega) (by rw [Int.fmod_eq_emod_of_nonneg i (by omega)]; exact q)
theorem op_pow : OpR X (binaryOp .Pow) (rI CPow fun i j => .int (i ^ j.toNat)) := opI fun _ _ _ _ _ _ _ hc q => pow_int_small hc.1 hc.2.1 hc.2.2 q
/-! ### bools among ints: n += (a < b) -/
end

/-! ### comparisons -/
/-- the scalars that == tells apart as data does -/
def scal : V → V → Bool
  | .non, .non => true | .non, .int _ => true | .int _, .non => true | .non, .bl _ => true | .bl _, .non => true | .non, .str _ => true | .str _, .non => true
  | .int _, .int _ => true | .bl _, .bl _ => true | .str _, .str _ => true | .byt _, .byt _ => true
  | .int _, .str _ => true | .str _, .int _ => true | .bl _, .str _ => true | .str _, .bl _ => true
  | _, _ => false
def rEq : R2 := fun x y H Q => scal x y = true ∧ Q (.bl (decide (x = y))) H
def rNe : R2 := fun x y H Q => scal x y = true ∧ Q (.bl (!decide (x = y))) H

theorem dec_int {i j : Int} : decide (V.int i = V.int j) = (i == j) := by
  rw [Bool.eq_iff_iff]
  simp
theorem dec_bl {i j : Bool} : decide (V.bl i = V.bl j) = (i == j) := by
  rw [Bool.eq_iff_iff]
  simp
theorem dec_str {i j : Str} : decide (V.str i = V.str j) = (i == j) := by
  rw [Bool.eq_iff_iff]
  simp
theorem dec_byt {i j : Array UInt8} : decide (V.byt i = V.byt j) = (i.toList == j.toList) := by
  rw [Bool.eq_iff_iff]
  cases i
  cases j
  simp

section
variable {X : Cx} {a b c : Expr} {ta tb tc : TE} {pos : Pos}
theorem fin_bl {pins : List (Addr × Obj)} {σ : St} {H : Hp} {s : Shared} {Q : VK} {k k' : Bool} (I : Inv X pins σ H s) (q : Q (.bl k) H) (e : k = k') : EP X pins σ Q (.bool k') s := by
  subst e
  exact ⟨.bl k, H, I, rfl, q⟩
theorem op_eq : OpR X (compareOp .Eq) rEq := by
  intro pins s σ H x y v u Q I rx ry h
  obtain ⟨hs, q⟩ := h
  cases x with
  | non =>
    cases rx
    cases y with
    | non => cases ry; exact PySem.EqNone.eq_none_none (fin_bl I q (by simp))
    | bl j => cases ry; exact PySem.EqNone.eq_none_bool (fin_bl I q (by simp))
    | int j => obtain ⟨t', rfl⟩ := ry; exact PySem.EqNone.eq_none_int (fin_bl I q (by simp))
    | str j => obtain ⟨t', rfl⟩ := ry; exact PySem.EqNone.eq_none_str (fin_bl I q (by simp))
    | _ => exact absurd (show false = true from hs) Bool.false_ne_true
  | bl i =>
    cases rx
    cases y with
    | non => cases ry; exact PySem.EqNone.eq_bool_none (fin_bl I q (by simp))
    | bl j => cases ry; exact eq_bool (fin_bl I q dec_bl)
    | str j => obtain ⟨t', rfl⟩ := ry; exact PySem.EqMixed.eq_bool_str (fin_bl I q (by simp))
    | _ => exact absurd (show false = true from hs) Bool.false_ne_true
  | int i =>
    obtain ⟨t, rfl⟩ := rx
    cases y with
    | non => cases ry; exact PySem.EqNone.eq_int_none (fin_bl I q (by simp))
    | int j => obtain ⟨t', rfl⟩ := ry; exact eq_int (fin_bl I q dec_int)
    | str j => obtain ⟨t', rfl⟩ := ry; exact PySem.EqMixed.eq_int_str (fin_bl I q (by simp))
    | _ => exact absurd (show false = true from hs) Bool.false_ne_true
  | str i =>
    obtain ⟨t, rfl⟩ := rx
    cases y with
    | non => cases ry; exact PySem.EqNone.eq_str_none (fin_bl I q (by simp))
    | bl j => cases ry; exact PySem.EqMixed.eq_str_bool (fin_bl I q (by simp))
    | int j => obtain ⟨t', rfl⟩ := ry; exact PySem.EqMixed.eq_str_int (fin_bl I q (by simp))
    | str j => obtain ⟨t', rfl⟩ := ry; exact eq_str (fin_bl I q dec_str)
    | _ => exact absurd (show false = true from hs) Bool.false_ne_true
  | byt i =>
    obtain ⟨t, rfl⟩ := rx
    cases y with
    | byt j => obtain ⟨t', rfl⟩ := ry; exact PySem.W.eq_bytes (fin_bl I q dec_byt)
    | _ => exact absurd (show false = true from hs) Bool.false_ne_true
  | _ => cases y <;> exact absurd (show false = true from hs) Bool.false_ne_true
theorem op_ne : OpR X (compareOp .NotEq) rNe := by
  intro pins s σ H x y v u Q I rx ry h
  obtain ⟨hs, q⟩ := h
  cases x with
  | non =>
    cases rx
    cases y with
    | non => cases ry; exact PySem.EqNone.ne_none_none (fin_bl I q (by simp))
    | bl j => cases ry; exact PySem.EqNone.ne_none_bool (fin_bl I q (by simp))
    | int j => obtain ⟨t', rfl⟩ := ry; exact PySem.EqNone.ne_none_int (fin_bl I q (by simp))
    | str j => obtain ⟨t', rfl⟩ := ry; exact PySem.EqNone.ne_none_str (fin_bl I q (by simp))
    | _ => exact absurd (show false = true from hs) Bool.false_ne_true
  | bl i =>
    cases rx
    cases y with
    | non => cases ry; exact PySem.EqNone.ne_bool_none (fin_bl I q (by simp))
    | bl j => cases ry; exact ne_bool (fin_bl I q (congrArg not dec_bl))
    | str j => obtain ⟨t', rfl⟩ := ry; exact PySem.EqMixed.ne_bool_str (fin_bl I q (by simp))
    | _ => exact absurd (show false = true from hs) Bool.false_ne_true
  | int i =>
    obtain ⟨t, rfl⟩ := rx
    cases y with
    | non => cases ry; exact PySem.EqNone.ne_int_none (fin_bl I q (by simp))
    | int j => obtain ⟨t', rfl⟩ := ry; exact ne_int (fin_bl I q (congrArg not dec_int))
    | str j => obtain ⟨t', rfl⟩ := ry; exact PySem.EqMixed.ne_int_str (fin_bl I q (by simp))
    | _ => exact absurd (show false = true from hs) Bool.false_ne_true
  | str i =>
    obtain ⟨t, rfl⟩ := rx
    cases y with
    | non => cases ry; exact PySem.EqNone.ne_str_none (fin_bl I q (by simp))
    | bl j => cases ry; exact PySem.EqMixed.ne_str_bool (fin_bl I q (by simp))
    | int j => obtain ⟨t', rfl⟩ := ry; exact PySem.EqMixed.ne_str_int (fin_bl I q (by simp))
    | str j => obtain ⟨t', rfl⟩ := ry; exact ne_str (fin_bl I q (congrArg not dec_str))
    | _ => exact absurd (show false = true from hs) Bool.false_ne_true
  | byt i =>
    obtain ⟨t, rfl⟩ := rx
    cases y with
    | byt j => obtain ⟨t', rfl⟩ := ry; exact PySem.W.ne_bytes (fin_bl I q (congrArg not dec_byt))
    | _ => exact absurd (show false = true from hs) Bool.false_ne_true
  | _ => cases y <;> exact absurd (show false = true from hs) Bool.false_ne_true

theorem op_lt : OpR X (compareOp .Lt) (rI0 fun i j => .bl (decide (i < j))) := opB0 fun _ _ _ _ _ _ _ q => lt_int q
theorem op_le : OpR X (compareOp .LtE) (rI0 fun i j => .bl (decide (i ≤ j))) := opB0 fun _ _ _ _ _ _ _ q => le_int q
theorem op_gt : OpR X (compareOp .Gt) (rI0 fun i j => .bl (decide (j < i))) := opB0 fun _ _ _ _ _ _ _ q => gt_int q
theorem op_ge : OpR X (compareOp .GtE) (rI0 fun i j => .bl (decide (j ≤ i))) := opB0 fun _ _ _ _ _ _ _ q => ge_int q
/-- is None, is not None: the right side a value none -/
theorem op_isN : OpR X (compareOp .Is) (fun x y H Q => y = .non ∧ Q (.bl (decide (x = .non))) H) := by
  intro pins s σ H x y v u Q I rx ry h
  obtain ⟨rfl, q⟩ := h
  cases ry
  refine is_none_gen (fin_bl I q ?_)
  cases x <;> first
    | (cases rx; rfl)
    | (obtain ⟨t, rfl⟩ := rx; rfl)
/-- is, is not of two objects that are tracked lists or instances -/
def isObj : HO → Bool
  | .lst _ => true
  | .ins _ _ _ => true
  | _ => false
theorem nomark (b : Expr) {op : CmpOp} (h : op ≠ .In := by decide) (h2 : op ≠ .NotIn := by decide) : behindInMarks op b = false := by
  have e1 : (op == CmpOp.In) = false := by cases op <;> first | rfl | exact absurd rfl h
  have e2 : (op == CmpOp.NotIn) = false := by cases op <;> first | rfl | exact absurd rfl h2
  cases b <;> simp [behindInMarks, e1, e2]
/-- a comparison as a value; hm: nomark b, or (for in, not in) by with_unfolding_all rfl -/
theorem pe_cmpR {op : CmpOp} {r : R2} (ho : OpR X (compareOp op) r) (ha : PE X a ta) (hb : PE X b tb) (hm : behindInMarks op b = false) : PE X (.Compare a [op] [b] pos) (tOp r ta tb) := by
  intro pins s σ H Q I h
  exact wpAny_Compare1 (binT ha hb I h fun v u s2 x y H2 I2 rx ry q => ho pins s2 σ H2 x y v u Q I2 rx ry q) hm
/-- a reading of a value as a test -/
def tTest (t : TE) : TT := fun σ H Q => t σ H fun x H' => ∃ k, x = .bl k ∧ Q k H'
theorem pt_cmpR {op : CmpOp} {r : R2} (ho : OpR X (compareOp op) r) (ha : PE X a ta) (hb : PE X b tb) (hm : behindInMarks op b = false) : PT X (.Compare a [op] [b] pos) (tTest (tOp r ta tb)) := by
  intro pins s σ H Q I h
  refine wpAny_isTrue_Compare1 (thn (ha pins s σ H _ I h) fun v s1 ⟨x, H1, I1, r1, q1⟩ => thn (hb pins s1 σ H1 _ I1 q1) fun u s2 ⟨y, H2, I2, r2, q2⟩ =>
    thn (ho pins s2 σ H2 x y v u _ I2 r1 r2 q2) fun c s3 ⟨z, H3, I3, r3, k, e, q3⟩ => ?_) hm
  subst e
  cases r3
  exact wpAny_truthy_bool ⟨H3, I3, q3⟩
/-- a op1 b op2 c -/
def tChain (r r' : R2) (ta tb tc : TE) : TE := fun σ H Q => ta σ H fun x H1 => tb σ H1 fun y H2 => r x y H2 fun z H3 => ∃ k, z = .bl k ∧
  (if k = true then tc σ H3 fun w' H4 => r' y w' H4 Q else Q (.bl false) H3)
theorem pe_chain {op op' : CmpOp} {r r' : R2} (ho : OpR X (compareOp op) r) (ho' : OpR X (compareOp op') r') (ha : PE X a ta) (hb : PE X b tb) (hc : PE X c tc)
    (hm : lastMarks [op, op'] [b, c] = false := by with_unfolding_all rfl) : PE X (.Compare a [op, op'] [b, c] pos) (tChain r r' ta tb tc) := by
  intro pins s σ H Q I h
  refine Compare_chain (thn (ha pins s σ H _ I h) fun v s1 ⟨x, H1, I1, r1, q1⟩ => chain_link (thn (hb pins s1 σ H1 _ I1 q1) fun u s2 ⟨y, H2, I2, r2, q2⟩ =>
    thn (ho pins s2 σ H2 x y v u _ I2 r1 r2 q2) fun d s3 ⟨z, H3, I3, r3, k, e, q3⟩ => ?_)) hm
  subst e
  cases r3
  refine wpAny_truthy_bool ?_
  cases k with
  | false => exact ite_ff ⟨.bl false, H3, I3, rfl, q3⟩
  | true => exact ite_tt (chain_last (thn (hc pins s3 σ H3 _ I3 q3) fun w' s4 ⟨z', H4, I4, r4, q4⟩ => ho' pins s4 σ H4 y z' u w' Q I4 r2 r4 q4))
/-! ### truth -/
/-- a value's truth by the abstract heap -/
def TruV (K : PySem.W.Frag) (x : V) (H : Hp) (k : Bool) : Prop :=
  match x with
  | .non => k = false
  | .bl b => k = b
  | .int i => k = (i != 0)
  | .str y => y.length ≤ sizeLine ∧ k = ((y.length : Int) != 0)
  | .byt y => y.size ≤ sizeLine ∧ k = ((y.size : Int) != 0)
  | .ref p => (∃ xs, SqL K H p xs ∧ k = !xs.isEmpty) ∨ (∃ xs, SqT K H p xs ∧ k = !xs.isEmpty) ∨ ∃ kvs, H p = some (.dK kvs) ∧ k = !kvs.isEmpty
  | _ => False
theorem line63 : (sizeLine : Nat) < 2 ^ 63 := by rw [sizeLine_eq]; decide
/-! ### strs and bytes -/
def PlainIxT (b : Expr) : Prop := ∀ o i, subscripted b false o i = operate [o, i] (getItem o i)
/-! ### scalar builtins, by CallR -/
theorem vals1 {x : V} {us : List Value} (r : Vals [x] us) : ∃ u, us = [u] ∧ RelV x u := by
  cases r with
  | cons r1 r2 => cases r2; exact ⟨_, rfl, r1⟩
theorem vals2 {x y : V} {us : List Value} (r : Vals [x, y] us) : ∃ u w', us = [u, w'] ∧ RelV x u ∧ RelV y w' := by
  cases r with
  | cons r1 r2 =>
    cases r2 with
    | cons r3 r4 => cases r4; exact ⟨_, _, rfl, r1, r3⟩
theorem call_max2 (hc : X.calm = true) : CallR X (.builtin "max") (fun xs H Q => ∃ i j, xs = [.int i, .int j] ∧ Q (.int (if j > i then j else i)) H) := by
  intro pins s σ H xs us Q I r h
  obtain ⟨i, j, rfl, q⟩ := h
  obtain ⟨u, w', rfl, ⟨t, rfl⟩, ⟨t', rfl⟩⟩ := vals2 r
  refine max_two_ints (I.ok.hd hc) fun h' tk k => ⟨_, H, I.kept k, ?_, q⟩
  by_cases hj : j > i
  · rw [if_pos hj, if_pos hj]; exact ⟨_, rfl⟩
  · rw [if_neg hj, if_neg hj]; exact ⟨_, rfl⟩
theorem call_min2 (hc : X.calm = true) : CallR X (.builtin "min") (fun xs H Q => ∃ i j, xs = [.int i, .int j] ∧ Q (.int (if j < i then j else i)) H) := by
  intro pins s σ H xs us Q I r h
  obtain ⟨i, j, rfl, q⟩ := h
  obtain ⟨u, w', rfl, ⟨t, rfl⟩, ⟨t', rfl⟩⟩ := vals2 r
  refine min_two_ints (I.ok.hd hc) fun h' tk k => ⟨_, H, I.kept k, ?_, q⟩
  by_cases hj : j < i
  · rw [if_pos hj, if_pos hj]; exact ⟨_, rfl⟩
  · rw [if_neg hj, if_neg hj]; exact ⟨_, rfl⟩
theorem call_int1 : CallR X (.type "int") (fun xs H Q => (∃ i, xs = [.int i] ∧ Q (.int i) H) ∨ ∃ k, xs = [.bl k] ∧ Q (.int (if k then 1 else 0)) H) := by
  intro pins s σ H xs us Q I r h
  rcases h with ⟨i, rfl, q⟩ | ⟨k, rfl, q⟩
  · obtain ⟨u, rfl, t, rfl⟩ := vals1 r
    exact call_int_int ⟨.int i, H, I, ⟨_, rfl⟩, q⟩
  · obtain ⟨u, rfl, r1⟩ := vals1 r
    cases r1
    exact call_int_bool ⟨.int (if k then 1 else 0), H, I.tok _, ⟨_, rfl⟩, q⟩
/-- len of a str, a bytes, a list, a tuple -/
def LenV (K : PySem.W.Frag) (x : V) (H : Hp) (n : Nat) : Prop :=
  match x with
  | .str y => y.length ≤ sizeLine ∧ n = y.length
  | .byt y => y.size ≤ sizeLine ∧ n = y.size
  | .ref p => (∃ xs, SqL K H p xs ∧ n = xs.length) ∨ ∃ xs, SqT K H p xs ∧ n = xs.length
  | _ => False
end
end L2

namespace L2
open PySem PySem.Spec PyProof.Rows

/-! ### an instance, its attributes a map -/
structure ObjM (h : Heap) (x dx C : Addr) (mA : Str → Option Value) : Prop where
  obj : h.get? x = some (PySem.W.instObj C dx)
  ns : h.Ns1 dx mA
  ne : dx ≠ x

section
variable {prog : Program} {w : World} {A : Around} {E : Value → Shared → Prop} {s : Shared} {K : PySem.W.Frag} {x dx C f : Addr} {mA : Str → Option Value} {name : Str} {v : Value}

end

/-! ### the attributes as a list of pairs -/
def putF (f : Str) (v : V) : List (Str × V) → List (Str × V)
  | [] => [(f, v)]
  | (g, x) :: r => if g = f then (g, v) :: r else (g, x) :: putF f v r
section
variable {P : Program} {w : World} {H H' : Hp} {h h' : Heap} {a C dx : Addr} {fs fs' : List (Str × V)}
end

/-! ### what of the text a class must have -/
structure Cls (K : PySem.W.Frag) (C : Addr) : Prop where
  pg : PySem.W.plainGet K C Str.empty = true
  hd : PySem.W.hasDictIn K C = true
  po : PySem.W.plainOver K C = true
  sa : PySem.W.findIn K (.ref C) "__setattr__" = some (some (.builtin "object.__setattr__"))
/-- no class of it has the name -/
def NoAttr (K : PySem.W.Frag) (C : Addr) (f : Str) : Prop := PySem.W.findIn K (.ref C) f = some none
/-- a constant of the class -/
structure Con (K : PySem.W.Frag) (C : Addr) (f : Str) (v : V) (u : Value) : Prop where
  at_ : PySem.W.findIn K (.ref C) f = some (some u)
  rel : RelV v u
  get : PySem.W.specialIn K u "__get__" = some none
  cp : PySem.W.copiedNames.contains f = false
/-- a method: a plain def of the class or of one above it -/
structure Meth (K : PySem.W.Frag) (C : Addr) (m : Str) (f : Addr) : Prop where
  at_ : PySem.W.findIn K (.ref C) m = some (some (.ref f))
  fn : PySem.W.isFn K (.ref f) = true
  kp : PySem.W.keepIn K (.ref f) = true

section
variable {X : Cx} {pins : List (Addr × Obj)} {σ : St} {H : Hp} {s : Shared} {a C dx : Addr} {fs : List (Str × V)} {f : Str} {v : V} {A : Around} {E : Value → Shared → Prop}

/-- e.f where nothing but the object is asked: through attributeBase (super) and the last hold -/
theorem attr_of {prog : Program} {w : World} {env : Env} {e : Expr} {f : Str} {pos : Pos} {s : Shared} {Q : Value → Shared → Prop} (hb : attributeBase e f env (eval e env) = eval e env)
    (h : wpAny (model prog w) A (eval e env) (fun o s₁ => wpAny (model prog w) A (getAttr o f true) Q E s₁) E s) : wpAny (model prog w) A (eval (.Attribute e f pos) env) Q E s :=
  Attribute_any_ h (by rw [arm_eval_Attribute, hb])
end

/-! ### readings and rules -/
/-- e.f, an attribute of the instance -/
def tFld (K : PySem.W.Frag) (ta : TE) (f : Str) : TE := fun σ H Q => ta σ H fun x H1 => ∃ a C dx fs v, x = .ref a ∧ H1 a = some (.ins C dx fs) ∧ Cls K C ∧ NoAttr K C f ∧ fs.lookup f = some v ∧ Q v H1
/-- e.f, a constant of the class -/
def tCon (K : PySem.W.Frag) (ta : TE) (f : Str) : TE := fun σ H Q => ta σ H fun x H1 => ∃ a C dx fs v u, x = .ref a ∧ H1 a = some (.ins C dx fs) ∧ Cls K C ∧ Con K C f v u ∧ fs.lookup f = none ∧ Q v H1
/-- e.f = value -/
def sFld (K : PySem.W.Frag) (ta tv : TE) (f : Str) : TS := fun D σ H => tv σ H fun y H1 => ta σ H1 fun x H2 => ∃ a C dx fs, x = .ref a ∧ H2 a = some (.ins C dx fs) ∧ Cls K C ∧ NoAttr K C f ∧ fs.length < 1000 ∧
  D.nx σ (upd H2 a (.ins C dx (putF f y fs)))
/-- an augmented operator on two values -/
def InOp (X : Cx) (op : Operator) (rd : V → V → Hp → VK → Prop) : Prop :=
  ∀ (pins : List (Addr × Obj)) (s : Shared) (σ : St) (H : Hp) (x y : V) (u v : Value) (Q : VK), Inv X pins σ H s → RelV x u → RelV y v → rd x y H Q → wpAny (model X.prog X.w) X.A (inplaceOp op u v) (EP X pins σ Q) X.xe s
/-- e.f op= value -/
def sFldAug (K : PySem.W.Frag) (ta tv : TE) (rd : V → V → Hp → VK → Prop) (f : Str) : TS := fun D σ H => ta σ H fun x H1 => ∃ a C dx fs v, x = .ref a ∧ H1 a = some (.ins C dx fs) ∧ Cls K C ∧ NoAttr K C f ∧ fs.lookup f = some v ∧
  tv σ H1 fun y H2 => rd v y H2 fun z H3 => ∃ dx' fs', H3 a = some (.ins C dx' fs') ∧ fs'.length < 1000 ∧ D.nx σ (upd H3 a (.ins C dx' (putF f z fs')))

section
variable {X : Cx} {o e value : Expr} {f : Str} {pos pos' tpos : Pos} {ta tv : TE}
def rAdd : V → V → Hp → VK → Prop := fun x y H Q => ∃ i j, x = .int i ∧ y = .int j ∧ Q (.int (i + j)) H
def rSub : V → V → Hp → VK → Prop := fun x y H Q => ∃ i j, x = .int i ∧ y = .int j ∧ Q (.int (i - j)) H
end

/-! ### isinstance -/
section
variable {X : Cx} {pins : List (Addr × Obj)} {σ : St} {H : Hp} {s : Shared} {A : Around} {E : Value → Shared → Prop} {Q : Value → Shared → Prop} {c : Value} {b : Bool}
/-- the type of a value, as the fragment's deciders take it; for an instance its class -/
inductive TyOf (K : PySem.W.Frag) (H : Hp) : V → Value → Prop where
  | non : TyOf K H .non (.type "NoneType")
  | bl (x : Bool) : TyOf K H (.bl x) (.type "bool")
  | int (i : Int) : TyOf K H (.int i) (.type "int")
  | str (x : Str) : TyOf K H (.str x) (.type "str")
  | flt (x : UInt64) : TyOf K H (.flt x) (.type "float")
  | lst {a : Addr} {xs : List V} (e : H a = some (.lst xs)) : TyOf K H (.ref a) (.type "list")
  | frz {a : Addr} {o : Obj} {xs : List V} (e : H a = some (.frz o (.lst xs))) : TyOf K H (.ref a) (.type "list")
  | tup {a : Addr} {xs : List V} (e : H a = some (.tup xs)) : TyOf K H (.ref a) (.type "tuple")
  | dK {a : Addr} {kvs : List (Key × V)} (e : H a = some (.dK kvs)) : TyOf K H (.ref a) (.type "dict")
  | dT {a : Addr} {kvs : List (List Key × V)} (e : H a = some (.dT kvs)) : TyOf K H (.ref a) (.type "dict")
  | ins {a C dx : Addr} {fs : List (Str × V)} (e : H a = some (.ins C dx fs)) (cl : Cls K C) (ha : PySem.W.findIn K (.ref C) "__class__" = some (some (.builtin "object.__class__")))
      (hn : PySem.W.specialIn K (.builtin "object.__class__") "__get__" = some (some (.builtin "getset_descriptor.__get__"))) (htk : PySem.W.takesIn K (.builtin "object.__class__") = some true)
      (hm : PySem.W.mroIn K C (.type "object") = some true) : TyOf K H (.ref a) (.ref C)
end
end L2

namespace L2
open PySem PySem.Spec PyProof.Rows

/-! ### room -/
structure Room (k : Nat) (A : Around) : Prop where
  hd : A.handled = none
  dp : A.depth + 3 * k + 5 < recursionLimit
  un : A.units + 16 * k + 200 < cLine
  gd : A.guards = some []
theorem Room.mono {j k : Nat} {A : Around} (r : Room k A) (h : j ≤ k) : Room j A := ⟨r.hd, by have := r.dp; omega, by have := r.un; omega, r.gd⟩
theorem Room.deeper {k : Nat} {A : Around} (r : Room (k + 1) A) (env : Env) : Room k (A.deeper env) :=
  ⟨r.hd, by have := r.dp; show A.depth + 1 + 3 * k + 5 < _; omega, by have := r.un; show A.units + 3 + 16 * k + 200 < _; omega, r.gd⟩
theorem make_depth {A : Around} {C : Addr} {us : List Value} {kw : List (Str × Value)} : (A.under (.builtin "type.__call__" ⟨.ref C :: us, kw⟩)).depth = A.depth + 1 := by
  first | rfl | simp [Around.under, Code.weight, Code.isCreation, Code.isGuard, Code.isCaller, Code.frames, Code.isFrame, guardIds]
theorem make_units {A : Around} {C : Addr} {us : List Value} {kw : List (Str × Value)} : (A.under (.builtin "type.__call__" ⟨.ref C :: us, kw⟩)).units = A.units + 1 := by
  first | rfl | simp [Around.under, Code.cUnits, Code.frames, Code.isFrame]
theorem make_guards {A : Around} {C : Addr} {us : List Value} {kw : List (Str × Value)} (h : A.guards = some []) : (A.under (.builtin "type.__call__" ⟨.ref C :: us, kw⟩)).guards = some [] := by
  first | exact h | (simpa [Around.under, Code.weight, Code.isCreation, Code.isGuard, Code.isCaller, Code.frames, Code.isFrame, guardIds] using h)
theorem Room.make {k : Nat} {A : Around} (r : Room (k + 1) A) (C : Addr) (us : List Value) (kw : List (Str × Value)) : Room k (A.under (.builtin "type.__call__" ⟨.ref C :: us, kw⟩)) :=
  ⟨r.hd, by have := r.dp; rw [make_depth]; omega, by have := r.un; rw [make_units]; omega, make_guards r.gd⟩
theorem Room.depth {k : Nat} {A : Around} (r : Room k A) : A.depth < recursionLimit := by have := r.dp; omega
/-! ### argument lists and displays -/
def tNil : TA := fun _ H Q => Q [] H
def tCons (ta : TE) (tr : TA) : TA := fun σ H Q => ta σ H fun x H1 => tr σ H1 fun xs H2 => Q (x :: xs) H2
section
variable {X : Cx} {e : Expr} {es : List Expr} {te : TE} {t : TA} {pos : Pos}
theorem pa_nil : PA X [] tNil := fun _ _ _ _ H Q I h => Calls.spliced_nil ⟨[], H, I, .nil, h⟩
theorem pa_cons (ha : PE X e te) (hr : PA X es t) (hs : starEach (e :: es) X.env = (false, eval e X.env) :: starEach es X.env := by rfl) : PA X (e :: es) (tCons te t) := by
  intro pos pins s σ H Q I h
  rw [hs]
  show wpAny _ _ (spliced ((false, eval e X.env) :: backTo pos (starEach es X.env))) _ _ s
  refine Calls.spliced_cons (thn (ha pins s σ H _ I h) fun u s1 ⟨x, H1, I1, r1, q1⟩ => ?_)
  exact thn (hr pos pins s1 σ H1 _ I1 q1) fun us s2 ⟨xs, H2, I2, r2, q2⟩ => ⟨x :: xs, H2, I2, .cons r1 r2, q2⟩

/-- a tuple, a list of written items -/
def tTup (t : TA) : TE := fun σ H Q => t σ H fun xs H1 => xs.length ≤ sizeLine ∧ ∀ p, H1 p = none → Q (.ref p) (upd H1 p (.tup xs))
def tLst (t : TA) : TE := fun σ H Q => t σ H fun xs H1 => xs.length ≤ sizeLine ∧ ∀ p, H1 p = none → Q (.ref p) (upd H1 p (.lst xs))
theorem pe_tup {x1} (h : PA X es t) : PE X (.Tuple es x1 pos) (tTup t) := by
  intro pins s σ H Q I hq
  refine wpAny_Tuple_spliced (thn (h pos pins s σ H _ I hq) fun us s1 ⟨xs, H1, I1, r, z, q⟩ => ⟨by rw [← r.length]; exact z, ?_⟩)
  have hf : H1 s1.heap.objs.size = none := I1.hok.fresh (Nat.le_refl _)
  refine ⟨.ref s1.heap.objs.size, upd H1 s1.heap.objs.size (.tup xs), I1.laid (t' := s1.toks) (fun b u e => Heap.get?_push_of_some _ e) (Nat.le_refl _) ?_, rfl, q _ hf⟩
  exact ⟨z, us, r, ⟨_, Heap.get?_push_size _ rfl, rfl, _, rfl⟩⟩
theorem pe_lst (h : PA X es t) : PE X (.List es pos) (tLst t) := by
  intro pins s σ H Q I hq
  refine wpAny_List_spliced (thn (h pos pins s σ H _ I hq) fun us s1 ⟨xs, H1, I1, r, z, q⟩ => ⟨by rw [← r.length]; exact z, ?_⟩)
  have hf : H1 s1.heap.objs.size = none := I1.hok.fresh (Nat.le_refl _)
  refine ⟨.ref s1.heap.objs.size, upd H1 s1.heap.objs.size (.lst xs), I1.laid (t' := s1.toks) (fun b u e => Heap.get?_push_of_some _ e) (Nat.le_refl _) ?_, rfl, q _ hf⟩
  exact ⟨z, us, 0, r, Heap.get?_push_size _ rfl⟩
end

/-! ### what a def promises -/
/-- a def's promise: the bound arguments in the parameters' order, the heap, the wanted end, the wanted exception -/
abbrev Sp := List V → Hp → VK → XK → Prop
/-- how an exception lies behind a call (file 08 gives it): the callers' frames, abstract heap and state ahead of the call, the wish, the exception, the state -/
abbrev CXT := List Env → Hp → Shared → XK → Value → Shared → Prop

/-- the state at a call -/
structure Env0 (P : Program) (w : World) (K : PySem.W.Frag) (mg : Str → Option Value) (base : Heap) (A : Around) (outer : List Env) (s : Shared) (H : Hp) : Prop where
  frames : A.frames = some outer
  mod : Mod K mg base
  bs : ∀ b o, base.get? b = some o → s.heap.get? b = some o ∧ H b = none
  bsz : base.objs.size ≤ s.heap.objs.size
  funs : s.heap.FunFrames base outer
  frf : ∀ b ∈ frs outer, H b = none
  hok : HOk P w H s.heap
  bare : AllBare s.gens
/-- a call's end -/
def CE (outer : List Env) (P : Program) (w : World) (H : Hp) (s : Shared) (Q : VK) (u : Value) (s' : Shared) : Prop :=
  ∃ v H', s'.os = s.os ∧ AllBare s'.gens ∧ Un (frs outer) [] H H' s.heap s'.heap ∧ HOk P w H' s'.heap ∧ RelV v u ∧ Q v H'
def CR (CX : CXT) (outer : List Env) (P : Program) (w : World) (H : Hp) (s : Shared) (Q : VK) (E : XK) (r : Result) (s' : Shared) : Prop :=
  match r with
  | .ok (.ret u) => CE outer P w H s Q u s'
  | .ok _ => False
  | .error e => CX outer H s E e s'
structure FnOk (P : Program) (w : World) (K : PySem.W.Frag) (mg : Str → Option Value) (base : Heap) (CX : CXT) (k : Nat) (f : Addr) (fd : FuncData) (ps : List Str) (sp : Sp) : Prop where
  len : ∀ vs H Q E, sp vs H Q E → vs.length = ps.length
  run : ∀ (A : Around) (outer : List Env) (s : Shared) (H : Hp) (args : Args) (us : List Value) (vs : List V) (Q : VK) (E : XK), Room k A → Env0 P w K mg base A outer s H → BindsTo s fd args (ps.zip us) → Vals vs us → sp vs H Q E →
    codeAny (model P w) A (.call (.ref f) args) (CR CX outer P w H s Q E) s
section
variable {X : Cx} {pins : List (Addr × Obj)} {σ : St} {H : Hp} {s s' : Shared}
/-- from a body: what a callee wants -/
theorem Inv.env0 (I : Inv X pins σ H s) : Env0 X.prog X.w X.K X.mg X.base X.A X.stack s H :=
  ⟨I.ok.frames, I.ok.mod, I.bs, Nat.le_trans I.ok.bsz I.sz, I.stack, I.stkFree, I.hok, I.bare⟩
/-- behind a call -/
theorem Inv.after {Q : VK} {u : Value} (I : Inv X pins σ H s) (h : CE X.stack X.prog X.w H s Q u s') : EP X pins σ Q u s' := by
  obtain ⟨v, H', os, bare, un, hok, r, q⟩ := h
  obtain ⟨hh, g, d, t, os'⟩ := s'
  obtain rfl : os' = s.os := os
  exact ⟨v, H', I.call (h' := hh) (g' := g) (d' := d) (t' := t) (ch := []) un hok bare (fun b z => absurd z (by simp)), r, q⟩
end

/-! ### calls -/
/-- f(..): the written arguments, then the defaults dvs; E: what is wanted of an exception -/
def tCall (sp : Sp) (dvs : List V) (E : XK) (t : TA) : TE := fun σ H Q => t σ H fun vs H1 => sp (vs ++ dvs) H1 Q E
/-- o.m(..) of an instance of the class at C -/
def tMeth (C : Addr) (m : Str) (sp : Sp) (dvs : List V) (E : XK) (ta : TE) (t : TA) : TE := fun σ H Q => ta σ H fun x H1 => ∃ a dx fs, x = .ref a ∧ H1 a = some (.ins C dx fs) ∧ fs.lookup m = none ∧
  t σ H1 fun vs H2 => sp (x :: (vs ++ dvs)) H2 Q E
/-- C(..): a new instance and its dict, then __init__ -/
def tMake (C : Addr) (sp : Sp) (dvs : List V) (E : XK) (t : TA) : TE := fun σ H Q => t σ H fun vs H1 => ∀ x dx, H1 x = none → H1 dx = none → dx ≠ x →
  sp (.ref x :: (vs ++ dvs)) (upd (upd H1 dx (.own x)) x (.ins C dx [])) (fun v H2 => v = .non ∧ Q (.ref x) H2) E

/-- how the parameters are bound: us the positional arguments, kw the keywords' values by name, ds the defaults that fill up -/
def Binds (K : PySem.W.Frag) (fd : FuncData) (ps : List Str) (ds : List Value) : Prop :=
  ∀ (s : Shared) (us : List Value), K.In s.heap → (us ++ ds).length = ps.length → BindsTo s fd ⟨us, []⟩ (ps.zip (us ++ ds))
/-- every parameter is given -/
theorem Binds.all {K : PySem.W.Frag} {fd : FuncData} {ps : List Str} (h : ∀ us : List Value, us.length = ps.length → bindArgs fd ⟨us, []⟩ = pure (ps.zip us)) : Binds K fd ps [] := fun s us _ hl => by
  rw [List.append_nil] at hl ⊢
  exact .of_eq (h us hl)

/-- an exception of a callee reaches what this body wants of exceptions -/
def Passes (CX : CXT) (X : Cx) (E : XK) : Prop := ∀ (pins : List (Addr × Obj)) (σ : St) (H : Hp) (s : Shared) (e : Value) (s' : Shared), Inv X pins σ H s → CX X.stack H s E e s' → X.xe e s'

section
variable {X : Cx} {CX : CXT} {k : Nat} {f C : Addr} {fd : FuncData} {ps : List Str} {sp : Sp} {dvs : List V} {ds : List Value} {E : XK} {x m : Str} {p pos apos : Pos} {e o : Expr} {es : List Expr} {ta : TE} {t : TA}

/-- the callee runs -/
theorem run_fn {pins : List (Addr × Obj)} {σ : St} {H : Hp} {s : Shared} {Q : VK} {us : List Value} {vs : List V} (F : FnOk X.prog X.w X.K X.mg X.base CX k f fd ps sp) (hr : Room k X.A) (hb : Binds X.K fd ps ds) (hd : Vals dvs ds) (hx : Passes CX X E)
    (I : Inv X pins σ H s) (r : Vals vs us) (h : sp (vs ++ dvs) H Q E) : wpAny (model X.prog X.w) X.A (call (.ref f) us) (EP X pins σ Q) X.xe s := by
  have r2 : Vals (vs ++ dvs) (us ++ ds) := r.append hd
  have hl : (us ++ ds).length = ps.length := by rw [← r2.length]; exact F.len _ _ _ _ h
  refine wpAny_call (codeAny_mono (F.run X.A X.stack s H ⟨us, []⟩ (us ++ ds) (vs ++ dvs) Q E hr I.env0 (hb s us I.kIn hl) r2 h) fun r s' hq => ?_)
  cases r with
  | error e => exact hx pins σ H s e s' I hq
  | ok fl =>
    cases fl with
    | ret u => exact I.after hq
    | next => exact False.elim hq
    | brk => exact False.elim hq
    | cont => exact False.elim hq

theorem pe_call (F : FnOk X.prog X.w X.K X.mg X.base CX k f fd ps sp) (hr : Room k X.A) (hg : Gl X x) (hm : X.mg x = some (.ref f)) (hk : PySem.W.keepIn X.K (.ref f) = true) (hb : Binds X.K fd ps ds) (hd : Vals dvs ds) (hx : Passes CX X E)
    (ha : PA X (e :: es) t) (hdb : (x == ("__debug__" : Str)) = false := by decide) (he : starEach (e :: es) X.env = (false, eval e X.env) :: starEach es X.env := by rfl) (hpl : (backTo pos (starEach es X.env)).any (·.1) = false := by rfl) :
    PE X (.Call (.Name x p) (e :: es) [] pos) (tCall sp dvs E t) := by
  intro pins s σ H Q I h
  refine wpAny_Call_Name_kw (ld_glob I hg hm ?_ hdb)
  refine PySem.W.callWith_K (h₀ := X.base) I.ok.mod.kin hk (thn (ha pos pins s σ H _ I h) fun us s1 ⟨vs, H1, I1, r, q⟩ => ⟨I1.kIn, ?_⟩) he hpl
  exact run_fn F hr hb hd hx I1 r q
/-- what a class must have to be made -/
structure Mk (K : PySem.W.Frag) (C f : Addr) : Prop where
  makes : PySem.W.makesIn K C = true
  init : PySem.W.findIn K (.ref C) "__init__" = some (some (.ref f))
  fn : PySem.W.isFn K (.ref f) = true
  kp : PySem.W.keepIn K (.ref C) = true

end

/-! ### keywords -/
/-- the values of the keywords, from the left -/
def PK (X : Cx) (kws : List Keyword) (t : TA) : Prop :=
  ∀ (pos : Pos) (pins : List (Addr × Obj)) (s : Shared) (σ : St) (H : Hp) (Q : List V → Hp → Prop), Inv X pins σ H s → t σ H Q → wpAny (model X.prog X.w) X.A (evalAll ((backToKw pos (keywordEach kws X.env)).map (·.2))) (AP X pins σ Q) X.xe s
section
variable {X : Cx} {CX : CXT} {k : Nat} {f C : Addr} {fd : FuncData} {ps ks : List Str} {sp : Sp} {E : XK} {x m : Str} {p pos apos kpos : Pos} {e o : Expr} {es : List Expr} {kws : List Keyword} {te ta : TE} {t tk : TA} {nm : Option Str}
/-- how a call with keywords binds: g puts the positional values us and the keywords' values ws (names ks) in the parameters' order, defaults among them -/
structure KBinds (K : PySem.W.Frag) (fd : FuncData) (ps ks : List Str) (g : List Value → List Value → List Value) (gV : List V → List V → List V) : Prop where
  to : ∀ (s : Shared) (us ws : List Value), K.In s.heap → (g us ws).length = ps.length → BindsTo s fd ⟨us, ks.zip ws⟩ (ps.zip (g us ws))
  rel : ∀ {vs : List V} {us : List Value} {zs : List V} {ws : List Value}, Vals vs us → Vals zs ws → Vals (gV vs zs) (g us ws)
def tCallK (sp : Sp) (gV : List V → List V → List V) (E : XK) (t tk : TA) : TE := fun σ H Q => t σ H fun vs H1 => tk σ H1 fun zs H2 => sp (gV vs zs) H2 Q E
variable {g : List Value → List Value → List Value} {gV : List V → List V → List V}
end

/-! ### a def's body keeps its promise -/
/-- names: the parameters first -/
structure FnScope (N P : List Str) (sc : Scope) : Prop where
  kind : sc.kind = .function
  co : sc.isCoroutine = false
  gen : sc.isGenerator = false
  nd : N.Nodup
  pre : N.take P.length = P
  par : ∀ x ∈ P, sc.names.lookup x = some .local ∨ sc.names.lookup x = some .cell
  nofree : ∀ y ∈ sc.names, y.2 ≠ .free

theorem bindL_out {kindOf : Str → Option NameKind} {x : Str} : ∀ {binds : List (Str × Value)} {m : Str → Option Value}, (∀ v, (x, v) ∉ binds) → bindL kindOf binds m x = m x
  | [], _, _ => rfl
  | (n, v) :: r, m, h => by
    unfold bindL
    rw [bindL_out fun w hw => h w (List.mem_cons_of_mem _ hw)]
    split
    · have : x ≠ n := by rintro rfl; exact h v List.mem_cons_self
      simp [this]
    · rfl
theorem bindC_out {kindOf : Str → Option NameKind} {x : Str} : ∀ {binds : List (Str × Value)} {m : Str → Option Value}, (∀ v, (x, v) ∉ binds) → bindC kindOf binds m x = m x
  | [], _, _ => rfl
  | (n, v) :: r, m, h => by
    unfold bindC
    rw [bindC_out fun w hw => h w (List.mem_cons_of_mem _ hw)]
    split
    · rfl
    · have : x ≠ n := by rintro rfl; exact h v List.mem_cons_self
      simp [this]
theorem bindL_get {kindOf : Str → Option NameKind} {x : Str} {v : Value} : ∀ {P : List Str} {vs : List Value} {i : Nat} {m : Str → Option Value}, P.Nodup → P[i]? = some x → vs[i]? = some v → kindOf x = some .local →
    bindL kindOf (P.zip vs) m x = some v
  | [], _, _, _, _, h, _, _ => by simp at h
  | _ :: _, [], _, _, _, _, h, _ => by simp at h
  | p :: P, w :: vs, 0, m, nd, h1, h2, hk => by
    simp at h1 h2; subst h1; subst h2
    show bindL kindOf ((p, w) :: P.zip vs) m p = _
    unfold bindL
    rw [bindL_out fun v hv => (List.nodup_cons.mp nd).1 (List.of_mem_zip hv).1, if_pos hk]
    simp
  | p :: P, w :: vs, i + 1, m, nd, h1, h2, hk => by
    show bindL kindOf ((p, w) :: P.zip vs) m x = _
    unfold bindL
    exact bindL_get (i := i) (List.nodup_cons.mp nd).2 (by simpa using h1) (by simpa using h2) hk
theorem bindC_get {kindOf : Str → Option NameKind} {x : Str} {v : Value} : ∀ {P : List Str} {vs : List Value} {i : Nat} {m : Str → Option Value}, P.Nodup → P[i]? = some x → vs[i]? = some v → kindOf x ≠ some .local →
    bindC kindOf (P.zip vs) m x = some v
  | [], _, _, _, _, h, _, _ => by simp at h
  | _ :: _, [], _, _, _, _, h, _ => by simp at h
  | p :: P, w :: vs, 0, m, nd, h1, h2, hk => by
    simp at h1 h2; subst h1; subst h2
    show bindC kindOf ((p, w) :: P.zip vs) m p = _
    unfold bindC
    rw [bindC_out fun v hv => (List.nodup_cons.mp nd).1 (List.of_mem_zip hv).1, if_neg hk]
    simp
  | p :: P, w :: vs, i + 1, m, nd, h1, h2, hk => by
    show bindC kindOf ((p, w) :: P.zip vs) m x = _
    unfold bindC
    exact bindC_get (i := i) (List.nodup_cons.mp nd).2 (by simpa using h1) (by simpa using h2) hk

/-- the names' values at the entry -/
def start (N : List Str) (vs : List V) : St := vs.map some ++ List.replicate (N.length - vs.length) none

/-- the context of a def's body, at its entry; an exception leaves the frame, then lies as CX says -/
def cxOf (CX : CXT) (P : Program) (w : World) (K : PySem.W.Frag) (mg : Str → Option Value) (base : Heap) (N : List Str) (qual : Str) (scope : Scope) (f : Addr) (cd : Value) (A : Around) (outer : List Env) (s : Shared) (H : Hp) (E : XK) : Cx where
  prog := P
  w := w
  K := K
  mg := mg
  base := base
  A := A.deeper (envOfC qual scope s.heap.objs.size f cd)
  N := N
  s₀ := s
  H₀ := H
  env := envOfC qual scope s.heap.objs.size f cd
  outer := outer
  stack := envOfC qual scope s.heap.objs.size f cd :: outer
  ex := []
  calm := true
  fn := fun _ => true
  pn := []
  xe := fun e s' => wpAny (model P w) (A.deeper (envOfC qual scope s.heap.objs.size f cd)) (leaving (envOfC qual scope s.heap.objs.size f cd) e) (fun _ s'' => CX outer H s E e s'') (fun e' s'' => CX outer H s E e' s'') s'

theorem cell_has {sc : Scope} {n : Nat} {x : Str} (h : sc.names.lookup x = some .cell) : ∃ c, (cellsFrom n sc.names []).lookup x = some c := by
  have q := PySem.W.cellsFrom_some sc.names n [] (.inl h)
  exact Option.isSome_iff_exists.mp q

theorem inv_start {CX : CXT} {P : Program} {w : World} {K : PySem.W.Frag} {mg : Str → Option Value} {base : Heap} {N ps : List Str} {qual : Str} {scope : Scope} {f : Addr} {cd : Value} {A : Around} {outer : List Env} {s s1 : Shared} {H : Hp} {E : XK} {us : List Value} {vs : List V}
    (S : FnScope N ps scope) (hd : A.handled = none) (e0 : Env0 P w K mg base A outer s H) (hl : vs.length = ps.length) (r : Vals vs us)
    (x : InCallC s s.heap.objs.size (bindL (envOfC qual scope s.heap.objs.size f cd).kindOf (ps.zip us) fun _ => none) (cellsFrom (s.heap.objs.size + 1) scope.names []) (bindC (envOfC qual scope s.heap.objs.size f cd).kindOf (ps.zip us) fun _ => none) s1) :
    Inv (cxOf CX P w K mg base N qual scope f cd A outer s H E) [] (start N vs) H s1 := by
  have hpl : ps.length ≤ N.length := by have := congrArg List.length S.pre; rw [List.length_take] at this; omega
  obtain ⟨h1, tk, rfl, hk⟩ := x.done
  have noA : ∀ b : Addr, b ∉ (cxOf CX P w K mg base N qual scope f cd A outer s H E).ex := fun b z => absurd (show b ∈ ([] : List Addr) from z) (by simp)
  refine ⟨⟨e0.mod, S.kind, rfl, rfl, Nat.le_refl _, fun y z c h1 h2 => ?_, fun y hy => ?_, fun y c _ h => ?_, fun _ => hd, Around.frames_deeper e0.frames, .inr ⟨rfl, rfl⟩, fun b z => absurd z (noA b), e0.bs, e0.bsz, fun b _ _ => noA b, fun b z => absurd z (noA b), e0.funs, e0.frf⟩,
    rfl, e0.bare, Un.kept hk, ⟨_, x.toInCall.ns, fun i y v h1 h2 h3 => ?_⟩, fun y c h => ⟨_, x.cell y c h⟩, e0.hok.fresh (Nat.le_refl _), fun y c h => ?_, fun p hp => absurd (show p ∈ ([] : List (Addr × Obj)) from hp) (by simp), e0.hok.kept hk, ?_⟩
  · exact name_of_addr x.apart (PySem.mem_of_lookup h1) (PySem.mem_of_lookup h2)
  · have hy : scope.names.lookup y = some .cell ∨ scope.names.lookup y = some .free := hy
    rcases hy with hy | hy
    · exact cell_has hy
    · exact absurd rfl (S.nofree _ (PySem.mem_of_lookup hy))
  · exact Nat.le_of_lt (x.above y c (PySem.mem_of_lookup h))
  · have hi : i < vs.length := by
      unfold start at h2
      by_cases hi : i < vs.length
      · exact hi
      · rw [List.getElem?_append_right (by simpa using hi)] at h2
        rw [List.getElem?_replicate] at h2
        split at h2 <;> cases h2
    have ha : vs[i]? = some v := by
      unfold start at h2
      rw [List.getElem?_append_left (by simpa using hi), List.getElem?_map] at h2
      cases e : vs[i]? with
      | none => rw [e] at h2; cases h2
      | some a => rw [e] at h2; cases h2; rfl
    obtain ⟨u, hu, rv⟩ := r.get ha
    have hp : ps[i]? = some y := by
      rw [← S.pre, List.getElem?_take_of_lt (by omega)]; exact h1
    have ndP : ps.Nodup := by rw [← S.pre]; exact S.nd.sublist (List.take_sublist _ _)
    refine ⟨u, rv, ?_⟩
    rcases S.par y (List.mem_of_getElem? hp) with k | k
    · exact .inl ⟨k, bindL_get ndP hp hu k⟩
    · obtain ⟨c, e⟩ := cell_has (n := s.heap.objs.size + 1) k
      refine .inr ⟨.inl k, c, e, ?_⟩
      have q := x.cell y c e
      rw [bindC_get ndP hp hu (by show scope.names.lookup y ≠ _; rw [k]; decide)] at q
      exact q
  · exact e0.hok.fresh (Nat.le_of_lt (x.above y c (PySem.mem_of_lookup h)))
  · unfold start
    show _ = N.length
    rw [List.length_append, List.length_map, List.length_replicate]
    omega

/-- THE RULE: a def (or a method) of the text, by its body. The body's reading t is chosen for each entry; it is run at the parameters' values -/
theorem fn_of {CX : CXT} {P : Program} {w : World} {K : PySem.W.Frag} {mg : Str → Option Value} {base : Heap} {k : Nat} {f : Addr} {name qual : Str} {params : Arguments} {body : List Stmt} {scope : Scope} {dV kV doc pm cdv ct oc : Value} {an od : Option Addr}
    {osl : Array (Option Value)} {N ps : List Str} {sp : Sp} (lk : K.lookup f = some ⟨oc, od, .func (PySem.W.fnOf name qual params body scope dV kV doc pm an cdv ct), osl⟩) (hcd : PySem.W.codeIn K cdv qual = true) (S : FnScope N ps scope)
    (len : ∀ vs H Q E, sp vs H Q E → vs.length = ps.length)
    (hbody : ∀ (A : Around) (outer : List Env) (s : Shared) (H : Hp) (vs : List V) (Q : VK) (E : XK), Room k (A.deeper (envOfC qual scope s.heap.objs.size f cdv)) → sp vs H Q E →
      ∃ t, PSs (cxOf CX P w K mg base N qual scope f cdv A outer s H E) body t ∧ t { nx := fun _ H' => Q .non H', rt := Q } (start N vs) H) :
    FnOk P w K mg base CX (k + 1) f (PySem.W.fnOf name qual params body scope dV kV doc pm an cdv ct) ps sp := by
  refine ⟨len, fun A outer s H args us vs Q E hr e0 hb r hsp => ?_⟩
  have hl := len _ _ _ _ hsp
  have KX : K.In s.heap := e0.mod.kin.keeps fun b o e => (e0.bs b o e).1
  have lim : s.heap.NoLimit := e0.mod.nolimit.keeps fun b o e => (e0.bs b o e).1
  have hkind : ∀ y ∈ ps.zip us, scope.names.lookup y.1 = some .local ∨ (scope.names.lookup y.1 = some .cell ∧ ((cellsFrom (s.heap.objs.size + 1) scope.names []).lookup y.1).isSome = true) := fun ⟨n, v⟩ hy => by
    rcases S.par n (List.of_mem_zip hy).1 with q | q
    · exact .inl q
    · exact .inr ⟨q, PySem.W.cellsFrom_some _ _ _ (.inl q)⟩
  refine codeAny_call_function hr.depth (KX _ _ lk) rfl S.co S.gen rfl (PySem.W.codeRec_of KX hcd) (hb _ _ _ _ ?_)
  refine wpAny_newFunctionEnv_cells S.kind hkind fun env he s1 x => ?_
  subst he
  refine ⟨lim.keeps x.toInCall.keep, codeAny_func ?_⟩
  obtain ⟨t, ht, hq⟩ := hbody A outer s H vs Q E (hr.deeper _) hsp
  have I : Inv (cxOf CX P w K mg base N qual scope f cdv A outer s H E) [] (start N vs) H s1 := inv_start S hr.hd e0 hl r x
  refine wpAny_mono (ht [] s1 (start N vs) H _ I hq) (fun fl s' hs => ?_) fun e s' hs => hs
  have fin : ∀ {σ' : St} {H' : Hp} {v : V} {u : Value}, Inv (cxOf CX P w K mg base N qual scope f cdv A outer s H E) [] σ' H' s' → RelV v u → Q v H' → CE outer P w H s Q u s' :=
    fun {σ' H' v u} J rv q => ⟨v, H', J.os, J.bare, J.base, J.hok, rv, q⟩
  cases fl with
  | ret u =>
    obtain ⟨v, σ', H', J, rv, q⟩ := hs
    exact fin J rv q
  | next =>
    obtain ⟨σ', H', J, q⟩ := hs
    exact fin (v := V.non) (u := Value.none) J rfl q
  | brk =>
    obtain ⟨_, _, _, q⟩ := hs
    exact False.elim q
  | cont =>
    obtain ⟨_, _, _, q⟩ := hs
    exact False.elim q
end L2

namespace L2
open PySem PySem.Spec PyProof.Rows
section
variable {X : Cx} {x : Str} {p pos : Pos} {e : Expr} {es : List Expr} {t : TA} {id T : String} {r : List V → Hp → VK → Prop}

def tCB (r : List V → Hp → VK → Prop) (t : TA) : TE := fun σ H Q => t σ H fun vs H1 => r vs H1 Q
/-- f(e, ..), f a built-in function -/
theorem pe_callB (hc : CallR X (.builtin id) r) (hg : Gl X x) (hm : X.mg x = none) (hv : bootBuiltins x = some (.builtin id)) (ha : PA X (e :: es) t) (hn : x ≠ "__name__" := by decide) (hdb : (x == ("__debug__" : Str)) = false := by decide)
    (he : starEach (e :: es) X.env = (false, eval e X.env) :: starEach es X.env := by rfl) (hpl : (backTo pos (starEach es X.env)).any (·.1) = false := by rfl) : PE X (.Call (.Name x p) (e :: es) [] pos) (tCB r t) := by
  intro pins s σ H Q I h
  refine wpAny_Call_Name_kw (ld_blt I hg hm hv ?_ hn hdb)
  exact PyProof.Rows.callWith_builtin1 (thn (ha pos pins s σ H _ I h) fun us s1 ⟨vs, H1, I1, r1, q1⟩ => hc pins s1 σ H1 vs us Q I1 r1 q1) he hpl
/-- T(e, ..), T a built-in type -/
theorem pe_callTy (hc : CallR X (.type T) r) (hg : Gl X x) (hm : X.mg x = none) (hv : bootBuiltins x = some (.type T)) (ha : PA X (e :: es) t) (hn : x ≠ "__name__" := by decide) (hdb : (x == ("__debug__" : Str)) = false := by decide)
    (he : starEach (e :: es) X.env = (false, eval e X.env) :: starEach es X.env := by rfl) (hpl : (backTo pos (starEach es X.env)).any (·.1) = false := by rfl) : PE X (.Call (.Name x p) (e :: es) [] pos) (tCB r t) := by
  intro pins s σ H Q I h
  refine wpAny_Call_Name_kw (ld_blt I hg hm hv ?_ hn hdb)
  exact PyProof.Rows.callWith_type1 (thn (ha pos pins s σ H _ I h) fun us s1 ⟨vs, H1, I1, r1, q1⟩ => hc pins s1 σ H1 vs us Q I1 r1 q1) he hpl
end
end L2

namespace HT
open PySem PyProof.Rows

/-- t < u of tuples of ints -/
def lexLt : List Int → List Int → Bool
  | [], [] => false
  | [], _ :: _ => true
  | _ :: _, [] => false
  | x :: xs, y :: ys => if x = y then lexLt xs ys else decide (x < y)
section
open PySem.SeqAt
open PySem.AutoSeq1 (wpAny_loadPart')
open PySem.MeetsSeq PySem.MeetsSeq2 PySem.MeetsSeq3

end

section
variable {prog : Program} {w : World} {A : Around} {E : Value → Shared → Prop} {s : Shared}

/-! ### t[a:b], not the whole -/
/-- a slice's bound as a place among n (d where it is left out) -/
def sIx (n d : Nat) : Option Int → Nat
  | none => d
  | some v => if v < 0 then (v + (n : Int)).toNat else min v.toNat n
theorem sIx_none (n d : Nat) : sIx n d none = d := rfl
theorem sIx_nat (n d k : Nat) : sIx n d (some (k : Int)) = min k n := by
  show (if (k : Int) < 0 then ((k : Int) + (n : Int)).toNat else min (k : Int).toNat n) = min k n
  rw [if_neg (by omega), Int.toNat_natCast]
end
end HT

namespace L2
open PySem PySem.Spec PyProof.Rows

/-! ### the parts of a slice -/
abbrev TO := St → Hp → (Option Int → Hp → Prop) → Prop
/-- a slice's part (left out, or an int) -/
def PO (X : Cx) (e : Option Expr) (t : TO) : Prop :=
  ∀ (pins : List (Addr × Obj)) (s : Shared) (σ : St) (H : Hp) (Q : Option Int → Hp → Prop), Inv X pins σ H s → t σ H Q →
    wpAny (model X.prog X.w) X.A (evalPart e X.env) (fun u s' => ∃ o H', Inv X pins σ H' s' ∧ IsPart u o ∧ Q o H') X.xe s
def tNoPart : TO := fun _ H Q => Q none H
def tPart (t : TE) : TO := fun σ H Q => t σ H fun x H1 => ∃ i, x = .int i ∧ Q (some i) H1

section
variable {X : Cx} {e : Expr} {te : TE} {lo hi : Option Expr} {tl th : TO} {pos p2 : Pos}

theorem po_none : PO X none tNoPart := by
  intro pins s σ H Q I h
  rw [evalPart_none]
  exact wpAny_pure ⟨none, H, I, .none, h⟩
theorem po_some (h : PE X e te) : PO X (some e) (tPart te) := by
  intro pins s σ H Q I hw
  rw [evalPart_some]
  refine thn (h pins s σ H _ I hw) fun u s1 ⟨x, H1, I1, r1, q1⟩ => ?_
  obtain ⟨i, rfl, q⟩ := q1
  obtain ⟨t, rfl⟩ := r1
  exact ⟨some i, H1, I1, .int i t, q⟩

/-- what a slice of a value is, by values: the slice object stands at sl -/
def SlR (X : Cx) (r : V → Option Int → Option Int → Hp → VK → Prop) : Prop :=
  ∀ (pins : List (Addr × Obj)) (s : Shared) (σ : St) (H : Hp) (x : V) (v vl vu : Value) (lo hi : Option Int) (sl : Addr) (Q : VK), Inv X pins σ H s → RelV x v → s.heap.IsSliceOf sl vl vu .none → IsPart vl lo → IsPart vu hi → r x lo hi H Q →
    ∃ T id, typeLookup (.type T) "__getitem__" = pure (some (.builtin id)) ∧ s.TypeIs v T ∧ wpAny (model X.prog X.w) X.A (getItem v (.ref sl)) (EP X pins σ Q) X.xe s
def tSl (r : V → Option Int → Option Int → Hp → VK → Prop) (te : TE) (tl th : TO) : TE := fun σ H Q => te σ H fun x H1 => tl σ H1 fun l H2 => th σ H2 fun u H3 => r x l u H3 Q
/-- a[lo:hi], any a -/
theorem pe_slice {r : V → Option Int → Option Int → Hp → VK → Prop} (hr : SlR X r) (he : PE X e te) (hl : PO X lo tl) (hu : PO X hi th) : PE X (.Subscript e (.Slice lo hi none p2) pos) (tSl r te tl th) := by
  intro pins s σ H Q I h
  refine Subscript_ (thn (he pins s σ H _ I h) fun v s1 ⟨x, H1, I1, r1, q1⟩ => ?_)
  refine wpAny_Slice (thn (hl pins s1 σ H1 _ I1 q1) fun vl s2 ⟨l, H2, I2, pl, q2⟩ => thn (hu pins s2 σ H2 _ I2 q2) fun vu s3 ⟨u, H3, I3, pu, q3⟩ => ?_)
  rw [evalPart_none]
  refine wpAny_pure ?_
  have I4 : Inv X pins σ H3 { s3 with heap := s3.heap.push { cls := .type "slice", data := .fields #[vl, vu, .none] } } := I3.kept (t' := s3.toks) fun b ob q => Heap.get?_push_of_some _ q
  obtain ⟨T, id, hT, ht, hg⟩ := hr pins { s3 with heap := s3.heap.push { cls := .type "slice", data := .fields #[vl, vu, .none] } } σ H3 x v vl vu l u s3.heap.objs.size Q I4 r1 (Heap.IsSliceOf.new ..) pl pu q3
  show wpAny (model X.prog X.w) X.A (subscriptTail e (.Slice lo hi none p2) v (.ref s3.heap.objs.size)) (EP X pins σ Q) X.xe { s3 with heap := s3.heap.push { cls := .type "slice", data := .fields #[vl, vu, .none] } }
  exact tail_any (ops := [.ref s3.heap.objs.size, v]) ht hT hg (by with_unfolding_all rfl)

/-- the items of xs[lo:hi] -/
def cutV (xs : List V) (lo hi : Option Int) : List V := (xs.drop (HT.sIx xs.length 0 lo)).take (HT.sIx xs.length xs.length hi - HT.sIx xs.length 0 lo)
theorem cutV_length (xs : List V) (lo hi : Option Int) : (cutV xs lo hi).length ≤ xs.length := by
  unfold cutV
  rw [List.length_take, List.length_drop]
  omega
/-- t[lo:hi], not the whole of it (the whole would be t itself) -/
def rSlT (K : PySem.W.Frag) : V → Option Int → Option Int → Hp → VK → Prop := fun x lo hi H Q => ∃ a xs, x = .ref a ∧ SqT K H a xs ∧
  ¬ (HT.sIx xs.length 0 lo = 0 ∧ HT.sIx xs.length xs.length hi = xs.length) ∧ ∀ p, H p = none → Q (.ref p) (upd H p (.tup (cutV xs lo hi)))
/-! ### t < u, t + u -/
def rLtT (K : PySem.W.Frag) : R2 := fun x y H Q => ∃ a b ns ms, x = .ref a ∧ y = .ref b ∧ SqT K H a (ns.map V.int) ∧ SqT K H b (ms.map V.int) ∧ Q (.bl (HT.lexLt ns ms)) H
/-- t + u, t not empty: u empty gives t itself -/
def rCatT (K : PySem.W.Frag) : R2 := fun x y H Q => ∃ a b xs ys, x = .ref a ∧ y = .ref b ∧ SqT K H a xs ∧ SqT K H b ys ∧ xs ≠ [] ∧ xs.length + ys.length ≤ sizeLine ∧
  (ys = [] → Q (.ref a) H) ∧ (ys ≠ [] → ∀ p, H p = none → Q (.ref p) (upd H p (.tup (xs ++ ys))))
end
end L2

namespace L2
open PySem PySem.Spec PyProof.Rows

/-! ### places -/
/-- the place that an index of any sign means -/
def ixN (n : Nat) (i : Int) : Option Nat := if 0 ≤ i then (if i < n then some i.toNat else none) else if -(n : Int) ≤ i then some (i + n).toNat else none
def atI {α : Type} (xs : List α) (i : Int) : Option α := (ixN xs.length i).bind fun j => xs[j]?
theorem ixN_seq {n : Nat} {i : Int} {j : Nat} (h : ixN n i = some j) : seqIndex? i n = some j ∧ j < n ∧ -(n : Int) ≤ i ∧ i < n := by
  unfold ixN at h
  by_cases h0 : 0 ≤ i
  · rw [if_pos h0] at h
    by_cases h1 : i < n
    · rw [if_pos h1] at h
      have e : i.toNat = j := Option.some.inj h
      exact ⟨by rw [seqIndex_of h0 h1, e], by omega, by omega, h1⟩
    · rw [if_neg h1] at h; cases h
  · rw [if_neg h0] at h
    by_cases h1 : -(n : Int) ≤ i
    · rw [if_pos h1] at h
      have e : (i + n).toNat = j := Option.some.inj h
      exact ⟨by rw [seqIndex_neg (by omega) h1, e], by omega, h1, by omega⟩
    · rw [if_neg h1] at h; cases h
theorem atI_get {α : Type} {xs : List α} {i : Int} {v : α} (h : atI xs i = some v) : ∃ j, seqIndex? i xs.length = some j ∧ xs[j]? = some v ∧ j < xs.length ∧ -(xs.length : Int) ≤ i ∧ i < xs.length := by
  unfold atI at h
  cases e : ixN xs.length i with
  | none => rw [e] at h; cases h
  | some j =>
    rw [e] at h
    obtain ⟨h1, h2, h3, h4⟩ := ixN_seq e
    exact ⟨j, h1, h, h2, h3, h4⟩
theorem atI_nat {α : Type} {xs : List α} {j : Nat} {v : α} (h : xs[j]? = some v) : atI xs (j : Int) = some v := by
  have hj : j < xs.length := (List.getElem?_eq_some_iff.mp h).1
  have e : ixN xs.length (j : Int) = some j := by
    unfold ixN
    rw [if_pos (by omega), if_pos (by omega)]; simp
  unfold atI; rw [e]; exact h
/-! ### what may be subscripted -/
/-- what stands as an index of a plain subscript -/
def PlainIx (b : Expr) : Prop := ∀ o i, subscripted b false o i = operate [o, i] (getItem o i)
/-- a subscript by values -/
def IxR (X : Cx) (r : R2) : Prop :=
  ∀ (value slice : Expr) (pins : List (Addr × Obj)) (s : Shared) (σ : St) (H : Hp) (x y : V) (v u : Value) (Q : VK), Inv X pins σ H s → RelV x v → RelV y u → r x y H Q →
    subscripted slice false v u = operate [v, u] (getItem v u) → wpAny (model X.prog X.w) X.A (subscriptTail value slice v u) (EP X pins σ Q) X.xe s
/-- a call of a builtin's method by values: the receiver, the arguments -/
def MtR (X : Cx) (id : String) (r : V → List V → Hp → VK → Prop) : Prop :=
  ∀ (pins : List (Addr × Obj)) (s : Shared) (σ : St) (H : Hp) (x : V) (xs : List V) (v : Value) (us : List Value) (Q : VK), Inv X pins σ H s → RelV x v → Vals xs us → r x xs H Q →
    wpAny (model X.prog X.w) X.A (call (.builtin id) (v :: us)) (EP X pins σ Q) X.xe s
section
variable {X : Cx} {a b : Expr} {ta tb : TE} {pos : Pos}
/-- a[b] -/
theorem pe_ix {r : R2} (hr : IxR X r) (ha : PE X a ta) (hb : PE X b tb) (hs : PlainIx b) : PE X (.Subscript a b pos) (tOp r ta tb) := by
  intro pins s σ H Q I h
  exact Subscript_ (binT ha hb I h fun v u s2 x y H2 I2 rx ry q => hr a b pins s2 σ H2 x y v u Q I2 rx ry q (hs _ _))

def rIxL (K : PySem.W.Frag) : R2 := fun x y H Q => ∃ p xs i v, x = .ref p ∧ y = .int i ∧ SqL K H p xs ∧ atI xs i = some v ∧ Q v H
def rIxT (K : PySem.W.Frag) : R2 := fun x y H Q => ∃ p xs i v, x = .ref p ∧ y = .int i ∧ SqT K H p xs ∧ atI xs i = some v ∧ Q v H
def rIxS : R2 := fun x y H Q => ∃ z i c, x = .str z ∧ y = .int i ∧ z.length ≤ sizeLine ∧ atI z.cps.toList i = some c ∧ Q (.str ⟨#[c]⟩) H
theorem ix_list : IxR X (rIxL X.K) := by
  intro value slice pins s σ H x y v u Q I rx ry h hs
  obtain ⟨p, xs, i, z, rfl, rfl, hq, he, q⟩ := h
  cases rx
  obtain ⟨t, rfl⟩ := ry
  obtain ⟨its, r, pl, hz⟩ := I.list hq
  obtain ⟨j, h1, h2, h3, h4, h5⟩ := atI_get he
  obtain ⟨w, ew, rw'⟩ := r.get h2
  have hl := r.length
  have hn := line63
  have fin : EP X pins σ Q w s := ⟨z, H, I, rw', q⟩
  by_cases h0 : 0 ≤ i
  · have hj : i.toNat = j := by
      rw [seqIndex_of h0 h5] at h1
      exact Option.some.inj h1
    exact item_listR pl.isList h0 (by omega) (by rw [hj]; simpa using ew) fin hs
  · have hj : (i + (its.toArray.size : Int)).toNat = j := by
      rw [seqIndex_neg (by omega) h4] at h1
      rw [List.size_toArray, ← hl]
      exact Option.some.inj h1
    exact subscriptTail_builtinR (x := w) pl.isList.typeIs slot_list_getitem.lookup
      (wpAny_getItem_list_neg (Q := fun r s' => r = w ∧ EP X pins σ Q r s') pl.isList (by omega) (by rw [List.size_toArray] <;> omega) (by omega) (by rw [hj]; simpa using ew) ⟨rfl, fin⟩) hs
theorem ix_tup : IxR X (rIxT X.K) := by
  intro value slice pins s σ H x y v u Q I rx ry h hs
  obtain ⟨p, xs, i, z, rfl, rfl, hq, he, q⟩ := h
  cases rx
  obtain ⟨t, rfl⟩ := ry
  obtain ⟨its, r, pl, hz⟩ := I.tuple hq
  obtain ⟨j, h1, h2, h3, h4, h5⟩ := atI_get he
  obtain ⟨w, ew, rw'⟩ := r.get h2
  have hl := r.length
  have hn := line63
  have fin : EP X pins σ Q w s := ⟨z, H, I, rw', q⟩
  exact subscriptTail_builtinR (x := w) pl.typeIs slot_tuple_getitem.lookup
    (getItem_tuple (j := j) (Q := fun r s' => r = w ∧ EP X pins σ Q r s') pl (by omega) (by omega) (by rw [List.size_toArray, ← hl]; exact h1) (by simpa using ew) ⟨rfl, fin⟩) hs
/-- list, tuple or str -/
def rIx (K : PySem.W.Frag) : R2 := fun x y H Q => rIxL K x y H Q ∨ rIxT K x y H Q ∨ rIxS x y H Q
/-! ### xs[i] = v, any sign -/
/-- the list's object behind a store -/
theorem mapSeq_set (its : List Value) (n j : Nat) (u : Value) : Obj.mapSeq (·.setIfInBounds j u) { cls := .type "list", data := .seq its.toArray n } = { cls := .type "list", data := .seq (its.set j u).toArray n } := by
  simp [Obj.mapSeq]
theorem Inv.lst {pins : List (Addr × Obj)} {σ : St} {H : Hp} {s : Shared} {p : Addr} {xs : List V} (I : Inv X pins σ H s) (h : H p = some (.lst xs)) :
    ∃ (its : List Value) (n : Nat), Vals xs its ∧ s.heap.get? p = some { cls := .type "list", data := .seq its.toArray n } ∧ xs.length ≤ sizeLine := by
  obtain ⟨z, its, n, r, e⟩ := I.hok p _ h
  exact ⟨its, n, r, e, z⟩
/-- the list at p is written by an update of its object -/
theorem Inv.lstUpd {pins : List (Addr × Obj)} {σ : St} {H : Hp} {s : Shared} {p : Addr} {xs ys : List V} {its its' : List Value} {n n' : Nat} {f : Obj → Obj} (I : Inv X pins σ H s) (h : H p = some (.lst xs))
    (ho : s.heap.get? p = some { cls := .type "list", data := .seq its.toArray n }) (hf : f { cls := .type "list", data := .seq its.toArray n } = { cls := .type "list", data := .seq its'.toArray n' }) (r : Vals ys its') (hz : ys.length ≤ sizeLine) (t : Nat) :
    Inv X pins σ (upd H p (.lst ys)) { s with heap := s.heap.update p f, toks := t } := by
  have e : (s.heap.update p f).get? p = some { cls := .type "list", data := .seq its'.toArray n' } := by
    rw [Heap.get?_update_self f ho (by rw [hf] <;> rfl), hf]
  refine I.write (x := p) (e := p) (by rw [h]; trivial) (.inl rfl) (fun b u hb q => (Heap.get?_update_other _ _ (Ne.symm hb)).trans q) ⟨_, e⟩ ?_
  exact ⟨hz, its', n', r, e⟩
def rSetL : V → V → V → Hp → (Hp → Prop) → Prop := fun o i v H Q => ∃ p xs k j, o = .ref p ∧ i = .int k ∧ H p = some (.lst xs) ∧ ixN xs.length k = some j ∧ Q (upd H p (.lst (xs.set j v)))
theorem set_list : PSet X rSetL := by
  intro pins s σ H o i v ov iv u Q I ro ri rv h
  obtain ⟨p, xs, k, j, rfl, rfl, hp, hj, q⟩ := h
  cases ro
  obtain ⟨t, rfl⟩ := ri
  obtain ⟨its, n, r, ho, hz⟩ := I.lst hp
  obtain ⟨h1, h2, h3, h4⟩ := ixN_seq hj
  have hl := r.length
  have hn := line63
  have I' : Inv X pins σ (upd H p (.lst (xs.set j v))) { s with heap := s.heap.update p (Obj.mapSeq (·.setIfInBounds j u)) } :=
    I.lstUpd hp ho (mapSeq_set its n j u) (r.set rv j) (by rw [List.length_set]; exact hz) s.toks
  by_cases h0 : 0 ≤ k
  · have hk : k.toNat = j := by
      rw [seqIndex_of h0 h4] at h1
      exact Option.some.inj h1
    exact PySem.W.ki_setAt ho h0 (by omega) (by rw [List.size_toArray, ← hl]; exact h4) (by rw [hk]; exact ⟨_, I', q⟩)
  · have hk : (k + (its.toArray.size : Int)).toNat = j := by
      rw [seqIndex_neg (by omega) h3] at h1
      rw [List.size_toArray, ← hl]
      exact Option.some.inj h1
    exact PySem.W.ki_setBack ho (by omega) (by rw [List.size_toArray, ← hl]; exact h3) (by omega) (by rw [hk]; exact ⟨_, I', q⟩)

/-! ### slices -/
theorem slice_bounds (lo hi : Option Int) (n : Nat) : (sliceBounds lo hi none n).1 = ((HT.sIx n 0 lo : Nat) : Int) ∧ (sliceBounds lo hi none n).2.1 = ((HT.sIx n n hi : Nat) : Int) ∧ (sliceBounds lo hi none n).2.2 = 1 := by
  refine ⟨?_, ?_, rfl⟩
  · cases lo with
    | none => simp [sliceBounds, HT.sIx]
    | some i =>
      simp only [sliceBounds, HT.sIx, Option.getD_none, show (1 : Int) > 0 by decide, if_true]
      by_cases h : i < 0
      · simp only [h, if_true] <;> omega
      · simp only [h, if_false] <;> omega
  · cases hi with
    | none => simp [sliceBounds, HT.sIx]
    | some i =>
      simp only [sliceBounds, HT.sIx, Option.getD_none, show (1 : Int) > 0 by decide, if_true]
      by_cases h : i < 0
      · simp only [h, if_true] <;> omega
      · simp only [h, if_false] <;> omega
theorem slicePick_cut (its : List Value) (lo hi : Option Int) : slicePick its.toArray lo hi none = ((its.drop (HT.sIx its.length 0 lo)).take (HT.sIx its.length its.length hi - HT.sIx its.length 0 lo)).toArray := by
  obtain ⟨h1, h2, h3⟩ := slice_bounds lo hi its.toArray.size
  unfold slicePick
  rw [h1, h2, h3]
  simp only [sliceRange_one, pick_run, List.size_toArray] <;> rfl
/-- xs[lo:hi] of a list: a new list -/
def rSlL (K : PySem.W.Frag) : V → Option Int → Option Int → Hp → VK → Prop := fun x lo hi H Q => ∃ a xs, x = .ref a ∧ SqL K H a xs ∧ ∀ p, H p = none → Q (.ref p) (upd H p (.lst (cutV xs lo hi)))
theorem sl_list : SlR X (rSlL X.K) := by
  intro pins s σ H x v vl vu lo hi sl Q I rx hs pl pu h
  obtain ⟨a, xs, rfl, hx, q⟩ := h
  cases rx
  obtain ⟨its, r, ht, hz⟩ := I.list hx
  have hlen := r.length
  refine ⟨"list", _, slot_list_getitem.lookup, ht.isList.typeIs, ?_⟩
  refine wpAny_getItem_list_slice ht.isList hs pl pu .none (by simp) ?_ (by rw [List.size_toArray] <;> omega)
  rw [slicePick_cut, ← hlen]
  refine ⟨.ref s.heap.objs.size, _, I.laid (t' := s.toks) (o := .lst (cutV xs lo hi)) (fun b ob q => Heap.get?_push_of_some _ q) (Nat.le_refl _) ?_, rfl, q _ (I.hok.fresh (Nat.le_refl _))⟩
  exact ⟨Nat.le_trans (cutV_length xs lo hi) hz, _, 0, (r.drop (HT.sIx xs.length 0 lo)).take (HT.sIx xs.length xs.length hi - HT.sIx xs.length 0 lo), Heap.get?_push_size _ rfl⟩

/-! ### in, not in: flat items -/
def flatV : V → Bool
  | .non => true
  | .bl _ => true
  | .int _ => true
  | .str _ => true
  | _ => false
/-- == of flat values -/
def eqV : V → V → Bool
  | .non, .non => true
  | .bl a, .bl b => a == b
  | .bl a, .int b => (if a then 1 else 0) == b
  | .int a, .bl b => a == (if b then 1 else 0)
  | .int a, .int b => a == b
  | .str a, .str b => a == b
  | _, _ => false
/-- the items' answers, read off the values (a value's own answer does not lean on its token) -/
def eqU (x : V) (u : Value) : Bool := match u with
  | .none => eqV .non x
  | .bool b => eqV (.bl b) x
  | .int i _ => eqV (.int i) x
  | .str z _ => eqV (.str z) x
  | _ => false
def inV (x : V) (xs : List V) : Bool := xs.any fun y => eqV y x
/-- x in a list or tuple of flat items -/
def rIn (K : PySem.W.Frag) (neg : Bool) : R2 := fun x y H Q => ∃ p xs, y = .ref p ∧ (SqL K H p xs ∨ SqT K H p xs) ∧ flatV x = true ∧ xs.all flatV = true ∧ Q (.bl (if neg then !inV x xs else inV x xs)) H
/-! ### len, list(x), tuple(x) of any list or tuple that is read -/
theorem call_len_seq : CallR X (.builtin "len") (fun xs H Q => ∃ p ys, xs = [.ref p] ∧ (SqL X.K H p ys ∨ SqT X.K H p ys) ∧ Q (.int ys.length) H) := by
  intro pins s σ H xs us Q I r h
  obtain ⟨p, ys, rfl, hq, q⟩ := h
  obtain ⟨u, rfl, rx⟩ := vals1 r
  cases rx
  have hn := line63
  rcases hq with hq | hq
  · obtain ⟨its, r', pl, hz⟩ := I.list hq
    have hlen := r'.length
    exact Calls.call_len_list pl.isList (by simp only [List.size_toArray] <;> omega) ⟨.int ys.length, H, I.tok _, ⟨s.toks + 1, by rw [List.size_toArray, hlen]⟩, q⟩
  · obtain ⟨its, r', pl, hz⟩ := I.tuple hq
    have hlen := r'.length
    exact len_tuple pl (by simp only [List.size_toArray] <;> omega) ⟨.int ys.length, H, I.tok _, ⟨s.toks + 1, by rw [List.size_toArray, hlen]⟩, q⟩
theorem call_list_of : CallR X (.type "list") (fun xs H Q => ∃ p ys, xs = [.ref p] ∧ (SqL X.K H p ys ∨ SqT X.K H p ys) ∧ ∀ l, H l = none → Q (.ref l) (upd H l (.lst ys))) := by
  intro pins s σ H xs us Q I r h
  obtain ⟨p, ys, rfl, hq, q⟩ := h
  obtain ⟨u, rfl, rx⟩ := vals1 r
  cases rx
  have fin : ∀ (its : List Value), Vals ys its → ys.length ≤ sizeLine → ∀ (h' : Heap) (c' : Nat), (∀ b o', s.heap.get? b = some o' → h'.get? b = some o') →
      h'.get? s.heap.objs.size = some { cls := .type "list", dict := none, data := .seq its.toArray c', slots := #[] } → EP X pins σ Q (.ref s.heap.objs.size) { s with heap := h' } := fun its r' hz h' c' kp e =>
    ⟨.ref s.heap.objs.size, _, I.laid (t' := s.toks) kp (Nat.le_refl _) (show ObjOk X.prog X.w _ h' _ (.lst ys) from ⟨hz, its, c', r', e⟩), rfl, q _ (I.hok.fresh (Nat.le_refl _))⟩
  rcases hq with hq | hq
  · obtain ⟨its, r', pl, hz⟩ := I.list hq
    have hlen := r'.length
    obtain ⟨o, ho, hc, n, hd⟩ := pl.isList
    exact call_list_seq p (.inl rfl) ho hc hd (fun h' c' kp e => fin its r' hz h' c' kp e) (by simp only [List.size_toArray] <;> omega)
  · obtain ⟨its, r', pl, hz⟩ := I.tuple hq
    have hlen := r'.length
    obtain ⟨o, ho, hc, n, hd⟩ := pl
    exact call_list_seq p (.inr rfl) ho hc hd (fun h' c' kp e => fin its r' hz h' c' kp e) (by simp only [List.size_toArray] <;> omega)
theorem call_tuple_of : CallR X (.type "tuple") (fun xs H Q => ∃ p ys, xs = [.ref p] ∧ ((SqL X.K H p ys ∧ ∀ l, H l = none → Q (.ref l) (upd H l (.tup ys))) ∨ (SqT X.K H p ys ∧ Q (.ref p) H))) := by
  intro pins s σ H xs us Q I r h
  obtain ⟨p, ys, rfl, h⟩ := h
  obtain ⟨u, rfl, rx⟩ := vals1 r
  cases rx
  rcases h with ⟨hq, q⟩ | ⟨hq, q⟩
  · obtain ⟨its, r', pl, hz⟩ := I.list hq
    have hlen := r'.length
    refine call_tuple_list pl.isList (fun h' kp => ?_) (by simp only [List.size_toArray] <;> omega)
    have I1 : Inv X pins σ H { s with heap := h' } := I.kept (t' := s.toks) kp
    have I2 : Inv X pins σ (upd H h'.objs.size (.tup ys)) { s with heap := h'.push { cls := .type "tuple", data := .seq its.toArray } } :=
      I1.laid (t' := s.toks) (fun b o e => Heap.get?_push_of_some _ e) (Nat.le_refl _) (show ObjOk X.prog X.w _ _ _ (.tup ys) from ⟨hz, its, r', IsTup.new _ _⟩)
    exact ⟨.ref h'.objs.size, _, I2, rfl, q _ (I1.hok.fresh (Nat.le_refl _))⟩
  · obtain ⟨its, r', pl, hz⟩ := I.tuple hq
    exact call_tuple_same pl ⟨.ref p, H, I, rfl, q⟩

/-! ### the call of a builtin's method: o.m(..) -/
/-- the value is of that builtin type -/
def tyV (K : PySem.W.Frag) (T : String) (x : V) (H : Hp) : Prop := match x with
  | .str _ => T = "str"
  | .int _ => T = "int"
  | .ref p => (T = "list" ∧ ∃ xs, SqL K H p xs) ∨ (T = "tuple" ∧ ∃ o, K.lookup p = some o ∧ o.cls = .type "tuple" ∧ o.dict = none) ∨
      (T = "dict" ∧ ((∃ kvs, H p = some (.dK kvs)) ∨ ∃ kvs, H p = some (.dT kvs))) ∨ (T = "set" ∧ ∃ S n, H p = some (.set S n))
  | _ => False
theorem tyV_is {pins : List (Addr × Obj)} {σ : St} {H : Hp} {s : Shared} {T : String} {x : V} {v : Value} (I : Inv X pins σ H s) (r : RelV x v) (ty : tyV X.K T x H) :
    s.TypeIs v T ∧ ∀ a, v = .ref a → ∃ ob, s.heap.get? a = some ob ∧ ob.dict = none := by
  cases x with
  | str z =>
    obtain ⟨t, rfl⟩ := r
    cases (show T = "str" from ty)
    exact ⟨typeIs_str s z t, fun _ e => nomatch e⟩
  | int i =>
    obtain ⟨t, rfl⟩ := r
    cases (show T = "int" from ty)
    exact ⟨typeIs_int s i t, fun _ e => nomatch e⟩
  | ref p =>
    cases r
    rcases ty with ⟨rfl, xs, hq⟩ | ⟨rfl, o, hk, hc, hd⟩ | ⟨rfl, hk⟩ | ⟨rfl, S, n, hk⟩
    · obtain ⟨its, _, pl, _⟩ := I.list hq
      refine ⟨pl.isList.typeIs, fun a e => ?_⟩
      cases e
      obtain ⟨o, n, e, c, hd, _⟩ := pl
      exact ⟨o, e, hd⟩
    · refine ⟨⟨o, I.kIn p o hk, hc⟩, fun a e => ?_⟩
      cases e
      exact ⟨o, I.kIn _ o hk, hd⟩
    · have z : ∃ o, s.heap.get? p = some o ∧ o.ExactDict := by
        rcases hk with ⟨kvs, hk⟩ | ⟨kvs, hk⟩
        · obtain ⟨_, _, _, _, o, _, _, e, ex, _⟩ := I.hok p _ hk
          exact ⟨o, e, ex⟩
        · obtain ⟨_, _, _, _, o, _, _, e, ex, _⟩ := I.hok p _ hk
          exact ⟨o, e, ex⟩
      obtain ⟨o, e, ex⟩ := z
      refine ⟨⟨o, e, ex.1⟩, fun a e2 => ?_⟩
      cases e2
      exact ⟨o, e, ex.2.1⟩
    · obtain ⟨o, _, _, _, e, ex, _⟩ := I.hok p _ hk
      refine ⟨⟨o, e, ex.1⟩, fun a e2 => ?_⟩
      cases e2
      exact ⟨o, e, ex.2.1⟩
  | _ => exact False.elim ty
def tBM0 (K : PySem.W.Frag) (T : String) (r : V → List V → Hp → VK → Prop) (to : TE) : TE := fun σ H Q => to σ H fun x H1 => tyV K T x H1 ∧ r x [] H1 Q
def tBM (K : PySem.W.Frag) (T : String) (r : V → List V → Hp → VK → Prop) (to : TE) (t : TA) : TE := fun σ H Q => to σ H fun x H1 => tyV K T x H1 ∧ t σ H1 fun xs H2 => r x xs H2 Q
variable {o e : Expr} {es : List Expr} {to : TE} {t : TA} {name : Str} {apos cpos : Pos} {T id : String} {r : V → List V → Hp → VK → Prop}
theorem pe_bm (pa : PlainAttrs T) (slot : Slot T name id) (hty : typeOf (.builtin id) = pure (.type "method_descriptor")) (hm : MtR X id r) (ho : PE X o to) (ha : PA X (e :: es) t)
    (hbase : attributeBase o name X.env (eval o X.env) = eval o X.env := by rfl)
    (hfew : ((backTo cpos (starEach (e :: es) X.env)).all (fun x => !x.1) && (backToKw cpos (keywordEach [] X.env)).all (fun x => x.1.isSome)
      && decide ((e :: es).length + ([] : List Keyword).length + (if ([] : List Keyword).isEmpty then 0 else 1) < 30)) = true := by rfl)
    (hline : (apos.endLine == cpos.line) = true := by rfl) (hs : starEach (e :: es) X.env = (false, eval e X.env) :: starEach es X.env := by rfl) (hplain : (backTo cpos (starEach es X.env)).any (·.1) = false := by rfl) :
    PE X (.Call (.Attribute o name apos) (e :: es) [] cpos) (tBM X.K T r to t) := by
  intro pins s σ H Q I h
  refine wpAny_Call_method_late hbase hfew hline rfl (thn (ho pins s σ H _ I h) fun v s1 ⟨x, H1, I1, r1, ty, q1⟩ => ?_)
  obtain ⟨h1, h2⟩ := tyV_is I1 r1 ty
  refine ⟨T, id, pa, slot, hty, h1, h2, ?_⟩
  have hA := ha cpos pins s1 σ H1 _ I1 q1
  rw [hs] at hA ⊢
  refine Calls.callWith_builtin (by show (false || (backTo cpos (starEach es X.env)).any (·.1)) = false; rw [hplain] <;> rfl) (Calls.evalArgs_plain ?_)
  exact thn hA fun us s2 ⟨vs, H2, I2, r2, q2⟩ => hm pins s2 σ H2 x vs v us Q I2 r1 r2 q2
/- xs.append(e), list.index on a module's tuple .. are MtR facts of 06m -/
end
end L2

namespace L2
open PySem PySem.Spec PyProof.Rows

def MtM (X : Cx) (id : String) (r : V → List V → Hp → VK → Prop) : Prop :=
  ∀ (pins : List (Addr × Obj)) (s : Shared) (σ : St) (H : Hp) (x : V) (xs : List V) (v : Value) (us : List Value) (Q : VK), Inv X pins σ H s → RelV x v → Vals xs us → r x xs H Q →
    wpAny (model X.prog X.w) X.A (call (.builtin id) (v :: us)) (EP X pins σ Q) X.xe s

/-! ### lists of values -/
theorem Vals.one : ∀ {x : V} {us : List Value}, Vals [x] us → ∃ u, us = [u] ∧ RelV x u
  | _, _, .cons r .nil => ⟨_, rfl, r⟩
theorem Vals.eraseIdx : ∀ {xs : List V} {us : List Value} (i : Nat), Vals xs us → Vals (xs.eraseIdx i) (us.eraseIdx i)
  | _, _, _, .nil => .nil
  | _, _, 0, .cons _ t => t
  | _, _, i + 1, .cons r t => .cons r (Vals.eraseIdx i t)
theorem Vals.rep {xs : List V} {us : List Value} (h : Vals xs us) : ∀ k : Nat, Vals (List.replicate k xs).flatten (List.replicate k us).flatten
  | 0 => .nil
  | k + 1 => by
    rw [List.replicate_succ, List.replicate_succ, List.flatten_cons, List.flatten_cons]
    exact Vals.append h (Vals.rep h k)
theorem len_erase {α : Type} : ∀ (l : List α) (i : Nat), (l.eraseIdx i).length ≤ l.length
  | [], _ => Nat.le_refl _
  | _ :: _, 0 => Nat.le_succ _
  | _ :: r, i + 1 => Nat.succ_le_succ (len_erase r i)
theorem foldl_rep (its : List Value) : ∀ (k : Nat) (acc : List Value),
    List.foldl (fun x1 x2 => x1 ++ x2) acc.toArray (List.replicate k its.toArray) = (acc ++ (List.replicate k its).flatten).toArray
  | 0, acc => by simp
  | k + 1, acc => by
    have e : acc.toArray ++ its.toArray = (acc ++ its).toArray := by simp
    have e2 : (acc ++ its) ++ (List.replicate k its).flatten = acc ++ (List.replicate (k + 1) its).flatten := by
      rw [List.replicate_succ, List.flatten_cons, List.append_assoc]
    rw [← e2, ← foldl_rep its k (acc ++ its), ← e, List.replicate_succ, List.foldl_cons]

section
variable {X : Cx} {pins : List (Addr × Obj)} {σ : St} {H : Hp} {s : Shared} {l b : Addr} {xs ys zs : List V}

/-! ### the two steps: a tracked list is rewritten, a new list is laid -/
theorem Inv.lset {its its' : List Value} {n : Nat} {f : Array Value → Array Value} {t' : Nat} (I : Inv X pins σ H s) (hH : H l = some (.lst xs))
    (e : s.heap.get? l = some { cls := .type "list", data := .seq its.toArray n }) (hf : f its.toArray = its'.toArray) (hv : Vals ys its') (hz : ys.length ≤ sizeLine) :
    Inv X pins σ (upd H l (.lst ys)) { s with heap := s.heap.update l (Obj.mapSeq f), toks := t' } := by
  have q := PySem.IsL.update e f
  rw [hf] at q
  refine I.write (x := l) (e := l) (by rw [hH]; exact trivial) (.inl rfl) (fun b' u hb hu => (Heap.get?_update_other s.heap (Obj.mapSeq f) (Ne.symm hb)).trans hu) ⟨_, q⟩ ?_
  exact ⟨hz, its', _, hv, q⟩
theorem Inv.lnew {its : List Value} {t' : Nat} (I : Inv X pins σ H s) (hv : Vals ys its) (hz : ys.length ≤ sizeLine) :
    Inv X pins σ (upd H s.heap.objs.size (.lst ys)) { s with heap := s.heap.push { cls := .type "list", data := .seq its.toArray }, toks := t' } :=
  I.laid (fun _ _ q => Heap.get?_push_of_some _ q) (Nat.le_refl _) ⟨hz, its, 0, hv, Heap.get?_push_size _ rfl⟩
theorem Inv.fresh (I : Inv X pins σ H s) : H s.heap.objs.size = none := I.hok.fresh (Nat.le_refl _)
theorem Inv.lstM (I : Inv X pins σ H s) (hH : H l = some (.lst xs)) : xs.length ≤ sizeLine ∧ ∃ (its : List Value) (n : Nat), Vals xs its ∧ xs.length = its.length ∧ s.heap.get? l = some { cls := .type "list", data := .seq its.toArray n } := by
  obtain ⟨z, its, n, r, e⟩ := I.hok l _ hH
  exact ⟨z, its, n, r, r.length, e⟩

theorem notLongL {n : Nat} (h : n ≤ sizeLine) : Builtin.List.listTooLong n = false := by
  unfold Builtin.List.listTooLong
  exact decide_eq_false (by omega)
end

section
variable {X : Cx}

/-! ### methods -/
def rAppend : V → List V → Hp → VK → Prop := fun x vs H Q => ∃ l xs y, x = .ref l ∧ vs = [y] ∧ H l = some (.lst xs) ∧ xs.length < sizeLine ∧ Q .non (upd H l (.lst (xs ++ [y])))
theorem mt_append : MtM X "list.append" rAppend := by
  intro pins s σ H x vs v us Q I rx rv h
  obtain ⟨l, xs, y, rfl, rfl, hH, hz, q⟩ := h
  cases rx
  obtain ⟨u, rfl, ru⟩ := rv.one
  obtain ⟨z, its, n, r, hl, e⟩ := I.lstM hH
  refine call_meets F.slot_list_append ⟨_, e, rfl⟩ F.entry_list_append (F.args_list_append_2 _ _) (PySem.list_append l its.toArray n u (by rw [List.size_toArray]; omega)) ⟨e, ?_⟩
  refine ⟨.non, _, I.lset (its' := its ++ [u]) hH e (by simp) (r.append (.cons ru .nil)) ?_, rfl, q⟩
  rw [List.length_append, List.length_singleton]
  omega

def rExtend : V → List V → Hp → VK → Prop := fun x vs H Q => ∃ l b xs zs, x = .ref l ∧ vs = [.ref b] ∧ H l = some (.lst xs) ∧ H b = some (.lst zs) ∧ xs.length + zs.length ≤ sizeLine ∧ Q .non (upd H l (.lst (xs ++ zs)))
def rPop : V → List V → Hp → VK → Prop := fun x vs H Q => ∃ l xs y, x = .ref l ∧ vs = [] ∧ H l = some (.lst xs) ∧ xs[xs.length - 1]? = some y ∧ Q y (upd H l (.lst xs.dropLast))
def rPopAt : V → List V → Hp → VK → Prop := fun x vs H Q => ∃ l xs i k y, x = .ref l ∧ vs = [.int i] ∧ H l = some (.lst xs) ∧ -(2 ^ 63) ≤ i ∧ i < 2 ^ 63 ∧ seqIndex? i xs.length = some k ∧ xs[k]? = some y ∧ Q y (upd H l (.lst (xs.eraseIdx k)))
theorem mt_popAt : MtM X "list.pop" rPopAt := by
  intro pins s σ H x vs v us Q I rx rv h
  obtain ⟨l, xs, i, k, y, rfl, rfl, hH, h1, h2, hk, hy, q⟩ := h
  cases rx
  obtain ⟨u, rfl, ru⟩ := rv.one
  obtain ⟨t, rfl⟩ := ru
  obtain ⟨z, its, n, r, hl, e⟩ := I.lstM hH
  obtain ⟨w, hw, rw'⟩ := r.get hy
  refine call_meets F.slot_list_pop ⟨_, e, rfl⟩ F.entry_list_pop (F.args_list_pop_2 _ _)
    (MeetsSeq.list_pop_at l its.toArray n i t k w (fitsIndex_both h1 h2) (by rw [List.size_toArray, ← hl]; exact hk) (by rw [← Array.getElem?_toList]; exact hw) (by rw [List.size_toArray]; omega)) ⟨e, ?_⟩
  refine ⟨y, _, I.lset (its' := its.eraseIdx k) hH e ?_ (r.eraseIdx k) ?_, rw', q⟩
  · show its.toArray.eraseIdxIfInBounds k = (its.eraseIdx k).toArray
    rw [List.eraseIdxIfInBounds_toArray]
  · have := len_erase xs k
    omega

def rReverse : V → List V → Hp → VK → Prop := fun x vs H Q => ∃ l xs, x = .ref l ∧ vs = [] ∧ H l = some (.lst xs) ∧ Q .non (upd H l (.lst xs.reverse))
def rClear : V → List V → Hp → VK → Prop := fun x vs H Q => ∃ l xs, x = .ref l ∧ vs = [] ∧ H l = some (.lst xs) ∧ Q .non (upd H l (.lst []))
/-! ### list + list, list += list, list * int -/
def rCat : R2 := fun x y H Q => ∃ l b xs zs, x = .ref l ∧ y = .ref b ∧ H l = some (.lst xs) ∧ H b = some (.lst zs) ∧ xs.length + zs.length ≤ sizeLine ∧ ∀ p, H p = none → Q (.ref p) (upd H p (.lst (xs ++ zs)))
theorem op_cat : OpR X (binaryOp .Add) rCat := by
  intro pins s σ H x y v u Q I rx ry h
  obtain ⟨l, b, xs, zs, rfl, rfl, hH, hB, hz, q⟩ := h
  cases rx
  cases ry
  obtain ⟨z, its, n, r, hl, e⟩ := I.lstM hH
  obtain ⟨z2, its2, n2, r2, hl2, e2⟩ := I.lstM hB
  refine PySem.P.add_list e e2 ?_ (by rw [List.size_toArray, List.size_toArray]; omega)
  have ea : its.toArray ++ its2.toArray = (its ++ its2).toArray := by simp
  rw [ea]
  exact ⟨.ref _, _, I.lnew (t' := s.toks) (r.append r2) (by rw [List.length_append]; omega), rfl, q _ I.fresh⟩
/-- a list times an int (a negative one is nothing) -/
def rRep : R2 := fun x y H Q => ∃ l k xs, x = .ref l ∧ y = .int k ∧ H l = some (.lst xs) ∧ -(2 ^ 63) ≤ k ∧ k < 2 ^ 63 ∧ xs.length * k.toNat ≤ sizeLine ∧
  ∀ p, H p = none → Q (.ref p) (upd H p (.lst (List.replicate k.toNat xs).flatten))
theorem len_rep {α : Type} (xs : List α) (k : Nat) : (List.replicate k xs).flatten.length = k * xs.length := by
  induction k with
  | zero => simp
  | succ k ih => rw [List.replicate_succ, List.flatten_cons, List.length_append, ih, Nat.succ_mul, Nat.add_comm]
theorem op_rep : OpR X (binaryOp .Mult) rRep := by
  intro pins s σ H x y v u Q I rx ry h
  obtain ⟨l, k, xs, rfl, rfl, hH, h1, h2, hz, q⟩ := h
  cases rx
  obtain ⟨t, rfl⟩ := ry
  obtain ⟨z, its, n, r, hl, e⟩ := I.lstM hH
  have hlen : its.toArray.size * k.toNat ≤ sizeLine := by rw [List.size_toArray, ← hl]; exact hz
  have hcap : ¬ its.toArray.size * k.toNat > (2 ^ 63 - 1) / 8 := by
    have : (sizeLine : Nat) ≤ (2 ^ 63 - 1) / 8 := by decide
    omega
  have hfit : ¬ (!Builtin.List.listFitsIndex k) = true := by
    rw [fitsIndex_both h1 h2]
    exact Bool.false_ne_true
  have hlong : ¬ Builtin.List.listTooLong (its.toArray.size * k.toNat) = true := by
    rw [notLongL hlen]
    exact Bool.false_ne_true
  have hnew : List.foldl (fun x1 x2 => x1 ++ x2) #[] (List.replicate (if its.toArray.isEmpty = true then 0 else k.toNat) its.toArray) = (List.replicate k.toNat its).flatten.toArray := by
    have f0 : ∀ m : Nat, List.foldl (fun x1 x2 => x1 ++ x2) #[] (List.replicate m its.toArray) = (List.replicate m its).flatten.toArray := fun m => by
      have := foldl_rep its m []
      rw [List.nil_append] at this
      exact this
    rw [f0]
    cases its with
    | nil => simp
    | cons a r' => rw [if_neg (by simp)]
  refine wpAny_binaryOp_repeat_ref (T := "list") (U := "int") (by decide) ⟨_, e, rfl⟩ (fun s' => typeIs_int s' k t) noFill_list_mul F.fills_int_mul F.slot_int_rmul repeat_list F.slot_int_index.lookup
    (call_meets F.slot_int_rmul (typeIs_int s k t) F.entry_int_rmul (F.args_int_rmul_2 _ _) (int___rmul___int_list k t l its.toArray n)
      ⟨e, rfl, ⟨_, e, rfl⟩, call_meets F.slot_list_mul ⟨_, e, rfl⟩ F.entry_list_mul (F.args_list_mul_2 _ _) (AutoListH.list___mul___list_int_3 l its.toArray n k t hfit hcap hlong) ⟨e, ?_⟩⟩)
  rw [hnew]
  exact ⟨.ref _, _, I.lnew (t' := s.toks) (r.rep k.toNat) (by rw [len_rep, Nat.mul_comm]; exact hz), rfl, q _ I.fresh⟩

/-! ### del xs[i] -/
end

/-! ### xs[a:b] = ys -/
section
variable {prog : Program} {w : World} {A : Around} {E : Value → Shared → Prop} {s : Shared}
set_option maxRecDepth 100000 in
end

section
variable {X : Cx}
end
end L2

namespace Att
open PySem PySem.W PySem.Calls PyProof.Rows

/-! ### the script -/
theorem ints_of_wellAll {P : Params} {h : Heap} : ∀ (ns : List Int) (vs : List Value), WellAll P h vs (ns.map WData.int) → IntsAre vs ns := by
  intro ns
  induction ns with
  | nil =>
    intro vs w
    rw [List.map_nil] at w
    cases w
    exact .nil
  | cons n ns ih =>
    intro vs w
    rw [List.map_cons] at w
    cases w with
    | cons a b =>
      cases a
      exact .cons _ _ (ih _ b)

theorem script_of {l : OpenLaw} {n : Nat} (hn : l.most = some n) {P : Params} {h : Heap} {args : List WData} {vals : List Value}
    (hpre : l.row.toRowW.claim.pre args = true) (hwl : WellAll P h vals args) :
    ∃ a vs ns, vals = [Value.ref a] ∧ args = [WData.list (ns.map WData.int)] ∧ h.get? a = some { cls := .type "list", data := .seq vs.toArray } ∧ IntsAre vs ns ∧ ns.length ≤ n := by
  have hsh : WShape.hasAll [] args [.list .int] = true := (pre_splitW hpre).1
  have hc : l.pre.holds [] { args := args } = true := (pre_splitW hpre).2
  obtain ⟨d, r, rfl, h1, h2⟩ := hasAllW_cons hsh
  obtain rfl := hasAllW_nil h2
  obtain ⟨xs, rfl, h3⟩ := hasW_list h1
  obtain ⟨ns, rfl⟩ := items_int h3
  have hlen : ns.length ≤ n := by
    unfold OpenLaw.pre at hc
    have h4 : (WTm.not (.lt (.lit (.int (n : Int))) (.len (.arg 0)))).holds [] { args := [.list (ns.map .int)] } = true := by
      have h4 := (holds_andW hc).1
      rw [hn] at h4
      exact h4
    have h5 := condW_of h4 (w_not (w_lt w_lit (w_len_list (w_arg rfl))))
    rw [List.length_map] at h5
    refine Nat.le_of_not_lt fun q => ?_
    have q' : (n : Int) < ((ns.length : Nat) : Int) := by omega
    first
      | (rw [decide_eq_true q'] at h5; exact absurd h5 (by decide))
      | (simp at h5; omega)
  cases hwl with
  | cons w1 w2 =>
    cases w2
    cases w1 with
    | list ho hall => exact ⟨_, _, ns, rfl, rfl, ho, ints_of_wellAll ns _ hall, hlen⟩

theorem post_true (l : OpenLaw) (args : List WData) : l.row.toRowW.claim.post args (.bool true) args = true :=
  postW_of (r := l.row.toRowW) (X := (true == true))
    (show WShape.has [] (.bool true) .bool = true by first | rfl | decide | simp [WShape.has, WShape.arms, WShape.armsAll])
    (show (WTm.eq .res (.lit (.bool true))).value [] { args := args, res := some (.bool true), after := args } = some (.bool (true == true)) from w_eq_bool (w_res rfl) w_lit) rfl

/-! ### the attachment: holds_open's last premise (the goal 'hc' behind k_head) from a wpAny of the law's body -/
/-- the same from a codeAny of the CALL (for a layer whose function contracts speak of calls) -/
theorem attach_call {l : OpenLaw} {n : Nat} {q : Program} {loose : List Str} {XP : (Str → Option Value) → Heap → Prop} {YP : World → Heap → Prop} {d : DefRec}
    (hn : l.most = some n) (hdf : d.params.defaults = [])
    (call : ∀ (w : World) (s₀ s₁ : Shared) (mg mb : Str → Option Value) (fa : Addr) (o : Obj) (pm cd doc : Value) (a : Addr) (vs : List Value) (ns : List Int),
      Ground q loose [] XP w s₀ mg mb s₁.heap → YP w s₁.heap →
      s₁.heap.get? fa = some o → o.data = .func (docDef d.name d.params d.body d.scope pm cd doc) → s₁.heap.CodeRec cd d.name → mg d.name = some (.ref fa) →
      s₁.heap.get? a = some { cls := .type "list", data := .seq vs.toArray } → IntsAre vs ns → ns.length ≤ n → s₁.gens = #[] →
      codeAny (model l.prog w) callerA (.call (.ref fa) ⟨[.ref a], []⟩) (fun r s' => r = .ok (.ret (.bool true)) ∧ OldK s₁.heap s'.heap ∧ s'.os = s₁.os ∧ AllBare s'.gens) s₁) :
    WalkO q loose XP YP l.row.toRowW d [] (fun f vs => PySem.call f vs) := by
  intro w s₀ s₁ mg mb G Y fa o pm cd doc dV kV ho hd hcd hD hmg hg args vals as hpre hlay hrd hwl hlo
  obtain rfl : dV = .none := Dflts.none hD hdf
  obtain rfl : kV = .none := Dflts.noKw hD
  obtain ⟨a, vs, ns, rfl, rfl, hobj, hints, hlen⟩ := script_of hn hpre hwl
  refine enter_call (codeAny_mono (call w s₀ s₁ mg mb fa o pm cd doc a vs ns G Y ho (fd_plain hd) hcd hmg hobj hints hlen hg) fun r s' hq => ?_)
  obtain ⟨rfl, h2, h3, h4⟩ := hq
  exact ⟨.inl ⟨.bool true, .bool true, [], rfl, fun _ => rfl, .bool true, post_true l _, fun _ => ⟨List.Pairwise.nil, fun _ hm => (nomatch hm)⟩⟩, h2, h3, h4⟩

/-! ### rules over ANY heap (no ledger) from facts about the written part K: the library's own take a ledger (News) for what they write -/
section
variable {prog : Program} {w : World} {A : Around} {E : Value → Shared → Prop} {s : Shared} {K : Frag}

/-! the whole heap as the ledger: makes every rule that writes through a ledger a rule over any heap -/
def noObjs (h : Heap) : Heap := { h with objs := #[] }
def ledger (h : Heap) (L d : Addr) : List (Addr × Obj) := (List.range h.objs.size).filterMap fun a => if a = L ∨ a = d then none else (h.get? a).map fun o => (a, o)
end
end Att

namespace L2
open PySem PySem.Spec PyProof.Rows

theorem vals_ints : ∀ {vs : List Value} {ns : List Int}, IntsAre vs ns → Vals (ns.map V.int) vs
  | _, _, .nil => .nil
  | _, _, .cons n t h => .cons ⟨t, rfl⟩ (vals_ints h)

/-- nothing is tracked but the script, known to the object (or it is an object of the module) -/
def Only (H : Hp) : Prop := ∀ b, H b = none ∨ ∃ o xs, H b = some (.frz o (.lst xs))

/-- THE HEAD: the law's promise, at the heap behind the top. F, the promise of the law's def, may use that base is part of the heap (so K.In base, base.Ns mainGlobals mg stand in Mod) -/
theorem law_call {P : Program} {w : World} {K : PySem.W.Frag} {mg mb : Str → Option Value} {CX : CXT} {k : Nat} {fa a : Addr} {fd : FuncData} {x : Str} {sp : Sp} {s₁ : Shared} {vs : List Value} {ns : List Int}
    (KX : K.In s₁.heap) (hns : s₁.heap.Ns mainGlobals mg) (hb : s₁.heap.Ns builtinsNs mb) (hbb : ∀ x : Str, x ≠ "__name__" → mb x = bootBuiltins x) (hlim : s₁.heap.NoLimit) (hg : s₁.gens = #[])
    (ha : s₁.heap.get? a = some { cls := .type "list", data := .seq vs.toArray }) (hi : IntsAre vs ns) (hl : ns.length ≤ sizeLine) (hr : Room k callerA)
    (F : ∀ base : Heap, K.In base → base.Ns mainGlobals mg → FnOk P w K mg base CX k fa fd [x] sp) (hbind : ∀ (s : Shared) (u : Value), BindsTo s fd ⟨[u], []⟩ [(x, u)])
    (hsp : ∀ H : Hp, Only H → SqL K H a (ns.map V.int) → sp [.ref a] H (fun v _ => v = .bl true) fun _ _ _ => False)
    (hCX : ∀ H e s', CX [] H s₁ (fun _ _ _ => False) e s' → False) :
    codeAny (model P w) callerA (.call (.ref fa) ⟨[.ref a], []⟩) (fun r s' => r = .ok (.ret (.bool true)) ∧ OldK s₁.heap s'.heap ∧ s'.os = s₁.os ∧ AllBare s'.gens) s₁ := by
  have rv := vals_ints hi
  have lenV := hi.length
  -- from an abstract heap in which nothing but the script may be tracked
  have core : ∀ H : Hp, Only H → SqL K H a (ns.map V.int) → HOk P w H s₁.heap → (∀ b, H b ≠ none → b = a) → (H a ≠ none → K.lookup a = none) →
      codeAny (model P w) callerA (.call (.ref fa) ⟨[.ref a], []⟩) (fun r s' => r = .ok (.ret (.bool true)) ∧ OldK s₁.heap s'.heap ∧ s'.os = s₁.os ∧ AllBare s'.gens) s₁ := by
    intro H hO hS hok hA hK
    have base_of : ∀ {b : Addr} {o : Obj}, s₁.heap.get? b = some o → H b = none → (hidT s₁.heap H).get? b = some o := fun e n => hidT_get e n
    have noA : ∀ {b : Addr} {o : Obj} {es : Array DictEntry} {ep : Nat}, s₁.heap.get? b = some o → o.data = .dict es ep → H b = none := fun {b o es ep} e d => by
      cases q : H b with
      | none => rfl
      | some u =>
        have e' : b = a := hA b (by rw [q]; simp)
        subst e'
        rw [ha] at e; cases e
        have d' : Data.seq vs.toArray _ = Data.dict es ep := d
        cases d'
    have nsK : ∀ {b : Addr} {m : Str → Option Value}, s₁.heap.Ns b m → (hidT s₁.heap H).Ns b m := fun {b m} ⟨o, es, ep, e, d, r⟩ => ⟨o, es, ep, base_of e (noA e d), d, r⟩
    have hKb : K.In (hidT s₁.heap H) := fun b o e => base_of (KX b o e) (by
      cases q : H b with
      | none => rfl
      | some u =>
        have e' : b = a := hA b (by rw [q]; simp)
        subst e'
        rw [hK (by rw [q]; simp)] at e; cases e)
    have hM : Mod K mg (hidT s₁.heap H) := ⟨hKb, nsK hns, ⟨mb, nsK hb, hbb⟩, let ⟨mc, h1, h2⟩ := hlim; ⟨mc, nsK h1, h2⟩⟩
    have e0 : Env0 P w K mg (hidT s₁.heap H) callerA [] s₁ H := ⟨rfl, hM, fun b o e => of_hidT e, Nat.le_of_eq (hidT_size _ _), trivial, fun b hb => absurd (show b ∈ ([] : List Addr) from hb) (by simp), hok, .of_eq hg⟩
    refine codeAny_mono ((F _ hKb (nsK hns)).run callerA [] s₁ H ⟨[.ref a], []⟩ [.ref a] [.ref a] _ _ hr e0 (hbind s₁ (.ref a)) (.cons rfl .nil) (hsp H hO hS)) fun r s' h => ?_
    cases r with
    | error e => exact (hCX H e s' h).elim
    | ok fl =>
      cases fl with
      | next => exact False.elim h
      | brk => exact False.elim h
      | cont => exact False.elim h
      | ret u =>
        obtain ⟨v, H', os, bare, un, hok', r', q⟩ := h
        have q' : v = .bl true := q
        subst q'
        obtain rfl : u = Value.bool true := r'
        refine ⟨rfl, OldK.of_keep fun b o e => ?_, os, bare⟩
        cases q : H b with
        | none => exact un.keep b o e q (by intro z; exact absurd (show b ∈ ([] : List Addr) from z) (by simp)) (by simp)
        | some u =>
          rcases hO b with z | ⟨ob, xs, z⟩
          · rw [q] at z; cases z
          · have z2 := un.frzs b ob _ z
            obtain ⟨e1, _⟩ := hok b _ z
            obtain ⟨e2, _⟩ := hok' b _ z2
            rw [e] at e1; cases e1
            exact e2
  cases hk : K.lookup a with
  | some o =>
    -- the script is one of the module's own objects
    have e := KX a o hk
    rw [ha] at e
    cases e
    refine core (fun _ => none) (fun _ => .inl rfl) (.inr ⟨_, vs.toArray, _, hk, rfl, rfl, rfl, by rw [List.size_toArray, lenV]; exact hl, by simpa using rv⟩) (fun b u z => by have z' : (none : Option HO) = some u := z; cases z') (fun b z => absurd rfl z) fun z => absurd rfl z
  | none =>
    refine core (fun b => if b = a then some (.frz { cls := .type "list", data := .seq vs.toArray } (.lst (ns.map V.int))) else none) (fun b => ?_) (.inl (.inr ⟨{ cls := .type "list", data := .seq vs.toArray }, if_pos rfl⟩)) (fun b u z => ?_) (fun b z => ?_) fun _ => hk
    · by_cases hb : b = a
      · exact .inr ⟨_, _, if_pos hb⟩
      · exact .inl (if_neg hb)
    · by_cases hb : b = a
      · have z' := (if_pos hb).symm.trans z
        cases z'
        subst hb
        exact ⟨ha, by rw [List.length_map]; exact hl, vs, _, rv, ha⟩
      · have z' := (if_neg hb).symm.trans z
        cases z'
    · by_cases hb : b = a
      · exact hb
      · exact absurd (if_neg hb) z
end L2

namespace L2
open PySem PySem.Spec PyProof.Rows

abbrev KOf {K : PySem.W.Frag} {h : Heap} (_ : K.In h) : PySem.W.Frag := K

/-- the goal that k_head leaves (case hc), from the law's promise. F gives the function object fd (K's own) once, then the promise over every base -/
theorem walk_of {l : PySem.W.OpenLaw} {n k : Nat} {q : Program} {loose : List Str} {XP : (Str → Option Value) → Heap → Prop} {YP : World → Heap → Prop} {d : DefRec} {K : Params → PySem.W.Frag} {CX : World → CXT} {sp : World → Sp} {x : Str}
    (hn : l.most = some n) (hn2 : n ≤ sizeLine) (hdf : d.params.defaults = []) (hr : Room k callerA)
    (hY : ∀ (w : World) (h : Heap), YP w h → (K w.params).In h)
    (F : ∀ (w : World) (mg : Str → Option Value) (fa : Addr) (h : Heap), (K w.params).In h → h.Ns mainGlobals mg → mg d.name = some (.ref fa) →
      ∃ fd : FuncData, (∀ (s : Shared) (u : Value), BindsTo s fd ⟨[u], []⟩ [(x, u)]) ∧
        ∀ base : Heap, (K w.params).In base → base.Ns mainGlobals mg → FnOk l.prog w (K w.params) mg base (CX w) k fa fd [x] (sp w))
    (hsp : ∀ (w : World) (H : Hp) (a : Addr) (ns : List Int), ns.length ≤ n → Only H → SqL (K w.params) H a (ns.map V.int) → sp w [.ref a] H (fun v _ => v = .bl true) fun _ _ _ => False)
    (hCX : ∀ (w : World) (H : Hp) (s : Shared) (e : Value) (s' : Shared), CX w [] H s (fun _ _ _ => False) e s' → False) :
    PySem.W.WalkO q loose XP YP l.row.toRowW d [] (fun f vs => PySem.call f vs) := by
  refine Att.attach_call hn hdf fun w s₀ s₁ mg mb fa o pm cd doc a vs ns G Y ho hd hcd hmg hobj hints hlen hg => ?_
  have KX := hY w _ Y
  obtain ⟨fd, hb, hF⟩ := F w mg fa _ KX G.T.g hmg
  exact law_call KX G.T.g G.T.b G.T.builtins G.T.nolimit hg hobj hints (Nat.le_trans hlen hn2) hr hF hb (fun H hO hS => hsp w H a ns hlen hO hS) fun H e s' => hCX w H s₁ e s'
/-- the same where the promise hangs on the written part alone: (sp := My.sp_law), no hole under a binder -/
theorem walk_ofK {l : PySem.W.OpenLaw} {n k : Nat} {q : Program} {loose : List Str} {XP : (Str → Option Value) → Heap → Prop} {YP : World → Heap → Prop} {d : DefRec} {K : Params → PySem.W.Frag} {CX : CXT} {sp : PySem.W.Frag → Sp} {x : Str}
    (hn : l.most = some n) (hn2 : n ≤ sizeLine) (hdf : d.params.defaults = []) (hr : Room k callerA)
    (hY : ∀ (w : World) (h : Heap), YP w h → (K w.params).In h)
    (F : ∀ (w : World) (mg : Str → Option Value) (fa : Addr) (h : Heap), (K w.params).In h → h.Ns mainGlobals mg → mg d.name = some (.ref fa) →
      ∃ fd : FuncData, (∀ (s : Shared) (u : Value), BindsTo s fd ⟨[u], []⟩ [(x, u)]) ∧
        ∀ base : Heap, (K w.params).In base → base.Ns mainGlobals mg → FnOk l.prog w (K w.params) mg base CX k fa fd [x] (sp (K w.params)))
    (hsp : ∀ (K : PySem.W.Frag) (H : Hp) (a : Addr) (ns : List Int), ns.length ≤ n → Only H → SqL K H a (ns.map V.int) → sp K [.ref a] H (fun v _ => v = .bl true) fun _ _ _ => False)
    (hCX : ∀ (H : Hp) (s : Shared) (e : Value) (s' : Shared), CX [] H s (fun _ _ _ => False) e s' → False) :
    PySem.W.WalkO q loose XP YP l.row.toRowW d [] (fun f vs => PySem.call f vs) :=
  walk_of (K := K) (CX := fun _ => CX) (sp := fun w => sp (K w.params)) hn hn2 hdf hr hY F (fun w H a ns h1 h2 h3 => hsp (K w.params) H a ns h1 h2 h3) fun _ H s e s' => hCX H s e s'
end L2



/-! SHORT WORDS over the layer: a def of the text, its body, what a loop and a test want. -/
namespace L2
open PySem PySem.Spec PyProof.Rows

/-! ### the text by places -/
/-- the j-th statement of a class's body -/
def inClass (s : Stmt) (j : Nat) : Stmt := match s with
  | .ClassDef _ _ _ body _ _ _ _ _ _ _ => body.getD j (.Pass ⟨0, 0, 0, 0⟩)
  | _ => .Pass ⟨0, 0, 0, 0⟩
def defArgs (s : Stmt) : Arguments := match s with
  | .FunctionDef _ a _ _ _ _ _ _ _ _ => a
  | _ => { posonlyargs := [], args := [], vararg := none, kwonlyargs := [], kw_defaults := [], kwarg := none, defaults := [] }
def defBody (s : Stmt) : List Stmt := match s with
  | .FunctionDef _ _ b _ _ _ _ _ _ _ => b
  | _ => []
def defScope (s : Stmt) : Scope := match s with
  | .FunctionDef _ _ _ _ _ _ sc _ _ _ => sc
  | _ => { kind := .function, names := [], isGenerator := false, isCoroutine := false }

/-! ### no exception leaves a def -/
abbrev CX0 : CXT := fun _ _ _ _ _ _ => False
abbrev E0 : XK := fun _ _ _ => False
theorem pass0 {X : Cx} : Passes CX0 X E0 := fun _ _ _ _ _ _ _ h => h.elim

/-! ### a def (or method) of the text as it stands behind the top -/
structure Fun (K : PySem.W.Frag) (x qual : Str) (st : Stmt) (f : Addr) (fd : FuncData) : Prop where
  ex : ∃ (oc : Value) (od : Option Addr) (kV doc pm : Value) (an : Option Addr) (cdv ct : Value) (osl : Array (Option Value)),
    fd = PySem.W.fnOf x qual (defArgs st) (defBody st) (defScope st) .none kV doc pm an cdv ct ∧ K.lookup f = some ⟨oc, od, .func fd, osl⟩ ∧ PySem.W.codeIn K cdv qual = true
  kp : PySem.W.keepIn K (.ref f) = true
section
variable {P : Program} {w : World} {K : PySem.W.Frag} {mg : Str → Option Value} {base : Heap}
/-- THE RULE for a def: its body as a term of rules, and the reading of that term -/
theorem Fun.ok {x qual : Str} {st : Stmt} {f : Addr} {fd : FuncData} {N ps : List Str} {k : Nat} {sp : Sp} (F : Fun K x qual st f fd) (S : FnScope N ps (defScope st)) (len : ∀ vs H Q E, sp vs H Q E → vs.length = ps.length)
    (hbody : ∀ (cdv : Value) (A : Around) (outer : List Env) (s : Shared) (H : Hp) (vs : List V) (Q : VK) (E : XK), Room k (A.deeper (envOfC qual (defScope st) s.heap.objs.size f cdv)) → sp vs H Q E →
      ∃ t, PSs (cxOf CX0 P w K mg base N qual (defScope st) f cdv A outer s H E).nox (defBody st) t ∧ t { nx := fun _ H' => Q .non H', rt := Q } (start N vs) H) : FnOk P w K mg base CX0 (k + 1) f fd ps sp := by
  obtain ⟨oc, od, kV, doc, pm, an, cdv, ct, osl, rfl, lk, hcd⟩ := F.ex
  refine fn_of lk hcd S len fun A outer s H vs Q E hr hsp => ?_
  obtain ⟨t, h, q⟩ := hbody cdv A outer s H vs Q E hr hsp
  exact ⟨t, h.nox, q⟩
/-- how its arguments bind (no defaults): h is «fun _ _ _ _ _ _ us hl => match us, hl with | [_, _], _ => rfl», one _ a parameter -/
theorem Fun.binds {x qual : Str} {st : Stmt} {f : Addr} {fd : FuncData} {ps : List Str} (F : Fun K x qual st f fd)
    (h : ∀ (kV doc pm : Value) (an : Option Addr) (cdv ct : Value) (us : List Value), us.length = ps.length → bindArgs (PySem.W.fnOf x qual (defArgs st) (defBody st) (defScope st) .none kV doc pm an cdv ct) ⟨us, []⟩ = pure (ps.zip us)) : Binds K fd ps [] := by
  obtain ⟨oc, od, kV, doc, pm, an, cdv, ct, osl, rfl, lk, hcd⟩ := F.ex
  exact .all (h kV doc pm an cdv ct)
theorem fun_mk {x qual : Str} {st : Stmt} {f : Addr} {oc : Value} {od an : Option Addr} {osl : Array (Option Value)} {kV doc pm cdv ct : Value} (l : K.lookup f = some ⟨oc, od, .func (PySem.W.fnOf x qual (defArgs st) (defBody st) (defScope st) .none kV doc pm an cdv ct), osl⟩)
    (c : PySem.W.codeIn K cdv qual = true) (k : PySem.W.keepIn K (.ref f) = true) : Fun K x qual st f (PySem.W.fnOf x qual (defArgs st) (defBody st) (defScope st) .none kV doc pm an cdv ct) := ⟨⟨oc, od, kV, doc, pm, an, cdv, ct, osl, rfl, l, c⟩, k⟩
end
theorem small1000 {n : Nat} (h : n ≤ 1000) : n < sizeLine := Nat.lt_of_le_of_lt h (by decide)

/-! ### expressions in short: the name that stands in the i-th slot -/
section
variable {X : Cx}
theorem pv (i : Nat) {x : Str} {pos : Pos} (hN : X.N[i]? = some x := by rfl) (hv : Vis X.env.scope x := by first | exact Or.inl rfl | exact Or.inr (Or.inl rfl) | exact Or.inr (Or.inr rfl)) (hd : (x == ("__debug__" : Str)) = false := by decide)
    (hcd : (x == ("__classdict__" : Str)) = false := by decide) : PE X (.Name x pos) (tVar i) := pe_var hN hv hd hcd
end

/-! ### tests -/
/-! ### heaps -/
/-- all that was tracked is as it was -/
def Same (H H' : Hp) : Prop := ∀ b o, H b = some o → H' b = some o
theorem Same.refl (H : Hp) : Same H H := fun _ _ h => h
theorem Same.trans {H H1 H2 : Hp} (a : Same H H1) (b : Same H1 H2) : Same H H2 := fun c o h => b c o (a c o h)
theorem Same.free {H H' : Hp} (e : Same H H') {l : Addr} (h : H' l = Option.none) : H l = Option.none := by
  cases q : H l with
  | none => rfl
  | some o =>
    rw [e l o q] at h
    cases h
end L2

set_option maxRecDepth 100000
namespace L2
open PySem PySem.Spec PyProof.Rows

/-! ### lists of pairs as tables -/
section
variable {κ : Type} [DecidableEq κ]
def valV (kvs : List (κ × V)) (k : κ) : Option V := (kvs.find? fun kv => decide (kv.1 = k)).map (·.2)
/-- in its place, or at the end -/
def putK (kvs : List (κ × V)) (k : κ) (v : V) : List (κ × V) :=
  if (kvs.any fun kv => decide (kv.1 = k)) = true then kvs.map (fun kv => if kv.1 = k then (kv.1, v) else kv) else kvs ++ [(k, v)]
def dropK (kvs : List (κ × V)) (k : κ) : List (κ × V) := kvs.filter fun kv => decide (kv.1 ≠ k)

end


/-! ### a tracked dict, its keys ints and texts or tuples of these -/
/-- raw entries of a dict with tuple keys -/
abbrev KT (H : Hp) : List (List Key × V) → List (List Key × Addr × Value) → Prop := Paired fun p q => p.1 = q.1 ∧ H q.2.1 = some (.tup (p.1.map kV)) ∧ RelV p.2 q.2.2
section
variable {P : Program} {w : World} {H : Hp} {h : Heap} {a : Addr}
end

/-- what the dict at a holds at the key y -/
def DGet (H : Hp) (a : Addr) (y : V) (r : Option V) : Prop :=
  (∃ kvs k, Rd H a (.dK kvs) ∧ y = kV k ∧ r = valV kvs k) ∨ ∃ kvs k b, Rd H a (.dT kvs) ∧ y = .ref b ∧ H b = some (.tup (k.map kV)) ∧ r = valV kvs k
/-- the heap behind a[y] = v -/
def DPut (H : Hp) (a : Addr) (y v : V) (H' : Hp) : Prop :=
  (∃ kvs k, H a = some (.dK kvs) ∧ y = kV k ∧ kvs.length < sizeLine ∧ H' = upd H a (.dK (putK kvs k v))) ∨
  ∃ kvs k b, H a = some (.dT kvs) ∧ y = .ref b ∧ H b = some (.tup (k.map kV)) ∧ kvs.length < sizeLine ∧ H' = upd H a (.dT (putK kvs k v))
section
variable {X : Cx} {pins : List (Addr × Obj)} {σ : St} {H : Hp} {s : Shared} {a : Addr} {y v : V} {u r : Value} {o : Option V} {A : Around} {E : Value → Shared → Prop}

end

section
variable {X : Cx} {pins : List (Addr × Obj)} {σ : St} {H : Hp} {s : Shared} {a : Addr} {kvs : List (Key × V)} {k : Key} {u : Value} {A : Around} {E : Value → Shared → Prop}
end


/-! ### readings and rules -/
/-- the element of a subscription, not a slice -/
def NoSl (i : Expr) : Prop := ∀ ov iv, subscripted i false ov iv = operate [ov, iv] (getItem ov iv)
/-- d[y] -/
def tDGet (td ty : TE) : TE := fun σ H Q => td σ H fun x H1 => ty σ H1 fun y H2 => ∃ a v, x = .ref a ∧ DGet H2 a y (some v) ∧ Q v H2
/-- y in d, y not in d -/
def tDIn (ty td : TE) : TE := fun σ H Q => ty σ H fun y H1 => td σ H1 fun x H2 => ∃ a o, x = .ref a ∧ DGet H2 a y o ∧ Q (.bl o.isSome) H2
def tDNotIn (ty td : TE) : TE := fun σ H Q => ty σ H fun y H1 => td σ H1 fun x H2 => ∃ a o, x = .ref a ∧ DGet H2 a y o ∧ Q (.bl (!o.isSome)) H2
/-- d[y] = v -/
def sDPut (td ty tv : TE) : TS := fun D σ H => tv σ H fun v H1 => td σ H1 fun x H2 => ty σ H2 fun y H3 => ∃ a H4, x = .ref a ∧ DPut H3 a y v H4 ∧ D.nx σ H4
/-- d[y] op= v -/
def sDAug (td ty tv : TE) (rd : V → V → Hp → VK → Prop) : TS := fun D σ H => td σ H fun x H1 => ty σ H1 fun y H2 => ∃ a v, x = .ref a ∧ DGet H2 a y (some v) ∧
  tv σ H2 fun y2 H3 => rd v y2 H3 fun z H4 => ∃ H5, DPut H4 a y z H5 ∧ D.nx σ H5
/-- del d[y] -/
def sDDel (td ty : TE) : TS := fun D σ H => td σ H fun x H1 => ty σ H1 fun y H2 => ∃ a kvs k, x = .ref a ∧ H2 a = some (.dK kvs) ∧ y = kV k ∧ (valV kvs k).isSome = true ∧ D.nx σ (upd H2 a (.dK (dropK kvs k)))

section
variable {X : Cx} {o i e value : Expr} {pos pos' tpos : Pos} {td ty tv : TE}
end


/-! ### displays -/
/-- {}, to be a dict of the kind that is wanted -/
def tDNewK : TE := fun _ H Q => ∀ p, H p = none → Q (.ref p) (upd H p (.dK []))
def tDNewT : TE := fun _ H Q => ∀ p, H p = none → Q (.ref p) (upd H p (.dT []))
section
variable {X : Cx} {pos : Pos}
end

/-- the pairs of a display, from the left -/
def tPairs : List (TE × TE) → St → Hp → (List (V × V) → Hp → Prop) → Prop
  | [], _, H, Q => Q [] H
  | (tk, tv) :: r, σ, H, Q => tk σ H fun x H1 => tv σ H1 fun y H2 => tPairs r σ H2 fun ps H3 => Q ((x, y) :: ps) H3
abbrev VV : List (V × V) → List (Value × Value) → Prop := Paired fun p q => RelV p.1 q.1 ∧ RelV p.2 q.2
def PPs (X : Cx) (pos : Pos) (keys : List (Option Expr)) (values : List Expr) (trs : List (TE × TE)) : Prop :=
  ∀ (pins : List (Addr × Obj)) (s : Shared) (σ : St) (H : Hp) (Q : List (V × V) → Hp → Prop), Inv X pins σ H s → tPairs trs σ H Q →
    wpAny (model X.prog X.w) X.A (evalPairs (pairTrees keys values X.env pos)) (fun vs s' => ∃ ps H', Inv X pins σ H' s' ∧ VV ps vs ∧ Q ps H') X.xe s
def mergeK (kvs more : List (Key × V)) : List (Key × V) := more.foldl (fun acc kv => putK acc kv.1 kv.2) kvs
/-- {k: v, ..} with keys ints and texts; the new dict stands empty while the pairs are made -/
def tDisp (trs : List (TE × TE)) : TE := fun σ H Q => ∀ p, H p = none → tPairs trs σ (upd H p (.dK [])) fun ps H2 => H2 p = some (.dK []) ∧ ∃ kvs : List (Key × V), ps = kvs.map (fun kv => (kV kv.1, kv.2)) ∧ kvs.length ≤ 15 ∧ Q (.ref p) (upd H2 p (.dK (mergeK [] kvs)))
/-! ### methods -/
/-- a method call o.m(e) of a built-in, with one argument: what must be seen of the text -/
structure M1 (X : Cx) (o : Expr) (m : Str) (apos : Pos) (e : Expr) (cpos : Pos) : Prop where
  base : attributeBase o m X.env (eval o X.env) = eval o X.env
  few : ((backTo cpos (starEach [e] X.env)).all (fun x => !x.1) && (backToKw cpos (keywordEach [] X.env)).all (fun x => x.1.isSome)
    && decide (([e] : List Expr).length + ([] : List Keyword).length + (if ([] : List Keyword).isEmpty then 0 else 1) < 30)) = true
  line : (apos.endLine == cpos.line) = true
  trees : backTo cpos (starEach [e] X.env) = [(false, eval e X.env)]
structure M2 (X : Cx) (o : Expr) (m : Str) (apos : Pos) (e f : Expr) (cpos : Pos) : Prop where
  base : attributeBase o m X.env (eval o X.env) = eval o X.env
  few : ((backTo cpos (starEach [e, f] X.env)).all (fun x => !x.1) && (backToKw cpos (keywordEach [] X.env)).all (fun x => x.1.isSome)
    && decide (([e, f] : List Expr).length + ([] : List Keyword).length + (if ([] : List Keyword).isEmpty then 0 else 1) < 30)) = true
  line : (apos.endLine == cpos.line) = true
  trees : backTo cpos (starEach [e, f] X.env) = [(false, eval e X.env), (false, eval f X.env)]

/-- a is a dict, whatever its keys -/
def IsD (H : Hp) (a : Addr) : Prop := (∃ kvs, Rd H a (.dK kvs)) ∨ ∃ kvs, Rd H a (.dT kvs)
section
variable {X : Cx} {pins : List (Addr × Obj)} {σ : St} {H : Hp} {s : Shared} {a : Addr} {y d : V} {u r : Value} {o : Option V} {A : Around} {E : Value → Shared → Prop}
end

def tDGet1 (td ty : TE) : TE := fun σ H Q => td σ H fun x H1 => ∃ a, x = .ref a ∧ IsD H1 a ∧ ty σ H1 fun y H2 => ∃ o, DGet H2 a y o ∧ Q (o.getD .non) H2
def tDGet2 (td ty tx : TE) : TE := fun σ H Q => td σ H fun x H1 => ∃ a, x = .ref a ∧ IsD H1 a ∧ ty σ H1 fun y H2 => tx σ H2 fun z H3 => ∃ o, DGet H3 a y o ∧ Q (o.getD z) H3
/-- d.pop(k): there; d.pop(k, x): there or not -/
def tDPop1 (td ty : TE) : TE := fun σ H Q => td σ H fun x H1 => ∃ a, x = .ref a ∧ IsD H1 a ∧ ty σ H1 fun y H2 => ∃ kvs k v, H2 a = some (.dK kvs) ∧ y = kV k ∧ valV kvs k = some v ∧ Q v (upd H2 a (.dK (dropK kvs k)))
def tDPop2 (td ty tx : TE) : TE := fun σ H Q => td σ H fun x H1 => ∃ a, x = .ref a ∧ IsD H1 a ∧ ty σ H1 fun y H2 => tx σ H2 fun z H3 => ∃ kvs k, H3 a = some (.dK kvs) ∧ y = kV k ∧
  (∀ v, valV kvs k = some v → Q v (upd H3 a (.dK (dropK kvs k)))) ∧ (valV kvs k = none → Q z H3)
section
variable {X : Cx} {o e f : Expr} {apos cpos : Pos} {td ty tx : TE}
end

/-! ### dict(d): a copy -/
section
variable {X : Cx} {pins : List (Addr × Obj)} {σ : St} {H : Hp} {s : Shared} {a : Addr} {kvs : List (Key × V)} {A : Around} {E : Value → Shared → Prop}
end


section
variable {X : Cx} {pins : List (Addr × Obj)} {σ : St} {H : Hp} {s : Shared} {a : Addr} {y : V} {u : Value} {A : Around} {E : Value → Shared → Prop}
end
end L2
namespace L2
open PySem PySem.Spec PyProof.Rows
section
variable {X : Cx}
end
/-! ### a dict's pairs: keys that differ -/
section
variable {κ : Type} [DecidableEq κ]
end
end L2

set_option maxRecDepth 100000
namespace Zt
open PySem PySem.Spec

/-- what an iterator at i yields: its k-th item -/
structure Src (i : Addr) (fp : List Addr) (S : Nat → Heap → Prop) (nth : Nat → Option Value) : Prop where
  mem : i ∈ fp
  stay : ∀ k h h', S k h → (∀ b ∈ fp, ∀ o, h.get? b = some o → h'.get? b = some o) → S k h'
  obj : ∀ k h, S k h → ∃ o, h.get? i = some o ∧ ∀ v, o.data ≠ .cell v
  item : ∀ {prog : Program} {w : World} {A : Around} {E : Value → Shared → Prop} {s : Shared} {Q : Value → Shared → Prop} {k : Nat} {x : Value}, S k s.heap → nth k = some x →
    (∀ h', S (k + 1) h' → Heap.SameBut i s.heap h' → Q x { s with heap := h' }) → wpAny (model prog w) A (Builtin.SmallTypes.nextOf (.ref i)) Q E s
  fin : ∀ {prog : Program} {w : World} {A : Around} {E : Value → Shared → Prop} {s : Shared} {Q : Value → Shared → Prop} {k : Nat}, A.handled = none → S k s.heap → nth k = none →
    (∀ h' e, Heap.ExtBut i s.heap h' → (∃ o, h'.get? e = some o ∧ o.cls = .type "StopIteration") → E (.ref e) { s with heap := h' }) → wpAny (model prog w) A (Builtin.SmallTypes.nextOf (.ref i)) Q E s

theorem srcT (i t : Addr) (hne : t ≠ i) (its : Array Value) : Src i [i, t] (fun k h => h.IsTupleIter i t k ∧ h.IsTuple t its) (fun k => its[k]?) where
  mem := List.mem_cons_self
  stay := by
    rintro k h h' ⟨⟨o, e, r⟩, ⟨o2, e2, r2⟩⟩ hk
    exact ⟨⟨o, hk i (by simp) o e, r⟩, ⟨o2, hk t (by simp) o2 e2, r2⟩⟩
  obj := by
    rintro k h ⟨⟨o, e, c, d⟩, _⟩
    exact ⟨o, e, fun v z => by rw [d] at z; cases z⟩
  item := by
    rintro prog w A E s Q k x ⟨hit, ht⟩ hx hQ
    obtain ⟨o, ho, hc, hd⟩ := id hit; obtain ⟨ol, hol, hlc, nl, hdl⟩ := id ht
    unfold Builtin.SmallTypes.nextOf
    refine wpAny_bind (wpAny_callSpecial?_slot (name := Str.ofString "__next__") hit.typeIs F.slot_tuple_iterator_next (wpAny_call_entry F.slot_tuple_iterator_next hit.typeIs F.entry_tuple_iterator_next ?_ (F.args_tuple_iterator_next_1 _)))
    show wpAny _ _ (field (.ref i) 0 >>= _) _ _ s; refine wpAny_bind (wpAny_field ho hd (x := .ref t) rfl ?_)
    show wpAny _ _ (if (Value.ref t == Value.none) = true then _ else _) _ _ s; rw [if_neg (show ¬ ((Value.ref t == Value.none) = true) from Bool.false_ne_true)]
    show wpAny _ _ (field (.ref i) 1 >>= _) _ _ s; refine wpAny_bind (wpAny_field ho hd (x := .int k 0) rfl ?_)
    show wpAny _ _ (seqItems? (.ref t) >>= _) _ _ s; refine wpAny_bind (wpAny_seqItems hol hdl ?_)
    simp only [Int.toNat_natCast, hx]
    refine wpAny_bind (wpAny_setField ho hd (by simp) (wpAny_pure ⟨x, rfl, wpAny_pure (hQ _ ⟨?_, ht.extBut (Heap.SameBut.update ..).extBut hne⟩ (Heap.SameBut.update ..))⟩))
    refine ⟨_, Heap.get?_update_self _ ho (Obj.isFreed_of_fields (Obj.data_mapFields hd _)), (Obj.cls_mapFields ..).trans hc, ?_⟩
    rw [Obj.data_mapFields hd]; simp [rawInt]
  fin := by
    rintro prog w A E s Q k hh ⟨hit, ht⟩ hx hE
    obtain ⟨o, ho, hc, hd⟩ := id hit; obtain ⟨ol, hol, hlc, nl, hdl⟩ := id ht
    unfold Builtin.SmallTypes.nextOf
    refine wpAny_bind (wpAny_callSpecial?_slot (name := Str.ofString "__next__") hit.typeIs F.slot_tuple_iterator_next (wpAny_call_entry F.slot_tuple_iterator_next hit.typeIs F.entry_tuple_iterator_next ?_ (F.args_tuple_iterator_next_1 _)))
    show wpAny _ _ (field (.ref i) 0 >>= _) _ _ s; refine wpAny_bind (wpAny_field ho hd (x := .ref t) rfl ?_)
    show wpAny _ _ (if (Value.ref t == Value.none) = true then _ else _) _ _ s; rw [if_neg (show ¬ ((Value.ref t == Value.none) = true) from Bool.false_ne_true)]
    show wpAny _ _ (field (.ref i) 1 >>= _) _ _ s; refine wpAny_bind (wpAny_field ho hd (x := .int k 0) rfl ?_)
    show wpAny _ _ (seqItems? (.ref t) >>= _) _ _ s; refine wpAny_bind (wpAny_seqItems hol hdl ?_)
    simp only [Int.toNat_natCast, hx]
    refine wpAny_bind (wpAny_rule (wpAny_bind (wpAny_setField ho hd (by simp) ?_))); show wpAny _ _ (newExc (.type "StopIteration") [] >>= _) _ _ _
    refine wpAny_bind ?_; simp only [newExc, newTuple]; refine wpAny_bind (wpAny_newObj_type ?_ (by size_fits))
    refine wpAny_bind (m := firstArgMember _ _) (wpAny_of_eq (a := Value.none) (by first | rfl | (simp only [firstArgMember]; rfl)) ?_); refine wpAny_newObj_type ?_ (by size_fits)
    simp only [raiseNew]; refine wpAny_bind (wpAny_handled ?_); first | rw [show A.in1.handled = none from hh] | rw [hh]
    refine wpAny_bind (wpAny_pure (wpAny_throw ?_)); exact hE _ _ (((Heap.SameBut.update ..).extBut.push _).push _) ⟨_, Heap.get?_push_size _ rfl, rfl⟩

/-- the addresses of a zip's own things lie apart -/
structure Apart (z TI TO i1 i2 : Addr) (f1 f2 : List Addr) : Prop where
  TIz : TI ≠ z
  TOz : TO ≠ z
  i1z : i1 ≠ z
  i2z : i2 ≠ z
  TITO : TI ≠ TO
  TIi1 : TI ≠ i1
  TIi2 : TI ≠ i2
  TOi1 : TO ≠ i1
  TOi2 : TO ≠ i2
  i12 : i1 ≠ i2
  z1 : z ∉ f1
  z2 : z ∉ f2
  o1 : TO ∉ f1
  o2 : TO ∉ f2
  c12 : i1 ∉ f2
  c21 : i2 ∉ f1

section
variable {prog : Program} {w : World} {A : Around} {E : Value → Shared → Prop} {s : Shared} {z TI TO i1 i2 : Addr} {f1 f2 : List Addr} {S1 S2 : Nat → Heap → Prop} {n1 n2 : Nat → Option Value} {k1 k2 : Nat} {a b : Value}
theorem Src.but {i : Addr} {fp : List Addr} {S : Nat → Heap → Prop} {nth : Nat → Option Value} (R : Src i fp S nth) {k : Nat} {h h' : Heap} {c : Addr} (st : S k h) (e : Heap.ExtBut c h h') (hc : c ∉ fp) : S k h' :=
  R.stay k h h' st fun b hb o q => e b o (fun z => hc (z ▸ hb)) q

theorem next_item {x y : Value} {Q : Value → Shared → Prop} (R1 : Src i1 f1 S1 n1) (R2 : Src i2 f2 S2 n2) (D : Apart z TI TO i1 i2 f1 f2)
    (hz : IsZip s.heap z TI TO .none) (hTI : IsPair s.heap TI (.ref i1) (.ref i2)) (hTO : IsPair s.heap TO a b) (h1 : S1 k1 s.heap) (h2 : S2 k2 s.heap) (hx : n1 k1 = some x) (hy : n2 k2 = some y)
    (hQ : ∀ h', IsZip h' z TI TO (rawInt s.heap.objs.size) → IsPair h' TO x y → S1 (k1 + 1) h' → S2 (k2 + 1) h' → IsPair h' s.heap.objs.size x y →
      (∀ c o, c ≠ z → c ≠ TO → c ≠ i1 → c ≠ i2 → s.heap.get? c = some o → h'.get? c = some o) → Q (.ref s.heap.objs.size) { s with heap := h' }) :
    wpAny (model prog w) A (Builtin.«zip.__next__» ⟨[.ref z], []⟩) (fun fin s' => ∃ v, fin = .done (.ret v) ∧ Q v s') E s := by
  show wpAny _ _ (field (.ref z) 2 >>= _) _ _ _; refine wpAny_bind (wpAny_field hz rfl (x := .bool false) rfl ?_)
  show wpAny _ _ (field (.ref z) 3 >>= _) _ _ _; refine wpAny_bind (wpAny_field hz rfl (x := .ref TI) rfl ?_); refine wpAny_bind (wpAny_seqItems hTI rfl ?_)
  show wpAny _ _ (Builtin.SmallTypes.ownedTupleIsFree (.ref z) >>= _) _ _ _; refine wpAny_bind ?_; unfold Builtin.SmallTypes.ownedTupleIsFree
  refine wpAny_bind (wpAny_field hz rfl (x := .none) rfl (wpAny_pure ?_)); simp only [if_true]; refine wpAny_bind (wpAny_rule ?_)
  refine wpAny_bind (wpAny_field hz rfl (x := .ref TO) rfl ?_); refine wpAny_bind (wpAny_setField_rec hz (by simp) fun h₁ hz₁ hs₁ => ?_)
  replace hz₁ : IsZip h₁ z TI TO .ellipsis := hz₁
  refine wpAny_bind ?_; simp only [List.zipIdx_cons, List.zipIdx_nil, List.forIn_cons, List.forIn_nil]
  refine wpAny_bind (wpAny_bind (wpAny_onRaise ?_)); show wpAny _ _ (Builtin.SmallTypes.nextOf (.ref i1) >>= _) _ _ _
  refine wpAny_bind (R1.item (R1.but h1 hs₁.extBut D.z1) hx fun h₂ g1 hs₂ => wpAny_pure ?_)
  have t2 : IsPair h₂ TO a b := hs₂.extBut _ _ D.TOi1 (hs₁.extBut _ _ D.TOz hTO)
  refine wpAny_bind (wpAny_seqItems t2 rfl ?_); refine wpAny_bind (wpAny_updateSeq_pair t2 fun h₃ t3 hs₃ => ?_)
  replace t3 : IsPair h₃ TO x b := t3
  refine wpAny_bind (wpAny_letGo (wpAny_pure ?_)); refine wpAny_bind (wpAny_bind (wpAny_onRaise ?_)); show wpAny _ _ (Builtin.SmallTypes.nextOf (.ref i2) >>= _) _ _ _
  refine wpAny_bind (R2.item (R2.but (R2.but (R2.but h2 hs₁.extBut D.z2) hs₂.extBut D.c12) hs₃.extBut D.o2) hy fun h₄ g2 hs₄ => wpAny_pure ?_)
  have t4 : IsPair h₄ TO x b := hs₄.extBut _ _ D.TOi2 t3
  refine wpAny_bind (wpAny_seqItems t4 rfl ?_); refine wpAny_bind (wpAny_updateSeq_pair t4 fun h₅ t5 hs₅ => ?_)
  replace t5 : IsPair h₅ TO x y := t5
  refine wpAny_bind (wpAny_letGo (wpAny_pure (wpAny_pure ?_))); refine wpAny_bind (wpAny_seqItems t5 rfl ?_); refine wpAny_bind (wpAny_newTuple ?_)
  have hsz : h₅.objs.size = s.heap.objs.size := by rw [hs₅.1, hs₄.1, hs₃.1, hs₂.1, hs₁.1]
  have z5 : IsZip h₅ z TI TO .ellipsis := hs₅.extBut _ _ D.TOz.symm (hs₄.extBut _ _ D.i2z.symm (hs₃.extBut _ _ D.TOz.symm (hs₂.extBut _ _ D.i1z.symm hz₁)))
  have k5 : ∀ c o, c ≠ z → c ≠ TO → c ≠ i1 → c ≠ i2 → s.heap.get? c = some o → h₅.get? c = some o := fun c o c1 c2 c3 c4 e =>
    hs₅.extBut _ _ c2 (hs₄.extBut _ _ c4 (hs₃.extBut _ _ c2 (hs₂.extBut _ _ c3 (hs₁.extBut _ _ c1 e))))
  have e1 : S1 (k1 + 1) h₅ := R1.but (R1.but (R1.but g1 hs₃.extBut D.o1) hs₄.extBut D.c21) hs₅.extBut D.o1
  have e2 : S2 (k2 + 1) h₅ := R2.but g2 hs₅.extBut D.o2
  have lz : z < h₅.objs.size := Heap.lt_size z5
  show wpAny _ _ (Builtin.SmallTypes.ownedTupleHandOut (.ref z) (.ref h₅.objs.size) >>= _) _ _ _; refine wpAny_bind ?_; unfold Builtin.SmallTypes.ownedTupleHandOut
  have z6 : IsZip (h₅.push { cls := .type "tuple", data := .seq #[x, y] }) z TI TO .ellipsis := Heap.get?_push_of_some _ z5
  refine wpAny_bind (wpAny_setField_rec z6 (by simp) fun h₇ z7 hs₇ => ?_)
  replace z7 : IsZip h₇ z TI TO (rawInt h₅.objs.size) := z7
  refine wpAny_setField_rec z7 (by simp) fun h₈ z8 hs₈ => ?_
  replace z8 : IsZip h₈ z TI TO (rawInt h₅.objs.size) := z8
  have up : ∀ c o, c ≠ z → h₅.get? c = some o → h₈.get? c = some o := fun c o c1 e => hs₈.extBut _ _ c1 (hs₇.extBut _ _ c1 (Heap.get?_push_of_some _ e))
  have t8 : IsPair h₈ h₅.objs.size x y := hs₈.extBut _ _ (Nat.ne_of_gt lz) (hs₇.extBut _ _ (Nat.ne_of_gt lz) (Heap.get?_push_size _ rfl))
  rw [hsz] at z8 t8
  refine wpAny_pure ⟨_, rfl, ?_⟩; show Q (.ref h₅.objs.size) _; rw [hsz]
  exact hQ h₈ z8 (up _ _ D.TOz t5) (R1.stay _ _ _ e1 fun c hc o e => up c o (fun q => D.z1 (q ▸ hc)) e) (R2.stay _ _ _ e2 fun c hc o e => up c o (fun q => D.z2 (q ▸ hc)) e) t8 fun c o c1 c2 c3 c4 e => up c o c1 (k5 c o c1 c2 c3 c4 e)

theorem next_end {Q : Fin → Shared → Prop} (hh : A.handled = none) (R1 : Src i1 f1 S1 n1) (R2 : Src i2 f2 S2 n2) (D : Apart z TI TO i1 i2 f1 f2)
    (hz : IsZip s.heap z TI TO .none) (hTI : IsPair s.heap TI (.ref i1) (.ref i2)) (hTO : IsPair s.heap TO a b) (h1 : S1 k1 s.heap) (h2 : S2 k2 s.heap) (hend : n1 k1 = none ∨ n2 k2 = none)
    (hE : ∀ h' e, (∀ c o, c ≠ z → c ≠ TO → c ≠ i1 → c ≠ i2 → s.heap.get? c = some o → h'.get? c = some o) → (∃ o, h'.get? e = some o ∧ o.cls = .type "StopIteration") → E (.ref e) { s with heap := h' }) :
    wpAny (model prog w) A (Builtin.«zip.__next__» ⟨[.ref z], []⟩) Q E s := by
  show wpAny _ _ (field (.ref z) 2 >>= _) _ _ _; refine wpAny_bind (wpAny_field hz rfl (x := .bool false) rfl ?_)
  show wpAny _ _ (field (.ref z) 3 >>= _) _ _ _; refine wpAny_bind (wpAny_field hz rfl (x := .ref TI) rfl ?_); refine wpAny_bind (wpAny_seqItems hTI rfl ?_)
  show wpAny _ _ (Builtin.SmallTypes.ownedTupleIsFree (.ref z) >>= _) _ _ _; refine wpAny_bind ?_; unfold Builtin.SmallTypes.ownedTupleIsFree
  refine wpAny_bind (wpAny_field hz rfl (x := .none) rfl (wpAny_pure ?_)); simp only [if_true]; refine wpAny_bind (wpAny_rule ?_)
  refine wpAny_bind (wpAny_field hz rfl (x := .ref TO) rfl ?_); refine wpAny_bind (wpAny_setField_rec hz (by simp) fun h₁ hz₁ hs₁ => ?_)
  replace hz₁ : IsZip h₁ z TI TO .ellipsis := hz₁
  refine wpAny_bind ?_; simp only [List.zipIdx_cons, List.zipIdx_nil, List.forIn_cons, List.forIn_nil]
  refine wpAny_bind (wpAny_bind (wpAny_onRaise ?_)); show wpAny _ _ (Builtin.SmallTypes.nextOf (.ref i1) >>= _) _ _ _
  cases hx : n1 k1 with
  | none =>
    refine wpAny_bind (R1.fin hh (R1.but h1 hs₁.extBut D.z1) hx fun h₂ e hs₂ he => ?_)
    obtain ⟨oe, hoe, hce⟩ := he
    have hz₂ : IsZip h₂ z TI TO .ellipsis := hs₂ _ _ D.i1z.symm hz₁
    have hez : e ≠ z := fun x => by subst x; rw [hz₂] at hoe; cases hoe; simp at hce
    exact wpAny_setField_rec hz₂ (by simp) fun h₃ _ hs₃ => hE h₃ e (fun c o c1 _ c3 _ x => hs₃.extBut _ _ c1 (hs₂ _ _ c3 (hs₁.extBut _ _ c1 x))) ⟨oe, hs₃.extBut _ _ hez hoe, hce⟩
  | some x =>
    have hy : n2 k2 = none := by
      rcases hend with h | h
      · rw [hx] at h; cases h
      · exact h
    refine wpAny_bind (R1.item (R1.but h1 hs₁.extBut D.z1) hx fun h₂ g1 hs₂ => wpAny_pure ?_)
    have t2 : IsPair h₂ TO a b := hs₂.extBut _ _ D.TOi1 (hs₁.extBut _ _ D.TOz hTO)
    refine wpAny_bind (wpAny_seqItems t2 rfl ?_); refine wpAny_bind (wpAny_updateSeq_pair t2 fun h₃ t3 hs₃ => ?_)
    refine wpAny_bind (wpAny_letGo (wpAny_pure ?_)); refine wpAny_bind (wpAny_bind (wpAny_onRaise ?_)); show wpAny _ _ (Builtin.SmallTypes.nextOf (.ref i2) >>= _) _ _ _
    refine wpAny_bind (R2.fin hh (R2.but (R2.but (R2.but h2 hs₁.extBut D.z2) hs₂.extBut D.c12) hs₃.extBut D.o2) hy fun h₄ e hs₄ he => ?_)
    obtain ⟨oe, hoe, hce⟩ := he
    have hz₄ : IsZip h₄ z TI TO .ellipsis := hs₄ _ _ D.i2z.symm (hs₃.extBut _ _ D.TOz.symm (hs₂.extBut _ _ D.i1z.symm hz₁))
    have hez : e ≠ z := fun x => by subst x; rw [hz₄] at hoe; cases hoe; simp at hce
    exact wpAny_setField_rec hz₄ (by simp) fun h₅ _ hs₅ => hE h₅ e (fun c o c1 c2 c3 c4 x => hs₅.extBut _ _ c1 (hs₄ _ _ c4 (hs₃.extBut _ _ c2 (hs₂.extBut _ _ c3 (hs₁.extBut _ _ c1 x))))) ⟨oe, hs₅.extBut _ _ hez hoe, hce⟩

theorem py_item {x y : Value} {Q : Option Value → Shared → Prop} (R1 : Src i1 f1 S1 n1) (R2 : Src i2 f2 S2 n2) (D : Apart z TI TO i1 i2 f1 f2)
    (hz : IsZip s.heap z TI TO .none) (hTI : IsPair s.heap TI (.ref i1) (.ref i2)) (hTO : IsPair s.heap TO a b) (h1 : S1 k1 s.heap) (h2 : S2 k2 s.heap) (hx : n1 k1 = some x) (hy : n2 k2 = some y)
    (hQ : ∀ h', IsZip h' z TI TO (rawInt s.heap.objs.size) → IsPair h' TO x y → S1 (k1 + 1) h' → S2 (k2 + 1) h' → IsPair h' s.heap.objs.size x y →
      (∀ c o, c ≠ z → c ≠ TO → c ≠ i1 → c ≠ i2 → s.heap.get? c = some o → h'.get? c = some o) → Q (some (.ref s.heap.objs.size)) { s with heap := h' }) :
    wpAny (model prog w) A (pyNext (.ref z)) Q E s := by
  have hT : s.TypeIs (.ref z) "zip" := ⟨_, hz, rfl⟩
  unfold pyNext
  exact wpAny_bind (wpAny_attempt (wpAny_callSpecial?_slot (name := Str.ofString "__next__") hT F.slot_zip_next (wpAny_call_entry F.slot_zip_next hT F.entry_zip_next
      (next_item R1 R2 D hz hTI hTO h1 h2 hx hy fun h' a1 a2 a3 a4 a5 a7 => wpAny_pure (hQ h' a1 a2 a3 a4 a5 a7)) (F.args_zip_next_1 _))))
theorem py_end {Q : Option Value → Shared → Prop} (hh : A.handled = none) (R1 : Src i1 f1 S1 n1) (R2 : Src i2 f2 S2 n2) (D : Apart z TI TO i1 i2 f1 f2)
    (hz : IsZip s.heap z TI TO .none) (hTI : IsPair s.heap TI (.ref i1) (.ref i2)) (hTO : IsPair s.heap TO a b) (h1 : S1 k1 s.heap) (h2 : S2 k2 s.heap) (hend : n1 k1 = none ∨ n2 k2 = none)
    (hQ : ∀ h', (∀ c o, c ≠ z → c ≠ TO → c ≠ i1 → c ≠ i2 → s.heap.get? c = some o → h'.get? c = some o) → Q none { s with heap := h' }) : wpAny (model prog w) A (pyNext (.ref z)) Q E s := by
  have hT : s.TypeIs (.ref z) "zip" := ⟨_, hz, rfl⟩
  unfold pyNext
  refine wpAny_bind (wpAny_attempt (wpAny_callSpecial?_slot (name := Str.ofString "__next__") hT F.slot_zip_next
    (wpAny_call_entry F.slot_zip_next hT F.entry_zip_next (next_end hh R1 R2 D hz hTI hTO h1 h2 hend fun h' e hk he => ?_) (F.args_zip_next_1 _))))
  obtain ⟨o, ho, hc⟩ := he
  exact wpAny_bind (wpAny_isInstance (T := "StopIteration") (b := true) ⟨o, ho, hc⟩ isSubtype_stop (wpAny_pure (hQ _ hk)))
end

/-! a zip of two tuples is made -/
abbrev g1 (h : Heap) (l1 : Addr) : Heap := h.push { cls := .type "tuple_iterator", data := .fields #[.ref l1, .int 0 0] }
abbrev g2 (h : Heap) (l1 l2 : Addr) : Heap := (g1 h l1).push { cls := .type "tuple_iterator", data := .fields #[.ref l2, .int 0 0] }
abbrev g3 (h : Heap) (l1 l2 : Addr) : Heap := (g2 h l1 l2).push { cls := .type "tuple", data := .seq #[.ref h.objs.size, .ref (g1 h l1).objs.size] }
abbrev g4 (h : Heap) (l1 l2 : Addr) : Heap := (g3 h l1 l2).push { cls := .type "tuple", data := .seq #[.none, .none] }
abbrev g5 (h : Heap) (l1 l2 : Addr) : Heap := (g4 h l1 l2).push { cls := .type "zip", data := .fields #[.none, .bool false, .bool false, .ref (g2 h l1 l2).objs.size, .ref (g3 h l1 l2).objs.size] }

theorem meets_new (l1 l2 : Addr) (xs ys : Array Value) :
    Meets (Builtin.«zip.__new__» ⟨[.type "zip", .ref l1, .ref l2], []⟩) (fun _ R s => s.heap.IsTuple l1 xs ∧ s.heap.IsTuple l2 ys ∧
      R (.ok (.ret (.ref (g4 s.heap l1 l2).objs.size))) { s with heap := g5 s.heap l1 l2 }) :=
  .of_wp fun prog w A R s h => by
    obtain ⟨hp, g, d, tk, os⟩ := s; obtain ⟨hl1, hl2, h⟩ := h
    have hsub := sub_zip
    have hL1 : Heap.IsTuple (Shared.heap ⟨hp, g, d, tk, os⟩) l1 xs := hl1
    have hL2 : Heap.IsTuple (Shared.heap ⟨hp.push { cls := .type "tuple_iterator", data := .fields #[.ref l1, .int 0 0] }, g, d, tk, os⟩) l2 ys := Heap.IsTuple.push hl2 _
    wp_walk using wpAny_pyIter_tuple hL1, wpAny_pyIter_tuple hL2
    exact ⟨_, rfl, h⟩

theorem call_zip {prog : Program} {w : World} {A : Around} {E : Value → Shared → Prop} {s : Shared} {l1 l2 : Addr} {xs ys : Array Value} {Q : Value → Shared → Prop} (hl1 : s.heap.IsTuple l1 xs) (hl2 : s.heap.IsTuple l2 ys)
    (h : ∀ h', IsZip h' (s.heap.objs.size + 4) (s.heap.objs.size + 2) (s.heap.objs.size + 3) .none → IsPair h' (s.heap.objs.size + 2) (.ref s.heap.objs.size) (.ref (s.heap.objs.size + 1)) →
      IsPair h' (s.heap.objs.size + 3) .none .none → h'.IsTupleIter s.heap.objs.size l1 0 → h'.IsTupleIter (s.heap.objs.size + 1) l2 0 →
      (∀ c o, s.heap.get? c = some o → h'.get? c = some o) → Q (.ref (s.heap.objs.size + 4)) { s with heap := h' }) :
    wpAny (model prog w) A (call (.type "zip") [.ref l1, .ref l2]) Q E s := by
  refine callType_new F.called_zip (by decide) (F.typeCall_zip_2 _ _) (F.newCall_zip_2 _ _) (fun obj => F.args_object_init_3 obj _ _) F.entry_zip_new (meets_new l1 l2 xs ys) ⟨hl1, hl2, ?_⟩
  have z1 : (g1 s.heap l1).objs.size = s.heap.objs.size + 1 := Heap.size_push ..
  have z2 : (g2 s.heap l1 l2).objs.size = s.heap.objs.size + 2 := by rw [Heap.size_push, z1]
  have z3 : (g3 s.heap l1 l2).objs.size = s.heap.objs.size + 3 := by rw [Heap.size_push, z2]
  have z4 : (g4 s.heap l1 l2).objs.size = s.heap.objs.size + 4 := by rw [Heap.size_push, z3]
  have q5 : (g5 s.heap l1 l2).get? (g4 s.heap l1 l2).objs.size = some _ := Heap.get?_push_size _ rfl
  have q4 : (g5 s.heap l1 l2).get? (g3 s.heap l1 l2).objs.size = some _ := Heap.get?_push_of_some _ (Heap.get?_push_size _ rfl)
  have q3 : (g5 s.heap l1 l2).get? (g2 s.heap l1 l2).objs.size = some _ := Heap.get?_push_of_some _ (Heap.get?_push_of_some _ (Heap.get?_push_size _ rfl))
  have q2 : (g5 s.heap l1 l2).get? (g1 s.heap l1).objs.size = some _ := Heap.get?_push_of_some _ (Heap.get?_push_of_some _ (Heap.get?_push_of_some _ (Heap.get?_push_size _ rfl)))
  have q1 : (g5 s.heap l1 l2).get? s.heap.objs.size = some _ := Heap.get?_push_of_some _ (Heap.get?_push_of_some _ (Heap.get?_push_of_some _ (Heap.get?_push_of_some _ (Heap.get?_push_size _ rfl))))
  show _ ∧ _
  rw [z2, z3, z4] at q5; rw [z1, z2] at q3; rw [z3] at q4; rw [z1] at q2; rw [z4]
  exact ⟨⟨_, q5, rfl⟩, h _ q5 q3 q4 ⟨_, q1, rfl, rfl⟩ ⟨_, q2, rfl, rfl⟩ fun c o x =>
    Heap.get?_push_of_some _ (Heap.get?_push_of_some _ (Heap.get?_push_of_some _ (Heap.get?_push_of_some _ (Heap.get?_push_of_some _ x))))⟩
end Zt

namespace L2
open PySem PySem.Spec PyProof.Rows
/-- the iterator's own objects have turned, others are kept -/
theorem Inv.spun {X : Cx} {pins : List (Addr × Obj)} {σ : St} {H : Hp} {s : Shared} {h' : Heap} {t' : Nat} {ch : List Addr} (I : Inv X pins σ H s) (hch : ∀ b ∈ ch, FpOk X pins H b)
    (k : ∀ b o, b ∉ ch → s.heap.get? b = some o → h'.get? b = some o) : Inv X pins σ H { s with heap := h', toks := t' } := by
  have nit : ∀ b u, H b = some u → b ∉ ch := fun b u e z => by rw [(hch b z).1] at e; cases e
  refine I.step (g' := s.gens) (d' := s.drawn) (ch := ch) (fun b hb => ?_) (fun b o _ _ hc e _ => k b o hc e) (fun b o _ _ hc e _ => ⟨o.slots, k b o hc e⟩) (fun _ _ _ _ n => n)
    (fun b o hc e => ⟨o, k b o hc e⟩) (fun _ _ e => e) (fun _ _ _ e => e) (fun b ps e => ⟨#[], by rw [e]; simp⟩) (fun m hm => ?_) (fun b u e => ?_) I.bare
  · obtain ⟨f0, f1, f2, f3, f4, f5⟩ := hch b hb
    exact ⟨f3, f1, f4, f5⟩
  · obtain ⟨o, es, ep, ho, r⟩ := hm
    exact ⟨o, es, ep, k _ o (fun z => (hch _ z).2.1 rfl) ho, r⟩
  · refine (I.hok b u e).stay (fun c v hc q => k c v ?_ q) (fun _ q => q) fun _ _ q => q
    rcases hc with z | z
    · rw [z]; exact nit b u e
    · exact nit c _ z
/-- an object that stands there untracked is tracked from now on -/
theorem Inv.track {X : Cx} {pins : List (Addr × Obj)} {σ : St} {H : Hp} {s s1 : Shared} {a : Addr} {o : HO} (I : Inv X pins σ H s) (J : Inv X pins σ H s1) (ha : s.heap.objs.size ≤ a) (new : ObjOk X.prog X.w (upd H a o) s1.heap a o) :
    Inv X pins σ (upd H a o) s1 := by
  have hn : H a = none := I.hok.fresh ha
  have ne : ∀ b u, s.heap.get? b = some u → b ≠ a := fun b u e => Nat.ne_of_lt (Nat.lt_of_lt_of_le (Heap.lt_size e) ha)
  have h0 : X.s₀.heap.objs.size ≤ a := Nat.le_trans I.sz ha
  have ne0 : ∀ b u, X.s₀.heap.get? b = some u → b ≠ a := fun b u e => Nat.ne_of_lt (Nat.lt_of_lt_of_le (Heap.lt_size e) h0)
  refine ⟨J.ok, J.os, J.bare, ⟨J.base.keep, J.base.slot, fun b u e n hx => ?_, J.base.there, fun b xs e => ?_, fun b u v e => ?_, fun b ps e => ?_⟩, J.loc, J.cell, ?_, fun x c e => ?_, fun p hp => ?_, fun b u e => ?_, J.len⟩
  · rw [upd_ne (ne0 b u e)]; exact J.base.free b u e n hx
  · have q := J.base.tups b xs e
    rw [upd_ne (ne_of_none q hn)]; exact q
  · have q := J.base.frzs b u v e
    rw [upd_ne (ne_of_none q hn)]; exact q
  · obtain ⟨m, q⟩ := J.base.tbls b ps e
    exact ⟨m, by rw [upd_ne (ne_of_none q hn)]; exact q⟩
  · obtain ⟨m, ⟨ob, _, _, e, _⟩, _⟩ := I.loc
    rw [upd_ne (ne _ _ e)]; exact J.free
  · obtain ⟨v, ob, e1, _⟩ := I.cell x c e
    rw [upd_ne (ne _ _ e1)]; exact J.freeC x c e
  · obtain ⟨q1, q2, q3, q4, q5⟩ := J.pin p hp
    exact ⟨q1, by rw [upd_ne (ne _ _ (I.pin p hp).1)]; exact q2, q3, q4, q5⟩
  · by_cases hb : b = a
    · subst hb; rw [upd_same] at e; cases e; exact new
    · rw [upd_ne hb] at e
      exact (J.hok b u e).stay (fun c v _ q => q) (fun c q => by rw [upd_ne (ne_of_none q hn)]; exact q) fun c xs q => by rw [upd_ne (ne_of_none q hn)]; exact q

/-- zip of the tuples at a and b: each turn lays a new pair -/
def Itz (K : PySem.W.Frag) (a b : Addr) : It :=
  ⟨fun i H => ∃ xs ys x y, SqT K H a xs ∧ SqT K H b ys ∧ xs[i]? = some x ∧ ys[i]? = some y,
   fun i H v H' => ∃ p x y, H p = none ∧ (∀ xs, SqT K H a xs → xs[i]? = some x) ∧ (∀ ys, SqT K H b ys → ys[i]? = some y) ∧ v = .ref p ∧ H' = upd H p (.tup [x, y]),
   fun i H => ∃ xs ys, SqT K H a xs ∧ SqT K H b ys ∧ (xs.length ≤ i ∨ ys.length ≤ i)⟩
theorem turn_zip {P : Program} {w : World} {K : PySem.W.Frag} {es : List Expr} {k : Nat} {ps : Pos} {z TI TO i1 i2 a b : Addr}
    (na : a ≠ i1) (nb : b ≠ i2) (D : Zt.Apart z TI TO i1 i2 [i1, a] [i2, b]) :
    Turn P w K (.Tuple es k ps) (Itz K a b) [z, TI, TO, i1, i2] z (fun n h => IsZip h z TI TO .none ∧ IsPair h TI (.ref i1) (.ref i2) ∧ (∃ u v, IsPair h TO u v) ∧ h.IsTupleIter i1 a n ∧ h.IsTupleIter i2 b n) where
  mem := by simp
  obj := by
    rintro n h ⟨hz, hTI, ⟨u, v, hTO⟩, ⟨o1, e1, c1, d1⟩, ⟨o2, e2, c2, d2⟩⟩ c hc
    simp only [List.mem_cons, List.not_mem_nil, or_false] at hc
    rcases hc with rfl | rfl | rfl | rfl | rfl
    · exact ⟨_, hz, fun v q => nomatch q⟩
    · exact ⟨_, hTI, fun v q => nomatch q⟩
    · exact ⟨_, hTO, fun v q => nomatch q⟩
    · exact ⟨o1, e1, fun v q => by rw [d1] at q; cases q⟩
    · exact ⟨o2, e2, fun v q => by rw [d2] at q; cases q⟩
  keep := by
    rintro n h h' ⟨hz, hTI, ⟨u, v, hTO⟩, ⟨o1, e1, r1⟩, ⟨o2, e2, r2⟩⟩ kp
    exact ⟨kp z (by simp) _ hz, kp TI (by simp) _ hTI, ⟨u, v, kp TO (by simp) _ hTO⟩, ⟨o1, kp i1 (by simp) _ e1, r1⟩, ⟨o2, kp i2 (by simp) _ e2, r2⟩⟩
  item := by
    intro X hP hw hK hc i pins s σ H E I hf st hg
    subst hP hw hK
    obtain ⟨hz, hTI, ⟨u, v, hTO⟩, hi1, hi2⟩ := st
    obtain ⟨xs, ys, x, y, qx, qy, hx, hy⟩ := hg
    obtain ⟨us, rx, px, zx⟩ := I.tuple qx
    obtain ⟨ws, ry, py, zy⟩ := I.tuple qy
    obtain ⟨ux, hux, rux⟩ := rx.get hx
    obtain ⟨uy, huy, ruy⟩ := ry.get hy
    refine Zt.py_item (Zt.srcT i1 a na us.toArray) (Zt.srcT i2 b nb ws.toArray) D hz hTI hTO ⟨hi1, px⟩ ⟨hi2, py⟩ (x := ux) (y := uy) (by simpa using hux) (by simpa using huy) fun h' z1 t1 s1 s2 t2 kp => ⟨_, rfl, ?_⟩
    refine wpAny_letOwnedTupleGo_zip (s := { s with heap := h' }) z1 fun h'' z2 sb => ?_
    have kp2 : ∀ c o, c ∉ [z, TI, TO, i1, i2] → s.heap.get? c = some o → h''.get? c = some o := fun c o hc e => by
      simp only [List.mem_cons, List.not_mem_nil, or_false, not_or] at hc
      exact sb.extBut _ _ hc.1 (kp c o hc.1 hc.2.2.1 hc.2.2.2.1 hc.2.2.2.2 e)
    have nz : s.heap.objs.size ≠ z := Nat.ne_of_gt (Heap.lt_size hz)
    have J : Inv X pins σ H { s with heap := h'' } := I.spun (t' := s.toks) hf kp2
    have t3 : IsPair h'' s.heap.objs.size ux uy := sb.extBut _ _ nz t2
    refine ⟨.ref s.heap.objs.size, upd H s.heap.objs.size (.tup [x, y]), I.track J (Nat.le_refl _) ⟨by show 2 ≤ sizeLine; decide, [ux, uy], .cons rux (.cons ruy .nil), ⟨_, t3, rfl, _, rfl⟩⟩, rfl, ⟨_, x, y, I.hok.fresh (Nat.le_refl _), fun zs h => ?_, fun zs h => ?_, rfl, rfl⟩, ?_, fun c hc => ?_⟩
    · rw [I.tuple_inj h qx]; exact hx
    · rw [I.tuple_inj h qy]; exact hy
    · exact ⟨z2, sb.extBut _ _ D.TIz (kp TI _ D.TIz D.TITO D.TIi1 D.TIi2 hTI), ⟨ux, uy, sb.extBut _ _ D.TOz t1⟩, s1.1.extBut sb.extBut D.i1z, s2.1.extBut sb.extBut D.i2z⟩
    · have e : c ≠ s.heap.objs.size := by
        simp only [List.mem_cons, List.not_mem_nil, or_false] at hc
        obtain ⟨o1, e1, _⟩ := hi1; obtain ⟨o2, e2, _⟩ := hi2
        rcases hc with rfl | rfl | rfl | rfl | rfl
        · exact Nat.ne_of_lt (Heap.lt_size hz)
        · exact Nat.ne_of_lt (Heap.lt_size hTI)
        · exact Nat.ne_of_lt (Heap.lt_size hTO)
        · exact Nat.ne_of_lt (Heap.lt_size e1)
        · exact Nat.ne_of_lt (Heap.lt_size e2)
      rw [upd_ne e]; exact (hf c hc).1
  done := by
    intro X hP hw hK hc i pins s σ H E I hf st hg
    subst hP hw hK
    obtain ⟨hz, hTI, ⟨u, v, hTO⟩, hi1, hi2⟩ := st
    obtain ⟨xs, ys, qx, qy, hend⟩ := hg
    obtain ⟨us, rx, px, zx⟩ := I.tuple qx
    obtain ⟨ws, ry, py, zy⟩ := I.tuple qy
    have lx := rx.length
    have ly := ry.length
    refine Zt.py_end (I.ok.hd hc) (Zt.srcT i1 a na us.toArray) (Zt.srcT i2 b nb ws.toArray) D hz hTI hTO ⟨hi1, px⟩ ⟨hi2, py⟩ (k1 := i) (k2 := i) (hend.imp (fun h => by simp; omega) (fun h => by simp; omega)) fun h' kp => ⟨rfl, ?_⟩
    refine I.spun (t' := s.toks) hf fun c o hc e => ?_
    simp only [List.mem_cons, List.not_mem_nil, or_false, not_or] at hc
    exact kp c o hc.1 hc.2.2.1 hc.2.2.2.1 hc.2.2.2.2 e
  self := by
    rintro A n s Q E ⟨hz, _⟩ h
    exact wpAny_pyIter_zip hz h
/-- for a, b in zip(t, u), two tuples -/
def iZip (K : PySem.W.Frag) (ta : TA) : TI := fun σ H R => ta σ H fun vs H1 => ∃ a b, vs = [.ref a, .ref b] ∧ (∃ xs, SqT K H1 a xs) ∧ (∃ ys, SqT K H1 b ys) ∧ R (Itz K a b) H1
end L2

set_option maxRecDepth 100000
namespace L2
open PySem PySem.Spec PyProof.Rows

/-! ### a list comprehension -/
/-- the cells that a block takes over -/
def clsOf (cells : List (Str × Addr)) : List (Str × NameKind) → List (Str × Addr) → Option (List (Str × Addr))
  | [], acc => some acc
  | (n, k) :: r, acc => if (k == .free) = true then (match cells.lookup n with | some a => clsOf cells r ((n, a) :: acc) | none => none) else clsOf cells r acc

theorem clsOf_loop {env : Env} : ∀ (ns : List (Str × NameKind)) (acc cl : List (Str × Addr)), clsOf env.cells ns acc = some cl →
    (forIn ns acc fun (x : Str × NameKind) (cs : List (Str × Addr)) => (if (x.2 == .free) = true then (do let a ← cellOf env x.1; pure (ForInStep.yield ((x.1, a) :: cs))) else pure (ForInStep.yield cs) : Sem _)) = pure cl
  | [], acc, cl, h => by
    simp only [clsOf, Option.some.injEq] at h
    subst h; rfl
  | (n, k) :: r, acc, cl, h => by
    rw [List.forIn_cons]
    unfold clsOf at h
    by_cases hk : (k == NameKind.free) = true
    · rw [if_pos hk] at h
      simp only [hk, if_true]
      cases e : env.cells.lookup n with
      | none => rw [e] at h; cases h
      | some a =>
        rw [e] at h
        have ih := clsOf_loop r ((n, a) :: acc) cl h
        simp only [cellOf, e, pure_bind]
        exact ih
    · rw [if_neg hk] at h
      simp only [hk, if_false, pure_bind]
      exact clsOf_loop r acc cl h
theorem closure_of {env : Env} {sc : Scope} {cl : List (Str × Addr)} (h : clsOf env.cells sc.names [] = some cl) : closureFor sc env = pure cl := by
  have e := clsOf_loop (env := env) sc.names [] cl h
  unfold closureFor
  have e2 := congrArg (fun m : Sem (List (Str × Addr)) => m >>= fun r => (pure r : Sem (List (Str × Addr)))) e
  simp only [pure_bind] at e2
  refine Eq.trans ?_ e2
  rfl
theorem clsOf_sub {cells : List (Str × Addr)} : ∀ (ns : List (Str × NameKind)) (acc cl : List (Str × Addr)), clsOf cells ns acc = some cl → (∀ x c, acc.lookup x = some c → cells.lookup x = some c) → ∀ x c, cl.lookup x = some c → cells.lookup x = some c
  | [], acc, cl, h, ha => by
    simp only [clsOf, Option.some.injEq] at h
    subst h; exact ha
  | (n, k) :: r, acc, cl, h, ha => by
    unfold clsOf at h
    by_cases hk : (k == NameKind.free) = true
    · rw [if_pos hk] at h
      cases e : cells.lookup n with
      | none => rw [e] at h; cases h
      | some a =>
        rw [e] at h
        refine clsOf_sub r ((n, a) :: acc) cl h fun x c q => ?_
        rw [List.lookup_cons] at q
        cases hx : x == n with
        | true =>
          rw [hx] at q
          have e' : x = n := by simpa using hx
          subst e'
          cases q; exact e
        | false => rw [hx] at q; exact ha x c q
    · rw [if_neg hk] at h
      exact clsOf_sub r acc cl h ha
theorem clsOf_has {cells : List (Str × Addr)} : ∀ (ns : List (Str × NameKind)) (acc cl : List (Str × Addr)), clsOf cells ns acc = some cl → (∀ x, (∃ c, acc.lookup x = some c) → ∃ c, cl.lookup x = some c) ∧ ∀ y ∈ ns, y.2 = .free → ∃ c, cl.lookup y.1 = some c
  | [], acc, cl, h => by
    simp only [clsOf, Option.some.injEq] at h
    subst h; exact ⟨fun x q => q, fun y hy => by simp at hy⟩
  | (n, k) :: r, acc, cl, h => by
    unfold clsOf at h
    by_cases hk : (k == NameKind.free) = true
    · rw [if_pos hk] at h
      cases e : cells.lookup n with
      | none => rw [e] at h; cases h
      | some a =>
        rw [e] at h
        obtain ⟨h1, h2⟩ := clsOf_has r ((n, a) :: acc) cl h
        have up : ∀ x, (∃ c, acc.lookup x = some c) → ∃ c, ((n, a) :: acc).lookup x = some c := fun x ⟨c, q⟩ => by
          rw [List.lookup_cons]
          cases hx : x == n with
          | true => exact ⟨a, rfl⟩
          | false => exact ⟨c, q⟩
        refine ⟨fun x q => h1 x (up x q), fun y hy hf => ?_⟩
        rcases List.mem_cons.mp hy with rfl | hy
        · exact h1 n ⟨a, by simp [List.lookup_cons]⟩
        · exact h2 y hy hf
    · rw [if_neg hk] at h
      obtain ⟨h1, h2⟩ := clsOf_has r acc cl h
      refine ⟨h1, fun y hy hf => ?_⟩
      rcases List.mem_cons.mp hy with rfl | hy
      · exact absurd (show (k == NameKind.free) = true by have : k = .free := hf; subst this; rfl) hk
      · exact h2 y hy hf

theorem relabel_free {env : Env} : ∀ {names : List (Str × NameKind)} {x : Str}, names.lookup x = some .free →
    (names.map fun (n, k) => if (k == NameKind.free && env.scope.kind == .function && env.kindOf n == some .cell) then (n, NameKind.cell) else (n, k)).lookup x = some .cell ∨
    (names.map fun (n, k) => if (k == NameKind.free && env.scope.kind == .function && env.kindOf n == some .cell) then (n, NameKind.cell) else (n, k)).lookup x = some .free
  | [], _, h => by simp at h
  | (n, k) :: r, x, h => by
    have ih := @relabel_free env r x
    rw [List.map_cons]
    dsimp only
    cases hx : x == n with
    | true =>
      simp only [List.lookup_cons, hx] at h
      cases h
      by_cases hc : (NameKind.free == NameKind.free && env.scope.kind == .function && env.kindOf n == some .cell) = true
      · refine .inl ?_
        rw [if_pos hc, List.lookup_cons, hx]
      · refine .inr ?_
        rw [if_neg hc, List.lookup_cons, hx]
    | false =>
      simp only [List.lookup_cons, hx] at h
      by_cases hc : (k == NameKind.free && env.scope.kind == .function && env.kindOf n == some .cell) = true
      · rw [if_pos hc]; simp only [List.lookup_cons, hx]; exact ih h
      · rw [if_neg hc]; simp only [List.lookup_cons, hx]; exact ih h
theorem relabel_back {env : Env} : ∀ {names : List (Str × NameKind)} {x : Str} {kd : NameKind}, (kd = .cell ∨ kd = .free) →
    (names.map fun (n, k) => if (k == NameKind.free && env.scope.kind == .function && env.kindOf n == some .cell) then (n, NameKind.cell) else (n, k)).lookup x = some kd → ∃ y ∈ names, y.1 = x ∧ (y.2 = .free ∨ y.2 = .cell)
  | [], _, _, _, h => by simp at h
  | (n, k) :: r, x, kd, hkd, h => by
    have ih := @relabel_back env r x kd hkd
    rw [List.map_cons] at h
    dsimp only at h
    cases hx : x == n with
    | true =>
      have e : x = n := by simpa using hx
      subst e
      refine ⟨(x, k), by simp, rfl, ?_⟩
      by_cases hc : (k == NameKind.free && env.scope.kind == .function && env.kindOf x == some .cell) = true
      · refine .inl ?_
        simp only [Bool.and_eq_true] at hc
        simpa using hc.1.1
      · rw [if_neg hc] at h
        simp only [List.lookup_cons, beq_self_eq_true, Option.some.injEq] at h
        subst h
        exact hkd.symm
    | false =>
      have h' : (r.map fun (n, k) => if (k == NameKind.free && env.scope.kind == .function && env.kindOf n == some .cell) then (n, NameKind.cell) else (n, k)).lookup x = some kd := by
        by_cases hc : (k == NameKind.free && env.scope.kind == .function && env.kindOf n == some .cell) = true
        · rw [if_pos hc] at h; simp only [List.lookup_cons, hx] at h; exact h
        · rw [if_neg hc] at h; simp only [List.lookup_cons, hx] at h; exact h
      obtain ⟨y, hy, q⟩ := ih h'
      exact ⟨y, List.mem_cons_of_mem _ hy, q⟩

/-- the context of the block: made where the frame is about to be laid; nothing may be raised in it -/
def cxC (X : Cx) (sc : Scope) (cl : List (Str × Addr)) (NC : List Str) (fp : List Addr) (s : Shared) (H : Hp) : Cx where
  prog := X.prog
  w := X.w
  K := X.K
  mg := X.mg
  base := X.base
  A := X.A
  N := NC
  s₀ := s
  H₀ := H
  env := compEnvC sc cl s.heap.objs.size X.env
  outer := X.stack
  stack := X.stack
  ex := fp
  fn := fun _ => false
  calm := X.calm
  pn := []
  xe := fun _ _ => False
/-- the names of a block that are the outer frame's -/
def OutOk (X : Cx) (sc : Scope) : List Str → List (Option Nat) → Prop
  | x :: xs, o :: os => (match o with | none => True | some j => X.N[j]? = some x ∧ sc.names.lookup x = some .free ∧ (X.env.scope.names.lookup x = some .cell ∨ X.env.scope.names.lookup x = some .free)) ∧ OutOk X sc xs os
  | _, _ => True
theorem OutOk.at {X : Cx} {sc : Scope} : ∀ {NC : List Str} {fr : List (Option Nat)}, OutOk X sc NC fr → ∀ (i : Nat) (x : Str) (j : Nat), NC[i]? = some x → fr[i]? = some (some j) →
    X.N[j]? = some x ∧ sc.names.lookup x = some .free ∧ (X.env.scope.names.lookup x = some .cell ∨ X.env.scope.names.lookup x = some .free)
  | [], _, _, i, x, j, h1, _ => by simp at h1
  | _ :: _, [], _, i, x, j, _, h2 => by simp at h2
  | y :: ys, o :: os, h, 0, x, j, h1, h2 => by
    simp only [List.getElem?_cons_zero, Option.some.injEq] at h1 h2
    subst h1 h2
    exact h.1
  | y :: ys, o :: os, h, i + 1, x, j, h1, h2 => OutOk.at h.2 i x j (by simpa using h1) (by simpa using h2)
/-- what the block's names are: its own ones, and those of the outer frame, by their places -/
structure Blk (X : Cx) (sc : Scope) (cl : List (Str × Addr)) (NC : List Str) (fr : List (Option Nat)) : Prop where
  kind : sc.kind = .function
  cls : clsOf X.env.cells sc.names [] = some cl
  nocell : ∀ y ∈ sc.names, y.2 ≠ .cell
  names : ∀ y ∈ sc.names, y.2 = .local → sc.names.lookup y.1 = some .local
  len : fr.length = NC.length
  out : OutOk X sc NC fr
def stC (fr : List (Option Nat)) (σ : St) : St := fr.map fun o => o.bind fun j => (σ[j]?).join
theorem blk_start {X : Cx} {sc : Scope} {cl : List (Str × Addr)} {NC : List Str} {fr : List (Option Nat)} {pins : List (Addr × Obj)} {σ : St} {H : Hp} {s s4 : Shared} {fp : List Addr} (B : Blk X sc cl NC fr)
    (I : Inv X pins σ H s) (hf : ∀ b ∈ fp, FpOk X pins H b) (hlt : ∀ b ∈ fp, b < s.heap.objs.size) (hns : ∃ m, s4.heap.Ns s.heap.objs.size m) (hk : ∀ b o, s.heap.get? b = some o → s4.heap.get? b = some o) (hos : s4.os = s.os) (hg : s4.gens = s.gens) :
    Inv (cxC X sc cl NC fp s H) [] (stC fr σ) H s4 := by
  have sub := clsOf_sub sc.names [] cl B.cls (fun x c q => by simp at q)
  have has := (clsOf_has sc.names [] cl B.cls).2
  have nloc : ∀ x c, cl.lookup x = some c → c < s.heap.objs.size := fun x c e => by
    obtain ⟨v, o, q, _⟩ := I.cell x c (sub x c e)
    exact Heap.lt_size q
  refine ⟨⟨I.ok.mod, B.kind, I.ok.glob, I.ok.blt, Nat.le_refl _, fun x y c h1 h2 => I.ok.inj x y c (sub x c h1) (sub y c h2), fun x hx => ?_, fun x c hx _ => (nomatch hx), I.ok.hd, I.ok.frames, .inl rfl, fun b hb => ⟨?_, fun x c e => ?_⟩, I.bs, Nat.le_trans I.ok.bsz I.sz, fun b o e hb => ?_, fun b hb => ?_, I.stack, I.stkFree⟩,
    hos, by rw [hg]; exact I.bare, Un.kept hk, ?_, fun x c e => ?_, I.hok.fresh (Nat.le_refl _), fun x c e => I.freeC x c (sub x c e), fun p hp => absurd (show p ∈ ([] : List (Addr × Obj)) from hp) (by simp), I.hok.kept hk, ?_⟩
  · have h' : ∃ y ∈ sc.names, y.1 = x ∧ (y.2 = .free ∨ y.2 = .cell) := by
      rcases hx with q | q
      · exact relabel_back (.inl rfl) q
      · exact relabel_back (.inr rfl) q
    obtain ⟨y, hy, rfl, q⟩ := h'
    rcases q with q | q
    · exact has y hy q
    · exact absurd q (B.nocell y hy)
  · exact Nat.ne_of_lt (hlt b hb)
  · intro z
    obtain ⟨f0, f1, f2, f3, f4, f5⟩ := hf b hb
    exact f4 x c (sub x c e) z
  · obtain ⟨f0, f1, f2, f3, f4, f5⟩ := hf b hb
    rcases f3 with q | q
    · exact I.ok.noex b o e q
    · exact absurd (Nat.lt_of_lt_of_le (Heap.lt_size e) I.ok.bsz) (Nat.not_lt.mpr q)
  · intro z
    obtain ⟨f0, f1, f2, f3, f4, f5⟩ := hf b hb
    rcases List.mem_cons.mp (I.stkSub b z) with q | q
    · exact f1 q
    · exact f2 q
  · obtain ⟨m, hm⟩ := hns
    refine ⟨m, hm, fun i x v h1 h2 h3 => ?_⟩
    unfold stC at h2
    rw [List.getElem?_map] at h2
    cases e : fr[i]? with
    | none => rw [e] at h2; cases h2
    | some oj =>
      rw [e] at h2
      cases oj with
      | none => cases h2
      | some j =>
        have h2' : (σ[j]?).join = some v := Option.some.inj h2
        have h4 : σ[j]? = some (some v) := by
          cases q : σ[j]? with
          | none => rw [q] at h2'; cases h2'
          | some o => rw [q] at h2'; exact congrArg some h2'
        obtain ⟨n1, n2, n3⟩ := B.out.at i x j h1 e
        obtain ⟨m0, hm0, hl⟩ := I.loc
        obtain ⟨u, r, l⟩ := hl j x v n1 h4 (n3.elim (fun q => .inr (.inl q)) fun q => .inr (.inr q))
        refine ⟨u, r, .inr ⟨relabel_free n2, ?_⟩⟩
        rcases l with ⟨k1, _⟩ | ⟨_, c, c1, c2⟩
        · have k1' : X.env.scope.names.lookup x = some .local := k1
          rcases n3 with q | q <;> (rw [q] at k1'; cases k1')
        · obtain ⟨c', e'⟩ := has (x, .free) (PySem.mem_of_lookup n2) rfl
          have q := sub x c' e'
          rw [c1] at q; cases q
          obtain ⟨o, ho, hd⟩ := c2
          exact ⟨c, e', o, hk _ _ ho, hd⟩
  · obtain ⟨v, o, q, d⟩ := I.cell x c (sub x c e)
    exact ⟨v, o, hk _ _ q, d⟩
  · show (stC fr σ).length = NC.length
    unfold stC
    rw [List.length_map]; exact B.len

/-- the turns of a comprehension (its target may let an owned tuple go); nothing is raised -/
theorem comp_turns {prog : Program} {w : World} {A : Around} {R : Result → Shared → Prop} {s : Shared} {elt target iter : Expr} {ifs : List Expr} {scope : Scope} {pos : Pos} {it acc : Value} {env : Env} (J : Nat → Shared → Prop)
    (turn : ∀ n s, J n s → wpAny (model prog w) A (pyNext it) (fun r s1 => match r with
      | none => R (.ok .next) s1
      | some v => wpAny (model prog w) A (letOwnedTupleGo target it v) (fun _ s2 => wpAny (model prog w) A (assign target env v) (fun _ s3 =>
          wpAny (model prog w) A (compTests ifs env) (fun ok s4 => if ok = true then wpAny (model prog w) A (eval elt env) (fun x s5 =>
              wpAny (model prog w) A (call (.builtin "list.append") [acc, x]) (fun _ s6 => ∃ m, m < n ∧ J m s6) (fun _ _ => False) s5) (fun _ _ => False) s4
            else ∃ m, m < n ∧ J m s4) (fun _ _ => False) s3) (fun _ _ => False) s2) (fun _ _ => False) s1) (fun _ _ => False) s)
    (n : Nat) (h : J n s) : codeAny (model prog w) A (.compLoop (.ListComp elt [⟨target, iter, ifs, 0⟩] scope pos) 0 it acc env) R s := by
  refine codeAny_loop rfl J (fun n s hJ => ?_) n h
  show wpAny _ A ((compTurn (.ListComp elt [⟨target, iter, ifs, 0⟩] scope pos) 0 it acc env).onRaise (fun x => do noteFrame x env; theTreesLotGoes x)) _ _ s
  refine wpAny_noted ?_
  have wk : ∀ {α : Type} {t : Sem α} {Q Q' : α → Shared → Prop} {E : Value → Shared → Prop} {s : Shared}, wpAny (model prog w) A t Q (fun _ _ => False) s → (∀ a s, Q a s → Q' a s) → wpAny (model prog w) A t Q' E s := fun h q => wpAny_mono h q fun _ _ f => f.elim
  rw [compTurn_list]
  refine wpAny_bind (wpAny_standAt (wpAny_bind (wk (turn n s hJ) fun r s1 h1 => ?_)))
  cases r with
  | none => exact wpAny_pure h1
  | some v =>
    refine wpAny_bind (wk h1 fun _ s2 h2 => wpAny_bind (wk h2 fun _ s3 h3 => ?_))
    have h3' : wpAny (model prog w) A (forIn ifs true fun c r => if r = true then do let ok ← isTrue c env (eval c env); pure (ForInStep.yield ok) else pure (ForInStep.yield r)) (fun ok s4 => if ok = true then wpAny (model prog w) A (eval elt env) (fun x s5 =>
              wpAny (model prog w) A (call (.builtin "list.append") [acc, x]) (fun _ s6 => ∃ m, m < n ∧ J m s6) (fun _ _ => False) s5) (fun _ _ => False) s4
            else ∃ m, m < n ∧ J m s4) (fun _ _ => False) s3 := by
      have e : compTests ifs env = (forIn ifs true fun c r => if r = true then do let ok ← isTrue c env (eval c env); pure (ForInStep.yield ok) else pure (ForInStep.yield r)) >>= pure := by rfl
      rw [e, bind_pure] at h3
      exact h3
    refine wpAny_bind (wk h3' fun ok s4 h4 => ?_)
    cases ok with
    | false => exact wpAny_pure ⟨rfl, h4⟩
    | true => exact wpAny_bind (wpAny_bind (wk h4 fun x s5 h5 => wpAny_bind (wk h5 fun _ s6 h6 => wpAny_pure (wpAny_pure ⟨rfl, h6⟩))))

/-- the tests of a comprehension -/
def PF (X : Cx) (ifs : List Expr) (t : TT) : Prop :=
  ∀ (pins : List (Addr × Obj)) (s : Shared) (σ : St) (H : Hp) (Q : Bool → Hp → Prop), Inv X pins σ H s → t σ H Q → wpAny (model X.prog X.w) X.A (compTests ifs X.env) (TP X pins σ Q) X.xe s
def tYes : TT := fun _ H Q => Q true H
theorem pf_nil {X : Cx} : PF X [] tYes := fun _ _ _ H _ I h => wpAny_pure ⟨H, I, h⟩
theorem pf_one {X : Cx} {c : Expr} {t : TT} (h : PT X c t) : PF X [c] t := fun pins s σ H Q I hw => by
  have e : compTests [c] X.env = (forIn [c] true fun c r => if r = true then do let ok ← isTrue c X.env (eval c X.env); pure (ForInStep.yield ok) else pure (ForInStep.yield r)) >>= pure := by rfl
  rw [e, bind_pure]
  exact wpAny_tests_one (h pins s σ H Q I hw)

/-- [elt for target in iter if tests]: W the invariant over the turn, a measure, the block's names, the heap; the list grows at acc -/
def tComp (K : PySem.W.Frag) (fr : List (Option Nat)) (wi : TI) (g : TG) (tt : TT) (te : TE) : TE := fun σ H Q => wi σ H fun J H1 => ∀ acc, H1 acc = none → K.lookup acc = none →
  ∃ W : Nat → Nat → St → Hp → Prop, (∃ m, W 0 m (stC fr σ) (upd H1 acc (.lst []))) ∧ ∀ i m σc H, W i m σc H →
    (J.stop i H ∧ Q (.ref acc) H) ∨ (J.go i H ∧ ∃ N : St → Hp → Prop, (∀ σ' H', N σ' H' → ∃ m', m' < m ∧ W (i + 1) m' σ' H') ∧ ∀ x H', J.yld i H x H' → g x σc H' fun σ2 H2 => tt σ2 H2 fun b H3 =>
      if b = true then te σ2 H3 fun v H4 => ∃ xs, H4 acc = some (.lst xs) ∧ xs.length < sizeLine ∧ N σ2 (upd H4 acc (.lst (xs ++ [v]))) else N σ2 H3)

section
variable {X : Cx} {sc : Scope} {cl : List (Str × Addr)} {NC : List Str} {fr : List (Option Nat)} {elt target iter : Expr} {ifs : List Expr} {pos : Pos} {wi : TI} {g : TG} {tt : TT} {te : TE}
/-- the core: up to the block's end, whatever is done with the list behind it -/
theorem comp_core {pins : List (Addr × Obj)} {s : Shared} {σ : St} {H : Hp} {Q : VK} {RR : Value → Addr → Result → Shared → Prop} (B : Blk X sc cl NC fr) (hc : X.calm = true) (hi : PI X target iter wi)
    (hg : ∀ fp s H, PG (cxC X sc cl NC fp s H) target g) (ht : ∀ fp s H, PF (cxC X sc cl NC fp s H) ifs tt) (he : ∀ fp s H, PE (cxC X sc cl NC fp s H) elt te)
    (I : Inv X pins σ H s) (h : tComp X.K fr wi g tt te σ H Q)
    (hRR : ∀ acc C s' H', Q (.ref acc) H' → (∃ m, s'.heap.Ns C m) → Inv X pins σ H' s' → FpOk X pins H' C → RR (.ref acc) C (.ok .next) s') :
    wpAny (model X.prog X.w) X.A (eval iter X.env) (fun x s1 => wpAny (model X.prog X.w) X.A (pyIter x) (fun it s2 => wpAny (model X.prog X.w) X.A (newList []) (fun acc s3 =>
      wpAny (model X.prog X.w) X.A (newFunctionEnv sc X.env.globals cl [] X.env.qual none .none (some X.env)) (fun cenv s4 =>
        codeAny (model X.prog X.w) X.A (.compStart (.ListComp elt [⟨target, iter, ifs, 0⟩] sc pos) 0 it acc { cenv with scope := relabel sc X.env }) (RR acc cenv.locals) s4) X.xe s3) X.xe s2) X.xe s1) X.xe s := by
  refine thn (hi pins s σ H _ I h) fun v s1 h1 => thn h1 fun itv s2 h2 => ?_
  obtain ⟨it, fp, tn, J, H2, e, I2, T, st2, f2, K⟩ := h2
  subst e
  have nk : X.K.lookup s2.heap.objs.size = none := by
    cases q : X.K.lookup s2.heap.objs.size with
    | none => rfl
    | some o => exact absurd (Heap.lt_size (I2.kIn _ o q)) (Nat.lt_irrefl _)
  obtain ⟨W, ⟨m0, w0⟩, turn⟩ := K s2.heap.objs.size (I2.hok.fresh (Nat.le_refl _)) nk
  have I3 : Inv X pins σ (upd H2 s2.heap.objs.size (.lst [])) { s2 with heap := s2.heap.push { cls := .type "list", dict := none, data := .seq ([] : List Value).toArray } } :=
    I2.laid (t' := s2.toks) (fun b u e => Heap.get?_push_of_some _ e) (Nat.le_refl _) ⟨Nat.zero_le _, [], 0, .nil, Heap.get?_push_size _ rfl⟩
  have lt2 : ∀ b ∈ fp, b < s2.heap.objs.size := fun b hb => by
    obtain ⟨o, e, _⟩ := T.obj _ _ st2 b hb
    exact Heap.lt_size e
  have f3 : ∀ b ∈ fp, FpOk X pins (upd H2 s2.heap.objs.size (.lst [])) b := fun b hb => ⟨by rw [upd_ne (Nat.ne_of_lt (lt2 b hb))]; exact (f2 b hb).1, (f2 b hb).2⟩
  refine wpAny_newObj_type (wpAny_newFunctionEnv B.nocell (by intro y hy; simp at hy) (fun h4 hns4 hsb4 => ?_) B.kind)
  dsimp only at hns4 hsb4 ⊢
  generalize hs3 : ({ s2 with heap := s2.heap.push { cls := .type "list", dict := none, data := .seq ([] : List Value).toArray } } : Shared) = s3 at I3 ⊢
  have hh3 : s3.heap = s2.heap.push { cls := .type "list", dict := none, data := .seq ([] : List Value).toArray } := by rw [← hs3]
  have z3 : s3.heap.objs.size = s2.heap.objs.size + 1 := by rw [hh3, Heap.size_push]
  rw [← hh3] at hns4 hsb4 ⊢
  have k4 : ∀ b o, s3.heap.get? b = some o → h4.get? b = some o := fun b o e => hsb4.extBut b o (Nat.ne_of_lt (Heap.lt_size e)) (Heap.get?_push_of_some _ e)
  have lt3 : ∀ b ∈ fp, b < s3.heap.objs.size := fun b hb => by rw [z3]; exact Nat.lt_succ_of_lt (lt2 b hb)
  have start : ∀ s4 : Shared, s4 = { s2 with heap := h4, toks := s2.toks + ([] : List (Str × Value)).length } → codeAny (model X.prog X.w) X.A (.compLoop (.ListComp elt [⟨target, iter, ifs, 0⟩] sc pos) 0 (.ref it) (.ref s2.heap.objs.size) (compEnvC sc cl s3.heap.objs.size X.env)) (RR (.ref s2.heap.objs.size) s3.heap.objs.size) s4 := by
    rintro s4 rfl
    have I4 : Inv (cxC X sc cl NC fp s3 (upd H2 s2.heap.objs.size (.lst []))) [] (stC fr σ) (upd H2 s2.heap.objs.size (.lst [])) { s2 with heap := h4, toks := s2.toks + ([] : List (Str × Value)).length } :=
      blk_start B I3 f3 lt3 ⟨_, hns4⟩ k4 (by rw [← hs3]) (by rw [← hs3])
    have st4 : tn 0 h4 := T.keep _ _ _ st2 fun b hb o e => k4 b o (by rw [hh3]; exact Heap.get?_push_of_some _ e)
    have stat : ∀ {H' : Hp}, (∀ b ∈ fp, H' b = none) → ∀ b ∈ fp, FpOk (cxC X sc cl NC fp s3 (upd H2 s2.heap.objs.size (.lst []))) [] H' b := fun hn b hb =>
      ⟨hn b hb, (I4.ok.exf b hb).1, I4.ok.exfs b hb, .inl hb, (I4.ok.exf b hb).2, fun p hp => absurd (show p ∈ ([] : List (Addr × Obj)) from hp) (by simp)⟩
    refine comp_turns (fun n s' => ∃ i σ' H', Inv (cxC X sc cl NC fp s3 (upd H2 s2.heap.objs.size (.lst []))) [] σ' H' s' ∧ tn i s'.heap ∧ (∀ b ∈ fp, H' b = none) ∧ W i n σ' H') ?_ m0 ⟨0, _, _, I4, st4, fun b hb => (f3 b hb).1, w0⟩
    rintro n s5 ⟨i, σ5, H5, I5, st5, fr5, w5⟩
    rcases turn i n σ5 H5 w5 with ⟨stop, qn⟩ | ⟨go, N, hN, step⟩
    · refine thn (T.done (cxC X sc cl NC fp s3 (upd H2 s2.heap.objs.size (.lst []))) rfl rfl rfl hc i [] s5 σ5 H5 _ I5 (stat fr5) st5 stop) fun r s6 ⟨hr, I6⟩ => ?_
      subst hr
      have hC : H5 s3.heap.objs.size = none := I6.free
      refine hRR _ _ s6 H5 qn (let ⟨m, hm, _⟩ := I6.loc; ⟨m, hm⟩) ?_ (I3.fpOk (Nat.le_refl _) hC)
      have un : Un (frs X.stack) fp (upd H2 s2.heap.objs.size (.lst [])) H5 s3.heap s6.heap := I6.base
      have eo : s6.os = s3.os := I6.os
      have hb6 := I6.bare
      have hk6 : HOk X.prog X.w H5 s6.heap := I6.hok
      obtain ⟨hh6, g6, d6, t6, os6⟩ := s6
      dsimp only at eo
      subst eo
      exact I3.call (h' := hh6) (g' := g6) (d' := d6) (t' := t6) (ch := fp) un hk6 hb6 fun b hb => ⟨(f3 b hb).2.2.2.1, (f3 b hb).2.1, (f3 b hb).2.2.2.2.1, (f3 b hb).2.2.2.2.2⟩
    · refine thn (T.item (cxC X sc cl NC fp s3 (upd H2 s2.heap.objs.size (.lst []))) rfl rfl rfl hc i [] s5 σ5 H5 _ I5 (stat fr5) st5 go) fun r s6 ⟨u, hr, h6⟩ => ?_
      subst hr
      refine thn h6 fun _ s7 ⟨x, H7, I7, r7, y7, st7, fr7⟩ => ?_
      have I7' := I7.pinned (stat fr7) (T.obj _ _ st7)
      refine thn (hg fp s3 _ _ s7 σ5 H7 x u _ I7' r7 (step x H7 y7)) fun _ s8 ⟨σ8, H8, I8, q8⟩ => ?_
      refine thn (ht fp s3 _ _ s8 σ8 H8 _ I8 q8) fun b s9 ⟨H9, I9, q9⟩ => ?_
      have again : ∀ {s10 : Shared} {σ7 : St} {H10 : Hp}, Inv (cxC X sc cl NC fp s3 (upd H2 s2.heap.objs.size (.lst []))) ([] ++ pinsAt fp s7.heap) σ7 H10 s10 → N σ7 H10 →
          ∃ m, m < n ∧ ∃ i σ' H', Inv (cxC X sc cl NC fp s3 (upd H2 s2.heap.objs.size (.lst []))) [] σ' H' s10 ∧ tn i s10.heap ∧ (∀ b ∈ fp, H' b = none) ∧ W i m σ' H' := fun {s10 σ7 H10} I10 n7 => by
        obtain ⟨m', hm, w7⟩ := hN σ7 H10 n7
        refine ⟨m', hm, i + 1, σ7, H10, I10.unpinned, T.keep _ _ _ st7 fun b hb o e => (I10.pin (b, o) (List.mem_append_right _ (List.mem_append_right _ (mem_pinsAt hb e)))).1, fun b hb => ?_, w7⟩
        obtain ⟨o, e, d⟩ := T.obj _ _ st7 b hb
        exact (I10.pin (b, o) (List.mem_append_right _ (List.mem_append_right _ (mem_pinsAt hb e)))).2.1
      cases b with
      | false => exact again I9 q9
      | true =>
        refine thn (he fp s3 _ _ s9 σ8 H9 _ I9 q9) fun y s10 ⟨v, H10, I10, r10, xs, q1, q2, q3⟩ => ?_
        refine thn (mt_append (X := cxC X sc cl NC fp s3 (upd H2 s2.heap.objs.size (.lst []))) _ s10 σ8 H10 (.ref s2.heap.objs.size) [v] (.ref s2.heap.objs.size) [y] (fun z H' => N σ8 H') I10 rfl (.cons r10 .nil) ⟨_, xs, v, rfl, rfl, q1, q2, q3⟩) fun z s11 ⟨_, H11, I11, _, q11⟩ => ?_
        exact again I11 q11
  exact codeAny_compStart_list (start _ rfl) (T.self _ _ _ _ _ (T.keep _ _ _ st2 fun b hb o e => k4 b o (by rw [hh3]; exact Heap.get?_push_of_some _ e)) (start _ rfl))
theorem pe_comp (B : Blk X sc cl NC fr) (hc : X.calm = true) (hi : PI X target iter wi) (hg : ∀ fp s H, PG (cxC X sc cl NC fp s H) target g) (ht : ∀ fp s H, PF (cxC X sc cl NC fp s H) ifs tt) (he : ∀ fp s H, PE (cxC X sc cl NC fp s H) elt te)
    (hs : ∀ x, foldedSetIterable iter X.env x = pure x := by intro _; rfl) : PE X (.ListComp elt [⟨target, iter, ifs, 0⟩] sc pos) (tComp X.K fr wi g tt te) := by
  intro pins s σ H Q I h
  rw [eval_ListComp]
  refine wpAny_comprehension_free (use := none) rfl hs (closure_of B.cls) B.kind B.names ?_
  refine comp_core (RR := fun acc C => compPost (model X.prog X.w) X.A X.xe none (EP X pins σ Q) acc C) B hc hi hg ht he I h ?_
  rintro acc C s' H' q ⟨m, hn⟩ I' ⟨f0, f1, f2, f3, f4, f5⟩
  exact ⟨m, hn, fun h' sb => ⟨.ref acc, H', I'.turned (t' := s'.toks) (fun b o hb e => sb.extBut b o hb e) f0 f1 f3 f4 f5, rfl, q⟩⟩
/-- name = [elt for ..] on one line: the store comes ahead of the block's end -/
theorem ps_setComp {i : Nat} {x : Str} {pos' spos : Pos} (hN : X.N.Nodup) (hi' : X.N[i]? = some x) (hx : Loc X.env.scope x) (B : Blk X sc cl NC fr) (hc : X.calm = true) (hi : PI X target iter wi) (hg : ∀ fp s H, PG (cxC X sc cl NC fp s H) target g) (ht : ∀ fp s H, PF (cxC X sc cl NC fp s H) ifs tt) (he : ∀ fp s H, PE (cxC X sc cl NC fp s H) elt te)
    (hsw : swapsWith (.ListComp elt [⟨target, iter, ifs, 0⟩] sc pos) (some (.Name x pos')) spos.line X.env = pure true)
    (hs : ∀ x, foldedSetIterable iter X.env x = pure x := by intro _; rfl) (hf : X.fn x = true ∨ X.env.scope.names.lookup x = some .local := by first | exact .inl rfl | exact .inr rfl | assumption) :
    PS X (.Assign [.Name x pos'] (.ListComp elt [⟨target, iter, ifs, 0⟩] sc pos) spos) (tAsg (tComp X.K fr wi g tt te) (gName i)) := by
  intro pins s σ H D I h
  rw [exec_Assign_Name_used _ _ _ _ hsw]
  refine wpAny_bind (wpAny_standAt (wpAny_bind ?_))
  show wpAny _ X.A (do let _ ← comprehension (.ListComp elt [⟨target, iter, ifs, 0⟩] sc pos) sc X.env _ (newList []) false (eval iter X.env) (some (assign (.Name x pos') X.env))) _ _ s
  refine wpAny_bind (thn (Q := fun _ s' => SP X pins D .next s') ?_ fun _ s' hq => wpAny_pure (wpAny_pure hq))
  refine wpAny_comprehension_free (use := some (assign (.Name x pos') X.env)) rfl hs (closure_of B.cls) B.kind B.names ?_
  refine comp_core (RR := fun acc C => compPost (model X.prog X.w) X.A X.xe (some (assign (.Name x pos') X.env)) (fun _ s' => SP X pins D .next s') acc C) B hc hi hg ht he I h ?_
  rintro acc C s' H' q ⟨m, hn⟩ I' ⟨f0, f1, f2, f3, f4, f5⟩
  refine wpAny_assign_Name (store_ok2 I' hN hi' hx (v := .ref acc) rfl (fun s'' I'' ⟨a, sb, ha⟩ => ?_) hf)
  have nC : C ≠ a := by
    rintro rfl
    rcases ha with z | z
    · exact f1 z
    · exact f4 x _ z rfl
  refine ⟨m, hn.sameBut sb nC, fun h' sb' => ⟨_, H', I''.turned (t' := s''.toks) (fun b o hb e => sb'.extBut b o hb e) f0 f1 f3 f4 f5, q⟩⟩
end
end L2

set_option maxRecDepth 100000
namespace L2
open PySem PySem.Spec PyProof.Rows

theorem Same.upd {H : Hp} {p : Addr} {o : HO} (h : H p = none) : Same H (upd H p o) := fun b u e => by rw [upd_ne (ne_of_none e h)]; exact e
theorem Same.tupS {K : PySem.W.Frag} {H H' : Hp} {a : Addr} {xs : List V} (e : Same H H') (h : SqT K H a xs) : SqT K H' a xs := by
  rcases h with (h | ⟨o, h⟩) | h
  · exact .inl (.inl (e _ _ h))
  · exact .inl (.inr ⟨o, e _ _ h⟩)
  · exact .inr h

/-! ### t[lo:hi] of a tuple, whole or not -/
def rSlG (K : PySem.W.Frag) : V → Option Int → Option Int → Hp → VK → Prop := fun x lo hi H Q => ∃ a xs, x = .ref a ∧ SqT K H a xs ∧ ∀ p H', (p = a ∨ H p = none) → Same H H' → SqT K H' p (cutV xs lo hi) → Q (.ref p) H'
section
variable {X : Cx}
/-! ### t + u, any tuples -/
def rCatG (K : PySem.W.Frag) : R2 := fun x y H Q => ∃ a b xs ys, x = .ref a ∧ y = .ref b ∧ SqT K H a xs ∧ SqT K H b ys ∧ xs.length + ys.length ≤ sizeLine ∧ ∀ p H', (p = a ∨ p = b ∨ H p = none) → Same H H' → SqT K H' p (xs ++ ys) → Q (.ref p) H'
/-! ### all([..]) -/
/-! ### isinstance(x, T), T a built-in type -/
def subT (T n : String) : Option Bool := if (Value.type T == Value.type n) = true then some true else if PySem.W.kitMeta n = true then (PySem.fastBuiltinMro T).map (·.contains (.type n)) else none
/-- the built-in type of a value -/
inductive TyS (K : PySem.W.Frag) (H : Hp) : V → String → Prop
  | non : TyS K H .non "NoneType"
  | bl (b : Bool) : TyS K H (.bl b) "bool"
  | int (i : Int) : TyS K H (.int i) "int"
  | str (x : Str) : TyS K H (.str x) "str"
  | lst {a : Addr} {xs : List V} (h : SqL K H a xs) : TyS K H (.ref a) "list"
  | tup {a : Addr} {xs : List V} (h : SqT K H a xs) : TyS K H (.ref a) "tuple"
  | dk {a : Addr} {kvs : List (Key × V)} (h : H a = some (.dK kvs)) : TyS K H (.ref a) "dict"
theorem call_isi : CallR X (.builtin "isinstance") (fun xs H Q => ∃ x T n b, xs = [x, .ty n] ∧ TyS X.K H x T ∧ subT T n = some b ∧ Q (.bl b) H) := by
  intro pins s σ H xs us Q I r h
  obtain ⟨x, T, n, b, rfl, ty, hs, q⟩ := h
  obtain ⟨u, w, rfl, ru, rw_⟩ := vals2 r
  cases rw_
  have e : PySem.W.kitOne X.K (.type T) (.type n) = some b := hs
  have fin : ∀ tk, EP X pins σ Q (.bool b) { s with toks := tk } := fun tk => ⟨.bl b, H, I.tok tk, rfl, q⟩
  cases ty with
  | non => cases ru; exact PySem.W.kia_one PySem.W.kitx_none I.kIn True.intro e (fun z => nomatch z) fin
  | bl y => cases ru; exact PySem.W.kia_one PySem.W.kitx_bool I.kIn True.intro e (fun z => nomatch z) fin
  | int i => obtain ⟨t, rfl⟩ := ru; exact PySem.W.kia_one PySem.W.kitx_int I.kIn True.intro e (fun z => nomatch z) fin
  | str y => obtain ⟨t, rfl⟩ := ru; exact PySem.W.kia_one PySem.W.kitx_str I.kIn True.intro e (fun z => nomatch z) fin
  | lst hq =>
    cases ru
    obtain ⟨its, _, ⟨o, nn, e1, e2, _⟩, _⟩ := I.list hq
    exact PySem.W.kia_one PySem.W.kitx_list I.kIn ⟨o, e1, e2⟩ e (fun z => nomatch z) fin
  | tup hq =>
    cases ru
    obtain ⟨its, _, ⟨o, e1, e2, _⟩, _⟩ := I.tuple hq
    exact PySem.W.kia_one PySem.W.kitx_tuple I.kIn ⟨o, e1, e2⟩ e (fun z => nomatch z) fin
  | @dk a kvs hq =>
    cases ru
    obtain ⟨_, _, vs, _, o, es, ep, h1, h2, _⟩ := (show ObjOk X.prog X.w H s.heap a (.dK kvs) from I.hok a _ hq)
    exact PySem.W.kia_one PySem.W.kitx_dict I.kIn ⟨o, h1, h2.1⟩ e (fun z => nomatch z) fin
def isB (T n : String) : Bool := T == n || (T == "bool" && n == "int")
theorem subT_tab : ∀ T ∈ ["NoneType", "bool", "int", "str", "list", "tuple", "dict"], ∀ n ∈ ["int", "bool", "str", "tuple", "list", "dict"], subT T n = some (isB T n) := by decide +kernel
end
end L2

set_option maxRecDepth 100000
namespace L2
open PySem PySem.Spec PyProof.Rows

/-- what was tracked is as it was, but for the objects at N -/
def Ext (N : List Addr) (H H' : Hp) : Prop := ∀ b o, H b = some o → b ∉ N → H' b = some o
theorem Ext.trans {N : List Addr} {H H1 H2 : Hp} (a : Ext N H H1) (b : Ext N H1 H2) : Ext N H H2 := fun c o h n => b c o (a c o h n) n
theorem Ext.same {N : List Addr} {H H' : Hp} (a : Same H H') : Ext N H H' := fun c o h _ => a c o h
theorem Ext.new {N : List Addr} {H : Hp} {p : Addr} {o : HO} (h : H p = none) : Ext N H (upd H p o) := Ext.same (Same.upd h)
theorem Ext.at {N : List Addr} {H : Hp} {p : Addr} {o : HO} (h : p ∈ N) : Ext N H (L2.upd H p o) := fun c u e n => by rw [upd_ne (show c ≠ p from fun z => n (by rw [z]; exact h))]; exact e
theorem Ext.tup {N : List Addr} {K : PySem.W.Frag} {H H' : Hp} {a : Addr} {xs : List V} (e : Ext N H H') (h : SqT K H a xs) (n : a ∉ N) : SqT K H' a xs := by
  rcases h with (h | ⟨o, h⟩) | h
  · exact .inl (.inl (e _ _ h n))
  · exact .inl (.inr ⟨o, e _ _ h n⟩)
  · exact .inr h
theorem Ext.lst {N : List Addr} {K : PySem.W.Frag} {H H' : Hp} {a : Addr} {xs : List V} (e : Ext N H H') (h : SqL K H a xs) (n : a ∉ N) : SqL K H' a xs := by
  rcases h with (h | ⟨o, h⟩) | h
  · exact .inl (.inl (e _ _ h n))
  · exact .inl (.inr ⟨o, e _ _ h n⟩)
  · exact .inr h
def kD : Key → PyData
  | .inl i => .int i
  | .inr x => .str x
mutual
/-- the value v is the datum d; none of its objects is one of those at N -/
inductive Dt (K : PySem.W.Frag) (N : List Addr) (H : Hp) : V → PyData → Prop
  | non : Dt K N H .non .none
  | bl (b : Bool) : Dt K N H (.bl b) (.bool b)
  | int (i : Int) : Dt K N H (.int i) (.int i)
  | str (x : Str) : Dt K N H (.str x) (.str x)
  | tup {a : Addr} {xs : List V} {ds : List PyData} (h : SqT K H a xs) (n : a ∉ N) (r : DtAll K N H xs ds) : Dt K N H (.ref a) (.tuple ds)
  | lst {a : Addr} {xs : List V} {ds : List PyData} (h : SqL K H a xs) (n : a ∉ N) (r : DtAll K N H xs ds) : Dt K N H (.ref a) (.list ds)
  | dk0 {a : Addr} (h : H a = some (.dK [])) (n : a ∉ N) : Dt K N H (.ref a) (.dict [])
  | dk1 {a : Addr} {k : Key} {v : V} {d : PyData} (h : H a = some (.dK [(k, v)])) (n : a ∉ N) (r : Dt K N H v d) : Dt K N H (.ref a) (.dict [(kD k, d)])
inductive DtAll (K : PySem.W.Frag) (N : List Addr) (H : Hp) : List V → List PyData → Prop
  | nil : DtAll K N H [] []
  | cons {v : V} {d : PyData} {vs : List V} {ds : List PyData} (h : Dt K N H v d) (r : DtAll K N H vs ds) : DtAll K N H (v :: vs) (d :: ds)
end
section
variable {K : PySem.W.Frag} {N : List Addr} {H H' : Hp}
mutual
theorem Dt.ext (e : Ext N H H') : ∀ {v : V} {d : PyData}, Dt K N H v d → Dt K N H' v d
  | _, _, .non => .non
  | _, _, .bl b => .bl b
  | _, _, .int i => .int i
  | _, _, .str x => .str x
  | _, _, .tup h n r => .tup (e.tup h n) n (DtAll.ext e r)
  | _, _, .lst h n r => .lst (e.lst h n) n (DtAll.ext e r)
  | _, _, .dk0 h n => .dk0 (e _ _ h n) n
  | _, _, .dk1 h n r => .dk1 (e _ _ h n) n (Dt.ext e r)
theorem DtAll.ext (e : Ext N H H') : ∀ {vs : List V} {ds : List PyData}, DtAll K N H vs ds → DtAll K N H' vs ds
  | _, _, .nil => .nil
  | _, _, .cons h r => .cons (Dt.ext e h) (DtAll.ext e r)
end
theorem DtAll.length : ∀ {vs : List V} {ds : List PyData}, DtAll K N H vs ds → vs.length = ds.length
  | _, _, .nil => rfl
  | _, _, .cons _ r => by rw [List.length_cons, List.length_cons, DtAll.length r]
theorem DtAll.get : ∀ {vs : List V} {ds : List PyData} {i : Nat} {v : V}, DtAll K N H vs ds → vs[i]? = some v → ∃ d, ds[i]? = some d ∧ Dt K N H v d
  | _, _, _, _, .nil, e => by simp at e
  | _, _, 0, _, .cons h _, e => by simp at e; subst e; exact ⟨_, rfl, h⟩
  | _, _, i + 1, v, .cons _ r, e => by
    obtain ⟨d, h1, h2⟩ := DtAll.get (i := i) (v := v) r (by simpa using e)
    exact ⟨d, by simpa using h1, h2⟩
theorem DtAll.getD : ∀ {vs : List V} {ds : List PyData} {i : Nat} {d : PyData}, DtAll K N H vs ds → ds[i]? = some d → ∃ v, vs[i]? = some v ∧ Dt K N H v d
  | _, _, _, _, .nil, e => by simp at e
  | _, _, 0, _, .cons h _, e => by simp at e; subst e; exact ⟨_, rfl, h⟩
  | _, _, i + 1, d, .cons _ r, e => by
    obtain ⟨v, h1, h2⟩ := DtAll.getD (i := i) (d := d) r (by simpa using e)
    exact ⟨v, by simpa using h1, h2⟩
theorem DtAll.append : ∀ {vs ws : List V} {ds es : List PyData}, DtAll K N H vs ds → DtAll K N H ws es → DtAll K N H (vs ++ ws) (ds ++ es)
  | _, _, _, _, .nil, s => s
  | _, _, _, _, .cons h r, s => .cons h (DtAll.append r s)
/-- the items of a cut datum -/
def cutD (ds : List PyData) (lo hi : Option Int) : List PyData := (ds.drop (HT.sIx ds.length 0 lo)).take (HT.sIx ds.length ds.length hi - HT.sIx ds.length 0 lo)
end
section
variable {X : Cx} {pins : List (Addr × Obj)} {σ : St} {H : Hp} {s : Shared} {N : List Addr}
mutual
theorem Dt.reads (I : Inv X pins σ H s) : ∀ {v : V} {d : PyData} {u : Value}, Dt X.K N H v d → RelV v u → ∃ as, Reads s.heap u d as ∧ (sysModules ∈ N ∨ d = .dict [] → sysModules ∉ as)
  | _, _, _, .non, r => by cases r; exact ⟨_, .none, fun _ => by simp⟩
  | _, _, _, .bl b, r => by cases r; exact ⟨_, .bool b, fun _ => by simp⟩
  | _, _, _, .int i, r => by obtain ⟨t, rfl⟩ := r; exact ⟨_, .int i t, fun _ => by simp⟩
  | _, _, _, .str x, r => by obtain ⟨t, rfl⟩ := r; exact ⟨_, .str x t, fun _ => by simp⟩
  | _, _, _, .tup h n q, r => by
    cases r
    obtain ⟨its, rv, ⟨o, e1, e2, m, e3⟩, _⟩ := I.tuple h
    obtain ⟨as, ra, sm⟩ := DtAll.reads I q rv
    refine ⟨as, .tuple e1 e2 e3 (by simpa using ra), fun z => ?_⟩
    rcases z with z | z
    · exact sm z
    · cases z
  | _, _, _, .lst h n q, r => by
    cases r
    obtain ⟨its, rv, ⟨o, m, e1, e2, e3, e4⟩, _⟩ := I.list h
    obtain ⟨as, ra, sm⟩ := DtAll.reads I q rv
    refine ⟨_, .list e1 e2 e4 (by simpa using ra), fun z => ?_⟩
    rcases z with z | z
    · intro y
      rcases List.mem_cons.mp y with y | y
      · exact n (y ▸ z)
      · exact sm z y
    · cases z
  | _, _, _, .dk0 (a := a) h n, r => by
    cases r
    obtain ⟨_, hsm, vs, kv, o, es, ep, e1, e2, e3, e4, e5, e6⟩ := (show ObjOk X.prog X.w H s.heap a (.dK []) from I.hok a _ h)
    have ev : vs = [] := by cases kv; rfl
    subst ev
    have ee : es.toList = [] := by
      cases q : es.toList with
      | nil => rfl
      | cons x r => rw [q] at e5; cases e5
    refine ⟨[a], ?_, fun _ => ?_⟩
    · have := Reads.dict (h := s.heap) (a := a) (o := o) (es := es) (n := ep) (kvs := []) (as := []) (bs := []) e1 e2.1 e3 (by rw [ee]; exact .nil) (by rw [ee]; exact .nil)
      simpa using this
    · intro z
      have z' : sysModules = a := by simpa using z
      rw [z'] at hsm
      simp at hsm
  | _, _, _, .dk1 (a := a) (k := k) (v := v) (d := d) h n q, r => by
    cases r
    obtain ⟨_, hsm, vs, kv, o, es, ep, e1, e2, e3, e4, e5, e6⟩ := (show ObjOk X.prog X.w H s.heap a (.dK [(k, v)]) from I.hok a _ h)
    obtain ⟨u, rfl, ru⟩ : ∃ u, vs = [(k, u)] ∧ RelV v u := by
      cases kv with
      | @cons p q ps qs h1 h2 =>
        cases h2
        obtain ⟨q1, q2⟩ := q
        obtain ⟨h3, h4⟩ := h1
        dsimp only at h3 h4
        subst h3
        exact ⟨q2, rfl, h4⟩
    obtain ⟨en, ee, ek, ev⟩ : ∃ en, es.toList = [en] ∧ keyIs k en.key = true ∧ en.val = u := by
      generalize es.toList = el at e5
      cases e5 with
      | cons h1 h2 h3 => cases h3; exact ⟨_, rfl, h1, h2⟩
    obtain ⟨as, ra, sm⟩ := Dt.reads I q ru
    obtain ⟨ks, rk, hk⟩ : ∃ ks, Reads s.heap en.key (kD k) ks ∧ ks = [] := by
      rcases keyIs_shape ek with ⟨i, t, rfl, e⟩ | ⟨x, t, rfl, e⟩
      · exact ⟨[], by rw [e]; exact .int i t, rfl⟩
      · exact ⟨[], by rw [e]; exact .str x t, rfl⟩
    subst hk
    have rv : Reads s.heap en.val d as := by rw [ev]; exact ra
    refine ⟨_, Reads.dict (h := s.heap) (a := a) (o := o) (es := es) (n := ep) (kvs := [(kD k, d)]) e1 e2.1 e3 (by rw [ee]; exact .cons rk .nil) (by rw [ee]; exact .cons rv .nil), fun z => ?_⟩
    rcases z with z | z
    · intro y
      simp only [List.append_nil, List.nil_append, List.cons_append] at y
      rcases List.mem_cons.mp y with y | y
      · rw [← y] at hsm; simp at hsm
      · exact sm (.inl z) y
    · cases z
theorem DtAll.reads (I : Inv X pins σ H s) : ∀ {vs : List V} {ds : List PyData} {us : List Value}, DtAll X.K N H vs ds → Vals vs us → ∃ as, ReadsAll s.heap us ds as ∧ (sysModules ∈ N → sysModules ∉ as)
  | _, _, _, .nil, .nil => ⟨_, .nil, fun _ => by simp⟩
  | _, _, _, .cons h q, .cons r t => by
    obtain ⟨as, ra, sa⟩ := Dt.reads I h r
    obtain ⟨bs, rb, sb⟩ := DtAll.reads I q t
    refine ⟨_, .cons ra rb, fun z y => ?_⟩
    rcases List.mem_append.mp y with y | y
    · exact sa (.inl z) y
    · exact sb z y
end
end

/-- what repr shows within the model's bounds -/
structure Shw (d : PyData) : Prop where
  sh : d.showable = true
  dp : d.depth ≤ 30
  ln : d.shown.length ≤ sizeLine
  nd : d.hasDict = false ∨ d = .dict []
section
variable {X : Cx} {N : List Addr}
end
end L2

namespace L2
open PySem PySem.Spec PyProof.Rows
/-! ### readings, a step at a time -/
section
variable {D : Ends} {σ : St} {H : Hp} {t u : TS} {te ta tb tc : TE} {c tA tB' : TT} {g : TG} {gs : TGs} {Q : VK} {K : PySem.W.Frag} {i : Nat} {v : V} {vs : List V}
theorem rd_seq (h : t { D with nx := u D } σ H) : tSeq t u D σ H := h
theorem rd_if (h : c σ H fun b H1 => if b = true then t D σ H1 else u D σ H1) : tIfS c t u D σ H := h
theorem rd_asg (h : te σ H fun x H1 => g x σ H1 D.nx) : tAsg te g D σ H := h
theorem rd_drop (h : te σ H fun _ H1 => D.nx σ H1) : tDrop te D σ H := h
theorem rd_ret (h : te σ H D.rt) : tRet te D σ H := h
theorem rd_next (h : D.nx σ H) : tNext D σ H := h
theorem rd_op {r : R2} (h : ta σ H fun x H1 => tb σ H1 fun y H2 => r x y H2 Q) : tOp r ta tb σ H Q := h
theorem rd_var (e : σ[i]? = some (some v)) (h : Q v H) : tVar i σ H Q := ⟨v, e, h⟩
theorem rd_c (h : Q v H) : tC v σ H Q := h
theorem rd_I0 {f : Int → Int → V} {i j : Int} (h : Q (f i j) H) : rI0 f (.int i) (.int j) H Q := ⟨i, j, rfl, rfl, h⟩
theorem rd_I {C : Int → Int → Prop} {f : Int → Int → V} {i j : Int} (hc : C i j) (h : Q (f i j) H) : rI C f (.int i) (.int j) H Q := ⟨i, j, rfl, rfl, hc, h⟩
theorem rd_test {Q : Bool → Hp → Prop} (h : te σ H fun x H' => ∃ k, x = .bl k ∧ Q k H') : tTest te σ H Q := h
theorem rd_tB {Q : Bool → Hp → Prop} (h : te σ H fun x H' => ∃ k, x = .bl k ∧ Q k H') : tB te σ H Q := h
theorem rd_bl' {P : Bool → Prop} {k : Bool} (h : P k) : ∃ k', V.bl k = .bl k' ∧ P k' := ⟨k, rfl, h⟩
theorem rd_eq {x y : V} (hs : scal x y = true) (h : Q (.bl (decide (x = y))) H) : rEq x y H Q := ⟨hs, h⟩
theorem rd_ne {x y : V} (hs : scal x y = true) (h : Q (.bl (!decide (x = y))) H) : rNe x y H Q := ⟨hs, h⟩
theorem rd_ixL {p : Addr} {xs : List V} {i : Int} (hq : SqL K H p xs) (ha : atI xs i = some v) (h : Q v H) : rIxL K (.ref p) (.int i) H Q := ⟨p, xs, i, v, rfl, rfl, hq, ha, h⟩
theorem rd_ixT {p : Addr} {xs : List V} {i : Int} (hq : SqT K H p xs) (ha : atI xs i = some v) (h : Q v H) : rIxT K (.ref p) (.int i) H Q := ⟨p, xs, i, v, rfl, rfl, hq, ha, h⟩
theorem rd_name {Q : St → Hp → Prop} (h : Q (σ.set i (some v)) H) : gName i v σ H Q := h
theorem rd_sub {to ti : TE} {s : TSet} {Q : St → Hp → Prop} (h : to σ H fun o H1 => ti σ H1 fun i H2 => s o i v H2 fun H3 => Q σ H3) : gSub to ti s v σ H Q := h
theorem rd_setL {p : Addr} {xs : List V} {k : Int} {j : Nat} {Q : Hp → Prop} (hp : H p = some (.lst xs)) (hi : ixN xs.length k = some j) (h : Q (upd H p (.lst (xs.set j v)))) : rSetL (.ref p) (.int k) v H Q := ⟨p, xs, k, j, rfl, rfl, hp, hi, h⟩
theorem rd_CB {r : List V → Hp → VK → Prop} {ta : TA} (h : ta σ H fun vs H1 => r vs H1 Q) : tCB r ta σ H Q := h
theorem rd_nil {Q : List V → Hp → Prop} (h : Q [] H) : tNil σ H Q := h
theorem rd_cons {tr : TA} {Q : List V → Hp → Prop} (h : ta σ H fun x H1 => tr σ H1 fun xs H2 => Q (x :: xs) H2) : tCons ta tr σ H Q := h
theorem rd_and {Q : Bool → Hp → Prop} (h : tA σ H fun c H1 => if c = true then tB' σ H1 Q else Q false H1) : tAnd tA tB' σ H Q := h
theorem rd_or {Q : Bool → Hp → Prop} (h : tA σ H fun c H1 => if c = true then Q true H1 else tB' σ H1 Q) : tOr tA tB' σ H Q := h
theorem rd_not {Q : Bool → Hp → Prop} (h : tA σ H fun c H1 => Q (!c) H1) : tNot tA σ H Q := h
theorem rd_andV (h : ta σ H fun x H1 => ∃ c, x = .bl c ∧ if c = true then tb σ H1 Q else Q (.bl false) H1) : tAndV ta tb σ H Q := h
theorem rd_notV (h : ta σ H fun x H1 => ∃ c, x = .bl c ∧ Q (.bl (!c)) H1) : tNotV ta σ H Q := h
theorem rd_call {sp : Sp} {dvs : List V} {E : XK} {ta : TA} (h : ta σ H fun vs H1 => sp (vs ++ dvs) H1 Q E) : tCall sp dvs E ta σ H Q := h
theorem rd_tup {ta : TA} (h : ta σ H fun xs H1 => xs.length ≤ sizeLine ∧ ∀ p, H1 p = none → Q (.ref p) (upd H1 p (.tup xs))) : tTup ta σ H Q := h
theorem rd_lst {ta : TA} (h : ta σ H fun xs H1 => xs.length ≤ sizeLine ∧ ∀ p, H1 p = none → Q (.ref p) (upd H1 p (.lst xs))) : tLst ta σ H Q := h
theorem rd_chain {r r' : R2} (h : ta σ H fun x H1 => tb σ H1 fun y H2 => r x y H2 fun z H3 => ∃ k, z = .bl k ∧ if k = true then tc σ H3 fun w H4 => r' y w H4 Q else Q (.bl false) H3) : tChain r r' ta tb tc σ H Q := h
theorem rd_sl {r : V → Option Int → Option Int → Hp → VK → Prop} {tl th : TO} (h : te σ H fun x H1 => tl σ H1 fun l H2 => th σ H2 fun u H3 => r x l u H3 Q) : tSl r te tl th σ H Q := h
theorem rd_nopart {Q : Option Int → Hp → Prop} (h : Q none H) : tNoPart σ H Q := h
theorem rd_part {Q : Option Int → Hp → Prop} (h : te σ H fun x H1 => ∃ i, x = .int i ∧ Q (some i) H1) : tPart te σ H Q := h
theorem rd_int {P : Int → Prop} {i : Int} (h : P i) : ∃ i', V.int i = .int i' ∧ P i' := ⟨i, rfl, h⟩
theorem rd_slL {p : Addr} {xs : List V} {lo hi : Option Int} (hq : SqL K H p xs) (h : ∀ l, H l = none → Q (.ref l) (upd H l (.lst (cutV xs lo hi)))) : rSlL K (.ref p) lo hi H Q := ⟨p, xs, rfl, hq, h⟩
theorem rd_tupT {t : TGs} {n : Nat} {p : Addr} {xs : List V} {Q : St → Hp → Prop} (hq : SqT K H p xs) (hl : xs.length = n) (h : t xs σ H Q) : gTup K n t (.ref p) σ H Q := ⟨p, xs, rfl, hq, hl, h⟩
theorem rd_gnil {Q : St → Hp → Prop} (h : Q σ H) : gNil [] σ H Q := ⟨rfl, h⟩
theorem rd_gcons {t : TG} {u : TGs} {v : V} {r : List V} {Q : St → Hp → Prop} (h : t v σ H fun σ' H' => u r σ' H' Q) : gCons t u (v :: r) σ H Q := ⟨v, r, rfl, h⟩
theorem rd_BM {T : String} {r : V → List V → Hp → VK → Prop} {to : TE} {t : TA} (h : to σ H fun x H1 => tyV K T x H1 ∧ t σ H1 fun xs H2 => r x xs H2 Q) : tBM K T r to t σ H Q := h
theorem rd_append {l : Addr} {xs : List V} {y : V} (h1 : H l = some (.lst xs)) (hz : xs.length < sizeLine) (h : Q .non (upd H l (.lst (xs ++ [y])))) : rAppend (.ref l) [y] H Q := ⟨l, xs, y, rfl, rfl, h1, hz, h⟩
theorem rd_rng1 {ta : TA} {R : It → Hp → Prop} (h : ta σ H fun vs H1 => ∃ j : Int, vs = [.int j] ∧ -(2 ^ 62) ≤ j ∧ j < 2 ^ 62 ∧ R (Itr 0 j.toNat) H1) : iRng1 ta σ H R := h
theorem rd_rngV {j : Int} {P : Int → Prop} (h : P j) : ∃ j' : Int, [V.int j] = [.int j'] ∧ P j' := ⟨j, rfl, h⟩
theorem rd_ilist {tl : TE} {R : It → Hp → Prop} (h : tl σ H fun x H1 => ∃ a, x = .ref a ∧ (∃ xs, SqL K H1 a xs) ∧ R (Itl K a) H1) : iList K tl σ H R := h
theorem rd_itup {tl : TE} {R : It → Hp → Prop} (h : tl σ H fun x H1 => ∃ a, x = .ref a ∧ (∃ xs, SqT K H1 a xs) ∧ R (Itt K a) H1) : iTup K tl σ H R := h
end
/-! ### the calls' readings, each with a name -/
abbrev TR := List V → Hp → VK → Prop
def rLen (K : PySem.W.Frag) : TR := fun xs H Q => ∃ p ys, xs = [.ref p] ∧ (SqL K H p ys ∨ SqT K H p ys) ∧ Q (.int ys.length) H
def rLenS : TR := fun xs H Q => ∃ z, xs = [.str z] ∧ z.length ≤ sizeLine ∧ Q (.int z.length) H
def rIsi (K : PySem.W.Frag) : TR := fun xs H Q => ∃ x T n b, xs = [x, .ty n] ∧ TyS K H x T ∧ subT T n = some b ∧ Q (.bl b) H
def rAll (K : PySem.W.Frag) : TR := fun xs H Q => ∃ (p : Addr) (bs : List Bool), xs = [.ref p] ∧ SqL K H p (bs.map V.bl) ∧ Q (.bl (bs.all id)) H
def rRepr (K : PySem.W.Frag) : TR := fun xs H Q => ∃ (N : List Addr) (x : V) (d : PyData), xs = [x] ∧ Dt K N H x d ∧ Shw d ∧ Q (.str d.shown) H
def rListOf (K : PySem.W.Frag) : TR := fun xs H Q => ∃ p ys, xs = [.ref p] ∧ (SqL K H p ys ∨ SqT K H p ys) ∧ ∀ l, H l = none → Q (.ref l) (upd H l (.lst ys))
def rTupleOf (K : PySem.W.Frag) : TR := fun xs H Q => ∃ p ys, xs = [.ref p] ∧ ((SqL K H p ys ∧ ∀ l, H l = none → Q (.ref l) (upd H l (.tup ys))) ∨ (SqT K H p ys ∧ Q (.ref p) H))
def rMin : TR := fun xs H Q => ∃ i j, xs = [.int i, .int j] ∧ Q (.int (if j < i then j else i)) H
def rMax : TR := fun xs H Q => ∃ i j, xs = [.int i, .int j] ∧ Q (.int (if j > i then j else i)) H
def rStr : TR := fun xs H Q => ∃ i, xs = [.int i] ∧ i.natAbs.log2 < 1920 ∧ Q (.str (toString i)) H
def rEqD (K : PySem.W.Frag) : R2 := fun x y H Q => ∃ (N : List Addr) (d e : PyData), Dt K N H x d ∧ Dt K N H y e ∧ SeqAt.shaped d = true ∧ SeqAt.shaped e = true ∧ Q (.bl (PyData.eqv d e)) H
def rNeD (K : PySem.W.Frag) : R2 := fun x y H Q => ∃ (N : List Addr) (d e : PyData), Dt K N H x d ∧ Dt K N H y e ∧ SeqAt.shaped d = true ∧ SeqAt.shaped e = true ∧ Q (.bl (!PyData.eqv d e)) H
def rIsN : R2 := fun x y H Q => y = .non ∧ Q (.bl (decide (x = .non))) H
def rNotN : R2 := fun x y H Q => y = .non ∧ Q (.bl (!decide (x = .non))) H
section
variable {X : Cx}
theorem cn_len : CallR X (.builtin "len") (rLen X.K) := call_len_seq
theorem cn_isi : CallR X (.builtin "isinstance") (rIsi X.K) := call_isi
theorem cn_list : CallR X (.type "list") (rListOf X.K) := call_list_of
theorem cn_tuple : CallR X (.type "tuple") (rTupleOf X.K) := call_tuple_of
theorem cn_min (hc : X.calm = true) : CallR X (.builtin "min") rMin := call_min2 hc
theorem cn_max (hc : X.calm = true) : CallR X (.builtin "max") rMax := call_max2 hc
theorem on_isN : OpR X (compareOp .Is) rIsN := op_isN
end
section
variable {H : Hp} {Q : VK} {K : PySem.W.Frag} {N : List Addr} {p : Addr} {xs : List V}
theorem rd_lenL (hq : SqL K H p xs) (h : Q (.int xs.length) H) : rLen K [.ref p] H Q := ⟨p, xs, rfl, .inl hq, h⟩
theorem rd_lenT (hq : SqT K H p xs) (h : Q (.int xs.length) H) : rLen K [.ref p] H Q := ⟨p, xs, rfl, .inr hq, h⟩
theorem rd_isi {x : V} {T n : String} {b : Bool} (ty : TyS K H x T) (hs : subT T n = some b) (h : Q (.bl b) H) : rIsi K [x, .ty n] H Q := ⟨x, T, n, b, rfl, ty, hs, h⟩
theorem rd_listL (hq : SqL K H p xs) (h : ∀ l, H l = none → Q (.ref l) (upd H l (.lst xs))) : rListOf K [.ref p] H Q := ⟨p, xs, rfl, .inl hq, h⟩
theorem rd_tupleL (hq : SqL K H p xs) (h : ∀ l, H l = none → Q (.ref l) (upd H l (.tup xs))) : rTupleOf K [.ref p] H Q := ⟨p, xs, rfl, .inl ⟨hq, h⟩⟩
theorem rd_min {i j : Int} (h : Q (.int (if j < i then j else i)) H) : rMin [.int i, .int j] H Q := ⟨i, j, rfl, h⟩
theorem rd_max {i j : Int} (h : Q (.int (if j > i then j else i)) H) : rMax [.int i, .int j] H Q := ⟨i, j, rfl, h⟩
theorem rd_isN {x : V} (h : Q (.bl (decide (x = .non))) H) : rIsN x .non H Q := ⟨rfl, h⟩
end
theorem atI_in {α : Type} {xs : List α} {i : Int} (h0 : 0 ≤ i) (h1 : i < xs.length) : ∃ v, atI xs i = some v ∧ xs[i.toNat]? = some v := by
  obtain ⟨n, rfl⟩ := Int.eq_ofNat_of_zero_le h0
  have hn : n < xs.length := by omega
  exact ⟨xs[n], atI_nat (by simp [hn]), by simp [hn]⟩
theorem atI_ints {ns : List Int} {i : Int} (h0 : 0 ≤ i) (h1 : i < ns.length) : ∃ n, atI (ns.map V.int) i = some (.int n) ∧ n ∈ ns := by
  obtain ⟨v, h2, h3⟩ := atI_in (xs := ns.map V.int) h0 (by simpa using h1)
  rw [List.getElem?_map] at h3
  cases e : ns[i.toNat]? with
  | none => rw [e] at h3; cases h3
  | some n => rw [e] at h3; cases h3; exact ⟨n, h2, List.mem_of_getElem? e⟩
/-- the turns of a comprehension, of a loop -/
def CompW (σ0 : St) (J : It) (H1 : Hp) (acc : Addr) (g : TG) (tt : TT) (te : TE) (Q : VK) : Prop := ∃ W : Nat → Nat → St → Hp → Prop, (∃ m, W 0 m σ0 (upd H1 acc (.lst []))) ∧ ∀ i m σc H, W i m σc H →
    (J.stop i H ∧ Q (.ref acc) H) ∨ (J.go i H ∧ ∃ N : St → Hp → Prop, (∀ σ' H', N σ' H' → ∃ m', m' < m ∧ W (i + 1) m' σ' H') ∧ ∀ x H', J.yld i H x H' → g x σc H' fun σ2 H2 => tt σ2 H2 fun b H3 =>
      if b = true then te σ2 H3 fun v H4 => ∃ xs, H4 acc = some (.lst xs) ∧ xs.length < sizeLine ∧ N σ2 (upd H4 acc (.lst (xs ++ [v]))) else N σ2 H3)
def ForW (J : It) (g : TG) (tb : TS) (D : Ends) (σ : St) (H : Hp) : Prop := ∃ W : Nat → Nat → St → Hp → Prop, (∃ m, W 0 m σ H) ∧ ∀ i m σ H, W i m σ H →
  (J.stop i H ∧ D.nx σ H) ∨ (J.go i H ∧ ∃ N : St → Hp → Prop, (∀ σ' H', N σ' H' → ∃ m', m' < m ∧ W (i + 1) m' σ' H') ∧ ∀ x H', J.yld i H x H' → g x σ H' fun σ2 H2 => tb { D with nx := N, ct := N, bk := D.nx } σ2 H2)
/-! ### a comprehension without tests, by an invariant over the list so far -/
section
variable {J : It} {H1 : Hp} {acc : Addr} {σ0 : St} {g : TG} {te : TE} {Q : VK}
theorem comp_by (n : Nat) (hn : n < sizeLine) (Pv : Nat → List V → St → Hp → Prop) (h0 : Pv 0 [] σ0 (upd H1 acc (.lst [])))
    (hgo : ∀ i vs σc H, i < n → vs.length = i → H acc = some (.lst vs) → Pv i vs σc H → J.go i H ∧ ∀ x H', J.yld i H x H' → ∀ R : St → V → Hp → Prop,
      (∀ σ2 v H4, H4 acc = some (.lst vs) → Pv (i + 1) (vs ++ [v]) σ2 (upd H4 acc (.lst (vs ++ [v]))) → R σ2 v H4) → g x σc H' fun σ2 H2 => te σ2 H2 (R σ2))
    (hst : ∀ vs σc H, vs.length = n → H acc = some (.lst vs) → Pv n vs σc H → J.stop n H ∧ Q (.ref acc) H) :
    CompW σ0 J H1 acc g tYes te Q := by
  refine ⟨fun i m σc H => m = n - i ∧ i ≤ n ∧ ∃ vs, vs.length = i ∧ H acc = some (.lst vs) ∧ Pv i vs σc H, ⟨n, by simp, Nat.zero_le _, [], rfl, upd_same, h0⟩, ?_⟩
  rintro i m σc H ⟨rfl, hi, vs, hl, ha, hp⟩
  by_cases hlt : i < n
  · obtain ⟨g1, g2⟩ := hgo i vs σc H hlt hl ha hp
    refine .inr ⟨g1, fun σ' H' => i + 1 ≤ n ∧ ∃ vs, vs.length = i + 1 ∧ H' acc = some (.lst vs) ∧ Pv (i + 1) vs σ' H', fun σ' H' q => ⟨n - (i + 1), by omega, rfl, q⟩, fun x H' y => ?_⟩
    simp only [tYes, if_true]
    exact g2 x H' y (fun σ2 v H4 => ∃ xs, H4 acc = some (.lst xs) ∧ xs.length < sizeLine ∧ (i + 1 ≤ n ∧ ∃ vs, vs.length = i + 1 ∧ (upd H4 acc (.lst (xs ++ [v]))) acc = some (.lst vs) ∧ Pv (i + 1) vs σ2 (upd H4 acc (.lst (xs ++ [v])))))
      fun σ2 v H4 q1 q2 => ⟨vs, q1, by omega, hlt, vs ++ [v], by simp [hl], upd_same, q2⟩
  · have e : i = n := by omega
    subst e
    exact .inl (hst vs σc H hl ha hp)
end
theorem rd_comp {K : PySem.W.Frag} {fr : List (Option Nat)} {wi : TI} {g : TG} {tt : TT} {te : TE} {σ : St} {H : Hp} {Q : VK} (h : wi σ H fun J H1 => ∀ acc, H1 acc = none → K.lookup acc = none → CompW (stC fr σ) J H1 acc g tt te Q) : tComp K fr wi g tt te σ H Q := h
theorem rd_for {wi : TI} {g : TG} {tb : TS} {D : Ends} {σ : St} {H : Hp} (h : wi σ H fun J H1 => ForW J g tb D σ H1) : tFor wi g tb D σ H := h
theorem for_tupW {K : PySem.W.Frag} {a : Addr} {xs : List V} {g : TG} {tb : TS} {D : Ends} {σ : St} {H : Hp} (Pv : Nat → St → Hp → Prop) (h0 : Pv 0 σ H) (hl : ∀ i σ H, i ≤ xs.length → Pv i σ H → SqT K H a xs)
    (hs : ∀ i x σ H, xs[i]? = some x → Pv i σ H → g x σ H fun σ2 H2 => tb { D with nx := Pv (i + 1), ct := Pv (i + 1), bk := D.nx } σ2 H2) (hd : ∀ σ H, Pv xs.length σ H → D.nx σ H) : ForW (Itt K a) g tb D σ H := for_tup Pv h0 hl hs hd
theorem for_rangeW {lo : Int} {n : Nat} {g : TG} {tb : TS} {D : Ends} {σ : St} {H : Hp} (Pv : Nat → St → Hp → Prop) (h0 : Pv 0 σ H)
    (hs : ∀ i σ H, i < n → Pv i σ H → g (.int (lo + i)) σ H fun σ2 H2 => tb { D with nx := Pv (i + 1), ct := Pv (i + 1), bk := D.nx } σ2 H2) (hd : ∀ σ H, Pv n σ H → D.nx σ H) : ForW (Itr lo n) g tb D σ H := for_range Pv h0 hs hd
theorem subT_of {T n : String} (h1 : T ∈ ["NoneType", "bool", "int", "str", "list", "tuple", "dict"]) (h2 : n ∈ ["int", "bool", "str", "tuple", "list", "dict"]) : subT T n = some (isB T n) := subT_tab T h1 n h2
def tyN : PyData → String
  | .none => "NoneType"
  | .bool _ => "bool"
  | .int _ => "int"
  | .str _ => "str"
  | .list _ => "list"
  | .tuple _ => "tuple"
  | .dict _ => "dict"
theorem tyN_in (d : PyData) : tyN d ∈ ["NoneType", "bool", "int", "str", "list", "tuple", "dict"] := by cases d <;> simp [tyN]
theorem Dt.tyn {K : PySem.W.Frag} {N : List Addr} {H : Hp} {v : V} {d : PyData} (h : Dt K N H v d) : TyS K H v (tyN d) := by
  cases h with
  | non => exact .non
  | bl b => exact .bl b
  | int i => exact .int i
  | str x => exact .str x
  | tup h n r => exact .tup h
  | lst h n r => exact .lst h
  | dk0 h n => exact .dk h
  | dk1 h n r => exact .dk h
def isTupD : PyData → Bool
  | .tuple _ => true
  | _ => false
def isIntD : PyData → Bool
  | .int _ => true
  | .bool _ => true
  | _ => false
def isBoolD : PyData → Bool
  | .bool _ => true
  | _ => false
def isStrD : PyData → Bool
  | .str _ => true
  | _ => false
def isListD : PyData → Bool
  | .list _ => true
  | _ => false
section
variable {K : PySem.W.Frag} {N : List Addr} {H : Hp} {x : V} {d : PyData} {Q : VK}
theorem rd_isiTup (hd : Dt K N H x d) (h : Q (.bl (isTupD d)) H) : rIsi K [x, .ty "tuple"] H Q := by
  refine rd_isi hd.tyn (subT_of (tyN_in d) (by simp)) ?_
  have e : isB (tyN d) "tuple" = isTupD d := by cases d <;> (dsimp only [tyN, isTupD, isIntD, isBoolD, isStrD, isListD]; decide)
  rw [e]; exact h
theorem rd_isiInt (hd : Dt K N H x d) (h : Q (.bl (isIntD d)) H) : rIsi K [x, .ty "int"] H Q := by
  refine rd_isi hd.tyn (subT_of (tyN_in d) (by simp)) ?_
  have e : isB (tyN d) "int" = isIntD d := by cases d <;> (dsimp only [tyN, isTupD, isIntD, isBoolD, isStrD, isListD]; decide)
  rw [e]; exact h
theorem rd_isiBool (hd : Dt K N H x d) (h : Q (.bl (isBoolD d)) H) : rIsi K [x, .ty "bool"] H Q := by
  refine rd_isi hd.tyn (subT_of (tyN_in d) (by simp)) ?_
  have e : isB (tyN d) "bool" = isBoolD d := by cases d <;> (dsimp only [tyN, isTupD, isIntD, isBoolD, isStrD, isListD]; decide)
  rw [e]; exact h
theorem rd_isiStr (hd : Dt K N H x d) (h : Q (.bl (isStrD d)) H) : rIsi K [x, .ty "str"] H Q := by
  refine rd_isi hd.tyn (subT_of (tyN_in d) (by simp)) ?_
  have e : isB (tyN d) "str" = isStrD d := by cases d <;> (dsimp only [tyN, isTupD, isIntD, isBoolD, isStrD, isListD]; decide)
  rw [e]; exact h
theorem rd_isiList (hd : Dt K N H x d) (h : Q (.bl (isListD d)) H) : rIsi K [x, .ty "list"] H Q := by
  refine rd_isi hd.tyn (subT_of (tyN_in d) (by simp)) ?_
  have e : isB (tyN d) "list" = isListD d := by cases d <;> (dsimp only [tyN, isTupD, isIntD, isBoolD, isStrD, isListD]; decide)
  rw [e]; exact h
end
theorem rd_iteT {i : Decidable (true = true)} {A B : Prop} (h : A) : @ite Prop (true = true) i A B := by rw [if_pos rfl]; exact h
theorem rd_iteF {i : Decidable (false = true)} {A B : Prop} (h : B) : @ite Prop (false = true) i A B := by rw [if_neg Bool.false_ne_true]; exact h
theorem rd_ite2 {c : Bool} {i : Decidable (c = true)} {A B : Prop} (h1 : c = true → A) (h2 : c = false → B) : @ite Prop (c = true) i A B := by
  cases c with
  | true => rw [if_pos rfl]; exact h1 rfl
  | false => rw [if_neg Bool.false_ne_true]; exact h2 rfl
theorem Ext.upd2 {N : List Addr} {H H' : Hp} {p : Addr} {o : HO} (s : Ext N H H') (h : H p = none) : Ext N H (L2.upd H' p o) := fun b u e n => by rw [upd_ne (ne_of_none e h)]; exact s b u e n
theorem DtAll.at {K : PySem.W.Frag} {N : List Addr} {H : Hp} {vs : List V} {ds : List PyData} {i : Nat} (r : DtAll K N H vs ds) (h : i < ds.length) : ∃ v d, vs[i]? = some v ∧ ds[i]? = some d ∧ Dt K N H v d := by
  have e : ds[i]? = some ds[i] := by simp [h]
  obtain ⟨v, h1, h2⟩ := r.getD e
  exact ⟨v, ds[i], h1, e, h2⟩
/-! ### the rules with the written part by its own name (within a block) -/
section
variable {X : Cx} {K : PySem.W.Frag}
theorem ix_listK (h : X.K = K) : IxR X (rIxL K) := h ▸ ix_list
theorem pg_tupK {es : List Expr} {k : Nat} {t : TGs} {n : Nat} {pos : Pos} (hK : X.K = K) (hc : X.calm = true) (h : PGs X es t)
    (hn : (assignEach es X.env).length = n := by rfl) (hst : (assignEach es X.env).findIdx? (·.1) = none := by rfl) : PG X (.Tuple es k pos) (gTup K n t) := hK ▸ pg_tup hc h hn hst
end
end L2

namespace L2
open PySem
/-- the state of the draws: cells, how many were taken, what is left of a great one, the seed -/
structure StOk (K : PySem.W.Frag) (H : Hp) (st : Addr) : Prop where
  ex : ∃ (c : Addr) (cs : List Int) (p q r : Int), H st = some (.lst [.ref c, .int p, .int q, .int r]) ∧ H c = some (.lst (cs.map V.int)) ∧ c ≠ st ∧ 1 ≤ cs.length ∧ cs.length ≤ 63 ∧ 0 ≤ p ∧ 0 ≤ q ∧ 0 ≤ r ∧ r < 2147483647
theorem sz {n : Nat} (h : n ≤ 1000) : n ≤ sizeLine := Nat.le_trans h (by decide)
end L2
namespace Mt
open PySem
/-! the mathematics of histories -/
def numD : PyData → Bool
  | .int _ => true
  | _ => false
def withinD (a b : Int) : PyData → Bool
  | .int i => decide (a ≤ i) && decide (i ≤ b)
  | _ => false
def begunD : PyData → Bool
  | .tuple [x, y] => withinD 0 1000000000 x && withinD 0 1000000 y
  | _ => false
/-- pair by pair, from the last line and fork on -/
def chk : Int → Int → List PyData → Bool
  | _, _, [] => true
  | l, f, .tuple [.int a, .int b] :: r => decide (l < a) && decide (a ≤ 1000000000) && decide (f ≤ b) && decide (b ≤ 1000000) && chk a b r
  | _, _, _ :: _ => false
def first0 : List PyData → Bool
  | .tuple [.int _, .int b] :: _ => decide (b = 0)
  | _ => false
def histD : PyData → Bool
  | .tuple ds => decide (1 ≤ ds.length) && decide (ds.length ≤ 60) && chk (-1) 0 ds && first0 ds
  | _ => false
/-- the i-th pair and the next one rise -/
def rise (ds : List PyData) (i : Nat) : Bool :=
  match ds[i]?, ds[i + 1]? with
  | some (.tuple [.int a, .int b]), some (.tuple [.int c, .int d]) => decide (a < c) && decide (b ≤ d)
  | _, _ => false
end Mt

set_option maxRecDepth 100000
namespace Mt
open PySem L2
/-! what may be shown: small data -/
structure Itm (w k : Nat) (d : PyData) : Prop where
  sh : d.showable = true
  lv : d.leavesShort 60 = true
  wt : d.weight ≤ w
  dp : d.depth ≤ k
  nd : d.hasDict = false
def cpsOk (x : Str) : Prop := (x.cps.toList.all fun c => decide (c < 16 ^ 8)) = true
/-! histories as lists of pairs -/
def pr (p : Int × Int) : PyData := .tuple [.int p.1, .int p.2]
def okP : Int → Int → List (Int × Int) → Prop
  | _, _, [] => True
  | l, f, (a, b) :: r => l < a ∧ a ≤ 1000000000 ∧ f ≤ b ∧ b ≤ 1000000 ∧ okP a b r
/-- a history: its pairs -/
structure HOK (hs : List (Int × Int)) : Prop where
  len1 : 1 ≤ hs.length
  len2 : hs.length ≤ 60
  ok : okP (-1) 0 hs
  zero : ∃ a r, hs = (a, 0) :: r
end Mt
namespace L2
open PySem
theorem sub_not {N N' : List Addr} (h : ∀ b ∈ N', b ∈ N) {a : Addr} (n : a ∉ N) : a ∉ N' := fun z => n (h a z)
mutual
theorem Dt.weaken {K : PySem.W.Frag} {N N' : List Addr} {H : Hp} (h : ∀ b ∈ N', b ∈ N) : ∀ {v : V} {d : PyData}, Dt K N H v d → Dt K N' H v d
  | _, _, .non => .non
  | _, _, .bl b => .bl b
  | _, _, .int i => .int i
  | _, _, .str x => .str x
  | _, _, .tup q n r => .tup q (sub_not h n) (DtAll.weaken h r)
  | _, _, .lst q n r => .lst q (sub_not h n) (DtAll.weaken h r)
  | _, _, .dk0 q n => .dk0 q (sub_not h n)
  | _, _, .dk1 q n r => .dk1 q (sub_not h n) (Dt.weaken h r)
theorem DtAll.weaken {K : PySem.W.Frag} {N N' : List Addr} {H : Hp} (h : ∀ b ∈ N', b ∈ N) : ∀ {vs : List V} {ds : List PyData}, DtAll K N H vs ds → DtAll K N' H vs ds
  | _, _, .nil => .nil
  | _, _, .cons q r => .cons (Dt.weaken h q) (DtAll.weaken h r)
end
theorem at3 {a b c : Int} {i : Int} (h0 : 0 ≤ i) (h1 : i < 3) : ∃ w, atI [V.int a, V.int b, V.int c] i = some (.int w) ∧ (w = a ∨ w = b ∨ w = c) := by
  have : i = 0 ∨ i = 1 ∨ i = 2 := by omega
  rcases this with rfl | rfl | rfl
  · exact ⟨a, rfl, .inl rfl⟩
  · exact ⟨b, rfl, .inr (.inl rfl)⟩
  · exact ⟨c, rfl, .inr (.inr rfl)⟩
theorem rd_seqK {t u : TS} {D : Ends} {σ : St} {H : Hp} (P : St → Hp → Prop) (hu : ∀ σ' H', P σ' H' → u D σ' H') (h : (∀ σ' H', P σ' H' → u D σ' H') → t { D with nx := u D } σ H) : tSeq t u D σ H := h hu
theorem DtAll.atI {K : PySem.W.Frag} {N : List Addr} {H : Hp} {vs : List V} {ds : List PyData} {i : Int} (r : DtAll K N H vs ds) (h0 : 0 ≤ i) (h1 : i < ds.length) : ∃ v d, L2.atI vs i = some v ∧ d ∈ ds ∧ Dt K N H v d := by
  obtain ⟨n, rfl⟩ := Int.eq_ofNat_of_zero_le h0
  obtain ⟨v, d, e1, e2, e3⟩ := r.at (i := n) (by omega)
  exact ⟨v, d, atI_nat e1, List.mem_of_getElem? e2, e3⟩
/-! ### makers, the new heap by its facts -/
def tTupA (t : TA) : TE := fun σ H Q => t σ H fun xs H1 => xs.length ≤ sizeLine ∧ ∀ p H', H1 p = none → Same H1 H' → H' p = some (.tup xs) → Q (.ref p) H'
def tLstA (t : TA) : TE := fun σ H Q => t σ H fun xs H1 => xs.length ≤ sizeLine ∧ ∀ p H', H1 p = none → Same H1 H' → H' p = some (.lst xs) → Q (.ref p) H'
def tDNewA : TE := fun _ H Q => ∀ p H', H p = none → Same H H' → H' p = some (.dK []) → Q (.ref p) H'
def rCatA : R2 := fun x y H Q => ∃ l b xs zs, x = .ref l ∧ y = .ref b ∧ H l = some (.lst xs) ∧ H b = some (.lst zs) ∧ xs.length + zs.length ≤ sizeLine ∧ ∀ p H', H p = none → Same H H' → H' p = some (.lst (xs ++ zs)) → Q (.ref p) H'
def rSlA (K : PySem.W.Frag) : V → Option Int → Option Int → Hp → VK → Prop := fun x lo hi H Q => ∃ a xs, x = .ref a ∧ SqL K H a xs ∧ ∀ p H', H p = none → Same H H' → H' p = some (.lst (cutV xs lo hi)) → Q (.ref p) H'
def rListA (K : PySem.W.Frag) : TR := fun xs H Q => ∃ p ys, xs = [.ref p] ∧ (SqL K H p ys ∨ SqT K H p ys) ∧ ∀ l H', H l = none → Same H H' → H' l = some (.lst ys) → Q (.ref l) H'
def rTupleA (K : PySem.W.Frag) : TR := fun xs H Q => ∃ p ys, xs = [.ref p] ∧ (SqL K H p ys ∨ SqT K H p ys) ∧ ∀ l H', (l = p ∨ H l = none) → Same H H' → SqT K H' l ys → Q (.ref l) H'
section
open PyProof.Rows
variable {X : Cx} {es : List Expr} {t : TA} {pos : Pos} {K : PySem.W.Frag}
theorem pe_tupA {x1} (h : PA X es t) : PE X (.Tuple es x1 pos) (tTupA t) := by
  intro pins s σ H Q I hq
  refine wpAny_Tuple_spliced (thn (h pos pins s σ H _ I hq) fun us s1 ⟨xs, H1, I1, r, z, q⟩ => ⟨by rw [← r.length]; exact z, ?_⟩)
  have hf : H1 s1.heap.objs.size = none := I1.hok.fresh (Nat.le_refl _)
  exact ⟨.ref s1.heap.objs.size, upd H1 s1.heap.objs.size (.tup xs), I1.laid (t' := s1.toks) (fun b u e => Heap.get?_push_of_some _ e) (Nat.le_refl _) ⟨z, us, r, ⟨_, Heap.get?_push_size _ rfl, rfl, _, rfl⟩⟩, rfl, q _ _ hf (Same.upd hf) upd_same⟩
theorem pe_lstA (h : PA X es t) : PE X (.List es pos) (tLstA t) := by
  intro pins s σ H Q I hq
  refine wpAny_List_spliced (thn (h pos pins s σ H _ I hq) fun us s1 ⟨xs, H1, I1, r, z, q⟩ => ⟨by rw [← r.length]; exact z, ?_⟩)
  have hf : H1 s1.heap.objs.size = none := I1.hok.fresh (Nat.le_refl _)
  exact ⟨.ref s1.heap.objs.size, upd H1 s1.heap.objs.size (.lst xs), I1.laid (t' := s1.toks) (fun b u e => Heap.get?_push_of_some _ e) (Nat.le_refl _) ⟨z, us, 0, r, Heap.get?_push_size _ rfl⟩, rfl, q _ _ hf (Same.upd hf) upd_same⟩
theorem op_catA : OpR X (binaryOp .Add) rCatA := fun pins s σ H x y v u Q I rx ry ⟨l, b, xs, zs, h1, h2, h3, h4, h5, h6⟩ => op_cat pins s σ H x y v u Q I rx ry ⟨l, b, xs, zs, h1, h2, h3, h4, h5, fun p hp => h6 p _ hp (Same.upd hp) upd_same⟩
end
section
variable {σ : St} {H : Hp} {Q : VK} {K : PySem.W.Frag} {ta : TA} {p q : Addr} {xs ys : List V}
theorem rd_tupA (h : ta σ H fun xs H1 => xs.length ≤ sizeLine ∧ ∀ p H', H1 p = none → Same H1 H' → H' p = some (.tup xs) → Q (.ref p) H') : tTupA ta σ H Q := h
theorem rd_lstA (h : ta σ H fun xs H1 => xs.length ≤ sizeLine ∧ ∀ p H', H1 p = none → Same H1 H' → H' p = some (.lst xs) → Q (.ref p) H') : tLstA ta σ H Q := h
theorem rd_catA (h1 : H p = some (.lst xs)) (h2 : H q = some (.lst ys)) (hz : xs.length + ys.length ≤ sizeLine) (h : ∀ r H', H r = none → Same H H' → H' r = some (.lst (xs ++ ys)) → Q (.ref r) H') : rCatA (.ref p) (.ref q) H Q := ⟨p, q, xs, ys, rfl, rfl, h1, h2, hz, h⟩
end
/-- the state of the draws, and things at N that are there (the state among them) -/
structure Trk (K : PySem.W.Frag) (N : List Addr) (H : Hp) (st : Addr) : Prop where
  so : StOk K H st
  mem : st ∈ N
  tr : ∀ b ∈ N, H b ≠ none
mutual
theorem Dt.fresh {K : PySem.W.Frag} {N : List Addr} {H : Hp} {p : Addr} (h : H p = none) (k : K.lookup p = none) : ∀ {v : V} {d : PyData}, Dt K N H v d → Dt K (p :: N) H v d
  | _, _, .non => .non
  | _, _, .bl b => .bl b
  | _, _, .int i => .int i
  | _, _, .str x => .str x
  | _, _, .tup q n r => .tup q (by
      rw [List.mem_cons, not_or]
      refine ⟨?_, n⟩
      rintro rfl
      rcases q with (q | ⟨o, q⟩) | ⟨o, its, m, q, _⟩
      · rw [h] at q; cases q
      · rw [h] at q; cases q
      · rw [k] at q; cases q) (DtAll.fresh h k r)
  | _, _, .lst q n r => .lst q (by
      rw [List.mem_cons, not_or]
      refine ⟨?_, n⟩
      rintro rfl
      rcases q with (q | ⟨o, q⟩) | ⟨o, its, m, q, _⟩
      · rw [h] at q; cases q
      · rw [h] at q; cases q
      · rw [k] at q; cases q) (DtAll.fresh h k r)
  | _, _, .dk0 q n => .dk0 q (by
      rw [List.mem_cons, not_or]
      refine ⟨?_, n⟩
      rintro rfl
      rw [h] at q; cases q)
  | _, _, .dk1 q n r => .dk1 q (by
      rw [List.mem_cons, not_or]
      refine ⟨?_, n⟩
      rintro rfl
      rw [h] at q; cases q) (Dt.fresh h k r)
theorem DtAll.fresh {K : PySem.W.Frag} {N : List Addr} {H : Hp} {p : Addr} (h : H p = none) (k : K.lookup p = none) : ∀ {vs : List V} {ds : List PyData}, DtAll K N H vs ds → DtAll K (p :: N) H vs ds
  | _, _, .nil => .nil
  | _, _, .cons q r => .cons (Dt.fresh h k q) (DtAll.fresh h k r)
end
end L2

namespace L2
open PySem PySem.Spec PyProof.Rows
def notStar : Expr → Bool
  | .Starred .. => false
  | _ => true
def noStars : List Expr → Bool
  | [] => true
  | e :: r => notStar e && noStars r
theorem star_ne {e : Expr} {r : List Expr} {env : Env} (h : notStar e = true) : starEach (e :: r) env = (false, eval e env) :: starEach r env := by
  cases e <;> first | rfl | cases h
theorem stars_any {pos : Pos} {env : Env} : ∀ {es : List Expr}, noStars es = true → (backTo pos (starEach es env)).any (·.1) = false
  | [], _ => rfl
  | e :: r, h => by
    simp only [noStars, Bool.and_eq_true] at h
    rw [star_ne h.1]
    show (false || (backTo pos (starEach r env)).any (·.1)) = false
    rw [stars_any h.2]; rfl
section
variable {X : Cx} {e : Expr} {es : List Expr} {te : TE} {t : TA} {pos p : Pos} {CX : CXT} {k : Nat} {f : Addr} {fd : FuncData} {ps : List Str} {sp : Sp} {dvs : List V} {ds : List Value} {E : XK} {x : Str} {id Ty : String} {r : List V → Hp → VK → Prop}
theorem paN (ha : PE X e te) (hr : PA X es t) (h : notStar e = true := by rfl) : PA X (e :: es) (tCons te t) := pa_cons ha hr (star_ne h)
theorem peN_call (F : FnOk X.prog X.w X.K X.mg X.base CX k f fd ps sp) (hr : Room k X.A) (hg : Gl X x) (hm : X.mg x = some (.ref f)) (hk : PySem.W.keepIn X.K (.ref f) = true) (hb : Binds X.K fd ps ds) (hd : Vals dvs ds) (hx : Passes CX X E)
    (ha : PA X (e :: es) t) (hdb : (x == ("__debug__" : Str)) = false := by decide) (h1 : notStar e = true := by rfl) (h2 : noStars es = true := by rfl) : PE X (.Call (.Name x p) (e :: es) [] pos) (tCall sp dvs E t) :=
  pe_call F hr hg hm hk hb hd hx ha hdb (star_ne h1) (stars_any h2)
theorem peN_callB (hc : CallR X (.builtin id) r) (hg : Gl X x) (hm : X.mg x = none) (hv : bootBuiltins x = some (.builtin id)) (ha : PA X (e :: es) t) (hn : x ≠ "__name__" := by decide) (hdb : (x == ("__debug__" : Str)) = false := by decide)
    (h1 : notStar e = true := by rfl) (h2 : noStars es = true := by rfl) : PE X (.Call (.Name x p) (e :: es) [] pos) (tCB r t) := pe_callB hc hg hm hv ha hn hdb (star_ne h1) (stars_any h2)
theorem peN_callTy (hc : CallR X (.type Ty) r) (hg : Gl X x) (hm : X.mg x = none) (hv : bootBuiltins x = some (.type Ty)) (ha : PA X (e :: es) t) (hn : x ≠ "__name__" := by decide) (hdb : (x == ("__debug__" : Str)) = false := by decide)
    (h1 : notStar e = true := by rfl) (h2 : noStars es = true := by rfl) : PE X (.Call (.Name x p) (e :: es) [] pos) (tCB r t) := pe_callTy hc hg hm hv ha hn hdb (star_ne h1) (stars_any h2)
end
end L2
namespace L2
open PySem PySem.Spec PyProof.Rows
/-- an argument list, behind a wall: the elaborator does not look through it -/
structure PAs (X : Cx) (es : List Expr) (t : TA) : Prop where
  run : PA X es t
section
variable {X : Cx} {e o : Expr} {es : List Expr} {te to : TE} {t : TA} {pos p apos cpos : Pos} {CX : CXT} {k : Nat} {f : Addr} {fd : FuncData} {ps : List Str} {sp : Sp} {dvs : List V} {ds : List Value} {E : XK} {x name : Str} {id Ty T : String} {r : List V → Hp → VK → Prop} {rm : V → List V → Hp → VK → Prop}
theorem qa_nil : PAs X [] tNil := ⟨pa_nil⟩
theorem qa (ha : PE X e te) (hr : PAs X es t) (h : notStar e = true) : PAs X (e :: es) (tCons te t) := ⟨paN ha hr.run h⟩
theorem qe_tup {x1} (h : PAs X es t) : PE X (.Tuple es x1 pos) (tTup t) := pe_tup h.run
theorem qe_lst (h : PAs X es t) : PE X (.List es pos) (tLst t) := pe_lst h.run
theorem qe_tupA {x1} (h : PAs X es t) : PE X (.Tuple es x1 pos) (tTupA t) := pe_tupA h.run
theorem qe_lstA (h : PAs X es t) : PE X (.List es pos) (tLstA t) := pe_lstA h.run
theorem qe_call (F : FnOk X.prog X.w X.K X.mg X.base CX k f fd ps sp) (hr : Room k X.A) (hg : Gl X x) (hm : X.mg x = some (.ref f)) (hk : PySem.W.keepIn X.K (.ref f) = true) (hb : Binds X.K fd ps ds) (hd : Vals dvs ds) (hx : Passes CX X E)
    (ha : PAs X (e :: es) t) (hdb : (x == ("__debug__" : Str)) = false) (h1 : notStar e = true) (h2 : noStars es = true) : PE X (.Call (.Name x p) (e :: es) [] pos) (tCall sp dvs E t) := peN_call F hr hg hm hk hb hd hx ha.run hdb h1 h2
theorem qe_callB (hc : CallR X (.builtin id) r) (hg : Gl X x) (hm : X.mg x = none) (hv : bootBuiltins x = some (.builtin id)) (ha : PAs X (e :: es) t) (hn : x ≠ "__name__") (hdb : (x == ("__debug__" : Str)) = false)
    (h1 : notStar e = true) (h2 : noStars es = true) : PE X (.Call (.Name x p) (e :: es) [] pos) (tCB r t) := peN_callB hc hg hm hv ha.run hn hdb h1 h2
theorem qe_callTy (hc : CallR X (.type Ty) r) (hg : Gl X x) (hm : X.mg x = none) (hv : bootBuiltins x = some (.type Ty)) (ha : PAs X (e :: es) t) (hn : x ≠ "__name__") (hdb : (x == ("__debug__" : Str)) = false)
    (h1 : notStar e = true) (h2 : noStars es = true) : PE X (.Call (.Name x p) (e :: es) [] pos) (tCB r t) := peN_callTy hc hg hm hv ha.run hn hdb h1 h2
theorem qe_append (ho : PE X o to) (ha : PAs X (e :: es) t) (hbase : attributeBase o "append" X.env (eval o X.env) = eval o X.env) (h1 : notStar e = true) (h2 : noStars es = true)
    (hfew : ((backTo cpos (starEach (e :: es) X.env)).all (fun x => !x.1) && (backToKw cpos (keywordEach [] X.env)).all (fun x => x.1.isSome) && decide ((e :: es).length + ([] : List Keyword).length + (if ([] : List Keyword).isEmpty then 0 else 1) < 30)) = true)
    (hline : (apos.endLine == cpos.line) = true) : PE X (.Call (.Attribute o "append" apos) (e :: es) [] cpos) (tBM X.K "list" rAppend to t) :=
  pe_bm PySem.F.plainAttrs_list PySem.F.slot_list_append PySem.F.type_list_append mt_append ho ha.run hbase hfew hline (star_ne h1) (stars_any h2)
variable {tg a b : Expr} {ta : TA}
theorem qi_range1 (hg : Gl X "range") (hm : X.mg "range" = none) (ha : PAs X [a] ta) (h1 : notStar a = true) : PI X tg (.Call (.Name "range" p) [a] [] pos) (iRng1 ta) := pi_range1 hg hm ha.run (star_ne h1)
end
end L2
namespace L2
open PySem PySem.Spec PyProof.Rows
structure PSw (X : Cx) (st : Stmt) (t : TS) : Prop where
  run : PS X st t
structure PSsw (X : Cx) (sts : List Stmt) (t : TS) : Prop where
  run : PSs X sts t
section
variable {X : Cx} {st : Stmt} {rest body a b : List Stmt} {t u tb : TS} {e tg c iter elt target : Expr} {es ifs : List Expr} {te : TE} {tc tt : TT} {g : TG} {ta : TA} {wi : TI} {pos pos' spos : Pos} {i : Nat} {x : Str}
theorem qss_nil : PSsw X [] tNext := ⟨pss_nil⟩
theorem qss_one (h : PSw X st t) : PSsw X [st] t := ⟨pss_one h.run⟩
theorem qss_cons (h1 : PSw X st t) (h2 : PSsw X rest u) : PSsw X (st :: rest) (tSeq t u) := ⟨pss_cons h1.run h2.run⟩
theorem qs_ret (he : PE X e te) : PSw X (.Return (some e) pos) (tRet te) := ⟨ps_ret he⟩
theorem qs_if (hc : PT X c tc) (ha : PSsw X a t) (hb : PSsw X b u) : PSw X (.If c a b pos) (tIfS tc t u) := ⟨ps_if hc ha.run hb.run⟩
theorem qs_expr (he : PE X e te) (hs : swapsWith e none pos.line X.env = pure false) : PSw X (.Expr e pos) (tDrop te) := ⟨ps_expr he hs⟩
theorem qs_set (hN : X.N.Nodup) (hi : X.N[i]? = some x) (hx : Loc X.env.scope x) (he : PE X e te) (hs : swapsWith e (some (.Name x pos')) pos.line X.env = pure false) (hf : X.fn x = true ∨ X.env.scope.names.lookup x = some .local) :
    PSw X (.Assign [.Name x pos'] e pos) (tAsg te (gName i)) := ⟨ps_set hN hi hx he hs hf⟩
/-- name = [..] of many items -/
theorem qs_setLA (hN : X.N.Nodup) (hi : X.N[i]? = some x) (hx : Loc X.env.scope x) (h : PAs X es ta) (hf : X.fn x = true ∨ X.env.scope.names.lookup x = some .local) :
    PSw X (.Assign [.Name x pos'] (.List es spos) pos) (tAsg (tLstA ta) (gName i)) := ⟨ps_set hN hi hx (pe_lstA h.run) rfl hf⟩
theorem qs_asg (he : PE X e te) (hg : PG X tg g) (hs : swapsWithSole [tg] e pos.line X.env = pure false) (hw : swappedStores [tg] e X.env = pure none) (h1 : (assignEach [tg] X.env).map (·.2) = [assign tg X.env]) : PSw X (.Assign [tg] e pos) (tAsg te g) := ⟨ps_asg he hg hs hw h1⟩
theorem qs_for (hp : PassesOwn (model X.prog X.w) X.A X.env X.xe) (hc : X.calm = true) (hi : PI X tg iter wi) (hg : PG X tg g) (hb : PSsw X body tb) (hs : ∀ x, foldedSetIterable iter X.env x = pure x) : PSw X (.For tg iter body [] pos) (tFor wi g tb) := ⟨ps_for hp hc hi hg hb.run hs⟩
theorem qs_setComp {sc : Scope} {cl : List (Str × Addr)} {NC : List Str} {fr : List (Option Nat)} (hN : X.N.Nodup) (hi' : X.N[i]? = some x) (hx : Loc X.env.scope x) (B : Blk X sc cl NC fr) (hc : X.calm = true) (hi : PI X target iter wi) (hg : ∀ fp s H, PG (cxC X sc cl NC fp s H) target g) (ht : ∀ fp s H, PF (cxC X sc cl NC fp s H) ifs tt) (he : ∀ fp s H, PE (cxC X sc cl NC fp s H) elt te)
    (hsw : swapsWith (.ListComp elt [⟨target, iter, ifs, 0⟩] sc pos) (some (.Name x pos')) spos.line X.env = pure true) (hs : ∀ x, foldedSetIterable iter X.env x = pure x) (hf : X.fn x = true ∨ X.env.scope.names.lookup x = some .local) :
    PSw X (.Assign [.Name x pos'] (.ListComp elt [⟨target, iter, ifs, 0⟩] sc pos) spos) (tAsg (tComp X.K fr wi g tt te) (gName i)) := ⟨ps_setComp hN hi' hx B hc hi hg ht he hsw hs hf⟩
end
end L2
namespace L2
open PySem
theorem exW {X : Cx} {sts : List Stmt} {P : TS → Prop} (h : ∃ t, PSsw X sts t ∧ P t) : ∃ t, PSs X sts t ∧ P t := let ⟨t, h1, h2⟩ := h; ⟨t, h1.run, h2⟩
end L2

set_option maxRecDepth 100000
namespace HT
open PySem PyProof.Rows
section
open PySem.SeqAt
open PySem.AutoSeq1 (wpAny_loadPart')
open PySem.MeetsSeq PySem.MeetsSeq2 PySem.MeetsSeq3
end
section
variable {prog : Program} {w : World} {A : Around} {E : Value → Shared → Prop} {s : Shared}
end
end HT
namespace L2
open PySem PySem.Spec PyProof.Rows
def rGtT (K : PySem.W.Frag) : R2 := fun x y H Q => ∃ a b ns ms, x = .ref a ∧ y = .ref b ∧ SqT K H a (ns.map V.int) ∧ SqT K H b (ms.map V.int) ∧ Q (.bl (HT.lexLt ms ns)) H
def rIsnB : R2 := fun x y H Q => ∃ a b, x = .bl a ∧ y = .bl b ∧ Q (.bl (a != b)) H
def rIsB : R2 := fun x y H Q => ∃ a b, x = .bl a ∧ y = .bl b ∧ Q (.bl (a == b)) H
section
variable {X : Cx}
end
section
variable {H : Hp} {Q : VK} {K : PySem.W.Frag} {p q : Addr} {ns ms : List Int}
end
theorem for_zipW {K : PySem.W.Frag} {a b : Addr} {xs ys : List V} {g : TG} {tb : TS} {D : Ends} {σ : St} {H : Hp} (hxy : xs.length = ys.length) (Pv : Nat → St → Hp → Prop) (h0 : Pv 0 σ H) (hl : ∀ i σ H, i ≤ xs.length → Pv i σ H → SqT K H a xs ∧ SqT K H b ys)
    (hs : ∀ i x y p σ H, xs[i]? = some x → ys[i]? = some y → H p = none → Pv i σ H → g (.ref p) σ (upd H p (.tup [x, y])) fun σ2 H2 => tb { D with nx := Pv (i + 1), ct := Pv (i + 1), bk := D.nx } σ2 H2) (hd : ∀ σ H, Pv xs.length σ H → D.nx σ H) : ForW (Itz K a b) g tb D σ H := by
  refine ⟨fun i m σ H => m = xs.length - i ∧ i ≤ xs.length ∧ Pv i σ H, ⟨xs.length, by simp, Nat.zero_le _, h0⟩, ?_⟩
  rintro i m σ H ⟨rfl, hi, p⟩
  obtain ⟨q1, q2⟩ := hl i σ H hi p
  by_cases hlt : i < xs.length
  · refine .inr ⟨⟨xs, ys, xs[i], ys[i], q1, q2, by simp [hlt], by simp⟩, Pv (i + 1), fun σ' H' p' => ⟨xs.length - (i + 1), by omega, rfl, hlt, p'⟩, ?_⟩
    rintro x H' ⟨r, x1, y1, hn, hx, hy, rfl, rfl⟩
    exact hs i x1 y1 r σ _ (hx xs q1) (hy ys q2) hn p
  · have e : i = xs.length := by omega
    subst e
    exact .inl ⟨⟨xs, ys, q1, q2, .inl (Nat.le_refl _)⟩, hd σ H p⟩
def rListF (K : PySem.W.Frag) : TR := fun xs H Q => ∃ p ys, xs = [.ref p] ∧ (SqL K H p ys ∨ SqT K H p ys) ∧ ∀ l, H l = none → K.lookup l = none → Q (.ref l) (upd H l (.lst ys))
end L2
namespace L2
theorem rd_iteG {c A B : Prop} {i : Decidable c} (h : @ite Prop c i A B) : @ite Prop c i A B := h
end L2

set_option maxRecDepth 100000
namespace Mt
open PySem L2
/-! lines of places, standings -/
def stepL (pl : Int) (a : Int) (p : Int × Int) : Int := if p.2 < pl then p.1 else a
def line0 (hs : List (Int × Int)) : Int := match hs with | [] => 0 | p :: _ => p.1
def lineOf (hs : List (Int × Int)) (pl : Int) : Int := hs.foldl (stepL pl) (line0 hs)
def stand (hs : List (Int × Int)) (e : Int) : Int × Int := if 0 < e then (lineOf hs e, e) else (-1, 0)
/-! alike: the law's own comparison -/
mutual
def tupOnly : PyData → Bool
  | .none => true
  | .int _ => true
  | .str _ => true
  | .tuple es => tupOnlyAll es
  | _ => false
def tupOnlyAll : List PyData → Bool
  | [] => true
  | e :: es => tupOnly e && tupOnlyAll es
end
def isNoneD : PyData → Bool
  | .none => true
  | _ => false
def intEq (j : Int) : PyData → Bool
  | .int i => decide (i = j)
  | _ => false
def strEq (t : Str) : PyData → Bool
  | .str u => decide (u = t)
  | _ => false
def subs : PyData → Option (List PyData)
  | .tuple ds => some ds
  | _ => none
mutual
def alikeD : PyData → PyData → Bool
  | .none, d => isNoneD d
  | .int j, d => intEq j d
  | .str t, d => strEq t d
  | .tuple es, d => match subs d with
    | some ds => alikeAll es ds
    | none => false
  | _, _ => false
def alikeAll : List PyData → List PyData → Bool
  | [], ds => ds.isEmpty
  | e :: es, ds => match ds with
    | [] => false
    | d :: ds => alikeD e d && alikeAll es ds
end
theorem depth_at : ∀ {es : List PyData} {e : PyData} {n : Nat}, PyData.depthAll es ≤ n → e ∈ es → e.depth ≤ n
  | x :: es, e, n, h, m => by
    simp only [PyData.depthAll] at h
    rcases List.mem_cons.mp m with rfl | m
    · exact Nat.le_trans (Nat.le_max_left _ _) h
    · exact depth_at (Nat.le_trans (Nat.le_max_right _ _) h) m
end Mt

set_option maxRecDepth 100000
/-! exceptions: what flies, and how it passes a frame -/
namespace L2
open PySem PySem.Spec PyProof.Rows

/-- the object of an exception: its class, its dict; its record of stations is empty, or a record that is free of flight -/
def Aloft (N : Addr → Prop) (h : Heap) (e : Addr) (C : Value) (dx : Option Addr) (fl : Value) : Prop :=
  ∃ oe vs, h.get? e = some oe ∧ oe.cls = C ∧ oe.dict = dx ∧ oe.data = .fields vs ∧ 1 < vs.size ∧
    (vs[1]? = some .none ∧ fl = .none ∨ ∃ T oT ts, vs[1]? = some (.ref T) ∧ N T ∧ T ≠ e ∧ h.get? T = some oT ∧ oT.data = .fields ts ∧ ts[3]? = some fl)
theorem dict_mapF (o : Obj) (f : Array Value → Array Value) : (o.mapFields f).dict = o.dict := by
  obtain ⟨c, d, dt, sl⟩ := o
  cases dt <;> rfl
/-- what is kept where a station is noted: all but e and records that N names; the frames up to their slots -/
def Stn (N : Addr → Prop) (fs : List Addr) (e : Addr) (h h' : Heap) : Prop :=
  ∀ b o, b ≠ e → ¬ N b → h.get? b = some o → (∃ sl, h'.get? b = some { o with slots := sl }) ∧ (b ∉ fs → h'.get? b = some o)
theorem Stn.refl {N : Addr → Prop} {fs : List Addr} {e : Addr} {h : Heap} : Stn N fs e h h := fun b o _ _ q => ⟨⟨o.slots, q⟩, fun _ => q⟩
theorem Stn.trans {N : Addr → Prop} {fs : List Addr} {e : Addr} {h h1 h2 : Heap} (a : Stn N fs e h h1) (b : Stn N fs e h1 h2) : Stn N fs e h h2 := fun c o n1 n2 q => by
  obtain ⟨⟨sl, q1⟩, k1⟩ := a c o n1 n2 q
  obtain ⟨⟨sl2, q2⟩, _⟩ := b c _ n1 n2 q1
  exact ⟨⟨sl2, q2⟩, fun hc => (b c o n1 n2 (k1 hc)).2 hc⟩

section
variable {M : Model} {A : Around} {E : Value → Shared → Prop} {s : Shared} {N : Addr → Prop} {base : Heap} {env : Env} {outer : List Env} {L e : Addr} {C : Value} {dx : Option Addr}

theorem stn_turn {T : Addr} {f : Obj → Obj} {h : Heap} (hN : N T) : Stn N fs e h (h.update T f) := fun b o n1 n2 q => by
  have : T ≠ b := fun z => n2 (z ▸ hN)
  exact ⟨⟨o.slots, (Heap.get?_update_other _ _ this).trans q⟩, fun _ => (Heap.get?_update_other _ _ this).trans q⟩

/-- one more station -/
theorem mark_on {head : Value} {hadNext : Bool} {oe : Obj} {vs : Array Value} {Q : Unit → Shared → Prop} (hA : A.frames = some (env :: outer)) (hF : s.heap.FunFrames base (env :: outer)) (hL : env.frame = some L)
    (new : ∀ b, s.heap.objs.size ≤ b → N b) (nf : ∀ b ∈ frs (env :: outer), b ≠ e ∧ ¬ N b) (q0 : s.heap.get? e = some oe) (q1 : oe.cls = C) (q2 : oe.dict = dx) (q3 : oe.data = .fields vs) (q4 : 1 < vs.size)
    (k : ∀ h', Aloft N h' e C dx (rawInt L) → Stn N (frs (env :: outer)) e s.heap h' → h'.FunFrames base (env :: outer) → Q () { s with heap := h' }) :
    wpAny M A (do setField (.ref e) 1 (← EntryCells.newEntry head (← frameOf env) .none (rawInt L) .none (← entryPlaceOf L hadNext))) Q E s := by
  refine wpAny_bind (wpAny_frameOf_fun hA hF hL fun g x => ?_)
  refine wpAny_bind (wpAny_entryPlaceOf fun pl p => ?_)
  have k1 : g.get? e = some oe := (x.2.1 e fun z => (nf e z).1 rfl).trans q0
  have z1 : g.objs.size = s.heap.objs.size := x.1
  unfold EntryCells.newEntry newFields
  refine wpAny_bind (wpAny_newObj_type ?_ (p.sizeOk5 _ _ _ _ _))
  generalize hob : ({ cls := .type "traceback", dict := none, data := .fields ([head, .ref L, .none, rawInt L, .none] ++ (if pl.isEmpty then List.replicate 6 Value.none else pl)).toArray } : Obj) = ob
  have k2 := Heap.get?_push_of_some (h := g) ob k1
  have eT : g.objs.size ≠ e := Nat.ne_of_gt (Heap.lt_size k1)
  have obf : ob.isFreed = false := by rw [← hob]; rfl
  have t2 : (g.push ob).get? g.objs.size = some ob := Heap.get?_push_size g obf
  refine wpAny_setField k2 q3 q4 (k _ ?_ ?_ ?_)
  · have d3 := Obj.data_mapFields q3 (·.setIfInBounds 1 (Value.ref g.objs.size))
    refine ⟨_, _, Heap.get?_update_self _ k2 (Obj.isFreed_of_fields d3), (Obj.cls_mapFields _ _).trans q1, (dict_mapF _ _).trans q2, d3, by simpa using q4, .inr ⟨g.objs.size, ob, _, by simp [q4], new _ (by omega), eT, (Heap.get?_update_other _ _ (Ne.symm eT)).trans t2, by rw [← hob], ?_⟩⟩
    first | (simp; done) | (rcases p with rfl | ⟨_, _, _, _, _, _, _, rfl⟩ <;> simp)
  · intro b o n1 n2 q
    have nT : g.objs.size ≠ b := by rw [z1]; exact Nat.ne_of_gt (Heap.lt_size q)
    obtain ⟨sl, r⟩ := x.2.2 b o q
    exact ⟨⟨sl, (Heap.get?_update_other _ _ (Ne.symm n1)).trans (Heap.get?_push_of_some _ r)⟩, fun nb => (Heap.get?_update_other _ _ (Ne.symm n1)).trans (Heap.get?_push_of_some _ ((x.2.1 b nb).trans q))⟩
  · have hg := hF.of_slotsOnly x
    refine hg.of_keeps fun b o q nd => ?_
    by_cases hb : b = e
    · subst hb
      rw [k1] at q; cases q
      exact absurd q3 (nd vs)
    · exact ⟨o, (Heap.get?_update_other _ _ (Ne.symm hb)).trans (Heap.get?_push_of_some _ q), rfl⟩
theorem frames_turn {T : Addr} {oT : Obj} {ts : Array Value} {f : Obj → Obj} {h : Heap} (q : h.get? T = some oT) (hd : oT.data = .fields ts) (hF : h.FunFrames base l) : (h.update T f).FunFrames base l :=
  hF.of_keeps fun b o r nd => by
    have : T ≠ b := fun z => by subst z; rw [q] at r; cases r; exact nd ts hd
    exact ⟨o, (Heap.get?_update_other _ _ this).trans r, rfl⟩

theorem land {l : List Env} {fl : Value} {Q : Unit → Shared → Prop} (hF : s.heap.FunFrames base l) (a : Aloft N s.heap e C dx fl)
    (k : ∀ h', Aloft N h' e C dx .none → Stn N fs e s.heap h' → h'.FunFrames base l → Q () { s with heap := h' }) : wpAny M A (setFlight (.ref e) none) Q E s := by
  obtain ⟨oe, vs, q0, q1, q2, q3, q4, r⟩ := a
  unfold setFlight
  rcases r with ⟨r, _⟩ | ⟨T, oT, ts, r1, r2, r3, r4, r5, r6⟩
  · refine wpAny_bind (wpAny_field q0 q3 r ?_)
    rw [if_neg (by decide)]
    exact wpAny_pure (k s.heap ⟨oe, vs, q0, q1, q2, q3, q4, .inl ⟨r, rfl⟩⟩ Stn.refl hF)
  · refine wpAny_bind (wpAny_field q0 q3 r1 ?_)
    rw [if_pos (by simp)]
    have h3 : 3 < ts.size := (Array.getElem?_eq_some_iff.mp r6).1
    refine wpAny_setField r4 r5 h3 (k _ ⟨oe, vs, (Heap.get?_update_other _ _ r3).trans q0, q1, q2, q3, q4, .inr ⟨T, _, _, r1, r2, r3, Heap.get?_update_self _ r4 (Obj.isFreed_of_fields (Obj.data_mapFields r5 _)), Obj.data_mapFields r5 _, by simp [h3]⟩⟩ (stn_turn r2) (frames_turn r4 r5 hF))

theorem note_on {Q : Unit → Shared → Prop} (hA : A.frames = some (env :: outer)) (hF : s.heap.FunFrames base (env :: outer)) (hL : env.frame = some L)
    (new : ∀ b, s.heap.objs.size ≤ b → N b) (nf : ∀ b ∈ frs (env :: outer), b ≠ e ∧ ¬ N b) (a : Aloft N s.heap e C dx .none)
    (k : ∀ h', Aloft N h' e C dx (rawInt L) → Stn N (frs (env :: outer)) e s.heap h' → h'.FunFrames base (env :: outer) → Q () { s with heap := h' }) : wpAny M A (noteFrame (.ref e) env) Q E s := by
  obtain ⟨oe, vs, q0, q1, q2, q3, q4, r⟩ := a
  unfold noteFrame
  simp only [hL]
  rcases r with ⟨r, _⟩ | ⟨T, oT, ts, r1, r2, r3, r4, r5, r6⟩
  · refine wpAny_bind (wpAny_field q0 q3 r ?_)
    rw [if_neg (by decide)]
    exact mark_on hA hF hL new nf q0 q1 q2 q3 q4 k
  · refine wpAny_bind (wpAny_field q0 q3 r1 ?_)
    rw [if_pos (by simp)]
    refine wpAny_bind (wpAny_field r4 r5 r6 ?_)
    rw [if_neg (by simp [rawInt])]
    have h3 : 3 < ts.size := (Array.getElem?_eq_some_iff.mp r6).1
    refine wpAny_bind (wpAny_setField r4 r5 h3 ?_)
    refine mark_on (s := { s with heap := s.heap.update T (Obj.mapFields (·.setIfInBounds 3 Value.none)) }) hA (frames_turn r4 r5 hF) hL (fun b z => new b ?_) nf ((Heap.get?_update_other _ _ r3).trans q0) q1 q2 q3 q4 fun h' a1 a2 a3 => k h' a1 ((stn_turn r2).trans a2) a3
    simpa using z

theorem leave_on {Q : Unit → Shared → Prop} (hA : A.frames = some (env :: outer)) (hF : s.heap.FunFrames base (env :: outer)) (hL : env.frame = some L)
    (new : ∀ b, s.heap.objs.size ≤ b → N b) (nf : ∀ b ∈ frs (env :: outer), b ≠ e ∧ ¬ N b) (a : Aloft N s.heap e C dx .none)
    (k : ∀ h', Aloft N h' e C dx .none → Stn N (frs (env :: outer)) e s.heap h' → Q () { s with heap := h' }) : wpAny M A (leaving env (.ref e)) Q E s := by
  unfold leaving
  refine wpAny_bind (note_on hA hF hL new nf a fun h1 a1 a2 a3 => ?_)
  exact land (s := { s with heap := h1 }) a3 a1 fun h2 b1 b2 _ => k h2 b1 (a2.trans b2)
end
end L2

set_option maxRecDepth 100000
namespace L2
open PySem PySem.Spec PyProof.Rows

/-- made since h₀ and not tracked -/
def Since (h₀ : Heap) (H : Hp) (b : Addr) : Prop := h₀.get? b = none ∧ H b = none
/-- how an exception lies behind a call -/
def CX1 (P : Program) (w : World) : CXT := fun outer H s E e s' =>
  ∃ (a : Addr) (C : Value) (dx : Option Addr) (H' : Hp), e = .ref a ∧ s'.os = s.os ∧ AllBare s'.gens ∧ Un (frs outer) [] H H' s.heap s'.heap ∧ HOk P w H' s'.heap ∧ Since s.heap H' a ∧ Aloft (Since s.heap H') s'.heap a C dx .none ∧ E C dx H'
theorem Aloft.mono {N N' : Addr → Prop} {h : Heap} {e : Addr} {C : Value} {dx : Option Addr} {fl : Value} (a : Aloft N h e C dx fl) (k : ∀ b, N b → N' b) : Aloft N' h e C dx fl := by
  obtain ⟨oe, vs, q0, q1, q2, q3, q4, r⟩ := a
  refine ⟨oe, vs, q0, q1, q2, q3, q4, ?_⟩
  rcases r with r | ⟨T, oT, ts, r1, r2, r⟩
  · exact .inl r
  · exact .inr ⟨T, oT, ts, r1, k _ r2, r⟩
theorem since_of {P : Program} {w : World} {H H' : Hp} {h h' : Heap} {fs : List Addr} (u : Un fs [] H H' h h') (hok : HOk P w H' h') : ∀ b, h'.objs.size ≤ b → Since h H' b := fun b z => by
  refine ⟨?_, hok.fresh z⟩
  cases q : h.get? b with
  | none => rfl
  | some o =>
    obtain ⟨o', q'⟩ := u.there b o q (by simp)
    exact absurd (Nat.lt_of_lt_of_le (Heap.lt_size q') z) (Nat.lt_irrefl _)
theorem hok_stn {P : Program} {w : World} {H : Hp} {h h' : Heap} {N : Addr → Prop} {fs : List Addr} {e : Addr} (hok : HOk P w H h) (st : Stn N fs e h h') (hN : ∀ b, N b → H b = none) (he : H e = none) (hf : ∀ b ∈ fs, H b = none) : HOk P w H h' := fun a o q =>
  (hok a o q).stay (fun b u hb r => by
    have nb : H b ≠ none := by
      rcases hb with rfl | hb
      · rw [q]; simp
      · rw [hb]; simp
    exact (st b u (fun z => nb (z ▸ he)) (fun z => nb (hN b z)) r).2 fun z => nb (hf b z)) (fun _ q => q) fun _ _ q => q

section
variable {P : Program} {w : World} {X : Cx} {pins : List (Addr × Obj)} {σ : St} {H H' : Hp} {s s' : Shared} {e : Addr} {C : Value} {dx : Option Addr}
/-- what of this frame is kept where a station is noted -/
theorem Inv.stn {h' : Heap} (I : Inv X pins σ H s) (st : Stn N (frs X.stack) e s.heap h') (hN : ∀ b, N b → H b = none ∧ s₁.heap.get? b = none) (he : H e = none ∧ s₁.heap.get? e = none)
    (I₁ : Inv X pins σ H₁ s₁) (un : Un (frs X.stack) [] H₁ H s₁.heap s.heap) : Inv X pins σ H { s with heap := h' } := by
  have k : ∀ b o, s₁.heap.get? b = some o → ∀ o', s.heap.get? b = some o' → (∃ sl, h'.get? b = some { o' with slots := sl }) ∧ (b ∉ frs X.stack → h'.get? b = some o') := fun b o q o' q' =>
    st b o' (fun z => by rw [z, he.2] at q; cases q) (fun z => by rw [(hN b z).2] at q; cases q) q'
  have hu : Un (frs X.stack) [] H₁ H s₁.heap h' := by
    refine ⟨fun b o q n hb hx => ?_, fun b o q n hb hx => ?_, un.free, fun b o q hx => ?_, un.tups, un.frzs, un.tbls⟩
    · exact (k b o q o (un.keep b o q n hb hx)).2 hb
    · obtain ⟨sl, r⟩ := un.slot b o q n hb hx
      exact (k b o q _ r).1
    · obtain ⟨o', r⟩ := un.there b o q hx
      obtain ⟨sl, r2⟩ := (k b o q o' r).1
      exact ⟨_, r2⟩
  have ok : HOk X.prog X.w H h' := hok_stn I.hok st (fun b z => (hN b z).1) he.1 I.stkFree
  obtain ⟨hh, g, d, t, os⟩ := s
  have e1 : os = s₁.os := I.os.trans I₁.os.symm
  subst e1
  have fin := Inv.call (s := s₁) (h' := h') (g' := g) (t' := t) (d' := d) (ch := []) I₁ hu ok I.bare (fun b z => absurd z (by simp))
  exact fin

theorem Inv.cx1 (I : Inv X pins σ H s) (h : Un (frs X.stack) [] H H' s.heap s'.heap) (ho : s'.os = s.os) (hb : AllBare s'.gens) (hk : HOk X.prog X.w H' s'.heap) : Inv X pins σ H' s' := by
  obtain ⟨hh, g, d, t, os'⟩ := s'
  obtain rfl : os' = s.os := ho
  exact I.call (h' := hh) (g' := g) (d' := d) (t' := t) (ch := []) h hk hb (fun b z => absurd z (by simp))
/-- the frames are none of the new things -/
theorem Inv.nfr (I : Inv X pins σ H s) (he : s.heap.get? e = none) : ∀ b ∈ frs X.stack, b ≠ e ∧ ¬ Since s.heap H' b := fun b hb => by
  obtain ⟨_, o, q, _⟩ := I.stack.mem hb
  exact ⟨fun z => (by rw [z, he] at q; cases q), fun z => (by rw [z.1] at q; cases q)⟩
end

/-- an exception that leaves a def's body -/
theorem pass1 {P : Program} {w : World} {K : PySem.W.Frag} {mg : Str → Option Value} {base : Heap} {N : List Str} {qual : Str} {scope : Scope} {f : Addr} {cd : Value} {A : Around} {outer : List Env} {s₀ : Shared} {H₀ : Hp} {E : XK} :
    Passes (CX1 P w) (cxOf (CX1 P w) P w K mg base N qual scope f cd A outer s₀ H₀ E) E := by
  intro pins σ H s e s' I h
  obtain ⟨a, C, dx, H', rfl, o1, b1, un, hok, na, al, q⟩ := h
  have J := I.cx1 un o1 b1 hok
  refine leave_on (N := Since s.heap H') (base := base) (outer := outer) (L := s₀.heap.objs.size) I.ok.frames J.stack rfl (since_of un hok) (I.nfr na.1) al fun h' al' st => ?_
  have J2 : Inv (cxOf (CX1 P w) P w K mg base N qual scope f cd A outer s₀ H₀ E) pins σ H' { s' with heap := h' } := J.stn (s₁ := s) (H₁ := H) st (fun b z => ⟨z.2, z.1⟩) ⟨na.2, na.1⟩ I un
  have old : ∀ b, s.heap.get? b = none → s₀.heap.get? b = none := fun b z => by
    cases r : s₀.heap.get? b with
    | none => rfl
    | some o =>
      obtain ⟨o', r'⟩ := I.base.there b o r (by show b ∉ ([] : List Addr); simp)
      rw [z] at r'; cases r'
  exact ⟨a, C, dx, H', rfl, J2.os, J2.bare, J2.base, J2.hok, ⟨old a na.1, na.2⟩, al'.mono fun b z => ⟨old b z.1, z.2⟩, q⟩
end L2

set_option maxRecDepth 100000
namespace L2
open PySem PySem.Spec PyProof.Rows

/-- what an exception is wanted to be, by the locals where it comes up -/
def Px (X : Cx) (XR : St → XK) : Prop := ∀ (pins : List (Addr × Obj)) (σ : St) (H : Hp) (s : Shared) (e : Value) (s' : Shared), Inv X pins σ H s → CX1 X.prog X.w X.stack H s (XR σ) e s' → X.xe e s'
theorem px1 {P : Program} {w : World} {K : PySem.W.Frag} {mg : Str → Option Value} {base : Heap} {N : List Str} {qual : Str} {scope : Scope} {f : Addr} {cd : Value} {A : Around} {outer : List Env} {s₀ : Shared} {H₀ : Hp} {E : XK} :
    Px (cxOf (CX1 P w) P w K mg base N qual scope f cd A outer s₀ H₀ E) (fun _ => E) := fun pins σ H s e s' I h => pass1 pins σ H s e s' I h

def tCallX (sp : Sp) (dvs : List V) (XR : St → XK) (t : TA) : TE := fun σ H Q => t σ H fun vs H1 => sp (vs ++ dvs) H1 Q (XR σ)
section
variable {X : Cx} {e : Expr} {es : List Expr} {t : TA} {pos p : Pos} {k : Nat} {f : Addr} {fd : FuncData} {ps : List Str} {sp : Sp} {dvs : List V} {ds : List Value} {XR : St → XK} {x : Str}
theorem run_fnX {pins : List (Addr × Obj)} {σ : St} {H : Hp} {s : Shared} {Q : VK} {us : List Value} {vs : List V} (F : FnOk X.prog X.w X.K X.mg X.base (CX1 X.prog X.w) k f fd ps sp) (hr : Room k X.A) (hb : Binds X.K fd ps ds) (hd : Vals dvs ds) (hx : Px X XR)
    (I : Inv X pins σ H s) (r : Vals vs us) (h : sp (vs ++ dvs) H Q (XR σ)) : wpAny (model X.prog X.w) X.A (call (.ref f) us) (EP X pins σ Q) X.xe s := by
  have r2 : Vals (vs ++ dvs) (us ++ ds) := r.append hd
  have hl : (us ++ ds).length = ps.length := by rw [← r2.length]; exact F.len _ _ _ _ h
  refine wpAny_call (codeAny_mono (F.run X.A X.stack s H ⟨us, []⟩ (us ++ ds) (vs ++ dvs) Q (XR σ) hr I.env0 (hb s us I.kIn hl) r2 h) fun r s' hq => ?_)
  cases r with
  | error e => exact hx pins σ H s e s' I hq
  | ok fl =>
    cases fl with
    | ret u => exact I.after hq
    | next => exact False.elim hq
    | brk => exact False.elim hq
    | cont => exact False.elim hq
theorem qe_callX (F : FnOk X.prog X.w X.K X.mg X.base (CX1 X.prog X.w) k f fd ps sp) (hr : Room k X.A) (hg : Gl X x) (hm : X.mg x = some (.ref f)) (hk : PySem.W.keepIn X.K (.ref f) = true) (hb : Binds X.K fd ps ds) (hd : Vals dvs ds) (hx : Px X XR)
    (ha : PAs X (e :: es) t) (hdb : (x == ("__debug__" : Str)) = false) (h1 : notStar e = true) (h2 : noStars es = true) : PE X (.Call (.Name x p) (e :: es) [] pos) (tCallX sp dvs XR t) := by
  intro pins s σ H Q I h
  refine wpAny_Call_Name_kw (ld_glob I hg hm ?_ hdb)
  refine PySem.W.callWith_K (h₀ := X.base) I.ok.mod.kin hk (thn (ha.run pos pins s σ H _ I h) fun us s1 ⟨vs, H1, I1, r, q⟩ => ⟨I1.kIn, ?_⟩) (star_ne h1) (stars_any h2)
  exact run_fnX F hr hb hd hx I1 r q
end

/-- a def whose exceptions are told -/
theorem Fun.okX {P : Program} {w : World} {K : PySem.W.Frag} {mg : Str → Option Value} {base : Heap} {x qual : Str} {st : Stmt} {f : Addr} {fd : FuncData} {N ps : List Str} {k : Nat} {sp : Sp} (F : Fun K x qual st f fd) (S : FnScope N ps (defScope st)) (len : ∀ vs H Q E, sp vs H Q E → vs.length = ps.length)
    (hbody : ∀ (cdv : Value) (A : Around) (outer : List Env) (s : Shared) (H : Hp) (vs : List V) (Q : VK) (E : XK), Room k (A.deeper (envOfC qual (defScope st) s.heap.objs.size f cdv)) → sp vs H Q E →
      ∃ t, PSs (cxOf (CX1 P w) P w K mg base N qual (defScope st) f cdv A outer s H E) (defBody st) t ∧ t { nx := fun _ H' => Q .non H', rt := Q } (start N vs) H) : FnOk P w K mg base (CX1 P w) (k + 1) f fd ps sp := by
  obtain ⟨oc, od, kV, doc, pm, an, cdv, ct, osl, rfl, lk, hcd⟩ := F.ex
  exact fn_of lk hcd S len fun A outer s H vs Q E hr hsp => hbody cdv A outer s H vs Q E hr hsp

/-! ### try -/
/-- within a try's body -/
def Cx.tr (X : Cx) (xe' : Value → Shared → Prop) (pn' : List (Addr × Obj)) : Cx := { X with xe := xe', pn := X.pn ++ pn' }
/-- within an except suite -/
def Cx.su (X : Cx) (e : Addr) : Cx := { X with A := X.A.mark (some (.ref e)), calm := false, xe := fun _ _ => False }
section
variable {X : Cx} {pins pins' pn' : List (Addr × Obj)} {σ : St} {H : Hp} {s : Shared} {xe' : Value → Shared → Prop} {e : Addr}
theorem Cx.Ok.tr (ok : X.Ok) : (X.tr xe' pn').Ok := ⟨ok.mod, ok.kind, ok.glob, ok.blt, ok.above, ok.inj, ok.has, ok.cab, ok.hd, ok.frames, ok.stk, ok.exf, ok.bs, ok.bsz, ok.noex, ok.exfs, ok.funs, ok.frf⟩
theorem Cx.Ok.su (ok : X.Ok) : (X.su e).Ok := ⟨ok.mod, ok.kind, ok.glob, ok.blt, ok.above, ok.inj, ok.has, ok.cab, fun z => (by cases z), ok.frames, ok.stk, ok.exf, ok.bs, ok.bsz, ok.noex, ok.exfs, ok.funs, ok.frf⟩
theorem Inv.tr (I : Inv X pins σ H s) : Inv (X.tr xe' pins) [] σ H s := ⟨I.ok.tr, I.os, I.bare, I.base, I.loc, I.cell, I.free, I.freeC, fun p hp => I.pin p (by simpa [Cx.tr] using hp), I.hok, I.len⟩
theorem Inv.untr (ok : X.Ok) (I : Inv (X.tr xe' pins) pins' σ H s) : Inv X pins σ H s := ⟨ok, I.os, I.bare, I.base, I.loc, I.cell, I.free, I.freeC, fun p hp => I.pin p (List.mem_append_left _ hp), I.hok, I.len⟩
theorem Inv.su (I : Inv X pins σ H s) : Inv (X.su e) pins σ H s := ⟨I.ok.su, I.os, I.bare, I.base, I.loc, I.cell, I.free, I.freeC, I.pin, I.hok, I.len⟩
theorem Inv.unsu (ok : X.Ok) (I : Inv (X.su e) pins σ H s) : Inv X pins σ H s := ⟨ok, I.os, I.bare, I.base, I.loc, I.cell, I.free, I.freeC, I.pin, I.hok, I.len⟩
/-- a name is gone -/
theorem Inv.gone {h' : Heap} {m : Str → Option Value} {v : Option Value} {i : Nat} {x : Str} {t' : Nat} (I : Inv X pins σ H s) (hN : X.N.Nodup) (hi : X.N[i]? = some x) (hn : s.heap.Ns X.env.locals m) (hm : ∀ (i : Nat) (y : Str) (v : V), X.N[i]? = some y → σ[i]? = some (some v) → Vis X.env.scope y → ∃ u, RelV v u ∧ Look X.env s.heap m y u)
    (hn' : h'.Ns X.env.locals (fun y => if y = x then v else m y)) (sb : Heap.SameBut X.env.locals s.heap h') : Inv X pins (σ.set i none) H { s with heap := h', toks := t' } := by
  have hL : ∃ o, s.heap.get? X.env.locals = some o ∧ H X.env.locals = none := by
    obtain ⟨o, _, _, ho, _⟩ := id hn
    exact ⟨o, ho, I.free⟩
  have old : ∀ b o, X.s₀.heap.get? b = some o → b ≠ X.env.locals := fun b o z => Nat.ne_of_lt (Nat.lt_of_lt_of_le (Heap.lt_size z) I.ok.above)
  refine ⟨I.ok, I.os, I.bare, ⟨fun b o z n hb hx => (sb.2 b (old b o z)).trans (I.base.keep b o z n hb hx), fun b o z n hb hx => ?_, I.base.free, fun b o z hx => ?_, I.base.tups, I.base.frzs, I.base.tbls⟩, ⟨_, hn', fun j y v' e1 e2 e3 => ?_⟩, fun y c z => ?_, I.free, I.freeC, fun p hp => ?_, fun b ob z => ?_, by simpa using I.len⟩
  · obtain ⟨sl, q⟩ := I.base.slot b o z n hb hx
    exact ⟨sl, (sb.2 b (old b o z)).trans q⟩
  · obtain ⟨o', q⟩ := I.base.there b o z hx
    exact ⟨o', (sb.2 b (old b o z)).trans q⟩
  · by_cases hj : j = i
    · subst hj
      have hlt : j < σ.length := by rw [I.len]; exact (List.getElem?_eq_some_iff.mp hi).1
      rw [List.getElem?_set_self hlt] at e2
      cases e2
    · rw [List.getElem?_set_ne (Ne.symm hj)] at e2
      obtain ⟨u, r, l⟩ := hm j y v' e1 e2 e3
      refine ⟨u, r, ?_⟩
      rcases l with ⟨k, q⟩ | ⟨k, c, q, z⟩
      · have : y ≠ x := fun z => hj (nodup_ix hN e1 (z ▸ hi))
        exact .inl ⟨k, by simp [this, q]⟩
      · exact .inr ⟨k, c, q, z.sameBut sb (I.cne y c q)⟩
  · obtain ⟨w', q⟩ := I.cell y c z
    exact ⟨w', q.sameBut sb (I.cne y c z)⟩
  · obtain ⟨q, n, ne, nf, d⟩ := I.pin p hp
    exact ⟨(sb.2 p.1 ne).trans q, n, ne, nf, d⟩
  · refine (I.hok b ob z).stay (fun c w' hc q => (sb.2 c ?_).trans q) (fun _ q => q) fun _ _ q => q
    rintro rfl
    rcases hc with rfl | hc
    · rw [I.free] at z; cases z
    · rw [I.free] at hc; cases hc
end
end L2

set_option maxRecDepth 100000
namespace L2
open PySem PySem.Spec PyProof.Rows
/-- an exception that was caught -/
def ExcIs (a : Addr) (C : Value) (dx : Option Addr) (h : Heap) : Prop := ∃ oe vs, h.get? a = some oe ∧ oe.cls = C ∧ oe.dict = dx ∧ oe.data = .fields vs
theorem ExcIs.ok {P : Program} {w : World} {H : Hp} {h : Heap} {a : Addr} {C : Value} {dx : Option Addr} (x : ExcIs a C dx h) : ObjOk P w H h a (.ext (ExcIs a C dx)) := by
  obtain ⟨oe, vs, q, r⟩ := id x
  refine ⟨x, ⟨oe, q⟩, fun h1 h2 ⟨oe', vs', q', r'⟩ k => ⟨oe', vs', k _ q', r'⟩⟩
/-- what is wanted behind the suite: the name is gone -/
def Ends.un (D : Ends) (i : Nat) : Ends := { nx := fun σ2 H2 => D.nx (σ2.set i none) H2, rt := D.rt, bk := fun σ2 H2 => D.bk (σ2.set i none) H2, ct := fun σ2 H2 => D.ct (σ2.set i none) H2 }
def tTry (K : PySem.W.Frag) (B : Addr) (i : Nat) (tb : (St → XK) → TS) (ts : TS) : TS := fun D σ H =>
  tb (fun σ' C dx H' => PySem.W.exmOne K C (.ref B) = some true ∧ ∀ a, H' a = none → ts (D.un i) (σ'.set i (some (.ref a))) (upd H' a (.ext (ExcIs a C dx)))) D σ H

theorem looks_cls {M : Model} {h : Heap} {e : Addr} {oe : Obj} (q : h.get? e = some oe) : PySem.W.Looks M h (typeOf (.ref e)) oe.cls := by
  intro A Q E s k z
  unfold typeOf
  exact wpAny_bind (wpAny_loadPart (k _ _ q) (wpAny_pure z))
theorem aloft_is {N : Addr → Prop} {h : Heap} {e : Addr} {C : Value} {dx : Option Addr} {fl : Value} (a : Aloft N h e C dx fl) : ExcIs e C dx h := by
  obtain ⟨oe, vs, q0, q1, q2, q3, _⟩ := a
  exact ⟨oe, vs, q0, q1, q2, q3⟩
/-- an object that nobody knew is tracked -/
theorem Inv.trackE {X : Cx} {pins : List (Addr × Obj)} {σ : St} {H : Hp} {s : Shared} {a : Addr} {o : HO} (I : Inv X pins σ H s) (hn : H a = none) (n0 : X.s₀.heap.get? a = none) (n1 : a ≠ X.env.locals) (n2 : ∀ x c, X.env.cells.lookup x = some c → c ≠ a) (n3 : ∀ p ∈ X.pn ++ pins, p.1 ≠ a)
    (new : ObjOk X.prog X.w (upd H a o) s.heap a o) : Inv X pins σ (upd H a o) s := by
  have ne : ∀ b u, H b = some u → b ≠ a := fun b u q z => by rw [z, hn] at q; cases q
  refine ⟨I.ok, I.os, I.bare, ⟨I.base.keep, I.base.slot, fun b u q n hx => ?_, I.base.there, fun b xs q => ?_, fun b u xs q => ?_, fun b ps q => ?_⟩, I.loc, I.cell, ?_, fun y c q => ?_, fun p hp => ?_, fun b u q => ?_, I.len⟩
  · rw [upd_ne (fun z => by rw [z, n0] at q; cases q)]; exact I.base.free b u q n hx
  · rw [upd_ne (ne _ _ (I.base.tups b xs q))]; exact I.base.tups b xs q
  · rw [upd_ne (ne _ _ (I.base.frzs b u xs q))]; exact I.base.frzs b u xs q
  · obtain ⟨m, r⟩ := I.base.tbls b ps q
    exact ⟨m, by rw [upd_ne (ne _ _ r)]; exact r⟩
  · rw [upd_ne (Ne.symm n1)]; exact I.free
  · rw [upd_ne (n2 y c q)]; exact I.freeC y c q
  · obtain ⟨q, n, r⟩ := I.pin p hp
    exact ⟨q, by rw [upd_ne (n3 p hp)]; exact n, r⟩
  · by_cases hb : b = a
    · subst hb; rw [upd_same] at q; cases q; exact new
    · rw [upd_ne hb] at q
      exact (I.hok b u q).stay (fun c v _ r => r) (fun c r => by rw [upd_ne (ne _ _ r)]; exact r) fun c xs r => by rw [upd_ne (ne _ _ r)]; exact r
section
variable {X : Cx} {b₀ : Stmt} {body suite : List Stmt} {c x : Str} {p hp pos : Pos} {B : Addr} {i : Nat} {tb : (St → XK) → TS} {ts : TS}
theorem ps_try (hN : X.N.Nodup) (hi : X.N[i]? = some x) (hx : X.env.scope.names.lookup x = some .local) (hg : Gl X c) (hm : X.mg c = some (.ref B)) (hst : X.stack = X.env :: X.outer) (hfr : X.env.frame = some X.env.locals) (hex : X.ex = [])
    (hb : ∀ (xe' : Value → Shared → Prop) (pn' : List (Addr × Obj)) (XR : St → XK), Px (X.tr xe' pn') XR → PSs (X.tr xe' pn') body (tb XR)) (hs : ∀ e : Addr, PSs (X.su e) (b₀ :: suite) ts) (hdb : (c == ("__debug__" : Str)) = false) :
    PS X (.Try body [.ExceptHandler (some (.Name c p)) (some x) (b₀ :: suite) hp] [] [] pos) (tTry X.K B i tb ts) := by
  intro pins s σ H D I h
  refine wpAny_Try_except ?_
  refine wpAny_mono (hb _ pins _ ?_ [] s σ H D I.tr h) (fun f s1 q => ?_) (fun e s1 q => q)
  · intro pins' σ1 H1 s1 ev s2 I1 hq
    obtain ⟨a, C, dx, H2, rfl, o1, b1, un, hok, na, al, hm1, hk⟩ := hq
    have J := I1.cx1 un o1 b1 hok
    have un' : Un (frs X.stack) [] H1 H2 s1.heap s2.heap := un
    show wpAny (model X.prog X.w) X.A (noteFrame (.ref a) X.env) (fun _ s₂ => wpAny (model X.prog X.w) X.A (setFlight (.ref a) none) (fun _ s₃ => wpAny (model X.prog X.w) X.A (handleBy (.ref a) X.env [.ExceptHandler (some (.Name c p)) (some x) (b₀ :: suite) hp]) (SP X pins D) X.xe s₃) X.xe s₂) X.xe s2
    have Jst : s2.heap.FunFrames X.base (X.env :: X.outer) := by rw [← hst]; exact J.stack
    have nf : ∀ b ∈ frs (X.env :: X.outer), b ≠ a ∧ ¬ Since s1.heap H2 b := by rw [← hst]; exact I1.nfr na.1
    refine note_on (N := Since s1.heap H2) (base := X.base) (outer := X.outer) (L := X.env.locals) (by rw [← hst]; exact I.ok.frames) Jst hfr (since_of un hok) nf al fun h3 al3 st3 ff3 => ?_
    refine land (s := { s2 with heap := h3 }) (fs := frs (X.env :: X.outer)) ff3 al3 fun h4 al4 st4 ff4 => ?_
    have st34 := st3.trans st4
    -- the state ahead of the handler
    have mk : ∀ {h5 : Heap} {t5 : Nat}, Stn (Since s1.heap H2) (frs (X.env :: X.outer)) a s2.heap h5 → Inv (X.tr (X.tr X.xe []).xe pins) pins' σ1 H2 { s2 with heap := h5, toks := t5 } := fun {h5 t5} st => by
      have st' : Stn (Since s1.heap H2) (frs X.stack) a s2.heap h5 := by rw [hst]; exact st
      have z := J.stn (s₁ := s1) (H₁ := H1) (N := Since s1.heap H2) st' (fun b z => ⟨z.2, z.1⟩) ⟨na.2, na.1⟩ I1 un
      have z2 := z.tok t5
      exact ⟨I.ok.tr, z2.os, z2.bare, z2.base, z2.loc, z2.cell, z2.free, z2.freeC, z2.pin, z2.hok, z2.len⟩
    have I4 : Inv X pins σ1 H2 { s2 with heap := h4 } := (mk (t5 := s2.toks) st34).untr I.ok
    refine wpAny_handleBy_cons (codeAny_handlers_test ?_) (by intro q; cases q)
    refine ld_glob (I4.su (e := a)) hg hm ?_ hdb
    obtain ⟨oe, vs, q0, q1, q2, q3, _⟩ := id al4
    refine (PySem.W.exm_one (K := X.K) I4.kIn (by rw [← q1]; exact looks_cls q0) hm1).here ?_
    show codeAny _ _ _ _ _
    refine codeAny_handlers_suite_as ?_
    refine land (s := { s2 with heap := h4 }) (fs := frs (X.env :: X.outer)) ff4 al4 fun h5 al5 st5 ff5 => ?_
    have I5 : Inv X pins σ1 H2 { s2 with heap := h5 } := (mk (t5 := s2.toks) (st34.trans st5)).untr I.ok
    have n1 : a ≠ X.env.locals := fun z => by
      obtain ⟨m, ⟨o, _, _, ho, _⟩, _⟩ := I1.loc
      have ho' : s1.heap.get? X.env.locals = some o := ho
      rw [← z, na.1] at ho'; cases ho'
    have I6 : Inv X pins σ1 (upd H2 a (.ext (ExcIs a C dx))) { s2 with heap := h5 } := by
      refine I5.trackE na.2 ?_ n1 (fun y e hc z => ?_) (fun q hq z => ?_) (aloft_is al5).ok
      · cases r : X.s₀.heap.get? a with
        | none => rfl
        | some o =>
          obtain ⟨o', r'⟩ := I1.base.there a o r (by show a ∉ X.ex; rw [hex]; simp)
          rw [na.1] at r'; cases r'
      · obtain ⟨v, o, ho, _⟩ := I1.cell y e hc
        rw [z, na.1] at ho; cases ho
      · have r := (I1.pin q (List.mem_append_left _ hq)).1
        rw [z, na.1] at r; cases r
    refine store_ok (X := X.su a) (s := { s2 with heap := h5 }) (I6.su (e := a)) hN hi (.inl hx) (v := .ref a) rfl (fun s7 I7 => ?_) (.inr hx)
    refine wpAny_mono (hs a pins s7 _ _ (D.un i) I7 (hk a na.2)) (fun f s8 q8 => ?_) (fun _ _ z => z.elim)
    have fin : ∀ {σ8 : St} {H8 : Hp} {Q : Unit → Shared → Prop}, Inv (X.su a) pins σ8 H8 s8 → (∀ s9, Inv X pins (σ8.set i none) H8 s9 → Q () s9) → wpAny (model X.prog X.w) X.A (do bindName X.env x .none; unbindBehindTheSuite X.env x hp) Q X.xe s8 := fun {σ8 H8 Q} I8 k => by
      obtain ⟨m, hn, hl⟩ := id I8.loc
      refine wpAny_nameGoes_keeps hx hn (by rw [I.ok.kind]; rfl) fun h' v hn' sb => k _ ?_
      exact (I8.unsu I.ok).gone hN hi hn hl hn' sb
    cases f with
    | next => obtain ⟨σ8, H8, I8, q⟩ := q8; exact fin I8 fun s9 I9 => ⟨_, _, I9, q⟩
    | brk => obtain ⟨σ8, H8, I8, q⟩ := q8; exact fin I8 fun s9 I9 => ⟨_, _, I9, q⟩
    | cont => obtain ⟨σ8, H8, I8, q⟩ := q8; exact fin I8 fun s9 I9 => ⟨_, _, I9, q⟩
    | ret u => obtain ⟨v, σ8, H8, I8, r, q⟩ := q8; exact fin I8 fun s9 I9 => ⟨v, _, _, I9, r, q⟩
  · cases f with
    | next =>
      obtain ⟨σ', H', I', q⟩ := q
      exact wpAny_execs_nil ⟨σ', H', I'.untr I.ok, q⟩
    | brk => obtain ⟨σ', H', I', q⟩ := q; exact ⟨σ', H', I'.untr I.ok, q⟩
    | cont => obtain ⟨σ', H', I', q⟩ := q; exact ⟨σ', H', I'.untr I.ok, q⟩
    | ret u => obtain ⟨v, σ', H', I', r, q⟩ := q; exact ⟨v, σ', H', I'.untr I.ok, r, q⟩
end
end L2

set_option maxRecDepth 100000
namespace L2
open PySem PySem.Spec PyProof.Rows
abbrev bmV : List Value := [.type "ValueError", .type "Exception", .type "BaseException", .type "object"]
/-- an own class beneath ValueError, by way of others without __init__ -/
def xcIn (K : PySem.W.Frag) (C : Addr) (init : Option Value) : Bool := match K.lookup C with
  | some ⟨.type "type", _, .cls cd, sl⟩ => (match cd.mro, sl.toList with
    | .ref C' :: bm, [_, _, _, _, some (.builtin n), _] => C' == C && (n == "ValueError.__new__" && (!cd.hasDel && (cd.hasDict && (PySem.W.tailIn K bmV bm && (PySem.W.nsOkIn K cd.ns && PySem.W.nsIn K cd.ns "__init__" == some init)))))
    | _, _ => false)
  | _ => false
/-- .. what is known of it in a heap -/
structure XAt (h : Heap) (C : Addr) (init : Option Value) : Prop where
  out : ∃ nm q N bs bm sn sub ab col dd k0 k1 k2 k3 k5 mN, h.get? C = some (excClassObj nm q C N bs bm true sn sub ab col dd k0 k1 k2 k3 k5 "ValueError.__new__") ∧ h.Ns N mN ∧ mN "__init__" = init ∧ OwnTail h bmV bm
theorem ns_of_in {K : PySem.W.Frag} {h : Heap} {N : Addr} {mg : Str → Option Value} {n : Str} {r : Option Value} (X : K.In h) (G : h.Ns N mg) (e : PySem.W.nsIn K N n = some r) : mg n = r := by
  obtain ⟨o, es, ep, ho, hd, _, hf⟩ := G
  unfold PySem.W.nsIn at e
  split at e
  · rename_i c d es' n' sl q
    have z := X _ _ q
    rw [ho] at z
    cases z
    cases hd
    rw [← hf]
    unfold nsFind findBy
    rw [← Array.find?_toList]
    split at e
    · rename_i he
      rw [he]
      cases e
      rfl
    · rename_i he
      rw [he]
      split at e
      · cases e
      · cases e
        rfl
  · cases e
theorem xc_at {K : PySem.W.Frag} {h : Heap} {C : Addr} {init : Option Value} (X : K.In h) (q : xcIn K C init = true) : XAt h C init := by
  unfold xcIn at q
  split at q
  · rename_i dd cd sl ho
    split at q
    · rename_i C' bm k0 k1 k2 k3 n k5 hm hs
      simp only [Bool.and_eq_true, beq_iff_eq, Bool.not_eq_true'] at q
      obtain ⟨rfl, rfl, d, hd', t, o, i⟩ := q
      obtain ⟨nm, bs, mro, ns, qn, hd, sn, sub, ab, col, del⟩ := cd
      dsimp only at hm d o i hd'
      subst hm d hd'
      obtain ⟨l⟩ := sl
      simp only at hs
      subst hs
      have G : h.Ns ns (h.nsMap ns) := .of_isNs (PySem.W.isNs_of_in X o)
      exact ⟨_, _, _, _, _, _, _, _, _, _, _, _, _, _, _, _, X _ _ ho, G, ns_of_in X G i, PySem.W.tail_of_in X t⟩
    · cases q
  · cases q
section
variable {M : Model} {A : Around} {E : Value → Shared → Prop} {s : Shared} {env : Env} {C : Addr} {init : Option Value}
/-- the raise of a made one -/
theorem raise_made {x : Sem Value} {Q : Flow → Shared → Prop} (hh : A.handled = none)
    (h : wpAny M A x (fun v s₁ => ∃ e oe vs, v = .ref e ∧ XAt s₁.heap C init ∧ s₁.heap.get? e = some oe ∧ oe.cls = .ref C ∧ oe.data = .fields vs ∧ vs[1]? = some .none ∧ E (.ref e) s₁) E s) :
    wpAny M A (raiseStmt env (some x) none) Q E s := by
  unfold raiseStmt
  refine wpAny_bind (wpAny_mono h (fun v s₁ h₁ => ?_) fun _ _ x => x)
  obtain ⟨e, oe, vs, rfl, ⟨nm, q, N, bs, bm, sn, sub, ab, col, dd, k0, k1, k2, k3, k5, mN, hC, _, _, T⟩, he, hc, hd, h1, hE⟩ := h₁
  have hbm : (Value.ref C :: bm).contains (.type "BaseException") = true := by rw [List.contains_cons, T.hasType (X := "BaseException") (b := true) (by decide +kernel), Bool.or_true]
  obtain ⟨hp, g, d, tk, os⟩ := s₁
  obtain ⟨oc, od, odt, osl⟩ := oe
  dsimp only at hc hd
  subst hc hd
  have hfld : ∀ {Q' : Value → Shared → Prop} {A' : Around}, Q' .none ⟨hp, g, d, tk, os⟩ → wpAny M A' (field (.ref e) 1) Q' E ⟨hp, g, d, tk, os⟩ := fun z => wpAny_field (s := ⟨hp, g, d, tk, os⟩) he rfl h1 z
  repeat (first | with_reducible refine wpAny_loadPart_at he ?_ | with_reducible refine wpAny_loadPart_at hC ?_ | (with_reducible refine wpAny_isSubtype_exc hC ?_; rw [hbm]) | with_reducible refine hfld ?_ | wp_step)
  exact wpAny_raiseNew_none hh hE
end

theorem XAt.keeps {h h' : Heap} {C : Addr} {init : Option Value} (x : XAt h C init) (k : ∀ b o, h.get? b = some o → h'.get? b = some o) : XAt h' C init := by
  obtain ⟨nm, q, N, bs, bm, sn, sub, ab, col, dd, k0, k1, k2, k3, k5, mN, hC, hN, hi, T⟩ := x.out
  exact ⟨nm, q, N, bs, bm, sn, sub, ab, col, dd, k0, k1, k2, k3, k5, mN, k _ _ hC, hN.keeps k, hi, T.keeps k⟩

theorem ObjOk.there {P : Program} {w : World} {H : Hp} {h : Heap} {a : Addr} {o : HO} (x : ObjOk P w H h a o) : ∃ ob, h.get? a = some ob := by
  induction o with
  | lst xs => obtain ⟨_, _, _, _, e⟩ := x; exact ⟨_, e⟩
  | tup xs => obtain ⟨_, _, _, ob, e, _⟩ := x; exact ⟨_, e⟩
  | dK kvs => obtain ⟨_, _, _, _, o, _, _, e, _⟩ := x; exact ⟨_, e⟩
  | dT kvs => obtain ⟨_, _, _, _, o, _, _, e, _⟩ := x; exact ⟨_, e⟩
  | set S n => obtain ⟨o, _, _, _, e, _⟩ := x; exact ⟨_, e⟩
  | ins C dx fs => obtain ⟨_, _, _, e, _⟩ := x; exact ⟨_, e⟩
  | own y => exact x
  | xd fs => obtain ⟨_, ⟨_, _, _, e, _⟩, _⟩ := x; exact ⟨_, e⟩
  | rng lo hi => obtain ⟨_, _, _, e⟩ := x; exact ⟨_, e⟩
  | frz ob u ih => exact ⟨ob, x.1⟩
  | tbl ps => exact ⟨_, x⟩
  | met f y => exact ⟨_, x⟩
  | ext φ => exact x.2.1
theorem HOk.none {P : Program} {w : World} {H : Hp} {h : Heap} {a : Addr} (x : HOk P w H h) (e : h.get? a = none) : H a = none := by
  cases r : H a with
  | none => rfl
  | some o =>
    obtain ⟨ob, q⟩ := (x a o r).there
    rw [e] at q; cases q

/-- raise C() -/
def tRaise0 (C : Addr) (XR : St → XK) : TS := fun _ σ H => XR σ (.ref C) none H
section
variable {X : Cx} {C : Addr} {XR : St → XK} {x : Str} {np cpos pos : Pos}
end
end L2

set_option maxRecDepth 100000
namespace L2
open PySem PySem.Spec PyProof.Rows PySem.W
theorem slot_wget : Slot "wrapper_descriptor" "__get__" "wrapper_descriptor.__get__" := .of (owner := "wrapper_descriptor") (n := "__get__") (by rw [typeLookup_type, builtinLookup_eq_fast]; kernel_rfl) (by decide +kernel) (by decide +kernel) (by decide +kernel)
  (by first | exact .inl (by decide +kernel) | exact .inr (by decide +kernel)) (by rw [isSubtype_type]; kernel_rfl)
theorem entry_wget : entryFor table "wrapper_descriptor.__get__" = some Builtin.«wrapper_descriptor.__get__» := entryFor_of_tree (by kernel_rfl)
theorem args_wget (a b c : Value) : argsOk "wrapper_descriptor.__get__" ⟨[a, b, c], []⟩ := by unfold argsOk; kernel_rfl
theorem type_vinit : typeOf (.builtin "ValueError.__init__") = pure (.type "wrapper_descriptor") := by kernel_rfl
section
variable {prog : Program} {w : World} {A : Around} {E : Value → Shared → Prop} {h : Heap} {g : Array GenState} {d : Drawn} {t : Nat} {os : OsState}
/-- the wrapper of ValueError's own, bound -/
theorem run_wget {x C : Addr} {Q : Fin → Shared → Prop} (hi : Looks (model prog w) h (isInstance (.ref x) (.type "ValueError")) true)
    (hq : Q (.done (.ret (.ref h.objs.size))) ⟨h.push { cls := .type "method-wrapper", data := .fields #[.builtin "ValueError.__init__", .ref x] }, g, d, t, os⟩) :
    wpAny (model prog w) A (Builtin.«wrapper_descriptor.__get__» ⟨[.builtin "ValueError.__init__", .ref x, .ref C], []⟩) Q E ⟨h, g, d, t, os⟩ := by
  unfold Builtin.«wrapper_descriptor.__get__»
  refine wpAny_bind (wpAny_of_eq (a := (.builtin "ValueError.__init__", some (.ref x), some (.ref C))) rfl ?_)
  dsimp only
  refine wpAny_bind ?_
  refine wpAny_bind (wpAny_of_eq (a := (("__init__" : Str), Value.type "ValueError")) (by kernel_rfl) ?_)
  dsimp only
  refine wpAny_bind (hi.here ?_)
  rw [if_neg (by decide)]
  refine wpAny_pure ?_
  exact wpAny_bind (wpAny_newObj_type (wpAny_pure hq))
theorem xs_ga {so D x C : Addr} {l₀ l : List Value} {K : Frag} {tk : Tok} {Q : Fin → Shared → Prop}
    (hso : h.get? so = some { cls := .type "super", dict := none, data := .fields #[.ref D, .ref x, .ref C], slots := #[] }) (hno : Looks (model prog w) h (opaqueClassAbove (.ref C)) none)
    (hC : Looks (model prog w) h (mroOf (.ref C)) l₀) (hl : (l₀.dropWhile (· != .ref D)).drop 1 = l) (X : K.In h) (hf : alongIn K "__init__" l = some (some (.builtin "ValueError.__init__")))
    (hxC : x ≠ C) (hi : Looks (model prog w) h (isInstance (.ref x) (.type "ValueError")) true)
    (hq : Q (.done (.ret (.ref h.objs.size))) ⟨h.push { cls := .type "method-wrapper", data := .fields #[.builtin "ValueError.__init__", .ref x] }, g, d, t, os⟩) :
    wpAny (model prog w) A (Builtin.«super.__getattribute__» ⟨[.ref so, .str "__init__" tk], []⟩) Q E ⟨h, g, d, t, os⟩ := by
  have lk := slot_wget.lookup
  have ne : (Value.ref x == Value.ref C) = false := by simp [hxC]
  have dt : ({ cls := .type "super", dict := none, data := .fields #[.ref D, .ref x, .ref C], slots := #[] } : Obj).data = .fields #[.ref D, .ref x, .ref C] := rfl
  have z0 : (#[.ref D, .ref x, .ref C] : Array Value)[0]? = some (.ref D) := rfl
  have z1 : (#[.ref D, .ref x, .ref C] : Array Value)[1]? = some (.ref x) := rfl
  have z2 : (#[.ref D, .ref x, .ref C] : Array Value)[2]? = some (.ref C) := rfl
  have tv : (⟨h, g, d, t, os⟩ : Shared).TypeIs (.builtin "ValueError.__init__") "wrapper_descriptor" := type_vinit
  have nc : (("__init__" : Str) == ("__class__" : Str)) = false := by decide +kernel
  unfold Builtin.«super.__getattribute__»
  repeat (first
    | (with_reducible refine wpAny_field hso dt z0 ?_) | (with_reducible refine wpAny_field hso dt z1 ?_) | (with_reducible refine wpAny_field hso dt z2 ?_)
    | (with_reducible refine ks_wpAny_notOpaque hno ?_)
    | (with_reducible refine Looks.at hC ?_; rw [hl])
    | (refine ks_forIn_along X (fun _ _ => rfl) rfl ?_ hf)
    | (with_reducible refine wpAny_of_eq type_vinit ?_)
    | (with_reducible refine wpAny_call_entry slot_wget tv entry_wget ?_ (args_wget _ _ _))
    | (with_reducible refine run_wget hi ?_)
    | (with_reducible refine ⟨_, rfl, ?_⟩)
    | (simp only [nc, ne, Bool.or_false, Bool.false_eq_true, if_false])
    | wp_step
    | dsimp only)
  all_goals exact hq
theorem xs_getm {so D x C : Addr} {l₀ l : List Value} {K : Frag} {pl : Sem Bool} {Q : Value × List Value → Shared → Prop}
    (hso : h.get? so = some { cls := .type "super", dict := none, data := .fields #[.ref D, .ref x, .ref C], slots := #[] }) (hno : Looks (model prog w) h (opaqueClassAbove (.ref C)) none)
    (hC : Looks (model prog w) h (mroOf (.ref C)) l₀) (hl : (l₀.dropWhile (· != .ref D)).drop 1 = l) (X : K.In h) (hf : alongIn K "__init__" l = some (some (.builtin "ValueError.__init__")))
    (hxC : x ≠ C) (hi : Looks (model prog w) h (isInstance (.ref x) (.type "ValueError")) true)
    (hq : Q (.ref h.objs.size, []) ⟨h.push { cls := .type "method-wrapper", data := .fields #[.builtin "ValueError.__init__", .ref x] }, g, d, t + 1, os⟩) :
    wpAny (model prog w) A (getMethod (.ref so) "__init__" pl) Q E ⟨h, g, d, t, os⟩ := by
  have lk := F.ks_slot_super_ga.lookup
  have ty : ∀ t', (⟨h, g, d, t', os⟩ : Shared).TypeIs (.ref so) "super" := fun _ => ⟨_, hso, rfl⟩
  unfold getMethod
  refine wpAny_bind (wpAny_specialOf (ty _) lk ?_)
  show wpAny _ _ (if (Manifest.canonical "super.__getattribute__" != "object.__getattribute__") = true then _ else _) _ _ _
  rw [if_pos F.ks_canon_super_ga]
  unfold getAttr getAttrBy
  refine wpAny_bind (wpAny_bind (wpAny_mkText (wpAny_holding (wpAny_bind (wpAny_typeOf (ty _) (wpAny_bind (wpAny_of_eq lk ?_)))))))
  show wpAny _ _ (getAttrByItsOwn (.ref so) (.str "__init__" t) (.type "super") (.builtin "super.__getattribute__") true false) _ _ _
  unfold getAttrByItsOwn hookBefore callGetattribute boundAndCalled
  refine wpAny_bind (wpAny_of_eq (a := none) rfl ?_)
  refine wpAny_bind (wpAny_attempt (wpAny_holding ?_))
  refine wpAny_bind (wpAny_of_eq (F.ks_slot_super_ga.bind _) ?_)
  refine wpAny_mono (E := fun _ _ => False) (wpAny_call_entry F.ks_slot_super_ga (ty _) F.ks_entry_super_ga (xs_ga (Q := fun fin s' => ∃ v, fin = .done (.ret v) ∧ (v = .ref h.objs.size ∧ s' = ⟨h.push { cls := .type "method-wrapper", data := .fields #[.builtin "ValueError.__init__", .ref x] }, g, d, t + 1, os⟩)) hso hno hC hl X hf hxC hi ⟨_, rfl, rfl, rfl⟩) (F.ks_gaArgs_super _ _)) (fun v s' hv => ?_) fun _ _ z => z.elim
  obtain ⟨rfl, rfl⟩ := hv
  exact wpAny_pure (wpAny_pure hq)
end
end L2

set_option maxRecDepth 100000
namespace L2
open PySem PySem.Spec PyProof.Rows PySem.W
section
variable {prog : Program} {w : World} {A : Around} {E : Value → Shared → Prop} {h : Heap} {g : Array GenState} {d : Drawn} {t : Nat} {os : OsState}
theorem check_vi {M : Model} {nm q : Str} {C N : Addr} {bs bm : List Value} {hdct : Bool} {sn : List Str} {sub : List Value} {ab : Bool} {col : Option Bool} {dd : Option Addr} {k0 k1 k2 k3 k5 : Option Value} {newId : String} {x : Addr} {oe : Obj} {a : Str} {tk : Tok} {Q : Unit → Shared → Prop}
    (hC : h.get? C = some (excClassObj nm q C N bs bm hdct sn sub ab col dd k0 k1 k2 k3 k5 newId)) (he : h.get? x = some oe) (hc : oe.cls = .ref C) (hq : Q () ⟨h, g, d, t, os⟩) :
    wpAny M A (checkBoundCall "ValueError.__init__" ⟨[.ref x, .str a tk], []⟩) Q E ⟨h, g, d, t, os⟩ := by
  have F := PySem.F.excBase_ValueError
  have hshort := F.noStar
  simp only [checkBoundCall, F.initKind, F.initRow]
  rw [if_pos (by decide)]
  repeat (first | (with_reducible refine wpAny_loadPart_at he ?_; rw [hc]) | with_reducible refine wpAny_loadPart_at hC ?_ | wp_step)
  exact hq
theorem fld_at {M : Model} {e : Addr} {o : Obj} {vs : Array Value} {i : Nat} {v : Value} {Q : Value → Shared → Prop} (ho : h.get? e = some o) (hd : o.data = .fields vs) (hi : vs[i]? = some v) (hq : Q v ⟨h, g, d, t, os⟩) : wpAny M A (field (.ref e) i) Q E ⟨h, g, d, t, os⟩ := wpAny_field ho hd hi hq
theorem sfl_at {M : Model} {e : Addr} {o : Obj} {vs : Array Value} {i : Nat} {v : Value} {Q : Unit → Shared → Prop} (ho : h.get? e = some o) (hd : o.data = .fields vs) (hi : i < vs.size) (hq : Q () ⟨h.update e (Obj.mapFields (·.setIfInBounds i v)), g, d, t, os⟩) : wpAny M A (setField (.ref e) i v) Q E ⟨h, g, d, t, os⟩ := wpAny_setField (s := ⟨h, g, d, t, os⟩) ho hd hi hq
theorem xs_run {mw x t0 : Addr} {a : Str} {tk : Tok} {oe : Obj} {vs : Array Value} {Q : Value → Shared → Prop} (hmw : h.get? mw = some { cls := .type "method-wrapper", data := .fields #[.builtin "ValueError.__init__", .ref x] })
    {C : Addr} {init : Option Value} (xa : XAt h C init) (hc : oe.cls = .ref C) (hx : h.get? x = some oe) (hd : oe.data = .fields vs) (h0 : vs[0]? = some (.ref t0))
    (hq : ∀ h' T, h.objs.size ≤ T → h'.get? x = some (oe.mapFields (·.setIfInBounds 0 (.ref T))) → (∀ b o, b ≠ x → h.get? b = some o → h'.get? b = some o) → Q .none ⟨h', g, d, t, os⟩) :
    wpAny (model prog w) A (call (.ref mw) [.str a tk]) Q E ⟨h, g, d, t, os⟩ := by
  refine wpAny_call (codeAny_of_tree ?_)
  show wpAny _ _ (callAny (.ref mw) _) _ _ _
  unfold callAny
  refine wpAny_bind (wpAny_load hmw ?_)
  dsimp only
  rw [if_pos (by decide)]
  simp only [show (#[Value.builtin "ValueError.__init__", Value.ref x] : Array Value)[0]? = some (.builtin "ValueError.__init__") from rfl, show (#[Value.builtin "ValueError.__init__", Value.ref x] : Array Value)[1]? = some (.ref x) from rfl]
  rw [if_pos (by decide)]
  obtain ⟨nm, qn, N, bs, bm, sn, sub, ab, col, dd, k0, k1, k2, k3, k5, mN, hC, _, _, _⟩ := xa.out
  refine wpAny_bind (check_vi hC hx hc ?_)
  refine wpAny_pure ?_
  refine ⟨Code.quiet_builtin _ (by decide +kernel), codeAny_builtin PySem.F.excBase_ValueError.initEntry ?_⟩
  have h1 := Heap.get?_push_of_some { cls := Value.type "tuple", data := Data.seq #[Value.str a tk] } hx
  have z0 : 0 < vs.size := (Array.getElem?_eq_some_iff.mp h0).1
  unfold Builtin.«BaseException.__init__» Builtin.BaseException.bexcPut
  repeat (first | (with_reducible refine fld_at h1 hd h0 ?_) | (with_reducible refine sfl_at h1 hd z0 ?_) | wp_step)
  exact hq _ h.objs.size (Nat.le_refl _) (Heap.get?_update_self _ h1 (Obj.isFreed_of_fields (Obj.data_mapFields hd _))) fun b o nb q => (Heap.get?_update_other _ _ (Ne.symm nb)).trans (Heap.get?_push_of_some _ q)
end
end L2

set_option maxRecDepth 100000
namespace L2
open PySem PySem.Spec PyProof.Rows PySem.W
open Builtin Builtin.ObjectAttr
section
variable {prog : Program} {w : World} {A : Around} {E : Value → Shared → Prop} {h : Heap} {g : Array GenState} {d : Drawn} {t : Nat} {os : OsState}
variable {x C LE : Addr} {o : Obj} {name : Str} {v : Value} {vs : Array Value}
/-- what a class says of a name and of storing -/
structure StoreAt (M : Model) (h : Heap) (C LE : Addr) (name : Str) : Prop where
  mro : Looks M h (mroOf (.ref C)) (.ref C :: .ref LE :: bmV)
  no : Looks M h (typeLookup (.ref C) name) none
  sa : Looks M h (typeLookup (.ref C) "__setattr__") (some (.builtin "object.__setattr__"))
  ob : Looks M h (isSubtype (.ref C) (.type "object")) true
  at_ : ∃ init, XAt h C init
theorem xs_sa {tk : Tok} {Q : Fin → Shared → Prop} (S : StoreAt (model prog w) h C LE name) (hx : h.get? x = some o) (hc : o.cls = .ref C) (hn : o.dict = none) (hd : o.data = .fields vs)
    (hq : ∀ h' tk' dx, h.objs.size ≤ dx → h'.get? x = some { o with dict := some dx } → h'.Ns1 dx (fun y => if y = name then some v else none) → (∀ b u, b ≠ x → h.get? b = some u → h'.get? b = some u) → Q (.done (.ret .none)) ⟨h', g, d, tk', os⟩) :
    wpAny (model prog w) A (Builtin.«object.__setattr__» ⟨[.ref x, .str name tk, v], []⟩) Q E ⟨h, g, d, t, os⟩ := by
  have ps := PySem.F.store_ValueError.passes (.ref x)
  obtain ⟨init, xa⟩ := S.at_
  obtain ⟨nm, qn, N, bs, bm, sn, sub, ab, col, dd, k0, k1, k2, k3, k5, mN, hC, _, _, _⟩ := xa.out
  unfold Builtin.«object.__setattr__»
  repeat (first | rw [refuse_eq] | (with_reducible refine wpAny_loadPart_at hx ?_; rw [hc]) | (with_reducible refine Looks.at S.mro ?_; rw [refuseLoop_ref, refuseLoop_ref, ps]) | (with_reducible refine Looks.at S.no ?_) | (with_reducible refine wpAny_loadPart_at hC ?_) | wp_step)
  rw [hn, hd]
  dsimp only
  rw [if_neg (by simp [typeHasDict])]
  have x1 : (h.push { cls := .type "dict", data := .dict #[] }).get? x = some o := Heap.get?_push_of_some _ hx
  have nx : x ≠ h.objs.size := Nat.ne_of_lt (Heap.lt_size hx)
  have fr : ({ cls := o.cls, dict := some h.objs.size, data := o.data, slots := o.slots } : Obj).isFreed = false := by
    obtain ⟨oc, od, odt, osl⟩ := o
    dsimp only at hd
    subst hd
    rfl
  refine wpAny_bind (wpAny_alloc' (wpAny_bind (wpAny_update' x1 (wpAny_pure ?_))))
  have x2 := Heap.get?_update_self (fun o => { cls := o.cls, dict := some h.objs.size, data := o.data, slots := o.slots }) x1 fr
  have d2 : ((h.push { cls := .type "dict", data := .dict #[] }).update x fun o => { cls := o.cls, dict := some h.objs.size, data := o.data, slots := o.slots }).get? h.objs.size = some { cls := .type "dict", data := .dict #[] } :=
    (Heap.get?_update_other _ _ nx).trans (Heap.get?_push_at rfl rfl)
  generalize hg : ((h.push { cls := .type "dict", data := .dict #[] }).update x fun o => { cls := o.cls, dict := some h.objs.size, data := o.data, slots := o.slots }) = h2 at x2 d2 ⊢
  have old : ∀ b u, b ≠ x → h.get? b = some u → h2.get? b = some u := fun b u nb q => by
    rw [← hg]
    exact (Heap.get?_update_other _ _ (Ne.symm nb)).trans (Heap.get?_push_of_some _ q)
  have n2 : h2.Ns h.objs.size (fun _ => none) := ⟨_, #[], _, d2, rfl, fun e z => absurd z (by simp), fun _ => rfl⟩
  show wpAny _ _ (storeInDict h.objs.size (.str name tk) name v) _ _ _
  unfold storeInDict newKeyGuard
  refine wpAny_bind (wpAny_pure (wpAny_bind (wpAny_nsSet1 (Heap.Ns1.of_empty n2) fun h3 n3 s3 => ?_)))
  obtain ⟨oD, eD, pD, q1, q2, q3⟩ := n3.count (Within.cons name v Within.nil)
  refine wpAny_bind (wpAny_lookBehind q1 (by rw [q2]; exact pastItsLine_dict (Nat.le_trans q3 (by rw [List.length_cons, List.length_nil, sizeLine_eq]; omega))) ?_)
  wp_walk
  exact hq h3 _ h.objs.size (Nat.le_refl _) ((s3.2 x nx).trans x2) n3 fun b u nb q => (s3.2 b (Nat.ne_of_lt (Heap.lt_size q))).trans (old b u nb q)

theorem xs_chk {M : Model} {n : Value} {Q : Unit → Shared → Prop} (ob : Looks M h (isSubtype (.ref C) (.type "object")) true) (hx : h.get? x = some o) (hc : o.cls = .ref C) (hq : Q () ⟨h, g, d, t, os⟩) :
    wpAny M A (checkBuiltinCall "object.__setattr__" ⟨[.ref x, n, v], []⟩) Q E ⟨h, g, d, t, os⟩ := by
  have SF := PySem.F.store_ValueError
  simp only [checkBuiltinCall, SF.kind, SF.split]
  refine wpAny_bind ?_
  unfold isInstance
  repeat (first | (with_reducible refine wpAny_loadPart_at hx ?_; rw [hc]) | (with_reducible refine Looks.at ob ?_) | wp_step)
  exact hq
theorem xs_set {Q : Unit → Shared → Prop} (S : StoreAt (model prog w) h C LE name) (hx : h.get? x = some o) (hc : o.cls = .ref C) (hn : o.dict = none) (hd : o.data = .fields vs)
    (hq : ∀ h' tk' dx, h.objs.size ≤ dx → h'.get? x = some { o with dict := some dx } → h'.Ns1 dx (fun y => if y = name then some v else none) → (∀ b u, b ≠ x → h.get? b = some u → h'.get? b = some u) → Q () ⟨h', g, d, tk', os⟩) :
    wpAny (model prog w) A (setAttr (.ref x) name v) Q E ⟨h, g, d, t, os⟩ := by
  have SF := PySem.F.store_ValueError
  have bd := SF.slot.bind (.ref x)
  unfold setAttr callSpecial? specialOf
  repeat (any_goals (first | assumption | (with_reducible refine wpAny_loadPart_at hx ?_; rw [hc]) | (with_reducible refine Looks.at S.sa ?_) | wp_step))
  refine codeAny_call_builtin SF.slot.plain SF.entry (xs_chk (S.ob) hx hc ?_)
  refine xs_sa (t := t + 1) S hx hc hn hd fun h' tk' dx z1 z2 z3 z4 => ?_
  repeat (any_goals (first | assumption | wp_step))
  exact hq h' tk' dx z1 z2 z3 z4
end
end L2

set_option maxRecDepth 100000
namespace L2
open PySem PySem.Spec PyProof.Rows PySem.W
/-- the class facts that making and storing ask, of K alone -/
structure XK1 (K : Frag) (C LE : Addr) (fld : Str) : Prop where
  mro : (clsIn K C).map (·.mro) = some (.ref C :: .ref LE :: bmV)
  no : findIn K (.ref C) fld = some none
  sa : findIn K (.ref C) "__setattr__" = some (some (.builtin "object.__setattr__"))
  ini : alongIn K "__init__" (.ref LE :: bmV) = some (some (.builtin "ValueError.__init__"))
  opq : nsIn K cStatics "thirdparty.any" = some none
theorem XK1.subs {K : Frag} {C LE : Addr} {fld : Str} {M : Model} {h : Heap} {b : Value} (x : XK1 K C LE fld) (X : K.In h) (hb : (Value.ref C :: .ref LE :: bmV).contains b = true) : Looks M h (isSubtype (.ref C) b) true := by
  obtain ⟨cd, e, z⟩ := Option.map_eq_some_iff.mp x.mro
  refine looks_mroIn X ?_
  unfold mroIn
  rw [e]
  show (if cd.mro.isEmpty = true then none else some (cd.mro.contains b)) = some true
  rw [z, hb]; rfl
theorem XK1.mroL {K : Frag} {C LE : Addr} {fld : Str} {M : Model} {h : Heap} (x : XK1 K C LE fld) (X : K.In h) : Looks M h (mroOf (.ref C)) (.ref C :: .ref LE :: bmV) := by
  obtain ⟨cd, e, z⟩ := Option.map_eq_some_iff.mp x.mro
  rw [← z]
  exact (looks_clsIn X e).andThen .now
theorem XK1.store {K : Frag} {C LE : Addr} {fld : Str} {M : Model} {h : Heap} {init : Option Value} (x : XK1 K C LE fld) (X : K.In h) (q : xcIn K C init = true) : StoreAt M h C LE fld :=
  ⟨x.mroL X, looks_findIn X x.no, looks_findIn X x.sa, x.subs X (by simp [bmV]), init, xc_at X q⟩
section
variable {prog : Program} {w : World} {A : Around} {E : Value → Shared → Prop} {s : Shared}
/-- a call of a method-wrapper with one written text -/
theorem callWith_mw {pos : Pos} {env : Env} {mw : Addr} {fn x : Value} {msg : Str} {kd : Nat} {p4 : Pos} {Q : Value → Shared → Prop} (hmw : s.heap.get? mw = some { cls := .type "method-wrapper", data := .fields #[fn, x] })
    (k : ∀ tk, wpAny (model prog w) A (call (.ref mw) [.str msg tk]) Q E { s with toks := s.toks + 1 }) :
    wpAny (model prog w) A (callWith pos (.ref mw) [] (backTo pos (starEach [.Constant (.str msg) kd p4] env)) []) Q E s := by
  unfold callWith
  refine wpAny_bind (wpAny_holding (wpAny_mono (Q := fun (a : Args) s₁ => ∃ tk, a = ⟨[.str msg tk], []⟩ ∧ s₁ = { s with toks := s.toks + 1 }) ?_ (fun a s₁ ⟨tk, ha, hs⟩ => wpAny_bind (wpAny_standAt ?_)) fun _ _ z => z))
  · show wpAny (model prog w) A (evalArgs (.ref mw) true ((false, eval (.Constant (.str msg) kd p4) env) :: []) []) _ _ _
    refine Calls.evalArgs_plain (Calls.spliced_cons (Calls.Constant_str (k := kd) (pos := p4) ?_))
    exact Calls.spliced_nil ⟨_, rfl, rfl⟩
  · subst ha hs
    simp only [stars_any (es := [.Constant (.str msg) kd p4]) rfl, List.any_nil, Bool.or_false]
    refine wpAny_bind (m := keeperOf (.ref mw)) ?_
    unfold keeperOf
    refine wpAny_bind (wpAny_load hmw ?_)
    dsimp only
    rw [if_pos (by decide)]
    refine wpAny_pure ?_
    rw [if_pos (by decide)]
    exact wpAny_bind (wpAny_mono (k tk) (fun r s₂ z => wpAny_bind (wpAny_holding (wpAny_point (wpAny_pure z)))) fun _ _ z => z)
end
end L2

set_option maxRecDepth 100000
namespace L2
open PySem PySem.Spec PyProof.Rows PySem.W
/-- the names of an own __init__(self, par) -/
structure ISc (sc : Scope) (par : Str) : Prop where
  su : sc.names.lookup ("super" : Str) = some .globalImplicit
  cl : sc.names.lookup ("__class__" : Str) = some .free
  se : sc.names.lookup ("self" : Str) = some .local
  pa : sc.names.lookup par = some .local
  nc : ∀ x ∈ sc.names, x.2 ≠ .cell
  co : sc.isCoroutine = false
  ge : sc.isGenerator = false
  ki : sc.kind = .function
  ns : (("self" : Str) == par) = false
  db : (par == ("__debug__" : Str)) = false
section
variable {prog : Program} {w : World} {A : Around} {R : Result → Shared → Prop} {h : Heap} {g : Array GenState} {d : Drawn} {t : Nat} {os : OsState}
variable {K : Frag} {mg : Str → Option Value} {base : Heap} {f C LE e cda cc : Addr} {fld par nm qual msg file : Str} {ps : Arguments} {body : List Stmt} {sc : Scope} {kV doc pm ct oc ccl cl u : Value} {an od cdd cld : Option Addr} {osl ccs csl : Array (Option Value)} {cvs vs : Array Value} {tf : Tok} {init : Option Value} {oe : Obj} {t0 : Addr} {ar : Arg}
  {a1 a2 a3 a4 a5 a6 b1 b2 b3 b4 : Pos} {kd : Nat} {pl : Env → Sem Bool}
theorem xs_init (B : Mod K mg base) (kb : ∀ b o, base.get? b = some o → h.get? b = some o) (nb : base.get? e = none) (x1 : XK1 K C LE fld) (q : xcIn K C init = true) (hroom : A.depth < recursionLimit)
    (lk : K.lookup f = some ⟨oc, od, .func (ksFn nm qual ps body sc .none kV doc pm an (.ref cda) ct cc), osl⟩) (hcd : codeIn K (.ref cda) qual = true) (hcode : K.lookup cda = some ⟨ccl, cdd, .fields cvs, ccs⟩) (hvs : cvs[2]? = some (.str file tf)) (hfile : ((prog.main.file : Str) == file) = true)
    (hcell : K.lookup cc = some ⟨cl, cld, .cell (some (.ref C)), csl⟩) (hsu : mg "super" = none) (htop : (prog.main.scope.names.lookup ("super" : Str)).isSome = false) (hboot : bootBuiltins "super" = some (.type "super"))
    (S : ISc sc par) (hp : (ps.posonlyargs ++ ps.args).head? = some ar) (har : ar.arg = "self") (hbind : bindArgs (ksFn nm qual ps body sc .none kV doc pm an (.ref cda) ct cc) ⟨[.ref e, u], []⟩ = pure [(("self" : Str), .ref e), (par, u)])
    (hb : body = [.Expr (.Call (.Attribute (.Call (.Name "super" a1) [] [] a2) "__init__" a3) [.Constant (.str msg) kd a4] [] a5) a6, .Assign [.Attribute (.Name "self" b1) fld b2] (.Name par b3) b4])
    (hev : ∀ env, eval (.Call (.Attribute (.Call (.Name "super" a1) [] [] a2) "__init__" a3) [.Constant (.str msg) kd a4] [] a5) env = (do
      let ov ← attributeBase (.Call (.Name "super" a1) [] [] a2) "__init__" env (eval (.Call (.Name "super" a1) [] [] a2) env)
      standAt a3.atName
      let (f, first) ← holding [ov] (getMethod ov "__init__" (pl env))
      callWith a5 f first (backTo a5 (starEach [.Constant (.str msg) kd a4] env)) []))
    (he : h.get? e = some oe) (hec : oe.cls = .ref C) (hed : oe.dict = none) (hef : oe.data = .fields vs) (h0 : vs[0]? = some (.ref t0))
    (hq : ∀ h' t' dx T, h'.get? e = some { cls := .ref C, dict := some dx, data := .fields (vs.setIfInBounds 0 (.ref T)), slots := oe.slots } → h.objs.size ≤ dx → h'.Ns1 dx (fun y => if y = fld then some u else none) → (∀ b o, b ≠ e → h.get? b = some o → h'.get? b = some o) → R (.ok (.ret .none)) ⟨h', g, d, t', os⟩) :
    codeAny (model prog w) A (.call (.ref f) ⟨[.ref e, u], []⟩) R ⟨h, g, d, t, os⟩ := by
  have X : K.In h := B.kin.keeps kb
  refine ks_codeAny_call_defAt (s := ⟨h, g, d, t, os⟩) (binds := [(("self" : Str), .ref e), (par, u)]) hroom (X _ _ lk) rfl (B.nolimit.keeps kb) (codeRec_of X hcd) rfl (.of_eq hbind) S.nc (fun y hy => ?_) (fun h₀ hn k0 => ?_) S.co S.ge S.ki
  · simp only [List.mem_cons, List.mem_nil_iff, or_false] at hy
    rcases hy with rfl | rfl
    · exact S.se
    · exact S.pa
  have kb0 : ∀ b o, base.get? b = some o → h₀.get? b = some o := fun b o z => k0 _ _ (kb _ _ z)
  have X0 : K.In h₀ := B.kin.keeps kb0
  have e0 := k0 _ _ he
  have ms : (fun x => ([("self", .ref e), (par, u)] : List (Str × Value)).reverse.lookup x) ("self" : Str) = some (.ref e) := by
    show ([(par, u), ("self", .ref e)] : List (Str × Value)).lookup ("self" : Str) = _
    rw [List.lookup_cons, S.ns]; rfl
  have mp : (fun x => ([("self", .ref e), (par, u)] : List (Str × Value)).reverse.lookup x) par = some u := by
    show ([(par, u), ("self", .ref e)] : List (Str × Value)).lookup par = _
    rw [List.lookup_cons, beq_self_eq_true]
  obtain ⟨mb, hb1, hb2⟩ := B.blt
  obtain ⟨nmC, qnC, NC, bsC, bmC, snC, subC, abC, colC, ddC, k0C, k1C, k2C, k3C, k5C, mNC, hC, _, _, _⟩ := (xc_at X0 q).out
  have nfe : ∀ c, oe.data ≠ .cls c := fun c z => by rw [hef] at z; cases z
  have neC : e ≠ C := fun z => by
    subst z
    rw [e0] at hC; cases hC
    cases hef
  subst hb
  dsimp only
  generalize hE : (fun (e : Value) (s' : Shared) => wpAny (model prog w) _ (leaving _ e) (fun _ s'' => R (Except.error e) s'') (fun e' s'' => R (Except.error e') s'') s') = EX
  refine ks_wpAt_execs_cons ?_
  refine ks_wpAt_Expr_any ?_ (by show (sc.kind == .module && _) = false; rw [S.ki]; rfl) rfl
  refine ks_wpAt_MethodCall ?_ (hev _)
  refine ks_wpAt_super_base (env := ksEnv qual sc h.objs.size f (.ref cda) cc) (file := file) (tf := tf) S.su S.cl (by decide +kernel) rfl (X0 _ _ lk) rfl hp rfl (X0 _ _ hcode) rfl hvs hfile htop ?_
  refine ks_loadName_global S.ki S.su (Calls.loadGlobal_builtin (B.glob.keeps kb0) hsu (hb1.keeps kb0) ((hb2 _ (by decide +kernel)).trans hboot) ⟨rfl, ?_⟩)
  refine wpAny_loadName_free S.ki S.cl rfl ⟨_, X0 _ _ hcell, rfl⟩ ?_
  rw [har]
  refine wpAny_loadName_local S.ki S.se hn ms ?_
  refine ks_wpAny_isType_cls hC rfl ⟨rfl, ?_⟩
  refine ks_wpAny_call_super hC rfl e0 hec nfe (x1.subs X0 (by simp)) (fun h1 hso k1 => ?_)
  have kb1 : ∀ b o, base.get? b = some o → h1.get? b = some o := fun b o z => k1 _ _ (kb0 _ _ z)
  have X1 : K.In h1 := B.kin.keeps kb1
  have e1 := k1 _ _ e0
  have inst : Looks (model prog w) h1 (isInstance (.ref e) (.type "ValueError")) true := by
    unfold isInstance
    refine (looks_cls e1).andThen ?_
    rw [hec]
    exact x1.subs X1 (by simp [bmV])
  refine xs_getm (l := .ref LE :: bmV) hso (looks_opaque X1 x1.opq) (x1.mroL X1) (by simp [List.dropWhile]) X1 x1.ini neC inst ?_
  generalize hmo : ({ cls := .type "method-wrapper", data := .fields #[.builtin "ValueError.__init__", .ref e] } : Obj) = mo
  have m2 : (h1.push mo).get? h1.objs.size = some mo := Heap.get?_push_size _ (by rw [← hmo]; rfl)
  have k2 : ∀ b o, h.get? b = some o → (h1.push mo).get? b = some o := fun b o z => Heap.get?_push_of_some _ (k1 _ _ (k0 _ _ z))
  have e2 := k2 _ _ he
  have X2 : K.In (h1.push mo) := B.kin.keeps fun b o z => Heap.get?_push_of_some _ (kb1 _ _ z)
  refine callWith_mw (mw := h1.objs.size) (fn := .builtin "ValueError.__init__") (x := .ref e) (by rw [hmo]; exact m2) fun tk => ?_
  refine xs_run (by rw [hmo]; exact m2) (xc_at X2 q) hec e2 hef h0 fun h3 T zT z1 z2 => ?_
  have kb3 : ∀ b o, base.get? b = some o → h3.get? b = some o := fun b o z => z2 _ _ (fun y => by rw [y, nb] at z; cases z) (Heap.get?_push_of_some _ (kb1 _ _ z))
  have X3 : K.In h3 := B.kin.keeps kb3
  have hn3 : h3.Ns h.objs.size (fun x => ([("self", .ref e), (par, u)] : List (Str × Value)).reverse.lookup x) := by
    obtain ⟨o, es, ep, ho, r⟩ := hn
    refine ⟨o, es, ep, z2 _ _ (fun y => ?_) (Heap.get?_push_of_some _ (k1 _ _ ho)), r⟩
    have z := Heap.lt_size he
    rw [← y] at z
    exact absurd z (Nat.lt_irrefl _)
  show PySem.wpAt _ _ _ (execs [.Assign [.Attribute (.Name "self" b1) fld b2] (.Name par b3) b4] _) _ _ _
  refine ks_wpAt_execs_cons (ks_wpAt_Assign_Attr (wpAt_of_wpAny (wpAny_Name (wpAny_loadName_local S.ki S.pa hn3 mp ?_) S.db)) rfl)
  refine wpAny_Name (wpAny_loadName_local S.ki S.se hn3 ms ?_) (by decide +kernel)
  have dm := Obj.data_mapFields hef (·.setIfInBounds 0 (Value.ref T))
  refine xs_set (x1.store X3 q) z1 ((Obj.cls_mapFields _ _).trans hec) ((dict_mapF _ _).trans hed) dm fun h4 t4 dx y1 y2 y3 y4 => ?_
  refine wpAt_of_wpAny (wpAny_execs_nil ?_)
  have y2' : h4.get? e = some { cls := .ref C, dict := some dx, data := .fields (vs.setIfInBounds 0 (.ref T)), slots := oe.slots } := by
    rw [y2, Obj.cls_mapFields, hec, dm]
    obtain ⟨oc', od', odt', osl'⟩ := oe
    cases odt' <;> rfl
  exact hq h4 t4 dx T y2' (Nat.le_trans (Nat.le_of_lt hn3.lt) y1) y3 fun b o nb' z => y4 _ _ nb' (z2 _ _ nb' (k2 _ _ z))
end
end L2

set_option maxRecDepth 100000
namespace L2
open PySem PySem.Spec PyProof.Rows PySem.W
section
variable {prog : Program} {w : World} {A : Around} {E : Value → Shared → Prop} {h : Heap} {g : Array GenState} {d : Drawn} {t : Nat} {os : OsState} {C fI : Addr} {oI : Obj} {u : Value}
theorem xs_tcall {Q : Fin → Shared → Prop} (xa : XAt h C (some (.ref fI))) (hf : h.get? fI = some oI) (hfc : oI.cls = .type "function")
    (hq : ∀ h' e, Heap.MadeExcOf h h' e (.ref C) [u] → wpAny (model prog w) A (call (.ref fI) [.ref e, u]) (fun r s' => r = .none ∧ Q (.done (.ret (.ref e))) s') E ⟨h', g, d, t, os⟩) :
    wpAny (model prog w) A (Builtin.«type.__call__» ⟨[.ref C, u], []⟩) Q E ⟨h, g, d, t, os⟩ := by
  obtain ⟨nm, qn, N, bs, bm, sn, sub, ab, col, dd, k0, k1, k2, k3, k5, mN, hC, hN, hi, T⟩ := xa.out
  have F := PySem.F.excBase_ValueError
  repeat (first | with_reducible refine wpAny_loadPart_at hC ?_ | with_reducible refine wpAny_madeBy_exc hC ?_ | wp_step)
  refine codeAny_call_builtin_code (Code.quiet_builtin _ F.quiet) (wpAny_check_new_subU F (by decide +kernel) T hC ?_)
  refine codeAny_exc_new_subU (rest := [u]) F (by decide +kernel) F T hC ?_ (by show 1 ≤ sizeLine; decide)
  show wpAny _ _ _ _ _ _
  generalize hh : (h.push { cls := .type "tuple", data := .seq [u].toArray }).push { cls := .ref C, data := .fields #[.ref h.objs.size, .none, .none, .none, .bool false, .none] } = h2
  have up : ∀ b o, h.get? b = some o → h2.get? b = some o := fun b o z => by rw [← hh]; exact Heap.get?_push_of_some _ (Heap.get?_push_of_some _ z)
  have ge : h2.get? (h.objs.size + 1) = some { cls := .ref C, data := .fields #[.ref h.objs.size, .none, .none, .none, .bool false, .none] } := by rw [← hh]; heap_get
  have gt : h2.get? h.objs.size = some { cls := .type "tuple", data := .seq [u].toArray } := by rw [← hh]; exact Heap.get?_push_of_some _ (Heap.get?_push_at rfl rfl)
  have cC : (Value.ref C :: bm).contains (.ref C) = true := by simp
  have C2 := up _ _ hC
  unfold isInstance
  repeat (first | with_reducible refine wpAny_loadPart_at ge ?_ | (with_reducible refine wpAny_isSubtype_exc C2 ?_; rw [cC]) | wp_step)
  show wpAny _ _ (typeLookup (.ref C) _) _ _ _
  refine wpAny_typeLookup_tail C2 (hN.keeps up) (T.keeps up) F.mroIs F.init.lookup ?_
  rw [hi]
  refine wpAny_holding (wpAny_bind ?_)
  unfold bindSpecial
  refine wpAny_bind (wpAny_typeOf (T := "function") ⟨_, up _ _ hf, hfc⟩ ?_)
  rw [if_pos (by decide)]
  refine wpAny_pure (wpAny_bind (wpAny_mono (hq h2 (h.objs.size + 1) ⟨up, Heap.get?_none_of_le (Nat.le_succ _), h.objs.size, ge, Heap.get?_none_of_le (Nat.le_refl _), gt⟩) (fun r s' z => ?_) fun _ _ z => z))
  obtain ⟨rfl, z⟩ := z
  wp_walk
  exact z
theorem xs_call {Q : Value → Shared → Prop} (xa : XAt h C (some (.ref fI))) (hf : h.get? fI = some oI) (hfc : oI.cls = .type "function")
    (hq : ∀ h' e, Heap.MadeExcOf h h' e (.ref C) [u] → wpAny (model prog w) (A.under (.builtin "type.__call__" ⟨[.ref C, u], []⟩)) (call (.ref fI) [.ref e, u]) (fun r s' => r = .none ∧ Q (.ref e) s') E ⟨h', g, d, t, os⟩) :
    wpAny (model prog w) A (call (.ref C) [u]) Q E ⟨h, g, d, t, os⟩ := by
  obtain ⟨nm, qn, N, bs, bm, sn, sub, ab, col, dd, k0, k1, k2, k3, k5, mN, hC, _, _, _⟩ := xa.out
  have f1 := tc_lookup
  have f2 := tc_bind (.ref C)
  have ty : (⟨h, g, d, t, os⟩ : Shared).TypeIs (.ref C) "type" := ⟨_, hC, rfl⟩
  refine wpAny_call (codeAny_of_tree ?_)
  show wpAny _ _ (callAny (.ref C) _) _ _ _
  repeat (any_goals (first | assumption | with_reducible refine wpAny_loadPart_at hC ?_ | wp_step))
  refine ⟨rfl, ?_⟩
  exact codeAny_call_builtin_at (Code.quiet_builtin _ (by decide +kernel)) entry_typeCall (wpAny_check_type_call_sub hC (xs_tcall xa hf hfc fun h' e me => hq h' e me))
end
end L2

set_option maxRecDepth 100000
namespace L2
open PySem PySem.Spec PyProof.Rows PySem.W
/-- an own exception with __init__(self, par) that calls super's and stores par under fld -/
structure XIni (prog : Program) (K : Frag) (C LE fI : Addr) (fld : Str) : Prop where
  x1 : XK1 K C LE fld
  xc : xcIn K C (some (.ref fI)) = true
  kp : keepIn K (.ref C) = true
  su : nsIn K mainGlobals "super" = some none
  top : (prog.main.scope.names.lookup ("super" : Str)).isSome = false
  ex : ∃ (nm qual par msg file : Str) (ps : Arguments) (body : List Stmt) (sc : Scope) (kV doc pm ct ccl cl : Value) (an od cdd cld : Option Addr) (osl ccs csl : Array (Option Value)) (cvs : Array Value) (tf : Tok) (ar : Arg) (cda cc : Addr)
    (a1 a2 a3 a4 a5 a6 b1 b2 b3 b4 : Pos) (kd : Nat) (pl : Env → Sem Bool),
    K.lookup fI = some ⟨.type "function", od, .func (ksFn nm qual ps body sc .none kV doc pm an (.ref cda) ct cc), osl⟩ ∧ codeIn K (.ref cda) qual = true ∧ K.lookup cda = some ⟨ccl, cdd, .fields cvs, ccs⟩ ∧ cvs[2]? = some (.str file tf) ∧ ((prog.main.file : Str) == file) = true ∧
    K.lookup cc = some ⟨cl, cld, .cell (some (.ref C)), csl⟩ ∧ ISc sc par ∧ (ps.posonlyargs ++ ps.args).head? = some ar ∧ ar.arg = "self" ∧ (∀ e u : Value, bindArgs (ksFn nm qual ps body sc .none kV doc pm an (.ref cda) ct cc) ⟨[e, u], []⟩ = pure [(("self" : Str), e), (par, u)]) ∧
    body = [.Expr (.Call (.Attribute (.Call (.Name "super" a1) [] [] a2) "__init__" a3) [.Constant (.str msg) kd a4] [] a5) a6, .Assign [.Attribute (.Name "self" b1) fld b2] (.Name par b3) b4] ∧
    ∀ env, eval (.Call (.Attribute (.Call (.Name "super" a1) [] [] a2) "__init__" a3) [.Constant (.str msg) kd a4] [] a5) env = (do
      let ov ← attributeBase (.Call (.Name "super" a1) [] [] a2) "__init__" env (eval (.Call (.Name "super" a1) [] [] a2) env)
      standAt a3.atName
      let (f, first) ← holding [ov] (getMethod ov "__init__" (pl env))
      callWith a5 f first (backTo a5 (starEach [.Constant (.str msg) kd a4] env)) [])
def tRaise1 (C : Addr) (fld : Str) (XR : St → XK) (t : TA) : TS := fun _ σ H => t σ H fun vs H1 => ∃ v, vs = [v] ∧ ∀ dx, H1 dx = none → XR σ (.ref C) (some dx) (upd H1 dx (.xd [(fld, v)]))
section
variable {X : Cx} {C LE fI : Addr} {fld x : Str} {XR : St → XK} {np cpos pos : Pos} {e : Expr} {t : TA}
theorem qs_raise1 (hx : Px X XR) (hc : X.calm = true) (hr : Room 2 X.A) (hg : Gl X x) (hm : X.mg x = some (.ref C)) (Z : XIni X.prog X.K C LE fI fld) (ha : PAs X [e] t) (hst : notStar e = true) (hdb : (x == ("__debug__" : Str)) = false) :
    PSw X (.Raise (some (.Call (.Name x np) [e] [] cpos)) none pos) (tRaise1 C fld XR t) := by
  refine ⟨fun pins s σ H D I h => ?_⟩
  rw [arm_exec_Raise]
  simp only [evalOpt, Option.map]
  refine wpAny_bind (wpAny_standAt (raise_made (C := C) (init := some (.ref fI)) (I.ok.hd hc) ?_))
  refine wpAny_bind (wpAny_mono (Q := fun v s₁ => ∃ e oe vs, v = .ref e ∧ XAt s₁.heap C (some (.ref fI)) ∧ s₁.heap.get? e = some oe ∧ oe.cls = .ref C ∧ oe.data = .fields vs ∧ vs[1]? = some .none ∧ X.xe (.ref e) s₁) ?_ (fun v s₃ h₃ => wpAny_bind (wpAny_standAt (wpAny_pure h₃))) fun _ _ z => z)
  refine wpAny_Call_Name_kw (ld_glob I hg hm ?_ hdb)
  refine callWith_K (h₀ := X.base) I.ok.mod.kin Z.kp (thn (ha.run cpos pins s σ H _ I h) fun us s1 ⟨vs, H1, I1, r, v, hv, q⟩ => ⟨I1.kIn, ?_⟩) (star_ne hst) rfl
  subst hv
  obtain ⟨u, rfl, rv⟩ : ∃ u, us = [u] ∧ RelV v u := by
    cases r with
    | cons a b => cases b; exact ⟨_, rfl, a⟩
  obtain ⟨nm, qual, par, msg, file, ps, body, sc, kV, doc, pm, ct, ccl, cl, an, od, cdd, cld, osl, ccs, csl, cvs, tf, ar, cda, cc, a1, a2, a3, a4, a5, a6, b1, b2, b3, b4, kd, pl, z1, z2, z3, z4, z5, z6, z7, z8, z9, z10, z11, z12⟩ := Z.ex
  obtain ⟨hh, g, d, t1, os⟩ := s1
  have hk : ∀ b o, X.base.get? b = some o → hh.get? b = some o := I1.bk
  refine xs_call (xc_at I1.kIn Z.xc) (I1.kIn _ _ z1) rfl fun h1 e1 me => ?_
  obtain ⟨tp, q1, q2, q3⟩ := me.there
  have nb : X.base.get? e1 = none := by
    cases zz : X.base.get? e1 with
    | none => rfl
    | some o => have := hk _ _ zz; rw [me.new] at this; cases this
  have hsu : X.mg "super" = none := mg_none_of I1.ok.mod.kin I1.ok.mod.glob Z.su
  refine wpAny_call (codeAny_mono (R := fun r s' => r = .ok (.ret .none) ∧ ∃ e oe vs, Value.ref e1 = .ref e ∧ XAt s'.heap C (some (.ref fI)) ∧ s'.heap.get? e = some oe ∧ oe.cls = .ref C ∧ oe.data = .fields vs ∧ vs[1]? = some .none ∧ X.xe (.ref e) s') (xs_init (base := X.base) (par := par) (fld := fld) (LE := LE) (C := C) I1.ok.mod (fun b o z => me.keeps _ _ (hk _ _ z)) nb Z.x1 Z.xc (hr.make C [u] []).depth z1 z2 z3 z4 z5 z6 hsu Z.top (by decide +kernel) z7 z8 z9 (z10 _ _) z11 z12 q1 rfl rfl rfl rfl fun h2 t2 dx T y1 y2 y3 y4 => ⟨rfl, e1, _, _, rfl, ?_, y1, rfl, rfl, rfl, ?_⟩) ?_)
  · exact (xc_at I1.kIn Z.xc).keeps fun b o z => y4 _ _ (fun y => by rw [y] at z; rw [me.new] at z; cases z) (me.keeps _ _ z)
  · have kk : ∀ b o, hh.get? b = some o → h2.get? b = some o := fun b o z => y4 _ _ (fun y => by rw [y, me.new] at z; cases z) (me.keeps _ _ z)
    have d1 : h1.get? dx = none := Heap.get?_none_of_le y2
    have d0 : hh.get? dx = none := by
      cases zz : hh.get? dx with
      | none => rfl
      | some o => have := me.keeps _ _ zz; rw [d1] at this; cases this
    have Hd : H1 dx = none := I1.hok.none d0
    have He : H1 e1 = none := I1.hok.none me.new
    have ed : e1 ≠ dx := fun y => by rw [← y, q1] at d1; cases d1
    have ne : ∀ b o, H1 b = some o → b ≠ dx := fun b o z y => by rw [y, Hd] at z; cases z
    have hun : Un (frs X.stack) [] H1 (upd H1 dx (.xd [(fld, v)])) hh h2 := by
      refine ⟨fun b o z _ _ _ => kk b o z, fun b o z _ _ _ => ⟨o.slots, kk b o z⟩, fun b o z n _ => ?_, fun b o z _ => ⟨o, kk b o z⟩, fun b xs z => ?_, fun b o xs z => ?_, fun b ps z => ⟨#[], ?_⟩⟩
      · rw [upd_ne (fun y => by rw [y, d0] at z; cases z)]; exact n
      · rw [upd_ne (ne _ _ z)]; exact z
      · rw [upd_ne (ne _ _ z)]; exact z
      · rw [upd_ne (ne _ _ z), z]; simp
    have hho : HOk X.prog X.w (upd H1 dx (.xd [(fld, v)])) h2 := fun b o z => by
      by_cases hb : b = dx
      · subst hb
        rw [upd_same] at z
        cases z
        refine ⟨_, y3, fun f => ?_⟩
        show RelO (([(fld, v)] : List (Str × V)).lookup f) _
        rw [List.lookup_cons]
        by_cases hf : f = fld
        · subst hf; simp only [beq_self_eq_true, if_true]; exact rv
        · have : (f == fld) = false := by simpa using hf
          rw [this, if_neg hf]; exact trivial
      · rw [upd_ne hb] at z
        exact (I1.hok b o z).stay (fun c w' _ y => kk c w' y) (fun c y => by rw [upd_ne (ne _ _ y)]; exact y) fun c xs y => by rw [upd_ne (ne _ _ y)]; exact y
    exact hx pins σ H1 ⟨hh, g, d, t1, os⟩ (.ref e1) ⟨h2, g, d, t2, os⟩ I1 ⟨e1, .ref C, some dx, _, rfl, rfl, I1.bare, hun, hho, ⟨me.new, by rw [upd_ne ed]; exact He⟩, ⟨_, _, y1, rfl, rfl, rfl, by simp, .inl ⟨rfl, rfl⟩⟩, q dx Hd⟩
  · rintro _ s' ⟨rfl, z⟩
    exact ⟨rfl, z⟩
end
end L2

set_option maxRecDepth 100000
namespace L2
open PySem PySem.Spec PyProof.Rows PySem.W
section
variable {prog : Program} {w : World} {A : Around} {E : Value → Shared → Prop} {h : Heap} {g : Array GenState} {d : Drawn} {t : Nat} {os : OsState} {a C LE dx : Addr} {o : Obj} {vs : Array Value} {name : Str} {v : Value} {mA : Str → Option Value}
theorem ld_at {M : Model} {Q : Obj → Shared → Prop} (ho : h.get? a = some o) (hq : Q o ⟨h, g, d, t, os⟩) : wpAny M A (load a) Q E ⟨h, g, d, t, os⟩ := wpAny_load ho hq
theorem nsg_at {M : Model} {Q : Option Value → Shared → Prop} (hn : h.Ns1 dx mA) (hm : mA name = some v) (hq : Q (some v) ⟨h, g, d, t, os⟩) : wpAny M A (nsGet dx name) Q E ⟨h, g, d, t, os⟩ := wpAny_nsGet hn.ns (by rw [hm]; exact hq)
theorem xa_entry {init : Option Value} {tk : Tok} {Q : Fin → Shared → Prop} (xa : XAt h C init) (no : Looks (model prog w) h (typeLookup (.ref C) name) none) (hx : h.get? a = some o) (hc : o.cls = .ref C) (hd : o.data = .fields vs) (hdx : o.dict = some dx) (hn : h.Ns1 dx mA) (hm : mA name = some v)
    (hq : Q (.done (.ret v)) ⟨h, g, d, t, os⟩) : wpAny (model prog w) A (Builtin.«object.__getattribute__» ⟨[.ref a, .str name tk], []⟩) Q E ⟨h, g, d, t, os⟩ := by
  obtain ⟨oc, od, odt, osl⟩ := o
  dsimp only at hc hd hdx
  subst hc hd hdx
  obtain ⟨nm, qn, N, bs, bm, sn, sub, ab, col, dd, k0, k1, k2, k3, k5, mN, hC, _, _, _⟩ := xa.out
  repeat (any_goals (first | assumption | (with_reducible refine wpAny_loadPart_at hx ?_) | (with_reducible refine ld_at hC ?_) | (with_reducible refine nsg_at hn hm ?_) | (with_reducible refine Looks.at no ?_) | wp_step))
/-- what an own exception's class says of attributes -/
structure GetAt (M : Model) (h : Heap) (C : Addr) : Prop where
  ga : Looks M h (typeLookup (.ref C) "__getattribute__") (some (.builtin "BaseException.__getattribute__"))
  gn : Looks M h (typeLookup (.ref C) "__getattr__") none
  be : Looks M h (isSubtype (.ref C) (.type "BaseException")) true
  ob : Looks M h (isSubtype (.ref C) (.type "object")) true
  kc : Looks M h (typeLookup (.ref C) "__class__") (some (.builtin "object.__class__"))
theorem xa_chk {M : Model} {n : Value} {Q : Unit → Shared → Prop} (G : GetAt M h C) (hx : h.get? a = some o) (hc : o.cls = .ref C) (hq : Q () ⟨h, g, d, t, os⟩) : wpAny M A (checkBuiltinCall "BaseException.__getattribute__" ⟨[.ref a, n], []⟩) Q E ⟨h, g, d, t, os⟩ := by
  have kd : builtinKind "BaseException.__getattribute__" = some .slot := by decide +kernel
  have sp : splitId "BaseException.__getattribute__" = some ("BaseException", "__getattribute__") := by decide +kernel
  have be := G.be
  simp only [checkBuiltinCall, kd, sp]
  refine wpAny_bind ?_
  unfold isInstance
  repeat (first | (with_reducible refine wpAny_loadPart_at hx ?_; rw [hc]) | (with_reducible refine Looks.at be ?_) | wp_step)
  exact hq
theorem xa_by {tk : Tok} {fill expr : Bool} {Q : Value → Shared → Prop} (hv : handedOut v = pure v) (G : GetAt (model prog w) h C) (hx : h.get? a = some o) (hc : o.cls = .ref C)
    (hq : ∀ A', codeAny (model prog w) A' (.call (.builtin "BaseException.__getattribute__") ⟨[.ref a, .str name tk], []⟩) (fun r s' => r = .ok (.ret v) ∧ Q v s') ⟨h, g, d, t, os⟩) :
    wpAny (model prog w) A (getAttrBy (.ref a) (.str name tk) fill expr) Q E ⟨h, g, d, t, os⟩ := by
  have FB := PySem.F.attr_ValueError
  have f3 := FB.ga.bind (.ref a)
  have z0 : (expr && onTheHeap (Value.builtin "BaseException.__getattribute__")) = false := by cases expr <;> rfl
  have z2 : (Value.builtin "BaseException.__getattribute__" == Value.builtin "object.__getattribute__") = false := by decide +kernel
  have z1 : (onTheHeap (Value.ref C) && Value.builtin "BaseException.__getattribute__" == Value.builtin "object.__getattribute__") = false := by rw [z2]; rfl
  have ga := G.ga
  have gn := G.gn
  repeat (any_goals (first | assumption | (with_reducible refine wpAny_loadPart_at hx ?_; rw [hc]) | (with_reducible refine Looks.at ga ?_) | (with_reducible refine Looks.at gn ?_) | wp_step))
  refine codeAny_mono (hq _) fun r s' ⟨z, q⟩ => ?_
  subst z
  show wpAny _ _ (handedOut v) _ _ _
  rw [hv]
  exact wpAny_pure q
theorem xa_fld {init : Option Value} {expr : Bool} {Q : Value → Shared → Prop} (hv : handedOut v = pure v) (G : GetAt (model prog w) h C) (xa : XAt h C init) (no : Looks (model prog w) h (typeLookup (.ref C) name) none) (hx : h.get? a = some o) (hc : o.cls = .ref C) (hd : o.data = .fields vs) (hdx : o.dict = some dx) (hn : h.Ns1 dx mA) (hm : mA name = some v)
    (hq : Q v ⟨h, g, d, t + 1, os⟩) : wpAny (model prog w) A (getAttr (.ref a) name expr) Q E ⟨h, g, d, t, os⟩ := by
  unfold getAttr
  refine wpAny_bind (wpAny_mkText ?_)
  refine xa_by (v := v) hv G hx hc fun A' => ?_
  exact codeAny_call_builtin PySem.F.attr_ValueError.ga.plain PySem.F.entry_bexc_ga (xa_chk G hx hc (xa_entry xa no hx hc hd hdx hn hm ⟨rfl, hq⟩))
theorem xa_ce {tk : Tok} {Q : Fin → Shared → Prop} (G : GetAt (model prog w) h C) (hx : h.get? a = some o) (hc : o.cls = .ref C) (hd : o.data = .fields vs)
    (hq : Q (.done (.ret (.ref C))) ⟨h, g, d, t, os⟩) : wpAny (model prog w) A (Builtin.«object.__getattribute__» ⟨[.ref a, .str "__class__" tk], []⟩) Q E ⟨h, g, d, t, os⟩ := by
  have ty : (⟨h, g, d, t, os⟩ : Shared).TypeIs (.builtin "object.__class__") "getset_descriptor" := PySem.F.typeOf_object_class
  have f5 := PySem.F.typeOf_object_class
  have f6 := PySem.F.slot_gs_get.lookup
  have f7 := PySem.F.slot_gs_set.lookup
  have kc := G.kc
  repeat (any_goals (first | assumption | (with_reducible refine wpAny_loadPart_at hx ?_; rw [hc]) | (with_reducible refine Looks.at kc ?_) | wp_step))
  have ow : (".".intercalate ("object.__class__".cutAt '.').dropLast) = "object" := by kernel_rfl
  have ob := G.ob
  rw [← ow] at ob
  refine codeAny_call_builtin PySem.F.slot_gs_get.plain PySem.F.entry_gs_get (PySem.F.slot_gs_get.check _ _ _ _ _ _ _ _ ty (PySem.F.args_gs_get _ _ _) ?_)
  repeat (any_goals (first | assumption | (with_reducible refine wpAny_loadPart_at hx ?_; rw [hc]) | (with_reducible refine Looks.at ob ?_) | wp_step))
  refine ⟨Code.quiet_builtin _ (by decide +kernel), codeAny_builtin PySem.F.entry_object_class ?_⟩
  unfold Builtin.«object.__class__»
  repeat (any_goals (first | assumption | (with_reducible refine wpAny_loadPart_at hx ?_; rw [hc]) | wp_step))
theorem xa_cls {Q : Option Value → Shared → Prop} (G : GetAt (model prog w) h C) (hx : h.get? a = some o) (hc : o.cls = .ref C) (hd : o.data = .fields vs) (hq : Q (some (.ref C)) ⟨h, g, d, t + 1, os⟩) :
    wpAny (model prog w) A (getAttr? (.ref a) "__class__") Q E ⟨h, g, d, t, os⟩ := by
  unfold getAttr? getAttrBy?
  refine wpAny_bind (wpAny_mkText (wpAny_bind (wpAny_attempt ?_)))
  refine xa_by (v := .ref C) rfl G hx hc fun A' => ?_
  exact codeAny_call_builtin PySem.F.attr_ValueError.ga.plain PySem.F.entry_bexc_ga (xa_chk G hx hc (xa_ce G hx hc hd ⟨rfl, wpAny_pure hq⟩))
end
end L2

set_option maxRecDepth 100000
namespace L2
open PySem PySem.Spec PyProof.Rows PySem.W
/-- an own exception's class, as K knows it: what attributes are read by -/
structure XG (K : Frag) (C : Addr) : Prop where
  cl : ∃ cd, clsIn K C = some cd
  ga : findIn K (.ref C) "__getattribute__" = some (some (.builtin "BaseException.__getattribute__"))
  gn : findIn K (.ref C) "__getattr__" = some none
  kc : findIn K (.ref C) "__class__" = some (some (.builtin "object.__class__"))
  be : mroIn K C (.type "BaseException") = some true
  ob : mroIn K C (.type "object") = some true
theorem XG.at_ {K : Frag} {C : Addr} {M : Model} {h : Heap} (x : XG K C) (X : K.In h) : GetAt M h C := ⟨looks_findIn X x.ga, looks_findIn X x.gn, looks_mroIn X x.be, looks_mroIn X x.ob, looks_findIn X x.kc⟩
theorem kitx_exc {K : Frag} {a C : Addr} {dx : Option Addr} (x : XG K C) : KitX K (.ref a) (.ref C) (ExcIs a (.ref C) dx) where
  ty := fun M h X ⟨oe, vs, q, c, _⟩ => by rw [← c]; exact looks_cls q
  it := fun M h X _ => by
    obtain ⟨cd, e⟩ := x.cl
    unfold clsIn at e
    split at e
    · rename_i ho
      intro A' Q' E' s' k q
      unfold isType loadHead
      exact wpAny_bind (wpAny_loadPart (k _ _ (X _ _ ho)) (wpAny_pure q))
    · cases e
  ne := fun h tp dd its n sl X htp => by
    obtain ⟨cd, e⟩ := x.cl
    refine Bool.eq_false_iff.mpr fun q => ?_
    have z : C = tp := Value.ref.inj (beq_iff_eq.mp q)
    subst z
    unfold clsIn at e
    split at e
    · rename_i ho
      have z := (X _ _ ho).symm.trans htp
      cases z
    · cases e
  ca := fun {_ _ _ _ _ s} X ⟨oe, vs, q, c, _, f⟩ k => by
    obtain ⟨h, g, d, t, os⟩ := s
    exact xa_cls (x.at_ X) q c f k
/-- the type of a value, with own exceptions -/
inductive TyX (K : Frag) (H : Hp) : V → Value → Prop
  | std {x : V} {T : String} (h : TyS K H x T) : TyX K H x (.type T)
  | exc {a C : Addr} {dx : Option Addr} (h : H a = some (.ext (ExcIs a (.ref C) dx))) (g : XG K C) : TyX K H (.ref a) (.ref C)
def cV : V → Option Value
  | .ty n => some (.type n)
  | .ref C => some (.ref C)
  | _ => none
def rIsiX (K : Frag) : List V → Hp → VK → Prop := fun xs H Q => ∃ x c tv cv b, xs = [x, c] ∧ TyX K H x tv ∧ cV c = some cv ∧ kitOne K tv cv = some b ∧ Q (.bl b) H
section
variable {X : Cx}
theorem cn_isiX : CallR X (.builtin "isinstance") (rIsiX X.K) := by
  intro pins s σ H xs us Q I r h
  obtain ⟨x, c, tv, cv, b, rfl, ty, hc, e, q⟩ := h
  obtain ⟨u, w, rfl, ru, rw_⟩ := vals2 r
  obtain rfl : w = cv := by
    cases c with
    | ty n => cases hc; exact rw_
    | ref C => cases hc; exact rw_
    | _ => cases hc
  have fin : ∀ tk, EP X pins σ Q (.bool b) { s with toks := tk } := fun tk => ⟨.bl b, H, I.tok tk, rfl, q⟩
  cases ty with
  | std ty =>
    cases ty with
    | non => cases ru; exact kia_one kitx_none I.kIn True.intro e (fun z => nomatch z) fin
    | bl y => cases ru; exact kia_one kitx_bool I.kIn True.intro e (fun z => nomatch z) fin
    | int i => obtain ⟨t, rfl⟩ := ru; exact kia_one kitx_int I.kIn True.intro e (fun z => nomatch z) fin
    | str y => obtain ⟨t, rfl⟩ := ru; exact kia_one kitx_str I.kIn True.intro e (fun z => nomatch z) fin
    | lst hq =>
      cases ru
      obtain ⟨its, _, ⟨o, nn, e1, e2, _⟩, _⟩ := I.list hq
      exact kia_one kitx_list I.kIn ⟨o, e1, e2⟩ e (fun z => nomatch z) fin
    | tup hq =>
      cases ru
      obtain ⟨its, _, ⟨o, e1, e2, _⟩, _⟩ := I.tuple hq
      exact kia_one kitx_tuple I.kIn ⟨o, e1, e2⟩ e (fun z => nomatch z) fin
    | @dk a kvs hq =>
      cases ru
      obtain ⟨_, _, vs, _, o, es, ep, h1, h2, _⟩ := (show ObjOk X.prog X.w H s.heap a (.dK kvs) from I.hok a _ hq)
      exact kia_one kitx_dict I.kIn ⟨o, h1, h2.1⟩ e (fun z => nomatch z) fin
  | @exc a C dx hq g =>
    cases ru
    have z : ExcIs a (.ref C) dx s.heap := (I.hok a _ hq).1
    exact kia_one (kitx_exc g) I.kIn z e (fun z => nomatch z) fin
/-- e.f of a caught exception -/
def tXAt (K : Frag) (ta : TE) (f : Str) : TE := fun σ H Q => ta σ H fun x H1 => ∃ a C dx fs v init, x = .ref a ∧ H1 a = some (.ext (ExcIs a (.ref C) (some dx))) ∧ XG K C ∧ xcIn K C init = true ∧ findIn K (.ref C) f = some none ∧ H1 dx = some (.xd fs) ∧ fs.lookup f = some v ∧ Q v H1
variable {e : Expr} {ta : TE} {f : Str} {pos : Pos}
theorem handed_rel {v : V} {u : Value} (r : RelV v u) : handedOut u = pure u := by
  cases v with
  | non => cases r; rfl
  | bl b => cases r; rfl
  | int i => obtain ⟨t, rfl⟩ := r; rfl
  | str x => obtain ⟨t, rfl⟩ := r; rfl
  | byt b => obtain ⟨t, rfl⟩ := r; rfl
  | flt b => obtain ⟨t, rfl⟩ := r; rfl
  | ref a => cases r; rfl
  | ty n => cases r; rfl
theorem pe_xat (he : PE X e ta) (hb : attributeBase e f X.env (eval e X.env) = eval e X.env) : PE X (.Attribute e f pos) (tXAt X.K ta f) := by
  intro pins s σ H Q I h
  refine attr_of hb (thn (he pins s σ H _ I h) fun u s1 ⟨x, H1, I1, rx, a, C, dx, fs, v, init, ex, ea, g, xc, nf, ed, l, q⟩ => ?_)
  subst ex
  obtain rfl : u = Value.ref a := rx
  obtain ⟨oe, vs, q0, q1, q2, q3⟩ := (I1.hok a _ ea).1
  obtain ⟨mA, n1, rel⟩ : ∃ mA, s1.heap.Ns1 dx mA ∧ ∀ f, RelO (fs.lookup f) (mA f) := I1.hok dx _ ed
  have rf := rel f
  rw [l] at rf
  cases hm : mA f with
  | none => rw [hm] at rf; exact rf.elim
  | some uv =>
    rw [hm] at rf
    have rf' : RelV v uv := rf
    obtain ⟨hh, gg, d, t, os⟩ := s1
    exact xa_fld (handed_rel rf') (g.at_ I1.kIn) (xc_at I1.kIn xc) (looks_findIn I1.kIn nf) q0 q1 q3 q2 n1 hm ⟨v, H1, I1.tok _, rf', q⟩
end
end L2

set_option maxRecDepth 100000
namespace L2
open PySem PySem.Spec PyProof.Rows PySem.W
/-- the facts over K as truths -/
def xgIn (K : Frag) (C : Addr) : Bool := (clsIn K C).isSome && (findIn K (.ref C) "__getattribute__" == some (some (.builtin "BaseException.__getattribute__")) && (findIn K (.ref C) "__getattr__" == some none && (findIn K (.ref C) "__class__" == some (some (.builtin "object.__class__")) && (mroIn K C (.type "BaseException") == some true && mroIn K C (.type "object") == some true))))
theorem xg_of {K : Frag} {C : Addr} (h : xgIn K C = true) : XG K C := by
  unfold xgIn at h
  simp only [Bool.and_eq_true, beq_iff_eq] at h
  obtain ⟨a, b, c, d, e, f⟩ := h
  exact ⟨Option.isSome_iff_exists.mp a, b, c, d, e, f⟩
def xk1In (K : Frag) (C LE : Addr) (fld : Str) : Bool := (clsIn K C).map (·.mro) == some (.ref C :: .ref LE :: bmV) && (findIn K (.ref C) fld == some none && (findIn K (.ref C) "__setattr__" == some (some (.builtin "object.__setattr__")) && (alongIn K "__init__" (.ref LE :: bmV) == some (some (.builtin "ValueError.__init__")) && nsIn K cStatics "thirdparty.any" == some none)))
theorem xk1_of {K : Frag} {C LE : Addr} {fld : Str} (h : xk1In K C LE fld = true) : XK1 K C LE fld := by
  unfold xk1In at h
  simp only [Bool.and_eq_true, beq_iff_eq] at h
  obtain ⟨a, b, c, d, e⟩ := h
  exact ⟨a, b, c, d, e⟩
/-- the text of an own __init__ -/
structure IBody (st : Stmt) (fld par : Str) : Prop where
  sc : ISc (defScope st) par
  se : ∃ ar, ((defArgs st).posonlyargs ++ (defArgs st).args).head? = some ar ∧ ar.arg = "self"
  bd : ∀ (nm qual : Str) (kV doc pm : Value) (an : Option Addr) (cda : Value) (ct : Value) (cc : Addr) (e u : Value), bindArgs (ksFn nm qual (defArgs st) (defBody st) (defScope st) .none kV doc pm an cda ct cc) ⟨[e, u], []⟩ = pure [(("self" : Str), e), (par, u)]
  tx : ∃ (msg : Str) (a1 a2 a3 a4 a5 a6 b1 b2 b3 b4 : Pos) (kd : Nat) (pl : Env → Sem Bool), defBody st = [.Expr (.Call (.Attribute (.Call (.Name "super" a1) [] [] a2) "__init__" a3) [.Constant (.str msg) kd a4] [] a5) a6, .Assign [.Attribute (.Name "self" b1) fld b2] (.Name par b3) b4] ∧
    ∀ env, eval (.Call (.Attribute (.Call (.Name "super" a1) [] [] a2) "__init__" a3) [.Constant (.str msg) kd a4] [] a5) env = (do
      let ov ← attributeBase (.Call (.Name "super" a1) [] [] a2) "__init__" env (eval (.Call (.Name "super" a1) [] [] a2) env)
      standAt a3.atName
      let (f, first) ← holding [ov] (getMethod ov "__init__" (pl env))
      callWith a5 f first (backTo a5 (starEach [.Constant (.str msg) kd a4] env)) [])
theorem xini_mk {prog : Program} {K : Frag} {C LE fI cda cc : Addr} {fld par nm qual file : Str} {st : Stmt} {kV doc pm ct ccl cl : Value} {an od cdd cld : Option Addr} {osl ccs csl : Array (Option Value)} {cvs : Array Value} {tf : Tok}
    (T : IBody st fld par) (x1 : xk1In K C LE fld = true) (xc : xcIn K C (some (.ref fI)) = true) (kp : keepIn K (.ref C) = true) (su : nsIn K mainGlobals "super" = some none) (top : (prog.main.scope.names.lookup ("super" : Str)).isSome = false)
    (lk : K.lookup fI = some ⟨.type "function", od, .func (ksFn nm qual (defArgs st) (defBody st) (defScope st) .none kV doc pm an (.ref cda) ct cc), osl⟩) (cd : codeIn K (.ref cda) qual = true) (hcode : K.lookup cda = some ⟨ccl, cdd, .fields cvs, ccs⟩) (hvs : cvs[2]? = some (.str file tf)) (hfile : ((prog.main.file : Str) == file) = true)
    (hcell : K.lookup cc = some ⟨cl, cld, .cell (some (.ref C)), csl⟩) : XIni prog K C LE fI fld := by
  obtain ⟨ar, s1, s2⟩ := T.se
  obtain ⟨msg, a1, a2, a3, a4, a5, a6, b1, b2, b3, b4, kd, pl, t1, t2⟩ := T.tx
  exact ⟨xk1_of x1, xc, kp, su, top, nm, qual, par, msg, file, _, _, _, kV, doc, pm, ct, ccl, cl, an, od, cdd, cld, osl, ccs, csl, cvs, tf, ar, cda, cc, a1, a2, a3, a4, a5, a6, b1, b2, b3, b4, kd, pl, lk, cd, hcode, hvs, hfile, hcell, T.sc, s1, s2, T.bd nm qual kV doc pm an (.ref cda) ct cc, t1, t2⟩
/-! ### the words of the generator -/
theorem px0 {X : Cx} : Px X (fun _ => E0) := fun _ _ _ _ _ _ _ h => by
  obtain ⟨a, C, dx, H', _, _, _, _, _, _, _, q⟩ := h
  exact q.elim
section
variable {X : Cx} {b₀ : Stmt} {body suite : List Stmt} {c x : Str} {p hp pos : Pos} {B : Addr} {i : Nat} {tb : (St → XK) → TS} {ts : TS}
theorem qs_try (hN : X.N.Nodup) (hi : X.N[i]? = some x) (hx : X.env.scope.names.lookup x = some .local) (hg : Gl X c) (hm : X.mg c = some (.ref B)) (hst : X.stack = X.env :: X.outer) (hfr : X.env.frame = some X.env.locals) (hex : X.ex = [])
    (hb : ∀ (xe' : Value → Shared → Prop) (pn' : List (Addr × Obj)) (XR : St → XK), Px (X.tr xe' pn') XR → PSsw (X.tr xe' pn') body (tb XR)) (hs : ∀ e : Addr, PSsw (X.su e) (b₀ :: suite) ts) (hdb : (c == ("__debug__" : Str)) = false) :
    PSw X (.Try body [.ExceptHandler (some (.Name c p)) (some x) (b₀ :: suite) hp] [] [] pos) (tTry X.K B i tb ts) := ⟨ps_try hN hi hx hg hm hst hfr hex (fun xe' pn' XR h => (hb xe' pn' XR h).run) (fun e => (hs e).run) hdb⟩
end
/-! ### readings -/
section
variable {σ : St} {H : Hp} {D : Ends} {Q : VK}
theorem rd_callX {sp : Sp} {dvs : List V} {XR : St → XK} {t : TA} (h : t σ H fun vs H1 => sp (vs ++ dvs) H1 Q (XR σ)) : tCallX sp dvs XR t σ H Q := h
theorem rd_raise1 {C : Addr} {fld : Str} {XR : St → XK} {t : TA} (h : t σ H fun vs H1 => ∃ v, vs = [v] ∧ ∀ dx, H1 dx = none → XR σ (.ref C) (some dx) (upd H1 dx (.xd [(fld, v)]))) : tRaise1 C fld XR t D σ H := h
theorem rd_try {K : Frag} {B : Addr} {i : Nat} {tb : (St → XK) → TS} {ts : TS}
    (h : tb (fun σ' C dx H' => exmOne K C (.ref B) = some true ∧ ∀ a, H' a = none → ts (D.un i) (σ'.set i (some (.ref a))) (upd H' a (.ext (ExcIs a C dx)))) D σ H) : tTry K B i tb ts D σ H := h
theorem rd_unx {i : Nat} (h : D.nx (σ.set i none) H) : (D.un i).nx σ H := h
theorem rd_xat {K : Frag} {ta : TE} {f : Str} (h : ta σ H fun x H1 => ∃ a C dx fs v init, x = .ref a ∧ H1 a = some (.ext (ExcIs a (.ref C) (some dx))) ∧ XG K C ∧ xcIn K C init = true ∧ findIn K (.ref C) f = some none ∧ H1 dx = some (.xd fs) ∧ fs.lookup f = some v ∧ Q v H1) : tXAt K ta f σ H Q := h
theorem rd_isiX {K : Frag} {x c : V} {tv cv : Value} {b : Bool} (ty : TyX K H x tv) (hc : cV c = some cv) (e : kitOne K tv cv = some b) (h : Q (.bl b) H) : rIsiX K [x, c] H Q := ⟨x, c, tv, cv, b, rfl, ty, hc, e, h⟩
end
end L2

set_option maxRecDepth 100000
namespace L2
open PySem PySem.Spec PyProof.Rows PySem.W
/-- the names of an own __init__(self) -/
structure ISc0 (sc : Scope) : Prop where
  su : sc.names.lookup ("super" : Str) = some .globalImplicit
  cl : sc.names.lookup ("__class__" : Str) = some .free
  se : sc.names.lookup ("self" : Str) = some .local
  nc : ∀ x ∈ sc.names, x.2 ≠ .cell
  co : sc.isCoroutine = false
  ge : sc.isGenerator = false
  ki : sc.kind = .function
section
variable {prog : Program} {w : World} {A : Around} {R : Result → Shared → Prop} {h : Heap} {g : Array GenState} {d : Drawn} {t : Nat} {os : OsState}
variable {K : Frag} {mg : Str → Option Value} {base : Heap} {f C LE e cda cc : Addr} {fld nm qual msg file : Str} {ps : Arguments} {body : List Stmt} {sc : Scope} {kV doc pm ct oc ccl cl : Value} {an od cdd cld : Option Addr} {osl ccs csl : Array (Option Value)} {cvs vs : Array Value} {tf : Tok} {init : Option Value} {oe : Obj} {t0 : Addr} {ar : Arg}
  {a1 a2 a3 a4 a5 a6 : Pos} {kd : Nat} {pl : Env → Sem Bool}
end
section
variable {prog : Program} {w : World} {A : Around} {E : Value → Shared → Prop} {h : Heap} {g : Array GenState} {d : Drawn} {t : Nat} {os : OsState} {C fI : Addr} {oI : Obj}
end
/-- an own exception with __init__(self) that only calls super's -/
structure XIni0 (prog : Program) (K : Frag) (C LE fI : Addr) (fld : Str) : Prop where
  x1 : XK1 K C LE fld
  xc : xcIn K C (some (.ref fI)) = true
  kp : keepIn K (.ref C) = true
  su : nsIn K mainGlobals "super" = some none
  top : (prog.main.scope.names.lookup ("super" : Str)).isSome = false
  ex : ∃ (nm qual msg file : Str) (ps : Arguments) (body : List Stmt) (sc : Scope) (kV doc pm ct ccl cl : Value) (an od cdd cld : Option Addr) (osl ccs csl : Array (Option Value)) (cvs : Array Value) (tf : Tok) (ar : Arg) (cda cc : Addr)
    (a1 a2 a3 a4 a5 a6 : Pos) (kd : Nat) (pl : Env → Sem Bool),
    K.lookup fI = some ⟨.type "function", od, .func (ksFn nm qual ps body sc .none kV doc pm an (.ref cda) ct cc), osl⟩ ∧ codeIn K (.ref cda) qual = true ∧ K.lookup cda = some ⟨ccl, cdd, .fields cvs, ccs⟩ ∧ cvs[2]? = some (.str file tf) ∧ ((prog.main.file : Str) == file) = true ∧
    K.lookup cc = some ⟨cl, cld, .cell (some (.ref C)), csl⟩ ∧ ISc0 sc ∧ (ps.posonlyargs ++ ps.args).head? = some ar ∧ ar.arg = "self" ∧ (∀ e : Value, bindArgs (ksFn nm qual ps body sc .none kV doc pm an (.ref cda) ct cc) ⟨[e], []⟩ = pure [(("self" : Str), e)]) ∧
    body = [.Expr (.Call (.Attribute (.Call (.Name "super" a1) [] [] a2) "__init__" a3) [.Constant (.str msg) kd a4] [] a5) a6] ∧
    ∀ env, eval (.Call (.Attribute (.Call (.Name "super" a1) [] [] a2) "__init__" a3) [.Constant (.str msg) kd a4] [] a5) env = (do
      let ov ← attributeBase (.Call (.Name "super" a1) [] [] a2) "__init__" env (eval (.Call (.Name "super" a1) [] [] a2) env)
      standAt a3.atName
      let (f, first) ← holding [ov] (getMethod ov "__init__" (pl env))
      callWith a5 f first (backTo a5 (starEach [.Constant (.str msg) kd a4] env)) [])
section
variable {X : Cx} {C LE fI : Addr} {fld x : Str} {XR : St → XK} {np cpos pos : Pos}
end
/-- the text of an own __init__(self) -/
structure IBody0 (st : Stmt) : Prop where
  sc : ISc0 (defScope st)
  se : ∃ ar, ((defArgs st).posonlyargs ++ (defArgs st).args).head? = some ar ∧ ar.arg = "self"
  bd : ∀ (nm qual : Str) (kV doc pm : Value) (an : Option Addr) (cda : Value) (ct : Value) (cc : Addr) (e : Value), bindArgs (ksFn nm qual (defArgs st) (defBody st) (defScope st) .none kV doc pm an cda ct cc) ⟨[e], []⟩ = pure [(("self" : Str), e)]
  tx : ∃ (msg : Str) (a1 a2 a3 a4 a5 a6 : Pos) (kd : Nat) (pl : Env → Sem Bool), defBody st = [.Expr (.Call (.Attribute (.Call (.Name "super" a1) [] [] a2) "__init__" a3) [.Constant (.str msg) kd a4] [] a5) a6] ∧
    ∀ env, eval (.Call (.Attribute (.Call (.Name "super" a1) [] [] a2) "__init__" a3) [.Constant (.str msg) kd a4] [] a5) env = (do
      let ov ← attributeBase (.Call (.Name "super" a1) [] [] a2) "__init__" env (eval (.Call (.Name "super" a1) [] [] a2) env)
      standAt a3.atName
      let (f, first) ← holding [ov] (getMethod ov "__init__" (pl env))
      callWith a5 f first (backTo a5 (starEach [.Constant (.str msg) kd a4] env)) [])
end L2

set_option maxRecDepth 100000
namespace Zt
open PySem PySem.Spec
section
variable {prog : Program} {w : World} {A : Around} {E : Value → Shared → Prop} {s : Shared}
end
end Zt
namespace L2
open PySem PySem.Spec PyProof.Rows
/-- enumerate of the tuple at a: each turn lays a new pair -/
def Ite (K : PySem.W.Frag) (a : Addr) : It :=
  ⟨fun i H => ∃ xs x, SqT K H a xs ∧ xs[i]? = some x,
   fun i H v H' => ∃ p x, H p = none ∧ (∀ xs, SqT K H a xs → xs[i]? = some x) ∧ v = .ref p ∧ H' = upd H p (.tup [.int i, x]),
   fun i H => ∃ xs, SqT K H a xs ∧ xs.length ≤ i⟩
/-- for i, x in enumerate(t), a tuple -/
def iEnum (K : PySem.W.Frag) (ta : TA) : TI := fun σ H R => ta σ H fun vs H1 => ∃ a, vs = [.ref a] ∧ (∃ xs, SqT K H1 a xs) ∧ R (Ite K a) H1
end L2

namespace Mt
open PySem L2
end Mt
namespace Mt
open PySem L2
end Mt

set_option maxRecDepth 100000
namespace Zt
open PySem PySem.Spec
theorem srcL (i t : Addr) (hne : t ≠ i) (its : Array Value) : Src i [i, t] (fun k h => h.IsListIter i t k ∧ h.IsList t its) (fun k => its[k]?) where
  mem := List.mem_cons_self
  stay := by
    rintro k h h' ⟨⟨o, e, r⟩, ⟨o2, e2, r2⟩⟩ hk
    exact ⟨⟨o, hk i (by simp) o e, r⟩, ⟨o2, hk t (by simp) o2 e2, r2⟩⟩
  obj := by
    rintro k h ⟨⟨o, e, c, d⟩, _⟩
    exact ⟨o, e, fun v z => by rw [d] at z; cases z⟩
  item := by
    rintro prog w A E s Q k x ⟨hit, ht⟩ hx hQ
    exact wpAny_nextOf_list_item hit ht hx fun h' z sb => hQ h' ⟨z, ht.extBut sb.extBut hne⟩ sb
  fin := by
    rintro prog w A E s Q k hh ⟨hit, ht⟩ hx hE
    exact wpAny_nextOf_list_end hh hit ht hx hE
theorem plainL_is {h : Heap} {a : Addr} {its : Array Value} (x : PySem.PlainL h a its) : h.IsList a its := by
  obtain ⟨o, n, e, c, _, d⟩ := x
  exact ⟨o, e, c, n, d⟩
abbrev gl1 (h : Heap) (l1 : Addr) : Heap := h.push { cls := .type "list_iterator", data := .fields #[.ref l1, .int 0 0] }
abbrev gl2 (h : Heap) (l1 l2 : Addr) : Heap := (gl1 h l1).push { cls := .type "list_iterator", data := .fields #[.ref l2, .int 0 0] }
abbrev gl3 (h : Heap) (l1 l2 : Addr) : Heap := (gl2 h l1 l2).push { cls := .type "tuple", data := .seq #[.ref h.objs.size, .ref (gl1 h l1).objs.size] }
abbrev gl4 (h : Heap) (l1 l2 : Addr) : Heap := (gl3 h l1 l2).push { cls := .type "tuple", data := .seq #[.none, .none] }
abbrev gl5 (h : Heap) (l1 l2 : Addr) : Heap := (gl4 h l1 l2).push { cls := .type "zip", data := .fields #[.none, .bool false, .bool false, .ref (gl2 h l1 l2).objs.size, .ref (gl3 h l1 l2).objs.size] }

theorem meets_newL (l1 l2 : Addr) (xs ys : Array Value) :
    Meets (Builtin.«zip.__new__» ⟨[.type "zip", .ref l1, .ref l2], []⟩) (fun _ R s => s.heap.IsList l1 xs ∧ s.heap.IsList l2 ys ∧
      R (.ok (.ret (.ref (gl4 s.heap l1 l2).objs.size))) { s with heap := gl5 s.heap l1 l2 }) :=
  .of_wp fun prog w A R s h => by
    obtain ⟨hp, g, d, tk, os⟩ := s; obtain ⟨hl1, hl2, h⟩ := h
    have hsub := sub_zip
    have hL1 : Heap.IsList (Shared.heap ⟨hp, g, d, tk, os⟩) l1 xs := hl1
    have hL2 : Heap.IsList (Shared.heap ⟨hp.push { cls := .type "list_iterator", data := .fields #[.ref l1, .int 0 0] }, g, d, tk, os⟩) l2 ys := Heap.IsList.push hl2 _
    wp_walk using wpAny_pyIter_list hL1, wpAny_pyIter_list hL2
    exact ⟨_, rfl, h⟩

theorem call_zipL {prog : Program} {w : World} {A : Around} {E : Value → Shared → Prop} {s : Shared} {l1 l2 : Addr} {xs ys : Array Value} {Q : Value → Shared → Prop} (hl1 : s.heap.IsList l1 xs) (hl2 : s.heap.IsList l2 ys)
    (h : ∀ h', IsZip h' (s.heap.objs.size + 4) (s.heap.objs.size + 2) (s.heap.objs.size + 3) .none → IsPair h' (s.heap.objs.size + 2) (.ref s.heap.objs.size) (.ref (s.heap.objs.size + 1)) →
      IsPair h' (s.heap.objs.size + 3) .none .none → h'.IsListIter s.heap.objs.size l1 0 → h'.IsListIter (s.heap.objs.size + 1) l2 0 →
      (∀ c o, s.heap.get? c = some o → h'.get? c = some o) → Q (.ref (s.heap.objs.size + 4)) { s with heap := h' }) :
    wpAny (model prog w) A (call (.type "zip") [.ref l1, .ref l2]) Q E s := by
  refine callType_new F.called_zip (by decide) (F.typeCall_zip_2 _ _) (F.newCall_zip_2 _ _) (fun obj => F.args_object_init_3 obj _ _) F.entry_zip_new (meets_newL l1 l2 xs ys) ⟨hl1, hl2, ?_⟩
  have z1 : (gl1 s.heap l1).objs.size = s.heap.objs.size + 1 := Heap.size_push ..
  have z2 : (gl2 s.heap l1 l2).objs.size = s.heap.objs.size + 2 := by rw [Heap.size_push, z1]
  have z3 : (gl3 s.heap l1 l2).objs.size = s.heap.objs.size + 3 := by rw [Heap.size_push, z2]
  have z4 : (gl4 s.heap l1 l2).objs.size = s.heap.objs.size + 4 := by rw [Heap.size_push, z3]
  have q5 : (gl5 s.heap l1 l2).get? (gl4 s.heap l1 l2).objs.size = some _ := Heap.get?_push_size _ rfl
  have q4 : (gl5 s.heap l1 l2).get? (gl3 s.heap l1 l2).objs.size = some _ := Heap.get?_push_of_some _ (Heap.get?_push_size _ rfl)
  have q3 : (gl5 s.heap l1 l2).get? (gl2 s.heap l1 l2).objs.size = some _ := Heap.get?_push_of_some _ (Heap.get?_push_of_some _ (Heap.get?_push_size _ rfl))
  have q2 : (gl5 s.heap l1 l2).get? (gl1 s.heap l1).objs.size = some _ := Heap.get?_push_of_some _ (Heap.get?_push_of_some _ (Heap.get?_push_of_some _ (Heap.get?_push_size _ rfl)))
  have q1 : (gl5 s.heap l1 l2).get? s.heap.objs.size = some _ := Heap.get?_push_of_some _ (Heap.get?_push_of_some _ (Heap.get?_push_of_some _ (Heap.get?_push_of_some _ (Heap.get?_push_size _ rfl))))
  show _ ∧ _
  rw [z2, z3, z4] at q5; rw [z1, z2] at q3; rw [z3] at q4; rw [z1] at q2; rw [z4]
  exact ⟨⟨_, q5, rfl⟩, h _ q5 q3 q4 ⟨_, q1, rfl, rfl⟩ ⟨_, q2, rfl, rfl⟩ fun c o x =>
    Heap.get?_push_of_some _ (Heap.get?_push_of_some _ (Heap.get?_push_of_some _ (Heap.get?_push_of_some _ (Heap.get?_push_of_some _ x))))⟩
end Zt


namespace L2
open PySem PySem.Spec PyProof.Rows
/-- zip of the tuples at a and b: each turn lays a new pair -/
def ItzL (K : PySem.W.Frag) (a b : Addr) : It :=
  ⟨fun i H => ∃ xs ys x y, SqL K H a xs ∧ SqL K H b ys ∧ xs[i]? = some x ∧ ys[i]? = some y,
   fun i H v H' => ∃ p x y, H p = none ∧ (∀ xs, SqL K H a xs → xs[i]? = some x) ∧ (∀ ys, SqL K H b ys → ys[i]? = some y) ∧ v = .ref p ∧ H' = upd H p (.tup [x, y]),
   fun i H => ∃ xs ys, SqL K H a xs ∧ SqL K H b ys ∧ (xs.length ≤ i ∨ ys.length ≤ i)⟩
theorem turn_zipL {P : Program} {w : World} {K : PySem.W.Frag} {es : List Expr} {k : Nat} {ps : Pos} {z TI TO i1 i2 a b : Addr}
    (na : a ≠ i1) (nb : b ≠ i2) (D : Zt.Apart z TI TO i1 i2 [i1, a] [i2, b]) :
    Turn P w K (.Tuple es k ps) (ItzL K a b) [z, TI, TO, i1, i2] z (fun n h => IsZip h z TI TO .none ∧ IsPair h TI (.ref i1) (.ref i2) ∧ (∃ u v, IsPair h TO u v) ∧ h.IsListIter i1 a n ∧ h.IsListIter i2 b n) where
  mem := by simp
  obj := by
    rintro n h ⟨hz, hTI, ⟨u, v, hTO⟩, ⟨o1, e1, c1, d1⟩, ⟨o2, e2, c2, d2⟩⟩ c hc
    simp only [List.mem_cons, List.not_mem_nil, or_false] at hc
    rcases hc with rfl | rfl | rfl | rfl | rfl
    · exact ⟨_, hz, fun v q => nomatch q⟩
    · exact ⟨_, hTI, fun v q => nomatch q⟩
    · exact ⟨_, hTO, fun v q => nomatch q⟩
    · exact ⟨o1, e1, fun v q => by rw [d1] at q; cases q⟩
    · exact ⟨o2, e2, fun v q => by rw [d2] at q; cases q⟩
  keep := by
    rintro n h h' ⟨hz, hTI, ⟨u, v, hTO⟩, ⟨o1, e1, r1⟩, ⟨o2, e2, r2⟩⟩ kp
    exact ⟨kp z (by simp) _ hz, kp TI (by simp) _ hTI, ⟨u, v, kp TO (by simp) _ hTO⟩, ⟨o1, kp i1 (by simp) _ e1, r1⟩, ⟨o2, kp i2 (by simp) _ e2, r2⟩⟩
  item := by
    intro X hP hw hK hc i pins s σ H E I hf st hg
    subst hP hw hK
    obtain ⟨hz, hTI, ⟨u, v, hTO⟩, hi1, hi2⟩ := st
    obtain ⟨xs, ys, x, y, qx, qy, hx, hy⟩ := hg
    obtain ⟨us, rx, px, zx⟩ := I.list qx
    obtain ⟨ws, ry, py, zy⟩ := I.list qy
    obtain ⟨ux, hux, rux⟩ := rx.get hx
    obtain ⟨uy, huy, ruy⟩ := ry.get hy
    refine Zt.py_item (Zt.srcL i1 a na us.toArray) (Zt.srcL i2 b nb ws.toArray) D hz hTI hTO ⟨hi1, Zt.plainL_is px⟩ ⟨hi2, Zt.plainL_is py⟩ (x := ux) (y := uy) (by simpa using hux) (by simpa using huy) fun h' z1 t1 s1 s2 t2 kp => ⟨_, rfl, ?_⟩
    refine wpAny_letOwnedTupleGo_zip (s := { s with heap := h' }) z1 fun h'' z2 sb => ?_
    have kp2 : ∀ c o, c ∉ [z, TI, TO, i1, i2] → s.heap.get? c = some o → h''.get? c = some o := fun c o hc e => by
      simp only [List.mem_cons, List.not_mem_nil, or_false, not_or] at hc
      exact sb.extBut _ _ hc.1 (kp c o hc.1 hc.2.2.1 hc.2.2.2.1 hc.2.2.2.2 e)
    have nz : s.heap.objs.size ≠ z := Nat.ne_of_gt (Heap.lt_size hz)
    have J : Inv X pins σ H { s with heap := h'' } := I.spun (t' := s.toks) hf kp2
    have t3 : IsPair h'' s.heap.objs.size ux uy := sb.extBut _ _ nz t2
    refine ⟨.ref s.heap.objs.size, upd H s.heap.objs.size (.tup [x, y]), I.track J (Nat.le_refl _) ⟨by show 2 ≤ sizeLine; decide, [ux, uy], .cons rux (.cons ruy .nil), ⟨_, t3, rfl, _, rfl⟩⟩, rfl, ⟨_, x, y, I.hok.fresh (Nat.le_refl _), fun zs h => ?_, fun zs h => ?_, rfl, rfl⟩, ?_, fun c hc => ?_⟩
    · rw [I.list_inj h qx]; exact hx
    · rw [I.list_inj h qy]; exact hy
    · exact ⟨z2, sb.extBut _ _ D.TIz (kp TI _ D.TIz D.TITO D.TIi1 D.TIi2 hTI), ⟨ux, uy, sb.extBut _ _ D.TOz t1⟩, s1.1.extBut sb.extBut D.i1z, s2.1.extBut sb.extBut D.i2z⟩
    · have e : c ≠ s.heap.objs.size := by
        simp only [List.mem_cons, List.not_mem_nil, or_false] at hc
        obtain ⟨o1, e1, _⟩ := hi1; obtain ⟨o2, e2, _⟩ := hi2
        rcases hc with rfl | rfl | rfl | rfl | rfl
        · exact Nat.ne_of_lt (Heap.lt_size hz)
        · exact Nat.ne_of_lt (Heap.lt_size hTI)
        · exact Nat.ne_of_lt (Heap.lt_size hTO)
        · exact Nat.ne_of_lt (Heap.lt_size e1)
        · exact Nat.ne_of_lt (Heap.lt_size e2)
      rw [upd_ne e]; exact (hf c hc).1
  done := by
    intro X hP hw hK hc i pins s σ H E I hf st hg
    subst hP hw hK
    obtain ⟨hz, hTI, ⟨u, v, hTO⟩, hi1, hi2⟩ := st
    obtain ⟨xs, ys, qx, qy, hend⟩ := hg
    obtain ⟨us, rx, px, zx⟩ := I.list qx
    obtain ⟨ws, ry, py, zy⟩ := I.list qy
    have lx := rx.length
    have ly := ry.length
    refine Zt.py_end (I.ok.hd hc) (Zt.srcL i1 a na us.toArray) (Zt.srcL i2 b nb ws.toArray) D hz hTI hTO ⟨hi1, Zt.plainL_is px⟩ ⟨hi2, Zt.plainL_is py⟩ (k1 := i) (k2 := i) (hend.imp (fun h => by simp; omega) (fun h => by simp; omega)) fun h' kp => ⟨rfl, ?_⟩
    refine I.spun (t' := s.toks) hf fun c o hc e => ?_
    simp only [List.mem_cons, List.not_mem_nil, or_false, not_or] at hc
    exact kp c o hc.1 hc.2.2.1 hc.2.2.2.1 hc.2.2.2.2 e
  self := by
    rintro A n s Q E ⟨hz, _⟩ h
    exact wpAny_pyIter_zip hz h
/-- for a, b in zip(t, u), two tuples -/
def iZipL (K : PySem.W.Frag) (ta : TA) : TI := fun σ H R => ta σ H fun vs H1 => ∃ a b, vs = [.ref a, .ref b] ∧ (∃ xs, SqL K H1 a xs) ∧ (∃ ys, SqL K H1 b ys) ∧ R (ItzL K a b) H1
end L2

set_option maxRecDepth 100000
namespace L2
open PySem PySem.Spec PyProof.Rows PySem.W
/-- a call by a name of the def's own that holds a def -/
def tCallV (i : Nat) (f : Addr) (sp : Sp) (dvs : List V) (XR : St → XK) (t : TA) : TE := fun σ H Q => σ[i]? = some (some (.ref f)) ∧ t σ H fun vs H1 => sp (vs ++ dvs) H1 Q (XR σ)
/-- (*e, ..) -/
def tStar (K : Frag) (te : TE) (t : TA) : TA := fun σ H Q => te σ H fun v H1 => ∃ a xs, v = .ref a ∧ SqT K H1 a xs ∧ t σ H1 fun vs H2 => Q (xs ++ vs) H2
section
variable {X : Cx} {e : Expr} {es : List Expr} {te : TE} {t : TA} {pos p : Pos} {k i : Nat} {f : Addr} {fd : FuncData} {ps : List Str} {sp : Sp} {dvs : List V} {ds : List Value} {XR : St → XK} {x : Str}
variable {tg a b : Expr} {ta : TA}
end
section
variable {σ : St} {H : Hp} {Q : VK}
end
/-- a comprehension with a test, by an invariant over the list so far -/
theorem comp_byF {J : It} {H1 : Hp} {acc : Addr} {σ0 : St} {g : TG} {tt : TT} {te : TE} {Q : VK} (n : Nat) (hn : n < sizeLine) (Pv : Nat → List V → St → Hp → Prop) (h0 : Pv 0 [] σ0 (upd H1 acc (.lst [])))
    (hgo : ∀ i vs σc H, i < n → vs.length ≤ i → H acc = some (.lst vs) → Pv i vs σc H → J.go i H ∧ ∀ x H', J.yld i H x H' → ∀ (R : St → V → Hp → Prop) (S : St → Hp → Prop),
      (∀ σ2 v H4, H4 acc = some (.lst vs) → Pv (i + 1) (vs ++ [v]) σ2 (upd H4 acc (.lst (vs ++ [v]))) → R σ2 v H4) → (∀ σ2 H4, H4 acc = some (.lst vs) → Pv (i + 1) vs σ2 H4 → S σ2 H4) →
      g x σc H' fun σ2 H2 => tt σ2 H2 fun b H3 => if b = true then te σ2 H3 (R σ2) else S σ2 H3)
    (hst : ∀ vs σc H, vs.length ≤ n → H acc = some (.lst vs) → Pv n vs σc H → J.stop n H ∧ Q (.ref acc) H) : CompW σ0 J H1 acc g tt te Q := by
  refine ⟨fun i m σc H => m = n - i ∧ i ≤ n ∧ ∃ vs, vs.length ≤ i ∧ H acc = some (.lst vs) ∧ Pv i vs σc H, ⟨n, by simp, Nat.zero_le _, [], Nat.le_refl _, upd_same, h0⟩, ?_⟩
  rintro i m σc H ⟨rfl, hi, vs, hl, ha, hp⟩
  by_cases hlt : i < n
  · obtain ⟨g1, g2⟩ := hgo i vs σc H hlt hl ha hp
    refine .inr ⟨g1, fun σ' H' => i + 1 ≤ n ∧ ∃ vs, vs.length ≤ i + 1 ∧ H' acc = some (.lst vs) ∧ Pv (i + 1) vs σ' H', fun σ' H' q => ⟨n - (i + 1), by omega, rfl, q⟩, fun x H' y => ?_⟩
    exact g2 x H' y (fun σ2 v H4 => ∃ xs, H4 acc = some (.lst xs) ∧ xs.length < sizeLine ∧ (i + 1 ≤ n ∧ ∃ vs, vs.length ≤ i + 1 ∧ (upd H4 acc (.lst (xs ++ [v]))) acc = some (.lst vs) ∧ Pv (i + 1) vs σ2 (upd H4 acc (.lst (xs ++ [v])))))
      (fun σ2 H4 => i + 1 ≤ n ∧ ∃ vs, vs.length ≤ i + 1 ∧ H4 acc = some (.lst vs) ∧ Pv (i + 1) vs σ2 H4)
      (fun σ2 v H4 q1 q2 => ⟨vs, q1, by omega, hlt, vs ++ [v], by simp; omega, upd_same, q2⟩) fun σ2 H4 q1 q2 => ⟨hlt, vs, by omega, q1, q2⟩
  · have e : i = n := by omega
    subst e
    exact .inl (hst vs σc H hl ha hp)
end L2

set_option maxRecDepth 100000
namespace L2
open PySem PySem.Spec PyProof.Rows
/-! ### a list unpacked -/
def gLst (K : PySem.W.Frag) (n : Nat) (t : TGs) : TG := fun v σ H Q => ∃ a xs, v = .ref a ∧ SqL K H a xs ∧ xs.length = n ∧ t xs σ H Q
theorem pg_lst {X : Cx} {es : List Expr} {k : Nat} {pos : Pos} {t : TGs} {n : Nat} (hc : X.calm = true) (h : PGs X es t)
    (hn : (assignEach es X.env).length = n) (hst : (assignEach es X.env).findIdx? (·.1) = none) : PG X (.Tuple es k pos) (gLst X.K n t) := by
  intro pins s σ H v u Q I r hw
  obtain ⟨a, xs, rfl, hq, hl, hw⟩ := hw
  cases r
  obtain ⟨its, rv, pl, hz⟩ := I.list hq
  rw [assign_Tuple]
  refine wpAny_bind (wpAny_standAt ?_)
  unfold unpack
  rw [hst]
  have e : (assignEach es X.env).length = its.toArray.size := by simp [hn, ← hl, rv.length]
  rw [e]
  refine wpAny_bind (wpAny_holding (PySem.W.kun_itemsOf (I.ok.hd hc) pl.isList fun h' hx => ?_))
  have I1 : Inv X pins σ H { s with heap := h' } := I.kept (t' := s.toks) fun b o e => hx b o (Nat.ne_of_lt (Heap.lt_size e)) e
  exact h pins _ σ H xs _ Q I1 (by simpa using rv) hw
theorem rd_glst {K : PySem.W.Frag} {n : Nat} {t : TGs} {σ : St} {H : Hp} {a : Addr} {xs : List V} {Q : St → Hp → Prop} (hq : SqL K H a xs) (hl : xs.length = n) (h : t xs σ H Q) : gLst K n t (.ref a) σ H Q := ⟨a, xs, rfl, hq, hl, h⟩
/-! ### range as a value, list of it -/
def tRange (ta : TA) : TE := fun σ H Q => ta σ H fun vs H1 => ∃ j : Int, vs = [.int j] ∧ -(2 ^ 62) ≤ j ∧ j < 2 ^ 62 ∧ ∀ p, H1 p = none → Q (.ref p) (upd H1 p (.rng 0 j))
section
variable {X : Cx} {a e o : Expr} {es : List Expr} {ta t tk : TA} {p pos apos cpos : Pos}
theorem qe_range (hg : Gl X "range") (hm : X.mg "range" = none) (ha : PAs X [a] ta) (h1 : notStar a = true) : PE X (.Call (.Name "range" p) [a] [] pos) (tRange ta) := by
  intro pins s σ H Q I h
  refine Call_ (ld_blt I hg hm boot_range (PyProof.Rows.callWith_type1 (thn (ha.run pos pins s σ H _ I h) fun us s1 ⟨vs, H1, I1, r1, q1⟩ => ?_) (star_ne h1) rfl))
  obtain ⟨j, rfl, q1, q2, q⟩ := q1
  obtain ⟨u, rfl, ⟨t, rfl⟩⟩ := vals1 r1
  refine call_range_1 ⟨.ref s1.heap.objs.size, _, I1.laid (o := .rng 0 j) (fun _ _ q => Heap.get?_push_of_some _ q) (Nat.le_refl _) ⟨_, _, _, Heap.get?_push_size _ rfl⟩, rfl, q _ I1.fresh⟩
def rListR : TR := fun xs H Q => ∃ p j, xs = [.ref p] ∧ H p = some (.rng 0 j) ∧ -(2 ^ 62) ≤ j ∧ j ≤ 1000 ∧ ∀ l, H l = none → Q (.ref l) (upd H l (.lst ((List.range j.toNat).map fun (i : Nat) => V.int (i : Int))))
theorem items_vals {n : Nat} {acc : Array Value} (h : PySem.ItemsOf (fun i v => ∃ t, v = .int (0 + i * 1) t) acc n) : Vals ((List.range n).map fun (i : Nat) => V.int (i : Int)) acc.toList := by
  obtain ⟨h1, h2⟩ := h
  have key : ∀ (us : List Value) (k : Nat), (∀ j v, us[j]? = some v → ∃ t, v = Value.int ((k + j : Nat) : Int) t) → Vals ((List.range' k us.length).map fun (i : Nat) => V.int (i : Int)) us := by
    intro us
    induction us with
    | nil => intro k _; exact .nil
    | cons u us ih =>
      intro k h
      rw [List.length_cons, List.range'_succ, List.map_cons]
      obtain ⟨t, rfl⟩ := h 0 u rfl
      refine .cons ⟨t, rfl⟩ (ih (k + 1) fun j v hj => ?_)
      obtain ⟨t', e⟩ := h (j + 1) v (by simpa using hj)
      exact ⟨t', by rw [e]; congr 1; omega⟩
  have := key acc.toList 0 fun j v hj => by
    obtain ⟨t, e⟩ := h2 j v (by simpa using hj)
    exact ⟨t, by rw [e]; congr 1; simp⟩
  rw [List.range_eq_range', ← h1, ← Array.length_toList]
  exact this
theorem cn_listR (hc : X.calm = true) : CallR X (.type "list") rListR := by
  intro pins s σ H xs us Q I r h
  obtain ⟨p, j, rfl, hp, j0, j1, q⟩ := h
  obtain ⟨u, rfl, ru⟩ := vals1 r
  cases ru
  obtain ⟨t, u, v, ho⟩ := I.hok _ _ hp
  have e2 : Builtin.Range.rangeSize 0 j 1 = j.toNat := by rw [rangeSize_one]; split <;> omega
  refine call_list_range (n := j.toNat) (I.ok.hd hc) ho (small_one (by omega) (by omega) j0 (by omega)) e2 (by omega) fun h' tk acc' c' kp hS hI => ?_
  have hv := items_vals hI
  exact ⟨.ref s.heap.objs.size, _, I.laid (o := .lst ((List.range j.toNat).map fun (i : Nat) => V.int (i : Int))) kp (Nat.le_refl _) ⟨by rw [List.length_map, List.length_range, sizeLine_eq]; omega, acc'.toList, c', hv, by rw [Array.toArray_toList]; exact hS⟩, rfl, q _ I.fresh⟩
/-! ### int of a truth or a number -/
def rInt1 : TR := fun xs H Q => (∃ i, xs = [.int i] ∧ Q (.int i) H) ∨ ∃ k, xs = [.bl k] ∧ Q (.int (if k then 1 else 0)) H
theorem cn_int : CallR X (.type "int") rInt1 := call_int1
/-! ### l.pop(i) -/
theorem qe_pop {te : TE} (ho : PE X o te) (ha : PAs X (e :: es) t) (hbase : attributeBase o "pop" X.env (eval o X.env) = eval o X.env) (h1 : notStar e = true) (h2 : noStars es = true)
    (hfew : ((backTo cpos (starEach (e :: es) X.env)).all (fun x => !x.1) && (backToKw cpos (keywordEach [] X.env)).all (fun x => x.1.isSome) && decide ((e :: es).length + ([] : List Keyword).length + (if ([] : List Keyword).isEmpty then 0 else 1) < 30)) = true)
    (hline : (apos.endLine == cpos.line) = true) : PE X (.Call (.Attribute o "pop" apos) (e :: es) [] cpos) (tBM X.K "list" rPopAt te t) :=
  pe_bm PySem.F.plainAttrs_list PySem.F.slot_list_pop PySem.F.type_list_pop mt_popAt ho ha.run hbase hfew hline (star_ne h1) (stars_any h2)
/-! ### keywords -/
structure PKs (X : Cx) (kws : List Keyword) (t : TA) : Prop where
  run : PK X kws t
def kg2 {α : Type} : List α → List α → List α
  | [a], [b] => [a, b]
  | _, _ => []
end
section
variable {σ : St} {H : Hp} {Q : VK} {K : PySem.W.Frag}
theorem rd_range {ta : TA} (h : ta σ H fun vs H1 => ∃ j : Int, vs = [.int j] ∧ -(2 ^ 62) ≤ j ∧ j < 2 ^ 62 ∧ ∀ p, H1 p = none → Q (.ref p) (upd H1 p (.rng 0 j))) : tRange ta σ H Q := h
theorem rd_listR {p : Addr} {j : Int} (hp : H p = some (.rng 0 j)) (j0 : -(2 ^ 62) ≤ j) (j1 : j ≤ 1000) (h : ∀ l, H l = none → Q (.ref l) (upd H l (.lst ((List.range j.toNat).map fun (i : Nat) => V.int (i : Int))))) : rListR [.ref p] H Q := ⟨p, j, rfl, hp, j0, j1, h⟩
theorem rd_intB {k : Bool} (h : Q (.int (if k then 1 else 0)) H) : rInt1 [.bl k] H Q := .inr ⟨k, rfl, h⟩
end
/-! ### in and not in -/
section
variable {X : Cx} {K : PySem.W.Frag}
def rInD (K : PySem.W.Frag) (neg : Bool) : R2 := fun x y H Q => ∃ N d xs, Dt K N H x d ∧ Dt K N H y (.list xs) ∧ PyData.canLayAll0 xs = true ∧ d.canLay0 = true ∧ d.depth ≤ 30 ∧ Q (.bl (if neg then !xs.any (fun y => PyData.eqv y d) else xs.any (fun y => PyData.eqv y d))) H
end
section
variable {H : Hp} {Q : VK} {K : PySem.W.Frag} {p : Addr} {xs : List V} {x : V}
end
/-! ### the deck of a law -/
/-- a deck at p: cells at c, how many were taken (at most m), rests at r -/
structure Dk (H : Hp) (p c r : Addr) (m : Nat) : Prop where
  ex : ∃ (cs rs : List Int) (n : Int), H p = some (.lst [.ref c, .int n, .ref r]) ∧ H c = some (.lst (cs.map V.int)) ∧ H r = some (.lst (rs.map V.int)) ∧ c ≠ p ∧ c ≠ r ∧ r ≠ p ∧ 1 ≤ cs.length ∧ cs.length ≤ 63 ∧ rs.length = cs.length ∧ 0 ≤ n ∧ n ≤ m
theorem Dk.mono {H : Hp} {p c r : Addr} {m m' : Nat} (h : Dk H p c r m) (e : m ≤ m') : Dk H p c r m' := by
  obtain ⟨cs, rs, n, a1, a2, a3, a4, a5, a6, a7, a8, a9, a10, a11⟩ := h.ex
  exact ⟨cs, rs, n, a1, a2, a3, a4, a5, a6, a7, a8, a9, a10, by omega⟩
theorem Dk.same {H H' : Hp} {p c r : Addr} {m : Nat} (h : Dk H p c r m) (e : Same H H') : Dk H' p c r m := by
  obtain ⟨cs, rs, n, a1, a2, a3, a4, a5, a6, a7, a8, a9, a10, a11⟩ := h.ex
  exact ⟨cs, rs, n, e _ _ a1, e _ _ a2, e _ _ a3, a4, a5, a6, a7, a8, a9, a10, a11⟩
theorem Dk.new {H : Hp} {p c r : Addr} {m : Nat} (h : Dk H p c r m) {q : Addr} (n : H q = none) : q ∉ [p, c, r] := by
  obtain ⟨cs, rs, _, a1, a2, a3, _⟩ := h.ex
  intro z
  simp only [List.mem_cons, List.not_mem_nil, or_false] at z
  rcases z with rfl | rfl | rfl
  · rw [a1] at n; cases n
  · rw [a2] at n; cases n
  · rw [a3] at n; cases n
/-- kept where another thing is written that is none of the deck's -/
theorem Dk.upd {H : Hp} {p c r q : Addr} {m : Nat} {o : HO} (h : Dk H p c r m) (n : q ∉ [p, c, r]) : Dk (upd H q o) p c r m := by
  obtain ⟨cs, rs, k, a1, a2, a3, a4, a5, a6, a7, a8, a9, a10, a11⟩ := h.ex
  simp only [List.mem_cons, List.not_mem_nil, or_false, not_or] at n
  exact ⟨cs, rs, k, by rw [upd_ne (Ne.symm n.1)]; exact a1, by rw [upd_ne (Ne.symm n.2.1)]; exact a2, by rw [upd_ne (Ne.symm n.2.2)]; exact a3, a4, a5, a6, a7, a8, a9, a10, a11⟩
theorem nin_pr {p c r q : Addr} (h : q ∉ [p, c, r]) : q ∉ [p, r] := by
  simp only [List.mem_cons, List.not_mem_nil, or_false, not_or] at h ⊢
  exact ⟨h.1, h.2.2⟩
end L2

open PySem L2
namespace Mt
/-! ### rules -/
def cruleD : List PyData → Bool
  | [a, b] => withinD 1 7 b && (strEq "held" a || strEq "applied" a)
  | _ => false
def ruleD : PyData → Bool
  | .tuple [a] => strEq "written" a
  | .tuple ds => cruleD ds
  | _ => false
def needD : PyData → Int
  | .tuple [_, .int k] => k + 1
  | _ => 1
/-! ### houses that were not asked -/
def freeL (h : Nat) (as : List Int) : List Int := ((List.range h).map fun (k : Nat) => (k : Int)).filter fun a => !decide (a ∈ as)
/-- unlike houses below h -/
structure AsOk (h : Int) (as : List Int) : Prop where
  nd : as.Nodup
  rg : ∀ a ∈ as, 0 ≤ a ∧ a < h
end Mt
namespace L2
theorem ixN_nat {n j : Nat} (h : j < n) : ixN n (j : Int) = some j := by
  unfold ixN
  rw [if_pos (by omega), if_pos (by omega)]; simp
theorem cutV_take (xs : List V) (n : Nat) : cutV xs none (some (n : Int)) = xs.take n := by
  unfold cutV
  have e : HT.sIx xs.length xs.length (some (n : Int)) = min n xs.length := HT.sIx_nat _ _ n
  rw [e, HT.sIx_none, List.drop_zero, Nat.sub_zero]
  rcases Nat.le_total n xs.length with h | h
  · rw [Nat.min_eq_left h]
  · rw [Nat.min_eq_right h, List.take_length, List.take_of_length_le h]
end L2
namespace Mt
/-! ### all sets of so many -/
def rangeI (n : Nat) : List Int := (List.range n).map fun (k : Nat) => (k : Int)
def setsL (s : Nat) : Nat → List (List Int)
  | 0 => [[]]
  | n + 1 => setsL s n ++ ((setsL s n).filter fun xs => decide (xs.length < s)).map fun xs => xs ++ [(n : Int)]
def setsOf (s n : Nat) : List (List Int) := (setsL s n).filter fun xs => decide (xs.length = s)
theorem map_erase {α β : Type} (f : α → β) : ∀ (xs : List α) (j : Nat), (xs.map f).eraseIdx j = (xs.eraseIdx j).map f
  | [], _ => rfl
  | _ :: _, 0 => rfl
  | x :: xs, j + 1 => by rw [List.map_cons, List.eraseIdx_cons_succ, List.eraseIdx_cons_succ, List.map_cons, map_erase f xs j]
def lstI (xs : List Int) : PyData := .list (xs.map PyData.int)
/-- lists of numbers, none of them at N -/
def LsAll (N : List Addr) (H : Hp) : List V → List (List Int) → Prop
  | [], [] => True
  | v :: vs, xs :: xss => (∃ l, v = .ref l ∧ l ∉ N ∧ H l = some (.lst (xs.map V.int))) ∧ LsAll N H vs xss
  | _, _ => False
theorem dtInts {K : PySem.W.Frag} {N : List Addr} {H : Hp} : ∀ xs : List Int, DtAll K N H (xs.map V.int) (xs.map PyData.int)
  | [] => .nil
  | x :: xs => .cons (.int x) (dtInts xs)
end Mt
namespace L2
mutual
theorem Dt.sub {K : PySem.W.Frag} {N N' : List Addr} {H : Hp} (s : ∀ b ∈ N', b ∈ N) : ∀ {v : V} {d : PyData}, Dt K N H v d → Dt K N' H v d
  | _, _, .non => .non
  | _, _, .bl b => .bl b
  | _, _, .int i => .int i
  | _, _, .str x => .str x
  | _, _, .tup h n r => .tup h (fun z => n (s _ z)) (DtAll.sub s r)
  | _, _, .lst h n r => .lst h (fun z => n (s _ z)) (DtAll.sub s r)
  | _, _, .dk0 h n => .dk0 h (fun z => n (s _ z))
  | _, _, .dk1 h n r => .dk1 h (fun z => n (s _ z)) (Dt.sub s r)
theorem DtAll.sub {K : PySem.W.Frag} {N N' : List Addr} {H : Hp} (s : ∀ b ∈ N', b ∈ N) : ∀ {vs : List V} {ds : List PyData}, DtAll K N H vs ds → DtAll K N' H vs ds
  | _, _, .nil => .nil
  | _, _, .cons h r => .cons (Dt.sub s h) (DtAll.sub s r)
end
end L2
namespace L2
open PySem
theorem depthL : ∀ xs : List Int, PyData.depthAll (xs.map PyData.int) = 0
  | [] => rfl
  | x :: xs => by simp only [List.map_cons, PyData.depthAll, PyData.depth, depthL xs]; rfl
/-- tuples that are rules, none of them at N -/
def RuT (H : Hp) (t : Addr) : Prop := H t = some (.tup [.str "written"]) ∨ ∃ w k, H t = some (.tup [.str w, .int k]) ∧ (w = "held" ∨ w = "applied") ∧ 1 ≤ k ∧ k ≤ 7
def RuAll (N : List Addr) (H : Hp) (vs : List V) : Prop := ∀ v ∈ vs, ∃ t, v = .ref t ∧ t ∉ N ∧ RuT H t
end L2

set_option maxRecDepth 100000
namespace L2
open PySem PySem.Spec PyProof.Rows PySem.W
/-- isinstance(x, (C, D, ..)), own classes -/
def rIsiT (K : Frag) : List V → Hp → VK → Prop := fun xs H Q => ∃ (x : V) (tp : Addr) (tv : Value) (cs : List Addr) (b : Bool), xs = [x, .ref tp] ∧ TyX K H x tv ∧ SqT K H tp (cs.map V.ref) ∧ kitAny K tv (cs.map Value.ref) = some b ∧ Q (.bl b) H
theorem refs_vals : ∀ {cs : List Addr} {us : List Value}, Vals (cs.map V.ref) us → us = cs.map Value.ref
  | [], _, .nil => rfl
  | c :: cs, u :: us, .cons r t => by
    have e : u = .ref c := r
    rw [e, refs_vals t, List.map_cons]
section
variable {X : Cx}
theorem cn_isiT : CallR X (.builtin "isinstance") (rIsiT X.K) := by
  intro pins s σ H xs us Q I r h
  obtain ⟨x, tp, tv, cs, b, rfl, ty, hq, e, q⟩ := h
  obtain ⟨u, w, rfl, ru, rw_⟩ := vals2 r
  cases rw_
  obtain ⟨its, rv, ⟨o, e1, e2, n, e3⟩, _⟩ := I.tuple hq
  obtain rfl := refs_vals rv
  obtain ⟨oc, od, odt, osl⟩ := o
  dsimp only at e2 e3
  subst e2 e3
  have fin : ∀ tk, EP X pins σ Q (.bool b) { s with toks := tk } := fun tk => ⟨.bl b, H, I.tok tk, rfl, q⟩
  cases ty with
  | std ty =>
    cases ty with
    | non => cases ru; exact kia_tup kitx_none I.kIn True.intro e1 e (fun z => nomatch z) fin
    | bl y => cases ru; exact kia_tup kitx_bool I.kIn True.intro e1 e (fun z => nomatch z) fin
    | int i => obtain ⟨t, rfl⟩ := ru; exact kia_tup kitx_int I.kIn True.intro e1 e (fun z => nomatch z) fin
    | str y => obtain ⟨t, rfl⟩ := ru; exact kia_tup kitx_str I.kIn True.intro e1 e (fun z => nomatch z) fin
    | lst hq =>
      cases ru
      obtain ⟨its, _, ⟨o, nn, f1, f2, _⟩, _⟩ := I.list hq
      exact kia_tup kitx_list I.kIn ⟨o, f1, f2⟩ e1 e (fun z => nomatch z) fin
    | tup hq =>
      cases ru
      obtain ⟨its, _, ⟨o, f1, f2, _⟩, _⟩ := I.tuple hq
      exact kia_tup kitx_tuple I.kIn ⟨o, f1, f2⟩ e1 e (fun z => nomatch z) fin
    | @dk a kvs hq =>
      cases ru
      obtain ⟨_, _, vs, _, o, es, ep, h1, h2, _⟩ := (show ObjOk X.prog X.w H s.heap a (.dK kvs) from I.hok a _ hq)
      exact kia_tup kitx_dict I.kIn ⟨o, h1, h2.1⟩ e1 e (fun z => nomatch z) fin
  | @exc a C dx hq g =>
    cases ru
    have z : ExcIs a (.ref C) dx s.heap := (I.hok a _ hq).1
    exact kia_tup (kitx_exc g) I.kIn z e1 e (fun z => nomatch z) fin
/-- f(e, k = v) whose exceptions are told -/
def tCallKX (sp : Sp) (gV : List V → List V → List V) (XR : St → XK) (t tk : TA) : TE := fun σ H Q => t σ H fun vs H1 => tk σ H1 fun zs H2 => sp (gV vs zs) H2 Q (XR σ)
end
section
variable {X : Cx} {e : Expr} {es : List Expr} {t tk : TA} {pos p : Pos} {k : Nat} {f : Addr} {fd : FuncData} {ps ks : List Str} {sp : Sp} {XR : St → XK} {x : Str} {kws : List Keyword}
end
theorem kitAny0 {K : Frag} {t : Value} : kitAny K t [] = some false := rfl
theorem kitAnyF {K : Frag} {t c : Value} {r : List Value} (h : kitOne K t c = some false) (h2 : kitAny K t r = some false) : kitAny K t (c :: r) = some false := by
  unfold kitAny; rw [h]; exact h2
theorem rd_isiT {K : Frag} {H : Hp} {Q : VK} {x : V} {tp : Addr} {tv : Value} {cs : List Addr} {b : Bool} (ty : TyX K H x tv) (hq : SqT K H tp (cs.map V.ref)) (e : kitAny K tv (cs.map Value.ref) = some b) (h : Q (.bl b) H) : rIsiT K [x, .ref tp] H Q := ⟨x, tp, tv, cs, b, rfl, ty, hq, e, h⟩
end L2
namespace L2
open PySem
end L2
namespace Mt
open PySem
mutual
/-- no lists, no dicts -/
def tupB : PyData → Bool
  | .none => true
  | .bool _ => true
  | .int _ => true
  | .str _ => true
  | .tuple es => tupBAll es
  | _ => false
def tupBAll : List PyData → Bool
  | [] => true
  | e :: es => tupB e && tupBAll es
end
theorem tupB_at : ∀ {es : List PyData} {e : PyData}, tupBAll es = true → e ∈ es → tupB e = true
  | x :: es, e, h, m => by
    simp only [tupBAll, Bool.and_eq_true] at h
    rcases List.mem_cons.mp m with rfl | m
    · exact h.1
    · exact tupB_at h.2 m
theorem tupB_ints : ∀ xs : List Int, tupBAll (xs.map PyData.int) = true
  | [] => rfl
  | x :: xs => by simp only [List.map_cons, tupBAll, tupB, tupB_ints xs, Bool.true_and]
end Mt
namespace Mt
end Mt

set_option maxRecDepth 100000
namespace L2
open PySem PySem.Spec PyProof.Rows
/-! ### new things that are none of the system's -/
def tTupS (t : TA) : TE := fun σ H Q => t σ H fun xs H1 => xs.length ≤ sizeLine ∧ ∀ p H', H1 p = none → p ≠ sysModules → Same H1 H' → H' p = some (.tup xs) → Q (.ref p) H'
def tLstS (t : TA) : TE := fun σ H Q => t σ H fun xs H1 => xs.length ≤ sizeLine ∧ ∀ p H', H1 p = none → p ≠ sysModules → Same H1 H' → H' p = some (.lst xs) → Q (.ref p) H'
def tDisp1 (tk tv : TE) : TE := fun σ H Q => ∀ p, H p = none → p ≠ sysModules → tk σ (upd H p (.dK [])) fun x H1 => tv σ H1 fun y H2 => H2 p = some (.dK []) ∧ ∃ k : Key, x = kV k ∧ Q (.ref p) (upd H2 p (.dK [(k, y)]))
section
variable {X : Cx} {es : List Expr} {t : TA} {pos p : Pos} {K : PySem.W.Frag} {k v a b tg : Expr} {tk tv : TE} {ta : TA} {x : Str}
def rReprD (K : PySem.W.Frag) : TR := fun xs H Q => ∃ N x d, xs = [x] ∧ Dt K N H x d ∧ (sysModules ∈ N ∨ d.hasDict = false ∨ d = .dict []) ∧ d.showable = true ∧ d.depth ≤ 30 ∧ d.shown.length ≤ sizeLine ∧ Q (.str d.shown) H
end
section
variable {σ : St} {H : Hp} {Q : VK} {K : PySem.W.Frag}
end
end L2
namespace L2
open PySem
/-- a thing that can be shown, none of whose objects is one of those at M -/
def OkV (K : PySem.W.Frag) (M : List Addr) (H : Hp) (v : V) : Prop := ∃ N d, (∀ b ∈ M, b ∈ N) ∧ Dt K N H v d ∧ (sysModules ∈ N ∨ d.hasDict = false ∨ d = .dict []) ∧ d.showable = true ∧ d.depth ≤ 30 ∧ d.shown.length ≤ sizeLine
end L2
namespace Mt
open PySem
/-- what the law's deep things are -/
def deepD : Nat → PyData
  | 0 => .tuple []
  | k + 1 => if k % 3 = 0 then .tuple [deepD k] else if k % 3 = 1 then .list [deepD k] else .dict [(.int k, deepD k)]
end Mt
namespace Mt
open PySem L2
end Mt
namespace L2
open PySem Mt
end L2

set_option maxRecDepth 100000
namespace L2
open PySem PySem.Spec PyProof.Rows PySem.W
/-! ### sorted of fewer than 64 numbers, min of numbers, stars of lists -/
theorem ints_are : ∀ {ns : List Int} {us : List Value}, Vals (ns.map V.int) us → IntsAre us ns
  | [], _, .nil => .nil
  | n :: ns, u :: us, .cons r t => by
    obtain ⟨tk, rfl⟩ := r
    exact .cons n tk (ints_are t)
theorem ints_vals : ∀ {ns : List Int} {us : List Value}, IntsAre us ns → Vals (ns.map V.int) us
  | _, _, .nil => .nil
  | _, _, .cons _ _ h => .cons ⟨_, rfl⟩ (ints_vals h)
theorem ints_items : ∀ {ns : List Int} {us : List Value}, Vals (ns.map V.int) us → ∃ xs : List (Int × Tok), us = xs.map (fun p => Value.int p.1 p.2) ∧ xs.map (·.1) = ns
  | [], _, .nil => ⟨[], rfl, rfl⟩
  | n :: ns, u :: us, .cons r t => by
    obtain ⟨tk, rfl⟩ := r
    obtain ⟨xs, e1, e2⟩ := ints_items t
    exact ⟨(n, tk) :: xs, by rw [e1]; rfl, by rw [← e2]; rfl⟩
def rSort (K : Frag) : TR := fun xs H Q => ∃ (p : Addr) (ns : List Int), xs = [.ref p] ∧ SqL K H p (ns.map V.int) ∧ ns.length < 64 ∧ ∀ (l : Addr) (ns' : List Int), H l = none → ns'.Perm ns → ns'.Pairwise (· ≤ ·) → Q (.ref l) (upd H l (.lst (ns'.map V.int)))
def rMinL (K : Frag) : TR := fun xs H Q => ∃ (p : Addr) (ns : List Int), xs = [.ref p] ∧ SqL K H p (ns.map V.int) ∧ 0 < ns.length ∧ ∀ m, m ∈ ns → (∀ a ∈ ns, m ≤ a) → Q (.int m) H
def tStarL (K : Frag) (te : TE) (t : TA) : TA := fun σ H Q => te σ H fun v H1 => ∃ a xs, v = .ref a ∧ SqL K H1 a xs ∧ t σ H1 fun vs H2 => Q (xs ++ vs) H2
section
variable {X : Cx} {e : Expr} {es : List Expr} {te : TE} {t : TA} {p : Pos}
theorem cn_sort : CallR X (.builtin "sorted") (rSort X.K) := by
  intro pins s σ H xs us Q I r h
  obtain ⟨p, ns, rfl, hq, hl, q⟩ := h
  obtain ⟨u, rfl, ru⟩ := vals1 r
  cases ru
  obtain ⟨its, rv, pl, hz⟩ := I.list hq
  have hlen := rv.length
  rw [List.length_map] at hlen
  refine sorted_ints pl.isList (ints_are rv) (by omega) fun out ns' hI hp hs => ?_
  obtain ⟨n, ho⟩ := sortedAll_at s.heap its out
  have hv := ints_vals hI
  have hf : H (s.heap.objs.size + 1) = none := I.hok.fresh (Nat.le_succ _)
  have hpl := hp.length_eq
  refine ⟨.ref (s.heap.objs.size + 1), _, I.laid (t' := s.toks) (o := .lst (ns'.map V.int)) (fun b o e => sortedAll_old e) (Nat.le_succ _) ⟨by rw [List.length_map, sizeLine_eq]; omega, out.toList, n, hv, by rw [Array.toArray_toList]; exact ho⟩, rfl, q _ ns' hf hp hs⟩
theorem cn_minL (hc : X.calm = true) : CallR X (.builtin "min") (rMinL X.K) := by
  intro pins s σ H xs us Q I r h
  obtain ⟨p, ns, rfl, hq, hl, q⟩ := h
  obtain ⟨u, rfl, ru⟩ := vals1 r
  cases ru
  obtain ⟨its, rv, pl, hz⟩ := I.list hq
  obtain ⟨ys, rfl, rfl⟩ := ints_items rv
  have hq2 : intItems ys.toArray = (ys.map fun p => Value.int p.1 p.2).toArray := by simp [intItems]
  rw [List.length_map] at hl
  refine min_intList (I.ok.hd hc) (xs := ys.toArray) (by rw [hq2]; exact pl.isList) (by simpa using hl) fun v h' tk hv hk => ?_
  obtain ⟨t', rfl⟩ := intItems_at hv
  obtain ⟨b1, b2⟩ := argBest_lt (numAt ys.toArray) (ys.toArray.size - 1)
  have hsz : ys.toArray.size = ys.length := by simp
  have hn : ∀ j, numAt ys.toArray j = (ys.map (·.1)).getD j 0 := fun j => by rw [numAt_eq]
  refine ⟨V.int _, H, I.kept hk, ⟨t', rfl⟩, q _ ?_ fun a ha => ?_⟩
  · rw [hn]
    rw [List.getD_eq_getElem?_getD, List.getElem?_eq_getElem (by rw [List.length_map]; omega)]
    exact List.getElem_mem _
  · obtain ⟨j, hj, rfl⟩ := List.getElem_of_mem ha
    rw [List.length_map] at hj
    have := b2 j (by omega)
    rw [hn j, List.getD_eq_getElem?_getD, List.getElem?_eq_getElem (by rw [List.length_map]; omega)] at this
    exact this
theorem qa_starL (ha : PE X e te) (hr : PAs X es t) : PAs X (.Starred e p :: es) (tStarL X.K te t) := by
  refine ⟨fun pos pins s σ H Q I h => ?_⟩
  refine items_star (thn (ha pins s σ H _ I h) fun u s1 ⟨v, H1, I1, r, a, xs, ev, hq, q⟩ => ?_)
  subst ev
  obtain rfl : u = Value.ref a := r
  obtain ⟨us, rx, pl, zx⟩ := I1.list hq
  obtain ⟨o, e1, e2, n, e3⟩ := pl.isList
  have ty : s1.TypeIs (.ref a) "list" := ⟨o, e1, e2⟩
  unfold StarOf notIterableAtAll
  refine wpAny_bind (wpAny_specialOf ty slot_list_iter.lookup (wpAny_pure ⟨rfl, ?_⟩))
  refine wpAny_collect_seq a (.inl rfl) e1 e2 e3 (fun h' hk => ?_) (by have := rx.length; simpa using (by omega))
  have I2 : Inv X pins σ H1 { s1 with heap := h' } := I1.kept (t' := s1.toks) hk
  refine thn (hr.run pos pins _ σ H1 _ I2 q) fun ws s3 ⟨vs, H3, I3, r3, q3⟩ => ?_
  exact ⟨xs ++ vs, H3, I3, by simpa using rx.append r3, q3⟩
end
end L2

set_option maxRecDepth 100000
namespace L2
open PySem PySem.Spec PyProof.Rows PySem.W
/-! ### tuple(reversed(a tuple)) -/
theorem rv_owner : Manifest.owners.lookup (String.ofList ['d', 'e', 's', 'r', 'e', 'v', 'e', 'r'].reverse) = some Manifest.sig_reversed := by kernel_rfl
theorem rv_next : Slot "reversed" "__next__" "reversed.__next__" :=
  .of (owner := "reversed") (n := "__next__") (by rw [typeLookup_type, builtinLookup_eq_fast]; kernel_rfl) (by decide +kernel) (by decide +kernel) (by decide +kernel)
    (by first | exact .inl (by decide +kernel) | exact .inr (by decide +kernel)) (by rw [isSubtype_type]; kernel_rfl)
theorem rv_nextE : entryFor table "reversed.__next__" = some Builtin.«reversed.__next__» := entryFor_of_tree (by kernel_rfl)
theorem rv_nextA (a : Value) : argsOk "reversed.__next__" ⟨[a], []⟩ := by
  unfold argsOk; rw [signature?_of (id := "reversed.__next__") (n := ['_', '_', 't', 'x', 'e', 'n', '_', '_']) (o := ['d', 'e', 's', 'r', 'e', 'v', 'e', 'r']) (by kernel_rfl) rv_owner]; kernel_rfl
theorem rv_iter : Slot "reversed" "__iter__" "reversed.__iter__" :=
  .of (owner := "reversed") (n := "__iter__") (by rw [typeLookup_type, builtinLookup_eq_fast]; kernel_rfl) (by decide +kernel) (by decide +kernel) (by decide +kernel)
    (by first | exact .inl (by decide +kernel) | exact .inr (by decide +kernel)) (by rw [isSubtype_type]; kernel_rfl)
theorem rv_iterA (a : Value) : argsOk "reversed.__iter__" ⟨[a], []⟩ := by
  unfold argsOk; rw [signature?_of (id := "reversed.__iter__") (n := ['_', '_', 'r', 'e', 't', 'i', '_', '_']) (o := ['d', 'e', 's', 'r', 'e', 'v', 'e', 'r']) (by kernel_rfl) rv_owner]; kernel_rfl
theorem rv_iterE : entryFor table "reversed.__iter__" = some Builtin.«dict_keyiterator.__iter__» :=
  entryFor_alias (id' := "dict_keyiterator.__iter__") (by kernel_rfl) (by first | rfl | decide +kernel | (unfold String.splitOn; simp +decide [String.splitOnAux])) (by decide +kernel) (by kernel_rfl)
theorem rv_hint : Slot "reversed" "__length_hint__" "reversed.__length_hint__" :=
  .of (owner := "reversed") (n := "__length_hint__") (by rw [typeLookup_type, builtinLookup_eq_fast]; kernel_rfl) (by decide +kernel) (by decide +kernel) (by decide +kernel)
    (by first | exact .inl (by decide +kernel) | exact .inr (by decide +kernel)) (by rw [isSubtype_type]; kernel_rfl)
theorem rv_hintE : entryFor table "reversed.__length_hint__" = some Builtin.«reversed.__length_hint__» := entryFor_of_tree (by kernel_rfl)
theorem rv_hintA (a : Value) : argsOk "reversed.__length_hint__" ⟨[a], []⟩ := by
  unfold argsOk; rw [signature?_of (id := "reversed.__length_hint__") (n := ['_', '_', 't', 'n', 'i', 'h', '_', 'h', 't', 'g', 'n', 'e', 'l', '_', '_']) (o := ['d', 'e', 's', 'r', 'e', 'v', 'e', 'r']) (by kernel_rfl) rv_owner]; kernel_rfl
theorem rv_init : Slot "reversed" "__init__" "object.__init__" :=
  .of (owner := "object") (n := "__init__") (by rw [typeLookup_type, builtinLookup_eq_fast]; kernel_rfl) (by decide +kernel) (by decide +kernel) (by decide +kernel)
    (by first | exact .inl (by decide +kernel) | exact .inr (by decide +kernel)) (by rw [isSubtype_type]; kernel_rfl)
theorem rv_called : TypeCalled "reversed" "reversed.__new__" "object.__init__" :=
  ⟨by decide +kernel, by decide +kernel, ⟨_, _, F.mro_reversed⟩, F.made_reversed, by decide +kernel, by rw [isSubtype_type]; kernel_rfl, rv_init⟩
theorem rv_nolen : typeLookup (.type "reversed") "__len__" = pure none := by rw [typeLookup_type, builtinLookup_eq_fast]; kernel_rfl
theorem rv_norev : typeLookup (.type "tuple") "__reversed__" = pure none := by rw [typeLookup_type, builtinLookup_eq_fast]; kernel_rfl
theorem rv_tupget : typeLookup (.type "tuple") "__getitem__" = pure (some (.builtin "tuple.__getitem__")) := by rw [typeLookup_type, builtinLookup_eq_fast]; kernel_rfl
theorem rv_nodict : isSubtype (.type "tuple") (.type "dict") = pure false := by rw [isSubtype_type]; kernel_rfl
def rvObj (t : Addr) (i : Int) : Obj := { cls := .type "reversed", data := .fields #[.ref t, rawInt i] }
def RvAt (h : Heap) (a t : Addr) (i : Int) : Prop := ∃ o, h.get? a = some o ∧ o.cls = .type "reversed" ∧ o.data = .fields #[.ref t, rawInt i]
section
variable {prog : Program} {w : World} {A : Around} {E : Value → Shared → Prop} {s : Shared}
theorem RvAt.typeIs {a t : Addr} {i : Int} (x : RvAt s.heap a t i) : s.TypeIs (.ref a) "reversed" := let ⟨o, ho, hc, _⟩ := x; ⟨o, ho, hc⟩
theorem RvAt.at {h h' : Heap} {a t : Addr} {i : Int} (x : RvAt h a t i) (e : ∀ o, h.get? a = some o → h'.get? a = some o) : RvAt h' a t i := let ⟨o, ho, r⟩ := x; ⟨o, e _ ho, r⟩
end
end L2

set_option maxRecDepth 100000
namespace L2
open PySem PySem.Spec PyProof.Rows PySem.W
section
variable {prog : Program} {w : World} {A : Around} {E : Value → Shared → Prop} {s : Shared}
theorem rv_new {t : Addr} {items : Array Value} {Q₁ : Value → Shared → Prop} (ht : IsTup s.heap t items) (hfit : (items.size : Int) < 2 ^ 63)
    (h : Q₁ (.ref s.heap.objs.size) { s with heap := s.heap.push (rvObj t ((items.size : Int) - 1)), toks := s.toks + 1 + 1 }) :
    codeAny (model prog w) A (.call (.builtin "reversed.__new__") ⟨[.type "reversed", .ref t], []⟩) (wants Q₁ E) s := by
  refine codeAny_of_tree ?_
  show wpAny _ A.in1 (do checkBuiltinCall "reversed.__new__" ⟨[.type "reversed", .ref t], []⟩; again (.builtin "reversed.__new__" ⟨[.type "reversed", .ref t], []⟩)) _ _ s
  refine wpAny_bind (wpAny_of_eq (F.newCall_reversed_1 _) (wpAny_pure ⟨plainId_quiet F.plain_reversed_new _, codeAny_builtin F.entry_reversed_new ?_⟩))
  rw [Around.under_plainId F.plain_reversed_new _]
  unfold Builtin.«reversed.__new__»
  refine wpAny_bind (wpAny_of_eq (newClass_reversed _) ?_)
  try dsimp only
  refine wpAny_bind (wpAny_of_eq (a := ()) (by first | rfl | kernel_rfl) ?_)
  refine wpAny_bind (wpAny_of_eq (a := ()) (by first | rfl | kernel_rfl) ?_)
  try dsimp only
  refine wpAny_bind (wpAny_specialOf ht.typeIs rv_norev ?_)
  try dsimp only
  refine wpAny_bind ?_
  show wpAny _ _ (isInstance (.ref t) (.type "dict") >>= _) _ _ _
  refine wpAny_bind (wpAny_isInstance (b := false) ht.typeIs rv_nodict ?_)
  refine wpAny_bind (wpAny_specialOf ht.typeIs rv_tupget ?_)
  dsimp only
  rw [if_pos (by decide +kernel)]
  refine wpAny_pure ?_
  rw [if_neg (by decide)]
  refine wpAny_bind (PyProof.Rows.len_tuple ht hfit ?_)
  refine wpAny_bind (m := asInt? _) (wpAny_pure ?_)
  dsimp only
  unfold Builtin.SmallTypes.newRecord
  dsimp only
  exact wpAny_bind (wpAny_newObj_type (wpAny_pure h) (by size_fits))
theorem rv_call {t : Addr} {items : Array Value} {Q : Value → Shared → Prop} (ht : IsTup s.heap t items) (hfit : (items.size : Int) < 2 ^ 63)
    (h : Q (.ref s.heap.objs.size) { s with heap := s.heap.push (rvObj t ((items.size : Int) - 1)), toks := s.toks + 1 + 1 }) : wpAny (model prog w) A (call (.type "reversed") [.ref t]) Q E s := by
  refine callType_codes (Q₁ := fun obj s₁ => s₁.TypeIs obj "reversed" ∧ Q obj s₁) rv_called (F.typeCall_reversed_1 _) F.entry_object_init
    (rv_new ht hfit ⟨⟨_, Heap.get?_push_size _ rfl, rfl⟩, h⟩) fun obj s₁ h₁ => ?_
  exact ⟨h₁.1, F.args_object_init_2 obj _, object_init_meets rv_called.init.lookup rv_called.made (by decide) prog w A.in1 _ s₁ ⟨h₁.1, rfl, h₁.2⟩⟩
theorem rv_item {it t : Addr} {i : Nat} {items : Array Value} {x : Value} {Q : Option Value → Shared → Prop} (hit : RvAt s.heap it t (i : Int)) (ht : IsTup s.heap t items) (hx : items[i]? = some x) (hf : (items.size : Int) < 2 ^ 63)
    (hQ : ∀ h' tk, RvAt h' it t ((i : Int) - 1) → Heap.SameBut it s.heap h' → Q (some x) { s with heap := h', toks := tk }) : wpAny (model prog w) A (pyNext (.ref it)) Q E s := by
  obtain ⟨o, ho, hc, hd⟩ := id hit
  have hlt : i < items.size := by
    rcases Nat.lt_or_ge i items.size with h | h
    · exact h
    · rw [Array.getElem?_eq_none h] at hx; cases hx
  unfold pyNext
  refine wpAny_bind (wpAny_attempt (wpAny_callSpecial?_slot (name := Str.ofString "__next__") hit.typeIs rv_next
    (wpAny_call_entry rv_next hit.typeIs rv_nextE ?_ (rv_nextA _))))
  unfold Builtin.«reversed.__next__»
  refine wpAny_bind (wpAny_of_eq (a := (Value.ref it, [])) rfl ?_)
  try dsimp only
  refine wpAny_bind (wpAny_field ho hd (x := .ref t) rfl ?_)
  refine wpAny_bind (wpAny_field ho hd (x := rawInt (i : Int)) rfl ?_)
  show wpAny _ _ (if (i : Int) < 0 then _ else _) _ _ s
  rw [if_neg (by omega)]
  refine wpAny_bind (wpAny_specialOf ht.typeIs rv_tupget ?_)
  show wpAny _ _ (if (Option.isNone (some (Value.builtin "tuple.__getitem__"))) = true then _ else _) _ _ s
  rw [if_neg (by decide)]
  refine wpAny_bind (wpAny_mkInt ?_)
  refine wpAny_bind (wpAny_attempt (PyProof.Rows.getItem_tuple (j := i) (x := x) ht (by omega) (by omega) ?_ hx ?_))
  · unfold seqIndex?
    simp only []
    split <;> simp_all <;> omega
  try dsimp only
  refine wpAny_bind (wpAny_field ho hd (x := rawInt (i : Int)) rfl ?_)
  try dsimp only
  refine wpAny_bind (wpAny_setField ho hd (by simp) ?_)
  first
  | refine wpAny_pure ⟨x, rfl, wpAny_pure (hQ _ _ ?_ (Heap.SameBut.update ..))⟩
  | refine wpAny_bind (wpAny_pure (wpAny_pure ⟨x, rfl, wpAny_pure (hQ _ _ ?_ (Heap.SameBut.update ..))⟩))
  exact ⟨_, Heap.get?_update_self _ ho (Obj.isFreed_of_fields (Obj.data_mapFields hd _)), (Obj.cls_mapFields ..).trans hc, by
    rw [Obj.data_mapFields hd]; simp⟩
theorem rv_end {it t : Addr} {Q : Option Value → Shared → Prop} (hh : A.handled = none) (hit : RvAt s.heap it t (-1))
    (hQ : ∀ h' tk, Heap.ExtBut it s.heap h' → Q none { s with heap := h', toks := tk }) : wpAny (model prog w) A (pyNext (.ref it)) Q E s := by
  obtain ⟨o, ho, hc, hd⟩ := id hit
  unfold pyNext
  refine wpAny_bind (wpAny_attempt (wpAny_callSpecial?_slot (name := Str.ofString "__next__") hit.typeIs rv_next
    (wpAny_call_entry rv_next hit.typeIs rv_nextE ?_ (rv_nextA _))))
  unfold Builtin.«reversed.__next__»
  refine wpAny_bind (wpAny_of_eq (a := (Value.ref it, [])) rfl ?_)
  try dsimp only
  refine wpAny_bind (wpAny_field ho hd (x := .ref t) rfl ?_)
  refine wpAny_bind (wpAny_field ho hd (x := rawInt (-1)) rfl ?_)
  show wpAny _ _ (if (-1 : Int) < 0 then _ else _) _ _ s
  rw [if_pos (by decide)]
  refine wpAny_bind (wpAny_rule ?_)
  refine wpAny_bind ?_
  show wpAny _ _ (setField (.ref it) 1 (rawInt (-1)) >>= _) _ _ _
  refine wpAny_bind (wpAny_setField ho hd (by simp) ?_)
  have ho2 := Heap.get?_update_self (Obj.mapFields fun x => x.setIfInBounds 1 (rawInt (-1))) ho (Obj.isFreed_of_fields (Obj.data_mapFields hd _))
  have hd2 := Obj.data_mapFields hd (fun x => x.setIfInBounds 1 (rawInt (-1)))
  refine wpAny_setField ho2 hd2 (by simp) ?_
  refine wpAny_bind ?_
  show wpAny _ _ (newExc (.type "StopIteration") [] >>= _) _ _ _
  refine wpAny_bind ?_
  simp only [newExc, newTuple]
  refine wpAny_bind (wpAny_newObj_type ?_ (by size_fits))
  refine wpAny_bind (m := firstArgMember _ _) (wpAny_of_eq (a := Value.none) (by first | rfl | (simp only [firstArgMember]; rfl)) ?_)
  refine wpAny_newObj_type ?_ (by size_fits)
  simp only [raiseNew]
  refine wpAny_bind (wpAny_handled ?_)
  first | rw [show A.in1.handled = none from hh] | rw [hh]
  refine wpAny_bind (wpAny_pure (wpAny_throw ?_))
  refine wpAny_bind (wpAny_isInstance (T := "StopIteration") (b := true) ⟨_, Heap.get?_push_size _ rfl, rfl⟩ isSubtype_stop ?_)
  refine wpAny_pure (hQ _ _ (Heap.ExtBut.push (Heap.ExtBut.push ?_ _) _))
  exact fun b o' hb e => (Heap.get?_update_other _ _ (Ne.symm hb)).trans ((Heap.get?_update_other _ _ (Ne.symm hb)).trans e)
theorem rv_self {it t : Addr} {i : Int} {Q : Value → Shared → Prop} (hit : RvAt s.heap it t i) (h : Q (.ref it) s) : wpAny (model prog w) A (pyIter (.ref it)) Q E s := by
  refine wpAny_pyIter_slot hit.typeIs rv_iter (wpAny_call_entry rv_iter hit.typeIs rv_iterE ?_ (rv_iterA _))
  show wpAny _ _ (ret (.ref it)) _ _ s
  exact wpAny_pure ⟨_, rfl, "reversed", _, hit.typeIs, rv_next.lookup, h⟩
end
theorem rv_walks {prog : Program} {w : World} {A : Around} (hh : A.handled = none) (I t : Addr) (hne : t ≠ I) (items : Array Value) (hf : (items.size : Int) < 2 ^ 63) :
    Walks prog w A I [I, t] [I] items.size (fun i v => items[items.size - 1 - i]? = some v) (fun i h => i ≤ items.size ∧ RvAt h I t ((items.size : Int) - 1 - (i : Int)) ∧ IsTup h t items) where
  sub := fun b hb => by simp at hb; simp [hb]
  frame := fun _ _ _ x hk => ⟨x.1, x.2.1.at fun o e => hk I (by simp) o e, let ⟨o, ho, r⟩ := x.2.2; ⟨o, hk t (by simp) o ho, r⟩⟩
  item := fun i s Q E hi x hQ => by
    have e : (items.size : Int) - 1 - (i : Int) = ((items.size - 1 - i : Nat) : Int) := by omega
    have hit := x.2.1
    rw [e] at hit
    have hx : items[items.size - 1 - i]? = some (items[items.size - 1 - i]'(by omega)) := Array.getElem?_eq_getElem (by omega)
    refine rv_item hit x.2.2 hx hf fun h' tk hit' hs' => ?_
    have e2 : ((items.size - 1 - i : Nat) : Int) - 1 = (items.size : Int) - 1 - ((i + 1 : Nat) : Int) := by omega
    rw [e2] at hit'
    exact hQ _ h' tk hx ⟨hi, hit', let ⟨o, ho, r⟩ := x.2.2; ⟨o, (hs'.2 t hne).trans ho, r⟩⟩ fun b o hb eo => hs'.extBut b o (fun h => hb (by simp [h])) eo
  done := fun s Q E x hQ => by
    have e : (items.size : Int) - 1 - (items.size : Int) = -1 := by omega
    have hit := x.2.1
    rw [e] at hit
    exact rv_end hh hit fun h' tk he' => hQ h' tk fun b o hb eo => he' b o (fun h => hb (by simp [h])) eo
  self := fun _ _ _ _ x hQ => rv_self x.2.1 hQ
end L2

set_option maxRecDepth 100000
namespace L2
open PySem PySem.Spec PyProof.Rows PySem.W
section
variable {prog : Program} {w : World} {A : Around} {E : Value → Shared → Prop} {s : Shared}
theorem rv_hintC {it t : Addr} {items : Array Value} {Q : Value → Shared → Prop} (hit : RvAt s.heap it t ((items.size : Int) - 1)) (ht : IsTup s.heap t items) (hf : (items.size : Int) < 2 ^ 63)
    (h : ∀ tk u, s.toks ≤ tk → Q (.int items.size u) { s with toks := tk }) : wpAny (model prog w) A (call (.builtin "reversed.__length_hint__") [.ref it]) Q E s := by
  obtain ⟨o, ho, hc, hd⟩ := id hit
  refine wpAny_call_entry rv_hint hit.typeIs rv_hintE ?_ (rv_hintA _)
  unfold Builtin.«reversed.__length_hint__»
  refine wpAny_bind (wpAny_of_eq (a := Value.ref it) (by first | rfl | kernel_rfl) ?_)
  refine wpAny_bind (wpAny_field ho hd (x := .ref t) rfl ?_)
  show wpAny _ _ (if (Value.ref t == Value.none) = true then _ else _) _ _ s
  rw [if_neg (show ¬ ((Value.ref t == Value.none) = true) from Bool.false_ne_true)]
  refine wpAny_bind (PyProof.Rows.len_tuple ht hf ?_)
  refine wpAny_bind (m := asInt? _) (wpAny_pure ?_)
  dsimp only
  refine wpAny_bind (wpAny_field ho hd (x := rawInt ((items.size : Int) - 1)) rfl ?_)
  show wpAny _ _ (if (items.size : Int) < (items.size : Int) - 1 + 1 then _ else _) _ _ _
  rw [if_neg (by omega)]
  have e : (items.size : Int) - 1 + 1 = items.size := by omega
  rw [e]
  refine wpAny_bind (wpAny_mkInt ?_)
  exact wpAny_pure ⟨_, rfl, h _ _ (by show s.toks ≤ s.toks + 1 + 1 + 1; omega)⟩
theorem rv_collect {I t : Addr} {items : Array Value} {Q : List Value → Shared → Prop} (hh : A.handled = none) (hit : RvAt s.heap I t ((items.size : Int) - 1)) (ht : IsTup s.heap t items) (hne : t ≠ I) (hm : items.size ≤ 1000)
    (hQ : ∀ s' acc, Moved [I] (fun a b => b = a) s s' → ItemsOf (fun i v => items[items.size - 1 - i]? = some v) acc items.size → Q acc.toList s') : wpAny (model prog w) A (collect (.ref I)) Q E s := by
  have hn : items.size ≤ sizeLine := by rw [sizeLine_eq]; omega
  have W := (rv_walks (prog := prog) (w := w) (A := A.in1) hh I t hne items (by omega)).toS
  have hT : ∀ (i : Nat) (s : Shared), (i ≤ items.size ∧ RvAt s.heap I t ((items.size : Int) - 1 - (i : Int)) ∧ IsTup s.heap t items) → s.TypeIs (.ref I) "reversed" := fun _ _ st => st.2.1.typeIs
  have hst : (0 : Nat) ≤ items.size ∧ RvAt s.heap I t ((items.size : Int) - 1 - ((0 : Nat) : Int)) ∧ IsTup s.heap t items := ⟨Nat.zero_le _, by simpa using hit, ht⟩
  have hIlt : I < s.heap.objs.size := let ⟨_, ho, _⟩ := hit; Heap.lt_size ho
  have hfp : ∀ b ∈ [I, t], b < s.heap.objs.size := fun b hb => by
    rcases List.mem_cons.mp hb with rfl | hb
    · exact hIlt
    · rw [List.mem_singleton.mp hb]; exact ht.lt
  have hI : I ∈ [I, t] := List.mem_cons_self
  have hSf : s.heap.objs.size ∉ [I, t] := fun hm => Nat.lt_irrefl _ (hfp _ hm)
  have hSI : s.heap.objs.size ≠ I := fun e => hSf (e ▸ hI)
  unfold collect
  refine wpAny_bind (wpAny_runValue (codeAny_builtin F.entry_proto_collect ?_))
  rw [Around.under_plainId F.plain_proto_collect _]
  show wpAny _ A.in1 (newList [] >>= fun l => again (.builtin "list.__iadd__" ⟨[l, .ref I], []⟩)) _ _ s
  refine wpAny_bind (wpAny_newObj_type ?_)
  refine wpAny_pure ⟨plainId_quiet F.plain_list_iadd _, codeAny_builtin F.entry_list_iadd ?_⟩
  rw [Around.under_plainId F.plain_list_iadd _]
  have hst₁ := W.frame 0 s (s.heap.push { cls := .type "list", data := .seq ([] : List Value).toArray }) s.toks hst (Nat.le_refl _) fun b _ o e => Heap.get?_push_of_some _ e
  have hS₁ : (s.heap.push { cls := .type "list", data := .seq ([] : List Value).toArray }).get? s.heap.objs.size = some { cls := .type "list", data := .seq ([] : List Value).toArray } := Heap.get?_push_size _ rfl
  show wpAny _ A.in1 (Builtin.List.listExtendWith (.ref s.heap.objs.size) (.ref I) (.ref s.heap.objs.size)) _ _ _
  unfold Builtin.List.listExtendWith
  refine wpAny_bind (wpAny_typeOf (hT 0 _ hst₁) ?_)
  have h1 : Builtin.List.listSameRef (.ref s.heap.objs.size) (.ref I) = false := by simp [Builtin.List.listSameRef, hSI]
  have h2 : (Value.type "reversed" == Value.type "list") = false := by decide
  have h3 : (Value.type "reversed" == Value.type "tuple") = false := by decide
  simp only [h1, h2, h3, Bool.or_false, Bool.false_eq_true, if_false]
  refine wpAny_bind (W.self 0 _ _ _ hst₁ ?_)
  refine wpAny_bind (wpAny_holding ?_)
  unfold Builtin.List.listLengthHint
  refine wpAny_bind (wpAny_specialOf (hT 0 _ hst₁) rv_nolen ?_)
  show wpAny _ A.in1 (specialOf (Value.ref I) (Str.ofString "__length_hint__") >>= _) _ _ _
  refine wpAny_bind (wpAny_specialOf (hT 0 _ hst₁) rv_hint.lookup ?_)
  (generalize hid : ("reversed.__length_hint__" : String) = id0; (fail_if_success (clear hid id0)); wp_delta; rw [show splitId id0 = some ("reversed", "__length_hint__") from by subst hid; decide +kernel]; subst hid)
  refine wpAny_bind (wpAny_isInstance (b := true) (hT 0 _ hst₁) (by rw [isSubtype_type]; kernel_rfl) ?_)
  rw [if_neg (by decide)]
  dsimp only []
  rw [if_neg (by decide +kernel)]
  refine wpAny_bind (wpAny_rule ?_)
  refine wpAny_bind (wpAny_of_eq (rv_hint.bind _) ?_)
  dsimp only
  refine wpAny_bind (wpAny_attempt (rv_hintC (t := t) (items := items) (by simpa using hst₁.2.1) hst₁.2.2 (by omega) fun tk u htk => ?_))
  dsimp only
  rw [show asInt? (Value.int (items.size : Int) u) = pure (some (items.size : Int)) from rfl]
  simp only [pure_bind]
  have f1 : (!Builtin.List.listFitsIndex (items.size : Int)) = false := by simp [Builtin.List.listFitsIndex]; omega
  have f2 : Builtin.List.listTooLong ((items.size : Int).toNat) = false := by simp [Builtin.List.listTooLong, sizeLine_eq] <;> omega
  rw [if_neg (by rw [f1]; decide)]
  rw [if_neg (by omega)]
  rw [if_neg (by rw [f2]; decide)]
  refine wpAny_pure ?_
  have hst₂ := W.frame 0 _ _ tk hst₁ htk fun b _ o e => e
  rcases Nat.eq_zero_or_pos items.size with hz | hz
  · rw [if_neg (by rw [hz]; decide +kernel)]
    refine wpAny_pure ⟨plainId_quiet F.plain_extend_loop _, codeAny_extend_loopS W hn _ hSf _ items.size 0 _ _ _ rfl (Nat.zero_le _) hst₂ hS₁ (ItemsOf.nil _) fun s' acc' c' hm hS' hacc => ?_⟩
    show wpAny _ A (load s.heap.objs.size >>= _) _ _ s'
    refine wpAny_bind (wpAny_load hS' ?_)
    exact wpAny_pure (hQ s' acc' (Moved.drop_new (o := { cls := .type "list", data := .seq ([] : List Value).toArray }) (tk := tk) hm htk) hacc)
  · rw [if_pos (by have : ((items.size : Int) != 0) = true := by rw [bne_iff_ne]; omega
                   rw [this]; rfl)]
    refine wpAny_bind (wpAny_rule ?_)
    refine wpAny_bind ?_
    show wpAny _ A.in1 (updateSeq s.heap.objs.size (·.push .none) >>= fun _ => updateSeq s.heap.objs.size (·.pop)) _ _ _
    refine wpAny_bind (wpAny_updateSeq hS₁ rfl ?_ (Nat.zero_le _) (by show 1 ≤ sizeLine + 1; omega))
    have hS₂ := Heap.get?_update_self (Obj.mapSeq (·.push Value.none)) hS₁ rfl
    refine wpAny_updateSeq hS₂ rfl ?_ (by show 1 ≤ sizeLine; omega) (by show 0 ≤ sizeLine + 1; omega)
    have hS₃ := Heap.get?_update_self (Obj.mapSeq (·.pop)) hS₂ rfl
    have oth : ∀ b o, b ≠ s.heap.objs.size → (s.heap.push { cls := .type "list", data := .seq ([] : List Value).toArray }).get? b = some o →
        (((s.heap.push { cls := .type "list", data := .seq ([] : List Value).toArray }).update s.heap.objs.size (Obj.mapSeq (·.push Value.none))).update s.heap.objs.size (Obj.mapSeq (·.pop))).get? b = some o :=
      fun b o hb e => (Heap.get?_update_other _ _ (Ne.symm hb)).trans ((Heap.get?_update_other _ _ (Ne.symm hb)).trans e)
    refine wpAny_pure ⟨plainId_quiet F.plain_extend_loop _, codeAny_extend_loopS W hn _ hSf _ items.size 0 _ _ _ rfl (Nat.zero_le _)
      (W.frame 0 ({ s with heap := s.heap.push { cls := .type "list", data := .seq ([] : List Value).toArray }, toks := tk } : Shared) _ tk hst₂ (Nat.le_refl _) fun b hb o e => oth b o (fun h => hSf (h ▸ hb)) e) hS₃ (ItemsOf.nil _) fun s' acc' c' hm hS' hacc => ?_⟩
    show wpAny _ A (load s.heap.objs.size >>= _) _ _ s'
    refine wpAny_bind (wpAny_load hS' ?_)
    refine wpAny_pure (hQ s' acc' (Moved.drop_new (o := { cls := .type "list", data := .seq ([] : List Value).toArray }) (tk := tk) (Moved.trans (G := fun a b => b = a) W.gtrans ((Moved.refl (G := fun a b => b = a) W.grefl).then_heap (by first | exact Nat.le_refl _ | exact Nat.le_succ _ | omega) fun b o hb e => ?_) hm) htk) hacc)
    exact oth b o (fun h => hb (h ▸ List.mem_cons_self)) e
theorem rv_tupleNew {I t : Addr} {items : Array Value} {Q₁ : Value → Shared → Prop} (hh : A.handled = none) (hit : RvAt s.heap I t ((items.size : Int) - 1)) (ht : IsTup s.heap t items) (hne : t ≠ I) (hm : items.size ≤ 1000)
    (h : ∀ s' acc, Moved [I] (fun a b => b = a) s s' → ItemsOf (fun i v => items[items.size - 1 - i]? = some v) acc items.size → Q₁ (.ref s'.heap.objs.size) { s' with heap := s'.heap.push { cls := .type "tuple", data := .seq acc } }) :
    codeAny (model prog w) A (.call (.builtin "tuple.__new__") ⟨[.type "tuple", .ref I], []⟩) (wants Q₁ E) s := by
  refine codeAny_of_tree ?_
  show wpAny _ A.in1 (do checkBuiltinCall "tuple.__new__" ⟨[.type "tuple", .ref I], []⟩; again (.builtin "tuple.__new__" ⟨[.type "tuple", .ref I], []⟩)) _ _ s
  refine wpAny_bind (wpAny_of_eq (F.newCall_tuple_1 _) (wpAny_pure ⟨plainId_quiet F.plain_tuple_new _, codeAny_builtin F.entry_tuple_new ?_⟩))
  rw [Around.under_plainId F.plain_tuple_new _]
  have hsub := sub_tuple_self
  have hinit := init_tuple_lookup
  have hmh := madeHere_tuple
  have hTI := hit.typeIs (s := s)
  wp_walk using wpAny_typeOf hTI, rv_collect (A := A.in1) hh hit ht hne hm
  intro s' acc hmv hacc
  show wpAny _ _ (Builtin.Tuple.tupleExact acc.toList.toArray >>= fun v => ret v) _ _ _
  unfold Builtin.Tuple.tupleExact
  refine wpAny_bind (wpAny_newObj_type ?_ (by show acc.toList.toArray.size ≤ sizeLine; simp only [Array.toArray_toList]; rw [hacc.1, sizeLine_eq]; omega))
  refine wpAny_pure ?_
  have e : acc.toList.toArray = acc := by simp
  rw [e]
  exact h s' acc hmv hacc
theorem rv_tuple {I t : Addr} {items : Array Value} {Q : Value → Shared → Prop} (hh : A.handled = none) (hit : RvAt s.heap I t ((items.size : Int) - 1)) (ht : IsTup s.heap t items) (hne : t ≠ I) (hm : items.size ≤ 1000)
    (hQ : ∀ s' acc, Moved [I] (fun a b => b = a) s s' → ItemsOf (fun i v => items[items.size - 1 - i]? = some v) acc items.size → Q (.ref s'.heap.objs.size) { s' with heap := s'.heap.push { cls := .type "tuple", data := .seq acc } }) :
    wpAny (model prog w) A (call (.type "tuple") [.ref I]) Q E s := by
  refine callType_codes (Q₁ := fun obj s₁ => s₁.TypeIs obj "tuple" ∧ Q obj s₁) F.called_tuple (F.typeCall_tuple_1 _) F.entry_object_init
    (rv_tupleNew (A := A.in1) hh hit ht hne hm fun s' acc hmv hacc => ⟨⟨_, Heap.get?_push_size _ rfl, rfl⟩, hQ s' acc hmv hacc⟩) fun obj s₁ h₁ => ?_
  exact ⟨h₁.1, F.args_object_init_2 obj _, object_init_meets F.called_tuple.init.lookup F.called_tuple.made (by decide) prog w A.in1 _ s₁ ⟨h₁.1, rfl, h₁.2⟩⟩
end
theorem boot_reversed : bootBuiltins "reversed" = some (.type "reversed") := by decide +kernel
theorem boot_tupleT : bootBuiltins "tuple" = some (.type "tuple") := by decide +kernel
theorem rv_vals {xs : List V} {us : List Value} (r : Vals xs us) {acc : Array Value} (h : ItemsOf (fun i v => us.toArray[us.toArray.size - 1 - i]? = some v) acc us.toArray.size) : Vals xs.reverse acc.toList := by
  have e : acc.toList = us.reverse := by
    refine List.ext_getElem? fun i => ?_
    obtain ⟨h1, h2⟩ := h
    have hs : us.toArray.size = us.length := by simp
    rcases Nat.lt_or_ge i acc.size with hi | hi
    · have hv := h2 i acc[i] (Array.getElem?_eq_getElem hi)
      rw [List.getElem?_reverse (by omega), Array.getElem?_toList, Array.getElem?_eq_getElem hi, ← hv, hs]
      simp
    · rw [List.getElem?_eq_none (by simpa using hi), List.getElem?_eq_none (by rw [List.length_reverse]; omega)]
  rw [e]
  clear h e
  induction r with
  | nil => exact .nil
  | cons r1 _ ih => rw [List.reverse_cons, List.reverse_cons]; exact ih.append (.cons r1 .nil)
def tTupRev (K : Frag) (ta : TA) : TE := fun σ H Q => ta σ H fun vs H1 => ∃ t xs, vs = [.ref t] ∧ SqT K H1 t xs ∧ xs.length ≤ 1000 ∧ ∀ l H', H1 l = none → Same H1 H' → SqT K H' l xs.reverse → Q (.ref l) H'
section
variable {X : Cx} {a : Expr} {ta : TA} {p p2 pos pos2 : Pos}
theorem qe_tupRev (hc : X.calm = true) (hg : Gl X "tuple") (hm : X.mg "tuple" = none) (hg2 : Gl X "reversed") (hm2 : X.mg "reversed" = none) (ha : PAs X [a] ta) (h1 : notStar a = true) :
    PE X (.Call (.Name "tuple" p) [.Call (.Name "reversed" p2) [a] [] pos2] [] pos) (tTupRev X.K ta) := by
  intro pins s σ H Q I h
  refine Call_ (ld_blt I hg hm boot_tupleT (PyProof.Rows.callWith_type1 (Calls.spliced_cons ?_) rfl rfl))
  refine Call_ (ld_blt I hg2 hm2 boot_reversed (PyProof.Rows.callWith_type1 (thn (ha.run pos2 pins s σ H _ I h) fun us s1 ⟨vs, H1, I1, r1, t, xs, ev, hq, hl, q⟩ => ?_) (star_ne h1) rfl))
  subst ev
  obtain ⟨u, rfl, ru⟩ := vals1 r1
  cases ru
  obtain ⟨its, rv, it, hz⟩ := I1.tuple hq
  have hlen := rv.length
  have hsz : its.toArray.size = its.length := by simp
  refine rv_call it (by omega) (Calls.spliced_nil ?_)
  have kp : ∀ b o, s1.heap.get? b = some o → (s1.heap.push (rvObj t ((its.toArray.size : Int) - 1))).get? b = some o := fun b o e => Heap.get?_push_of_some _ e
  refine rv_tuple (I := s1.heap.objs.size) (t := t) (items := its.toArray) (I.ok.hd hc) ⟨_, Heap.get?_push_size _ rfl, rfl, rfl⟩ (it.push _) (Nat.ne_of_lt it.lt) (by omega) fun s' acc hmv hacc => ?_
  obtain ⟨hp, gn, dr, tk, os⟩ := s'
  obtain ⟨mh, mg, md, mo, mt⟩ := hmv
  dsimp only at mh mg md mo mt
  subst mg md mo
  have kp2 : ∀ b o, s1.heap.get? b = some o → hp.get? b = some o := fun b o e => mh b o (fun hm => by
    have := List.mem_singleton.mp hm
    subst this
    exact Nat.lt_irrefl _ (Heap.lt_size e)) (kp b o e)
  have I2 : Inv X pins σ H1 { s1 with heap := hp, toks := tk } := I1.kept kp2
  have hv := rv_vals rv hacc
  refine ⟨.ref hp.objs.size, _, I2.laid (t' := tk) (o := .tup xs.reverse) (fun b o e => Heap.get?_push_of_some _ e) (Nat.le_refl _) ⟨?_, acc.toList, ?_, ?_⟩, rfl, q _ _ I2.fresh (Same.upd I2.fresh) (SqT.of upd_same)⟩
  · rw [List.length_reverse]; exact hz
  · exact hv
  · exact ⟨_, Heap.get?_push_size _ rfl, rfl, _, by rw [Array.toArray_toList]⟩
end
section
variable {K : Frag} {σ : St} {H : Hp} {Q : VK} {p : Addr}
theorem rd_tupRev {ta : TA} (h : ta σ H fun vs H1 => ∃ t xs, vs = [.ref t] ∧ SqT K H1 t xs ∧ xs.length ≤ 1000 ∧ ∀ l H', H1 l = none → Same H1 H' → SqT K H' l xs.reverse → Q (.ref l) H') : tTupRev K ta σ H Q := h
theorem rd_sort {ns : List Int} (hq : SqL K H p (ns.map V.int)) (hl : ns.length < 64) (h : ∀ (l : Addr) (ns' : List Int), H l = none → ns'.Perm ns → ns'.Pairwise (· ≤ ·) → Q (.ref l) (upd H l (.lst (ns'.map V.int)))) : rSort K [.ref p] H Q := ⟨p, ns, rfl, hq, hl, h⟩
theorem rd_minL {ns : List Int} (hq : SqL K H p (ns.map V.int)) (hl : 0 < ns.length) (h : ∀ m, m ∈ ns → (∀ a ∈ ns, m ≤ a) → Q (.int m) H) : rMinL K [.ref p] H Q := ⟨p, ns, rfl, hq, hl, h⟩
end
end L2

set_option maxRecDepth 100000
namespace L2
open PySem PySem.Spec PyProof.Rows
/-- zip of two tuples or of two lists -/
def iZipM (K : PySem.W.Frag) (ta : TA) : TI := fun σ H R => ta σ H fun vs H1 => ∃ a b, vs = [.ref a, .ref b] ∧ (((∃ xs, SqT K H1 a xs) ∧ (∃ ys, SqT K H1 b ys) ∧ R (Itz K a b) H1) ∨ ((∃ xs, SqL K H1 a xs) ∧ (∃ ys, SqL K H1 b ys) ∧ R (ItzL K a b) H1))
theorem pi_zipM {X : Cx} {es : List Expr} {k : Nat} {ps p pos : Pos} {e1 e2 : Expr} {ta : TA} (hg : Gl X "zip") (hm : X.mg "zip" = none) (ha : PA X [e1, e2] ta)
    (hs : starEach [e1, e2] X.env = [(false, eval e1 X.env), (false, eval e2 X.env)] := by rfl) (hs2 : starEach [e2] X.env = [(false, eval e2 X.env)] := by rfl) (hv : bootBuiltins "zip" = some (.type "zip") := by decide +kernel) :
    PI X (.Tuple es k ps) (.Call (.Name "zip" p) [e1, e2] [] pos) (iZipM X.K ta) := by
  intro pins s σ H R I h
  refine Call_ (ld_blt I hg hm hv (PyProof.Rows.callWith_type1 (thn (ha pos pins s σ H _ I h) fun us s1 ⟨vs, H1, I1, r1, q1⟩ => ?_) (by rw [hs, hs2]) (by rw [hs2]; rfl)))
  obtain ⟨a, b, e, q1⟩ := q1
  subst e
  obtain ⟨u, v, rfl, ra, rb⟩ := vals2 r1
  cases ra
  cases rb
  rcases q1 with ⟨⟨xs, qx⟩, ⟨ys, qy⟩, q⟩ | ⟨⟨xs, qx⟩, ⟨ys, qy⟩, q⟩
  · skip
    obtain ⟨us, rx, px, zx⟩ := I1.tuple qx
    obtain ⟨ws, ry, py, zy⟩ := I1.tuple qy
    refine Zt.call_zip (xs := us.toArray) (ys := ws.toArray) px py fun h' hz hTI hTO h1 h2 kp => ?_
    refine wpAny_pyIter_zip (s := { s1 with heap := h' }) hz ?_
    have la : a < s1.heap.objs.size := by obtain ⟨o, e, _⟩ := px; exact Heap.lt_size e
    have lb : b < s1.heap.objs.size := by obtain ⟨o, e, _⟩ := py; exact Heap.lt_size e
    have J : Inv X pins σ H1 { s1 with heap := h' } := I1.kept (t' := s1.toks) kp
    refine ⟨_, [s1.heap.objs.size + 4, s1.heap.objs.size + 2, s1.heap.objs.size + 3, s1.heap.objs.size, s1.heap.objs.size + 1], _, Itz X.K a b, H1, rfl, J, turn_zip (a := a) (b := b) (Nat.ne_of_lt la) (Nat.ne_of_lt (Nat.lt_succ_of_lt lb)) ?_, ⟨hz, hTI, ⟨_, _, hTO⟩, h1, h2⟩, fun c hc => ?_, q⟩
    · generalize s1.heap.objs.size = n at la lb
      constructor <;> (try simp only [List.mem_cons, List.not_mem_nil, or_false, not_or, ne_eq]) <;> (unfold Addr at *; omega)
    · have le : s1.heap.objs.size ≤ c := by
        simp only [List.mem_cons, List.not_mem_nil, or_false] at hc
        rcases hc with rfl | rfl | rfl | rfl | rfl
        · exact Nat.le_add_right _ _
        · exact Nat.le_add_right _ _
        · exact Nat.le_add_right _ _
        · exact Nat.le_refl _
        · exact Nat.le_add_right _ _
      exact I1.fpOk le (I1.hok.fresh le)
  · skip
    obtain ⟨us, rx, px, zx⟩ := I1.list qx
    obtain ⟨ws, ry, py, zy⟩ := I1.list qy
    refine Zt.call_zipL (xs := us.toArray) (ys := ws.toArray) (Zt.plainL_is px) (Zt.plainL_is py) fun h' hz hTI hTO h1 h2 kp => ?_
    refine wpAny_pyIter_zip (s := { s1 with heap := h' }) hz ?_
    have la : a < s1.heap.objs.size := by obtain ⟨o, _, e, _⟩ := px; exact Heap.lt_size e
    have lb : b < s1.heap.objs.size := by obtain ⟨o, _, e, _⟩ := py; exact Heap.lt_size e
    have J : Inv X pins σ H1 { s1 with heap := h' } := I1.kept (t' := s1.toks) kp
    refine ⟨_, [s1.heap.objs.size + 4, s1.heap.objs.size + 2, s1.heap.objs.size + 3, s1.heap.objs.size, s1.heap.objs.size + 1], _, ItzL X.K a b, H1, rfl, J, turn_zipL (a := a) (b := b) (Nat.ne_of_lt la) (Nat.ne_of_lt (Nat.lt_succ_of_lt lb)) ?_, ⟨hz, hTI, ⟨_, _, hTO⟩, h1, h2⟩, fun c hc => ?_, q⟩
    · generalize s1.heap.objs.size = n at la lb
      constructor <;> (try simp only [List.mem_cons, List.not_mem_nil, or_false, not_or, ne_eq]) <;> (unfold Addr at *; omega)
    · have le : s1.heap.objs.size ≤ c := by
        simp only [List.mem_cons, List.not_mem_nil, or_false] at hc
        rcases hc with rfl | rfl | rfl | rfl | rfl
        · exact Nat.le_add_right _ _
        · exact Nat.le_add_right _ _
        · exact Nat.le_add_right _ _
        · exact Nat.le_refl _
        · exact Nat.le_add_right _ _
      exact I1.fpOk le (I1.hok.fresh le)
theorem qi_zipM {X : Cx} {a b : Expr} {ta : TA} {p pos : Pos} {es : List Expr} {k : Nat} {ps : Pos} (hg : Gl X "zip") (hm : X.mg "zip" = none) (ha : PAs X [a, b] ta) (h1 : notStar a = true) (h2 : notStar b = true) : PI X (.Tuple es k ps) (.Call (.Name "zip" p) [a, b] [] pos) (iZipM X.K ta) :=
  pi_zipM hg hm ha.run (by rw [star_ne h1, star_ne h2]; rfl) (by rw [star_ne h2]; rfl) (by decide +kernel)
theorem rd_izipM {K : PySem.W.Frag} {ta : TA} {σ : St} {H : Hp} {R : It → Hp → Prop} (h : ta σ H fun vs H1 => ∃ a b, vs = [.ref a, .ref b] ∧ (((∃ xs, SqT K H1 a xs) ∧ (∃ ys, SqT K H1 b ys) ∧ R (Itz K a b) H1) ∨ ((∃ xs, SqL K H1 a xs) ∧ (∃ ys, SqL K H1 b ys) ∧ R (ItzL K a b) H1))) : iZipM K ta σ H R := h
theorem for_zipL0 {K : PySem.W.Frag} {a b : Addr} {g : TG} {tb : TS} {D : Ends} {σ : St} {H : Hp} (h1 : SqL K H a []) (h2 : SqL K H b []) (hd : D.nx σ H) : ForW (ItzL K a b) g tb D σ H := by
  refine ⟨fun i m σ' H' => m = 0 ∧ i = 0 ∧ σ' = σ ∧ H' = H, ⟨0, rfl, rfl, rfl, rfl⟩, ?_⟩
  rintro i m σ' H' ⟨rfl, rfl, rfl, rfl⟩
  exact .inl ⟨⟨[], [], h1, h2, .inl (Nat.le_refl _)⟩, hd⟩
end L2

set_option maxRecDepth 100000
namespace L2
open PySem PySem.Spec PyProof.Rows PySem.W
/-! ### slots: pairs of a house and a place -/
section
variable {σ : St} {H : Hp}
theorem rd_starL {K : Frag} {te : TE} {t : TA} {R : List V → Hp → Prop} (h : te σ H fun v H1 => ∃ a xs, v = .ref a ∧ SqL K H1 a xs ∧ t σ H1 fun vs H2 => R (xs ++ vs) H2) : tStarL K te t σ H R := h
end
theorem Ext.wide {N N' : List Addr} {H H' : Hp} (s : ∀ b ∈ N, b ∈ N') (x : Ext N H H') : Ext N' H H' := fun b u e n => x b u e (fun z => n (s b z))
def pairD (p : Int × Int) : PyData := .tuple [.int p.1, .int p.2]
theorem dt_pair {K : Frag} {N : List Addr} {H : Hp} {v : V} {p : Int × Int} (h : Dt K N H v (pairD p)) : ∃ q, v = .ref q ∧ SqT K H q [.int p.1, .int p.2] ∧ q ∉ N := by
  unfold pairD at h
  cases h with
  | tup h n r =>
    cases r with
    | cons h1 r =>
      cases h1
      cases r with
      | cons h2 r =>
        cases h2
        cases r
        exact ⟨_, rfl, h, n⟩
theorem dt_pairI {K : Frag} {N : List Addr} {H : Hp} {q : Addr} {a b : Int} (h : SqT K H q [.int a, .int b]) (n : q ∉ N) : Dt K N H (.ref q) (pairD (a, b)) := .tup h n (.cons (.int a) (.cons (.int b) .nil))
theorem DtAll.rev {K : Frag} {N : List Addr} {H : Hp} : ∀ {vs : List V} {ds : List PyData}, DtAll K N H vs ds → DtAll K N H vs.reverse ds.reverse
  | _, _, .nil => .nil
  | _, _, .cons h r => by rw [List.reverse_cons, List.reverse_cons]; exact (DtAll.rev r).append (.cons h .nil)
/-- [a for a, b in slots if ..] -/
theorem comp_pairs {K : Frag} {N : List Addr} {a : Addr} {H1 : Hp} {acc : Addr} {σ0 : St} {g : TG} {tt : TT} {te : TE} {Q : VK} (ps : List (Int × Int)) (vs : List V) (pb : Int × Int → Bool) (pr : Int × Int → Int) (Sg : St → Prop) (hn : ps.length ≤ 1000) (na : H1 acc = none) (h0 : Sg σ0)
    (hq : SqT K H1 a vs) (hd : DtAll K N H1 vs (ps.map pairD))
    (hb : ∀ (p : Int × Int) (q : Addr) σc H (R : St → V → Hp → Prop) (S : St → Hp → Prop), p ∈ ps → SqT K H q [.int p.1, .int p.2] → Same H1 H → Sg σc → (pb p = true → ∀ σ2, Sg σ2 → R σ2 (.int (pr p)) H) → (pb p = false → ∀ σ2, Sg σ2 → S σ2 H) →
      g (.ref q) σc H fun σ2 H2 => tt σ2 H2 fun b H3 => if b = true then te σ2 H3 (R σ2) else S σ2 H3)
    (hst : ∀ H, Same H1 H → H acc = some (.lst (((ps.filter pb).map pr).map V.int)) → Q (.ref acc) H) : CompW σ0 (Itt K a) H1 acc g tt te Q := by
  have hl := hd.length
  rw [List.length_map] at hl
  refine comp_byF ps.length (small1000 hn) (fun i ws σc H => Same H1 H ∧ Sg σc ∧ ws = (((ps.take i).filter pb).map pr).map V.int) ⟨Same.upd na, h0, rfl⟩ ?_ ?_
  · rintro i ws σc H hi hlw ha ⟨sm, hs, rfl⟩
    have hL := sm.tupS hq
    have hv : i < vs.length := by omega
    obtain ⟨d, e1, e2⟩ := hd.get (List.getElem?_eq_getElem hv)
    rw [List.getElem?_map, List.getElem?_eq_getElem hi] at e1
    cases e1
    obtain ⟨q, ev, hp, _⟩ := dt_pair e2
    refine ⟨⟨_, _, hL, List.getElem?_eq_getElem hv⟩, ?_⟩
    rintro x H' ⟨rfl, hx⟩ R S hR hS
    have ex := hx _ hL
    rw [List.getElem?_eq_getElem hv, ev] at ex; cases ex
    have tk : ps.take (i + 1) = ps.take i ++ [ps[i]] := by rw [List.take_add_one]; simp [hi]
    refine hb ps[i] q σc H' R S (List.getElem_mem hi) (sm.tupS hp) sm hs (fun e σ2 h2 => hR σ2 _ H' ha ⟨fun b u e => ?_, h2, ?_⟩) (fun e σ2 h2 => hS σ2 H' ha ⟨sm, h2, ?_⟩)
    · rw [upd_ne (ne_of_none e na)]; exact sm b u e
    · rw [tk, List.filter_append, List.filter_cons, if_pos e, List.map_append, List.map_append]; rfl
    · rw [tk, List.filter_append, List.filter_cons, if_neg (by rw [e]; exact Bool.false_ne_true), List.filter_nil, List.append_nil]
  · rintro ws σc H hlw ha ⟨sm, _, rfl⟩
    rw [List.take_length] at ha
    exact ⟨⟨_, sm.tupS hq, by omega⟩, hst H sm ha⟩
def brokL (room en : Int) (ps : List (Int × Int)) : List Int := (ps.filter fun p => decide (p.2 + room < en)).map (·.1)
def leftL (room en : Int) (ps : List (Int × Int)) : List Int := (ps.filter fun p => decide (p.2 + room ≥ en)).map (·.2)
theorem brok_yes {room en : Int} {ps : List (Int × Int)} {p : Int × Int} (h : decide (p.2 + room < en) = true) : brokL room en (ps ++ [p]) = brokL room en ps ++ [p.1] := by
  unfold brokL; rw [List.filter_append, List.filter_cons, if_pos h, List.map_append]; rfl
theorem brok_no {room en : Int} {ps : List (Int × Int)} {p : Int × Int} (h : decide (p.2 + room < en) = false) : brokL room en (ps ++ [p]) = brokL room en ps := by
  unfold brokL; rw [List.filter_append, List.filter_cons, if_neg (by rw [h]; exact Bool.false_ne_true), List.filter_nil, List.append_nil]
theorem left_no {room en : Int} {ps : List (Int × Int)} {p : Int × Int} (h : decide (p.2 + room < en) = true) : leftL room en (ps ++ [p]) = leftL room en ps := by
  have h2 : ¬ (decide (p.2 + room ≥ en) = true) := by have := of_decide_eq_true h; simp; omega
  unfold leftL; rw [List.filter_append, List.filter_cons, if_neg h2, List.filter_nil, List.append_nil]
theorem left_yes {room en : Int} {ps : List (Int × Int)} {p : Int × Int} (h : decide (p.2 + room < en) = false) : leftL room en (ps ++ [p]) = leftL room en ps ++ [p.2] := by
  have h2 : decide (p.2 + room ≥ en) = true := by have := of_decide_eq_false h; simp; omega
  unfold leftL; rw [List.filter_append, List.filter_cons, if_pos h2, List.map_append]; rfl
theorem brok_len (room en : Int) (ps : List (Int × Int)) : (brokL room en ps).length ≤ ps.length := by unfold brokL; rw [List.length_map]; exact List.length_filter_le _ _
theorem left_len (room en : Int) (ps : List (Int × Int)) : (leftL room en ps).length ≤ ps.length := by unfold leftL; rw [List.length_map]; exact List.length_filter_le _ _
structure IsCut (room en app : Int) (ps : List (Int × Int)) (m : Int) (ns : List Int) : Prop where
  mem : m ∈ leftL room en ps ++ [app]
  le : ∀ a ∈ leftL room en ps ++ [app], m ≤ a
  perm : ns.Perm (brokL room en ps)
  srt : ns.Pairwise (· ≤ ·)
theorem IsCut.uniq {room en app : Int} {ps qs : List (Int × Int)} {m m' : Int} {ns ns' : List Int} (h : IsCut room en app ps m ns) (h' : IsCut room en app qs m' ns') (p : ps.Perm qs) : m = m' ∧ ns = ns' := by
  have pl : (leftL room en ps).Perm (leftL room en qs) := (p.filter _).map _
  have pb : (brokL room en ps).Perm (brokL room en qs) := (p.filter _).map _
  have pl2 : ∀ x, x ∈ leftL room en ps ++ [app] ↔ x ∈ leftL room en qs ++ [app] := fun x => (pl.append_right _).mem_iff
  refine ⟨Int.le_antisymm (h.le _ ((pl2 _).mpr h'.mem)) (h'.le _ ((pl2 _).mp h.mem)), ?_⟩
  exact List.Perm.eq_of_pairwise (fun a b _ _ h1 h2 => Int.le_antisymm h1 h2) h.srt h'.srt (h.perm.trans (pb.trans h'.perm.symm))
def slotD (m : Int) (ns : List Int) : PyData := .tuple [.int m, .tuple (ns.map PyData.int)]
theorem cut_dt {K : Frag} {H : Hp} {t q : Addr} {m : Int} {ns : List Int} (h1 : SqT K H q (ns.map V.int)) (h2 : SqT K H t [.int m, .ref q]) : Dt K [] H (.ref t) (slotD m ns) := .tup h2 (by simp) (.cons (.int m) (.cons (.tup h1 (by simp) (Mt.dtInts ns)) .nil))
theorem cut_tupB (m : Int) (ns : List Int) : Mt.tupB (slotD m ns) = true := by
  have := Mt.tupB_ints ns
  simp only [slotD, Mt.tupB, Mt.tupBAll, Bool.and_true, Bool.true_and] at this ⊢
  exact this
theorem cut_depth (m : Int) (ns : List Int) : (slotD m ns).depth < 3 := by
  show PyData.depthAll [.int m, .tuple (ns.map PyData.int)] + 1 < 3
  have : (PyData.tuple (ns.map PyData.int)).depth = PyData.depthAll (ns.map PyData.int) + 1 := rfl
  have h0 : (PyData.int m).depth = 0 := rfl
  simp only [PyData.depthAll, this, depthL, h0]
  decide
theorem at2D {v : Int} (h0 : 0 ≤ v) (h1 : v < 2) (x y : V) : ∃ z, atI [x, y] v = some z ∧ (z = x ∨ z = y) := by
  obtain ⟨j, rfl⟩ := Int.eq_ofNat_of_zero_le h0
  have hj : j < 2 := by omega
  match j, hj with
  | 0, _ => exact ⟨x, rfl, .inl rfl⟩
  | 1, _ => exact ⟨y, rfl, .inr rfl⟩
theorem oddOk {d : PyData} (h : d = .list [] ∨ (Mt.tupB d = true ∧ d.depth ≤ 1)) : (Mt.tupB d = true ∨ d = .list []) ∧ d.depth ≤ 1 := by
  rcases h with rfl | ⟨h1, h2⟩
  · exact ⟨.inr rfl, by decide⟩
  · exact ⟨.inl h1, h2⟩
end L2

set_option maxRecDepth 100000
set_option maxHeartbeats 1000000
local macro_rules | `(tactic| walk_at "vis") => `(tactic| first | exact Or.inl rfl | exact Or.inr (Or.inl rfl) | exact Or.inr (Or.inr rfl))
local macro_rules | `(tactic| walk_at "cond") => `(tactic| first | assumption | decide | omega | (simp only [L2.CDiv, L2.CMul, L2.CPow]; first | decide | omega))
local macro_rules | `(tactic| walk_at "sq") => `(tactic| first | assumption | exact L2.SqL.of (by assumption) | exact L2.SqT.of (by assumption) | exact L2.SqL.of L2.upd_same | exact L2.SqT.of L2.upd_same)
local macro_rules | `(tactic| walk_at "lk") => `(tactic| first | assumption | exact L2.upd_same)
local macro_rules | `(tactic| walk_at "ty") => `(tactic| first | assumption | exact L2.TyS.non | exact L2.TyS.bl _ | exact L2.TyS.int _ | exact L2.TyS.str _ | exact L2.TyS.tup (by assumption) | exact L2.TyS.lst (by assumption))
local macro_rules | `(tactic| walk_at "rs") => `(tactic| repeat (first
  | with_reducible refine L2.rd_if ?_ | with_reducible refine L2.rd_asg ?_ | with_reducible refine L2.rd_drop ?_ | with_reducible refine L2.rd_ret ?_ | with_reducible refine L2.rd_next ?_
  | with_reducible refine L2.rd_op ?_ | with_reducible refine L2.rd_un ?_ | ((with_reducible apply L2.rd_var); (case e => exact rfl)) | with_reducible refine L2.rd_c ?_
  | with_reducible refine L2.rd_I0 ?_ | ((with_reducible apply L2.rd_I); (case hc => walk_at "cond")) | with_reducible refine L2.rd_U ?_
  | with_reducible refine L2.rd_test ?_ | with_reducible refine L2.rd_tB ?_ | with_reducible refine L2.rd_bl' ?_ | ((with_reducible apply L2.rd_eq); (case hs => exact rfl)) | ((with_reducible apply L2.rd_ne); (case hs => exact rfl))
  | ((with_reducible apply L2.rd_ixL); (case hq => walk_at "sq"); (case ha => exact rfl)) | ((with_reducible apply L2.rd_ixT); (case hq => walk_at "sq"); (case ha => exact rfl))
  | with_reducible refine L2.rd_name ?_ | with_reducible refine L2.rd_sub ?_ | ((with_reducible apply L2.rd_setL); (case hp => walk_at "lk"); (case hi => exact rfl))
  | with_reducible refine L2.rd_CB ?_ | with_reducible refine L2.rd_nil ?_ | with_reducible refine L2.rd_cons ?_ | with_reducible refine L2.rd_and ?_ | with_reducible refine L2.rd_or ?_ | with_reducible refine L2.rd_not ?_
  | with_reducible refine L2.rd_andV ?_ | with_reducible refine L2.rd_orV ?_ | with_reducible refine L2.rd_notV ?_ | with_reducible refine L2.rd_ifE ?_ | with_reducible refine L2.rd_call ?_ | with_reducible refine L2.rd_callX ?_ | with_reducible refine L2.rd_raise0 ?_ | with_reducible refine L2.rd_raise1 ?_ | with_reducible refine L2.rd_try ?_ | with_reducible refine L2.rd_xat ?_ | with_reducible refine L2.rd_unx ?_ | with_reducible refine L2.rd_star ?_ | with_reducible refine L2.rd_starL ?_ | with_reducible refine L2.rd_tupRev ?_ | with_reducible refine L2.rd_izipL ?_ | with_reducible refine L2.rd_izipM ?_ | ((with_reducible apply L2.rd_glst); (case hq => walk_at "sq"); (case hl => exact rfl)) | with_reducible refine L2.rd_range ?_ | with_reducible refine L2.rd_callK ?_ | with_reducible refine L2.rd_callKX ?_ | with_reducible refine L2.rd_ienum ?_ | with_reducible refine L2.rd_intB ?_ | with_reducible refine L2.rd_intI ?_ | ((with_reducible apply L2.rd_callV); (case hi => exact rfl))
  | with_reducible refine L2.rd_tup ?_ | with_reducible refine L2.rd_tupA ?_ | with_reducible refine L2.rd_lstA ?_ | with_reducible refine L2.rd_dnewA ?_ | with_reducible refine L2.rd_lst ?_ | with_reducible refine L2.rd_chain ?_ | with_reducible refine L2.rd_sl ?_ | with_reducible refine L2.rd_nopart ?_ | with_reducible refine L2.rd_part ?_ | with_reducible refine L2.rd_int ?_
  | ((with_reducible apply L2.rd_slL); (case hq => walk_at "sq")) | ((with_reducible apply L2.rd_slG); (case hq => walk_at "sq"))
  | with_reducible refine L2.rd_gnil ?_ | with_reducible refine L2.rd_gcons ?_ | ((with_reducible apply L2.rd_tupT); (case hq => walk_at "sq"); (case hl => exact rfl)) | with_reducible refine L2.rd_BM ?_ | with_reducible refine L2.rd_for ?_ | with_reducible refine L2.rd_rng1 ?_ | with_reducible refine L2.rd_rngV ?_ | with_reducible refine L2.rd_ilist ?_ | with_reducible refine L2.rd_itup ?_ | with_reducible refine L2.rd_comp ?_ | with_reducible refine L2.rd_izip ?_
  | ((with_reducible apply L2.rd_slA); (case hq => walk_at "sq")) | ((with_reducible apply L2.rd_listAL); (case hq => walk_at "sq")) | ((with_reducible apply L2.rd_listAT); (case hq => walk_at "sq")) | ((with_reducible apply L2.rd_tupleAL); (case hq => walk_at "sq")) | ((with_reducible apply L2.rd_lenL); (case hq => walk_at "sq")) | ((with_reducible apply L2.rd_lenT); (case hq => walk_at "sq")) | ((with_reducible apply L2.rd_listFT); (case hq => walk_at "sq")) | ((with_reducible apply L2.rd_listFL); (case hq => walk_at "sq")) | ((with_reducible apply L2.rd_listL); (case hq => walk_at "sq")) | ((with_reducible apply L2.rd_listT); (case hq => walk_at "sq"))
  | ((with_reducible apply L2.rd_tupleL); (case hq => walk_at "sq")) | ((with_reducible apply L2.rd_isiTup); (case hd => assumption)) | ((with_reducible apply L2.rd_isiInt); (case hd => assumption)) | ((with_reducible apply L2.rd_isiBool); (case hd => assumption)) | ((with_reducible apply L2.rd_isiStr); (case hd => assumption)) | ((with_reducible apply L2.rd_isiList); (case hd => assumption)) | with_reducible refine L2.rd_min ?_ | with_reducible refine L2.rd_max ?_ | refine L2.rd_iteT ?_ | refine L2.rd_iteF ?_ | with_reducible refine L2.rd_isN ?_ | with_reducible refine L2.rd_isnB ?_ | with_reducible refine L2.rd_isB ?_ | with_reducible refine L2.rd_notN ?_ | ((with_reducible apply L2.rd_str); (case hl => walk_at "cond")) | dsimp only))
local macro_rules | `(tactic| walk_at "rd") => `(tactic| repeat (first
  | with_reducible refine L2.rd_seq ?_ | with_reducible refine L2.rd_if ?_ | with_reducible refine L2.rd_asg ?_ | with_reducible refine L2.rd_drop ?_ | with_reducible refine L2.rd_ret ?_ | with_reducible refine L2.rd_next ?_
  | with_reducible refine L2.rd_op ?_ | with_reducible refine L2.rd_un ?_ | ((with_reducible apply L2.rd_var); (case e => exact rfl)) | with_reducible refine L2.rd_c ?_
  | with_reducible refine L2.rd_I0 ?_ | ((with_reducible apply L2.rd_I); (case hc => walk_at "cond")) | with_reducible refine L2.rd_U ?_
  | with_reducible refine L2.rd_test ?_ | with_reducible refine L2.rd_tB ?_ | with_reducible refine L2.rd_bl' ?_ | ((with_reducible apply L2.rd_eq); (case hs => exact rfl)) | ((with_reducible apply L2.rd_ne); (case hs => exact rfl))
  | ((with_reducible apply L2.rd_ixL); (case hq => walk_at "sq"); (case ha => exact rfl)) | ((with_reducible apply L2.rd_ixT); (case hq => walk_at "sq"); (case ha => exact rfl))
  | with_reducible refine L2.rd_name ?_ | with_reducible refine L2.rd_sub ?_ | ((with_reducible apply L2.rd_setL); (case hp => walk_at "lk"); (case hi => exact rfl))
  | with_reducible refine L2.rd_CB ?_ | with_reducible refine L2.rd_nil ?_ | with_reducible refine L2.rd_cons ?_ | with_reducible refine L2.rd_and ?_ | with_reducible refine L2.rd_or ?_ | with_reducible refine L2.rd_not ?_
  | with_reducible refine L2.rd_andV ?_ | with_reducible refine L2.rd_orV ?_ | with_reducible refine L2.rd_notV ?_ | with_reducible refine L2.rd_ifE ?_ | with_reducible refine L2.rd_call ?_ | with_reducible refine L2.rd_callX ?_ | with_reducible refine L2.rd_raise0 ?_ | with_reducible refine L2.rd_raise1 ?_ | with_reducible refine L2.rd_try ?_ | with_reducible refine L2.rd_xat ?_ | with_reducible refine L2.rd_unx ?_ | with_reducible refine L2.rd_star ?_ | with_reducible refine L2.rd_starL ?_ | with_reducible refine L2.rd_tupRev ?_ | with_reducible refine L2.rd_izipL ?_ | with_reducible refine L2.rd_izipM ?_ | ((with_reducible apply L2.rd_glst); (case hq => walk_at "sq"); (case hl => exact rfl)) | with_reducible refine L2.rd_range ?_ | with_reducible refine L2.rd_callK ?_ | with_reducible refine L2.rd_callKX ?_ | with_reducible refine L2.rd_ienum ?_ | with_reducible refine L2.rd_intB ?_ | with_reducible refine L2.rd_intI ?_ | ((with_reducible apply L2.rd_callV); (case hi => exact rfl))
  | with_reducible refine L2.rd_tup ?_ | with_reducible refine L2.rd_tupA ?_ | with_reducible refine L2.rd_lstA ?_ | with_reducible refine L2.rd_dnewA ?_ | with_reducible refine L2.rd_lst ?_ | with_reducible refine L2.rd_chain ?_ | with_reducible refine L2.rd_sl ?_ | with_reducible refine L2.rd_nopart ?_ | with_reducible refine L2.rd_part ?_ | with_reducible refine L2.rd_int ?_
  | ((with_reducible apply L2.rd_slL); (case hq => walk_at "sq")) | ((with_reducible apply L2.rd_slG); (case hq => walk_at "sq"))
  | with_reducible refine L2.rd_gnil ?_ | with_reducible refine L2.rd_gcons ?_ | ((with_reducible apply L2.rd_tupT); (case hq => walk_at "sq"); (case hl => exact rfl)) | with_reducible refine L2.rd_BM ?_ | with_reducible refine L2.rd_for ?_ | with_reducible refine L2.rd_rng1 ?_ | with_reducible refine L2.rd_rngV ?_ | with_reducible refine L2.rd_ilist ?_ | with_reducible refine L2.rd_itup ?_ | with_reducible refine L2.rd_comp ?_ | with_reducible refine L2.rd_izip ?_
  | ((with_reducible apply L2.rd_slA); (case hq => walk_at "sq")) | ((with_reducible apply L2.rd_listAL); (case hq => walk_at "sq")) | ((with_reducible apply L2.rd_listAT); (case hq => walk_at "sq")) | ((with_reducible apply L2.rd_tupleAL); (case hq => walk_at "sq")) | ((with_reducible apply L2.rd_lenL); (case hq => walk_at "sq")) | ((with_reducible apply L2.rd_lenT); (case hq => walk_at "sq")) | ((with_reducible apply L2.rd_listFT); (case hq => walk_at "sq")) | ((with_reducible apply L2.rd_listFL); (case hq => walk_at "sq")) | ((with_reducible apply L2.rd_listL); (case hq => walk_at "sq")) | ((with_reducible apply L2.rd_listT); (case hq => walk_at "sq"))
  | ((with_reducible apply L2.rd_tupleL); (case hq => walk_at "sq")) | ((with_reducible apply L2.rd_isiTup); (case hd => assumption)) | ((with_reducible apply L2.rd_isiInt); (case hd => assumption)) | ((with_reducible apply L2.rd_isiBool); (case hd => assumption)) | ((with_reducible apply L2.rd_isiStr); (case hd => assumption)) | ((with_reducible apply L2.rd_isiList); (case hd => assumption)) | with_reducible refine L2.rd_min ?_ | with_reducible refine L2.rd_max ?_ | refine L2.rd_iteT ?_ | refine L2.rd_iteF ?_ | with_reducible refine L2.rd_isN ?_ | with_reducible refine L2.rd_isnB ?_ | with_reducible refine L2.rd_isB ?_ | with_reducible refine L2.rd_notN ?_ | ((with_reducible apply L2.rd_str); (case hl => walk_at "cond")) | dsimp only))
local macro_rules | `(tactic| walk_at "rq") => `(tactic| repeat (first
  | with_reducible refine L2.rd_seq ?_ | with_reducible refine L2.rd_if ?_ | with_reducible refine L2.rd_asg ?_ | with_reducible refine L2.rd_drop ?_ | with_reducible refine L2.rd_ret ?_ | with_reducible refine L2.rd_next ?_
  | with_reducible refine L2.rd_op ?_ | with_reducible refine L2.rd_un ?_ | ((with_reducible apply L2.rd_var); (case e => exact rfl)) | with_reducible refine L2.rd_c ?_
  | with_reducible refine L2.rd_I0 ?_ | ((with_reducible apply L2.rd_I); (case hc => walk_at "cond")) | with_reducible refine L2.rd_U ?_
  | with_reducible refine L2.rd_test ?_ | with_reducible refine L2.rd_tB ?_ | with_reducible refine L2.rd_bl' ?_ | ((with_reducible apply L2.rd_eq); (case hs => exact rfl)) | ((with_reducible apply L2.rd_ne); (case hs => exact rfl))
  | ((with_reducible apply L2.rd_ixL); (case hq => walk_at "sq"); (case ha => exact rfl)) | ((with_reducible apply L2.rd_ixT); (case hq => walk_at "sq"); (case ha => exact rfl))
  | with_reducible refine L2.rd_name ?_ | with_reducible refine L2.rd_sub ?_ | ((with_reducible apply L2.rd_setL); (case hp => walk_at "lk"); (case hi => exact rfl))
  | with_reducible refine L2.rd_CB ?_ | with_reducible refine L2.rd_nil ?_ | with_reducible refine L2.rd_cons ?_ | with_reducible refine L2.rd_and ?_ | with_reducible refine L2.rd_or ?_ | with_reducible refine L2.rd_not ?_
  | with_reducible refine L2.rd_andV ?_ | with_reducible refine L2.rd_orV ?_ | with_reducible refine L2.rd_notV ?_ | with_reducible refine L2.rd_ifE ?_ | with_reducible refine L2.rd_call ?_ | with_reducible refine L2.rd_callX ?_ | with_reducible refine L2.rd_raise0 ?_ | with_reducible refine L2.rd_raise1 ?_ | with_reducible refine L2.rd_try ?_ | with_reducible refine L2.rd_xat ?_ | with_reducible refine L2.rd_unx ?_ | with_reducible refine L2.rd_star ?_ | with_reducible refine L2.rd_starL ?_ | with_reducible refine L2.rd_tupRev ?_ | with_reducible refine L2.rd_izipL ?_ | with_reducible refine L2.rd_izipM ?_ | ((with_reducible apply L2.rd_glst); (case hq => walk_at "sq"); (case hl => exact rfl)) | with_reducible refine L2.rd_range ?_ | with_reducible refine L2.rd_callK ?_ | with_reducible refine L2.rd_callKX ?_ | with_reducible refine L2.rd_ienum ?_ | with_reducible refine L2.rd_intB ?_ | with_reducible refine L2.rd_intI ?_ | ((with_reducible apply L2.rd_callV); (case hi => exact rfl))
  | with_reducible refine L2.rd_tup ?_ | with_reducible refine L2.rd_tupA ?_ | with_reducible refine L2.rd_lstA ?_ | with_reducible refine L2.rd_dnewA ?_ | with_reducible refine L2.rd_lst ?_ | with_reducible refine L2.rd_chain ?_ | with_reducible refine L2.rd_sl ?_ | with_reducible refine L2.rd_nopart ?_ | with_reducible refine L2.rd_part ?_ | with_reducible refine L2.rd_int ?_
  | ((with_reducible apply L2.rd_slL); (case hq => walk_at "sq")) | ((with_reducible apply L2.rd_slG); (case hq => walk_at "sq"))
  | with_reducible refine L2.rd_gnil ?_ | with_reducible refine L2.rd_gcons ?_ | ((with_reducible apply L2.rd_tupT); (case hq => walk_at "sq"); (case hl => exact rfl)) | with_reducible refine L2.rd_BM ?_ | with_reducible refine L2.rd_for ?_ | with_reducible refine L2.rd_rng1 ?_ | with_reducible refine L2.rd_rngV ?_ | with_reducible refine L2.rd_ilist ?_ | with_reducible refine L2.rd_itup ?_ | with_reducible refine L2.rd_comp ?_ | with_reducible refine L2.rd_izip ?_
  | ((with_reducible apply L2.rd_slA); (case hq => walk_at "sq")) | ((with_reducible apply L2.rd_listAL); (case hq => walk_at "sq")) | ((with_reducible apply L2.rd_listAT); (case hq => walk_at "sq")) | ((with_reducible apply L2.rd_tupleAL); (case hq => walk_at "sq")) | ((with_reducible apply L2.rd_lenL); (case hq => walk_at "sq")) | ((with_reducible apply L2.rd_lenT); (case hq => walk_at "sq")) | ((with_reducible apply L2.rd_listFT); (case hq => walk_at "sq")) | ((with_reducible apply L2.rd_listFL); (case hq => walk_at "sq")) | ((with_reducible apply L2.rd_listL); (case hq => walk_at "sq")) | ((with_reducible apply L2.rd_listT); (case hq => walk_at "sq"))
  | ((with_reducible apply L2.rd_tupleL); (case hq => walk_at "sq")) | ((with_reducible apply L2.rd_isiTup); (case hd => assumption)) | ((with_reducible apply L2.rd_isiInt); (case hd => assumption)) | ((with_reducible apply L2.rd_isiBool); (case hd => assumption)) | ((with_reducible apply L2.rd_isiStr); (case hd => assumption)) | ((with_reducible apply L2.rd_isiList); (case hd => assumption)) | with_reducible refine L2.rd_min ?_ | with_reducible refine L2.rd_max ?_ | ((with_reducible refine L2.rd_iteG ?_); first | refine L2.rd_iteT ?_ | refine L2.rd_iteF ?_) | with_reducible refine L2.rd_isN ?_ | with_reducible refine L2.rd_isnB ?_ | with_reducible refine L2.rd_isB ?_ | with_reducible refine L2.rd_notN ?_ | ((with_reducible apply L2.rd_str); (case hl => walk_at "cond")) | dsimp only))
namespace My
open PySem L2
def top (i : Nat) : Stmt := PySem.Challenge.pw_laterline_k32_cuts_told.main.body.getD i (.Pass ⟨0, 0, 0, 0⟩)
abbrev s_is_number : Stmt := top 9
abbrev s_is_within : Stmt := top 10
abbrev s_require_within : Stmt := top 11
abbrev s_is_place : Stmt := top 12
abbrev s_require_place : Stmt := top 14
abbrev s_require_room : Stmt := top 17
abbrev s_cut_of : Stmt := top 18
abbrev s_law_deck : Stmt := top 20
abbrev s_law_take : Stmt := top 21
abbrev s_law_same : Stmt := top 22
abbrev s_law_place : Stmt := top 23
abbrev s_law_slots : Stmt := top 24
abbrev s_law_due : Stmt := top 25
abbrev s_law_refused : Stmt := top 26
abbrev s_law_odd : Stmt := top 27
abbrev s_law : Stmt := top 28
theorem sc_is_number : FnScope ["thing"] ["thing"] (defScope s_is_number) := ⟨rfl, rfl, rfl, by decide +kernel, rfl, by decide +kernel, by decide +kernel⟩
theorem sc_is_within : FnScope ["thing", "least", "most"] ["thing", "least", "most"] (defScope s_is_within) := ⟨rfl, rfl, rfl, by decide +kernel, rfl, by decide +kernel, by decide +kernel⟩
theorem sc_require_within : FnScope ["thing", "least", "most", "what"] ["thing", "least", "most", "what"] (defScope s_require_within) := ⟨rfl, rfl, rfl, by decide +kernel, rfl, by decide +kernel, by decide +kernel⟩
theorem sc_is_place : FnScope ["thing"] ["thing"] (defScope s_is_place) := ⟨rfl, rfl, rfl, by decide +kernel, rfl, by decide +kernel, by decide +kernel⟩
theorem sc_require_place : FnScope ["thing"] ["thing"] (defScope s_require_place) := ⟨rfl, rfl, rfl, by decide +kernel, rfl, by decide +kernel, by decide +kernel⟩
theorem sc_require_room : FnScope ["room"] ["room"] (defScope s_require_room) := ⟨rfl, rfl, rfl, by decide +kernel, rfl, by decide +kernel, by decide +kernel⟩
theorem sc_cut_of : FnScope ["room", "slots", "end", "applied", "broken", "left"] ["room", "slots", "end", "applied"] (defScope s_cut_of) := ⟨rfl, rfl, rfl, by decide +kernel, rfl, by decide +kernel, by decide +kernel⟩
theorem sc_law_deck : FnScope ["_law_script", "_law_cells"] ["_law_script"] (defScope s_law_deck) := ⟨rfl, rfl, rfl, by decide +kernel, rfl, by decide +kernel, by decide +kernel⟩
theorem sc_law_take : FnScope ["_law_deck_here", "_law_many", "_law_cells", "_law_count", "_law_rests", "_law_place_here", "_law_digits", "_law_mixed"] ["_law_deck_here", "_law_many"] (defScope s_law_take) := ⟨rfl, rfl, rfl, by decide +kernel, rfl, by decide +kernel, by decide +kernel⟩
theorem sc_law_same : FnScope ["_law_found", "_law_due_here", "_law_one", "_law_other"] ["_law_found", "_law_due_here"] (defScope s_law_same) := ⟨rfl, rfl, rfl, by decide +kernel, rfl, by decide +kernel, by decide +kernel⟩
theorem sc_law_place : FnScope ["_law_deck_here"] ["_law_deck_here"] (defScope s_law_place) := ⟨rfl, rfl, rfl, by decide +kernel, rfl, by decide +kernel, by decide +kernel⟩
theorem sc_law_slots : FnScope ["_law_deck_here", "_law_room", "_law_end", "_law_waiting", "_law_found", "_law_k", "_law_one", "_law_place_here"] ["_law_deck_here", "_law_room", "_law_end"] (defScope s_law_slots) := ⟨rfl, rfl, rfl, by decide +kernel, rfl, by decide +kernel, by decide +kernel⟩
theorem sc_law_due : FnScope ["_law_room", "_law_slots_here", "_law_end", "_law_applied", "_law_broken", "_law_floor", "_law_one", "_law_place_here"] ["_law_room", "_law_slots_here", "_law_end", "_law_applied"] (defScope s_law_due) := ⟨rfl, rfl, rfl, by decide +kernel, rfl, by decide +kernel, by decide +kernel⟩
theorem sc_law_refused : FnScope ["_law_handed", "_law_word", "_law_field", "_law_caught", "error"] ["_law_handed", "_law_word", "_law_field"] (defScope s_law_refused) := ⟨rfl, rfl, rfl, by decide +kernel, rfl, by decide +kernel, by decide +kernel⟩
theorem sc_law_odd : FnScope ["_law_deck_here", "_law_least", "_law_most", "_law_some"] ["_law_deck_here", "_law_least", "_law_most"] (defScope s_law_odd) := ⟨rfl, rfl, rfl, by decide +kernel, rfl, by decide +kernel, by decide +kernel⟩
theorem sc_law : FnScope ["_law_script", "_law_deck_here", "_law_room", "_law_turn", "_law_end", "_law_applied", "_law_slots_here", "_law_due_here", "_law_no_room", "_law_no_end", "_law_no_applied", "_law_some", "_law_beside"] ["_law_script"] (defScope s_law) := ⟨rfl, rfl, rfl, by decide +kernel, rfl, by decide +kernel, by decide +kernel⟩
abbrev t_NoCount : Stmt := inClass (top 6) 0
abbrev t_NoPlace : Stmt := inClass (top 3) 0
theorem ib_NoCount : IBody t_NoCount "what" "what" := ⟨⟨rfl, rfl, rfl, rfl, by decide +kernel, rfl, rfl, rfl, by decide +kernel, by decide +kernel⟩, ⟨_, rfl, rfl⟩, fun _ _ _ _ _ _ _ _ _ _ _ => rfl, ⟨_, _, _, _, _, _, _, _, _, _, _, _, _, rfl, fun _ => rfl⟩⟩
theorem ib_NoPlace : IBody t_NoPlace "place" "place" := ⟨⟨rfl, rfl, rfl, rfl, by decide +kernel, rfl, rfl, rfl, by decide +kernel, by decide +kernel⟩, ⟨_, rfl, rfl⟩, fun _ _ _ _ _ _ _ _ _ _ _ => rfl, ⟨_, _, _, _, _, _, _, _, _, _, _, _, _, rfl, fun _ => rfl⟩⟩
/-- the addresses that the top has given -/
structure Adr where
  f_is_number : Addr
  d_is_number : FuncData
  f_is_within : Addr
  d_is_within : FuncData
  f_require_within : Addr
  d_require_within : FuncData
  f_is_place : Addr
  d_is_place : FuncData
  f_require_place : Addr
  d_require_place : FuncData
  f_require_room : Addr
  d_require_room : FuncData
  f_cut_of : Addr
  d_cut_of : FuncData
  f_law_deck : Addr
  d_law_deck : FuncData
  f_law_take : Addr
  d_law_take : FuncData
  f_law_same : Addr
  d_law_same : FuncData
  f_law_place : Addr
  d_law_place : FuncData
  f_law_slots : Addr
  d_law_slots : FuncData
  f_law_due : Addr
  d_law_due : FuncData
  f_law_refused : Addr
  d_law_refused : FuncData
  f_law_odd : Addr
  d_law_odd : FuncData
  f_law : Addr
  d_law : FuncData
  u_LAST_PLACE : Value
  u_MOST_ROOM : Value
  C_LineError : Addr
  C_NoCount : Addr
  C_NoHouse : Addr
  C_NoPlace : Addr
  C_NoRow : Addr
  C_NoRule : Addr
  I_NoCount : Addr
  I_NoPlace : Addr
/-- what the walk asks of the top -/
structure Txt (P : Program) (K : PySem.W.Frag) (mg : Str → Option Value) (a : Adr) : Prop where
  mC_LineError : mg "LineError" = some (.ref a.C_LineError)
  mC_NoCount : mg "NoCount" = some (.ref a.C_NoCount)
  mC_NoHouse : mg "NoHouse" = some (.ref a.C_NoHouse)
  mC_NoPlace : mg "NoPlace" = some (.ref a.C_NoPlace)
  mC_NoRow : mg "NoRow" = some (.ref a.C_NoRow)
  mC_NoRule : mg "NoRule" = some (.ref a.C_NoRule)
  Z_NoCount : XIni P K a.C_NoCount a.C_LineError a.I_NoCount "what"
  Z_NoPlace : XIni P K a.C_NoPlace a.C_LineError a.I_NoPlace "place"
  xg_NoCount : XG K a.C_NoCount
  ex_NoCount_LineError : PySem.W.exmOne K (.ref a.C_NoCount) (.ref a.C_LineError) = some true
  is_NoCount_NoCount : PySem.W.kitOne K (.ref a.C_NoCount) (.ref a.C_NoCount) = some true
  is_NoCount_NoHouse : PySem.W.kitOne K (.ref a.C_NoCount) (.ref a.C_NoHouse) = some false
  is_NoCount_NoPlace : PySem.W.kitOne K (.ref a.C_NoCount) (.ref a.C_NoPlace) = some false
  is_NoCount_NoRow : PySem.W.kitOne K (.ref a.C_NoCount) (.ref a.C_NoRow) = some false
  is_NoCount_NoRule : PySem.W.kitOne K (.ref a.C_NoCount) (.ref a.C_NoRule) = some false
  is_NoCount_ValueError : PySem.W.kitOne K (.ref a.C_NoCount) (.type "ValueError") = some true
  xg_NoPlace : XG K a.C_NoPlace
  ex_NoPlace_LineError : PySem.W.exmOne K (.ref a.C_NoPlace) (.ref a.C_LineError) = some true
  is_NoPlace_NoCount : PySem.W.kitOne K (.ref a.C_NoPlace) (.ref a.C_NoCount) = some false
  is_NoPlace_NoHouse : PySem.W.kitOne K (.ref a.C_NoPlace) (.ref a.C_NoHouse) = some false
  is_NoPlace_NoPlace : PySem.W.kitOne K (.ref a.C_NoPlace) (.ref a.C_NoPlace) = some true
  is_NoPlace_NoRow : PySem.W.kitOne K (.ref a.C_NoPlace) (.ref a.C_NoRow) = some false
  is_NoPlace_NoRule : PySem.W.kitOne K (.ref a.C_NoPlace) (.ref a.C_NoRule) = some false
  is_NoPlace_ValueError : PySem.W.kitOne K (.ref a.C_NoPlace) (.type "ValueError") = some true
  c_LAST_PLACE : mg "LAST_PLACE" = some a.u_LAST_PLACE ∧ RelV (.int 1000000) a.u_LAST_PLACE
  c_MOST_ROOM : mg "MOST_ROOM" = some a.u_MOST_ROOM ∧ RelV (.int 400) a.u_MOST_ROOM
  b_ValueError : mg "ValueError" = none
  b_bool : mg "bool" = none
  b_int : mg "int" = none
  b_isinstance : mg "isinstance" = none
  b_len : mg "len" = none
  b_list : mg "list" = none
  b_max : mg "max" = none
  b_min : mg "min" = none
  b_range : mg "range" = none
  b_reversed : mg "reversed" = none
  b_sorted : mg "sorted" = none
  b_str : mg "str" = none
  b_tuple : mg "tuple" = none
  b_zip : mg "zip" = none
  F_is_number : Fun K "is_number" "is_number" s_is_number a.f_is_number a.d_is_number
  m_is_number : mg "is_number" = some (.ref a.f_is_number)
  k_is_number : PySem.W.keepIn K (.ref a.f_is_number) = true
  bd_is_number : Binds K a.d_is_number ["thing"] []
  F_is_within : Fun K "is_within" "is_within" s_is_within a.f_is_within a.d_is_within
  m_is_within : mg "is_within" = some (.ref a.f_is_within)
  k_is_within : PySem.W.keepIn K (.ref a.f_is_within) = true
  bd_is_within : Binds K a.d_is_within ["thing", "least", "most"] []
  F_require_within : Fun K "require_within" "require_within" s_require_within a.f_require_within a.d_require_within
  m_require_within : mg "require_within" = some (.ref a.f_require_within)
  k_require_within : PySem.W.keepIn K (.ref a.f_require_within) = true
  bd_require_within : Binds K a.d_require_within ["thing", "least", "most", "what"] []
  F_is_place : Fun K "is_place" "is_place" s_is_place a.f_is_place a.d_is_place
  m_is_place : mg "is_place" = some (.ref a.f_is_place)
  k_is_place : PySem.W.keepIn K (.ref a.f_is_place) = true
  bd_is_place : Binds K a.d_is_place ["thing"] []
  F_require_place : Fun K "require_place" "require_place" s_require_place a.f_require_place a.d_require_place
  m_require_place : mg "require_place" = some (.ref a.f_require_place)
  k_require_place : PySem.W.keepIn K (.ref a.f_require_place) = true
  bd_require_place : Binds K a.d_require_place ["thing"] []
  F_require_room : Fun K "require_room" "require_room" s_require_room a.f_require_room a.d_require_room
  m_require_room : mg "require_room" = some (.ref a.f_require_room)
  k_require_room : PySem.W.keepIn K (.ref a.f_require_room) = true
  bd_require_room : Binds K a.d_require_room ["room"] []
  F_cut_of : Fun K "cut_of" "cut_of" s_cut_of a.f_cut_of a.d_cut_of
  m_cut_of : mg "cut_of" = some (.ref a.f_cut_of)
  k_cut_of : PySem.W.keepIn K (.ref a.f_cut_of) = true
  bd_cut_of : Binds K a.d_cut_of ["room", "slots", "end", "applied"] []
  F_law_deck : Fun K "_law_deck" "_law_deck" s_law_deck a.f_law_deck a.d_law_deck
  m__law_deck : mg "_law_deck" = some (.ref a.f_law_deck)
  k__law_deck : PySem.W.keepIn K (.ref a.f_law_deck) = true
  bd__law_deck : Binds K a.d_law_deck ["_law_script"] []
  F_law_take : Fun K "_law_take" "_law_take" s_law_take a.f_law_take a.d_law_take
  m__law_take : mg "_law_take" = some (.ref a.f_law_take)
  k__law_take : PySem.W.keepIn K (.ref a.f_law_take) = true
  bd__law_take : Binds K a.d_law_take ["_law_deck_here", "_law_many"] []
  F_law_same : Fun K "_law_same" "_law_same" s_law_same a.f_law_same a.d_law_same
  m__law_same : mg "_law_same" = some (.ref a.f_law_same)
  k__law_same : PySem.W.keepIn K (.ref a.f_law_same) = true
  bd__law_same : Binds K a.d_law_same ["_law_found", "_law_due_here"] []
  F_law_place : Fun K "_law_place" "_law_place" s_law_place a.f_law_place a.d_law_place
  m__law_place : mg "_law_place" = some (.ref a.f_law_place)
  k__law_place : PySem.W.keepIn K (.ref a.f_law_place) = true
  bd__law_place : Binds K a.d_law_place ["_law_deck_here"] []
  F_law_slots : Fun K "_law_slots" "_law_slots" s_law_slots a.f_law_slots a.d_law_slots
  m__law_slots : mg "_law_slots" = some (.ref a.f_law_slots)
  k__law_slots : PySem.W.keepIn K (.ref a.f_law_slots) = true
  bd__law_slots : Binds K a.d_law_slots ["_law_deck_here", "_law_room", "_law_end"] []
  F_law_due : Fun K "_law_due" "_law_due" s_law_due a.f_law_due a.d_law_due
  m__law_due : mg "_law_due" = some (.ref a.f_law_due)
  k__law_due : PySem.W.keepIn K (.ref a.f_law_due) = true
  bd__law_due : Binds K a.d_law_due ["_law_room", "_law_slots_here", "_law_end", "_law_applied"] []
  F_law_refused : Fun K "_law_refused" "_law_refused" s_law_refused a.f_law_refused a.d_law_refused
  m__law_refused : mg "_law_refused" = some (.ref a.f_law_refused)
  k__law_refused : PySem.W.keepIn K (.ref a.f_law_refused) = true
  bd__law_refused : Binds K a.d_law_refused ["_law_handed", "_law_word", "_law_field"] []
  F_law_odd : Fun K "_law_odd" "_law_odd" s_law_odd a.f_law_odd a.d_law_odd
  m__law_odd : mg "_law_odd" = some (.ref a.f_law_odd)
  k__law_odd : PySem.W.keepIn K (.ref a.f_law_odd) = true
  bd__law_odd : Binds K a.d_law_odd ["_law_deck_here", "_law_least", "_law_most"] []
  F_law : Fun K "law" "law" s_law a.f_law a.d_law
  m_law : mg "law" = some (.ref a.f_law)
  k_law : PySem.W.keepIn K (.ref a.f_law) = true
  bd_law : Binds K a.d_law ["_law_script"] []
  bl_law : ∀ (s : Shared) (u : Value), BindsTo s a.d_law ⟨[u], []⟩ [("_law_script", u)]
section
variable {P : Program} {w : World} {K : PySem.W.Frag} {mg : Str → Option Value} {base : Heap} {a : Adr}
def sp_is_number (K : PySem.W.Frag) : Sp := fun vs H Q _ => ∃ (N : List Addr) (x : V) (d : PyData), vs = [x] ∧ Dt K N H x d ∧ Q (.bl (Mt.numD d)) H
theorem ok_is_number (T : Txt P K mg a)  : FnOk P w K mg base CX0 1 a.f_is_number a.d_is_number ["thing"] (sp_is_number K) := by
  refine T.F_is_number.ok sc_is_number (fun vs H Q E h => ?_) (fun cdv A outer s H vs Q E hr h => ?_)
  · obtain ⟨N, x, d, rfl, _⟩ := h; rfl
  · obtain ⟨N, x, d, rfl, hd, k⟩ := h
    refine exW ⟨_, (qss_one (qs_ret (pe_and (qe_callB cn_isi (by rfl) T.b_isinstance (by decide +kernel) (qa (pv 0 (by rfl) (by walk_at "vis") (by decide) (by decide)) (qa (pe_bltn (by rfl) T.b_int (by decide +kernel) (v := .ty "int") rfl (by decide) (by decide)) qa_nil (by rfl)) (by rfl)) (by decide) (by decide) (by rfl) (by rfl)) (pe_one (pe_not (qe_callB cn_isi (by rfl) T.b_isinstance (by decide +kernel) (qa (pv 0 (by rfl) (by walk_at "vis") (by decide) (by decide)) (qa (pe_bltn (by rfl) T.b_bool (by decide +kernel) (v := .ty "bool") rfl (by decide) (by decide)) qa_nil (by rfl)) (by rfl)) (by decide) (by decide) (by rfl) (by rfl))))))), ?_⟩
    try dsimp only [cxOf]
    walk_at "rd"
    cases d with
    | int i => dsimp only [isIntD]; walk_at "rd"; dsimp only [isBoolD]; walk_at "rd"; exact k
    | bool b => dsimp only [isIntD]; walk_at "rd"; dsimp only [isBoolD]; walk_at "rd"; exact k
    | _ => dsimp only [isIntD]; walk_at "rd"; exact k

def sp_is_within (K : PySem.W.Frag) : Sp := fun vs H Q _ => ∃ (N : List Addr) (x : V) (d : PyData) (lo hi : Int), vs = [x, .int lo, .int hi] ∧ Dt K N H x d ∧ Q (.bl (Mt.withinD lo hi d)) H
theorem ok_is_within (T : Txt P K mg a) (G_is_number : FnOk P w K mg base CX0 1 a.f_is_number a.d_is_number ["thing"] (sp_is_number K)) : FnOk P w K mg base CX0 2 a.f_is_within a.d_is_within ["thing", "least", "most"] (sp_is_within K) := by
  refine T.F_is_within.ok sc_is_within (fun vs H Q E h => ?_) (fun cdv A outer s H vs Q E hr h => ?_)
  · obtain ⟨N, x, d, lo, hi, rfl, _⟩ := h; rfl
  · obtain ⟨N, x, d, lo, hi, rfl, hd, k⟩ := h
    refine exW ⟨_, (qss_one (qs_ret (pe_and (qe_call G_is_number (hr.mono (by decide)) (by rfl) T.m_is_number T.k_is_number T.bd_is_number .nil pass0 (qa (pv 0 (by rfl) (by walk_at "vis") (by decide) (by decide)) qa_nil (by rfl)) (by decide) (by rfl) (by rfl)) (pe_one (pe_chain op_le op_le (pv 1 (by rfl) (by walk_at "vis") (by decide) (by decide)) (pv 0 (by rfl) (by walk_at "vis") (by decide) (by decide)) (pv 2 (by rfl) (by walk_at "vis") (by decide) (by decide)) (by with_unfolding_all rfl)))))), ?_⟩
    try dsimp only [cxOf]
    walk_at "rd"
    refine ⟨N, x, d, rfl, hd, rd_bl' ?_⟩
    cases hd with
    | int i =>
      dsimp only [Mt.numD]
      walk_at "rd"
      refine rd_ite2 (fun hc => ?_) (fun hc => ?_)
      · walk_at "rd"
        simpa only [Mt.withinD, hc, Bool.true_and] using k
      · simpa only [Mt.withinD, hc, Bool.false_and] using k
    | _ => dsimp only [Mt.numD]; walk_at "rd"; exact k

def sp_require_within (K : PySem.W.Frag) (a : Adr) : Sp := fun vs H Q E => ∃ (N : List Addr) (x : V) (d : PyData) (lo hi : Int) (w : Str), vs = [x, .int lo, .int hi, .str w] ∧ Dt K N H x d ∧ (Mt.withinD lo hi d = true → Q .non H) ∧ (Mt.withinD lo hi d = false → ∀ dx, H dx = none → E (.ref a.C_NoCount) (some dx) (upd H dx (.xd [("what", .str w)])))
theorem ok_require_within (T : Txt P K mg a) (G_is_within : FnOk P w K mg base CX0 2 a.f_is_within a.d_is_within ["thing", "least", "most"] (sp_is_within K)) : FnOk P w K mg base (CX1 P w) 3 a.f_require_within a.d_require_within ["thing", "least", "most", "what"] (sp_require_within K a) := by
  refine T.F_require_within.okX sc_require_within (fun vs H Q E h => ?_) (fun cdv A outer s H vs Q E hr h => ?_)
  · obtain ⟨N, x, d, lo, hi, w, rfl, _⟩ := h; rfl
  · obtain ⟨N, x, d, lo, hi, w, rfl, hd, k1, k2⟩ := h
    refine exW ⟨_, (qss_one (qs_if (pt_not (pt_val (qe_call G_is_within (hr.mono (by decide)) (by rfl) T.m_is_within T.k_is_within T.bd_is_within .nil pass0 (qa (pv 0 (by rfl) (by walk_at "vis") (by decide) (by decide)) (qa (pv 1 (by rfl) (by walk_at "vis") (by decide) (by decide)) (qa (pv 2 (by rfl) (by walk_at "vis") (by decide) (by decide)) qa_nil (by rfl)) (by rfl)) (by rfl)) (by decide) (by rfl) (by rfl)) (by intro _; rfl)))
        (qss_one (qs_raise1 px1 (by rfl) (hr.mono (by decide)) (by rfl) T.mC_NoCount T.Z_NoCount (qa (pv 3 (by rfl) (by walk_at "vis") (by decide) (by decide)) qa_nil (by rfl)) (by rfl) (by decide)))
        qss_nil)), ?_⟩
    try dsimp only [cxOf]
    walk_at "rd"
    refine ⟨N, x, d, lo, hi, rfl, hd, ?_⟩
    cases hh : Mt.withinD lo hi d with
    | true =>
      walk_at "rd"
      exact k1 hh
    | false =>
      walk_at "rd"
      exact ⟨_, rfl, k2 hh⟩

def sp_is_place (K : PySem.W.Frag) : Sp := fun vs H Q _ => ∃ (N : List Addr) (x : V) (d : PyData), vs = [x] ∧ Dt K N H x d ∧ Q (.bl (Mt.withinD 0 1000000 d)) H
theorem ok_is_place (T : Txt P K mg a) (G_is_within : FnOk P w K mg base CX0 2 a.f_is_within a.d_is_within ["thing", "least", "most"] (sp_is_within K)) : FnOk P w K mg base CX0 3 a.f_is_place a.d_is_place ["thing"] (sp_is_place K) := by
  refine T.F_is_place.ok sc_is_place (fun vs H Q E h => ?_) (fun cdv A outer s H vs Q E hr h => ?_)
  · obtain ⟨N, x, d, rfl, _⟩ := h; rfl
  · obtain ⟨N, x, d, rfl, hd, k⟩ := h
    refine exW ⟨_, (qss_one (qs_ret (qe_call G_is_within (hr.mono (by decide)) (by rfl) T.m_is_within T.k_is_within T.bd_is_within .nil pass0 (qa (pv 0 (by rfl) (by walk_at "vis") (by decide) (by decide)) (qa pe_int (qa (pe_glob (by rfl) T.c_LAST_PLACE.1 T.c_LAST_PLACE.2 (by decide)) qa_nil (by rfl)) (by rfl)) (by rfl)) (by decide) (by rfl) (by rfl)))), ?_⟩
    try dsimp only [cxOf]
    walk_at "rd"
    exact ⟨N, x, d, 0, 1000000, rfl, hd, k⟩

def sp_require_place (K : PySem.W.Frag) (a : Adr) : Sp := fun vs H Q E => ∃ (N : List Addr) (x : V) (d : PyData), vs = [x] ∧ Dt K N H x d ∧ (Mt.withinD 0 1000000 d = true → Q .non H) ∧ (Mt.withinD 0 1000000 d = false → ∀ dx, H dx = none → E (.ref a.C_NoPlace) (some dx) (upd H dx (.xd [("place", x)])))
theorem ok_require_place (T : Txt P K mg a) (G_is_place : FnOk P w K mg base CX0 3 a.f_is_place a.d_is_place ["thing"] (sp_is_place K)) : FnOk P w K mg base (CX1 P w) 4 a.f_require_place a.d_require_place ["thing"] (sp_require_place K a) := by
  refine T.F_require_place.okX sc_require_place (fun vs H Q E h => ?_) (fun cdv A outer s H vs Q E hr h => ?_)
  · obtain ⟨N, x, d, rfl, _⟩ := h; rfl
  · obtain ⟨N, x, d, rfl, hd, k1, k2⟩ := h
    refine exW ⟨_, (qss_one (qs_if (pt_not (pt_val (qe_call G_is_place (hr.mono (by decide)) (by rfl) T.m_is_place T.k_is_place T.bd_is_place .nil pass0 (qa (pv 0 (by rfl) (by walk_at "vis") (by decide) (by decide)) qa_nil (by rfl)) (by decide) (by rfl) (by rfl)) (by intro _; rfl)))
        (qss_one (qs_raise1 px1 (by rfl) (hr.mono (by decide)) (by rfl) T.mC_NoPlace T.Z_NoPlace (qa (pv 0 (by rfl) (by walk_at "vis") (by decide) (by decide)) qa_nil (by rfl)) (by rfl) (by decide)))
        qss_nil)), ?_⟩
    try dsimp only [cxOf]
    walk_at "rd"
    refine ⟨N, x, d, rfl, hd, ?_⟩
    cases hh : Mt.withinD 0 1000000 d with
    | true =>
      walk_at "rd"
      exact k1 hh
    | false =>
      walk_at "rd"
      exact ⟨_, rfl, k2 hh⟩

def sp_require_room (K : PySem.W.Frag) (a : Adr) : Sp := fun vs H Q E => ∃ (N : List Addr) (x : V) (d : PyData), vs = [x] ∧ Dt K N H x d ∧ (Mt.withinD 1 400 d = true → Q .non H) ∧ (Mt.withinD 1 400 d = false → ∀ dx, H dx = none → E (.ref a.C_NoCount) (some dx) (upd H dx (.xd [("what", .str "room")])))
theorem ok_require_room (T : Txt P K mg a) (G_require_within : FnOk P w K mg base (CX1 P w) 3 a.f_require_within a.d_require_within ["thing", "least", "most", "what"] (sp_require_within K a)) : FnOk P w K mg base (CX1 P w) 4 a.f_require_room a.d_require_room ["room"] (sp_require_room K a) := by
  refine T.F_require_room.okX sc_require_room (fun vs H Q E h => ?_) (fun cdv A outer s H vs Q E hr h => ?_)
  · obtain ⟨N, x, d, rfl, _⟩ := h; rfl
  · obtain ⟨N, x, d, rfl, hd, k1, k2⟩ := h
    refine exW ⟨_, (qss_one (qs_expr (qe_callX G_require_within (hr.mono (by decide)) (by rfl) T.m_require_within T.k_require_within T.bd_require_within .nil px1 (qa (pv 0 (by rfl) (by walk_at "vis") (by decide) (by decide)) (qa pe_int (qa (pe_glob (by rfl) T.c_MOST_ROOM.1 T.c_MOST_ROOM.2 (by decide)) (qa pe_str qa_nil (by rfl)) (by rfl)) (by rfl)) (by rfl)) (by decide) (by rfl) (by rfl)) (by rfl))), ?_⟩
    try dsimp only [cxOf]
    walk_at "rd"
    refine ⟨N, x, d, 1, 400, _, rfl, hd, fun hh => ?_, k2⟩
    walk_at "rd"
    exact k1 hh

def sp_cut_of (K : PySem.W.Frag) (a : Adr) : Sp := fun vs H Q E => ∃ (N : List Addr) (x e y : V) (d1 d2 d3 : PyData) (p : Addr) (ws : List V) (ps : List (Int × Int)), vs = [x, .ref p, e, y] ∧ Dt K N H x d1 ∧ Dt K N H e d2 ∧ Dt K N H y d3 ∧ SqT K H p ws ∧ DtAll K N H ws (ps.map pairD) ∧ ps.length ≤ 8 ∧
  ((Mt.withinD 1 400 d1 = false ∧ ∀ dx, H dx = none → E (.ref a.C_NoCount) (some dx) (upd H dx (.xd [("what", .str "room")]))) ∨
   (Mt.withinD 1 400 d1 = true ∧ Mt.withinD 0 1000000 d2 = false ∧ ∀ dx, H dx = none → E (.ref a.C_NoPlace) (some dx) (upd H dx (.xd [("place", e)]))) ∨
   (∃ en : Int, e = .int en ∧ Mt.withinD 1 400 d1 = true ∧ 0 ≤ en ∧ en ≤ 1000000 ∧ Mt.withinD 0 en d3 = false ∧ ∀ dx, H dx = none → E (.ref a.C_NoPlace) (some dx) (upd H dx (.xd [("place", y)]))) ∨
   (∃ room en app : Int, x = .int room ∧ e = .int en ∧ y = .int app ∧ 1 ≤ room ∧ room ≤ 400 ∧ 0 ≤ en ∧ en ≤ 1000000 ∧ 0 ≤ app ∧ app ≤ en ∧
     ∀ (m : Int) (ns : List Int) (t q : Addr) (H' : Hp), IsCut room en app ps m ns → Same H H' → SqT K H' q (ns.map V.int) → SqT K H' t [.int m, .ref q] → Q (.ref t) H'))
theorem ok_cut_of (T : Txt P K mg a) (G_is_within : FnOk P w K mg base CX0 2 a.f_is_within a.d_is_within ["thing", "least", "most"] (sp_is_within K)) (G_require_place : FnOk P w K mg base (CX1 P w) 4 a.f_require_place a.d_require_place ["thing"] (sp_require_place K a)) (G_require_room : FnOk P w K mg base (CX1 P w) 4 a.f_require_room a.d_require_room ["room"] (sp_require_room K a)) : FnOk P w K mg base (CX1 P w) 5 a.f_cut_of a.d_cut_of ["room", "slots", "end", "applied"] (sp_cut_of K a) := by
  refine T.F_cut_of.okX sc_cut_of (fun vs H Q E h => ?_) (fun cdv A outer s H vs Q E hr h => ?_)
  · obtain ⟨N, x, e, y, d1, d2, d3, p, ws, ps, rfl, _⟩ := h; rfl
  · obtain ⟨N, x, e, y, d1, d2, d3, p, ws, ps, rfl, hx, he, hy, hq, hd, hl, k⟩ := h
    refine exW ⟨_, (qss_cons (qs_expr (qe_callX G_require_room (hr.mono (by decide)) (by rfl) T.m_require_room T.k_require_room T.bd_require_room .nil px1 (qa (pv 0 (by rfl) (by walk_at "vis") (by decide) (by decide)) qa_nil (by rfl)) (by decide) (by rfl) (by rfl)) (by rfl))
      (qss_cons (qs_expr (qe_callX G_require_place (hr.mono (by decide)) (by rfl) T.m_require_place T.k_require_place T.bd_require_place .nil px1 (qa (pv 2 (by rfl) (by walk_at "vis") (by decide) (by decide)) qa_nil (by rfl)) (by decide) (by rfl) (by rfl)) (by rfl))
      (qss_cons (qs_if (pt_not (pt_val (qe_call G_is_within (hr.mono (by decide)) (by rfl) T.m_is_within T.k_is_within T.bd_is_within .nil pass0 (qa (pv 3 (by rfl) (by walk_at "vis") (by decide) (by decide)) (qa pe_int (qa (pv 2 (by rfl) (by walk_at "vis") (by decide) (by decide)) qa_nil (by rfl)) (by rfl)) (by rfl)) (by decide) (by rfl) (by rfl)) (by intro _; rfl)))
        (qss_one (qs_raise1 px1 (by rfl) (hr.mono (by decide)) (by rfl) T.mC_NoPlace T.Z_NoPlace (qa (pv 3 (by rfl) (by walk_at "vis") (by decide) (by decide)) qa_nil (by rfl)) (by rfl) (by decide)))
        qss_nil)
      (qss_cons (by
        refine' qs_setComp (i := 4) (NC := ["house", "place", "room", "end"]) (fr := [none, none, some 0, some 2]) sc_cut_of.nd rfl (Or.inl rfl) ?B1 rfl ?hi1 ?hg1 ?ht1 ?he1 ?hsw1 (by intro _; rfl) (by first | exact Or.inl rfl | exact Or.inr rfl)
        case B1 => exact ⟨rfl, rfl, by decide +kernel, by decide +kernel, rfl, ⟨trivial, trivial, ⟨rfl, rfl, Or.inl rfl⟩, ⟨rfl, rfl, Or.inl rfl⟩, trivial⟩⟩
        case hi1 => exact (pi_tup (pv 1 (by rfl) (by walk_at "vis") (by decide) (by decide)))
        case hg1 => intro _ _ _; exact (pg_tupK (K := K) (n := 2) (by rfl) rfl (pgs_cons (pg_name (i := 0) (show (["house", "place", "room", "end"] : List Str).Nodup by decide +kernel) rfl (Or.inl rfl) (by first | exact Or.inl rfl | exact Or.inr rfl)) (pgs_cons (pg_name (i := 1) (show (["house", "place", "room", "end"] : List Str).Nodup by decide +kernel) rfl (Or.inl rfl) (by first | exact Or.inl rfl | exact Or.inr rfl)) pgs_nil (by rfl)) (by rfl)) (by rfl) (by rfl))
        case ht1 => intro _ _ _; exact (pf_one (pt_cmpR op_lt (pe_op op_add (pv 1 (by rfl) (by walk_at "vis") (by decide) (by decide)) (pv 2 (by rfl) (by walk_at "vis") (by decide) (by decide))) (pv 3 (by rfl) (by walk_at "vis") (by decide) (by decide)) (nomark _)))
        case he1 => intro _ _ _; exact (pv 0 (by rfl) (by walk_at "vis") (by decide) (by decide))
        case hsw1 => rfl)
      (qss_cons (by
        refine' qs_setComp (i := 5) (NC := ["house", "place", "room", "end"]) (fr := [none, none, some 0, some 2]) sc_cut_of.nd rfl (Or.inl rfl) ?B2 rfl ?hi2 ?hg2 ?ht2 ?he2 ?hsw2 (by intro _; rfl) (by first | exact Or.inl rfl | exact Or.inr rfl)
        case B2 => exact ⟨rfl, rfl, by decide +kernel, by decide +kernel, rfl, ⟨trivial, trivial, ⟨rfl, rfl, Or.inl rfl⟩, ⟨rfl, rfl, Or.inl rfl⟩, trivial⟩⟩
        case hi2 => exact (pi_tup (pv 1 (by rfl) (by walk_at "vis") (by decide) (by decide)))
        case hg2 => intro _ _ _; exact (pg_tupK (K := K) (n := 2) (by rfl) rfl (pgs_cons (pg_name (i := 0) (show (["house", "place", "room", "end"] : List Str).Nodup by decide +kernel) rfl (Or.inl rfl) (by first | exact Or.inl rfl | exact Or.inr rfl)) (pgs_cons (pg_name (i := 1) (show (["house", "place", "room", "end"] : List Str).Nodup by decide +kernel) rfl (Or.inl rfl) (by first | exact Or.inl rfl | exact Or.inr rfl)) pgs_nil (by rfl)) (by rfl)) (by rfl) (by rfl))
        case ht2 => intro _ _ _; exact (pf_one (pt_cmpR op_ge (pe_op op_add (pv 1 (by rfl) (by walk_at "vis") (by decide) (by decide)) (pv 2 (by rfl) (by walk_at "vis") (by decide) (by decide))) (pv 3 (by rfl) (by walk_at "vis") (by decide) (by decide)) (nomark _)))
        case he2 => intro _ _ _; exact (pv 1 (by rfl) (by walk_at "vis") (by decide) (by decide))
        case hsw2 => rfl)
      (qss_one (qs_ret (qe_tup (qa (qe_callB (cn_minL (by rfl)) (by rfl) T.b_min (by decide +kernel) (qa (qe_lst (qa_starL (pv 5 (by rfl) (by walk_at "vis") (by decide) (by decide)) (qa (pv 3 (by rfl) (by walk_at "vis") (by decide) (by decide)) qa_nil (by rfl)))) qa_nil (by rfl)) (by decide) (by decide) (by rfl) (by rfl)) (qa (qe_callTy cn_tuple (by rfl) T.b_tuple (by decide +kernel) (qa (qe_callB cn_sort (by rfl) T.b_sorted (by decide +kernel) (qa (pv 4 (by rfl) (by walk_at "vis") (by decide) (by decide)) qa_nil (by rfl)) (by decide) (by decide) (by rfl) (by rfl)) qa_nil (by rfl)) (by decide) (by decide) (by rfl) (by rfl)) qa_nil (by rfl)) (by rfl)))))))))), ?_⟩
    try dsimp only [cxOf]
    walk_at "rd"
    rcases k with ⟨h1, k⟩ | ⟨h1, h2, k⟩ | ⟨en, rfl, h1, e0, e1, h3, k⟩ | ⟨room, en, app, rfl, rfl, rfl, r0, r1, e0, e1, a0, a1, k⟩
    · exact ⟨N, x, d1, rfl, hx, fun q => (by rw [h1] at q; cases q), fun _ => k⟩
    · refine ⟨N, x, d1, rfl, hx, fun _ => ?_, fun q => (by rw [h1] at q; cases q)⟩
      walk_at "rd"
      exact ⟨N, e, d2, rfl, he, fun q => (by rw [h2] at q; cases q), fun _ => k⟩
    · refine ⟨N, x, d1, rfl, hx, fun _ => ?_, fun q => (by rw [h1] at q; cases q)⟩
      walk_at "rd"
      refine ⟨[], .int en, .int en, rfl, .int en, fun _ => ?_, fun q => by simp [Mt.withinD] at q; omega⟩
      walk_at "rd"
      refine ⟨N, y, d3, 0, en, rfl, hy, ?_⟩
      rw [h3]
      walk_at "rd"
      exact ⟨_, rfl, k⟩
    · refine ⟨[], .int room, .int room, rfl, .int room, fun _ => ?_, fun q => by simp [Mt.withinD] at q; omega⟩
      walk_at "rd"
      refine ⟨[], .int en, .int en, rfl, .int en, fun _ => ?_, fun q => by simp [Mt.withinD] at q; omega⟩
      walk_at "rd"
      refine ⟨[], .int app, .int app, 0, en, rfl, .int app, ?_⟩
      rw [show Mt.withinD 0 en (.int app) = true by simp [Mt.withinD]; omega]
      walk_at "rd"
      refine ⟨p, rfl, ⟨_, hq⟩, ?_⟩
      intro ac1 na1 ka1
      refine comp_pairs ps ws (fun p => decide (p.2 + room < en)) (·.1) (fun σ => ∃ o1 o2, σ = [o1, o2, some (.int room), some (.int en)]) (by omega) na1 ⟨none, none, rfl⟩ hq hd ?_ ?_
      · rintro pp q σc H2 R S hm hp sm ⟨o1, o2, rfl⟩ hR hS
        walk_at "rd"
        refine rd_ite2 (fun hc => ?_) (fun hc => ?_)
        · walk_at "rd"
          exact hR hc _ ⟨_, _, rfl⟩
        · exact hS hc _ ⟨_, _, rfl⟩
      · intro H2 s2 g2
        walk_at "rd"
        have hq2 := s2.tupS hq
        have hd2 := hd.ext (Ext.same (N := N) s2)
        refine ⟨p, rfl, ⟨_, hq2⟩, ?_⟩
        intro ac2 na2 ka2
        refine comp_pairs ps ws (fun p => decide (p.2 + room ≥ en)) (·.2) (fun σ => ∃ o1 o2, σ = [o1, o2, some (.int room), some (.int en)]) (by omega) na2 ⟨none, none, rfl⟩ hq2 hd2 ?_ ?_
        · rintro pp q σc H3 R S hm hp sm ⟨o1, o2, rfl⟩ hR hS
          walk_at "rd"
          refine rd_ite2 (fun hc => ?_) (fun hc => ?_)
          · walk_at "rd"
            exact hR hc _ ⟨_, _, rfl⟩
          · exact hS hc _ ⟨_, _, rfl⟩
        · intro H3 s3 g3
          walk_at "rd"
          refine ⟨ac2, _, rfl, SqL.of g3, ?_⟩
          walk_at "rd"
          have ll : List.map V.int (List.map (fun x => x.2) (List.filter (fun p => decide (p.2 + room ≥ en)) ps)) ++ [V.int app] = (leftL room en ps ++ [app]).map V.int := by rw [List.map_append]; rfl
          rw [ll]
          refine ⟨sz (by have := left_len room en ps; simp; omega), fun l4 n4 => ?_⟩
          walk_at "rd"
          refine rd_minL (ns := leftL room en ps ++ [app]) (SqL.of upd_same) (by simp) fun m hm1 hm2 => ?_
          walk_at "rd"
          have g2' : SqL K (upd H3 l4 (.lst ((leftL room en ps ++ [app]).map V.int))) ac1 ((brokL room en ps).map V.int) := SqL.of ((s3.trans (Same.upd n4)) _ _ g2)
          have hbl : (brokL room en ps).length ≤ ps.length := by unfold brokL; rw [List.length_map]; exact List.length_filter_le _ _
          refine rd_sort g2' (by omega) fun l5 ns n5 hp hs => ?_
          walk_at "rd"
          intro l6 n6
          walk_at "rd"
          refine ⟨sz (by simp), fun l7 n7 => ?_⟩
          refine k m ns l7 l6 _ ⟨hm1, hm2, hp, hs⟩ ((((s2.trans s3).trans (Same.upd n4)).trans (Same.upd n5)).trans ((Same.upd n6).trans (Same.upd n7))) ?_ (SqT.of upd_same)
          exact (Same.upd n7).tupS (SqT.of upd_same)

def sp_law_deck (K : PySem.W.Frag) : Sp := fun vs H Q _ => ∃ (p : Addr) (ns : List Int), vs = [.ref p] ∧ SqL K H p (ns.map V.int) ∧ ns.length ≤ 63 ∧ ∀ (st c r : Addr) (H' : Hp), Dk H' st c r 0 → Same H H' → H st = none → Q (.ref st) H'
theorem ok_law_deck (T : Txt P K mg a)  : FnOk P w K mg base CX0 1 a.f_law_deck a.d_law_deck ["_law_script"] (sp_law_deck K) := by
  refine T.F_law_deck.ok sc_law_deck (fun vs H Q E h => ?_) (fun cdv A outer s H vs Q E hr h => ?_)
  · obtain ⟨p, ns, rfl, _⟩ := h; rfl
  · obtain ⟨p, ns, rfl, hq, hl, k⟩ := h
    refine exW ⟨_, (qss_cons (qs_set (i := 1) sc_law_deck.nd rfl (Or.inl rfl) (pe_op op_cat (qe_callTy cn_list (by rfl) T.b_list (by decide +kernel) (qa (pe_slice sl_list (pv 0 (by rfl) (by walk_at "vis") (by decide) (by decide)) po_none (po_some pe_int)) qa_nil (by rfl)) (by decide) (by decide) (by rfl) (by rfl)) (pe_op op_rep (qe_lst (qa pe_int qa_nil (by rfl))) (qe_callTy cn_int (by rfl) T.b_int (by decide +kernel) (qa (pe_cmpR op_eq (qe_callB cn_len (by rfl) T.b_len (by decide +kernel) (qa (pv 0 (by rfl) (by walk_at "vis") (by decide) (by decide)) qa_nil (by rfl)) (by decide) (by decide) (by rfl) (by rfl)) pe_int (nomark _)) qa_nil (by rfl)) (by decide) (by decide) (by rfl) (by rfl)))) (by rfl) (by first | exact Or.inl rfl | exact Or.inr rfl))
      (qss_one (qs_ret (qe_lst (qa (pv 1 (by rfl) (by walk_at "vis") (by decide) (by decide)) (qa pe_int (qa (by
        refine' pe_comp (NC := ["_law_cell"]) (fr := [none]) ?B3 rfl ?hi3 ?hg3 ?ht3 ?he3 (by intro _; rfl)
        case B3 => exact ⟨rfl, rfl, by decide +kernel, by decide +kernel, rfl, ⟨trivial, trivial⟩⟩
        case hi3 => exact (pi_list (pv 1 (by rfl) (by walk_at "vis") (by decide) (by decide)))
        case hg3 => intro _ _ _; exact (pg_name (i := 0) (show (["_law_cell"] : List Str).Nodup by decide +kernel) rfl (Or.inl rfl) (by first | exact Or.inl rfl | exact Or.inr rfl))
        case ht3 => intro _ _ _; exact pf_nil
        case he3 => intro _ _ _; exact (pe_op op_mul (pv 0 (by rfl) (by walk_at "vis") (by decide) (by decide)) (qe_callTy cn_int (by rfl) T.b_int (by decide +kernel) (qa (pe_cmpR op_ge (pv 0 (by rfl) (by walk_at "vis") (by decide) (by decide)) (pe_op op_pow pe_int pe_int) (nomark _)) qa_nil (by rfl)) (by decide) (by decide) (by rfl) (by rfl)))) qa_nil (by rfl)) (by rfl)) (by rfl)))))), ?_⟩
    try dsimp only [cxOf]
    walk_at "rd"
    intro l1 n1
    rw [show (some (63 : Int)) = some ((63 : Nat) : Int) from rfl, cutV_take, List.take_of_length_le (by simpa using hl)]
    walk_at "rd"
    intro l2 n2
    have s2 : Same H (upd (upd H l1 (.lst (ns.map V.int))) l2 (.lst (ns.map V.int))) := (Same.upd n1).trans (Same.upd n2)
    have g2 : upd (upd H l1 (.lst (ns.map V.int))) l2 (.lst (ns.map V.int)) l2 = some (.lst (ns.map V.int)) := upd_same
    generalize (upd (upd H l1 (.lst (ns.map V.int))) l2 (.lst (ns.map V.int))) = H2 at s2 g2 ⊢
    walk_at "rd"
    refine ⟨sz (by simp), fun l3 n3 => ?_⟩
    have hq3 : SqL K (upd H2 l3 (.lst [.int 0])) p (ns.map V.int) := (Ext.same (N := []) (s2.trans (Same.upd n3))).lst hq (by simp)
    walk_at "rd"
    refine ⟨l3, _, [.int 0], rfl, rfl, upd_same, by split <;> decide, by split <;> decide, by split <;> decide, fun l4 n4 => ?_⟩
    have g4 : upd (upd H2 l3 (.lst [.int 0])) l4 (.lst (List.replicate ((if decide (V.int ((ns.map V.int).length : Int) = V.int 0) = true then (1 : Int) else 0)).toNat [V.int 0]).flatten) l2 = some (.lst (ns.map V.int)) := by
      rw [upd_ne (ne_of_none ((Same.upd n3) _ _ g2) n4), upd_ne (ne_of_none g2 n3)]; exact g2
    have s4 : Same H (upd (upd H2 l3 (.lst [.int 0])) l4 (.lst (List.replicate ((if decide (V.int ((ns.map V.int).length : Int) = V.int 0) = true then (1 : Int) else 0)).toNat [V.int 0]).flatten)) := (s2.trans (Same.upd n3)).trans (Same.upd n4)
    obtain ⟨cs, hcs, hc1, hc2⟩ : ∃ cs : List Int, ns.map V.int ++ (List.replicate ((if decide (V.int ((ns.map V.int).length : Int) = V.int 0) = true then (1 : Int) else 0)).toNat [V.int 0]).flatten = cs.map V.int ∧ 1 ≤ cs.length ∧ cs.length ≤ 63 := by
      cases ns with
      | nil => exact ⟨[0], by simp, by decide, by decide⟩
      | cons n ns =>
        have e : decide (V.int (((n :: ns).map V.int).length : Int) = V.int 0) = false := decide_eq_false fun z => by injection z with z; rw [List.length_map, List.length_cons] at z; omega
        exact ⟨n :: ns, by rw [e]; simp, by simp, hl⟩
    have z4 : upd (upd H2 l3 (.lst [.int 0])) l4 (.lst (List.replicate ((if decide (V.int ((ns.map V.int).length : Int) = V.int 0) = true then (1 : Int) else 0)).toNat [V.int 0]).flatten) l4 = some (.lst (List.replicate ((if decide (V.int ((ns.map V.int).length : Int) = V.int 0) = true then (1 : Int) else 0)).toNat [V.int 0]).flatten) := upd_same
    generalize (List.replicate ((if decide (V.int ((ns.map V.int).length : Int) = V.int 0) = true then (1 : Int) else 0)).toNat [V.int 0]).flatten = zs at hcs z4 g4 s4 ⊢
    generalize upd (upd H2 l3 (.lst [.int 0])) l4 (.lst zs) = H4 at z4 g4 s4 ⊢
    refine ⟨l2, l4, _, _, rfl, rfl, g4, z4, by rw [← List.length_append, hcs, List.length_map]; exact sz (by omega), fun l5 n5 => ?_⟩
    rw [hcs]
    have s5 := s4.trans (Same.upd (o := .lst (cs.map V.int)) n5)
    have g5 : upd H4 l5 (.lst (cs.map V.int)) l5 = some (.lst (cs.map V.int)) := upd_same
    generalize upd H4 l5 (.lst (cs.map V.int)) = H5 at s5 g5 ⊢
    walk_at "rd"
    refine ⟨l5, rfl, ⟨_, SqL.of g5⟩, ?_⟩
    intro acc na ka
    refine comp_by cs.length (small1000 (by omega)) (fun i vs σc H' => Same H5 H' ∧ (∃ o, σc = [o]) ∧ ∃ rs : List Int, vs = rs.map V.int) ?_ ?_ ?_
    · exact ⟨Same.upd na, ⟨none, rfl⟩, [], rfl⟩
    · rintro i vs σc H' hi hl ha ⟨sm, ⟨o, rfl⟩, rs, rfl⟩
      have hL : SqL K H' l5 (cs.map V.int) := SqL.of (sm _ _ g5)
      have ex : (cs.map V.int)[i]? = some (.int cs[i]) := by simp [hi]
      refine ⟨⟨_, _, hL, ex⟩, ?_⟩
      rintro x H6 ⟨rfl, hx⟩ R hR
      have e2 := hx _ hL
      rw [ex] at e2; cases e2
      walk_at "rd"
      refine hR _ _ _ ha ⟨fun b u e => ?_, ⟨_, rfl⟩, rs ++ [_], by rw [List.map_append]; rfl⟩
      rw [upd_ne (ne_of_none e na)]; exact sm b u e
    · rintro vs σc H' hl ha ⟨sm, _, rs, rfl⟩
      refine ⟨⟨_, SqL.of (sm _ _ g5), by simp⟩, ?_⟩
      walk_at "rd"
      refine ⟨sz (by simp), fun l6 n6 => ?_⟩
      have nc : l5 ≠ acc := ne_of_none g5 na
      have n65 : l5 ≠ l6 := ne_of_none (sm _ _ g5) n6
      have n6a : acc ≠ l6 := ne_of_none ha n6
      refine k l6 l5 acc _ ⟨cs, rs, 0, upd_same, by rw [upd_ne n65]; exact sm _ _ g5, by rw [upd_ne n6a]; exact ha, n65, nc, n6a, hc1, hc2, by simpa using hl, Int.le_refl _, Int.le_refl _⟩ ((s5.trans sm).trans (Same.upd n6)) (s5.free (sm.free n6))

def sp_law_take (K : PySem.W.Frag) : Sp := fun vs H Q _ => ∃ (st c r : Addr) (m : Nat) (b : Int), vs = [.ref st, .int b] ∧ Dk H st c r m ∧ m < 1000000000 ∧ 0 < b ∧ b < 1073741824 ∧
  ∀ (v : Int) (H' : Hp), 0 ≤ v → v < b → Dk H' st c r (m + 1) → Ext [st, r] H H' → Q (.int v) H'
theorem ok_law_take (T : Txt P K mg a)  : FnOk P w K mg base CX0 1 a.f_law_take a.d_law_take ["_law_deck_here", "_law_many"] (sp_law_take K) := by
  refine T.F_law_take.ok sc_law_take (fun vs H Q E h => ?_) (fun cdv A outer s H vs Q E hr h => ?_)
  · obtain ⟨st, c, r, m, b, rfl, _⟩ := h; rfl
  · obtain ⟨st, c, r, m, b, rfl, S, hm, hb0, hb1, k⟩ := h
    obtain ⟨cs, rs, n, h1, h2h, h3h, h4, h5, h6, h7, h8, h9, h10, h11⟩ := S.ex
    have h2 : SqL K H c (cs.map V.int) := SqL.of h2h
    have q1 : SqL K H st [.ref c, .int n, .ref r] := SqL.of h1
    refine exW ⟨_, (qss_cons (qs_asg (pv 0 (by rfl) (by walk_at "vis") (by decide) (by decide)) (pg_lst (n := 3) rfl (pgs_cons (pg_name (i := 2) (show (["_law_deck_here", "_law_many", "_law_cells", "_law_count", "_law_rests", "_law_place_here", "_law_digits", "_law_mixed"] : List Str).Nodup by decide +kernel) rfl (Or.inl rfl) (by first | exact Or.inl rfl | exact Or.inr rfl)) (pgs_cons (pg_name (i := 3) (show (["_law_deck_here", "_law_many", "_law_cells", "_law_count", "_law_rests", "_law_place_here", "_law_digits", "_law_mixed"] : List Str).Nodup by decide +kernel) rfl (Or.inl rfl) (by first | exact Or.inl rfl | exact Or.inr rfl)) (pgs_cons (pg_name (i := 4) (show (["_law_deck_here", "_law_many", "_law_cells", "_law_count", "_law_rests", "_law_place_here", "_law_digits", "_law_mixed"] : List Str).Nodup by decide +kernel) rfl (Or.inl rfl) (by first | exact Or.inl rfl | exact Or.inr rfl)) pgs_nil (by rfl)) (by rfl)) (by rfl)) (by rfl) (by rfl)) (by rfl) (by rfl) (by rfl))
      (qss_cons (qs_set (i := 5) sc_law_take.nd rfl (Or.inl rfl) (pe_op op_mod (pv 3 (by rfl) (by walk_at "vis") (by decide) (by decide)) (qe_callB cn_len (by rfl) T.b_len (by decide +kernel) (qa (pv 2 (by rfl) (by walk_at "vis") (by decide) (by decide)) qa_nil (by rfl)) (by decide) (by decide) (by rfl) (by rfl))) (by rfl) (by first | exact Or.inl rfl | exact Or.inr rfl))
      (qss_cons (qs_asg (pe_op op_add (pv 3 (by rfl) (by walk_at "vis") (by decide) (by decide)) pe_int) (pg_sub (pv 0 (by rfl) (by walk_at "vis") (by decide) (by decide)) pe_int set_list (by intro _; rfl)) (by rfl) (by rfl) (by rfl))
      (qss_cons (qs_if (pt_cmpR op_gt (pe_ix ix_list (pv 4 (by rfl) (by walk_at "vis") (by decide) (by decide)) (pv 5 (by rfl) (by walk_at "vis") (by decide) (by decide)) (fun _ _ => rfl)) pe_int (nomark _))
        (qss_cons (qs_set (i := 6) sc_law_take.nd rfl (Or.inl rfl) (pe_ix ix_list (pv 4 (by rfl) (by walk_at "vis") (by decide) (by decide)) (pv 5 (by rfl) (by walk_at "vis") (by decide) (by decide)) (fun _ _ => rfl)) (by rfl) (by first | exact Or.inl rfl | exact Or.inr rfl))
        (qss_cons (qs_asg (pe_op op_fdiv (pv 6 (by rfl) (by walk_at "vis") (by decide) (by decide)) (pv 1 (by rfl) (by walk_at "vis") (by decide) (by decide))) (pg_sub (pv 4 (by rfl) (by walk_at "vis") (by decide) (by decide)) (pv 5 (by rfl) (by walk_at "vis") (by decide) (by decide)) set_list (by intro _; rfl)) (by rfl) (by rfl) (by rfl))
        (qss_one (qs_ret (pe_op op_mod (pv 6 (by rfl) (by walk_at "vis") (by decide) (by decide)) (pv 1 (by rfl) (by walk_at "vis") (by decide) (by decide)))))))
        qss_nil)
      (qss_cons (qs_set (i := 7) sc_law_take.nd rfl (Or.inl rfl) (pe_op op_mod (pe_op op_add (pe_op op_mul (pe_op op_mod (pe_ix ix_list (pv 2 (by rfl) (by walk_at "vis") (by decide) (by decide)) (pv 5 (by rfl) (by walk_at "vis") (by decide) (by decide)) (fun _ _ => rfl)) pe_int) pe_int) (pe_op op_mul (pe_op op_mul (pe_op op_add (pv 3 (by rfl) (by walk_at "vis") (by decide) (by decide)) pe_int) (pe_op op_add (pv 3 (by rfl) (by walk_at "vis") (by decide) (by decide)) pe_int)) pe_int)) pe_int) (by rfl) (by first | exact Or.inl rfl | exact Or.inr rfl))
      (qss_cons (qs_set (i := 7) sc_law_take.nd rfl (Or.inl rfl) (pe_op op_mod (pe_op op_pow (pv 7 (by rfl) (by walk_at "vis") (by decide) (by decide)) pe_int) pe_int) (by rfl) (by first | exact Or.inl rfl | exact Or.inr rfl))
      (qss_cons (qs_set (i := 7) sc_law_take.nd rfl (Or.inl rfl) (pe_op op_mod (pe_op op_pow (pe_op op_add (pe_op op_add (pv 7 (by rfl) (by walk_at "vis") (by decide) (by decide)) (pe_op op_mul pe_int (pv 3 (by rfl) (by walk_at "vis") (by decide) (by decide)))) pe_int) pe_int) pe_int) (by rfl) (by first | exact Or.inl rfl | exact Or.inr rfl))
      (qss_one (qs_ret (pe_op op_mod (pe_op op_fdiv (pv 7 (by rfl) (by walk_at "vis") (by decide) (by decide)) pe_int) (pv 1 (by rfl) (by walk_at "vis") (by decide) (by decide)))))))))))), ?_⟩
    try dsimp only [cxOf]
    walk_at "rd"
    have hlm : ((cs.map V.int).length : Int) = cs.length := by rw [List.length_map]
    have hl0 : (0 : Int) < (cs.map V.int).length := by omega
    walk_at "rd"
    have i0 := Int.emod_nonneg n (b := ((cs.map V.int).length : Int)) (by omega)
    have i1 := Int.emod_lt_of_pos n hl0
    generalize n % ((cs.map V.int).length : Int) = i at i0 i1 ⊢
    obtain ⟨j, rfl⟩ := Int.eq_ofNat_of_zero_le i0
    have hj : j < cs.length := by omega
    obtain ⟨y, hy, _⟩ := atI_ints (ns := rs) (i := (j : Int)) i0 (by omega)
    obtain ⟨x, hx, _⟩ := atI_ints (ns := cs) (i := (j : Int)) i0 (by omega)
    have e1 : Ext [st, r] H (upd H st (.lst ([V.ref c, .int n, .ref r].set (Int.toNat 1) (.int (n + 1))))) := Ext.at (by simp)
    have h3' : upd H st (.lst ([V.ref c, .int n, .ref r].set (Int.toNat 1) (.int (n + 1)))) r = some (.lst (rs.map V.int)) := by rw [upd_ne h6]; exact h3h
    have h2' : upd H st (.lst ([V.ref c, .int n, .ref r].set (Int.toNat 1) (.int (n + 1)))) c = some (.lst (cs.map V.int)) := by rw [upd_ne h4]; exact h2h
    have h1' : upd H st (.lst ([V.ref c, .int n, .ref r].set (Int.toNat 1) (.int (n + 1)))) st = some (.lst [.ref c, .int (n + 1), .ref r]) := upd_same
    generalize upd H st (.lst ([V.ref c, .int n, .ref r].set (Int.toNat 1) (.int (n + 1)))) = H1 at e1 h3' h2' h1' ⊢
    have fin : ∀ v, 0 ≤ v → v < b → Q (.int v) H1 := fun v g1 g2 => k v H1 g1 g2 ⟨cs, rs, n + 1, h1', h2', h3', h4, h5, h6, h7, h8, h9, by omega, by omega⟩ e1
    refine rd_ixL (SqL.of h3') hy ?_
    walk_at "rd"
    refine rd_ite2 (fun hc => ?_) (fun hc => ?_)
    · walk_at "rd"
      refine rd_ixL (SqL.of h3') hy ?_
      walk_at "rd"
      refine rd_setL h3' (ixN_nat (by simp; omega)) ?_
      walk_at "rd"
      have e2 : (rs.map V.int).set j (.int (y / b)) = (rs.set j (y / b)).map V.int := by rw [List.map_set]
      rw [e2]
      refine k _ _ (Int.emod_nonneg _ (by omega)) (Int.emod_lt_of_pos _ hb0) ⟨cs, rs.set j (y / b), n + 1, ?_, ?_, upd_same, h4, h5, h6, h7, h8, by rw [List.length_set]; exact h9, by omega, by omega⟩ (e1.trans (Ext.at (by simp)))
      · rw [upd_ne (Ne.symm h6)]; exact h1'
      · rw [upd_ne h5]; exact h2'
    · walk_at "rd"
      refine rd_ixL (SqL.of h2') hx ?_
      walk_at "rd"
      exact fin _ (Int.emod_nonneg _ (by omega)) (Int.emod_lt_of_pos _ hb0)

def spr_law_same (K : PySem.W.Frag) (m : Nat) : Sp := fun vs H Q _ => ∃ (N : List Addr) (x y : V) (d : PyData), vs = [x, y] ∧ Dt K N H x d ∧ Dt K N H y d ∧ (Mt.tupB d = true ∨ d = .list []) ∧ d.depth < m ∧ ∀ H', Same H H' → Q (.bl true) H'
theorem spr_law_same_zero {K : PySem.W.Frag} {vs : List V} {H : Hp} {Q : VK} {E : XK} : ¬ spr_law_same K 0 vs H Q E := fun ⟨_, _, _, _, _, _, _, _, h, _⟩ => absurd h (Nat.not_lt_zero _)
def sp_law_same (K : PySem.W.Frag) : Sp := spr_law_same K 3
theorem okr_law_same (T : Txt P K mg a) {k m : Nat} (G__law_same : FnOk P w K mg base CX0 k a.f_law_same a.d_law_same ["_law_found", "_law_due_here"] (spr_law_same K m))  : FnOk P w K mg base CX0 (k + 1) a.f_law_same a.d_law_same ["_law_found", "_law_due_here"] (spr_law_same K (m + 1)) := by
  refine T.F_law_same.ok sc_law_same (fun vs H Q E h => ?_) (fun cdv A outer s H vs Q E hr h => ?_)
  · obtain ⟨N, x, y, d, rfl, _⟩ := h; rfl
  · obtain ⟨N, x, y, d, rfl, hx, hy, ht, hm, k⟩ := h
    refine exW ⟨_, (qss_cons (qs_if (pt_cmpR on_isN (pv 1 (by rfl) (by walk_at "vis") (by decide) (by decide)) pe_non (nomark _))
        (qss_one (qs_ret (pe_cmpR on_isN (pv 0 (by rfl) (by walk_at "vis") (by decide) (by decide)) pe_non (nomark _))))
        qss_nil)
      (qss_cons (qs_if (pw_or (pt_val (qe_callB cn_isi (by rfl) T.b_isinstance (by decide +kernel) (qa (pv 1 (by rfl) (by walk_at "vis") (by decide) (by decide)) (qa (pe_bltn (by rfl) T.b_bool (by decide +kernel) (v := .ty "bool") rfl (by decide) (by decide)) qa_nil (by rfl)) (by rfl)) (by decide) (by decide) (by rfl) (by rfl)) (by intro _; rfl)) (pw_or1 (pt_val (qe_callB cn_isi (by rfl) T.b_isinstance (by decide +kernel) (qa (pv 0 (by rfl) (by walk_at "vis") (by decide) (by decide)) (qa (pe_bltn (by rfl) T.b_bool (by decide +kernel) (v := .ty "bool") rfl (by decide) (by decide)) qa_nil (by rfl)) (by rfl)) (by decide) (by decide) (by rfl) (by rfl)) (by intro _; rfl)))).pt
        (qss_one (qs_ret (pe_and (qe_callB cn_isi (by rfl) T.b_isinstance (by decide +kernel) (qa (pv 0 (by rfl) (by walk_at "vis") (by decide) (by decide)) (qa (pe_bltn (by rfl) T.b_bool (by decide +kernel) (v := .ty "bool") rfl (by decide) (by decide)) qa_nil (by rfl)) (by rfl)) (by decide) (by decide) (by rfl) (by rfl)) (pe_and (qe_callB cn_isi (by rfl) T.b_isinstance (by decide +kernel) (qa (pv 1 (by rfl) (by walk_at "vis") (by decide) (by decide)) (qa (pe_bltn (by rfl) T.b_bool (by decide +kernel) (v := .ty "bool") rfl (by decide) (by decide)) qa_nil (by rfl)) (by rfl)) (by decide) (by decide) (by rfl) (by rfl)) (pe_one (pe_cmpR op_eq (pv 0 (by rfl) (by walk_at "vis") (by decide) (by decide)) (pv 1 (by rfl) (by walk_at "vis") (by decide) (by decide)) (nomark _)))))))
        qss_nil)
      (qss_cons (qs_if (pt_val (qe_callB cn_isi (by rfl) T.b_isinstance (by decide +kernel) (qa (pv 1 (by rfl) (by walk_at "vis") (by decide) (by decide)) (qa (pe_bltn (by rfl) T.b_int (by decide +kernel) (v := .ty "int") rfl (by decide) (by decide)) qa_nil (by rfl)) (by rfl)) (by decide) (by decide) (by rfl) (by rfl)) (by intro _; rfl))
        (qss_one (qs_ret (pe_and (qe_callB cn_isi (by rfl) T.b_isinstance (by decide +kernel) (qa (pv 0 (by rfl) (by walk_at "vis") (by decide) (by decide)) (qa (pe_bltn (by rfl) T.b_int (by decide +kernel) (v := .ty "int") rfl (by decide) (by decide)) qa_nil (by rfl)) (by rfl)) (by decide) (by decide) (by rfl) (by rfl)) (pe_one (pe_cmpR op_eq (pv 0 (by rfl) (by walk_at "vis") (by decide) (by decide)) (pv 1 (by rfl) (by walk_at "vis") (by decide) (by decide)) (nomark _))))))
        qss_nil)
      (qss_cons (qs_if (pt_val (qe_callB cn_isi (by rfl) T.b_isinstance (by decide +kernel) (qa (pv 1 (by rfl) (by walk_at "vis") (by decide) (by decide)) (qa (pe_bltn (by rfl) T.b_str (by decide +kernel) (v := .ty "str") rfl (by decide) (by decide)) qa_nil (by rfl)) (by rfl)) (by decide) (by decide) (by rfl) (by rfl)) (by intro _; rfl))
        (qss_one (qs_ret (pe_and (qe_callB cn_isi (by rfl) T.b_isinstance (by decide +kernel) (qa (pv 0 (by rfl) (by walk_at "vis") (by decide) (by decide)) (qa (pe_bltn (by rfl) T.b_str (by decide +kernel) (v := .ty "str") rfl (by decide) (by decide)) qa_nil (by rfl)) (by rfl)) (by decide) (by decide) (by rfl) (by rfl)) (pe_one (pe_cmpR op_eq (pv 0 (by rfl) (by walk_at "vis") (by decide) (by decide)) (pv 1 (by rfl) (by walk_at "vis") (by decide) (by decide)) (nomark _))))))
        qss_nil)
      (qss_cons (qs_if (pw_or (pt_cmpR op_ne (qe_callB cn_isi (by rfl) T.b_isinstance (by decide +kernel) (qa (pv 1 (by rfl) (by walk_at "vis") (by decide) (by decide)) (qa (pe_bltn (by rfl) T.b_list (by decide +kernel) (v := .ty "list") rfl (by decide) (by decide)) qa_nil (by rfl)) (by rfl)) (by decide) (by decide) (by rfl) (by rfl)) (qe_callB cn_isi (by rfl) T.b_isinstance (by decide +kernel) (qa (pv 0 (by rfl) (by walk_at "vis") (by decide) (by decide)) (qa (pe_bltn (by rfl) T.b_list (by decide +kernel) (v := .ty "list") rfl (by decide) (by decide)) qa_nil (by rfl)) (by rfl)) (by decide) (by decide) (by rfl) (by rfl)) (nomark _)) (pw_or1 (pt_cmpR op_ne (qe_callB cn_isi (by rfl) T.b_isinstance (by decide +kernel) (qa (pv 1 (by rfl) (by walk_at "vis") (by decide) (by decide)) (qa (pe_bltn (by rfl) T.b_tuple (by decide +kernel) (v := .ty "tuple") rfl (by decide) (by decide)) qa_nil (by rfl)) (by rfl)) (by decide) (by decide) (by rfl) (by rfl)) (qe_callB cn_isi (by rfl) T.b_isinstance (by decide +kernel) (qa (pv 0 (by rfl) (by walk_at "vis") (by decide) (by decide)) (qa (pe_bltn (by rfl) T.b_tuple (by decide +kernel) (v := .ty "tuple") rfl (by decide) (by decide)) qa_nil (by rfl)) (by rfl)) (by decide) (by decide) (by rfl) (by rfl)) (nomark _)))).pt
        (qss_one (qs_ret pe_bl))
        qss_nil)
      (qss_cons (qs_if (pt_cmpR op_ne (qe_callB cn_len (by rfl) T.b_len (by decide +kernel) (qa (pv 0 (by rfl) (by walk_at "vis") (by decide) (by decide)) qa_nil (by rfl)) (by decide) (by decide) (by rfl) (by rfl)) (qe_callB cn_len (by rfl) T.b_len (by decide +kernel) (qa (pv 1 (by rfl) (by walk_at "vis") (by decide) (by decide)) qa_nil (by rfl)) (by decide) (by decide) (by rfl) (by rfl)) (nomark _))
        (qss_one (qs_ret pe_bl))
        qss_nil)
      (qss_cons (qs_for PassesOwn.never rfl (qi_zipM (by rfl) T.b_zip (qa (pv 0 (by rfl) (by walk_at "vis") (by decide) (by decide)) (qa (pv 1 (by rfl) (by walk_at "vis") (by decide) (by decide)) qa_nil (by rfl)) (by rfl)) (by rfl) (by rfl)) (pg_tup (n := 2) rfl (pgs_cons (pg_name (i := 2) (show (["_law_found", "_law_due_here", "_law_one", "_law_other"] : List Str).Nodup by decide +kernel) rfl (Or.inl rfl) (by first | exact Or.inl rfl | exact Or.inr rfl)) (pgs_cons (pg_name (i := 3) (show (["_law_found", "_law_due_here", "_law_one", "_law_other"] : List Str).Nodup by decide +kernel) rfl (Or.inl rfl) (by first | exact Or.inl rfl | exact Or.inr rfl)) pgs_nil (by rfl)) (by rfl)) (by rfl) (by rfl))
        (qss_one (qs_if (pt_not (pt_val (qe_call G__law_same (hr.mono (Nat.le_refl _)) (by rfl) T.m__law_same T.k__law_same T.bd__law_same .nil pass0 (qa (pv 2 (by rfl) (by walk_at "vis") (by decide) (by decide)) (qa (pv 3 (by rfl) (by walk_at "vis") (by decide) (by decide)) qa_nil (by rfl)) (by rfl)) (by decide) (by rfl) (by rfl)) (by intro _; rfl)))
          (qss_one (qs_ret pe_bl))
          qss_nil)) (by intro _; rfl))
      (qss_one (qs_ret pe_bl))))))))), ?_⟩
    try dsimp only [cxOf]
    have hx0 := hx
    have hy0 := hy
    have r0 := Same.refl H
    cases hy with
    | non =>
      cases hx
      walk_at "rd"
      exact k _ r0
    | bl b =>
      cases hx
      walk_at "rd"
      rw [show decide (V.bl b = V.bl b) = true from decide_eq_true rfl]
      exact k _ r0
    | int j =>
      cases hx
      walk_at "rd"
      rw [show decide (V.int j = V.int j) = true from decide_eq_true rfl]
      exact k _ r0
    | str t =>
      cases hx
      walk_at "rd"
      rw [show decide (V.str t = V.str t) = true from decide_eq_true rfl]
      exact k _ r0
    | tup q n r =>
      rename_i b ys es
      cases hx with
      | tup q2 n2 r2 =>
        rename_i a2 xs
        have lx := r2.length
        have ly := r.length
        have hl : xs.length = ys.length := by omega
        walk_at "rd"
        rw [show decide (V.int (xs.length : Int) = V.int (ys.length : Int)) = true from decide_eq_true (by rw [hl])]
        walk_at "rd"
        refine ⟨_, _, rfl, .inl ⟨⟨xs, q2⟩, ⟨ys, q⟩, ?_⟩⟩
        have hall : Mt.tupBAll es = true := by
          rcases ht with ht | ht
          · simpa [Mt.tupB] using ht
          · cases ht
        have hdep : PyData.depthAll es < m := by
          have : (PyData.tuple es).depth = PyData.depthAll es + 1 := rfl
          omega
        refine for_zipW (xs := xs) (ys := ys) hl (fun i σ' H' => ∃ o2 o3 : Option V, σ' = [some (.ref a2), some (.ref b), o2, o3] ∧ Same H H') ?_ ?_ ?_ ?_
        · exact ⟨none, none, rfl, r0⟩
        · rintro i σ' H1 hi ⟨o2, o3, rfl, s1⟩
          exact ⟨s1.tupS q2, s1.tupS q⟩
        · rintro i x1 y1 p σ' H1 h1 h2 hn ⟨o2, o3, rfl, s1⟩
          obtain ⟨d1, f1, f2⟩ := r2.get h1
          obtain ⟨e1, g1, g2⟩ := r.get h2
          rw [f1] at g1; cases g1
          have s2 : Same H (upd H1 p (.tup [x1, y1])) := s1.trans (Same.upd hn)
          have me := List.mem_of_getElem? f1
          walk_at "rd"
          refine ⟨N, x1, y1, d1, rfl, f2.ext (Ext.same s2), g2.ext (Ext.same s2), (.inl (Mt.tupB_at hall me)), Nat.lt_of_le_of_lt (Mt.depth_at (Nat.le_refl _) me) hdep, fun H2 s3 => ?_⟩
          walk_at "rd"
          exact ⟨some x1, some y1, rfl, s2.trans s3⟩
        · rintro σ' H1 ⟨o2, o3, rfl, s1⟩
          walk_at "rd"
          exact k _ s1
    | lst q n r =>
      rename_i b ys es
      rcases ht with ht | ht
      · cases ht
      cases ht
      cases hx with
      | lst q2 n2 r2 =>
        rename_i a2 xs
        cases r
        cases r2
        walk_at "rd"
        refine ⟨_, _, rfl, .inr ⟨⟨_, q2⟩, ⟨_, q⟩, ?_⟩⟩
        refine for_zipL0 q2 q ?_
        walk_at "rd"
        exact k _ r0
    | dk0 q n => rcases ht with ht | ht <;> cases ht
    | dk1 q n r => rcases ht with ht | ht <;> cases ht

theorem rec_law_same (T : Txt P K mg a) : ∀ m, FnOk P w K mg base CX0 m a.f_law_same a.d_law_same ["_law_found", "_law_due_here"] (spr_law_same K m)
  | 0 => ⟨fun vs H Q E h => absurd h (spr_law_same_zero), fun A outer s H args us vs Q E _ _ _ _ h => absurd h (spr_law_same_zero)⟩
  | m + 1 => okr_law_same T (rec_law_same T m)
theorem ok_law_same (T : Txt P K mg a) : FnOk P w K mg base CX0 3 a.f_law_same a.d_law_same ["_law_found", "_law_due_here"] (sp_law_same K) := rec_law_same T 3
def sp_law_place (K : PySem.W.Frag) : Sp := fun vs H Q _ => ∃ (st c r : Addr) (m : Nat), vs = [.ref st] ∧ Dk H st c r m ∧ m < 100000000 ∧
  ∀ (v : Int) (H' : Hp), 0 ≤ v → v ≤ 1000000 → Dk H' st c r (m + 4) → Ext [st, r] H H' → Q (.int v) H'
theorem ok_law_place (T : Txt P K mg a) (G__law_take : FnOk P w K mg base CX0 1 a.f_law_take a.d_law_take ["_law_deck_here", "_law_many"] (sp_law_take K)) : FnOk P w K mg base CX0 2 a.f_law_place a.d_law_place ["_law_deck_here"] (sp_law_place K) := by
  refine T.F_law_place.ok sc_law_place (fun vs H Q E h => ?_) (fun cdv A outer s H vs Q E hr h => ?_)
  · obtain ⟨st, c, r, m, rfl, _⟩ := h; rfl
  · obtain ⟨st, c, r, m, rfl, S, hm, k⟩ := h
    refine exW ⟨_, (qss_cons (qs_if (pt_cmpR op_eq (qe_call G__law_take (hr.mono (by decide)) (by rfl) T.m__law_take T.k__law_take T.bd__law_take .nil pass0 (qa (pv 0 (by rfl) (by walk_at "vis") (by decide) (by decide)) (qa pe_int qa_nil (by rfl)) (by rfl)) (by decide) (by rfl) (by rfl)) pe_int (nomark _))
        (qss_one (qs_ret (pe_ix ix_list (qe_lst (qa (pe_op op_pow pe_int pe_int) (qa (pe_op op_sub (pe_op op_pow pe_int pe_int) (qe_call G__law_take (hr.mono (by decide)) (by rfl) T.m__law_take T.k__law_take T.bd__law_take .nil pass0 (qa (pv 0 (by rfl) (by walk_at "vis") (by decide) (by decide)) (qa pe_int qa_nil (by rfl)) (by rfl)) (by decide) (by rfl) (by rfl))) (qa (qe_call G__law_take (hr.mono (by decide)) (by rfl) T.m__law_take T.k__law_take T.bd__law_take .nil pass0 (qa (pv 0 (by rfl) (by walk_at "vis") (by decide) (by decide)) (qa (pe_op op_pow pe_int pe_int) qa_nil (by rfl)) (by rfl)) (by decide) (by rfl) (by rfl)) qa_nil (by rfl)) (by rfl)) (by rfl))) (qe_call G__law_take (hr.mono (by decide)) (by rfl) T.m__law_take T.k__law_take T.bd__law_take .nil pass0 (qa (pv 0 (by rfl) (by walk_at "vis") (by decide) (by decide)) (qa pe_int qa_nil (by rfl)) (by rfl)) (by decide) (by rfl) (by rfl)) (fun _ _ => rfl))))
        qss_nil)
      (qss_one (qs_ret (qe_call G__law_take (hr.mono (by decide)) (by rfl) T.m__law_take T.k__law_take T.bd__law_take .nil pass0 (qa (pv 0 (by rfl) (by walk_at "vis") (by decide) (by decide)) (qa pe_int qa_nil (by rfl)) (by rfl)) (by decide) (by rfl) (by rfl))))), ?_⟩
    try dsimp only [cxOf]
    walk_at "rd"
    refine ⟨st, c, r, m, 8, rfl, S, by omega, by decide, by decide, fun v1 H1 a1 b1 S1 x1 => ?_⟩
    walk_at "rd"
    refine rd_ite2 (fun hc => ?_) (fun hc => ?_)
    · walk_at "rd"
      refine ⟨st, c, r, m + 1, 500, rfl, S1, by omega, by decide, by decide, fun v2 H2 a2 b2 S2 x2 => ?_⟩
      walk_at "rd"
      refine ⟨st, c, r, m + 2, _, rfl, S2, by omega, by decide +kernel, by decide +kernel, fun v3 H3 a3 b3 S3 x3 => ?_⟩
      walk_at "rd"
      refine ⟨sz (by simp), fun l4 n4 => ?_⟩
      walk_at "rd"
      have d4 : l4 ∉ [st, c, r] := S3.new n4
      refine ⟨st, c, r, m + 3, 3, rfl, S3.same (Same.upd n4), by omega, by decide, by decide, fun v5 H5 a5 b5 S5 x5 => ?_⟩
      have p6 : (10 : Int) ^ (6 : Int).toNat = 1000000 := by decide +kernel
      have g5 := x5 _ _ upd_same (nin_pr d4)
      have x : Ext [st, r] H H5 := ((x1.trans x2).trans (x3.trans (Ext.new n4))).trans x5
      obtain ⟨j, rfl⟩ := Int.eq_ofNat_of_zero_le a5
      rw [p6] at g5 b3
      have hj : j < 3 := by omega
      match j, hj with
      | 0, _ => exact rd_ixL (SqL.of g5) rfl (k _ _ (by omega) (by omega) S5 x)
      | 1, _ => exact rd_ixL (SqL.of g5) rfl (k _ _ (by omega) (by omega) S5 x)
      | 2, _ => exact rd_ixL (SqL.of g5) rfl (k _ _ (by omega) (by omega) S5 x)
    · walk_at "rd"
      refine ⟨st, c, r, m + 1, 61, rfl, S1, by omega, by decide, by decide, fun v2 H2 a2 b2 S2 x2 => ?_⟩
      walk_at "rd"
      exact k _ _ a2 (by omega) (S2.mono (by omega)) (x1.trans x2)

def sp_law_slots (K : PySem.W.Frag) : Sp := fun vs H Q _ => ∃ (st c r : Addr) (m : Nat) (room en : Int), vs = [.ref st, .int room, .int en] ∧ Dk H st c r m ∧ m < 10000000 ∧
  ∀ (q : Addr) (ws : List V) (ps : List (Int × Int)) (H' : Hp), SqT K H' q ws → q ∉ [st, c, r] → DtAll K [st, c, r] H' ws (ps.map pairD) → ps.length ≤ 8 → Dk H' st c r (m + 100) → Ext [st, r] H H' → Q (.ref q) H'
theorem ok_law_slots (T : Txt P K mg a) (G__law_place : FnOk P w K mg base CX0 2 a.f_law_place a.d_law_place ["_law_deck_here"] (sp_law_place K)) (G__law_take : FnOk P w K mg base CX0 1 a.f_law_take a.d_law_take ["_law_deck_here", "_law_many"] (sp_law_take K)) : FnOk P w K mg base CX0 3 a.f_law_slots a.d_law_slots ["_law_deck_here", "_law_room", "_law_end"] (sp_law_slots K) := by
  refine T.F_law_slots.ok sc_law_slots (fun vs H Q E h => ?_) (fun cdv A outer s H vs Q E hr h => ?_)
  · obtain ⟨st, c, r, m, room, en, rfl, _⟩ := h; rfl
  · obtain ⟨st, c, r, m, room, en, rfl, S, hm, k⟩ := h
    refine exW ⟨_, (qss_cons (qs_set (i := 3) sc_law_slots.nd rfl (Or.inl rfl) (qe_callTy (cn_listR (by rfl)) (by rfl) T.b_list (by decide +kernel) (qa (qe_range (by rfl) T.b_range (qa pe_int qa_nil (by rfl)) (by rfl)) qa_nil (by rfl)) (by decide) (by decide) (by rfl) (by rfl)) (by rfl) (by first | exact Or.inl rfl | exact Or.inr rfl))
      (qss_cons (qs_set (i := 4) sc_law_slots.nd rfl (Or.inl rfl) (qe_lst qa_nil) (by rfl) (by first | exact Or.inl rfl | exact Or.inr rfl))
      (qss_cons (qs_for PassesOwn.never rfl (qi_range1 (by rfl) T.b_range (qa (qe_call G__law_take (hr.mono (by decide)) (by rfl) T.m__law_take T.k__law_take T.bd__law_take .nil pass0 (qa (pv 0 (by rfl) (by walk_at "vis") (by decide) (by decide)) (qa pe_int qa_nil (by rfl)) (by rfl)) (by decide) (by rfl) (by rfl)) qa_nil (by rfl)) (by rfl)) (pg_name (i := 5) sc_law_slots.nd rfl (Or.inl rfl) (by first | exact Or.inl rfl | exact Or.inr rfl))
        (qss_cons (qs_set (i := 6) sc_law_slots.nd rfl (Or.inl rfl) (qe_pop (pv 3 (by rfl) (by walk_at "vis") (by decide) (by decide)) (qa (qe_call G__law_take (hr.mono (by decide)) (by rfl) T.m__law_take T.k__law_take T.bd__law_take .nil pass0 (qa (pv 0 (by rfl) (by walk_at "vis") (by decide) (by decide)) (qa (qe_callB cn_len (by rfl) T.b_len (by decide +kernel) (qa (pv 3 (by rfl) (by walk_at "vis") (by decide) (by decide)) qa_nil (by rfl)) (by decide) (by decide) (by rfl) (by rfl)) qa_nil (by rfl)) (by rfl)) (by decide) (by rfl) (by rfl)) qa_nil (by rfl)) (by rfl) (by rfl) (by rfl) (by rfl) (by rfl)) (by rfl) (by first | exact Or.inl rfl | exact Or.inr rfl))
        (qss_cons (qs_set (i := 7) sc_law_slots.nd rfl (Or.inl rfl) (qe_call G__law_place (hr.mono (by decide)) (by rfl) T.m__law_place T.k__law_place T.bd__law_place .nil pass0 (qa (pv 0 (by rfl) (by walk_at "vis") (by decide) (by decide)) qa_nil (by rfl)) (by decide) (by rfl) (by rfl)) (by rfl) (by first | exact Or.inl rfl | exact Or.inr rfl))
        (qss_cons (qs_if (pt_cmpR op_eq (qe_call G__law_take (hr.mono (by decide)) (by rfl) T.m__law_take T.k__law_take T.bd__law_take .nil pass0 (qa (pv 0 (by rfl) (by walk_at "vis") (by decide) (by decide)) (qa pe_int qa_nil (by rfl)) (by rfl)) (by decide) (by rfl) (by rfl)) pe_int (nomark _))
          (qss_one (qs_set (i := 7) sc_law_slots.nd rfl (Or.inl rfl) (qe_callB (cn_max (by rfl)) (by rfl) T.b_max (by decide +kernel) (qa pe_int (qa (pe_op op_sub (pe_op op_add (pe_op op_sub (pv 2 (by rfl) (by walk_at "vis") (by decide) (by decide)) (pv 1 (by rfl) (by walk_at "vis") (by decide) (by decide))) (qe_call G__law_take (hr.mono (by decide)) (by rfl) T.m__law_take T.k__law_take T.bd__law_take .nil pass0 (qa (pv 0 (by rfl) (by walk_at "vis") (by decide) (by decide)) (qa pe_int qa_nil (by rfl)) (by rfl)) (by decide) (by rfl) (by rfl))) pe_int) qa_nil (by rfl)) (by rfl)) (by decide) (by decide) (by rfl) (by rfl)) (by rfl) (by first | exact Or.inl rfl | exact Or.inr rfl)))
          qss_nil)
        (qss_cons (qs_if (pw_and (pt_cmpR op_gt (qe_callB cn_len (by rfl) T.b_len (by decide +kernel) (qa (pv 4 (by rfl) (by walk_at "vis") (by decide) (by decide)) qa_nil (by rfl)) (by decide) (by decide) (by rfl) (by rfl)) pe_int (nomark _)) (pw_and1 (pt_cmpR op_eq (qe_call G__law_take (hr.mono (by decide)) (by rfl) T.m__law_take T.k__law_take T.bd__law_take .nil pass0 (qa (pv 0 (by rfl) (by walk_at "vis") (by decide) (by decide)) (qa pe_int qa_nil (by rfl)) (by rfl)) (by decide) (by rfl) (by rfl)) pe_int (nomark _)))).pt
          (qss_one (qs_set (i := 7) sc_law_slots.nd rfl (Or.inl rfl) (pe_ix ix_tup (pe_ix ix_list (pv 4 (by rfl) (by walk_at "vis") (by decide) (by decide)) (qe_call G__law_take (hr.mono (by decide)) (by rfl) T.m__law_take T.k__law_take T.bd__law_take .nil pass0 (qa (pv 0 (by rfl) (by walk_at "vis") (by decide) (by decide)) (qa (qe_callB cn_len (by rfl) T.b_len (by decide +kernel) (qa (pv 4 (by rfl) (by walk_at "vis") (by decide) (by decide)) qa_nil (by rfl)) (by decide) (by decide) (by rfl) (by rfl)) qa_nil (by rfl)) (by rfl)) (by decide) (by rfl) (by rfl)) (fun _ _ => rfl)) pe_int (fun _ _ => rfl)) (by rfl) (by first | exact Or.inl rfl | exact Or.inr rfl)))
          qss_nil)
        (qss_one (qs_expr (qe_append (pv 4 (by rfl) (by walk_at "vis") (by decide) (by decide)) (qa (qe_tup (qa (pv 6 (by rfl) (by walk_at "vis") (by decide) (by decide)) (qa (qe_callB (cn_min (by rfl)) (by rfl) T.b_min (by decide +kernel) (qa (pv 7 (by rfl) (by walk_at "vis") (by decide) (by decide)) (qa (pe_op op_pow pe_int pe_int) qa_nil (by rfl)) (by rfl)) (by decide) (by decide) (by rfl) (by rfl)) qa_nil (by rfl)) (by rfl))) qa_nil (by rfl)) (by rfl) (by rfl) (by rfl) (by rfl) (by rfl)) (by rfl))))))) (by intro _; rfl))
      (qss_one (qs_ret (qe_callTy cn_tuple (by rfl) T.b_tuple (by decide +kernel) (qa (pv 4 (by rfl) (by walk_at "vis") (by decide) (by decide)) qa_nil (by rfl)) (by decide) (by decide) (by rfl) (by rfl))))))), ?_⟩
    try dsimp only [cxOf]
    walk_at "rd"
    refine ⟨by decide, by decide, fun l0 n0 => ?_⟩
    walk_at "rd"
    refine rd_listR upd_same (by omega) (by omega) fun lw nw => ?_
    walk_at "rd"
    have e0 : (8 : Int).toNat = 8 := rfl
    rw [e0]
    refine ⟨sz (by simp), fun lf nf => ?_⟩
    have s3 : Same H (upd (upd (upd H l0 (.rng 0 8)) lw (.lst ((List.range 8).map fun (i : Nat) => V.int (i : Int)))) lf (.lst [])) := ((Same.upd n0).trans (Same.upd nw)).trans (Same.upd nf)
    have gw : (upd (upd (upd H l0 (.rng 0 8)) lw (.lst ((List.range 8).map fun (i : Nat) => V.int (i : Int)))) lf (.lst [])) lw = some (.lst ((Mt.rangeI 8).map V.int)) := by
      rw [upd_ne (ne_of_none upd_same nf), upd_same, Mt.rangeI, List.map_map]; rfl
    have gf : (upd (upd (upd H l0 (.rng 0 8)) lw (.lst ((List.range 8).map fun (i : Nat) => V.int (i : Int)))) lf (.lst [])) lf = some (.lst []) := upd_same
    have nwf : lw ≠ lf := ne_of_none upd_same nf
    have nw0 : H lw = none := (Same.upd n0).free nw
    have nf0 : H lf = none := (Same.upd n0).free ((Same.upd nw).free nf)
    generalize (upd (upd (upd H l0 (.rng 0 8)) lw (.lst ((List.range 8).map fun (i : Nat) => V.int (i : Int)))) lf (.lst [])) = H3 at s3 gw gf ⊢
    have S3 := S.same s3
    have dw := S.new nw0
    have df := S.new nf0
    walk_at "rd"
    refine ⟨st, c, r, m, 9, rfl, S3, by omega, by omega, by omega, fun v H4 v0 v1 S4 x4 => ?_⟩
    walk_at "rd"
    obtain ⟨n, rfl⟩ := Int.eq_ofNat_of_zero_le v0
    refine ⟨by omega, by omega, ?_⟩
    have e1 : (n : Int).toNat = n := by simp
    rw [e1]
    refine for_rangeW (fun i σ' H' => ∃ (o5 o6 o7 : Option V) (ws : List Int) (fs : List V) (ps : List (Int × Int)), σ' = [some (.ref st), some (.int room), some (.int en), some (.ref lw), some (.ref lf), o5, o6, o7] ∧ Dk H' st c r (m + 1 + 10 * i) ∧ Ext [st, r] H H' ∧ H' lw = some (.lst (ws.map V.int)) ∧ H' lf = some (.lst fs) ∧ ws.length + i = 8 ∧ ps.length = i ∧ DtAll K [st, c, r, lw, lf] H' fs (ps.map pairD)) ?_ ?_ ?_
    · exact ⟨none, none, none, Mt.rangeI 8, [], [], rfl, S4, (Ext.same s3).trans x4, x4 _ _ gw (nin_pr dw), x4 _ _ gf (nin_pr df), by simp [Mt.rangeI], rfl, .nil⟩
    · rintro i σ' H5 hi ⟨o5, o6, o7, ws, fs, ps, rfl, S5, x5, g1, g2, l1, l2, hd⟩
      walk_at "rd"
      refine ⟨.inl ⟨rfl, _, SqL.of g1⟩, ?_⟩
      walk_at "rd"
      have hlm : ((ws.map V.int).length : Int) = ws.length := by rw [List.length_map]
      refine ⟨st, c, r, m + 1 + 10 * i, _, rfl, S5, by omega, by omega, by omega, fun u H6 u0 u1 S6 x6 => ?_⟩
      walk_at "rd"
      obtain ⟨j, rfl⟩ := Int.eq_ofNat_of_zero_le u0
      have hj : j < ws.length := by omega
      have g1' := x6 _ _ g1 (nin_pr dw)
      have g2' := x6 _ _ g2 (nin_pr df)
      have wd : ∀ b ∈ [st, r], b ∈ [st, c, r, lw, lf] := fun b hb => by simp at hb ⊢; rcases hb with rfl | rfl <;> simp
      refine ⟨lw, _, (j : Int), j, .int ws[j], rfl, rfl, g1', by omega, by omega, by rw [PySem.seqIndex_of (by omega) (by rw [List.length_map]; omega)]; simp, by simp [hj], ?_⟩
      have ew : (ws.map V.int).eraseIdx j = (ws.eraseIdx j).map V.int := Mt.map_erase _ _ _
      have lw1 : (ws.eraseIdx j).length + (i + 1) = 8 := by rw [List.length_eraseIdx, if_pos hj]; omega
      rw [ew]
      generalize ws.eraseIdx j = ws1 at lw1 ⊢
      generalize ws[j] = one
      have J7 : Dk (upd H6 lw (.lst (ws1.map V.int))) st c r (m + 1 + 10 * i + 1) ∧ Ext [st, r] H (upd H6 lw (.lst (ws1.map V.int))) ∧ (upd H6 lw (.lst (ws1.map V.int))) lw = some (.lst (ws1.map V.int)) ∧ (upd H6 lw (.lst (ws1.map V.int))) lf = some (.lst fs) ∧ DtAll K [st, c, r, lw, lf] (upd H6 lw (.lst (ws1.map V.int))) fs (ps.map pairD) :=
        ⟨S6.upd dw, (x5.trans x6).upd2 nw0, upd_same, by rw [upd_ne (Ne.symm nwf)]; exact g2', (hd.ext (Ext.wide wd x6)).ext (Ext.at (by simp))⟩
      generalize upd H6 lw (.lst (ws1.map V.int)) = H7 at J7 ⊢
      have step : ∀ (t t' : Nat) (Ha Hb : Hp), Dk Hb st c r (m + 1 + 10 * i + t') → Ext [st, r] Ha Hb → (Dk Ha st c r (m + 1 + 10 * i + t) ∧ Ext [st, r] H Ha ∧ Ha lw = some (.lst (ws1.map V.int)) ∧ Ha lf = some (.lst fs) ∧ DtAll K [st, c, r, lw, lf] Ha fs (ps.map pairD)) →
          (Dk Hb st c r (m + 1 + 10 * i + t') ∧ Ext [st, r] H Hb ∧ Hb lw = some (.lst (ws1.map V.int)) ∧ Hb lf = some (.lst fs) ∧ DtAll K [st, c, r, lw, lf] Hb fs (ps.map pairD)) :=
        fun t t' Ha Hb q1 q2 ⟨_, w2, w3, w4, w5⟩ => ⟨q1, w2.trans q2, q2 _ _ w3 (nin_pr dw), q2 _ _ w4 (nin_pr df), w5.ext (Ext.wide wd q2)⟩
      walk_at "rd"
      refine ⟨st, c, r, m + 1 + 10 * i + 1, rfl, J7.1, by omega, fun pl H8 p0 p1 S8 x8 => ?_⟩
      have J8 := step 1 5 H7 H8 S8 x8 J7
      clear S6 x6 g1' g2' S8 x8
      walk_at "rs"
      refine rd_seqK (fun σ' H' => ∃ pv : Int, σ' = [some (.ref st), some (.int room), some (.int en), some (.ref lw), some (.ref lf), some (.int (0 + i)), some (.int one), some (.int pv)] ∧ (Dk H' st c r (m + 1 + 10 * i + 7) ∧ Ext [st, r] H H' ∧ H' lw = some (.lst (ws1.map V.int)) ∧ H' lf = some (.lst fs) ∧ DtAll K [st, c, r, lw, lf] H' fs (ps.map pairD))) ?_ ?_
      · rintro σ' H9 ⟨pv, rfl, J9⟩
        walk_at "rs"
        refine rd_seqK (fun σ' H' => ∃ pv : Int, σ' = [some (.ref st), some (.int room), some (.int en), some (.ref lw), some (.ref lf), some (.int (0 + i)), some (.int one), some (.int pv)] ∧ (Dk H' st c r (m + 1 + 10 * i + 9) ∧ Ext [st, r] H H' ∧ H' lw = some (.lst (ws1.map V.int)) ∧ H' lf = some (.lst fs) ∧ DtAll K [st, c, r, lw, lf] H' fs (ps.map pairD))) ?_ ?_
        · rintro σ' H10 ⟨pv, rfl, S10, x10, w10, f10, d10⟩
          walk_at "rd"
          have lfs := d10.length
          rw [List.length_map] at lfs
          refine ⟨.inl ⟨rfl, _, SqL.of f10⟩, ?_⟩
          walk_at "rd"
          generalize (if (10 : Int) ^ (6 : Int).toNat < pv then (10 : Int) ^ (6 : Int).toNat else pv) = pw
          refine ⟨sz (by simp), fun t nt => ?_⟩
          walk_at "rd"
          refine rd_append ((Same.upd nt) _ _ f10) (small1000 (by omega)) ?_
          have dt : t ∉ [st, c, r] := S10.new nt
          have ntw : lw ≠ t := ne_of_none w10 nt
          have ntf : lf ≠ t := ne_of_none f10 nt
          have dn : t ∉ [st, c, r, lw, lf] := by
            simp only [List.mem_cons, List.not_mem_nil, or_false, not_or] at dt ⊢
            exact ⟨dt.1, dt.2.1, dt.2.2, fun z => ntw z.symm, fun z => ntf z.symm⟩
          refine ⟨_, _, _, ws1, fs ++ [.ref t], ps ++ [(one, pw)], rfl, ((S10.upd dt).upd df).mono (by omega), (x10.trans (Ext.new nt)).upd2 nf0, ?_, upd_same, lw1, by simp [l2], ?_⟩
          · rw [upd_ne nwf, upd_ne ntw]; exact w10
          · rw [List.map_append]
            exact ((d10.ext (Ext.new nt)).ext (Ext.at (by simp))).append (.cons (dt_pairI ((Ext.at (N := [lf]) (by simp)).tup (SqT.of upd_same) (by simpa using fun z => ntf z.symm)) dn) .nil)
        · intro hrest
          have hL : SqL K H9 lf fs := SqL.of J9.2.2.2.1
          walk_at "rs"
          refine rd_ite2 (fun hc => ?_) (fun hc => ?_)
          · walk_at "rs"
            refine ⟨st, c, r, _, 6, rfl, J9.1, by omega, by decide, by decide, fun va Ha a0 b0 Sa xa => ?_⟩
            have Ja := step 7 8 H9 Ha Sa xa J9
            have hLa : SqL K Ha lf fs := SqL.of Ja.2.2.2.1
            walk_at "rs"
            refine rd_ite2 (fun hc2 => ?_) (fun hc2 => ?_)
            · walk_at "rs"
              have hpos := of_decide_eq_true hc
              have lfs := Ja.2.2.2.2.length
              rw [List.length_map] at lfs
              refine ⟨st, c, r, _, _, rfl, Ja.1, by omega, hpos, by omega, fun vb Hb u0 u1 Sb xb => ?_⟩
              have Jb := step 8 9 Ha Hb Sb xb Ja
              obtain ⟨v9, d9, q1, q2, q3⟩ := Jb.2.2.2.2.atI u0 (by rw [List.length_map]; omega)
              obtain ⟨pp, _, rfl⟩ := List.mem_map.mp q2
              obtain ⟨qq, rfl, hpq, _⟩ := dt_pair q3
              refine rd_ixL (SqL.of Jb.2.2.2.1) q1 ?_
              refine rd_c ?_
              refine rd_ixT hpq rfl ?_
              refine rd_name ?_
              exact hrest _ _ ⟨_, rfl, Jb⟩
            · refine rd_next ?_
              exact hrest _ _ ⟨_, rfl, Ja.1.mono (by omega), Ja.2⟩
          · refine rd_next ?_
            exact hrest _ _ ⟨_, rfl, J9.1.mono (by omega), J9.2⟩
      · intro hrest
        walk_at "rs"
        refine ⟨st, c, r, _, 3, rfl, J8.1, by omega, by decide, by decide, fun va Ha a0 b0 Sa xa => ?_⟩
        have Ja := step 5 6 H8 Ha Sa xa J8
        walk_at "rs"
        refine rd_ite2 (fun hc => ?_) (fun hc => ?_)
        · walk_at "rs"
          refine ⟨st, c, r, _, 3, rfl, Ja.1, by omega, by decide, by decide, fun vb Hb u0 u1 Sb xb => ?_⟩
          have Jb := step 6 7 Ha Hb Sb xb Ja
          walk_at "rs"
          exact hrest _ _ ⟨_, rfl, Jb⟩
        · walk_at "rs"
          exact hrest _ _ ⟨_, rfl, Ja.1.mono (by omega), Ja.2⟩
    · rintro σ' H5 ⟨o5, o6, o7, ws, fs, ps, rfl, S5, x5, g1, g2, l1, l2, hd⟩
      walk_at "rd"
      intro l6 n6
      refine k l6 fs ps _ (SqT.of upd_same) (S5.new n6) ?_ (by omega) ((S5.upd (S5.new n6)).mono (by omega)) (x5.trans (Ext.new n6))
      exact (hd.sub (fun b hb => by simp at hb ⊢; rcases hb with rfl | rfl | rfl <;> simp)).ext (Ext.new n6)

def sp_law_due (K : PySem.W.Frag) : Sp := fun vs H Q _ => ∃ (N : List Addr) (p : Addr) (ws : List V) (ps : List (Int × Int)) (room en app : Int), vs = [.int room, .ref p, .int en, .int app] ∧ SqT K H p ws ∧ DtAll K N H ws (ps.map pairD) ∧ ps.length ≤ 8 ∧
  ∀ (m : Int) (ns : List Int) (t q : Addr) (H' : Hp), IsCut room en app ps m ns → Same H H' → H q = none → H t = none → SqT K H' q (ns.map V.int) → SqT K H' t [.int m, .ref q] → Q (.ref t) H'
theorem ok_law_due (T : Txt P K mg a)  : FnOk P w K mg base CX0 1 a.f_law_due a.d_law_due ["_law_room", "_law_slots_here", "_law_end", "_law_applied"] (sp_law_due K) := by
  refine T.F_law_due.ok sc_law_due (fun vs H Q E h => ?_) (fun cdv A outer s H vs Q E hr h => ?_)
  · obtain ⟨N, p, ws, ps, room, en, app, rfl, _⟩ := h; rfl
  · obtain ⟨N, p, ws, ps, room, en, app, rfl, hq, hd, hl, k⟩ := h
    have hlw := hd.length
    rw [List.length_map] at hlw
    refine exW ⟨_, (qss_cons (qs_set (i := 4) sc_law_due.nd rfl (Or.inl rfl) (qe_lst qa_nil) (by rfl) (by first | exact Or.inl rfl | exact Or.inr rfl))
      (qss_cons (qs_set (i := 5) sc_law_due.nd rfl (Or.inl rfl) (pv 3 (by rfl) (by walk_at "vis") (by decide) (by decide)) (by rfl) (by first | exact Or.inl rfl | exact Or.inr rfl))
      (qss_cons (qs_for PassesOwn.never rfl (pi_tup (pv 1 (by rfl) (by walk_at "vis") (by decide) (by decide))) (pg_tup (n := 2) rfl (pgs_cons (pg_name (i := 6) (show (["_law_room", "_law_slots_here", "_law_end", "_law_applied", "_law_broken", "_law_floor", "_law_one", "_law_place_here"] : List Str).Nodup by decide +kernel) rfl (Or.inl rfl) (by first | exact Or.inl rfl | exact Or.inr rfl)) (pgs_cons (pg_name (i := 7) (show (["_law_room", "_law_slots_here", "_law_end", "_law_applied", "_law_broken", "_law_floor", "_law_one", "_law_place_here"] : List Str).Nodup by decide +kernel) rfl (Or.inl rfl) (by first | exact Or.inl rfl | exact Or.inr rfl)) pgs_nil (by rfl)) (by rfl)) (by rfl) (by rfl))
        (qss_one (qs_if (pt_cmpR op_lt (pe_op op_add (pv 7 (by rfl) (by walk_at "vis") (by decide) (by decide)) (pv 0 (by rfl) (by walk_at "vis") (by decide) (by decide))) (pv 2 (by rfl) (by walk_at "vis") (by decide) (by decide)) (nomark _))
          (qss_one (qs_expr (qe_append (pv 4 (by rfl) (by walk_at "vis") (by decide) (by decide)) (qa (pv 6 (by rfl) (by walk_at "vis") (by decide) (by decide)) qa_nil (by rfl)) (by rfl) (by rfl) (by rfl) (by rfl) (by rfl)) (by rfl)))
          (qss_one (qs_set (i := 5) sc_law_due.nd rfl (Or.inl rfl) (qe_callB (cn_min (by rfl)) (by rfl) T.b_min (by decide +kernel) (qa (pv 5 (by rfl) (by walk_at "vis") (by decide) (by decide)) (qa (pv 7 (by rfl) (by walk_at "vis") (by decide) (by decide)) qa_nil (by rfl)) (by rfl)) (by decide) (by decide) (by rfl) (by rfl)) (by rfl) (by first | exact Or.inl rfl | exact Or.inr rfl))))) (by intro _; rfl))
      (qss_one (qs_ret (qe_tup (qa (pv 5 (by rfl) (by walk_at "vis") (by decide) (by decide)) (qa (qe_callTy cn_tuple (by rfl) T.b_tuple (by decide +kernel) (qa (qe_callB cn_sort (by rfl) T.b_sorted (by decide +kernel) (qa (pv 4 (by rfl) (by walk_at "vis") (by decide) (by decide)) qa_nil (by rfl)) (by decide) (by decide) (by rfl) (by rfl)) qa_nil (by rfl)) (by decide) (by decide) (by rfl) (by rfl)) qa_nil (by rfl)) (by rfl)))))))), ?_⟩
    try dsimp only [cxOf]
    walk_at "rd"
    refine ⟨sz (by simp), fun l1 n1 => ?_⟩
    walk_at "rd"
    refine ⟨p, rfl, ⟨_, (Same.upd n1).tupS hq⟩, ?_⟩
    refine for_tupW (xs := ws) (fun i σ' H' => ∃ (f : Int) (o6 o7 : Option V), σ' = [some (.int room), some (.ref p), some (.int en), some (.int app), some (.ref l1), some (.int f), o6, o7] ∧ Same H H' ∧ H' l1 = some (.lst ((brokL room en (ps.take i)).map V.int)) ∧ f ∈ leftL room en (ps.take i) ++ [app] ∧ ∀ a ∈ leftL room en (ps.take i) ++ [app], f ≤ a) ?_ ?_ ?_ ?_
    · exact ⟨app, none, none, rfl, Same.upd n1, upd_same, by simp [leftL], fun a ha => by simp [leftL] at ha; omega⟩
    · rintro i σ' H1 hi ⟨f, o6, o7, rfl, s1, g1, _⟩
      exact s1.tupS hq
    · rintro i x σ' H1 hx ⟨f, o6, o7, rfl, s1, g1, f1, f2⟩
      obtain ⟨d, e1, e2⟩ := hd.get hx
      have hi : i < ps.length := by
        rcases Nat.lt_or_ge i ws.length with h | h
        · omega
        · rw [List.getElem?_eq_none h] at hx; cases hx
      rw [List.getElem?_map, List.getElem?_eq_getElem hi] at e1
      cases e1
      obtain ⟨q, rfl, hp, _⟩ := dt_pair e2
      have hp1 := s1.tupS hp
      have tk : ps.take (i + 1) = ps.take i ++ [ps[i]] := by rw [List.take_add_one]; simp [hi]
      walk_at "rd"
      refine rd_ite2 (fun hc => ?_) (fun hc => ?_)
      · walk_at "rd"
        refine ⟨.inl ⟨rfl, _, SqL.of g1⟩, ?_⟩
        walk_at "rd"
        refine rd_append g1 (small1000 (by have := brok_len room en (ps.take i); have := List.length_take_le i ps; simp; omega)) ?_
        refine ⟨f, _, _, rfl, fun b u e => ?_, ?_, ?_⟩
        · rw [upd_ne (ne_of_none e n1)]; exact s1 b u e
        · rw [upd_same, tk, brok_yes hc, List.map_append]; rfl
        · rw [tk, left_no hc]; exact ⟨f1, f2⟩
      · walk_at "rd"
        refine ⟨_, _, _, rfl, s1, ?_, ?_⟩
        · rw [tk, brok_no hc]; exact g1
        · rw [tk, left_yes hc]
          constructor
          · split
            · simp
            · rcases List.mem_append.mp f1 with h | h
              · exact List.mem_append_left _ (List.mem_append_left _ h)
              · exact List.mem_append_right _ h
          · intro a ha
            have : a = ps[i].2 ∨ a ∈ leftL room en (ps.take i) ++ [app] := by
              rcases List.mem_append.mp ha with h | h
              · rcases List.mem_append.mp h with h | h
                · exact .inr (List.mem_append_left _ h)
                · exact .inl (List.mem_singleton.mp h)
              · exact .inr (List.mem_append_right _ h)
            rcases this with rfl | h
            · split <;> omega
            · have := f2 a h
              split <;> omega
    · rintro σ' H1 ⟨f, o6, o7, rfl, s1, g1, f1, f2⟩
      rw [hlw, List.take_length] at g1 f1 f2
      walk_at "rd"
      have hbl : (brokL room en ps).length ≤ ps.length := by unfold brokL; rw [List.length_map]; exact List.length_filter_le _ _
      refine rd_sort (SqL.of g1) (by omega) fun l5 ns n5 hp hs => ?_
      walk_at "rd"
      intro l6 n6
      walk_at "rd"
      refine ⟨sz (by simp), fun l7 n7 => ?_⟩
      exact k f ns l7 l6 _ ⟨f1, f2, hp, hs⟩ (((s1.trans (Same.upd n5)).trans (Same.upd n6)).trans (Same.upd n7)) (s1.free ((Same.upd n5).free n6)) (s1.free ((Same.upd n5).free ((Same.upd n6).free n7))) ((Same.upd n7).tupS (SqT.of upd_same)) (SqT.of upd_same)

def sp_law_refused (K : PySem.W.Frag) (a : Adr) : Sp := fun vs H Q _ => ∃ (N : List Addr) (l : Addr) (w : Str) (f x e y : V) (d1 d2 d3 : PyData) (p : Addr) (ws : List V) (ps : List (Int × Int)), vs = [.ref l, .str w, f] ∧ SqL K H l [x, .ref p, e, y] ∧ Dt K N H x d1 ∧ Dt K N H e d2 ∧ Dt K N H y d3 ∧ SqT K H p ws ∧ DtAll K N H ws (ps.map pairD) ∧ ps.length ≤ 8 ∧
  ((w = "room" ∧ Mt.withinD 1 400 d1 = false) ∨
   (w = "place" ∧ f = e ∧ Mt.withinD 1 400 d1 = true ∧ Mt.withinD 0 1000000 d2 = false ∧ (Mt.tupB d2 = true ∨ d2 = .list []) ∧ d2.depth ≤ 1) ∨
   (w = "place" ∧ f = y ∧ Mt.withinD 1 400 d1 = true ∧ (∃ en : Int, e = .int en ∧ 0 ≤ en ∧ en ≤ 1000000 ∧ Mt.withinD 0 en d3 = false) ∧ (Mt.tupB d3 = true ∨ d3 = .list []) ∧ d3.depth ≤ 1)) ∧
  ∀ H', Same H H' → Q (.bl true) H'
theorem ok_law_refused (T : Txt P K mg a) (G__law_same : FnOk P w K mg base CX0 3 a.f_law_same a.d_law_same ["_law_found", "_law_due_here"] (sp_law_same K)) (G_cut_of : FnOk P w K mg base (CX1 P w) 5 a.f_cut_of a.d_cut_of ["room", "slots", "end", "applied"] (sp_cut_of K a)) : FnOk P w K mg base CX0 6 a.f_law_refused a.d_law_refused ["_law_handed", "_law_word", "_law_field"] (sp_law_refused K a) := by
  refine T.F_law_refused.ok sc_law_refused (fun vs H Q E h => ?_) (fun cdv A outer s H vs Q E hr h => ?_)
  · obtain ⟨N, l, w, f, x, e, y, d1, d2, d3, p, ws, ps, rfl, _⟩ := h; rfl
  · obtain ⟨N, l, w, f, x, e, y, d1, d2, d3, p, ws, ps, rfl, hl, hx, he, hy, hq, hd, hln, k0, k⟩ := h
    refine exW ⟨_, (qss_cons (qs_set (i := 3) sc_law_refused.nd rfl (Or.inl rfl) pe_non (by rfl) (by first | exact Or.inl rfl | exact Or.inr rfl))
      (qss_cons (qs_try (i := 4) (c := "LineError") sc_law_refused.nd rfl rfl (by rfl) T.mC_LineError rfl rfl rfl (fun _ _ XR hx =>
        (qss_one (qs_expr (qe_callX G_cut_of (hr.mono (by decide)) (by rfl) T.m_cut_of T.k_cut_of T.bd_cut_of .nil hx (qa (pe_ix (ix_listK (K := K) (by rfl)) (pv 0 (by rfl) (by walk_at "vis") (by decide) (by decide)) pe_int (fun _ _ => rfl)) (qa (pe_ix (ix_listK (K := K) (by rfl)) (pv 0 (by rfl) (by walk_at "vis") (by decide) (by decide)) pe_int (fun _ _ => rfl)) (qa (pe_ix (ix_listK (K := K) (by rfl)) (pv 0 (by rfl) (by walk_at "vis") (by decide) (by decide)) pe_int (fun _ _ => rfl)) (qa (pe_ix (ix_listK (K := K) (by rfl)) (pv 0 (by rfl) (by walk_at "vis") (by decide) (by decide)) pe_int (fun _ _ => rfl)) qa_nil (by rfl)) (by rfl)) (by rfl)) (by rfl)) (by decide) (by rfl) (by rfl)) (by rfl)))) (fun _ =>
        (qss_one (qs_set (i := 3) sc_law_refused.nd rfl (Or.inl rfl) (pv 4 (by rfl) (by walk_at "vis") (by decide) (by decide)) (by rfl) (by first | exact Or.inl rfl | exact Or.inr rfl)))) (by decide))
      (qss_cons (qs_if (pw_or (pt_cmpR on_isN (pv 3 (by rfl) (by walk_at "vis") (by decide) (by decide)) pe_non (nomark _)) (pw_or (pt_not (pt_val (qe_callB cn_isiX (by rfl) T.b_isinstance (by decide +kernel) (qa (pv 3 (by rfl) (by walk_at "vis") (by decide) (by decide)) (qa (pe_bltn (by rfl) T.b_ValueError (by decide +kernel) (v := .ty "ValueError") rfl (by decide) (by decide)) qa_nil (by rfl)) (by rfl)) (by decide) (by decide) (by rfl) (by rfl)) (by intro _; rfl))) (pw_or1 (pt_val (qe_callB cn_isiT (by rfl) T.b_isinstance (by decide +kernel) (qa (pv 3 (by rfl) (by walk_at "vis") (by decide) (by decide)) (qa (qe_tup (qa (pe_glob (v := .ref a.C_NoHouse) (by rfl) T.mC_NoHouse rfl (by decide)) (qa (pe_glob (v := .ref a.C_NoRow) (by rfl) T.mC_NoRow rfl (by decide)) (qa (pe_glob (v := .ref a.C_NoRule) (by rfl) T.mC_NoRule rfl (by decide)) qa_nil (by rfl)) (by rfl)) (by rfl))) qa_nil (by rfl)) (by rfl)) (by decide) (by decide) (by rfl) (by rfl)) (by intro _; rfl))))).pt
        (qss_one (qs_ret pe_bl))
        qss_nil)
      (qss_cons (qs_if (pt_cmpR op_eq (pv 1 (by rfl) (by walk_at "vis") (by decide) (by decide)) pe_str (nomark _))
        (qss_one (qs_ret (pe_and (qe_callB cn_isiX (by rfl) T.b_isinstance (by decide +kernel) (qa (pv 3 (by rfl) (by walk_at "vis") (by decide) (by decide)) (qa (pe_glob (v := .ref a.C_NoCount) (by rfl) T.mC_NoCount rfl (by decide)) qa_nil (by rfl)) (by rfl)) (by decide) (by decide) (by rfl) (by rfl)) (pe_and (pe_not (qe_callB cn_isiX (by rfl) T.b_isinstance (by decide +kernel) (qa (pv 3 (by rfl) (by walk_at "vis") (by decide) (by decide)) (qa (pe_glob (v := .ref a.C_NoPlace) (by rfl) T.mC_NoPlace rfl (by decide)) qa_nil (by rfl)) (by rfl)) (by decide) (by decide) (by rfl) (by rfl))) (pe_one (qe_call G__law_same (hr.mono (by decide)) (by rfl) T.m__law_same T.k__law_same T.bd__law_same .nil pass0 (qa (pe_xat (pv 3 (by rfl) (by walk_at "vis") (by decide) (by decide)) (by rfl)) (qa pe_str qa_nil (by rfl)) (by rfl)) (by decide) (by rfl) (by rfl)))))))
        qss_nil)
      (qss_one (qs_ret (pe_and (qe_callB cn_isiX (by rfl) T.b_isinstance (by decide +kernel) (qa (pv 3 (by rfl) (by walk_at "vis") (by decide) (by decide)) (qa (pe_glob (v := .ref a.C_NoPlace) (by rfl) T.mC_NoPlace rfl (by decide)) qa_nil (by rfl)) (by rfl)) (by decide) (by decide) (by rfl) (by rfl)) (pe_and (pe_not (qe_callB cn_isiX (by rfl) T.b_isinstance (by decide +kernel) (qa (pv 3 (by rfl) (by walk_at "vis") (by decide) (by decide)) (qa (pe_glob (v := .ref a.C_NoCount) (by rfl) T.mC_NoCount rfl (by decide)) qa_nil (by rfl)) (by rfl)) (by decide) (by decide) (by rfl) (by rfl))) (pe_one (qe_call G__law_same (hr.mono (by decide)) (by rfl) T.m__law_same T.k__law_same T.bd__law_same .nil pass0 (qa (pe_xat (pv 3 (by rfl) (by walk_at "vis") (by decide) (by decide)) (by rfl)) (qa (pv 2 (by rfl) (by walk_at "vis") (by decide) (by decide)) qa_nil (by rfl)) (by rfl)) (by decide) (by rfl) (by rfl))))))))))), ?_⟩
    try dsimp only [cxOf]
    walk_at "rd"
    refine ⟨N, x, e, y, d1, d2, d3, p, ws, ps, rfl, hx, he, hy, hq, hd, hln, ?_⟩
    rcases k0 with ⟨rfl, h1⟩ | ⟨rfl, rfl, h1, h2, ht, hdp⟩ | ⟨rfl, rfl, h1, ⟨en, rfl, e0, e1, h3⟩, ht, hdp⟩
    · refine .inl ⟨h1, fun dx hdx => ⟨T.ex_NoCount_LineError, fun ee he0 => ?_⟩⟩
      walk_at "rd"
      have nx : dx ≠ ee := fun z => by rw [z, upd_same] at he0; cases he0
      have s2 : Same H (upd (upd H dx (.xd [("what", .str "room")])) ee (.ext (ExcIs ee (.ref a.C_NoCount) (some dx)))) := (Same.upd hdx).trans (Same.upd he0)
      have ex : upd (upd H dx (.xd [("what", .str "room")])) ee (.ext (ExcIs ee (.ref a.C_NoCount) (some dx))) ee = some (.ext (ExcIs ee (.ref a.C_NoCount) (some dx))) := upd_same
      have ed : upd (upd H dx (.xd [("what", .str "room")])) ee (.ext (ExcIs ee (.ref a.C_NoCount) (some dx))) dx = some (.xd [("what", .str "room")]) := by rw [upd_ne nx]; exact upd_same
      generalize upd (upd H dx (.xd [("what", .str "room")])) ee (.ext (ExcIs ee (.ref a.C_NoCount) (some dx))) = H2 at s2 ex ed ⊢
      have ty : ∀ {H3 : Hp}, Same H2 H3 → TyX K H3 (.ref ee) (.ref a.C_NoCount) := fun s => .exc (s _ _ ex) T.xg_NoCount
      walk_at "rd"
      refine rd_isiX (ty (Same.refl _)) rfl T.is_NoCount_ValueError ?_
      walk_at "rd"
      refine ⟨sz (by simp), fun t nt => ?_⟩
      walk_at "rd"
      refine rd_isiT (cs := [a.C_NoHouse, a.C_NoRow, a.C_NoRule]) (ty (Same.upd nt)) (SqT.of upd_same) (kitAnyF T.is_NoCount_NoHouse (kitAnyF T.is_NoCount_NoRow (kitAnyF T.is_NoCount_NoRule kitAny0))) ?_
      walk_at "rd"
      refine rd_isiX (ty (Same.upd nt)) rfl T.is_NoCount_NoCount ?_
      walk_at "rd"
      refine rd_isiX (ty (Same.upd nt)) rfl T.is_NoCount_NoPlace ?_
      walk_at "rd"
      refine ⟨ee, _, dx, _, .str "room", _, rfl, (Same.upd nt) _ _ ex, T.xg_NoCount, T.Z_NoCount.xc, T.Z_NoCount.x1.no, (Same.upd nt) _ _ ed, rfl, ?_⟩
      walk_at "rd"
      have s3 := s2.trans (Same.upd nt (o := .tup [.ref a.C_NoHouse, .ref a.C_NoRow, .ref a.C_NoRule]))
      exact ⟨[], _, _, _, rfl, .str _, .str _, .inl rfl, by decide, fun H4 s4 => k _ (s3.trans s4)⟩
    · refine .inr (.inl ⟨h1, h2, fun dx hdx => ⟨T.ex_NoPlace_LineError, fun ee he0 => ?_⟩⟩)
      walk_at "rd"
      have nx : dx ≠ ee := fun z => by rw [z, upd_same] at he0; cases he0
      have s2 : Same H (upd (upd H dx (.xd [("place", f)])) ee (.ext (ExcIs ee (.ref a.C_NoPlace) (some dx)))) := (Same.upd hdx).trans (Same.upd he0)
      have ex : upd (upd H dx (.xd [("place", f)])) ee (.ext (ExcIs ee (.ref a.C_NoPlace) (some dx))) ee = some (.ext (ExcIs ee (.ref a.C_NoPlace) (some dx))) := upd_same
      have ed : upd (upd H dx (.xd [("place", f)])) ee (.ext (ExcIs ee (.ref a.C_NoPlace) (some dx))) dx = some (.xd [("place", f)]) := by rw [upd_ne nx]; exact upd_same
      generalize upd (upd H dx (.xd [("place", f)])) ee (.ext (ExcIs ee (.ref a.C_NoPlace) (some dx))) = H2 at s2 ex ed ⊢
      have ty : ∀ {H3 : Hp}, Same H2 H3 → TyX K H3 (.ref ee) (.ref a.C_NoPlace) := fun s => .exc (s _ _ ex) T.xg_NoPlace
      walk_at "rd"
      refine rd_isiX (ty (Same.refl _)) rfl T.is_NoPlace_ValueError ?_
      walk_at "rd"
      refine ⟨sz (by simp), fun t nt => ?_⟩
      walk_at "rd"
      refine rd_isiT (cs := [a.C_NoHouse, a.C_NoRow, a.C_NoRule]) (ty (Same.upd nt)) (SqT.of upd_same) (kitAnyF T.is_NoPlace_NoHouse (kitAnyF T.is_NoPlace_NoRow (kitAnyF T.is_NoPlace_NoRule kitAny0))) ?_
      walk_at "rd"
      refine rd_isiX (ty (Same.upd nt)) rfl T.is_NoPlace_NoPlace ?_
      walk_at "rd"
      refine rd_isiX (ty (Same.upd nt)) rfl T.is_NoPlace_NoCount ?_
      walk_at "rd"
      refine ⟨ee, _, dx, _, f, _, rfl, (Same.upd nt) _ _ ex, T.xg_NoPlace, T.Z_NoPlace.xc, T.Z_NoPlace.x1.no, (Same.upd nt) _ _ ed, rfl, ?_⟩
      walk_at "rd"
      have s3 := s2.trans (Same.upd nt (o := .tup [.ref a.C_NoHouse, .ref a.C_NoRow, .ref a.C_NoRule]))
      exact ⟨N, _, _, _, rfl, he.ext (Ext.same s3), he.ext (Ext.same s3), ht, by omega, fun H4 s4 => k _ (s3.trans s4)⟩
    · refine .inr (.inr (.inl ⟨en, rfl, h1, e0, e1, h3, fun dx hdx => ⟨T.ex_NoPlace_LineError, fun ee he0 => ?_⟩⟩))
      walk_at "rd"
      have nx : dx ≠ ee := fun z => by rw [z, upd_same] at he0; cases he0
      have s2 : Same H (upd (upd H dx (.xd [("place", f)])) ee (.ext (ExcIs ee (.ref a.C_NoPlace) (some dx)))) := (Same.upd hdx).trans (Same.upd he0)
      have ex : upd (upd H dx (.xd [("place", f)])) ee (.ext (ExcIs ee (.ref a.C_NoPlace) (some dx))) ee = some (.ext (ExcIs ee (.ref a.C_NoPlace) (some dx))) := upd_same
      have ed : upd (upd H dx (.xd [("place", f)])) ee (.ext (ExcIs ee (.ref a.C_NoPlace) (some dx))) dx = some (.xd [("place", f)]) := by rw [upd_ne nx]; exact upd_same
      generalize upd (upd H dx (.xd [("place", f)])) ee (.ext (ExcIs ee (.ref a.C_NoPlace) (some dx))) = H2 at s2 ex ed ⊢
      have ty : ∀ {H3 : Hp}, Same H2 H3 → TyX K H3 (.ref ee) (.ref a.C_NoPlace) := fun s => .exc (s _ _ ex) T.xg_NoPlace
      walk_at "rd"
      refine rd_isiX (ty (Same.refl _)) rfl T.is_NoPlace_ValueError ?_
      walk_at "rd"
      refine ⟨sz (by simp), fun t nt => ?_⟩
      walk_at "rd"
      refine rd_isiT (cs := [a.C_NoHouse, a.C_NoRow, a.C_NoRule]) (ty (Same.upd nt)) (SqT.of upd_same) (kitAnyF T.is_NoPlace_NoHouse (kitAnyF T.is_NoPlace_NoRow (kitAnyF T.is_NoPlace_NoRule kitAny0))) ?_
      walk_at "rd"
      refine rd_isiX (ty (Same.upd nt)) rfl T.is_NoPlace_NoPlace ?_
      walk_at "rd"
      refine rd_isiX (ty (Same.upd nt)) rfl T.is_NoPlace_NoCount ?_
      walk_at "rd"
      refine ⟨ee, _, dx, _, f, _, rfl, (Same.upd nt) _ _ ex, T.xg_NoPlace, T.Z_NoPlace.xc, T.Z_NoPlace.x1.no, (Same.upd nt) _ _ ed, rfl, ?_⟩
      walk_at "rd"
      have s3 := s2.trans (Same.upd nt (o := .tup [.ref a.C_NoHouse, .ref a.C_NoRow, .ref a.C_NoRule]))
      exact ⟨N, _, _, _, rfl, hy.ext (Ext.same s3), hy.ext (Ext.same s3), ht, by omega, fun H4 s4 => k _ (s3.trans s4)⟩

/-- things that are no number from lo to hi -/
def sp_law_odd (K : PySem.W.Frag) : Sp := fun vs H Q _ => ∃ (st c r : Addr) (m : Nat) (lo hi : Int), vs = [.ref st, .int lo, .int hi] ∧ Dk H st c r m ∧ m < 100000000 ∧ 0 ≤ lo ∧ lo ≤ hi ∧ hi ≤ 1000000 ∧
  ∀ (x : V) (d : PyData) (H' : Hp), Dt K [st, c, r] H' x d → Mt.withinD lo hi d = false → (d = .list [] ∨ (Mt.tupB d = true ∧ d.depth ≤ 1)) → Dk H' st c r (m + 3) → Ext [st, r] H H' → Q x H'
theorem ok_law_odd (T : Txt P K mg a) (G__law_take : FnOk P w K mg base CX0 1 a.f_law_take a.d_law_take ["_law_deck_here", "_law_many"] (sp_law_take K)) : FnOk P w K mg base CX0 2 a.f_law_odd a.d_law_odd ["_law_deck_here", "_law_least", "_law_most"] (sp_law_odd K) := by
  refine T.F_law_odd.ok sc_law_odd (fun vs H Q E h => ?_) (fun cdv A outer s H vs Q E hr h => ?_)
  · obtain ⟨st, c, r, m, lo, hi, rfl, _⟩ := h; rfl
  · obtain ⟨st, c, r, m, lo, hi, rfl, S, hm, h0, h1, h2, k⟩ := h
    refine exW ⟨_, (qss_cons (qs_setLA (i := 3) sc_law_odd.nd rfl (Or.inl rfl) (qa (by exact (pe_op op_sub (pv 1 (by rfl) (by walk_at "vis") (by decide) (by decide)) pe_int)) (qa (by exact (pe_op op_add (pv 2 (by rfl) (by walk_at "vis") (by decide) (by decide)) pe_int)) (qa (by exact (pe_op op_sub (pe_op op_sub (pv 1 (by rfl) (by walk_at "vis") (by decide) (by decide)) pe_int) (qe_call G__law_take (hr.mono (by decide)) (by rfl) T.m__law_take T.k__law_take T.bd__law_take .nil pass0 (qa (pv 0 (by rfl) (by walk_at "vis") (by decide) (by decide)) (qa pe_int qa_nil (by rfl)) (by rfl)) (by decide) (by rfl) (by rfl)))) (qa (by exact (pe_op op_add (pe_op op_add (pv 2 (by rfl) (by walk_at "vis") (by decide) (by decide)) pe_int) (qe_call G__law_take (hr.mono (by decide)) (by rfl) T.m__law_take T.k__law_take T.bd__law_take .nil pass0 (qa (pv 0 (by rfl) (by walk_at "vis") (by decide) (by decide)) (qa pe_int qa_nil (by rfl)) (by rfl)) (by decide) (by rfl) (by rfl)))) (qa (by exact (pe_op op_pow pe_int pe_int)) qa_nil (by rfl)) (by rfl)) (by rfl)) (by rfl)) (by rfl)) (by first | exact Or.inl rfl | exact Or.inr rfl))
      (qss_cons (qs_set (i := 3) sc_law_odd.nd rfl (Or.inl rfl) (pe_op op_catA (pv 3 (by rfl) (by walk_at "vis") (by decide) (by decide)) (qe_lstA (qa pe_bl (qa pe_bl (qa pe_non (qa pe_str (qa pe_str (qa (by exact (qe_tupA (qa pe_int qa_nil (by rfl)))) (qa (by exact (qe_lstA qa_nil)) qa_nil (by rfl)) (by rfl)) (by rfl)) (by rfl)) (by rfl)) (by rfl)) (by rfl)))) (by rfl) (by first | exact Or.inl rfl | exact Or.inr rfl))
      (qss_one (qs_ret (pe_ix ix_list (pv 3 (by rfl) (by walk_at "vis") (by decide) (by decide)) (qe_call G__law_take (hr.mono (by decide)) (by rfl) T.m__law_take T.k__law_take T.bd__law_take .nil pass0 (qa (pv 0 (by rfl) (by walk_at "vis") (by decide) (by decide)) (qa pe_int qa_nil (by rfl)) (by rfl)) (by decide) (by rfl) (by rfl)) (fun _ _ => rfl)))))), ?_⟩
    try dsimp only [cxOf]
    walk_at "rd"
    refine ⟨st, c, r, m, 9, rfl, S, by omega, by decide, by decide, fun v1 H1 a1 b1 S1 x1 => ?_⟩
    walk_at "rd"
    refine ⟨st, c, r, m + 1, 9, rfl, S1, by omega, by decide, by decide, fun v2 H2 a2 b2 S2 x2 => ?_⟩
    walk_at "rd"
    refine ⟨sz (by simp), fun l1 H3 n3 s3 e3 => ?_⟩
    walk_at "rd"
    refine ⟨sz (by simp), fun t1 H4 n4 s4 e4 => ?_⟩
    walk_at "rd"
    refine ⟨sz (by simp), fun l0 H5 n5 s5 e5 => ?_⟩
    walk_at "rd"
    refine ⟨sz (by simp), fun l2 H6 n6 s6 e6 => ?_⟩
    walk_at "rd"
    refine rd_catA ((s4.trans (s5.trans s6)) _ _ e3) e6 (sz (by simp)) fun l3 H7 n7 s7 e7 => ?_
    walk_at "rd"
    have S7 := S2.same (s3.trans (s4.trans (s5.trans (s6.trans s7))))
    have dl : l3 ∉ [st, c, r] := ((S2.same (s3.trans (s4.trans (s5.trans s6))))).new n7
    have dt : t1 ∉ [st, c, r] := (S2.same s3).new n4
    have d0 : l0 ∉ [st, c, r] := (S2.same (s3.trans s4)).new n5
    refine ⟨st, c, r, m + 2, 12, rfl, S7, by omega, by decide, by decide, fun v3 H8 a3 b3 S8 x8 => ?_⟩
    have x08 : Ext [st, r] H H8 := ((x1.trans x2).trans (Ext.same (s3.trans (s4.trans (s5.trans (s6.trans s7)))))).trans x8
    have e8 := x8 _ _ e7 (nin_pr dl)
    have e48 := x8 _ _ ((s5.trans (s6.trans s7)) _ _ e4) (nin_pr dt)
    have e58 := x8 _ _ ((s6.trans s7) _ _ e5) (nin_pr d0)
    obtain ⟨j, rfl⟩ := Int.eq_ofNat_of_zero_le a3
    walk_at "rd"
    have fin : ∀ (x : V) (d : PyData), Dt K [st, c, r] H8 x d → Mt.withinD lo hi d = false → (d = .list [] ∨ (Mt.tupB d = true ∧ d.depth ≤ 1)) → Q x H8 := fun x d g1 g2 g3 => k x d H8 g1 g2 g3 S8 x08
    have big : ∀ i : Int, i < lo ∨ hi < i → Q (.int i) H8 := fun i h => fin _ (.int i) (.int i) (by simp [Mt.withinD]; omega) (.inr ⟨rfl, by simp [PyData.depth]⟩)
    have p40 : (10 : Int) ^ (40 : Int).toNat = 10000000000000000000000000000000000000000 := by decide +kernel
    refine rd_ixL (v := ([V.int (lo - 1), .int (hi + 1), .int (lo - 1 - v1), .int (hi + 1 + v2), .int (10 ^ (40 : Int).toNat), .bl true, .bl false, .non, .str "0", .str "", .ref t1, .ref l0] : List V).getD j .non) (SqL.of e8) (atI_nat ?_) ?_
    · have hj : j < 12 := by omega
      rw [List.getD_eq_getElem?_getD]
      match j, hj with
      | 0, _ => rfl
      | 1, _ => rfl
      | 2, _ => rfl
      | 3, _ => rfl
      | 4, _ => rfl
      | 5, _ => rfl
      | 6, _ => rfl
      | 7, _ => rfl
      | 8, _ => rfl
      | 9, _ => rfl
      | 10, _ => rfl
      | 11, _ => rfl
    · have hj : j < 12 := by omega
      match j, hj with
      | 0, _ => exact big _ (by omega)
      | 1, _ => exact big _ (by omega)
      | 2, _ => exact big _ (by omega)
      | 3, _ => exact big _ (by omega)
      | 4, _ => exact big _ (by rw [p40]; omega)
      | 5, _ => exact fin _ _ (.bl true) rfl (.inr ⟨rfl, by decide⟩)
      | 6, _ => exact fin _ _ (.bl false) rfl (.inr ⟨rfl, by decide⟩)
      | 7, _ => exact fin _ _ .non rfl (.inr ⟨rfl, by decide⟩)
      | 8, _ => exact fin _ _ (.str _) rfl (.inr ⟨rfl, by decide⟩)
      | 9, _ => exact fin _ _ (.str _) rfl (.inr ⟨rfl, by decide⟩)
      | 10, _ => exact fin _ (.tuple [.int 1]) (.tup (SqT.of e48) dt (.cons (.int 1) .nil)) rfl (.inr ⟨rfl, by decide⟩)
      | 11, _ => exact fin _ (.list []) (.lst (SqL.of e58) d0 .nil) rfl (.inl rfl)

def sp_law (K : PySem.W.Frag) : Sp := fun vs H Q _ => ∃ (p : Addr) (ns : List Int), vs = [.ref p] ∧ SqL K H p (ns.map V.int) ∧ ns.length ≤ 63 ∧ ∀ H', Q (.bl true) H'
theorem ok_law (T : Txt P K mg a) (G__law_deck : FnOk P w K mg base CX0 1 a.f_law_deck a.d_law_deck ["_law_script"] (sp_law_deck K)) (G__law_due : FnOk P w K mg base CX0 1 a.f_law_due a.d_law_due ["_law_room", "_law_slots_here", "_law_end", "_law_applied"] (sp_law_due K)) (G__law_odd : FnOk P w K mg base CX0 2 a.f_law_odd a.d_law_odd ["_law_deck_here", "_law_least", "_law_most"] (sp_law_odd K)) (G__law_place : FnOk P w K mg base CX0 2 a.f_law_place a.d_law_place ["_law_deck_here"] (sp_law_place K)) (G__law_refused : FnOk P w K mg base CX0 6 a.f_law_refused a.d_law_refused ["_law_handed", "_law_word", "_law_field"] (sp_law_refused K a)) (G__law_same : FnOk P w K mg base CX0 3 a.f_law_same a.d_law_same ["_law_found", "_law_due_here"] (sp_law_same K)) (G__law_slots : FnOk P w K mg base CX0 3 a.f_law_slots a.d_law_slots ["_law_deck_here", "_law_room", "_law_end"] (sp_law_slots K)) (G__law_take : FnOk P w K mg base CX0 1 a.f_law_take a.d_law_take ["_law_deck_here", "_law_many"] (sp_law_take K)) (G_cut_of : FnOk P w K mg base (CX1 P w) 5 a.f_cut_of a.d_cut_of ["room", "slots", "end", "applied"] (sp_cut_of K a)) : FnOk P w K mg base CX0 7 a.f_law a.d_law ["_law_script"] (sp_law K) := by
  refine T.F_law.ok sc_law (fun vs H Q E h => ?_) (fun cdv A outer s H vs Q E hr h => ?_)
  · obtain ⟨p, ns, rfl, _⟩ := h; rfl
  · obtain ⟨p, ns, rfl, hq, hl, k⟩ := h
    refine exW ⟨_, (qss_cons (qs_set (i := 1) sc_law.nd rfl (Or.inl rfl) (qe_call G__law_deck (hr.mono (by decide)) (by rfl) T.m__law_deck T.k__law_deck T.bd__law_deck .nil pass0 (qa (pv 0 (by rfl) (by walk_at "vis") (by decide) (by decide)) qa_nil (by rfl)) (by decide) (by rfl) (by rfl)) (by rfl) (by first | exact Or.inl rfl | exact Or.inr rfl))
      (qss_cons (qs_set (i := 2) sc_law.nd rfl (Or.inl rfl) (pe_op op_add pe_int (qe_call G__law_take (hr.mono (by decide)) (by rfl) T.m__law_take T.k__law_take T.bd__law_take .nil pass0 (qa (pv 1 (by rfl) (by walk_at "vis") (by decide) (by decide)) (qa pe_int qa_nil (by rfl)) (by rfl)) (by decide) (by rfl) (by rfl))) (by rfl) (by first | exact Or.inl rfl | exact Or.inr rfl))
      (qss_cons (qs_if (pt_cmpR op_eq (qe_call G__law_take (hr.mono (by decide)) (by rfl) T.m__law_take T.k__law_take T.bd__law_take .nil pass0 (qa (pv 1 (by rfl) (by walk_at "vis") (by decide) (by decide)) (qa pe_int qa_nil (by rfl)) (by rfl)) (by decide) (by rfl) (by rfl)) pe_int (nomark _))
        (qss_one (qs_set (i := 2) sc_law.nd rfl (Or.inl rfl) (pe_op op_sub pe_int (qe_call G__law_take (hr.mono (by decide)) (by rfl) T.m__law_take T.k__law_take T.bd__law_take .nil pass0 (qa (pv 1 (by rfl) (by walk_at "vis") (by decide) (by decide)) (qa pe_int qa_nil (by rfl)) (by rfl)) (by decide) (by rfl) (by rfl))) (by rfl) (by first | exact Or.inl rfl | exact Or.inr rfl)))
        qss_nil)
      (qss_cons (qs_for PassesOwn.never rfl (qi_range1 (by rfl) T.b_range (qa pe_int qa_nil (by rfl)) (by rfl)) (pg_name (i := 3) sc_law.nd rfl (Or.inl rfl) (by first | exact Or.inl rfl | exact Or.inr rfl))
        (qss_cons (qs_set (i := 4) sc_law.nd rfl (Or.inl rfl) (qe_call G__law_place (hr.mono (by decide)) (by rfl) T.m__law_place T.k__law_place T.bd__law_place .nil pass0 (qa (pv 1 (by rfl) (by walk_at "vis") (by decide) (by decide)) qa_nil (by rfl)) (by decide) (by rfl) (by rfl)) (by rfl) (by first | exact Or.inl rfl | exact Or.inr rfl))
        (qss_cons (qs_set (i := 5) sc_law.nd rfl (Or.inl rfl) (pe_ix ix_list (qe_lstA (qa (pv 4 (by rfl) (by walk_at "vis") (by decide) (by decide)) (qa (qe_call G__law_take (hr.mono (by decide)) (by rfl) T.m__law_take T.k__law_take T.bd__law_take .nil pass0 (qa (pv 1 (by rfl) (by walk_at "vis") (by decide) (by decide)) (qa (pe_op op_add (pv 4 (by rfl) (by walk_at "vis") (by decide) (by decide)) pe_int) qa_nil (by rfl)) (by rfl)) (by decide) (by rfl) (by rfl)) (qa pe_int qa_nil (by rfl)) (by rfl)) (by rfl))) (qe_call G__law_take (hr.mono (by decide)) (by rfl) T.m__law_take T.k__law_take T.bd__law_take .nil pass0 (qa (pv 1 (by rfl) (by walk_at "vis") (by decide) (by decide)) (qa pe_int qa_nil (by rfl)) (by rfl)) (by decide) (by rfl) (by rfl)) (fun _ _ => rfl)) (by rfl) (by first | exact Or.inl rfl | exact Or.inr rfl))
        (qss_cons (qs_set (i := 6) sc_law.nd rfl (Or.inl rfl) (qe_call G__law_slots (hr.mono (by decide)) (by rfl) T.m__law_slots T.k__law_slots T.bd__law_slots .nil pass0 (qa (pv 1 (by rfl) (by walk_at "vis") (by decide) (by decide)) (qa (pv 2 (by rfl) (by walk_at "vis") (by decide) (by decide)) (qa (pv 4 (by rfl) (by walk_at "vis") (by decide) (by decide)) qa_nil (by rfl)) (by rfl)) (by rfl)) (by decide) (by rfl) (by rfl)) (by rfl) (by first | exact Or.inl rfl | exact Or.inr rfl))
        (qss_cons (qs_set (i := 7) sc_law.nd rfl (Or.inl rfl) (qe_call G__law_due (hr.mono (by decide)) (by rfl) T.m__law_due T.k__law_due T.bd__law_due .nil pass0 (qa (pv 2 (by rfl) (by walk_at "vis") (by decide) (by decide)) (qa (pv 6 (by rfl) (by walk_at "vis") (by decide) (by decide)) (qa (pv 4 (by rfl) (by walk_at "vis") (by decide) (by decide)) (qa (pv 5 (by rfl) (by walk_at "vis") (by decide) (by decide)) qa_nil (by rfl)) (by rfl)) (by rfl)) (by rfl)) (by decide) (by rfl) (by rfl)) (by rfl) (by first | exact Or.inl rfl | exact Or.inr rfl))
        (qss_cons (qs_if (pt_not (pt_val (qe_call G__law_same (hr.mono (by decide)) (by rfl) T.m__law_same T.k__law_same T.bd__law_same .nil pass0 (qa (qe_callX G_cut_of (hr.mono (by decide)) (by rfl) T.m_cut_of T.k_cut_of T.bd_cut_of .nil px0 (qa (pv 2 (by rfl) (by walk_at "vis") (by decide) (by decide)) (qa (pv 6 (by rfl) (by walk_at "vis") (by decide) (by decide)) (qa (pv 4 (by rfl) (by walk_at "vis") (by decide) (by decide)) (qa (pv 5 (by rfl) (by walk_at "vis") (by decide) (by decide)) qa_nil (by rfl)) (by rfl)) (by rfl)) (by rfl)) (by decide) (by rfl) (by rfl)) (qa (pv 7 (by rfl) (by walk_at "vis") (by decide) (by decide)) qa_nil (by rfl)) (by rfl)) (by decide) (by rfl) (by rfl)) (by intro _; rfl)))
          (qss_one (qs_ret pe_bl))
          qss_nil)
        (qss_cons (qs_if (pt_not (pt_val (qe_call G__law_same (hr.mono (by decide)) (by rfl) T.m__law_same T.k__law_same T.bd__law_same .nil pass0 (qa (qe_callX G_cut_of (hr.mono (by decide)) (by rfl) T.m_cut_of T.k_cut_of T.bd_cut_of .nil px0 (qa (pv 2 (by rfl) (by walk_at "vis") (by decide) (by decide)) (qa (qe_tupRev (by rfl) (by rfl) T.b_tuple (by rfl) T.b_reversed (qa (pv 6 (by rfl) (by walk_at "vis") (by decide) (by decide)) qa_nil (by rfl)) (by rfl)) (qa (pv 4 (by rfl) (by walk_at "vis") (by decide) (by decide)) (qa (pv 5 (by rfl) (by walk_at "vis") (by decide) (by decide)) qa_nil (by rfl)) (by rfl)) (by rfl)) (by rfl)) (by decide) (by rfl) (by rfl)) (qa (pv 7 (by rfl) (by walk_at "vis") (by decide) (by decide)) qa_nil (by rfl)) (by rfl)) (by decide) (by rfl) (by rfl)) (by intro _; rfl)))
          (qss_one (qs_ret pe_bl))
          qss_nil)
        (qss_cons (qs_set (i := 8) sc_law.nd rfl (Or.inl rfl) (qe_call G__law_odd (hr.mono (by decide)) (by rfl) T.m__law_odd T.k__law_odd T.bd__law_odd .nil pass0 (qa (pv 1 (by rfl) (by walk_at "vis") (by decide) (by decide)) (qa pe_int (qa pe_int qa_nil (by rfl)) (by rfl)) (by rfl)) (by decide) (by rfl) (by rfl)) (by rfl) (by first | exact Or.inl rfl | exact Or.inr rfl))
        (qss_cons (qs_set (i := 9) sc_law.nd rfl (Or.inl rfl) (qe_call G__law_odd (hr.mono (by decide)) (by rfl) T.m__law_odd T.k__law_odd T.bd__law_odd .nil pass0 (qa (pv 1 (by rfl) (by walk_at "vis") (by decide) (by decide)) (qa pe_int (qa (pe_op op_pow pe_int pe_int) qa_nil (by rfl)) (by rfl)) (by rfl)) (by decide) (by rfl) (by rfl)) (by rfl) (by first | exact Or.inl rfl | exact Or.inr rfl))
        (qss_cons (qs_set (i := 10) sc_law.nd rfl (Or.inl rfl) (qe_call G__law_odd (hr.mono (by decide)) (by rfl) T.m__law_odd T.k__law_odd T.bd__law_odd .nil pass0 (qa (pv 1 (by rfl) (by walk_at "vis") (by decide) (by decide)) (qa pe_int (qa (pv 4 (by rfl) (by walk_at "vis") (by decide) (by decide)) qa_nil (by rfl)) (by rfl)) (by rfl)) (by decide) (by rfl) (by rfl)) (by rfl) (by first | exact Or.inl rfl | exact Or.inr rfl))
        (qss_cons (qs_set (i := 11) sc_law.nd rfl (Or.inl rfl) (qe_lstA (qa (qe_call G__law_take (hr.mono (by decide)) (by rfl) T.m__law_take T.k__law_take T.bd__law_take .nil pass0 (qa (pv 1 (by rfl) (by walk_at "vis") (by decide) (by decide)) (qa pe_int qa_nil (by rfl)) (by rfl)) (by decide) (by rfl) (by rfl)) (qa (qe_call G__law_take (hr.mono (by decide)) (by rfl) T.m__law_take T.k__law_take T.bd__law_take .nil pass0 (qa (pv 1 (by rfl) (by walk_at "vis") (by decide) (by decide)) (qa pe_int qa_nil (by rfl)) (by rfl)) (by decide) (by rfl) (by rfl)) qa_nil (by rfl)) (by rfl))) (by rfl) (by first | exact Or.inl rfl | exact Or.inr rfl))
        (qss_cons (qs_set (i := 12) sc_law.nd rfl (Or.inl rfl) (qe_lstA (qa (pe_ix ix_list (qe_lstA (qa (pv 4 (by rfl) (by walk_at "vis") (by decide) (by decide)) (qa (pv 9 (by rfl) (by walk_at "vis") (by decide) (by decide)) qa_nil (by rfl)) (by rfl))) (pe_ix ix_list (pv 11 (by rfl) (by walk_at "vis") (by decide) (by decide)) pe_int (fun _ _ => rfl)) (fun _ _ => rfl)) (qa (pe_ix ix_list (qe_lstA (qa (pv 5 (by rfl) (by walk_at "vis") (by decide) (by decide)) (qa (pv 10 (by rfl) (by walk_at "vis") (by decide) (by decide)) qa_nil (by rfl)) (by rfl))) (pe_ix ix_list (pv 11 (by rfl) (by walk_at "vis") (by decide) (by decide)) pe_int (fun _ _ => rfl)) (fun _ _ => rfl)) qa_nil (by rfl)) (by rfl))) (by rfl) (by first | exact Or.inl rfl | exact Or.inr rfl))
        (qss_cons (qs_if (pt_not (pt_val (qe_call G__law_refused (hr.mono (by decide)) (by rfl) T.m__law_refused T.k__law_refused T.bd__law_refused .nil pass0 (qa (qe_lstA (qa (pv 8 (by rfl) (by walk_at "vis") (by decide) (by decide)) (qa (pv 6 (by rfl) (by walk_at "vis") (by decide) (by decide)) (qa (pe_ix ix_list (pv 12 (by rfl) (by walk_at "vis") (by decide) (by decide)) pe_int (fun _ _ => rfl)) (qa (pe_ix ix_list (pv 12 (by rfl) (by walk_at "vis") (by decide) (by decide)) pe_int (fun _ _ => rfl)) qa_nil (by rfl)) (by rfl)) (by rfl)) (by rfl))) (qa pe_str (qa pe_non qa_nil (by rfl)) (by rfl)) (by rfl)) (by decide) (by rfl) (by rfl)) (by intro _; rfl)))
          (qss_one (qs_ret pe_bl))
          qss_nil)
        (qss_cons (qs_if (pt_not (pt_val (qe_call G__law_refused (hr.mono (by decide)) (by rfl) T.m__law_refused T.k__law_refused T.bd__law_refused .nil pass0 (qa (qe_lstA (qa (pv 2 (by rfl) (by walk_at "vis") (by decide) (by decide)) (qa (pv 6 (by rfl) (by walk_at "vis") (by decide) (by decide)) (qa (pv 9 (by rfl) (by walk_at "vis") (by decide) (by decide)) (qa (pe_ix ix_list (qe_lstA (qa pe_int (qa (pv 10 (by rfl) (by walk_at "vis") (by decide) (by decide)) qa_nil (by rfl)) (by rfl))) (pe_ix ix_list (pv 11 (by rfl) (by walk_at "vis") (by decide) (by decide)) pe_int (fun _ _ => rfl)) (fun _ _ => rfl)) qa_nil (by rfl)) (by rfl)) (by rfl)) (by rfl))) (qa pe_str (qa (pv 9 (by rfl) (by walk_at "vis") (by decide) (by decide)) qa_nil (by rfl)) (by rfl)) (by rfl)) (by decide) (by rfl) (by rfl)) (by intro _; rfl)))
          (qss_one (qs_ret pe_bl))
          qss_nil)
        (qss_one (qs_if (pt_not (pt_val (qe_call G__law_refused (hr.mono (by decide)) (by rfl) T.m__law_refused T.k__law_refused T.bd__law_refused .nil pass0 (qa (qe_lstA (qa (pv 2 (by rfl) (by walk_at "vis") (by decide) (by decide)) (qa (pv 6 (by rfl) (by walk_at "vis") (by decide) (by decide)) (qa (pv 4 (by rfl) (by walk_at "vis") (by decide) (by decide)) (qa (pv 10 (by rfl) (by walk_at "vis") (by decide) (by decide)) qa_nil (by rfl)) (by rfl)) (by rfl)) (by rfl))) (qa pe_str (qa (pv 10 (by rfl) (by walk_at "vis") (by decide) (by decide)) qa_nil (by rfl)) (by rfl)) (by rfl)) (by decide) (by rfl) (by rfl)) (by intro _; rfl)))
          (qss_one (qs_ret pe_bl))
          qss_nil))))))))))))))) (by intro _; rfl))
      (qss_one (qs_ret (qe_call G__law_same (hr.mono (by decide)) (by rfl) T.m__law_same T.k__law_same T.bd__law_same .nil pass0 (qa (qe_callX G_cut_of (hr.mono (by decide)) (by rfl) T.m_cut_of T.k_cut_of T.bd_cut_of .nil px0 (qa (pv 2 (by rfl) (by walk_at "vis") (by decide) (by decide)) (qa (qe_tupA qa_nil) (qa pe_int (qa (pe_op op_add (pe_op op_mul (qe_call G__law_take (hr.mono (by decide)) (by rfl) T.m__law_take T.k__law_take T.bd__law_take .nil pass0 (qa (pv 1 (by rfl) (by walk_at "vis") (by decide) (by decide)) (qa pe_int qa_nil (by rfl)) (by rfl)) (by decide) (by rfl) (by rfl)) pe_int) pe_int) qa_nil (by rfl)) (by rfl)) (by rfl)) (by rfl)) (by decide) (by rfl) (by rfl)) (qa (qe_tupA (qa pe_int (qa (qe_tupA qa_nil) qa_nil (by rfl)) (by rfl))) qa_nil (by rfl)) (by rfl)) (by decide) (by rfl) (by rfl)))))))), ?_⟩
    try dsimp only [cxOf]
    walk_at "rq"
    refine ⟨p, ns, rfl, hq, hl, fun st c r H1 S1 s1 n1 => ?_⟩
    walk_at "rq"
    refine ⟨st, c, r, _, 12, rfl, S1, by omega, by decide, by decide, fun v1 H2 a1 b1 S2 x2 => ?_⟩
    walk_at "rs"
    refine rd_seqK (fun σ' H' => ∃ room : Int, σ' = [some (.ref p), some (.ref st), some (.int room), none, none, none, none, none, none, none, none, none, none] ∧ 1 ≤ room ∧ room ≤ 400 ∧ Dk H' st c r 3) ?_ ?_
    · rintro σ' H3 ⟨room, rfl, r0, r1, S3⟩
      walk_at "rq"
      refine ⟨by decide, by decide, ?_⟩
      refine for_rangeW (fun i σ' H' => ∃ o3 o4 o5 o6 o7 o8 o9 o10 o11 o12 : Option V, σ' = [some (.ref p), some (.ref st), some (.int room), o3, o4, o5, o6, o7, o8, o9, o10, o11, o12] ∧ Dk H' st c r (3 + 400 * i)) ?_ ?_ ?_
      · exact ⟨none, none, none, none, none, none, none, none, none, none, rfl, S3⟩
      · rintro i σ' H4 hi ⟨o3, o4, o5, o6, o7, o8, o9, o10, o11, o12, rfl, S4⟩
        have hi6 : i < 6 := hi
        walk_at "rq"
        refine ⟨st, c, r, _, rfl, S4, by omega, fun en H5 e0 e1 S5 x5 => ?_⟩
        walk_at "rq"
        refine ⟨st, c, r, _, en + 1, rfl, S5, by omega, by omega, by omega, fun v6 H6 a6 b6 S6 x6 => ?_⟩
        walk_at "rq"
        refine ⟨sz (by simp), fun l7 H7 n7 s7 g7 => ?_⟩
        walk_at "rq"
        have d7 : l7 ∉ [st, c, r] := S6.new n7
        refine ⟨st, c, r, _, 3, rfl, S6.same s7, by omega, by decide, by decide, fun v8 H8 a8 b8 S8 x8 => ?_⟩
        obtain ⟨app, ea, ha⟩ := at3 (a := en) (b := v6) (c := 0) a8 b8
        have p0 : 0 ≤ app := by omega
        have p1 : app ≤ en := by omega
        refine rd_ixL (SqL.of (x8 _ _ g7 (nin_pr d7))) ea ?_
        clear ea ha x6 x8 g7 n7 s7 S6
        walk_at "rq"
        refine ⟨st, c, r, _, room, en, rfl, S8, by omega, fun q ws ps H9 hq9 dq hd9 hl9 S9 x9 => ?_⟩
        have lw := hd9.length
        rw [List.length_map] at lw
        walk_at "rq"
        refine ⟨_, q, ws, ps, room, en, app, rfl, hq9, hd9, hl9, fun m ns1 t1 q1 H10 c1 s10 nq1 nt1 hq1 ht1 => ?_⟩
        have hd10 := hd9.ext (Ext.same s10)
        have hq10 := s10.tupS hq9
        walk_at "rq"
        refine ⟨[st, c, r], _, _, _, .int room, .int en, .int app, q, ws, ps, rfl, .int _, .int _, .int _, hq10, hd10, hl9, .inr (.inr (.inr ⟨room, en, app, rfl, rfl, rfl, r0, r1, e0, e1, p0, p1, fun m2 ns2 t2 q2 H11 c2 s11 hq2 ht2 => ?_⟩))⟩
        obtain ⟨rfl, rfl⟩ := c2.uniq c1 (List.Perm.refl _)
        walk_at "rq"
        refine ⟨[], _, _, slotD m2 ns2, rfl, cut_dt hq2 ht2, cut_dt (s11.tupS hq1) (s11.tupS ht1), .inl (cut_tupB _ _), cut_depth _ _, fun H12 s12 => ?_⟩
        walk_at "rq"
        refine ⟨q, ws, rfl, (s11.trans s12).tupS hq10, by omega, fun l13 H13 n13 s13 hq13 => ?_⟩
        have s1013 := s11.trans (s12.trans s13)
        have hd13 : DtAll K [st, c, r] H13 ws.reverse (ps.reverse.map pairD) := by rw [List.map_reverse]; exact (hd10.ext (Ext.same s1013)).rev
        walk_at "rq"
        refine ⟨[st, c, r], _, _, _, .int room, .int en, .int app, l13, ws.reverse, ps.reverse, rfl, .int _, .int _, .int _, hq13, hd13, by rw [List.length_reverse]; exact hl9, .inr (.inr (.inr ⟨room, en, app, rfl, rfl, rfl, r0, r1, e0, e1, p0, p1, fun m3 ns3 t3 q3 H14 c3 s14 hq3 ht3 => ?_⟩))⟩
        obtain ⟨rfl, rfl⟩ := c3.uniq c1 (List.reverse_perm ps)
        walk_at "rq"
        refine ⟨[], _, _, slotD m3 ns3, rfl, cut_dt hq3 ht3, cut_dt ((s1013.trans s14).tupS hq1) ((s1013.trans s14).tupS ht1), .inl (cut_tupB _ _), cut_depth _ _, fun H15 s15 => ?_⟩
        have s915 := s10.trans (s1013.trans (s14.trans s15))
        have S15 := S9.same s915
        have hq15 := s915.tupS hq9
        have hd15 := hd9.ext (Ext.same s915)
        clear s915 s10 s1013 s14 s15 hq13 hd13 hq3 ht3 hq2 ht2 hq1 ht1 hq9 hd9 hq10 hd10 s11 s12 s13 c1 c2 c3 nq1 nt1
        walk_at "rq"
        refine ⟨st, c, r, _, 1, 400, rfl, S15, by omega, by decide, by decide, by decide, fun xr dr H16 hxr wr okr S16 x16 => ?_⟩
        walk_at "rq"
        have p6 : (10 : Int) ^ (6 : Int).toNat = 1000000 := by decide +kernel
        rw [p6]
        refine ⟨st, c, r, _, 0, 1000000, rfl, S16, by omega, by decide, by decide, by decide, fun xe de H17 hxe we oke S17 x17 => ?_⟩
        walk_at "rq"
        refine ⟨st, c, r, _, 0, en, rfl, S17, by omega, by decide, e0, e1, fun xa da H18 hxa wa oka S18 x18 => ?_⟩
        walk_at "rq"
        refine ⟨st, c, r, _, 2, rfl, S18, by omega, by decide, by decide, fun u1 H19 a1 b1 S19 x19 => ?_⟩
        walk_at "rq"
        refine ⟨st, c, r, _, 2, rfl, S19, by omega, by decide, by decide, fun u2 H20 a2 b2 S20 x20 => ?_⟩
        walk_at "rq"
        have wd : ∀ b ∈ [st, r], b ∈ [st, c, r] := fun b hb => by simp at hb ⊢; rcases hb with rfl | rfl <;> simp
        have z16 := Ext.wide wd x16
        have z17 := Ext.wide wd x17
        have z18 := Ext.wide wd x18
        have z1920 := Ext.wide wd (x19.trans x20)
        have hq20 : SqT K H20 q ws := ((((x16.trans x17).trans x18).trans x19).trans x20).tup hq15 (nin_pr dq)
        have hd20 := (((hd15.ext z16).ext z17).ext z18).ext z1920
        have hxr20 := ((hxr.ext z17).ext z18).ext z1920
        have hxe20 := (hxe.ext z18).ext z1920
        have hxa20 := hxa.ext z1920
        clear z16 z17 z18 z1920 x16 x17 x18 x19 x20 hq15 hd15 hxr hxe hxa S15 S16 S17 S18 S19
        refine ⟨sz (by simp), fun l21 H21 n21 s21 g21 => ?_⟩
        walk_at "rq"
        refine ⟨sz (by simp), fun l22 H22 n22 s22 g22 => ?_⟩
        walk_at "rq"
        refine rd_ixL (SqL.of (s22 _ _ g21)) rfl ?_
        obtain ⟨z1, ez1, hz1⟩ := at2D a1 b1 (.int en) xe
        refine rd_ixL (SqL.of g22) ez1 ?_
        walk_at "rq"
        refine ⟨sz (by simp), fun l23 H23 n23 s23 g23 => ?_⟩
        walk_at "rq"
        refine rd_ixL (SqL.of ((s22.trans s23) _ _ g21)) rfl ?_
        obtain ⟨z2, ez2, hz2⟩ := at2D a2 b2 (.int app) xa
        refine rd_ixL (SqL.of g23) ez2 ?_
        walk_at "rq"
        refine ⟨sz (by simp), fun l24 H24 n24 s24 g24 => ?_⟩
        obtain ⟨dz1, hdz1⟩ : ∃ d, Dt K [st, c, r] H20 z1 d := by
          rcases hz1 with rfl | rfl
          · exact ⟨_, .int _⟩
          · exact ⟨_, hxe20⟩
        obtain ⟨dz2, hdz2⟩ : ∃ d, Dt K [st, c, r] H20 z2 d := by
          rcases hz2 with rfl | rfl
          · exact ⟨_, .int _⟩
          · exact ⟨_, hxa20⟩
        have s2024 := s21.trans (s22.trans (s23.trans s24))
        have g21' := (s22.trans (s23.trans s24)) _ _ g21
        clear s21 s22 s23 s24 g21 g22 g23 ez1 ez2 hz1 hz2
        have h24 : SqL K H24 l24 [z1, z2] := SqL.of g24
        walk_at "rq"
        refine ⟨sz (by simp), fun l25 H25 n25 s25 g25 => ?_⟩
        walk_at "rq"
        have s2025 := s2024.trans s25
        refine ⟨[st, c, r], l25, _, _, xr, z1, z2, dr, dz1, dz2, q, ws, ps, rfl, SqL.of g25, hxr20.ext (Ext.same s2025), hdz1.ext (Ext.same s2025), hdz2.ext (Ext.same s2025), s2025.tupS hq20, hd20.ext (Ext.same s2025), hl9, .inl ⟨rfl, wr⟩, fun H26 s26 => ?_⟩
        walk_at "rq"
        refine ⟨sz (by simp), fun l27 H27 n27 s27 g27 => ?_⟩
        walk_at "rq"
        have g21'' := (s25.trans (s26.trans s27)) _ _ g21'
        refine rd_ixL (SqL.of g21'') rfl ?_
        obtain ⟨z3, ez3, hz3⟩ := at2D a1 b1 (.int 0) xa
        refine rd_ixL (SqL.of g27) ez3 ?_
        obtain ⟨dz3, hdz3⟩ : ∃ d, Dt K [st, c, r] H20 z3 d := by
          rcases hz3 with rfl | rfl
          · exact ⟨_, .int _⟩
          · exact ⟨_, hxa20⟩
        walk_at "rq"
        refine ⟨sz (by simp), fun l28 H28 n28 s28 g28 => ?_⟩
        walk_at "rq"
        have s2028 := s2025.trans (s26.trans (s27.trans s28))
        have hrm : Mt.withinD 1 400 (.int room) = true := by simp [Mt.withinD]; omega
        refine ⟨[st, c, r], l28, _, _, .int room, xe, z3, .int room, de, dz3, q, ws, ps, rfl, SqL.of g28, .int _, hxe20.ext (Ext.same s2028), hdz3.ext (Ext.same s2028), s2028.tupS hq20, hd20.ext (Ext.same s2028), hl9, .inr (.inl ⟨rfl, rfl, hrm, we, (oddOk oke).1, (oddOk oke).2⟩), fun H29 s29 => ?_⟩
        walk_at "rq"
        refine ⟨sz (by simp), fun l30 H30 n30 s30 g30 => ?_⟩
        walk_at "rq"
        have s2030 := s2028.trans (s29.trans s30)
        refine ⟨[st, c, r], l30, _, _, .int room, .int en, xa, .int room, .int en, da, q, ws, ps, rfl, SqL.of g30, .int _, .int _, hxa20.ext (Ext.same s2030), s2030.tupS hq20, hd20.ext (Ext.same s2030), hl9, .inr (.inr ⟨rfl, rfl, hrm, ⟨en, rfl, e0, e1, wa⟩, (oddOk oka).1, (oddOk oka).2⟩), fun H31 s31 => ?_⟩
        walk_at "rq"
        exact ⟨_, _, _, _, _, _, _, _, _, _, rfl, (S20.same (s2030.trans s31)).mono (by omega)⟩
      · rintro σ' H4 ⟨o3, o4, o5, o6, o7, o8, o9, o10, o11, o12, rfl, S4⟩
        walk_at "rq"
        refine ⟨sz (by simp), fun t5 H5 n5 s5 g5 => ?_⟩
        walk_at "rq"
        refine ⟨st, c, r, _, 8, rfl, S4.same s5, by omega, by decide, by decide, fun v6 H6 a6 b6 S6 x6 => ?_⟩
        walk_at "rq"
        have d5 := (S4.new n5)
        have hq6 : SqT K H6 t5 [] := x6.tup (SqT.of g5) (nin_pr d5)
        refine ⟨[], _, _, _, .int room, .int 7, .int (v6 * 0 + 3), t5, [], [], rfl, .int _, .int _, .int _, hq6, .nil, by decide, .inr (.inr (.inr ⟨room, 7, _, rfl, rfl, rfl, r0, r1, by decide, by decide, by omega, by omega, fun m ns1 t q H7 c7 s7 hq7 ht7 => ?_⟩))⟩
        have hm3 : m = 3 := by have := c7.mem; simp [leftL] at this; omega
        have hn3 : ns1 = [] := by have := c7.perm; simpa [brokL] using this
        subst hm3 hn3
        walk_at "rq"
        refine ⟨sz (by simp), fun t8 H8 n8 s8 g8 => ?_⟩
        walk_at "rq"
        refine ⟨sz (by simp), fun t9 H9 n9 s9 g9 => ?_⟩
        walk_at "rq"
        exact ⟨[], _, _, slotD 3 [], rfl, cut_dt ((s8.trans s9).tupS hq7) ((s8.trans s9).tupS ht7), cut_dt (s9.tupS (SqT.of g8)) (SqT.of g9), .inl rfl, by decide, fun H10 s10 => k _⟩
    · intro hrest
      walk_at "rs"
      refine ⟨st, c, r, _, 4, rfl, S2, by omega, by decide, by decide, fun v3 H3 a3 b3 S3 x3 => ?_⟩
      walk_at "rs"
      refine rd_ite2 (fun hc => ?_) (fun hc => ?_)
      · walk_at "rs"
        refine ⟨st, c, r, _, 400, rfl, S3, by omega, by decide, by decide, fun v4 H4 a4 b4 S4 x4 => ?_⟩
        walk_at "rs"
        exact hrest _ _ ⟨_, rfl, by omega, by omega, S4⟩
      · walk_at "rs"
        exact hrest _ _ ⟨_, rfl, by omega, by omega, S3.mono (by omega)⟩

end
theorem txt_mk {P : Program} {K : PySem.W.Frag} {h : Heap} {mg : Str → Option Value} (X : K.In h) (G : h.Ns mainGlobals mg)
    {f_is_number : Addr} {od_is_number an_is_number : Option Addr} {sl_is_number : Array (Option Value)} {oc_is_number kV_is_number dc_is_number pm_is_number cd_is_number ct_is_number : Value}
    {f_is_within : Addr} {od_is_within an_is_within : Option Addr} {sl_is_within : Array (Option Value)} {oc_is_within kV_is_within dc_is_within pm_is_within cd_is_within ct_is_within : Value}
    {f_require_within : Addr} {od_require_within an_require_within : Option Addr} {sl_require_within : Array (Option Value)} {oc_require_within kV_require_within dc_require_within pm_require_within cd_require_within ct_require_within : Value}
    {f_is_place : Addr} {od_is_place an_is_place : Option Addr} {sl_is_place : Array (Option Value)} {oc_is_place kV_is_place dc_is_place pm_is_place cd_is_place ct_is_place : Value}
    {f_require_place : Addr} {od_require_place an_require_place : Option Addr} {sl_require_place : Array (Option Value)} {oc_require_place kV_require_place dc_require_place pm_require_place cd_require_place ct_require_place : Value}
    {f_require_room : Addr} {od_require_room an_require_room : Option Addr} {sl_require_room : Array (Option Value)} {oc_require_room kV_require_room dc_require_room pm_require_room cd_require_room ct_require_room : Value}
    {f_cut_of : Addr} {od_cut_of an_cut_of : Option Addr} {sl_cut_of : Array (Option Value)} {oc_cut_of kV_cut_of dc_cut_of pm_cut_of cd_cut_of ct_cut_of : Value}
    {f_law_deck : Addr} {od_law_deck an_law_deck : Option Addr} {sl_law_deck : Array (Option Value)} {oc_law_deck kV_law_deck dc_law_deck pm_law_deck cd_law_deck ct_law_deck : Value}
    {f_law_take : Addr} {od_law_take an_law_take : Option Addr} {sl_law_take : Array (Option Value)} {oc_law_take kV_law_take dc_law_take pm_law_take cd_law_take ct_law_take : Value}
    {f_law_same : Addr} {od_law_same an_law_same : Option Addr} {sl_law_same : Array (Option Value)} {oc_law_same kV_law_same dc_law_same pm_law_same cd_law_same ct_law_same : Value}
    {f_law_place : Addr} {od_law_place an_law_place : Option Addr} {sl_law_place : Array (Option Value)} {oc_law_place kV_law_place dc_law_place pm_law_place cd_law_place ct_law_place : Value}
    {f_law_slots : Addr} {od_law_slots an_law_slots : Option Addr} {sl_law_slots : Array (Option Value)} {oc_law_slots kV_law_slots dc_law_slots pm_law_slots cd_law_slots ct_law_slots : Value}
    {f_law_due : Addr} {od_law_due an_law_due : Option Addr} {sl_law_due : Array (Option Value)} {oc_law_due kV_law_due dc_law_due pm_law_due cd_law_due ct_law_due : Value}
    {f_law_refused : Addr} {od_law_refused an_law_refused : Option Addr} {sl_law_refused : Array (Option Value)} {oc_law_refused kV_law_refused dc_law_refused pm_law_refused cd_law_refused ct_law_refused : Value}
    {f_law_odd : Addr} {od_law_odd an_law_odd : Option Addr} {sl_law_odd : Array (Option Value)} {oc_law_odd kV_law_odd dc_law_odd pm_law_odd cd_law_odd ct_law_odd : Value}
    {f_law : Addr} {od_law an_law : Option Addr} {sl_law : Array (Option Value)} {oc_law kV_law dc_law pm_law cd_law ct_law : Value}
    {C_LineError : Addr}
    {C_NoCount : Addr}
    {C_NoHouse : Addr}
    {C_NoPlace : Addr}
    {C_NoRow : Addr}
    {C_NoRule : Addr}
    {I_NoCount cda_NoCount cc_NoCount : Addr} {oJ_NoCount aJ_NoCount oK_NoCount oL_NoCount : Option Addr} {sJ_NoCount sK_NoCount sL_NoCount : Array (Option Value)} {kJ_NoCount dJ_NoCount pJ_NoCount tJ_NoCount cK_NoCount cL_NoCount : Value} {vK_NoCount : Array Value} {fi_NoCount : Str} {ti_NoCount : Tok}
    {I_NoPlace cda_NoPlace cc_NoPlace : Addr} {oJ_NoPlace aJ_NoPlace oK_NoPlace oL_NoPlace : Option Addr} {sJ_NoPlace sK_NoPlace sL_NoPlace : Array (Option Value)} {kJ_NoPlace dJ_NoPlace pJ_NoPlace tJ_NoPlace cK_NoPlace cL_NoPlace : Value} {vK_NoPlace : Array Value} {fi_NoPlace : Str} {ti_NoPlace : Tok}
    {u_LAST_PLACE : Value}
    {u_MOST_ROOM : Value}
    (a_is_number : PySem.W.nsIn K mainGlobals "is_number" = some (some (.ref f_is_number)))
    (l_is_number : K.lookup f_is_number = some ⟨oc_is_number, od_is_number, .func (PySem.W.fnOf "is_number" "is_number" (defArgs s_is_number) (defBody s_is_number) (defScope s_is_number) .none kV_is_number dc_is_number pm_is_number an_is_number cd_is_number ct_is_number), sl_is_number⟩)
    (c_is_number : PySem.W.codeIn K cd_is_number "is_number" = true)
    (k_is_number : PySem.W.keepIn K (.ref f_is_number) = true)
    (a_is_within : PySem.W.nsIn K mainGlobals "is_within" = some (some (.ref f_is_within)))
    (l_is_within : K.lookup f_is_within = some ⟨oc_is_within, od_is_within, .func (PySem.W.fnOf "is_within" "is_within" (defArgs s_is_within) (defBody s_is_within) (defScope s_is_within) .none kV_is_within dc_is_within pm_is_within an_is_within cd_is_within ct_is_within), sl_is_within⟩)
    (c_is_within : PySem.W.codeIn K cd_is_within "is_within" = true)
    (k_is_within : PySem.W.keepIn K (.ref f_is_within) = true)
    (a_require_within : PySem.W.nsIn K mainGlobals "require_within" = some (some (.ref f_require_within)))
    (l_require_within : K.lookup f_require_within = some ⟨oc_require_within, od_require_within, .func (PySem.W.fnOf "require_within" "require_within" (defArgs s_require_within) (defBody s_require_within) (defScope s_require_within) .none kV_require_within dc_require_within pm_require_within an_require_within cd_require_within ct_require_within), sl_require_within⟩)
    (c_require_within : PySem.W.codeIn K cd_require_within "require_within" = true)
    (k_require_within : PySem.W.keepIn K (.ref f_require_within) = true)
    (a_is_place : PySem.W.nsIn K mainGlobals "is_place" = some (some (.ref f_is_place)))
    (l_is_place : K.lookup f_is_place = some ⟨oc_is_place, od_is_place, .func (PySem.W.fnOf "is_place" "is_place" (defArgs s_is_place) (defBody s_is_place) (defScope s_is_place) .none kV_is_place dc_is_place pm_is_place an_is_place cd_is_place ct_is_place), sl_is_place⟩)
    (c_is_place : PySem.W.codeIn K cd_is_place "is_place" = true)
    (k_is_place : PySem.W.keepIn K (.ref f_is_place) = true)
    (a_require_place : PySem.W.nsIn K mainGlobals "require_place" = some (some (.ref f_require_place)))
    (l_require_place : K.lookup f_require_place = some ⟨oc_require_place, od_require_place, .func (PySem.W.fnOf "require_place" "require_place" (defArgs s_require_place) (defBody s_require_place) (defScope s_require_place) .none kV_require_place dc_require_place pm_require_place an_require_place cd_require_place ct_require_place), sl_require_place⟩)
    (c_require_place : PySem.W.codeIn K cd_require_place "require_place" = true)
    (k_require_place : PySem.W.keepIn K (.ref f_require_place) = true)
    (a_require_room : PySem.W.nsIn K mainGlobals "require_room" = some (some (.ref f_require_room)))
    (l_require_room : K.lookup f_require_room = some ⟨oc_require_room, od_require_room, .func (PySem.W.fnOf "require_room" "require_room" (defArgs s_require_room) (defBody s_require_room) (defScope s_require_room) .none kV_require_room dc_require_room pm_require_room an_require_room cd_require_room ct_require_room), sl_require_room⟩)
    (c_require_room : PySem.W.codeIn K cd_require_room "require_room" = true)
    (k_require_room : PySem.W.keepIn K (.ref f_require_room) = true)
    (a_cut_of : PySem.W.nsIn K mainGlobals "cut_of" = some (some (.ref f_cut_of)))
    (l_cut_of : K.lookup f_cut_of = some ⟨oc_cut_of, od_cut_of, .func (PySem.W.fnOf "cut_of" "cut_of" (defArgs s_cut_of) (defBody s_cut_of) (defScope s_cut_of) .none kV_cut_of dc_cut_of pm_cut_of an_cut_of cd_cut_of ct_cut_of), sl_cut_of⟩)
    (c_cut_of : PySem.W.codeIn K cd_cut_of "cut_of" = true)
    (k_cut_of : PySem.W.keepIn K (.ref f_cut_of) = true)
    (a_law_deck : PySem.W.nsIn K mainGlobals "_law_deck" = some (some (.ref f_law_deck)))
    (l_law_deck : K.lookup f_law_deck = some ⟨oc_law_deck, od_law_deck, .func (PySem.W.fnOf "_law_deck" "_law_deck" (defArgs s_law_deck) (defBody s_law_deck) (defScope s_law_deck) .none kV_law_deck dc_law_deck pm_law_deck an_law_deck cd_law_deck ct_law_deck), sl_law_deck⟩)
    (c_law_deck : PySem.W.codeIn K cd_law_deck "_law_deck" = true)
    (k_law_deck : PySem.W.keepIn K (.ref f_law_deck) = true)
    (a_law_take : PySem.W.nsIn K mainGlobals "_law_take" = some (some (.ref f_law_take)))
    (l_law_take : K.lookup f_law_take = some ⟨oc_law_take, od_law_take, .func (PySem.W.fnOf "_law_take" "_law_take" (defArgs s_law_take) (defBody s_law_take) (defScope s_law_take) .none kV_law_take dc_law_take pm_law_take an_law_take cd_law_take ct_law_take), sl_law_take⟩)
    (c_law_take : PySem.W.codeIn K cd_law_take "_law_take" = true)
    (k_law_take : PySem.W.keepIn K (.ref f_law_take) = true)
    (a_law_same : PySem.W.nsIn K mainGlobals "_law_same" = some (some (.ref f_law_same)))
    (l_law_same : K.lookup f_law_same = some ⟨oc_law_same, od_law_same, .func (PySem.W.fnOf "_law_same" "_law_same" (defArgs s_law_same) (defBody s_law_same) (defScope s_law_same) .none kV_law_same dc_law_same pm_law_same an_law_same cd_law_same ct_law_same), sl_law_same⟩)
    (c_law_same : PySem.W.codeIn K cd_law_same "_law_same" = true)
    (k_law_same : PySem.W.keepIn K (.ref f_law_same) = true)
    (a_law_place : PySem.W.nsIn K mainGlobals "_law_place" = some (some (.ref f_law_place)))
    (l_law_place : K.lookup f_law_place = some ⟨oc_law_place, od_law_place, .func (PySem.W.fnOf "_law_place" "_law_place" (defArgs s_law_place) (defBody s_law_place) (defScope s_law_place) .none kV_law_place dc_law_place pm_law_place an_law_place cd_law_place ct_law_place), sl_law_place⟩)
    (c_law_place : PySem.W.codeIn K cd_law_place "_law_place" = true)
    (k_law_place : PySem.W.keepIn K (.ref f_law_place) = true)
    (a_law_slots : PySem.W.nsIn K mainGlobals "_law_slots" = some (some (.ref f_law_slots)))
    (l_law_slots : K.lookup f_law_slots = some ⟨oc_law_slots, od_law_slots, .func (PySem.W.fnOf "_law_slots" "_law_slots" (defArgs s_law_slots) (defBody s_law_slots) (defScope s_law_slots) .none kV_law_slots dc_law_slots pm_law_slots an_law_slots cd_law_slots ct_law_slots), sl_law_slots⟩)
    (c_law_slots : PySem.W.codeIn K cd_law_slots "_law_slots" = true)
    (k_law_slots : PySem.W.keepIn K (.ref f_law_slots) = true)
    (a_law_due : PySem.W.nsIn K mainGlobals "_law_due" = some (some (.ref f_law_due)))
    (l_law_due : K.lookup f_law_due = some ⟨oc_law_due, od_law_due, .func (PySem.W.fnOf "_law_due" "_law_due" (defArgs s_law_due) (defBody s_law_due) (defScope s_law_due) .none kV_law_due dc_law_due pm_law_due an_law_due cd_law_due ct_law_due), sl_law_due⟩)
    (c_law_due : PySem.W.codeIn K cd_law_due "_law_due" = true)
    (k_law_due : PySem.W.keepIn K (.ref f_law_due) = true)
    (a_law_refused : PySem.W.nsIn K mainGlobals "_law_refused" = some (some (.ref f_law_refused)))
    (l_law_refused : K.lookup f_law_refused = some ⟨oc_law_refused, od_law_refused, .func (PySem.W.fnOf "_law_refused" "_law_refused" (defArgs s_law_refused) (defBody s_law_refused) (defScope s_law_refused) .none kV_law_refused dc_law_refused pm_law_refused an_law_refused cd_law_refused ct_law_refused), sl_law_refused⟩)
    (c_law_refused : PySem.W.codeIn K cd_law_refused "_law_refused" = true)
    (k_law_refused : PySem.W.keepIn K (.ref f_law_refused) = true)
    (a_law_odd : PySem.W.nsIn K mainGlobals "_law_odd" = some (some (.ref f_law_odd)))
    (l_law_odd : K.lookup f_law_odd = some ⟨oc_law_odd, od_law_odd, .func (PySem.W.fnOf "_law_odd" "_law_odd" (defArgs s_law_odd) (defBody s_law_odd) (defScope s_law_odd) .none kV_law_odd dc_law_odd pm_law_odd an_law_odd cd_law_odd ct_law_odd), sl_law_odd⟩)
    (c_law_odd : PySem.W.codeIn K cd_law_odd "_law_odd" = true)
    (k_law_odd : PySem.W.keepIn K (.ref f_law_odd) = true)
    (a_law : PySem.W.nsIn K mainGlobals "law" = some (some (.ref f_law)))
    (l_law : K.lookup f_law = some ⟨oc_law, od_law, .func (PySem.W.fnOf "law" "law" (defArgs s_law) (defBody s_law) (defScope s_law) .none kV_law dc_law pm_law an_law cd_law ct_law), sl_law⟩)
    (c_law : PySem.W.codeIn K cd_law "law" = true)
    (k_law : PySem.W.keepIn K (.ref f_law) = true)
    (z_ValueError : PySem.W.nsIn K mainGlobals "ValueError" = some none)
    (z_bool : PySem.W.nsIn K mainGlobals "bool" = some none)
    (z_int : PySem.W.nsIn K mainGlobals "int" = some none)
    (z_isinstance : PySem.W.nsIn K mainGlobals "isinstance" = some none)
    (z_len : PySem.W.nsIn K mainGlobals "len" = some none)
    (z_list : PySem.W.nsIn K mainGlobals "list" = some none)
    (z_max : PySem.W.nsIn K mainGlobals "max" = some none)
    (z_min : PySem.W.nsIn K mainGlobals "min" = some none)
    (z_range : PySem.W.nsIn K mainGlobals "range" = some none)
    (z_reversed : PySem.W.nsIn K mainGlobals "reversed" = some none)
    (z_sorted : PySem.W.nsIn K mainGlobals "sorted" = some none)
    (z_str : PySem.W.nsIn K mainGlobals "str" = some none)
    (z_tuple : PySem.W.nsIn K mainGlobals "tuple" = some none)
    (z_zip : PySem.W.nsIn K mainGlobals "zip" = some none)
    (vC_LineError : PySem.W.nsIn K mainGlobals "LineError" = some (some (.ref C_LineError)))
    (vC_NoCount : PySem.W.nsIn K mainGlobals "NoCount" = some (some (.ref C_NoCount)))
    (vC_NoHouse : PySem.W.nsIn K mainGlobals "NoHouse" = some (some (.ref C_NoHouse)))
    (vC_NoPlace : PySem.W.nsIn K mainGlobals "NoPlace" = some (some (.ref C_NoPlace)))
    (vC_NoRow : PySem.W.nsIn K mainGlobals "NoRow" = some (some (.ref C_NoRow)))
    (vC_NoRule : PySem.W.nsIn K mainGlobals "NoRule" = some (some (.ref C_NoRule)))
    (zsu : PySem.W.nsIn K mainGlobals "super" = some none)
    (ztp : (P.main.scope.names.lookup ("super" : Str)).isSome = false)
    (fI_NoCount : PySem.W.findIn K (.ref C_NoCount) "__init__" = some (some (.ref I_NoCount)))
    (lI_NoCount : K.lookup I_NoCount = some ⟨.type "function", oJ_NoCount, .func (PySem.W.ksFn "__init__" "NoCount.__init__" (defArgs t_NoCount) (defBody t_NoCount) (defScope t_NoCount) .none kJ_NoCount dJ_NoCount pJ_NoCount aJ_NoCount (.ref cda_NoCount) tJ_NoCount cc_NoCount), sJ_NoCount⟩)
    (cI_NoCount : PySem.W.codeIn K (.ref cda_NoCount) "NoCount.__init__" = true)
    (hI_NoCount : K.lookup cda_NoCount = some ⟨cK_NoCount, oK_NoCount, .fields vK_NoCount, sK_NoCount⟩)
    (vI_NoCount : vK_NoCount[2]? = some (.str fi_NoCount ti_NoCount))
    (eI_NoCount : ((P.main.file : Str) == fi_NoCount) = true)
    (gI_NoCount : K.lookup cc_NoCount = some ⟨cL_NoCount, oL_NoCount, .cell (some (.ref C_NoCount)), sL_NoCount⟩)
    (xk_NoCount : xk1In K C_NoCount C_LineError "what" = true)
    (xi_NoCount : xcIn K C_NoCount (some (.ref I_NoCount)) = true)
    (kC_NoCount : PySem.W.keepIn K (.ref C_NoCount) = true)
    (fI_NoPlace : PySem.W.findIn K (.ref C_NoPlace) "__init__" = some (some (.ref I_NoPlace)))
    (lI_NoPlace : K.lookup I_NoPlace = some ⟨.type "function", oJ_NoPlace, .func (PySem.W.ksFn "__init__" "NoPlace.__init__" (defArgs t_NoPlace) (defBody t_NoPlace) (defScope t_NoPlace) .none kJ_NoPlace dJ_NoPlace pJ_NoPlace aJ_NoPlace (.ref cda_NoPlace) tJ_NoPlace cc_NoPlace), sJ_NoPlace⟩)
    (cI_NoPlace : PySem.W.codeIn K (.ref cda_NoPlace) "NoPlace.__init__" = true)
    (hI_NoPlace : K.lookup cda_NoPlace = some ⟨cK_NoPlace, oK_NoPlace, .fields vK_NoPlace, sK_NoPlace⟩)
    (vI_NoPlace : vK_NoPlace[2]? = some (.str fi_NoPlace ti_NoPlace))
    (eI_NoPlace : ((P.main.file : Str) == fi_NoPlace) = true)
    (gI_NoPlace : K.lookup cc_NoPlace = some ⟨cL_NoPlace, oL_NoPlace, .cell (some (.ref C_NoPlace)), sL_NoPlace⟩)
    (xk_NoPlace : xk1In K C_NoPlace C_LineError "place" = true)
    (xi_NoPlace : xcIn K C_NoPlace (some (.ref I_NoPlace)) = true)
    (kC_NoPlace : PySem.W.keepIn K (.ref C_NoPlace) = true)
    (xg_NoCount : xgIn K C_NoCount = true)
    (ex_NoCount_LineError : PySem.W.exmOne K (.ref C_NoCount) (.ref C_LineError) = some true)
    (is_NoCount_NoCount : PySem.W.kitOne K (.ref C_NoCount) (.ref C_NoCount) = some true)
    (is_NoCount_NoHouse : PySem.W.kitOne K (.ref C_NoCount) (.ref C_NoHouse) = some false)
    (is_NoCount_NoPlace : PySem.W.kitOne K (.ref C_NoCount) (.ref C_NoPlace) = some false)
    (is_NoCount_NoRow : PySem.W.kitOne K (.ref C_NoCount) (.ref C_NoRow) = some false)
    (is_NoCount_NoRule : PySem.W.kitOne K (.ref C_NoCount) (.ref C_NoRule) = some false)
    (is_NoCount_ValueError : PySem.W.kitOne K (.ref C_NoCount) (.type "ValueError") = some true)
    (xg_NoPlace : xgIn K C_NoPlace = true)
    (ex_NoPlace_LineError : PySem.W.exmOne K (.ref C_NoPlace) (.ref C_LineError) = some true)
    (is_NoPlace_NoCount : PySem.W.kitOne K (.ref C_NoPlace) (.ref C_NoCount) = some false)
    (is_NoPlace_NoHouse : PySem.W.kitOne K (.ref C_NoPlace) (.ref C_NoHouse) = some false)
    (is_NoPlace_NoPlace : PySem.W.kitOne K (.ref C_NoPlace) (.ref C_NoPlace) = some true)
    (is_NoPlace_NoRow : PySem.W.kitOne K (.ref C_NoPlace) (.ref C_NoRow) = some false)
    (is_NoPlace_NoRule : PySem.W.kitOne K (.ref C_NoPlace) (.ref C_NoRule) = some false)
    (is_NoPlace_ValueError : PySem.W.kitOne K (.ref C_NoPlace) (.type "ValueError") = some true)
    (v_LAST_PLACE : PySem.W.nsIn K mainGlobals "LAST_PLACE" = some (some u_LAST_PLACE))
    (r_LAST_PLACE : RelV (.int 1000000) u_LAST_PLACE)
    (v_MOST_ROOM : PySem.W.nsIn K mainGlobals "MOST_ROOM" = some (some u_MOST_ROOM))
    (r_MOST_ROOM : RelV (.int 400) u_MOST_ROOM) :
    ∃ a, Txt P K mg a := by
  exact ⟨⟨f_is_number, PySem.W.fnOf "is_number" "is_number" (defArgs s_is_number) (defBody s_is_number) (defScope s_is_number) .none kV_is_number dc_is_number pm_is_number an_is_number cd_is_number ct_is_number, f_is_within, PySem.W.fnOf "is_within" "is_within" (defArgs s_is_within) (defBody s_is_within) (defScope s_is_within) .none kV_is_within dc_is_within pm_is_within an_is_within cd_is_within ct_is_within, f_require_within, PySem.W.fnOf "require_within" "require_within" (defArgs s_require_within) (defBody s_require_within) (defScope s_require_within) .none kV_require_within dc_require_within pm_require_within an_require_within cd_require_within ct_require_within, f_is_place, PySem.W.fnOf "is_place" "is_place" (defArgs s_is_place) (defBody s_is_place) (defScope s_is_place) .none kV_is_place dc_is_place pm_is_place an_is_place cd_is_place ct_is_place, f_require_place, PySem.W.fnOf "require_place" "require_place" (defArgs s_require_place) (defBody s_require_place) (defScope s_require_place) .none kV_require_place dc_require_place pm_require_place an_require_place cd_require_place ct_require_place, f_require_room, PySem.W.fnOf "require_room" "require_room" (defArgs s_require_room) (defBody s_require_room) (defScope s_require_room) .none kV_require_room dc_require_room pm_require_room an_require_room cd_require_room ct_require_room, f_cut_of, PySem.W.fnOf "cut_of" "cut_of" (defArgs s_cut_of) (defBody s_cut_of) (defScope s_cut_of) .none kV_cut_of dc_cut_of pm_cut_of an_cut_of cd_cut_of ct_cut_of, f_law_deck, PySem.W.fnOf "_law_deck" "_law_deck" (defArgs s_law_deck) (defBody s_law_deck) (defScope s_law_deck) .none kV_law_deck dc_law_deck pm_law_deck an_law_deck cd_law_deck ct_law_deck, f_law_take, PySem.W.fnOf "_law_take" "_law_take" (defArgs s_law_take) (defBody s_law_take) (defScope s_law_take) .none kV_law_take dc_law_take pm_law_take an_law_take cd_law_take ct_law_take, f_law_same, PySem.W.fnOf "_law_same" "_law_same" (defArgs s_law_same) (defBody s_law_same) (defScope s_law_same) .none kV_law_same dc_law_same pm_law_same an_law_same cd_law_same ct_law_same, f_law_place, PySem.W.fnOf "_law_place" "_law_place" (defArgs s_law_place) (defBody s_law_place) (defScope s_law_place) .none kV_law_place dc_law_place pm_law_place an_law_place cd_law_place ct_law_place, f_law_slots, PySem.W.fnOf "_law_slots" "_law_slots" (defArgs s_law_slots) (defBody s_law_slots) (defScope s_law_slots) .none kV_law_slots dc_law_slots pm_law_slots an_law_slots cd_law_slots ct_law_slots, f_law_due, PySem.W.fnOf "_law_due" "_law_due" (defArgs s_law_due) (defBody s_law_due) (defScope s_law_due) .none kV_law_due dc_law_due pm_law_due an_law_due cd_law_due ct_law_due, f_law_refused, PySem.W.fnOf "_law_refused" "_law_refused" (defArgs s_law_refused) (defBody s_law_refused) (defScope s_law_refused) .none kV_law_refused dc_law_refused pm_law_refused an_law_refused cd_law_refused ct_law_refused, f_law_odd, PySem.W.fnOf "_law_odd" "_law_odd" (defArgs s_law_odd) (defBody s_law_odd) (defScope s_law_odd) .none kV_law_odd dc_law_odd pm_law_odd an_law_odd cd_law_odd ct_law_odd, f_law, PySem.W.fnOf "law" "law" (defArgs s_law) (defBody s_law) (defScope s_law) .none kV_law dc_law pm_law an_law cd_law ct_law, u_LAST_PLACE, u_MOST_ROOM, C_LineError, C_NoCount, C_NoHouse, C_NoPlace, C_NoRow, C_NoRule, I_NoCount, I_NoPlace⟩,
    ⟨PySem.W.mg_of X G vC_LineError,
     PySem.W.mg_of X G vC_NoCount,
     PySem.W.mg_of X G vC_NoHouse,
     PySem.W.mg_of X G vC_NoPlace,
     PySem.W.mg_of X G vC_NoRow,
     PySem.W.mg_of X G vC_NoRule,
     xini_mk ib_NoCount xk_NoCount xi_NoCount kC_NoCount zsu ztp lI_NoCount cI_NoCount hI_NoCount vI_NoCount eI_NoCount gI_NoCount,
     xini_mk ib_NoPlace xk_NoPlace xi_NoPlace kC_NoPlace zsu ztp lI_NoPlace cI_NoPlace hI_NoPlace vI_NoPlace eI_NoPlace gI_NoPlace,
     xg_of xg_NoCount,
     ex_NoCount_LineError,
     is_NoCount_NoCount,
     is_NoCount_NoHouse,
     is_NoCount_NoPlace,
     is_NoCount_NoRow,
     is_NoCount_NoRule,
     is_NoCount_ValueError,
     xg_of xg_NoPlace,
     ex_NoPlace_LineError,
     is_NoPlace_NoCount,
     is_NoPlace_NoHouse,
     is_NoPlace_NoPlace,
     is_NoPlace_NoRow,
     is_NoPlace_NoRule,
     is_NoPlace_ValueError,
     ⟨PySem.W.mg_of X G v_LAST_PLACE, r_LAST_PLACE⟩,
     ⟨PySem.W.mg_of X G v_MOST_ROOM, r_MOST_ROOM⟩,
     PySem.W.mg_none_of X G z_ValueError,
     PySem.W.mg_none_of X G z_bool,
     PySem.W.mg_none_of X G z_int,
     PySem.W.mg_none_of X G z_isinstance,
     PySem.W.mg_none_of X G z_len,
     PySem.W.mg_none_of X G z_list,
     PySem.W.mg_none_of X G z_max,
     PySem.W.mg_none_of X G z_min,
     PySem.W.mg_none_of X G z_range,
     PySem.W.mg_none_of X G z_reversed,
     PySem.W.mg_none_of X G z_sorted,
     PySem.W.mg_none_of X G z_str,
     PySem.W.mg_none_of X G z_tuple,
     PySem.W.mg_none_of X G z_zip,
     fun_mk (st := s_is_number) l_is_number c_is_number k_is_number,
     PySem.W.mg_of X G a_is_number,
     k_is_number,
     (fun_mk (st := s_is_number) l_is_number c_is_number k_is_number).binds (ps := ["thing"]) fun _ _ _ _ _ _ us hl => match us, hl with | [_], _ => rfl,
     fun_mk (st := s_is_within) l_is_within c_is_within k_is_within,
     PySem.W.mg_of X G a_is_within,
     k_is_within,
     (fun_mk (st := s_is_within) l_is_within c_is_within k_is_within).binds (ps := ["thing", "least", "most"]) fun _ _ _ _ _ _ us hl => match us, hl with | [_, _, _], _ => rfl,
     fun_mk (st := s_require_within) l_require_within c_require_within k_require_within,
     PySem.W.mg_of X G a_require_within,
     k_require_within,
     (fun_mk (st := s_require_within) l_require_within c_require_within k_require_within).binds (ps := ["thing", "least", "most", "what"]) fun _ _ _ _ _ _ us hl => match us, hl with | [_, _, _, _], _ => rfl,
     fun_mk (st := s_is_place) l_is_place c_is_place k_is_place,
     PySem.W.mg_of X G a_is_place,
     k_is_place,
     (fun_mk (st := s_is_place) l_is_place c_is_place k_is_place).binds (ps := ["thing"]) fun _ _ _ _ _ _ us hl => match us, hl with | [_], _ => rfl,
     fun_mk (st := s_require_place) l_require_place c_require_place k_require_place,
     PySem.W.mg_of X G a_require_place,
     k_require_place,
     (fun_mk (st := s_require_place) l_require_place c_require_place k_require_place).binds (ps := ["thing"]) fun _ _ _ _ _ _ us hl => match us, hl with | [_], _ => rfl,
     fun_mk (st := s_require_room) l_require_room c_require_room k_require_room,
     PySem.W.mg_of X G a_require_room,
     k_require_room,
     (fun_mk (st := s_require_room) l_require_room c_require_room k_require_room).binds (ps := ["room"]) fun _ _ _ _ _ _ us hl => match us, hl with | [_], _ => rfl,
     fun_mk (st := s_cut_of) l_cut_of c_cut_of k_cut_of,
     PySem.W.mg_of X G a_cut_of,
     k_cut_of,
     (fun_mk (st := s_cut_of) l_cut_of c_cut_of k_cut_of).binds (ps := ["room", "slots", "end", "applied"]) fun _ _ _ _ _ _ us hl => match us, hl with | [_, _, _, _], _ => rfl,
     fun_mk (st := s_law_deck) l_law_deck c_law_deck k_law_deck,
     PySem.W.mg_of X G a_law_deck,
     k_law_deck,
     (fun_mk (st := s_law_deck) l_law_deck c_law_deck k_law_deck).binds (ps := ["_law_script"]) fun _ _ _ _ _ _ us hl => match us, hl with | [_], _ => rfl,
     fun_mk (st := s_law_take) l_law_take c_law_take k_law_take,
     PySem.W.mg_of X G a_law_take,
     k_law_take,
     (fun_mk (st := s_law_take) l_law_take c_law_take k_law_take).binds (ps := ["_law_deck_here", "_law_many"]) fun _ _ _ _ _ _ us hl => match us, hl with | [_, _], _ => rfl,
     fun_mk (st := s_law_same) l_law_same c_law_same k_law_same,
     PySem.W.mg_of X G a_law_same,
     k_law_same,
     (fun_mk (st := s_law_same) l_law_same c_law_same k_law_same).binds (ps := ["_law_found", "_law_due_here"]) fun _ _ _ _ _ _ us hl => match us, hl with | [_, _], _ => rfl,
     fun_mk (st := s_law_place) l_law_place c_law_place k_law_place,
     PySem.W.mg_of X G a_law_place,
     k_law_place,
     (fun_mk (st := s_law_place) l_law_place c_law_place k_law_place).binds (ps := ["_law_deck_here"]) fun _ _ _ _ _ _ us hl => match us, hl with | [_], _ => rfl,
     fun_mk (st := s_law_slots) l_law_slots c_law_slots k_law_slots,
     PySem.W.mg_of X G a_law_slots,
     k_law_slots,
     (fun_mk (st := s_law_slots) l_law_slots c_law_slots k_law_slots).binds (ps := ["_law_deck_here", "_law_room", "_law_end"]) fun _ _ _ _ _ _ us hl => match us, hl with | [_, _, _], _ => rfl,
     fun_mk (st := s_law_due) l_law_due c_law_due k_law_due,
     PySem.W.mg_of X G a_law_due,
     k_law_due,
     (fun_mk (st := s_law_due) l_law_due c_law_due k_law_due).binds (ps := ["_law_room", "_law_slots_here", "_law_end", "_law_applied"]) fun _ _ _ _ _ _ us hl => match us, hl with | [_, _, _, _], _ => rfl,
     fun_mk (st := s_law_refused) l_law_refused c_law_refused k_law_refused,
     PySem.W.mg_of X G a_law_refused,
     k_law_refused,
     (fun_mk (st := s_law_refused) l_law_refused c_law_refused k_law_refused).binds (ps := ["_law_handed", "_law_word", "_law_field"]) fun _ _ _ _ _ _ us hl => match us, hl with | [_, _, _], _ => rfl,
     fun_mk (st := s_law_odd) l_law_odd c_law_odd k_law_odd,
     PySem.W.mg_of X G a_law_odd,
     k_law_odd,
     (fun_mk (st := s_law_odd) l_law_odd c_law_odd k_law_odd).binds (ps := ["_law_deck_here", "_law_least", "_law_most"]) fun _ _ _ _ _ _ us hl => match us, hl with | [_, _, _], _ => rfl,
     fun_mk (st := s_law) l_law c_law k_law,
     PySem.W.mg_of X G a_law,
     k_law,
     (fun_mk (st := s_law) l_law c_law k_law).binds (ps := ["_law_script"]) fun _ _ _ _ _ _ us hl => match us, hl with | [_], _ => rfl,
     fun s u => .of_eq rfl⟩⟩
theorem all_ok {P : Program} {w : World} {K : PySem.W.Frag} {mg : Str → Option Value} {base : Heap} {a : Adr} (T : Txt P K mg a) : FnOk P w K mg base CX0 7 a.f_law a.d_law ["_law_script"] (sp_law K) := by
  have G_is_number : FnOk P w K mg base CX0 1 a.f_is_number a.d_is_number ["thing"] (sp_is_number K) := ok_is_number T 
  have G__law_deck : FnOk P w K mg base CX0 1 a.f_law_deck a.d_law_deck ["_law_script"] (sp_law_deck K) := ok_law_deck T 
  have G__law_take : FnOk P w K mg base CX0 1 a.f_law_take a.d_law_take ["_law_deck_here", "_law_many"] (sp_law_take K) := ok_law_take T 
  have G__law_due : FnOk P w K mg base CX0 1 a.f_law_due a.d_law_due ["_law_room", "_law_slots_here", "_law_end", "_law_applied"] (sp_law_due K) := ok_law_due T 
  have G_is_within : FnOk P w K mg base CX0 2 a.f_is_within a.d_is_within ["thing", "least", "most"] (sp_is_within K) := ok_is_within T G_is_number
  have G__law_place : FnOk P w K mg base CX0 2 a.f_law_place a.d_law_place ["_law_deck_here"] (sp_law_place K) := ok_law_place T G__law_take
  have G__law_odd : FnOk P w K mg base CX0 2 a.f_law_odd a.d_law_odd ["_law_deck_here", "_law_least", "_law_most"] (sp_law_odd K) := ok_law_odd T G__law_take
  have G_require_within : FnOk P w K mg base (CX1 P w) 3 a.f_require_within a.d_require_within ["thing", "least", "most", "what"] (sp_require_within K a) := ok_require_within T G_is_within
  have G_is_place : FnOk P w K mg base CX0 3 a.f_is_place a.d_is_place ["thing"] (sp_is_place K) := ok_is_place T G_is_within
  have G__law_same : FnOk P w K mg base CX0 3 a.f_law_same a.d_law_same ["_law_found", "_law_due_here"] (sp_law_same K) := ok_law_same T 
  have G__law_slots : FnOk P w K mg base CX0 3 a.f_law_slots a.d_law_slots ["_law_deck_here", "_law_room", "_law_end"] (sp_law_slots K) := ok_law_slots T G__law_place G__law_take
  have G_require_place : FnOk P w K mg base (CX1 P w) 4 a.f_require_place a.d_require_place ["thing"] (sp_require_place K a) := ok_require_place T G_is_place
  have G_require_room : FnOk P w K mg base (CX1 P w) 4 a.f_require_room a.d_require_room ["room"] (sp_require_room K a) := ok_require_room T G_require_within
  have G_cut_of : FnOk P w K mg base (CX1 P w) 5 a.f_cut_of a.d_cut_of ["room", "slots", "end", "applied"] (sp_cut_of K a) := ok_cut_of T G_is_within G_require_place G_require_room
  have G__law_refused : FnOk P w K mg base CX0 6 a.f_law_refused a.d_law_refused ["_law_handed", "_law_word", "_law_field"] (sp_law_refused K a) := ok_law_refused T G__law_same G_cut_of
  have G_law : FnOk P w K mg base CX0 7 a.f_law a.d_law ["_law_script"] (sp_law K) := ok_law T G__law_deck G__law_due G__law_odd G__law_place G__law_refused G__law_same G__law_slots G__law_take G_cut_of
  exact G_law
end My
open PySem PySem.W PyProof.Rows
set_option maxRecDepth 100000 in
set_option maxHeartbeats 0 in
theorem PySem.Challenge.cw_laterline_k32_cuts_told_holds : PySem.Challenge.rw_laterline_k32_cuts_told.Holds := by
  w_on; o_law; k_head; (case hw => w_witness2)
  k_fill
  refine L2.walk_ofK (l := PySem.Challenge.rw_laterline_k32_cuts_told) (n := 63) (k := 7) (x := "_law_script") (CX := L2.CX0) (sp := My.sp_law) rfl (by decide) rfl ⟨rfl, by decide, by decide, rfl⟩ (fun w h Y => PySem.W.kIn_of Y) ?F ?S ?C
  case F =>
    intro w mg fa h KX G hmg
    have T : ∃ a, My.Txt (PySem.Challenge.rw_laterline_k32_cuts_told).prog (L2.KOf KX) mg a := by
      dsimp only [L2.KOf]
      refine' My.txt_mk KX G ?a_is_number ?l_is_number ?c_is_number ?k_is_number ?a_is_within ?l_is_within ?c_is_within ?k_is_within ?a_require_within ?l_require_within ?c_require_within ?k_require_within ?a_is_place ?l_is_place ?c_is_place ?k_is_place ?a_require_place ?l_require_place ?c_require_place ?k_require_place ?a_require_room ?l_require_room ?c_require_room ?k_require_room ?a_cut_of ?l_cut_of ?c_cut_of ?k_cut_of ?a_law_deck ?l_law_deck ?c_law_deck ?k_law_deck ?a_law_take ?l_law_take ?c_law_take ?k_law_take ?a_law_same ?l_law_same ?c_law_same ?k_law_same ?a_law_place ?l_law_place ?c_law_place ?k_law_place ?a_law_slots ?l_law_slots ?c_law_slots ?k_law_slots ?a_law_due ?l_law_due ?c_law_due ?k_law_due ?a_law_refused ?l_law_refused ?c_law_refused ?k_law_refused ?a_law_odd ?l_law_odd ?c_law_odd ?k_law_odd ?a_law ?l_law ?c_law ?k_law ?z_ValueError ?z_bool ?z_int ?z_isinstance ?z_len ?z_list ?z_max ?z_min ?z_range ?z_reversed ?z_sorted ?z_str ?z_tuple ?z_zip ?vC_LineError ?vC_NoCount ?vC_NoHouse ?vC_NoPlace ?vC_NoRow ?vC_NoRule ?zsu ?rr_ztp ?fI_NoCount ?lI_NoCount ?cI_NoCount ?hI_NoCount ?rf_vI_NoCount ?rr_eI_NoCount ?gI_NoCount ?rr_xk_NoCount ?rr_xi_NoCount ?kC_NoCount ?fI_NoPlace ?lI_NoPlace ?cI_NoPlace ?hI_NoPlace ?rf_vI_NoPlace ?rr_eI_NoPlace ?gI_NoPlace ?rr_xk_NoPlace ?rr_xi_NoPlace ?kC_NoPlace ?rr_xg_NoCount ?rr_ex_NoCount_LineError ?rr_is_NoCount_NoCount ?rr_is_NoCount_NoHouse ?rr_is_NoCount_NoPlace ?rr_is_NoCount_NoRow ?rr_is_NoCount_NoRule ?rr_is_NoCount_ValueError ?rr_xg_NoPlace ?rr_ex_NoPlace_LineError ?rr_is_NoPlace_NoCount ?rr_is_NoPlace_NoHouse ?rr_is_NoPlace_NoPlace ?rr_is_NoPlace_NoRow ?rr_is_NoPlace_NoRule ?rr_is_NoPlace_ValueError ?v_LAST_PLACE ?r_LAST_PLACE ?v_MOST_ROOM ?r_MOST_ROOM
      (case a_is_number => k_is)
      (case l_is_number => k_is)
      (case c_is_number => k_is)
      (case k_is_number => k_is)
      (case a_is_within => k_is)
      (case l_is_within => k_is)
      (case c_is_within => k_is)
      (case k_is_within => k_is)
      (case a_require_within => k_is)
      (case l_require_within => k_is)
      (case c_require_within => k_is)
      (case k_require_within => k_is)
      (case a_is_place => k_is)
      (case l_is_place => k_is)
      (case c_is_place => k_is)
      (case k_is_place => k_is)
      (case a_require_place => k_is)
      (case l_require_place => k_is)
      (case c_require_place => k_is)
      (case k_require_place => k_is)
      (case a_require_room => k_is)
      (case l_require_room => k_is)
      (case c_require_room => k_is)
      (case k_require_room => k_is)
      (case a_cut_of => k_is)
      (case l_cut_of => k_is)
      (case c_cut_of => k_is)
      (case k_cut_of => k_is)
      (case a_law_deck => k_is)
      (case l_law_deck => k_is)
      (case c_law_deck => k_is)
      (case k_law_deck => k_is)
      (case a_law_take => k_is)
      (case l_law_take => k_is)
      (case c_law_take => k_is)
      (case k_law_take => k_is)
      (case a_law_same => k_is)
      (case l_law_same => k_is)
      (case c_law_same => k_is)
      (case k_law_same => k_is)
      (case a_law_place => k_is)
      (case l_law_place => k_is)
      (case c_law_place => k_is)
      (case k_law_place => k_is)
      (case a_law_slots => k_is)
      (case l_law_slots => k_is)
      (case c_law_slots => k_is)
      (case k_law_slots => k_is)
      (case a_law_due => k_is)
      (case l_law_due => k_is)
      (case c_law_due => k_is)
      (case k_law_due => k_is)
      (case a_law_refused => k_is)
      (case l_law_refused => k_is)
      (case c_law_refused => k_is)
      (case k_law_refused => k_is)
      (case a_law_odd => k_is)
      (case l_law_odd => k_is)
      (case c_law_odd => k_is)
      (case k_law_odd => k_is)
      (case a_law => k_is)
      (case l_law => k_is)
      (case c_law => k_is)
      (case k_law => k_is)
      (case z_ValueError => k_is)
      (case z_bool => k_is)
      (case z_int => k_is)
      (case z_isinstance => k_is)
      (case z_len => k_is)
      (case z_list => k_is)
      (case z_max => k_is)
      (case z_min => k_is)
      (case z_range => k_is)
      (case z_reversed => k_is)
      (case z_sorted => k_is)
      (case z_str => k_is)
      (case z_tuple => k_is)
      (case z_zip => k_is)
      (case vC_LineError => k_is)
      (case vC_NoCount => k_is)
      (case vC_NoHouse => k_is)
      (case vC_NoPlace => k_is)
      (case vC_NoRow => k_is)
      (case vC_NoRule => k_is)
      (case zsu => k_is)
      (case rr_ztp => kernel_rfl)
      (case fI_NoCount => k_is)
      (case lI_NoCount => k_is)
      (case cI_NoCount => k_is)
      (case hI_NoCount => k_is)
      (case rf_vI_NoCount => exact rfl)
      (case rr_eI_NoCount => kernel_rfl)
      (case gI_NoCount => k_is)
      (case rr_xk_NoCount => kernel_rfl)
      (case rr_xi_NoCount => kernel_rfl)
      (case kC_NoCount => k_is)
      (case fI_NoPlace => k_is)
      (case lI_NoPlace => k_is)
      (case cI_NoPlace => k_is)
      (case hI_NoPlace => k_is)
      (case rf_vI_NoPlace => exact rfl)
      (case rr_eI_NoPlace => kernel_rfl)
      (case gI_NoPlace => k_is)
      (case rr_xk_NoPlace => kernel_rfl)
      (case rr_xi_NoPlace => kernel_rfl)
      (case kC_NoPlace => k_is)
      (case rr_xg_NoCount => kernel_rfl)
      (case rr_ex_NoCount_LineError => kernel_rfl)
      (case rr_is_NoCount_NoCount => kernel_rfl)
      (case rr_is_NoCount_NoHouse => kernel_rfl)
      (case rr_is_NoCount_NoPlace => kernel_rfl)
      (case rr_is_NoCount_NoRow => kernel_rfl)
      (case rr_is_NoCount_NoRule => kernel_rfl)
      (case rr_is_NoCount_ValueError => kernel_rfl)
      (case rr_xg_NoPlace => kernel_rfl)
      (case rr_ex_NoPlace_LineError => kernel_rfl)
      (case rr_is_NoPlace_NoCount => kernel_rfl)
      (case rr_is_NoPlace_NoHouse => kernel_rfl)
      (case rr_is_NoPlace_NoPlace => kernel_rfl)
      (case rr_is_NoPlace_NoRow => kernel_rfl)
      (case rr_is_NoPlace_NoRule => kernel_rfl)
      (case rr_is_NoPlace_ValueError => kernel_rfl)
      (case v_LAST_PLACE => k_is)
      (case r_LAST_PLACE => exact ⟨_, rfl⟩)
      (case v_MOST_ROOM => k_is)
      (case r_MOST_ROOM => exact ⟨_, rfl⟩)
    obtain ⟨a, T⟩ := T
    have e0 := hmg.symm.trans T.m_law
    cases e0
    exact ⟨_, T.bl_law, fun base kb nb => My.all_ok T⟩
  case S => exact fun K H a ns hl hO hS => ⟨a, ns, rfl, hS, hl, fun _ => rfl⟩
  case C => exact fun _ _ _ _ z => z
