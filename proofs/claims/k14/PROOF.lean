import PyProof.Rows.All
import Wide.All
import OpenK.AllK
import Wide.FinOn
import Lean
import PyProof.EqAt
import PyProof.EqKinds
import PyProof.TupleCall
import KE.KTryMore
import PyProof.NsDelKeeps
import OpenK.KOwn
import PyProof.ExcClass3
import KE.KSuper
import PyProof.InstStoreFacts
import PyProof.ExcArgsOwn
import PyProof.ExcAttrAll.ValueError
import KE.KIsAll
import PySem.Challenge.RW_laterline_k14_lines_of_places
set_option Elab.async false
set_option linter.all false
set_option maxRecDepth 100000
/-! THE HAND LAYER, for ints, bools, texts, own classes, LISTS and tuples (index, slices, in, append, pop ..), calls, loops. Paste it whole ahead of your own text; what your proof does not reach may be deleted. -/
namespace L2
open PySem PySem.Spec PyProof.Rows

/-- a key: an int or a str -/
abbrev Key := Sum Int Str
def keyIs : Key → Value → Bool
  | .inl k, v => Value.isInt k v
  | .inr x, v => Value.isStrOf x v
def keyH (w : World) : Key → Int
  | .inl k => hashInt k
  | .inr x => hashStr w x
theorem keyIs_shape : ∀ {k : Key} {v : Value}, keyIs k v = true → (∃ i t, k = Sum.inl i ∧ v = Value.int i t) ∨ (∃ x t, k = Sum.inr x ∧ v = Value.str x t)
  | .inl i, v, h => by
    obtain ⟨t, e⟩ := Value.isInt_shape (k := i) (v := v) h
    exact .inl ⟨i, t, rfl, e⟩
  | .inr x, v, h => by
    obtain ⟨t, e⟩ := Value.isStrOf_shape (x := x) (v := v) h
    exact .inr ⟨x, t, rfl, e⟩
theorem key_ll (a b : Int) : decide ((Sum.inl a : Key) = Sum.inl b) = (a == b) := by
  by_cases e : a = b
  · subst e; simp
  · have h : ¬ (Sum.inl a : Key) = Sum.inl b := fun q => e (Sum.inl.inj q)
    rw [decide_eq_false h]
    exact (beq_eq_false_iff_ne.mpr e).symm
theorem key_rr (a b : Str) : decide ((Sum.inr a : Key) = Sum.inr b) = decide (a = b) := by
  by_cases e : a = b
  · subst e; simp
  · have h : ¬ (Sum.inr a : Key) = Sum.inr b := fun q => e (Sum.inr.inj q)
    rw [decide_eq_false h, decide_eq_false e]
theorem key_lr (a : Int) (b : Str) : decide ((Sum.inl a : Key) = Sum.inr b) = false := decide_eq_false (fun q => nomatch q)
theorem key_rl (a : Str) (b : Int) : decide ((Sum.inr a : Key) = Sum.inl b) = false := decide_eq_false (fun q => nomatch q)

def mixKind (prog : Program) (w : World) : PySem.KeyKind prog w Key where
  is := keyIs
  hash := keyH w
  inj := fun v a b ha hb => by
    rcases keyIs_shape ha with ⟨i, t, rfl, rfl⟩ | ⟨x, t, rfl, rfl⟩
    · rcases keyIs_shape hb with ⟨j, u, rfl, e⟩ | ⟨y, u, rfl, e⟩
      · injection e with e1 _; rw [e1]
      · exact nomatch e
    · rcases keyIs_shape hb with ⟨j, u, rfl, e⟩ | ⟨y, u, rfl, e⟩
      · exact nomatch e
      · injection e with e1 _; rw [e1]
  byValue := fun k v h => by
    rcases keyIs_shape h with ⟨i, t, rfl, rfl⟩ | ⟨x, t, rfl, rfl⟩ <;> rfl
  pyHash := fun hv h => by
    rcases keyIs_shape hv with ⟨i, t, rfl, rfl⟩ | ⟨x, t, rfl, rfl⟩
    · exact wpAny_pyHash_int h
    · exact wpAny_pyHash_str h
  eqBool := fun hu hv h => by
    rcases keyIs_shape hu with ⟨i, t, rfl, rfl⟩ | ⟨x, t, rfl, rfl⟩
    · rcases keyIs_shape hv with ⟨j, u, rfl, rfl⟩ | ⟨y, u, rfl, rfl⟩
      · rw [key_ll] at h; exact wpAny_eqBool_int h
      · rw [key_lr] at h; exact SeqAt.EqAt.int_str i t y u _ _ _ _ h
    · rcases keyIs_shape hv with ⟨j, u, rfl, rfl⟩ | ⟨y, u, rfl, rfl⟩
      · rw [key_rl] at h; exact SeqAt.EqAt.str_int x t j u _ _ _ _ h
      · rw [key_rr] at h; exact wpAny_eqBool_str h
  «strs» := fun k x t v h => by
    rcases keyIs_shape h with ⟨i, u, rfl, e⟩ | ⟨y, u, rfl, e⟩
    · exact nomatch e
    · injection e with e1 _
      subst e1
      cases v <;> rfl

end L2

namespace L2
open PySem PySem.Spec PyProof.Rows

/-- a value, without the heap -/
inductive V where
  | non | bl (b : Bool) | int (i : Int) | str (x : Str) | byt (b : Array UInt8) | flt (b : UInt64) | ref (a : Addr) | ty (n : String)
  deriving DecidableEq

def RelV : V → Value → Prop
  | .non, u => u = Value.none
  | .bl b, u => u = Value.bool b
  | .int i, u => ∃ t, u = Value.int i t
  | .str x, u => ∃ t, u = Value.str x t
  | .byt b, u => ∃ t, u = Value.bytes b t
  | .flt b, u => ∃ t, u = Value.float b t
  | .ref a, u => u = Value.ref a
  | .ty n, u => u = Value.type n

abbrev Vals : List V → List Value → Prop := Paired RelV
theorem Vals.length {xs : List V} {us : List Value} (r : Vals xs us) : xs.length = us.length := Paired.length r
theorem Vals.get : ∀ {xs : List V} {us : List Value} {i : Nat} {x : V}, Vals xs us → xs[i]? = some x → ∃ u, us[i]? = some u ∧ RelV x u
  | _, _, _, _, .nil, e => by simp at e
  | _, _, 0, _, .cons r _, e => by simp at e; subst e; exact ⟨_, rfl, r⟩
  | _, _, i + 1, x, .cons _ t, e => by
    obtain ⟨u, h1, h2⟩ := Vals.get (i := i) (x := x) t (by simpa using e)
    exact ⟨u, by simpa using h1, h2⟩
theorem Vals.set {x : V} {u : Value} (r : RelV x u) : ∀ {xs : List V} {us : List Value} (i : Nat), Vals xs us → Vals (xs.set i x) (us.set i u)
  | _, _, _, .nil => .nil
  | _, _, 0, .cons _ t => .cons r t
  | _, _, i + 1, .cons q t => .cons q (Vals.set r i t)
theorem Vals.append : ∀ {xs ys : List V} {us ws : List Value}, Vals xs us → Vals ys ws → Vals (xs ++ ys) (us ++ ws)
  | _, _, _, _, .nil, s => s
  | _, _, _, _, .cons r t, s => .cons r (Vals.append t s)
theorem Vals.take : ∀ {xs : List V} {us : List Value} (n : Nat), Vals xs us → Vals (xs.take n) (us.take n)
  | _, _, 0, _ => .nil
  | _, _, _ + 1, .nil => .nil
  | _, _, n + 1, .cons r t => .cons r (Vals.take n t)
theorem Vals.drop : ∀ {xs : List V} {us : List Value} (n : Nat), Vals xs us → Vals (xs.drop n) (us.drop n)
  | _, _, 0, r => r
  | _, _, _ + 1, .nil => .nil
  | _, _, n + 1, .cons _ t => Vals.drop n t
def RelO : Option V → Option Value → Prop
  | some v, some u => RelV v u
  | none, none => True
  | _, _ => False
def KV {κ : Type} : List (κ × V) → List (κ × Value) → Prop := Paired fun (p : κ × V) (q : κ × Value) => p.1 = q.1 ∧ RelV p.2 q.2

/-- a key of a dict (00_mix): an int or a text -/
def kV : Key → V
  | .inl i => .int i
  | .inr x => .str x

/-- what stands at a tracked address -/
inductive HO where
  /-- a list -/
  | lst (xs : List V)
  /-- a tuple (never changes) -/
  | tup (xs : List V)
  /-- a dict whose keys are ints and texts; one whose keys are tuples of ints and texts (the empty one is both) -/
  | dK (kvs : List (Key × V)) | dT (kvs : List (List Key × V))
  /-- a set of ints: its members, its size -/
  | set (S : Int → Bool) (n : Nat)
  /-- an instance of the class at C, its dict at dx, its attributes -/
  | ins (C dx : Addr) (fs : List (Str × V))
  /-- the dict of the instance at x -/
  | own (x : Addr)
  /-- the dict of an exception -/
  | xd (fs : List (Str × V))
  /-- a bound method, f of x -/
  | met (f x : Addr)
  /-- a range object lo, lo + 1, .. below hi -/
  | rng (lo hi : Int)
  /-- a thing that is known to the object (the script; a dict while a loop walks it): read, never written while it is so -/
  | frz (o : Obj) (u : HO)
  /-- a code object's table -/
  | tbl (ps : Array Value)
  /-- any other thing, by what is true of its one object (a def of one's own: SetO a S n := HO.ext fun h => ..) -/
  | ext (φ : Heap → Prop)

abbrev Hp := Addr → Option HO
def upd (H : Hp) (a : Addr) (o : HO) : Hp := fun b => if b = a then some o else H b
theorem upd_same {H : Hp} {a : Addr} {o : HO} : upd H a o a = some o := by unfold upd; rw [if_pos rfl]
theorem upd_ne {H : Hp} {a b : Addr} {o : HO} (h : b ≠ a) : upd H a o b = H b := by unfold upd; rw [if_neg h]
theorem upd_upd {H : Hp} {a : Addr} {o u : HO} : upd (upd H a o) a u = upd H a u := by
  funext b; unfold upd; split <;> rfl
theorem ne_of_none {H : Hp} {a b : Addr} {o : HO} (h : H a = some o) (h' : H b = none) : a ≠ b := by
  intro e; subst e; rw [h] at h'; cases h'

section
variable (P : Program) (w : World)
def ObjOk (H : Hp) (h : Heap) (a : Addr) : HO → Prop
  | .lst xs => xs.length ≤ sizeLine ∧ ∃ (its : List Value) (n : Nat), Vals xs its ∧ h.get? a = some { cls := .type "list", data := .seq its.toArray n }
  | .tup xs => xs.length ≤ sizeLine ∧ ∃ its : List Value, Vals xs its ∧ IsTup h a its.toArray
  | .dK kvs => kvs.length ≤ sizeLine ∧ (a == sysModules) = false ∧ ∃ vs, KV kvs vs ∧ h.DictOf (mixKind P w) a vs
  | .dT kvs => kvs.length ≤ sizeLine ∧ (a == sysModules) = false ∧ ∃ xs : List (List Key × Addr × Value),
      Paired (fun (p : List Key × V) (q : List Key × Addr × Value) => p.1 = q.1 ∧ H q.2.1 = some (.tup (p.1.map kV)) ∧ RelV p.2 q.2.2) kvs xs ∧
      ∃ o es ep, h.get? a = some o ∧ o.ExactDict ∧ o.data = .dict es ep ∧ es.toList = xs.map (entryOfKey (tupleKind (mixKind P w))) ∧ (xs.map (·.1)).Nodup
  | .set S n => h.SetOf (intKind P w) a S n
  | .ins C dx fs => H dx = some (.own a) ∧ fs.length ≤ 1000 ∧ dx ≠ a ∧ h.get? a = some (PySem.W.instObj C dx) ∧
      ∃ mA, h.Ns1 dx mA ∧ (∀ f, RelO (fs.lookup f) (mA f)) ∧ PySem.Within mA (fs.map (·.1))
  | .own _ => ∃ o, h.get? a = some o
  | .xd fs => ∃ mA, h.Ns1 a mA ∧ ∀ f, RelO (fs.lookup f) (mA f)
  | .rng lo hi => ∃ t u v, h.get? a = some { cls := .type "range", data := .fields #[.int lo t, .int hi u, .int 1 v] }
  | .frz o u => h.get? a = some o ∧ ObjOk H h a u
  | .tbl ps => h.get? a = some { cls := .none, data := .fields ps }
  | .met f x => h.get? a = some (PySem.W.methodObj (.ref f) (.ref x))
  | .ext φ => φ h ∧ (∃ o, h.get? a = some o) ∧ ∀ h1 h2 : Heap, φ h1 → (∀ o, h1.get? a = some o → h2.get? a = some o) → φ h2
/-- the abstract heap is held -/
def HOk (H : Hp) (h : Heap) : Prop := ∀ a o, H a = some o → ObjOk P w H h a o
end

section
variable {P : Program} {w : World} {H H' : Hp} {h h' : Heap} {a : Addr} {o : HO}
theorem ObjOk.lt (x : ObjOk P w H h a o) : a < h.objs.size := by
  cases o with
  | lst xs => obtain ⟨_, _, _, _, e⟩ := x; exact Heap.lt_size e
  | tup xs => obtain ⟨_, _, _, p⟩ := x; exact p.lt
  | dK kvs => obtain ⟨_, _, _, _, o, _, _, e, _⟩ := x; exact Heap.lt_size e
  | dT kvs => obtain ⟨_, _, _, _, o, _, _, e, _⟩ := x; exact Heap.lt_size e
  | set S n => obtain ⟨o, _, _, _, e, _⟩ := x; exact Heap.lt_size e
  | ins C dx fs => obtain ⟨_, _, _, e, _⟩ := x; exact Heap.lt_size e
  | own y => obtain ⟨_, e⟩ := x; exact Heap.lt_size e
  | xd fs => obtain ⟨_, ⟨_, _, _, e, _⟩, _⟩ := x; exact Heap.lt_size e
  | rng lo hi => obtain ⟨_, _, _, e⟩ := x; exact Heap.lt_size e
  | frz ob u => obtain ⟨e, _⟩ := x; exact Heap.lt_size e
  | tbl ps => exact Heap.lt_size (show h.get? a = some _ from x)
  | met f y => exact Heap.lt_size (show h.get? a = some _ from x)
  | ext φ => obtain ⟨_, ⟨_, e⟩, _⟩ := x; exact Heap.lt_size e
theorem Paired.mapP {α β : Type} {F G : α → β → Prop} : ∀ {l₁ : List α} {l₂ : List β}, Paired F l₁ l₂ → (∀ a b, F a b → G a b) → Paired G l₁ l₂
  | _, _, .nil, _ => .nil
  | _, _, .cons r t, f => .cons (f _ _ r) (Paired.mapP t f)
/-- what an object's description leans on: its own object, its own dict, the tuples -/
theorem ObjOk.stay (x : ObjOk P w H h a o) (k : ∀ b u, (b = a ∨ H b = some (.own a)) → h.get? b = some u → h'.get? b = some u)
    (ho : ∀ b, H b = some (.own a) → H' b = some (.own a)) (ht : ∀ b xs, H b = some (.tup xs) → H' b = some (.tup xs)) : ObjOk P w H' h' a o := by
  induction o with
  | lst xs => obtain ⟨z, its, n, r, e⟩ := x; exact ⟨z, its, n, r, k _ _ (.inl rfl) e⟩
  | tup xs => obtain ⟨z, its, r, ob, e, c⟩ := x; exact ⟨z, its, r, ob, k _ _ (.inl rfl) e, c⟩
  | dK kvs => obtain ⟨z, y, vs, r, ob, es, ep, e, c⟩ := x; exact ⟨z, y, vs, r, ob, es, ep, k _ _ (.inl rfl) e, c⟩
  | dT kvs =>
    obtain ⟨z, y, xs, r, ob, es, ep, e, c⟩ := x
    exact ⟨z, y, xs, Paired.mapP r fun p q z => ⟨z.1, ht _ _ z.2.1, z.2.2⟩, ob, es, ep, k _ _ (.inl rfl) e, c⟩
  | set S n => obtain ⟨ob, es, ep, t, e, c⟩ := x; exact ⟨ob, es, ep, t, k _ _ (.inl rfl) e, c⟩
  | ins C dx fs =>
    obtain ⟨d, z, ne, e, mA, ⟨od, es, ep, e2, c⟩, r⟩ := x
    exact ⟨ho _ d, z, ne, k _ _ (.inl rfl) e, mA, ⟨od, es, ep, k _ _ (.inr d) e2, c⟩, r⟩
  | own y => obtain ⟨ob, e⟩ := x; exact ⟨ob, k _ _ (.inl rfl) e⟩
  | xd fs => obtain ⟨mA, ⟨od, es, ep, e, c⟩, r⟩ := x; exact ⟨mA, ⟨od, es, ep, k _ _ (.inl rfl) e, c⟩, r⟩
  | rng lo hi => obtain ⟨t, u, v, e⟩ := x; exact ⟨t, u, v, k _ _ (.inl rfl) e⟩
  | frz ob u ih => obtain ⟨e, q⟩ := x; exact ⟨k _ _ (.inl rfl) e, ih q⟩
  | tbl ps =>
    have e : h.get? a = some { cls := .none, data := .fields ps } := x
    show h'.get? a = some { cls := .none, data := .fields ps }
    exact k a _ (.inl rfl) e
  | met f y =>
    have e : h.get? a = some (PySem.W.methodObj (.ref f) (.ref y)) := x
    show h'.get? a = some (PySem.W.methodObj (.ref f) (.ref y))
    exact k a _ (.inl rfl) e
  | ext φ => obtain ⟨p, ⟨o, e⟩, st⟩ := x; exact ⟨st _ _ p fun o q => k _ _ (.inl rfl) q, ⟨o, k _ _ (.inl rfl) e⟩, st⟩
theorem HOk.lt (x : HOk P w H h) (e : H a = some o) : a < h.objs.size := (x a o e).lt
theorem HOk.fresh (x : HOk P w H h) (e : h.objs.size ≤ a) : H a = none := by
  cases q : H a with
  | none => rfl
  | some u => exact absurd (Nat.lt_of_lt_of_le (x.lt q) e) (Nat.lt_irrefl _)
/-- every object of the heap is kept -/
theorem HOk.kept (x : HOk P w H h) (k : ∀ b u, h.get? b = some u → h'.get? b = some u) : HOk P w H h' := fun a o e =>
  (x a o e).stay (fun b u _ q => k b u q) (fun _ q => q) fun _ _ q => q
/-- a new object is laid and tracked -/
theorem HOk.laid (x : HOk P w H h) (k : ∀ b u, h.get? b = some u → h'.get? b = some u) (hp : h.objs.size ≤ a) (new : ObjOk P w (upd H a o) h' a o) : HOk P w (upd H a o) h' := fun b u e => by
  have hn := x.fresh hp
  by_cases hb : b = a
  · subst hb; rw [upd_same] at e; cases e; exact new
  · rw [upd_ne hb] at e
    exact (x b u e).stay (fun c v _ q => k c v q) (fun c q => by rw [upd_ne (ne_of_none q hn)]; exact q) fun c xs q => by rw [upd_ne (ne_of_none q hn)]; exact q
end

/-- what may be read as u: it is u, or a known u -/
def Rd (H : Hp) (a : Addr) (u : HO) : Prop := H a = some u ∨ ∃ o, H a = some (.frz o u)
theorem Rd.ok {P : Program} {w : World} {H : Hp} {h : Heap} {a : Addr} {u : HO} (r : Rd H a u) (x : HOk P w H h) : ObjOk P w H h a u := by
  rcases r with r | ⟨o, r⟩
  · exact x a u r
  · obtain ⟨_, q⟩ := x a _ r
    exact q
/-- what may be written -/
def Mut : Option HO → Prop
  | some (.lst _) => True
  | some (.dK _) => True
  | some (.dT _) => True
  | some (.set _ _) => True
  | some (.ins _ _ _) => True
  | some (.ext _) => True
  | _ => False
section
variable {P : Program} {w : World} {H : Hp} {h h' : Heap} {x e : Addr} {o' : HO}
/-- the object at e is changed: x itself, or the dict of the instance x -/
theorem HOk.write (ok : HOk P w H h) (mu : Mut (H x)) (he : e = x ∨ H e = some (.own x)) (k : ∀ b u, b ≠ e → h.get? b = some u → h'.get? b = some u) (heo : ∃ u, h'.get? e = some u)
    (new : ObjOk P w (upd H x o') h' x o') : HOk P w (upd H x o') h' := fun b u q => by
  have nown : ∀ c y, H c = some (.own y) → c ≠ x := fun c y r z => by subst z; rw [r] at mu; exact mu
  have ntup : ∀ c xs, H c = some (.tup xs) → c ≠ x := fun c xs r z => by subst z; rw [r] at mu; exact mu
  by_cases hb : b = x
  · subst hb; rw [upd_same] at q; cases q; exact new
  · rw [upd_ne hb] at q
    by_cases hbe : b = e
    · have q' : H b = some (.own x) := by
        rcases he with z | z
        · exact absurd (hbe.trans z) hb
        · rw [hbe]; exact z
      rw [q] at q'; cases q'
      obtain ⟨v, hv⟩ := heo
      exact ⟨v, by rw [hbe]; exact hv⟩
    · refine (ok b u q).stay (fun c v hc r => k c v ?_ r) (fun c r => by rw [upd_ne (nown c b r)]; exact r) fun c xs r => by rw [upd_ne (ntup c xs r)]; exact r
      rcases hc with rfl | hc
      · exact hbe
      · rintro rfl
        rcases he with z | z
        · exact nown c b hc z
        · rw [hc] at z; cases z; exact hb rfl
end

/-! ### kept unless tracked; of the frames at fs (the callers') the slots may change (an exception that passes writes there); of the records at ex (iterators) nothing is said -/
structure Un (fs ex : List Addr) (H H' : Hp) (h h' : Heap) : Prop where
  keep : ∀ b o, h.get? b = some o → H b = none → b ∉ fs → b ∉ ex → h'.get? b = some o
  slot : ∀ b o, h.get? b = some o → H b = none → b ∈ fs → b ∉ ex → ∃ sl, h'.get? b = some { o with slots := sl }
  free : ∀ b o, h.get? b = some o → H b = none → b ∉ ex → H' b = none
  there : ∀ b o, h.get? b = some o → b ∉ ex → ∃ o', h'.get? b = some o'
  tups : ∀ b xs, H b = some (.tup xs) → H' b = some (.tup xs)
  frzs : ∀ b o u, H b = some (.frz o u) → H' b = some (.frz o u)
  tbls : ∀ b ps, H b = some (.tbl ps) → ∃ more, H' b = some (.tbl (ps ++ more))
section
variable {fs fs' ex ex' : List Addr} {H H1 H2 : Hp} {h h1 h2 h' : Heap} {a x e : Addr} {o : HO}
theorem Un.any (u : Un fs ex H H1 h h1) {b : Addr} {ob : Obj} (q : h.get? b = some ob) (n : H b = none) (hx : b ∉ ex) : ∃ sl, h1.get? b = some { ob with slots := sl } := by
  by_cases hb : b ∈ fs
  · exact u.slot b ob q n hb hx
  · exact ⟨ob.slots, u.keep b ob q n hb hx⟩
theorem Un.kept (k : ∀ b u, h.get? b = some u → h'.get? b = some u) : Un fs ex H H h h' :=
  ⟨fun b ob q _ _ _ => k b ob q, fun b ob q _ _ _ => ⟨ob.slots, k b ob q⟩, fun _ _ _ n _ => n, fun b ob q _ => ⟨ob, k b ob q⟩, fun _ _ q => q, fun _ _ _ q => q, fun _ ps q => ⟨#[], by rw [q]; simp⟩⟩
theorem Un.refl : Un fs ex H H h h := Un.kept fun _ _ q => q
theorem Un.laid (k : ∀ b u, h.get? b = some u → h'.get? b = some u) (hp : h.objs.size ≤ a) (hn : H a = none) : Un fs ex H (upd H a o) h h' where
  keep := fun b u q _ _ _ => k b u q
  slot := fun b u q _ _ _ => ⟨u.slots, k b u q⟩
  free := fun b u q n _ => by rw [upd_ne (Nat.ne_of_lt (Nat.lt_of_lt_of_le (Heap.lt_size q) hp))]; exact n
  there := fun b u q _ => ⟨u, k b u q⟩
  tups := fun b xs q => by rw [upd_ne (ne_of_none q hn)]; exact q
  frzs := fun b u xs q => by rw [upd_ne (ne_of_none q hn)]; exact q
  tbls := fun b ps q => ⟨#[], by rw [upd_ne (ne_of_none q hn), q]; simp⟩
theorem Un.write (mu : Mut (H x)) (he : e = x ∨ H e = some (.own x)) (k : ∀ b u, b ≠ e → h.get? b = some u → h'.get? b = some u) (heo : ∃ u, h'.get? e = some u) : Un fs ex H (upd H x o) h h' := by
  have hx : ∀ b, H b = none → b ≠ x := fun b n z => by subst z; rw [n] at mu; exact mu
  have hb : ∀ b, H b = none → b ≠ e := fun b n z => by
    subst z
    rcases he with r | r
    · exact hx b n r
    · rw [n] at r; cases r
  have hm : ∀ b u, H b = some u → ¬ Mut (some u) → b ≠ x := fun b u q nm z => by subst z; rw [q] at mu; exact nm mu
  refine ⟨fun b u q n _ _ => k b u (hb b n) q, fun b u q n _ _ => ⟨u.slots, k b u (hb b n) q⟩, fun b u q n _ => by rw [upd_ne (hx b n)]; exact n, fun b u q _ => ?_,
    fun b xs q => by rw [upd_ne (hm b _ q fun z => z)]; exact q, fun b u xs q => by rw [upd_ne (hm b _ q fun z => z)]; exact q, fun b ps q => ⟨#[], by rw [upd_ne (hm b _ q fun z => z), q]; simp⟩⟩
  by_cases hbe : b = e
  · subst hbe; exact heo
  · exact ⟨u, k b u hbe q⟩
end

/-! ### the heap without what is tracked -/
def trk (h : Heap) (H : Hp) : List Addr := (List.range h.objs.size).filter fun a => (H a).isSome
def hidT (h : Heap) (H : Hp) : Heap := PySem.W.hideAll h (trk h H)
theorem hidT_size (h : Heap) (H : Hp) : (hidT h H).objs.size = h.objs.size := PySem.W.hideAll_size _ _
theorem hidT_get {h : Heap} {H : Hp} {b : Addr} {o : Obj} (e : h.get? b = some o) (n : H b = none) : (hidT h H).get? b = some o :=
  PySem.W.hideAll_get _ e fun hm => by
    have q : (H b).isSome = true := (List.mem_filter.mp hm).2
    rw [n] at q; simp at q
theorem of_hidT {h : Heap} {H : Hp} {b : Addr} {o : Obj} (e : (hidT h H).get? b = some o) : h.get? b = some o ∧ H b = none := by
  have e' : h.get? b = some o := PySem.W.of_hideAll (trk h H) e
  refine ⟨e', ?_⟩
  cases q : H b with
  | none => rfl
  | some x =>
    have hm : b ∈ trk h H := List.mem_filter.mpr ⟨List.mem_range.mpr (Heap.lt_size e'), by simp [q]⟩
    have z : (hidT h H).get? b = none := PySem.W.hideAll_none (trk h H) hm
    rw [z] at e; cases e

/-! ### OpenK's ledger, filled with every new object but one -/
def allNews (g h : Heap) (L : Addr) : List (Addr × Obj) := (List.range h.objs.size).filterMap fun a => if a = L ∨ (g.get? a).isSome = true then none else (h.get? a).map fun o => (a, o)
def rest (g h : Heap) (L d : Addr) : List (Addr × Obj) := (allNews g h L).filter fun p => decide (p.1 ≠ d)
end L2

namespace L2
open PySem PySem.Spec PyProof.Rows

/-- the module's facts, over the base: the heap at the law's entry without what is tracked there -/
structure Mod (K : PySem.W.Frag) (mg : Str → Option Value) (base : Heap) : Prop where
  kin : K.In base
  glob : base.Ns mainGlobals mg
  blt : ∃ mb, base.Ns builtinsNs mb ∧ ∀ x : Str, x ≠ "__name__" → mb x = bootBuiltins x
  nolimit : base.NoLimit

/-- the context: a def's body (or a comprehension's block) running. base: fixed through the whole law; s₀, H₀: the entry; outer: the frames whose slots others may change (a def's callers); stack: all frames that run;
   ex: iterators that were made ahead of the entry and are walked here (a comprehension's); fn: the names whose cells were made at the entry (a def: all; a comprehension's block: its own); calm: not within an except suite; pn: pins that every state bears; xe: what is wanted of an exception that leaves the code -/
structure Cx where
  prog : Program
  w : World
  K : PySem.W.Frag
  mg : Str → Option Value
  base : Heap
  A : Around
  N : List Str
  s₀ : Shared
  H₀ : Hp
  env : Env
  outer : List Env
  stack : List Env
  ex : List Addr
  fn : Str → Bool
  calm : Bool
  pn : List (Addr × Obj)
  xe : Value → Shared → Prop
/-- the callers' frames -/
def frs (l : List Env) : List Addr := l.filterMap (·.frame)
abbrev Cx.fs (X : Cx) : List Addr := frs X.outer

def Vis (sc : Scope) (x : Str) : Prop := sc.names.lookup x = some .local ∨ sc.names.lookup x = some .cell ∨ sc.names.lookup x = some .free
def Loc (sc : Scope) (x : Str) : Prop := sc.names.lookup x = some .local ∨ sc.names.lookup x = some .cell
def Look (env : Env) (h : Heap) (m : Str → Option Value) (x : Str) (u : Value) : Prop :=
  (env.kindOf x = some .local ∧ m x = some u) ∨ ((env.kindOf x = some .cell ∨ env.kindOf x = some .free) ∧ ∃ c, env.cells.lookup x = some c ∧ h.IsCell c (some u))

structure Cx.Ok (X : Cx) : Prop where
  mod : Mod X.K X.mg X.base
  kind : X.env.scope.kind = .function
  glob : X.env.globals = mainGlobals
  blt : X.env.builtins = builtinsNs
  above : X.s₀.heap.objs.size ≤ X.env.locals
  inj : ∀ x y c, X.env.cells.lookup x = some c → X.env.cells.lookup y = some c → x = y
  has : ∀ x, (X.env.kindOf x = some .cell ∨ X.env.kindOf x = some .free) → ∃ c, X.env.cells.lookup x = some c
  cab : ∀ x c, X.fn x = true → X.env.cells.lookup x = some c → X.s₀.heap.objs.size ≤ c
  hd : X.calm = true → X.A.handled = none
  frames : X.A.frames = some X.stack
  stk : X.stack = X.outer ∨ (X.stack = X.env :: X.outer ∧ X.env.frame = some X.env.locals)
  exf : ∀ b ∈ X.ex, b ≠ X.env.locals ∧ ∀ x c, X.env.cells.lookup x = some c → c ≠ b
  bs : ∀ b o, X.base.get? b = some o → X.s₀.heap.get? b = some o ∧ X.H₀ b = none
  bsz : X.base.objs.size ≤ X.s₀.heap.objs.size
  noex : ∀ b o, X.base.get? b = some o → b ∉ X.ex
  exfs : ∀ b ∈ X.ex, b ∉ X.fs
  funs : X.s₀.heap.FunFrames X.base X.outer
  frf : ∀ b ∈ X.fs, X.H₀ b = none

structure Inv (X : Cx) (pins : List (Addr × Obj)) (σ : List (Option V)) (H : Hp) (s : Shared) : Prop where
  ok : X.Ok
  os : s.os = X.s₀.os
  bare : AllBare s.gens
  base : Un X.fs X.ex X.H₀ H X.s₀.heap s.heap
  loc : ∃ m, s.heap.Ns X.env.locals m ∧ ∀ (i : Nat) (x : Str) (v : V), X.N[i]? = some x → σ[i]? = some (some v) → Vis X.env.scope x → ∃ u, RelV v u ∧ Look X.env s.heap m x u
  cell : ∀ x c, X.env.cells.lookup x = some c → ∃ v, s.heap.IsCell c v
  free : H X.env.locals = none
  freeC : ∀ x c, X.env.cells.lookup x = some c → H c = none
  pin : ∀ p ∈ X.pn ++ pins, s.heap.get? p.1 = some p.2 ∧ H p.1 = none ∧ p.1 ≠ X.env.locals ∧ p.1 ∉ X.fs ∧ ∀ v, p.2.data ≠ .cell v
  hok : HOk X.prog X.w H s.heap
  len : σ.length = X.N.length

section
variable {X : Cx} {pins : List (Addr × Obj)} {σ : List (Option V)} {H H' : Hp} {s : Shared} {h' : Heap}

theorem Cx.Ok.nofr (ok : X.Ok) {b : Addr} {o : Obj} (e : X.base.get? b = some o) : b ∉ X.fs := fun hb => by
  have := (ok.funs.mem hb).1
  rw [e] at this; cases this
theorem Inv.bs (I : Inv X pins σ H s) : ∀ b o, X.base.get? b = some o → s.heap.get? b = some o ∧ H b = none := fun b o e =>
  ⟨I.base.keep b o (I.ok.bs b o e).1 (I.ok.bs b o e).2 (I.ok.nofr e) (I.ok.noex b o e), I.base.free b o (I.ok.bs b o e).1 (I.ok.bs b o e).2 (I.ok.noex b o e)⟩
theorem Inv.bk (I : Inv X pins σ H s) : ∀ b o, X.base.get? b = some o → s.heap.get? b = some o := fun b o e => (I.bs b o e).1
theorem Inv.mod (I : Inv X pins σ H s) : Mod X.K X.mg X.base := I.ok.mod
theorem Inv.kIn (I : Inv X pins σ H s) : X.K.In s.heap := I.ok.mod.kin.keeps I.bk
theorem Inv.lt (I : Inv X pins σ H s) : X.env.locals < s.heap.objs.size := let ⟨_, hn, _⟩ := I.loc; hn.lt
theorem Inv.sz (I : Inv X pins σ H s) : X.s₀.heap.objs.size ≤ s.heap.objs.size := Nat.le_trans I.ok.above (Nat.le_of_lt I.lt)
theorem Inv.nofs (I : Inv X pins σ H s) {a : Addr} (h : s.heap.objs.size ≤ a) : a ∉ X.fs := fun hb => by
  obtain ⟨_, o, ho, _⟩ := I.ok.funs.mem hb
  exact absurd (Nat.lt_of_lt_of_le (Heap.lt_size ho) (Nat.le_trans I.sz h)) (Nat.lt_irrefl _)
theorem Inv.cne (I : Inv X pins σ H s) : ∀ x c, X.env.cells.lookup x = some c → c ≠ X.env.locals := fun x c e z => by
  obtain ⟨v, o, ho, hd⟩ := I.cell x c e
  obtain ⟨m, ⟨o', es, ep, ho', hd', _⟩, _⟩ := I.loc
  rw [z, ho'] at ho; cases ho; rw [hd'] at hd; cases hd
theorem Inv.funs (I : Inv X pins σ H s) : s.heap.FunFrames X.base X.outer := by
  have all : ∀ (l : List Env), (∀ b ∈ frs l, b ∈ X.fs) → X.s₀.heap.FunFrames X.base l → s.heap.FunFrames X.base l := by
    intro l
    induction l with
    | nil => intro _ _; trivial
    | cons env r ih =>
      intro hs hl
      obtain ⟨hk, ⟨L, o, hf, hn, ho, hd⟩, hr⟩ := hl
      have hL : L ∈ X.fs := hs L (by unfold frs; rw [List.filterMap_cons, hf]; exact List.mem_cons_self)
      obtain ⟨sl, e⟩ := I.base.slot L o ho (I.ok.frf L hL) hL fun z => I.ok.exfs L z hL
      exact ⟨hk, ⟨L, _, hf, hn, e, hd⟩, ih (fun b hb => hs b (by unfold frs; rw [List.filterMap_cons, hf]; exact List.mem_cons_of_mem _ hb)) hr⟩
  exact all X.outer (fun _ hb => hb) I.ok.funs

/-- the frames that run, for a call -/
theorem Inv.stack (I : Inv X pins σ H s) : s.heap.FunFrames X.base X.stack := by
  rcases I.ok.stk with e | ⟨e, hf⟩
  · rw [e]; exact I.funs
  · rw [e]
    obtain ⟨m, hn, _⟩ := I.loc
    refine .cons (by rw [I.ok.kind]; decide) hf hn ?_ I.funs
    exact Heap.get?_none_of_le (Nat.le_trans I.ok.bsz I.ok.above)
theorem Inv.stkSub (I : Inv X pins σ H s) : ∀ b ∈ frs X.stack, b ∈ X.env.locals :: X.fs := fun b hb => by
  rcases I.ok.stk with e | ⟨e, hf⟩
  · rw [e] at hb; exact List.mem_cons_of_mem _ hb
  · rw [e] at hb
    unfold frs at hb
    rw [List.filterMap_cons, hf] at hb
    exact hb
theorem Inv.stkFree (I : Inv X pins σ H s) : ∀ b ∈ frs X.stack, H b = none := fun b hb => by
  rcases List.mem_cons.mp (I.stkSub b hb) with e | hb
  · rw [e]; exact I.free
  · obtain ⟨_, o, ho, _⟩ := I.ok.funs.mem hb
    exact I.base.free b o ho (I.ok.frf b hb) fun z => I.ok.exfs b z hb

/-- THE STEP: the untracked objects but the frame and the records at ch are kept (the callers' frames up to slots), the frame's map is kept, the new abstract heap is held -/
theorem Inv.step {g' : Array GenState} {t' : Nat} {d' : Drawn} {ch : List Addr} (I : Inv X pins σ H s)
    (hch : ∀ b ∈ ch, (b ∈ X.ex ∨ X.s₀.heap.objs.size ≤ b) ∧ b ≠ X.env.locals ∧ (∀ x c, X.env.cells.lookup x = some c → c ≠ b) ∧ ∀ p ∈ X.pn ++ pins, p.1 ≠ b)
    (keep : ∀ b o, b ≠ X.env.locals → b ∉ X.fs → b ∉ ch → s.heap.get? b = some o → H b = none → h'.get? b = some o)
    (slot : ∀ b o, b ≠ X.env.locals → b ∈ X.fs → b ∉ ch → s.heap.get? b = some o → H b = none → ∃ sl, h'.get? b = some { o with slots := sl }) (free : ∀ b o, b ∉ ch → s.heap.get? b = some o → H b = none → H' b = none)
    (there : ∀ b o, b ∉ ch → s.heap.get? b = some o → ∃ o', h'.get? b = some o')
    (tups : ∀ b xs, H b = some (.tup xs) → H' b = some (.tup xs)) (frzs : ∀ b o u, H b = some (.frz o u) → H' b = some (.frz o u)) (tbls : ∀ b ps, H b = some (.tbl ps) → ∃ more, H' b = some (.tbl (ps ++ more)))
    (ns : ∀ m, s.heap.Ns X.env.locals m → h'.Ns X.env.locals m) (hok : HOk X.prog X.w H' h') (hg : AllBare g') :
    Inv X pins σ H' { s with heap := h', gens := g', drawn := d', toks := t' } := by
  have neL : ∀ b o, X.s₀.heap.get? b = some o → b ≠ X.env.locals := fun b o e => Nat.ne_of_lt (Nat.lt_of_lt_of_le (Heap.lt_size e) I.ok.above)
  have neC : ∀ b o, X.s₀.heap.get? b = some o → b ∉ X.ex → b ∉ ch := fun b o e hx hb => by
    rcases (hch b hb).1 with z | z
    · exact hx z
    · exact absurd (Nat.lt_of_lt_of_le (Heap.lt_size e) z) (Nat.lt_irrefl _)
  have cellK : ∀ x c, X.env.cells.lookup x = some c → ∀ v, s.heap.IsCell c v → h'.IsCell c v := fun x c e v ⟨o, ho, hd⟩ => by
    have nch : c ∉ ch := fun z => (hch c z).2.2.1 x c e rfl
    by_cases hc : c ∈ X.fs
    · obtain ⟨sl, q⟩ := slot c o (I.cne x c e) hc nch ho (I.freeC x c e)
      exact ⟨_, q, hd⟩
    · exact ⟨o, keep c o (I.cne x c e) hc nch ho (I.freeC x c e), hd⟩
  refine ⟨I.ok, I.os, hg, ⟨fun b o e n hb hx => ?_, fun b o e n hb hx => ?_, fun b o e n hx => ?_, fun b o e hx => ?_, fun b xs e => tups b xs (I.base.tups b xs e), fun b o xs e => frzs b o xs (I.base.frzs b o xs e), fun b ps e => ?_⟩, ?_, fun x c e => ?_, ?_, fun x c e => ?_, fun p hp => ?_, hok, I.len⟩
  · exact keep b o (neL b o e) hb (neC b o e hx) (I.base.keep b o e n hb hx) (I.base.free b o e n hx)
  · obtain ⟨sl, e1⟩ := I.base.slot b o e n hb hx
    obtain ⟨sl', e2⟩ := slot b _ (neL b o e) hb (neC b o e hx) e1 (I.base.free b o e n hx)
    exact ⟨sl', e2⟩
  · obtain ⟨o', e1⟩ := I.base.there b o e hx
    exact free b o' (neC b o e hx) e1 (I.base.free b o e n hx)
  · obtain ⟨o', e1⟩ := I.base.there b o e hx
    exact there b o' (neC b o e hx) e1
  · obtain ⟨m1, e1⟩ := I.base.tbls b ps e
    obtain ⟨m2, e2⟩ := tbls b _ e1
    exact ⟨m1 ++ m2, by rw [e2, Array.append_assoc]⟩
  · obtain ⟨m, hn, hl⟩ := I.loc
    refine ⟨m, ns m hn, fun i x v e1 e2 e3 => ?_⟩
    obtain ⟨u, r, l⟩ := hl i x v e1 e2 e3
    refine ⟨u, r, ?_⟩
    rcases l with l | ⟨k, c, e, z⟩
    · exact .inl l
    · exact .inr ⟨k, c, e, cellK x c e _ z⟩
  · obtain ⟨v, z⟩ := I.cell x c e
    exact ⟨v, cellK x c e v z⟩
  · obtain ⟨m, ⟨o, _, _, ho, _⟩, _⟩ := I.loc
    exact free _ o (fun z => (hch _ z).2.1 rfl) ho I.free
  · obtain ⟨v, o, ho, hd⟩ := I.cell x c e
    exact free c o (fun z => (hch c z).2.2.1 x c e rfl) ho (I.freeC x c e)
  · obtain ⟨e, n, ne, nf, d⟩ := I.pin p hp
    have nch : p.1 ∉ ch := fun z => (hch p.1 z).2.2.2 p hp rfl
    exact ⟨keep p.1 p.2 ne nf nch e n, free p.1 p.2 nch e n, ne, nf, d⟩
/-- .. where the frame's own object is kept too -/
theorem Inv.un {t' : Nat} (I : Inv X pins σ H s) (u : Un X.fs [] H H' s.heap h') (hok : HOk X.prog X.w H' h') : Inv X pins σ H' { s with heap := h', toks := t' } := by
  obtain ⟨m, ⟨o, es, ep, ho, r⟩, _⟩ := id I.loc
  obtain ⟨sl, hL⟩ := u.any ho I.free (by simp)
  exact I.step (g' := s.gens) (d' := s.drawn) (ch := []) (fun _ z => nomatch z) (fun b o _ hb _ e n => u.keep b o e n hb (by simp)) (fun b o _ hb _ e n => u.slot b o e n hb (by simp)) (fun b o _ e n => u.free b o e n (by simp)) (fun b o _ e => u.there b o e (by simp)) u.tups u.frzs u.tbls (fun m' hm => by
    obtain ⟨o', es', ep', ho', r'⟩ := hm
    rw [ho] at ho'; cases ho'
    exact ⟨_, es', ep', hL, r'⟩) hok I.bare
/-- behind a call (or a comprehension's block): the slots of this frame may have changed too, the records at ch may have turned -/
theorem Inv.call {g' : Array GenState} {t' : Nat} {d' : Drawn} {ch : List Addr} (I : Inv X pins σ H s) (u : Un (frs X.stack) ch H H' s.heap h') (hok : HOk X.prog X.w H' h') (hg : AllBare g')
    (hch : ∀ b ∈ ch, (b ∈ X.ex ∨ X.s₀.heap.objs.size ≤ b) ∧ b ≠ X.env.locals ∧ (∀ x c, X.env.cells.lookup x = some c → c ≠ b) ∧ ∀ p ∈ X.pn ++ pins, p.1 ≠ b) :
    Inv X pins σ H' { s with heap := h', gens := g', drawn := d', toks := t' } := by
  obtain ⟨m, ⟨o, es, ep, ho, r⟩, _⟩ := id I.loc
  obtain ⟨sl, hL⟩ := u.any ho I.free fun z => (hch _ z).2.1 rfl
  exact I.step (ch := ch) hch (fun b o hL hb hc e n => u.keep b o e n (fun z => (List.mem_cons.mp (I.stkSub b z)).elim hL hb) hc) (fun b o _ _ hc e n => u.any e n hc) (fun b o hc e n => u.free b o e n hc) (fun b o hc e => u.there b o e hc) u.tups u.frzs u.tbls (fun m' hm => by
    obtain ⟨o', es', ep', ho', r'⟩ := hm
    rw [ho] at ho'; cases ho'
    exact ⟨_, es', ep', hL, r'⟩) hok hg
/-- an untracked record of ours (an iterator) has turned -/
theorem Inv.turned {t' : Nat} {it : Addr} (I : Inv X pins σ H s) (k : ∀ b o, b ≠ it → s.heap.get? b = some o → h'.get? b = some o) (hn : H it = none) (hL : it ≠ X.env.locals)
    (h1 : it ∈ X.ex ∨ X.s₀.heap.objs.size ≤ it) (h2 : ∀ x c, X.env.cells.lookup x = some c → c ≠ it) (h3 : ∀ p ∈ X.pn ++ pins, p.1 ≠ it) : Inv X pins σ H { s with heap := h', toks := t' } := by
  have nit : ∀ b u, H b = some u → b ≠ it := fun b u e z => by rw [z, hn] at e; cases e
  refine I.step (g' := s.gens) (d' := s.drawn) (ch := [it]) (fun b hb => ?_) (fun b o _ _ hc e _ => k b o (fun z => hc (by simp [z])) e) (fun b o _ _ hc e _ => ⟨o.slots, k b o (fun z => hc (by simp [z])) e⟩) (fun _ _ _ _ n => n)
    (fun b o hc e => ⟨o, k b o (fun z => hc (by simp [z])) e⟩) (fun _ _ e => e) (fun _ _ _ e => e) (fun b ps e => ⟨#[], by rw [e]; simp⟩) (fun m hm => ?_) (fun b u e => ?_) I.bare
  · have e : b = it := by simpa using hb
    subst e
    exact ⟨h1, hL, h2, h3⟩
  · obtain ⟨o, es, ep, ho, r⟩ := hm
    exact ⟨o, es, ep, k _ o (Ne.symm hL) ho, r⟩
  · refine (I.hok b u e).stay (fun c v hc q => k c v ?_ q) (fun _ q => q) fun _ _ q => q
    rcases hc with z | z
    · rw [z]; exact nit b u e
    · exact nit c _ z
theorem Inv.tok (I : Inv X pins σ H s) (t : Nat) : Inv X pins σ H { s with toks := t } := I.un (h' := s.heap) (t' := t) Un.refl I.hok
/-- all objects kept -/
theorem Inv.kept {t' : Nat} (I : Inv X pins σ H s) (k : ∀ b u, s.heap.get? b = some u → h'.get? b = some u) : Inv X pins σ H { s with heap := h', toks := t' } := I.un (Un.kept k) (I.hok.kept k)
/-- a new object laid and tracked -/
theorem Inv.laid {a : Addr} {o : HO} {t' : Nat} (I : Inv X pins σ H s) (k : ∀ b u, s.heap.get? b = some u → h'.get? b = some u) (hp : s.heap.objs.size ≤ a) (new : ObjOk X.prog X.w (upd H a o) h' a o) :
    Inv X pins σ (upd H a o) { s with heap := h', toks := t' } := I.un (Un.laid k hp (I.hok.fresh hp)) (I.hok.laid k hp new)
/-- an object written -/
theorem Inv.write {x e : Addr} {o : HO} {t' : Nat} (I : Inv X pins σ H s) (mu : Mut (H x)) (he : e = x ∨ H e = some (.own x)) (k : ∀ b u, b ≠ e → s.heap.get? b = some u → h'.get? b = some u) (heo : ∃ u, h'.get? e = some u)
    (new : ObjOk X.prog X.w (upd H x o) h' x o) : Inv X pins σ (upd H x o) { s with heap := h', toks := t' } := I.un (Un.write mu he k heo) (I.hok.write mu he k heo new)
theorem Inv.pins_of {pins' : List (Addr × Obj)} (I : Inv X pins σ H s) (h : ∀ p ∈ pins', s.heap.get? p.1 = some p.2 ∧ H p.1 = none ∧ p.1 ≠ X.env.locals ∧ p.1 ∉ X.fs ∧ ∀ v, p.2.data ≠ .cell v) : Inv X pins' σ H s :=
  ⟨I.ok, I.os, I.bare, I.base, I.loc, I.cell, I.free, I.freeC, fun p hp => (List.mem_append.mp hp).elim (fun z => I.pin p (List.mem_append_left _ z)) (h p), I.hok, I.len⟩

theorem nodup_ix {N : List Str} (hN : N.Nodup) {i j : Nat} {x : Str} (a : N[i]? = some x) (b : N[j]? = some x) : i = j := by
  obtain ⟨h1, e1⟩ := List.getElem?_eq_some_iff.mp a
  obtain ⟨h2, e2⟩ := List.getElem?_eq_some_iff.mp b
  exact (List.getElem_inj hN).mp (e1.trans e2.symm)

/-- a name is stored; what changed -/
theorem store_ok2 {M : Model} {A : Around} {E : Value → Shared → Prop} {i : Nat} {x : Str} {v : V} {u : Value} {Q : Unit → Shared → Prop} (I : Inv X pins σ H s) (hN : X.N.Nodup) (hi : X.N[i]? = some x) (hx : Loc X.env.scope x) (r : RelV v u)
    (h : ∀ s', Inv X pins (σ.set i (some v)) H s' → (∃ a, Heap.SameBut a s.heap s'.heap ∧ (a = X.env.locals ∨ X.env.cells.lookup x = some a)) → Q () s') (hf : X.fn x = true ∨ X.env.scope.names.lookup x = some .local := by first | exact .inl rfl | exact .inr rfl | assumption) : wpAny M A (storeName X.env x u) Q E s := by
  obtain ⟨m, hn, hl⟩ := id I.loc
  have hcls : (X.env.scope.kind == .class || (X.env.scope.kind == .module && X.env.locals != X.env.globals)) = false := by rw [I.ok.kind]; rfl
  have hiσ : i < σ.length := by rw [I.len]; exact (List.getElem?_eq_some_iff.mp hi).1
  have cne := I.cne
  have tracked : ∀ {a : Addr} {h' : Heap}, (∃ o, s.heap.get? a = some o ∧ H a = none) → Heap.SameBut a s.heap h' → HOk X.prog X.w H h' := fun {a h'} ha hs b ob e => by
    obtain ⟨_, _, hfree⟩ := ha
    refine (I.hok b ob e).stay (fun c w' hc q => (hs.2 c ?_).trans q) (fun _ q => q) fun _ _ q => q
    rintro rfl
    rcases hc with rfl | hc
    · rw [hfree] at e; cases e
    · rw [hfree] at hc; cases hc
  rcases hx with hk | hk
  · refine wpAny_storeName_local hk hn (fun h' hn' hs => ?_) hcls
    obtain ⟨oL, _, _, hoL, _⟩ := id hn
    refine h _ ⟨I.ok, I.os, I.bare, ⟨fun b o e n hb hx => ?_, fun b o e n hb hx => ?_, I.base.free, fun b o e hx => ?_, I.base.tups, I.base.frzs, I.base.tbls⟩, ⟨_, hn', fun j y v' e1 e2 e3 => ?_⟩, fun y c e => ?_, I.free, I.freeC, fun p hp => ?_, tracked ⟨oL, hoL, I.free⟩ hs, by simpa using I.len⟩ ⟨_, hs, .inl rfl⟩
    · exact (hs.2 b (Nat.ne_of_lt (Nat.lt_of_lt_of_le (Heap.lt_size e) I.ok.above))).trans (I.base.keep b o e n hb hx)
    · obtain ⟨sl, e1⟩ := I.base.slot b o e n hb hx
      exact ⟨sl, (hs.2 b (Nat.ne_of_lt (Nat.lt_of_lt_of_le (Heap.lt_size e) I.ok.above))).trans e1⟩
    · obtain ⟨o', e1⟩ := I.base.there b o e hx
      exact ⟨o', (hs.2 b (Nat.ne_of_lt (Nat.lt_of_lt_of_le (Heap.lt_size e) I.ok.above))).trans e1⟩
    · by_cases hj : j = i
      · subst hj
        rw [hi] at e1; cases e1
        rw [List.getElem?_set_self hiσ] at e2
        cases e2
        exact ⟨u, r, .inl ⟨hk, by simp⟩⟩
      · rw [List.getElem?_set_ne (Ne.symm hj)] at e2
        obtain ⟨u', r', q⟩ := hl j y v' e1 e2 e3
        refine ⟨u', r', ?_⟩
        rcases q with ⟨k, e⟩ | ⟨k, c, e, z⟩
        · refine .inl ⟨k, ?_⟩
          have : y ≠ x := fun e => hj (nodup_ix hN e1 (e ▸ hi))
          simp [this, e]
        · exact .inr ⟨k, c, e, z.sameBut hs (cne y c e)⟩
    · obtain ⟨w', z⟩ := I.cell y c e
      exact ⟨w', z.sameBut hs (cne y c e)⟩
    · obtain ⟨e, n, ne, nf, d⟩ := I.pin p hp
      exact ⟨(hs.2 p.1 ne).trans e, n, ne, nf, d⟩
  · have hfn : X.fn x = true := by
      rcases hf with z | z
      · exact z
      · rw [z] at hk; cases hk
    obtain ⟨c, hc⟩ := I.ok.has x (.inl hk)
    obtain ⟨w', z⟩ := I.cell x c hc
    refine wpAny_storeName_cell I.ok.kind hk hc z (fun h' hc' hs => ?_)
    obtain ⟨oc, hoc, hocd⟩ := id z
    refine h { s with heap := h' } ⟨I.ok, I.os, I.bare, ⟨fun b o e n hb hx => ?_, fun b o e n hb hx => ?_, I.base.free, fun b o e hx => ?_, I.base.tups, I.base.frzs, I.base.tbls⟩, ⟨m, hn.sameBut hs (Ne.symm (cne x c hc)), fun j y v' e1 e2 e3 => ?_⟩, fun y c' e => ?_, I.free, I.freeC, fun p hp => ?_, tracked ⟨oc, hoc, I.freeC x c hc⟩ hs, by simpa using I.len⟩ ⟨c, hs, .inr hc⟩
    · exact (hs.2 b (Nat.ne_of_lt (Nat.lt_of_lt_of_le (Heap.lt_size e) (I.ok.cab x c hfn hc)))).trans (I.base.keep b o e n hb hx)
    · obtain ⟨sl, e1⟩ := I.base.slot b o e n hb hx
      exact ⟨sl, (hs.2 b (Nat.ne_of_lt (Nat.lt_of_lt_of_le (Heap.lt_size e) (I.ok.cab x c hfn hc)))).trans e1⟩
    · obtain ⟨o', e1⟩ := I.base.there b o e hx
      exact ⟨o', (hs.2 b (Nat.ne_of_lt (Nat.lt_of_lt_of_le (Heap.lt_size e) (I.ok.cab x c hfn hc)))).trans e1⟩
    · by_cases hj : j = i
      · subst hj
        rw [hi] at e1; cases e1
        rw [List.getElem?_set_self hiσ] at e2
        cases e2
        exact ⟨u, r, .inr ⟨.inl hk, c, hc, hc'⟩⟩
      · rw [List.getElem?_set_ne (Ne.symm hj)] at e2
        obtain ⟨u', r', q⟩ := hl j y v' e1 e2 e3
        refine ⟨u', r', ?_⟩
        rcases q with q | ⟨k, c', e, z'⟩
        · exact .inl q
        · refine .inr ⟨k, c', e, z'.sameBut hs ?_⟩
          rintro rfl
          exact hj (nodup_ix hN e1 (I.ok.inj _ _ _ e hc ▸ hi))
    · by_cases hcc : c' = c
      · subst hcc; exact ⟨_, hc'⟩
      · obtain ⟨w2, z2⟩ := I.cell y c' e
        exact ⟨w2, z2.sameBut hs hcc⟩
    · obtain ⟨e, n, ne, nf, d⟩ := I.pin p hp
      refine ⟨(hs.2 p.1 ?_).trans e, n, ne, nf, d⟩
      intro q
      rw [q, hoc] at e
      have q' : oc = p.2 := Option.some.inj e
      exact d w' (by rw [← q']; exact hocd)
theorem store_ok {M : Model} {A : Around} {E : Value → Shared → Prop} {i : Nat} {x : Str} {v : V} {u : Value} {Q : Unit → Shared → Prop} (I : Inv X pins σ H s) (hN : X.N.Nodup) (hi : X.N[i]? = some x) (hx : Loc X.env.scope x) (r : RelV v u)
    (h : ∀ s', Inv X pins (σ.set i (some v)) H s' → Q () s') (hf : X.fn x = true ∨ X.env.scope.names.lookup x = some .local := by first | exact .inl rfl | exact .inr rfl | assumption) : wpAny M A (storeName X.env x u) Q E s :=
  store_ok2 I hN hi hx r (fun s' I' _ => h s' I') hf
end

/-! ### the judgements -/
/-- an exception: its class, its own dict's address (where it has one), the abstract heap behind it -/
abbrev XK := Value → Option Addr → Hp → Prop
abbrev St := List (Option V)
abbrev VK := V → Hp → Prop
/-- an expression's reading; a test's; an argument list's -/
abbrev TE := St → Hp → VK → Prop
abbrev TT := St → Hp → (Bool → Hp → Prop) → Prop
abbrev TA := St → Hp → (List V → Hp → Prop) → Prop
/-- what is wanted behind a statement -/
structure Ends where
  nx : St → Hp → Prop
  rt : VK
  bk : St → Hp → Prop := fun _ _ => False
  ct : St → Hp → Prop := fun _ _ => False
abbrev TS := Ends → St → Hp → Prop

def EP (X : Cx) (pins : List (Addr × Obj)) (σ : St) (Q : VK) (u : Value) (s' : Shared) : Prop := ∃ v H', Inv X pins σ H' s' ∧ RelV v u ∧ Q v H'
def TP (X : Cx) (pins : List (Addr × Obj)) (σ : St) (Q : Bool → Hp → Prop) (b : Bool) (s' : Shared) : Prop := ∃ H', Inv X pins σ H' s' ∧ Q b H'
def AP (X : Cx) (pins : List (Addr × Obj)) (σ : St) (Q : List V → Hp → Prop) (us : List Value) (s' : Shared) : Prop := ∃ vs H', Inv X pins σ H' s' ∧ Vals vs us ∧ Q vs H'
def SP (X : Cx) (pins : List (Addr × Obj)) (D : Ends) (f : Flow) (s' : Shared) : Prop :=
  match f with
  | .next => ∃ σ' H', Inv X pins σ' H' s' ∧ D.nx σ' H'
  | .brk => ∃ σ' H', Inv X pins σ' H' s' ∧ D.bk σ' H'
  | .cont => ∃ σ' H', Inv X pins σ' H' s' ∧ D.ct σ' H'
  | .ret u => ∃ v σ' H', Inv X pins σ' H' s' ∧ RelV v u ∧ D.rt v H'

def PE (X : Cx) (e : Expr) (t : TE) : Prop :=
  ∀ (pins : List (Addr × Obj)) (s : Shared) (σ : St) (H : Hp) (Q : VK), Inv X pins σ H s → t σ H Q → wpAny (model X.prog X.w) X.A (eval e X.env) (EP X pins σ Q) X.xe s
def PT (X : Cx) (e : Expr) (t : TT) : Prop :=
  ∀ (pins : List (Addr × Obj)) (s : Shared) (σ : St) (H : Hp) (Q : Bool → Hp → Prop), Inv X pins σ H s → t σ H Q → wpAny (model X.prog X.w) X.A (isTrue e X.env (eval e X.env)) (TP X pins σ Q) X.xe s
/-- a test whatever its 'whole' is (and, or) -/
def PW (X : Cx) (e : Expr) (t : TT) : Prop :=
  ∀ (whole : Sem Value) (pins : List (Addr × Obj)) (s : Shared) (σ : St) (H : Hp) (Q : Bool → Hp → Prop), Inv X pins σ H s → t σ H Q → wpAny (model X.prog X.w) X.A (isTrue e X.env whole) (TP X pins σ Q) X.xe s
theorem PW.pt {X : Cx} {e : Expr} {t : TT} (h : PW X e t) : PT X e t := h _
/-- an argument list (no star), from the left -/
def PA (X : Cx) (es : List Expr) (t : TA) : Prop :=
  ∀ (pos : Pos) (pins : List (Addr × Obj)) (s : Shared) (σ : St) (H : Hp) (Q : List V → Hp → Prop), Inv X pins σ H s → t σ H Q → wpAny (model X.prog X.w) X.A (spliced (backTo pos (starEach es X.env))) (AP X pins σ Q) X.xe s
def PS (X : Cx) (st : Stmt) (t : TS) : Prop :=
  ∀ (pins : List (Addr × Obj)) (s : Shared) (σ : St) (H : Hp) (D : Ends), Inv X pins σ H s → t D σ H → wpAny (model X.prog X.w) X.A (exec st X.env) (SP X pins D) X.xe s
def PSs (X : Cx) (st : List Stmt) (t : TS) : Prop :=
  ∀ (pins : List (Addr × Obj)) (s : Shared) (σ : St) (H : Hp) (D : Ends), Inv X pins σ H s → t D σ H → wpAny (model X.prog X.w) X.A (execs st X.env) (SP X pins D) X.xe s
/-- weaken the end -/
theorem thn {α : Type} {t : Sem α} {Q Q' : α → Shared → Prop} {M : Model} {A : Around} {E : Value → Shared → Prop} {s : Shared} (h : wpAny M A t Q E s) (hQ : ∀ a s, Q a s → Q' a s) : wpAny M A t Q' E s := wpAny_mono h hQ fun _ _ x => x
end L2

namespace L2
open PySem PySem.Spec PyProof.Rows
section
variable {X : Cx}

/-! ### names and constants -/
def tVar (i : Nat) : TE := fun σ H Q => ∃ v, σ[i]? = some (some v) ∧ Q v H
def tC (v : V) : TE := fun _ H Q => Q v H
theorem pe_var {i : Nat} {x : Str} {pos : Pos} (hN : X.N[i]? = some x) (hv : Vis X.env.scope x) (hd : (x == ("__debug__" : Str)) = false := by decide) (hcd : (x == ("__classdict__" : Str)) = false := by decide) : PE X (.Name x pos) (tVar i) := by
  intro pins s σ H Q I h
  obtain ⟨v, e, h⟩ := h
  obtain ⟨m, hn, hl⟩ := I.loc
  obtain ⟨u, r, l⟩ := hl i x v hN e hv
  have fin : EP X pins σ Q u s := ⟨v, H, I, r, h⟩
  rcases l with ⟨hk, hm⟩ | ⟨hk, c, hc, hcell⟩
  · exact wpAny_Name (wpAny_loadName_local I.ok.kind hk hn hm fin) hd
  · rcases hk with hk | hk
    · exact wpAny_Name (wpAny_loadName_cell I.ok.kind hk hc hcell fin) hd
    · exact wpAny_Name (wpAny_loadName_free I.ok.kind hk hc hcell fin hcd) hd
theorem pe_int {i j pos} : PE X (.Constant (.int i) j pos) (tC (.int i)) := fun _ _ _ H _ I h => wpAny_Constant_int ⟨.int i, H, I.tok _, ⟨_, rfl⟩, h⟩
theorem pe_bl {b j pos} : PE X (.Constant (.bool b) j pos) (tC (.bl b)) := fun _ _ _ H _ I h => Constant_bool ⟨.bl b, H, I, rfl, h⟩
theorem pe_non {j pos} : PE X (.Constant .none j pos) (tC .non) := fun _ _ _ H _ I h => Constant_none ⟨.non, H, I, rfl, h⟩
theorem pe_str {x j pos} : PE X (.Constant (.str x) j pos) (tC (.str x)) := fun _ _ _ H _ I h => Calls.Constant_str ⟨.str x, H, I.tok _, ⟨_, rfl⟩, h⟩

/-- a global name of the def -/
def Gl (X : Cx) (x : Str) : Prop := X.env.kindOf x = some .globalImplicit
theorem ld_glob {E : Value → Shared → Prop} {pins : List (Addr × Obj)} {s : Shared} {σ : St} {H : Hp} {x : Str} {u : Value} {pos : Pos} {Q : Value → Shared → Prop} (I : Inv X pins σ H s) (hg : Gl X x) (hm : X.mg x = some u) (h : Q u s)
    (hd : (x == ("__debug__" : Str)) = false := by decide) : wpAny (model X.prog X.w) X.A (eval (.Name x pos) X.env) Q E s :=
  Calls.Name_function_global I.ok.kind hg (Calls.loadGlobal_global (by rw [I.ok.glob]; exact I.mod.glob.keeps I.bk) hm h) hd
theorem ld_blt {E : Value → Shared → Prop} {pins : List (Addr × Obj)} {s : Shared} {σ : St} {H : Hp} {x : Str} {u : Value} {pos : Pos} {Q : Value → Shared → Prop} (I : Inv X pins σ H s) (hg : Gl X x) (hm : X.mg x = none) (hv : bootBuiltins x = some u) (h : Q u s)
    (hn : x ≠ "__name__" := by decide) (hd : (x == ("__debug__" : Str)) = false := by decide) : wpAny (model X.prog X.w) X.A (eval (.Name x pos) X.env) Q E s := by
  obtain ⟨mb, h1, h2⟩ := I.mod.blt
  exact Calls.Name_function_global I.ok.kind hg (Calls.loadGlobal_builtin (by rw [I.ok.glob]; exact I.mod.glob.keeps I.bk) hm (by rw [I.ok.blt]; exact h1.keeps I.bk) ((h2 x hn).trans hv) h) hd
/-- a module's constant, a class, a function, as a value -/
theorem pe_glob {x : Str} {v : V} {u : Value} {pos : Pos} (hg : Gl X x) (hm : X.mg x = some u) (r : RelV v u) (hd : (x == ("__debug__" : Str)) = false := by decide) : PE X (.Name x pos) (tC v) :=
  fun _ _ _ H _ I h => ld_glob I hg hm ⟨v, H, I, r, h⟩ hd
theorem pe_bltn {x : Str} {v : V} {u : Value} {pos : Pos} (hg : Gl X x) (hm : X.mg x = none) (hv : bootBuiltins x = some u) (r : RelV v u) (hn : x ≠ "__name__" := by decide) (hd : (x == ("__debug__" : Str)) = false := by decide) : PE X (.Name x pos) (tC v) :=
  fun _ _ _ H _ I h => ld_blt I hg hm hv ⟨v, H, I, r, h⟩ hn hd

/-! ### arithmetic -/
/-- two ints -/
def t2I (ta tb : TE) (k : Int → Int → Hp → Prop) : St → Hp → Prop := fun σ H => ta σ H fun x H1 => tb σ H1 fun y H2 => ∃ i j, x = .int i ∧ y = .int j ∧ k i j H2
def tAdd (ta tb : TE) : TE := fun σ H Q => t2I ta tb (fun i j H2 => Q (.int (i + j)) H2) σ H
def tSub (ta tb : TE) : TE := fun σ H Q => t2I ta tb (fun i j H2 => Q (.int (i - j)) H2) σ H
/-- the left factor below 2^64 -/
def tMul (ta tb : TE) : TE := fun σ H Q => t2I ta tb (fun i j H2 => (-(2 ^ 64) < i ∧ i < 2 ^ 64) ∧ Q (.int (i * j)) H2) σ H
variable {a b : Expr} {ta tb : TE} {pos : Pos}
/-! ### comparisons -/
def PC (X : Cx) (op : CmpOp) (a b : Expr) (t : TE) : Prop :=
  ∀ (pins : List (Addr × Obj)) (s : Shared) (σ : St) (H : Hp) (Q : VK), Inv X pins σ H s → t σ H Q →
    wpAny (model X.prog X.w) X.A (eval a X.env) (fun v s₁ => wpAny (model X.prog X.w) X.A (eval b X.env) (fun u s₂ => wpAny (model X.prog X.w) X.A (compareOp op v u) (EP X pins σ Q) X.xe s₂) X.xe s₁) X.xe s
def tCmp (p : Int → Int → Bool) (ta tb : TE) : TE := fun σ H Q => t2I ta tb (fun i j H2 => Q (.bl (p i j)) H2) σ H
abbrev tLt : TE → TE → TE := tCmp fun i j => decide (i < j)
abbrev tLe : TE → TE → TE := tCmp fun i j => decide (i ≤ j)
abbrev tGt : TE → TE → TE := tCmp fun i j => decide (j < i)
abbrev tGe : TE → TE → TE := tCmp fun i j => decide (j ≤ i)
abbrev tEqI : TE → TE → TE := tCmp fun i j => decide (i = j)
abbrev tNeI : TE → TE → TE := tCmp fun i j => !decide (i = j)
/-- is None -/
def tIsN (ta : TE) : TE := fun σ H Q => ta σ H fun x H1 => Q (.bl (decide (x = .non))) H1
def tNotN (ta : TE) : TE := fun σ H Q => ta σ H fun x H1 => Q (.bl (!decide (x = .non))) H1
/-- a comparison as a value, as a test -/
def tB (t : TE) : TT := fun σ H Q => t σ H fun x H1 => ∃ c, x = .bl c ∧ Q c H1
/-- an expression whose value is a bool, as a test -/
theorem pt_val {e : Expr} {t : TE} (h : PE X e t) (he : ∀ whole, isTrue e X.env whole = (do let v ← whole; standAt e.pos; holding [v] (truthy v)) := by intro _; rfl) : PT X e (tB t) := by
  intro pins s σ H Q I hw
  refine isTrue_plain (thn (h pins s σ H _ I hw) fun v s1 ⟨x, H1, I1, r1, q1⟩ => ?_) (he _)
  obtain ⟨d, rfl, q⟩ := q1
  cases r1
  exact wpAny_truthy_bool ⟨H1, I1, q⟩

/-! ### and, or, not -/
variable {tA tB' : TT} {rest : List Expr}
def tAnd (t u : TT) : TT := fun σ H Q => t σ H fun c H1 => if c = true then u σ H1 Q else Q false H1
def tOr (t u : TT) : TT := fun σ H Q => t σ H fun c H1 => if c = true then Q true H1 else u σ H1 Q
def tNot (t : TT) : TT := fun σ H Q => t σ H fun c H1 => Q (!c) H1
theorem pw_and1 (ha : PT X a tA) : PW X (.BoolOp .And [a] pos) tA := by
  intro wh pins s σ H Q I h
  refine isTrue_and (thn (ha pins s σ H Q I h) fun c s1 e => ?_)
  cases c with
  | true => exact isTrue_and_nil e
  | false => exact e
theorem pw_or1 (ha : PT X a tA) : PW X (.BoolOp .Or [a] pos) tA := by
  intro wh pins s σ H Q I h
  refine isTrue_or (thn (ha pins s σ H Q I h) fun c s1 e => ?_)
  cases c with
  | false => exact isTrue_or_nil e
  | true => exact e
theorem pw_and (ha : PT X a tA) (hb : PW X (.BoolOp .And (b :: rest) pos) tB') : PW X (.BoolOp .And (a :: b :: rest) pos) (tAnd tA tB') := by
  intro wh pins s σ H Q I h
  refine isTrue_and (thn (ha pins s σ H _ I h) fun c s1 ⟨H1, I1, q1⟩ => ?_)
  cases c with
  | true => exact hb wh pins s1 σ H1 Q I1 q1
  | false => exact ⟨H1, I1, q1⟩
theorem pw_or (ha : PT X a tA) (hb : PW X (.BoolOp .Or (b :: rest) pos) tB') : PW X (.BoolOp .Or (a :: b :: rest) pos) (tOr tA tB') := by
  intro wh pins s σ H Q I h
  refine isTrue_or (thn (ha pins s σ H _ I h) fun c s1 ⟨H1, I1, q1⟩ => ?_)
  cases c with
  | true => exact ⟨H1, I1, q1⟩
  | false => exact hb wh pins s1 σ H1 Q I1 q1
theorem pt_not (ha : PT X a tA) : PT X (.UnaryOp .Not a pos) (tNot tA) := by
  intro pins s σ H Q I h
  exact isTrue_not (ha pins s σ H (fun c H1 => Q (!c) H1) I h)
/-- .. as values (bools) -/
def tAndV (ta tb : TE) : TE := fun σ H Q => ta σ H fun x H1 => ∃ c, x = .bl c ∧ if c = true then tb σ H1 Q else Q (.bl false) H1
def tOrV (ta tb : TE) : TE := fun σ H Q => ta σ H fun x H1 => ∃ c, x = .bl c ∧ if c = true then Q (.bl true) H1 else tb σ H1 Q
def tNotV (ta : TE) : TE := fun σ H Q => ta σ H fun x H1 => ∃ c, x = .bl c ∧ Q (.bl (!c)) H1
theorem pe_one {op} {t : TE} (h : PE X a t) : PE X (.BoolOp op [a] pos) t := fun pins s σ H Q I hw => BoolOp_one (h pins s σ H Q I hw)
theorem pe_and (ha : PE X a ta) (hb : PE X (.BoolOp .And (b :: rest) pos) tb) : PE X (.BoolOp .And (a :: b :: rest) pos) (tAndV ta tb) := by
  intro pins s σ H Q I h
  refine BoolOp_and (thn (ha pins s σ H _ I h) fun v s1 ⟨x, H1, I1, r1, q1⟩ => ?_)
  obtain ⟨c, rfl, q1⟩ := q1
  cases r1
  refine wpAny_truthy_bool ?_
  cases c with
  | true => exact hb pins s1 σ H1 Q I1 q1
  | false => exact ⟨.bl false, H1, I1, rfl, q1⟩
theorem pe_not (ha : PE X a ta) : PE X (.UnaryOp .Not a pos) (tNotV ta) := by
  intro pins s σ H Q I h
  refine UnaryOp_ (thn (ha pins s σ H _ I h) fun v s1 ⟨x, H1, I1, r1, q1⟩ => ?_)
  obtain ⟨c, rfl, q1⟩ := q1
  cases r1
  exact not_of (wpAny_truthy_bool ⟨.bl (!c), H1, I1, rfl, q1⟩)
/-- a if t else b -/
def tIf (t : TT) (ta tb : TE) : TE := fun σ H Q => t σ H fun c H1 => if c = true then ta σ H1 Q else tb σ H1 Q
end
end L2

namespace L2
open PySem PySem.Spec PyProof.Rows

/-! ### a list, a tuple that is read: tracked, frozen, or an object of the module -/
def SqL (K : PySem.W.Frag) (H : Hp) (a : Addr) (xs : List V) : Prop :=
  Rd H a (.lst xs) ∨
    ∃ (o : Obj) (its : Array Value) (n : Nat), K.lookup a = some o ∧ o.cls = .type "list" ∧ o.dict = none ∧ o.data = .seq its n ∧ its.size ≤ sizeLine ∧ Vals xs its.toList
def SqT (K : PySem.W.Frag) (H : Hp) (a : Addr) (xs : List V) : Prop :=
  Rd H a (.tup xs) ∨
    ∃ (o : Obj) (its : Array Value) (n : Nat), K.lookup a = some o ∧ o.cls = .type "tuple" ∧ o.data = .seq its n ∧ its.size ≤ sizeLine ∧ Vals xs its.toList
def absV : Value → Option V
  | .none => some .non
  | .bool b => some (.bl b)
  | .int i _ => some (.int i)
  | .str x _ => some (.str x)
  | .bytes b _ => some (.byt b)
  | .float b _ => some (.flt b)
  | .ref a => some (.ref a)
  | .type n => some (.ty n)
  | _ => none
theorem RelV.abs {x : V} {u : Value} (r : RelV x u) : absV u = some x := by
  cases x with
  | non => cases r; rfl
  | bl _ => cases r; rfl
  | int _ => obtain ⟨t, rfl⟩ := r; rfl
  | str _ => obtain ⟨t, rfl⟩ := r; rfl
  | byt _ => obtain ⟨t, rfl⟩ := r; rfl
  | flt _ => obtain ⟨t, rfl⟩ := r; rfl
  | ref _ => cases r; rfl
  | ty _ => cases r; rfl
theorem RelV.inj {x y : V} {u : Value} (r : RelV x u) (q : RelV y u) : x = y := Option.some.inj (r.abs.symm.trans q.abs)
theorem Vals.inj : ∀ {xs ys : List V} {us : List Value}, Vals xs us → Vals ys us → xs = ys
  | _, _, _, .nil, .nil => rfl
  | _, _, _, .cons r t, .cons r' t' => by rw [r.inj r', Vals.inj t t']
section
variable {X : Cx} {pins : List (Addr × Obj)} {σ : St} {H : Hp} {s : Shared} {a : Addr} {xs ys : List V}
theorem SqL.of {K : PySem.W.Frag} (h : H a = some (.lst xs)) : SqL K H a xs := .inl (.inl h)
theorem SqT.of {K : PySem.W.Frag} (h : H a = some (.tup xs)) : SqT K H a xs := .inl (.inl h)
theorem Inv.list (I : Inv X pins σ H s) (h : SqL X.K H a xs) : ∃ its : List Value, Vals xs its ∧ PlainL s.heap a its.toArray ∧ xs.length ≤ sizeLine := by
  rcases h with h | ⟨o, its, n, hk, hc, hd, hs, hz, r⟩
  · obtain ⟨z, its, n, r, e⟩ := h.ok I.hok
    exact ⟨its, r, ⟨_, n, e, rfl, rfl, rfl⟩, z⟩
  · refine ⟨its.toList, r, ⟨o, n, I.kIn a o hk, hc, hd, by simpa using hs⟩, ?_⟩
    have e := r.length
    simp only [Array.length_toList] at e
    omega
theorem Inv.tuple (I : Inv X pins σ H s) (h : SqT X.K H a xs) : ∃ its : List Value, Vals xs its ∧ IsTup s.heap a its.toArray ∧ xs.length ≤ sizeLine := by
  rcases h with h | ⟨o, its, n, hk, hc, hs, hz, r⟩
  · obtain ⟨z, its, r, p⟩ := h.ok I.hok
    exact ⟨its, r, p, z⟩
  · refine ⟨its.toList, r, ⟨o, I.kIn a o hk, hc, n, by simpa using hs⟩, ?_⟩
    have e := r.length
    simp only [Array.length_toList] at e
    omega
theorem Inv.list_inj (I : Inv X pins σ H s) (h : SqL X.K H a xs) (h' : SqL X.K H a ys) : xs = ys := by
  obtain ⟨its, r, ⟨o, n, e, _, _, d⟩, _⟩ := I.list h
  obtain ⟨its', r', ⟨o', n', e', _, _, d'⟩, _⟩ := I.list h'
  rw [e] at e'; cases e'
  rw [d] at d'
  injection d' with d1 _
  have : its = its' := by simpa using congrArg Array.toList d1
  subst this
  exact r.inj r'
theorem Inv.tuple_inj (I : Inv X pins σ H s) (h : SqT X.K H a xs) (h' : SqT X.K H a ys) : xs = ys := by
  obtain ⟨its, r, ⟨o, e, _, n, d⟩, _⟩ := I.tuple h
  obtain ⟨its', r', ⟨o', e', _, n', d'⟩, _⟩ := I.tuple h'
  rw [e] at e'; cases e'
  rw [d] at d'
  injection d' with d1 _
  have : its = its' := by simpa using congrArg Array.toList d1
  subst this
  exact r.inj r'
end

/-! ### another wish about exceptions -/
abbrev Cx.wish (X : Cx) (E : Value → Shared → Prop) : Cx := { X with xe := E }
/-- no exception leaves -/
abbrev Cx.nox (X : Cx) : Cx := X.wish fun _ _ => False
theorem Cx.Ok.wish {X : Cx} (ok : X.Ok) (E : Value → Shared → Prop) : (X.wish E).Ok :=
  ⟨ok.mod, ok.kind, ok.glob, ok.blt, ok.above, ok.inj, ok.has, ok.cab, ok.hd, ok.frames, ok.stk, ok.exf, ok.bs, ok.bsz, ok.noex, ok.exfs, ok.funs, ok.frf⟩
theorem Cx.Ok.unwish {X : Cx} {E : Value → Shared → Prop} (ok : (X.wish E).Ok) : X.Ok :=
  ⟨ok.mod, ok.kind, ok.glob, ok.blt, ok.above, ok.inj, ok.has, ok.cab, ok.hd, ok.frames, ok.stk, ok.exf, ok.bs, ok.bsz, ok.noex, ok.exfs, ok.funs, ok.frf⟩
section
variable {X : Cx} {pins : List (Addr × Obj)} {σ : St} {H : Hp} {s : Shared} {E : Value → Shared → Prop}
theorem Inv.wish (I : Inv X pins σ H s) (E : Value → Shared → Prop) : Inv (X.wish E) pins σ H s := ⟨I.ok.wish E, I.os, I.bare, I.base, I.loc, I.cell, I.free, I.freeC, I.pin, I.hok, I.len⟩
theorem Inv.unwish (I : Inv (X.wish E) pins σ H s) : Inv X pins σ H s := ⟨I.ok.unwish, I.os, I.bare, I.base, I.loc, I.cell, I.free, I.freeC, I.pin, I.hok, I.len⟩
theorem SP.unwish {D : Ends} {f : Flow} {s' : Shared} (h : SP (X.wish E) pins D f s') : SP X pins D f s' := by
  cases f with
  | next => obtain ⟨σ', H', I, q⟩ := h; exact ⟨σ', H', I.unwish, q⟩
  | brk => obtain ⟨σ', H', I, q⟩ := h; exact ⟨σ', H', I.unwish, q⟩
  | cont => obtain ⟨σ', H', I, q⟩ := h; exact ⟨σ', H', I.unwish, q⟩
  | ret u => obtain ⟨v, σ', H', I, r, q⟩ := h; exact ⟨v, σ', H', I.unwish, r, q⟩
theorem PSs.nox {st : List Stmt} {t : TS} (h : PSs X.nox st t) : PSs X st t := fun pins s σ H D I hw =>
  wpAny_mono (h pins s σ H D (I.wish _) hw) (fun _ _ q => q.unwish) fun _ _ z => False.elim z
end

/-! ### blocks and small statements -/
section
variable {X : Cx} {st : Stmt} {rest : List Stmt} {t u : TS} {e : Expr} {te : TE} {pos : Pos}
def tNext : TS := fun D σ H => D.nx σ H
def tSeq (t u : TS) : TS := fun D σ H => t { D with nx := u D } σ H
theorem pss_nil : PSs X [] tNext := fun _ _ σ H _ I h => wpAny_execs_nil ⟨σ, H, I, h⟩
theorem pss_cons (h1 : PS X st t) (h2 : PSs X rest u) : PSs X (st :: rest) (tSeq t u) := by
  intro pins s σ H D I h
  refine wpAny_execs_cons (thn (h1 pins s σ H { D with nx := u D } I h) fun f s1 q => ?_)
  cases f with
  | next =>
    obtain ⟨σ', H', I', q⟩ := q
    exact h2 pins s1 σ' H' D I' q
  | ret v => exact q
  | brk => exact q
  | cont => exact q
theorem pss_one (h1 : PS X st t) : PSs X [st] t := by
  intro pins s σ H D I h
  refine wpAny_execs_cons (thn (h1 pins s σ H D I h) fun f s1 q => ?_)
  cases f with
  | next => exact wpAny_execs_nil q
  | ret v => exact q
  | brk => exact q
  | cont => exact q
def tBreak : TS := fun D σ H => D.bk σ H
def tCont : TS := fun D σ H => D.ct σ H
/-- in a def's body nothing is shown -/
theorem Inv.quiet {pins : List (Addr × Obj)} {σ : St} {H : Hp} {s : Shared} (I : Inv X pins σ H s) : interactive X.env = false := by simp [interactive, I.ok.kind]
/-- an expression whose value is dropped -/
def tDrop (te : TE) : TS := fun D σ H => te σ H fun _ H1 => D.nx σ H1
theorem ps_expr (he : PE X e te) (hs : swapsWith e none pos.line X.env = pure false := by rfl) : PS X (.Expr e pos) (tDrop te) := by
  intro pins s σ H D I h
  exact wpAny_Expr_any (thn (he pins s σ H _ I h) fun v s1 ⟨x, H1, I1, r1, q1⟩ => ⟨σ, H1, I1, q1⟩) I.quiet hs
def tRet (te : TE) : TS := fun D σ H => te σ H D.rt
theorem ps_ret (he : PE X e te) : PS X (.Return (some e) pos) (tRet te) := by
  intro pins s σ H D I h
  exact wpAny_Return_some (thn (he pins s σ H _ I h) fun v s1 ⟨x, H1, I1, r1, q1⟩ => ⟨x, σ, H1, I1, r1, q1⟩)
def tRetN : TS := fun D _ H => D.rt .non H
def tIfS (c : TT) (t u : TS) : TS := fun D σ H => c σ H fun b H1 => if b = true then t D σ H1 else u D σ H1
theorem ps_if {c : Expr} {a b : List Stmt} {tc : TT} (hc : PT X c tc) (ha : PSs X a t) (hb : PSs X b u) : PS X (.If c a b pos) (tIfS tc t u) := by
  intro pins s σ H D I h
  refine wpAny_If (thn (hc pins s σ H _ I h) fun d s1 ⟨H1, I1, q1⟩ => ?_)
  cases d with
  | true => exact ha pins s1 σ H1 D I1 q1
  | false => exact hb pins s1 σ H1 D I1 q1
/-- code that the proof never comes to -/
def tNever : TS := fun _ _ _ => False
end

/-! ### targets -/
abbrev TG := V → St → Hp → (St → Hp → Prop) → Prop
abbrev TGs := List V → St → Hp → (St → Hp → Prop) → Prop
def PG (X : Cx) (target : Expr) (t : TG) : Prop :=
  ∀ (pins : List (Addr × Obj)) (s : Shared) (σ : St) (H : Hp) (v : V) (u : Value) (Q : St → Hp → Prop), Inv X pins σ H s → RelV v u → t v σ H Q →
    wpAny (model X.prog X.w) X.A (assign target X.env u) (fun _ s' => ∃ σ' H', Inv X pins σ' H' s' ∧ Q σ' H') X.xe s
/-- several targets, one after another -/
def PGs (X : Cx) (ts : List Expr) (t : TGs) : Prop :=
  ∀ (pins : List (Addr × Obj)) (s : Shared) (σ : St) (H : Hp) (vs : List V) (us : List Value) (Q : St → Hp → Prop), Inv X pins σ H s → Vals vs us → t vs σ H Q →
    wpAny (model X.prog X.w) X.A (assignInOrder ((assignEach ts X.env).map (·.2)) us) (fun _ s' => ∃ σ' H', Inv X pins σ' H' s' ∧ Q σ' H') X.xe s
/-- o[i] = v, by values -/
abbrev TSet := V → V → V → Hp → (Hp → Prop) → Prop
def PSet (X : Cx) (t : TSet) : Prop :=
  ∀ (pins : List (Addr × Obj)) (s : Shared) (σ : St) (H : Hp) (o i v : V) (ov iv u : Value) (Q : Hp → Prop), Inv X pins σ H s → RelV o ov → RelV i iv → RelV v u → t o i v H Q →
    wpAny (model X.prog X.w) X.A (setItem ov iv u) (fun _ s' => ∃ H', Inv X pins σ H' s' ∧ Q H') X.xe s
/-- a op= b, by values -/
abbrev TIp := V → V → Hp → VK → Prop
def PIp (X : Cx) (op : Operator) (t : TIp) : Prop :=
  ∀ (pins : List (Addr × Obj)) (s : Shared) (σ : St) (H : Hp) (x y : V) (v u : Value) (Q : VK), Inv X pins σ H s → RelV x v → RelV y u → t x y H Q →
    wpAny (model X.prog X.w) X.A (inplaceOp op v u) (EP X pins σ Q) X.xe s
section
variable {X : Cx} {pos : Pos}
def gName (i : Nat) : TG := fun v σ H Q => Q (σ.set i (some v)) H
theorem pg_name {i : Nat} {x : Str} (hN : X.N.Nodup) (hi : X.N[i]? = some x) (hx : Loc X.env.scope x) (hf : X.fn x = true ∨ X.env.scope.names.lookup x = some .local := by first | exact .inl rfl | exact .inr rfl | assumption) : PG X (.Name x pos) (gName i) := by
  intro pins s σ H v u Q I r h
  exact wpAny_assign_Name (store_ok I hN hi hx r (fun s' I' => ⟨_, H, I', h⟩) hf)
def gNil : TGs := fun vs σ H Q => vs = [] ∧ Q σ H
def gCons (t : TG) (u : TGs) : TGs := fun vs σ H Q => ∃ v r, vs = v :: r ∧ t v σ H fun σ' H' => u r σ' H' Q
theorem pgs_nil : PGs X [] gNil := by
  intro pins s σ H vs us Q I r h
  obtain ⟨e, h⟩ := h
  subst e
  cases r
  exact assignInOrder_nil ⟨σ, H, I, h⟩
theorem pgs_cons {e : Expr} {es : List Expr} {t : TG} {u : TGs} (h1 : PG X e t) (h2 : PGs X es u)
    (hs : (assignEach (e :: es) X.env).map (·.2) = assign e X.env :: (assignEach es X.env).map (·.2) := by rfl) : PGs X (e :: es) (gCons t u) := by
  intro pins s σ H vs us Q I r h
  obtain ⟨v, vr, e1, h⟩ := h
  subst e1
  cases r with
  | cons r rr =>
    rw [hs]
    refine assignInOrder_cons (thn (h1 pins s σ H _ _ _ I r h) fun _ s1 ⟨σ1, H1, I1, q1⟩ => ?_)
    exact h2 pins s1 σ1 H1 _ _ Q I1 rr q1
/-- (a, b, ..) = a tuple of that length -/
def gTup (K : PySem.W.Frag) (n : Nat) (t : TGs) : TG := fun v σ H Q => ∃ a xs, v = .ref a ∧ SqT K H a xs ∧ xs.length = n ∧ t xs σ H Q
theorem pg_tup {es : List Expr} {k : Nat} {t : TGs} {n : Nat} (hc : X.calm = true) (h : PGs X es t)
    (hn : (assignEach es X.env).length = n := by rfl) (hst : (assignEach es X.env).findIdx? (·.1) = none := by rfl) : PG X (.Tuple es k pos) (gTup X.K n t) := by
  intro pins s σ H v u Q I r hw
  obtain ⟨a, xs, e1, hq, hl, hw⟩ := hw
  subst e1
  cases r
  obtain ⟨its, rv, ht, hz⟩ := I.tuple hq
  refine assign_Tuple_tuple (I.ok.hd hc) ht (by simp [hn, ← hl, rv.length]) hst fun h' hx => ?_
  have I1 : Inv X pins σ H { s with heap := h' } := I.kept (t' := s.toks) fun b o e => hx b o (Nat.ne_of_lt (Heap.lt_size e)) e
  exact h pins _ σ H xs _ Q I1 (by simpa using rv) hw
/-- o[i] = .. -/
def gSub (to ti : TE) (t : TSet) : TG := fun v σ H Q => to σ H fun o H1 => ti σ H1 fun i H2 => t o i v H2 fun H3 => Q σ H3
theorem pg_sub {o i : Expr} {to ti : TE} {t : TSet} (ho : PE X o to) (hi : PE X i ti) (hs : PSet X t)
    (ha : ∀ v, assign (.Subscript o i pos) X.env v = (do
      let ov ← holding [v] (eval o X.env)
      let iv ← holding [v, ov] (eval i X.env)
      standAt pos
      holding [v, ov, iv] (setItem ov iv v)
      release [v, ov, iv] []) := by intro _; rfl) : PG X (.Subscript o i pos) (gSub to ti t) := by
  intro pins s σ H v u Q I r h
  rw [ha]
  refine wpAny_bind (wpAny_holding (thn (ho pins s σ H _ I h) fun ov s1 ⟨x, H1, I1, r1, q1⟩ => ?_))
  refine wpAny_bind (wpAny_holding (thn (hi pins s1 σ H1 _ I1 q1) fun iv s2 ⟨y, H2, I2, r2, q2⟩ => ?_))
  refine wpAny_bind (wpAny_standAt (wpAny_bind (wpAny_holding (thn (hs pins s2 σ H2 x y v ov iv u _ I2 r1 r2 r q2) fun _ s3 ⟨H3, I3, q3⟩ => ?_))))
  exact wpAny_release ⟨σ, H3, I3, q3⟩
/-- target = value -/
def tAsg (te : TE) (g : TG) : TS := fun D σ H => te σ H fun x H1 => g x σ H1 D.nx
theorem ps_asg {tg e : Expr} {te : TE} {g : TG} (he : PE X e te) (hg : PG X tg g) (hs : swapsWithSole [tg] e pos.line X.env = pure false := by rfl) (hw : swappedStores [tg] e X.env = pure none := by rfl)
    (h1 : (assignEach [tg] X.env).map (·.2) = [assign tg X.env] := by rfl) : PS X (.Assign [tg] e pos) (tAsg te g) := by
  intro pins s σ H D I h
  refine wpAny_Assign_stores (thn (he pins s σ H _ I h) fun v s1 ⟨x, H1, I1, r1, q1⟩ => ?_) hs hw
  rw [h1]
  exact thn (hg pins s1 σ H1 x v _ I1 r1 q1) fun _ s2 q => q
/-- name = value -/
theorem ps_set {i : Nat} {x : Str} {e : Expr} {te : TE} {pos' : Pos} (hN : X.N.Nodup) (hi : X.N[i]? = some x) (hx : Loc X.env.scope x) (he : PE X e te) (hs : swapsWith e (some (.Name x pos')) pos.line X.env = pure false := by rfl) (hf : X.fn x = true ∨ X.env.scope.names.lookup x = some .local := by first | exact .inl rfl | exact .inr rfl | assumption) :
    PS X (.Assign [.Name x pos'] e pos) (tAsg te (gName i)) := by
  intro pins s σ H D I h
  refine wpAny_Assign_Name (thn (he pins s σ H _ I h) fun v s1 ⟨y, H1, I1, r1, q1⟩ => ?_) hs
  exact store_ok I1 hN hi hx r1 (fun s2 I2 => ⟨_, H1, I2, q1⟩) hf
/-- a, b = x, y with plain local names: stored from the right; the pair itself is not tracked (the opening rows as in PyProof/Rows/TupAssign.lean:23) -/
def tPar (i j : Nat) (ta : TA) : TS := fun D σ H => ta σ H fun vs H1 => ∃ v w, vs = [v, w] ∧ D.nx ((σ.set i (some v)).set j (some w)) H1
/-- name op= e -/
def tAug (i : Nat) (te : TE) (ti : TIp) : TS := fun D σ H => ∃ x, σ[i]? = some (some x) ∧ te σ H fun y H1 => ti x y H1 fun z H2 => D.nx (σ.set i (some z)) H2
/-- o[i] op= e -/
def tAugS (to ti te : TE) (tget : V → V → Hp → VK → Prop) (tip : TIp) (tset : TSet) : TS := fun D σ H => to σ H fun o H1 => ti σ H1 fun i H2 => tget o i H2 fun x H3 => te σ H3 fun y H4 => tip x y H4 fun z H5 => tset o i z H5 fun H6 => D.nx σ H6
/-- o[i], by values -/
def PGet (X : Cx) (t : V → V → Hp → VK → Prop) : Prop :=
  ∀ (pins : List (Addr × Obj)) (s : Shared) (σ : St) (H : Hp) (o i : V) (ov iv : Value) (Q : VK), Inv X pins σ H s → RelV o ov → RelV i iv → t o i H Q →
    wpAny (model X.prog X.w) X.A (getItem ov iv) (EP X pins σ Q) X.xe s
/-- ints -/
def ipI (f : Int → Int → Int) : TIp := fun x y H Q => ∃ i j, x = .int i ∧ y = .int j ∧ Q (.int (f i j)) H
end

/-! ### while -/
section
variable {X : Cx} {pos : Pos}
/-- the invariant W with its measure -/
def tWhile (c : TT) (tb : TS) : TS := fun D σ H => ∃ W : Nat → St → Hp → Prop, (∃ m, W m σ H) ∧ ∀ m σ H, W m σ H →
  c σ H fun b H1 => if b = true then ∃ N : St → Hp → Prop, (∀ σ' H', N σ' H' → ∃ m', m' < m ∧ W m' σ' H') ∧ tb { D with nx := N, ct := N, bk := D.nx } σ H1 else D.nx σ H1
end

/-! ### what a loop or a comprehension walks -/
/-- at turn i: it yields x (the heap may grow), or it stops -/
structure It where
  go : Nat → Hp → Prop
  yld : Nat → Hp → V → Hp → Prop
  stop : Nat → Hp → Prop
/-- the iterator's own objects may turn: they are not the frame's, not pinned, younger than the entry (or a comprehension's own) -/
def FpOk (X : Cx) (pins : List (Addr × Obj)) (H : Hp) (b : Addr) : Prop :=
  H b = none ∧ b ≠ X.env.locals ∧ b ∉ X.fs ∧ (b ∈ X.ex ∨ X.s₀.heap.objs.size ≤ b) ∧ (∀ x c, X.env.cells.lookup x = some c → c ≠ b) ∧ ∀ p ∈ X.pn ++ pins, p.1 ≠ b
theorem Inv.fpOk {X : Cx} {pins : List (Addr × Obj)} {σ : St} {H H' : Hp} {s : Shared} {b : Addr} (I : Inv X pins σ H s) (hb : s.heap.objs.size ≤ b) (hn : H' b = none) : FpOk X pins H' b := by
  refine ⟨hn, Nat.ne_of_gt (Nat.lt_of_lt_of_le I.lt hb), I.nofs hb, .inr (Nat.le_trans I.sz hb), fun x c e z => ?_, fun p hp z => ?_⟩
  · obtain ⟨v, q⟩ := I.cell x c e
    exact absurd (Nat.lt_of_lt_of_le q.lt (by rw [z]; exact hb)) (Nat.lt_irrefl _)
  · exact absurd (Nat.lt_of_lt_of_le (Heap.lt_size (I.pin p hp).1) (by rw [z]; exact hb)) (Nat.lt_irrefl _)
structure Turn (P : Program) (w : World) (K : PySem.W.Frag) (tg : Expr) (J : It) (fp : List Addr) (it : Addr) (tn : Nat → Heap → Prop) : Prop where
  mem : it ∈ fp
  obj : ∀ i h, tn i h → ∀ b ∈ fp, ∃ o, h.get? b = some o ∧ ∀ v, o.data ≠ .cell v
  keep : ∀ i h h', tn i h → (∀ b ∈ fp, ∀ o, h.get? b = some o → h'.get? b = some o) → tn i h'
  item : ∀ (X : Cx), X.prog = P → X.w = w → X.K = K → X.calm = true → ∀ (i : Nat) (pins : List (Addr × Obj)) (s : Shared) (σ : St) (H : Hp) (E : Value → Shared → Prop), Inv X pins σ H s → (∀ b ∈ fp, FpOk X pins H b) → tn i s.heap → J.go i H →
    wpAny (model P w) X.A (pyNext (.ref it)) (fun r s1 => ∃ u, r = some u ∧
      wpAny (model P w) X.A (letOwnedTupleGo tg (.ref it) u) (fun _ s2 => ∃ x H', Inv X pins σ H' s2 ∧ RelV x u ∧ J.yld i H x H' ∧ tn (i + 1) s2.heap ∧ ∀ b ∈ fp, H' b = none) E s1) E s
  done : ∀ (X : Cx), X.prog = P → X.w = w → X.K = K → X.calm = true → ∀ (i : Nat) (pins : List (Addr × Obj)) (s : Shared) (σ : St) (H : Hp) (E : Value → Shared → Prop), Inv X pins σ H s → (∀ b ∈ fp, FpOk X pins H b) → tn i s.heap → J.stop i H →
    wpAny (model P w) X.A (pyNext (.ref it)) (fun r s1 => r = none ∧ Inv X pins σ H s1) E s
  self : ∀ (A : Around) (i : Nat) (s : Shared) (Q : Value → Shared → Prop) (E : Value → Shared → Prop), tn i s.heap → Q (.ref it) s → wpAny (model P w) A (pyIter (.ref it)) Q E s
abbrev TI := St → Hp → (It → Hp → Prop) → Prop
/-- an iterator has come -/
def PIE (X : Cx) (pins : List (Addr × Obj)) (σ : St) (tg : Expr) (R : It → Hp → Prop) (itv : Value) (s2 : Shared) : Prop :=
  ∃ (it : Addr) (fp : List Addr) (tn : Nat → Heap → Prop) (J : It) (H' : Hp), itv = .ref it ∧ Inv X pins σ H' s2 ∧ Turn X.prog X.w X.K tg J fp it tn ∧ tn 0 s2.heap ∧ (∀ b ∈ fp, FpOk X pins H' b) ∧ R J H'
def PI (X : Cx) (tg iter : Expr) (wi : TI) : Prop :=
  ∀ (pins : List (Addr × Obj)) (s : Shared) (σ : St) (H : Hp) (R : It → Hp → Prop), Inv X pins σ H s → wi σ H R →
    wpAny (model X.prog X.w) X.A (eval iter X.env) (fun v s1 => wpAny (model X.prog X.w) X.A (pyIter v) (PIE X pins σ tg R) X.xe s1) X.xe s

/-- the step ahead of the store is nothing for an iterator that keeps no tuple -/
theorem go_of {M : Model} {A : Around} {E : Value → Shared → Prop} {s : Shared} {tg : Expr} {it : Addr} {u : Value} {o : Obj} {n : String} {vs : Array Value} {Q : Unit → Shared → Prop} (ho : s.heap.get? it = some o) (hc : o.cls = .type n) (hd : o.data = .fields vs)
    (hn : ["enumerate", "zip", "dict_itemiterator", "dict_reverseitemiterator", "odict_iterator", "itertools.zip_longest", "itertools.pairwise"].contains n = false) (hQ : Q () s) : wpAny M A (letOwnedTupleGo tg (.ref it) u) Q E s := by
  unfold letOwnedTupleGo
  cases tg <;> first
    | exact wpAny_pure hQ
    | (cases u <;> first
        | exact wpAny_pure hQ
        | (refine wpAny_bind (wpAny_load ho ?_)
           rw [hc, hd]
           show wpAny M A (if (["enumerate", "zip", "dict_itemiterator", "dict_reverseitemiterator", "odict_iterator", "itertools.zip_longest", "itertools.pairwise"].contains n && vs[0]? == some (rawInt _)) = true then _ else _) Q E s
           rw [if_neg (by intro h; rw [hn, Bool.false_and] at h; cases h)]
           exact wpAny_pure hQ))

/-- the list at a, as it stands at each turn (a loop may append to it) -/
def Itl (K : PySem.W.Frag) (a : Addr) : It :=
  ⟨fun i H => ∃ xs x, SqL K H a xs ∧ xs[i]? = some x, fun i H x H' => H' = H ∧ ∀ xs, SqL K H a xs → xs[i]? = some x, fun i H => ∃ xs, SqL K H a xs ∧ xs.length ≤ i⟩
def Itt (K : PySem.W.Frag) (a : Addr) : It :=
  ⟨fun i H => ∃ xs x, SqT K H a xs ∧ xs[i]? = some x, fun i H x H' => H' = H ∧ ∀ xs, SqT K H a xs → xs[i]? = some x, fun i H => ∃ xs, SqT K H a xs ∧ xs.length ≤ i⟩
/-- lo, lo + 1, .. (n of them) -/
def Itr (lo : Int) (n : Nat) : It := ⟨fun i _ => i < n, fun i H x H' => H' = H ∧ x = .int (lo + i), fun i _ => n ≤ i⟩
theorem turn_list {P : Program} {w : World} {K : PySem.W.Frag} {tg : Expr} (a it : Addr) : Turn P w K tg (Itl K a) [it] it (fun i h => h.IsListIter it a i) where
  mem := by simp
  obj := fun i h st b hb => by
    have e : b = it := by simpa using hb
    subst e
    obtain ⟨o, e, c, d⟩ := st
    exact ⟨o, e, fun v z => by rw [d] at z; cases z⟩
  keep := fun i h h' st k => st.at fun o e => k it (by simp) o e
  item := by
    intro X hP hw hK hc i pins s σ H E I hf st hg
    subst hP hw hK
    obtain ⟨xs, x, hq, hx⟩ := hg
    obtain ⟨its, rv, p, hz⟩ := I.list hq
    obtain ⟨u, hu, ru⟩ := rv.get hx
    obtain ⟨f0, f1, f2, f3, f4, f5⟩ := hf it (by simp)
    refine wpAny_pyNext_list_item st p.isList (x := u) (by simpa using hu) fun h' st' sb => ?_
    have I1 : Inv X pins σ H { s with heap := h' } := I.turned (t' := s.toks) (fun b o hb e => (sb.2 b hb).trans e) f0 f1 f3 f4 f5
    obtain ⟨o, e, c, d⟩ := id st'
    exact ⟨u, rfl, go_of (s := { s with heap := h' }) e c d (by decide) ⟨x, H, I1, ru, ⟨rfl, fun ys hy => by rw [I.list_inj hy hq]; exact hx⟩, st', fun b hb => (hf b hb).1⟩⟩
  done := by
    intro X hP hw hK hc i pins s σ H E I hf st hg
    subst hP hw hK
    obtain ⟨xs, hq, hx⟩ := hg
    obtain ⟨its, rv, p, hz⟩ := I.list hq
    obtain ⟨f0, f1, f2, f3, f4, f5⟩ := hf it (by simp)
    have hl := rv.length
    exact wpAny_pyNext_list_end (I.ok.hd hc) st p.isList (by simp; omega) fun h' eb => ⟨rfl, I.turned (t' := s.toks) (fun b o hb e => eb b o hb e) f0 f1 f3 f4 f5⟩
  self := fun _ _ _ _ _ st h => wpAny_pyIter_listiter st h
theorem turn_tuple {P : Program} {w : World} {K : PySem.W.Frag} {tg : Expr} (a it : Addr) : Turn P w K tg (Itt K a) [it] it (fun i h => h.IsTupleIter it a i) where
  mem := by simp
  obj := fun i h st b hb => by
    have e : b = it := by simpa using hb
    subst e
    obtain ⟨o, e, c, d⟩ := st
    exact ⟨o, e, fun v z => by rw [d] at z; cases z⟩
  keep := fun i h h' st k => st.at fun o e => k it (by simp) o e
  item := by
    intro X hP hw hK hc i pins s σ H E I hf st hg
    subst hP hw hK
    obtain ⟨xs, x, hq, hx⟩ := hg
    obtain ⟨its, rv, p, hz⟩ := I.tuple hq
    obtain ⟨u, hu, ru⟩ := rv.get hx
    obtain ⟨f0, f1, f2, f3, f4, f5⟩ := hf it (by simp)
    refine wpAny_pyNext_tuple_item st (show s.heap.IsTuple a its.toArray from p) (x := u) (by simpa using hu) fun h' st' sb => ?_
    have I1 : Inv X pins σ H { s with heap := h' } := I.turned (t' := s.toks) (fun b o hb e => (sb.2 b hb).trans e) f0 f1 f3 f4 f5
    obtain ⟨o, e, c, d⟩ := id st'
    exact ⟨u, rfl, go_of (s := { s with heap := h' }) e c d (by decide) ⟨x, H, I1, ru, ⟨rfl, fun ys hy => by rw [I.tuple_inj hy hq]; exact hx⟩, st', fun b hb => (hf b hb).1⟩⟩
  done := by
    intro X hP hw hK hc i pins s σ H E I hf st hg
    subst hP hw hK
    obtain ⟨xs, hq, hx⟩ := hg
    obtain ⟨its, rv, p, hz⟩ := I.tuple hq
    obtain ⟨f0, f1, f2, f3, f4, f5⟩ := hf it (by simp)
    have hl := rv.length
    exact wpAny_pyNext_tuple_end (I.ok.hd hc) st (show s.heap.IsTuple a its.toArray from p) (by simp; omega) fun h' eb => ⟨rfl, I.turned (t' := s.toks) (fun b o hb e => eb b o hb e) f0 f1 f3 f4 f5⟩
  self := fun _ _ _ _ _ st h => wpAny_pyIter_tupleiter st h
theorem turn_range {P : Program} {w : World} {K : PySem.W.Frag} {tg : Expr} (it : Addr) (lo : Int) (n : Nat) : Turn P w K tg (Itr lo n) [it] it (fun i h => IsRangeIter h it (lo + (i : Nat) * 1) ((n : Int) - (i : Nat)) 1) where
  mem := by simp
  obj := fun i h st b hb => by
    have e : b = it := by simpa using hb
    subst e
    exact ⟨_, st, fun v z => by
      have z' : Data.fields _ = Data.cell v := z
      cases z'⟩
  keep := fun i h h' st k => k it (by simp) _ st
  item := by
    intro X hP hw hK hc i pins s σ H E I hf st hg
    subst hP hw hK
    obtain ⟨f0, f1, f2, f3, f4, f5⟩ := hf it (by simp)
    have W := Walks.range (prog := X.prog) (w := X.w) (I.ok.hd hc) it lo 1 n
    refine W.item i s _ _ hg st fun v h' tk hv st' kk => ?_
    obtain ⟨t, rfl⟩ := hv
    have I1 : Inv X pins σ H { s with heap := h', toks := tk } := I.turned (fun b o hb e => kk b o (by simpa using hb) e) f0 f1 f3 f4 f5
    refine ⟨_, rfl, go_of (s := { s with heap := h', toks := tk }) (n := "range_iterator") st' rfl rfl (by decide) ⟨.int (lo + i), H, I1, ⟨t, ?_⟩, ⟨rfl, rfl⟩, st', fun b hb => (hf b hb).1⟩⟩
    rw [Int.mul_one]
  done := by
    intro X hP hw hK hc i pins s σ H E I hf st hg
    subst hP hw hK
    obtain ⟨f0, f1, f2, f3, f4, f5⟩ := hf it (by simp)
    exact wpAny_pyNext_range_end (I.ok.hd hc) st (by have : n ≤ i := hg; omega) fun h' eb => ⟨rfl, I.turned (t' := s.toks) (fun b o hb e => eb b o hb e) f0 f1 f3 f4 f5⟩
  self := fun _ _ _ _ _ st h => wpAny_pyIter_rangeiter st h
end L2

namespace L2
open PySem PySem.Spec PyProof.Rows
section
variable {X : Cx} {tg : Expr}
def iList (K : PySem.W.Frag) (tl : TE) : TI := fun σ H R => tl σ H fun x H1 => ∃ a, x = .ref a ∧ (∃ xs, SqL K H1 a xs) ∧ R (Itl K a) H1
def iTup (K : PySem.W.Frag) (tl : TE) : TI := fun σ H R => tl σ H fun x H1 => ∃ a, x = .ref a ∧ (∃ xs, SqT K H1 a xs) ∧ R (Itt K a) H1
theorem pi_list {l : Expr} {tl : TE} (hl : PE X l tl) : PI X tg l (iList X.K tl) := by
  intro pins s σ H R I h
  refine thn (hl pins s σ H _ I h) fun v s1 ⟨x, H1, I1, r1, q1⟩ => ?_
  obtain ⟨a, e, ⟨xs, hq⟩, q⟩ := q1
  subst e
  cases r1
  obtain ⟨its, rv, p, hz⟩ := I1.list hq
  refine wpAny_pyIter_list p.isList ?_
  refine ⟨s1.heap.objs.size, [s1.heap.objs.size], _, _, H1, rfl, I1.kept (t' := s1.toks) fun b o e => Heap.get?_push_of_some _ e, turn_list a _, ⟨_, Heap.get?_push_size _ rfl, rfl, rfl⟩, fun b hb => ?_, q⟩
  have e : b = s1.heap.objs.size := by simpa using hb
  subst e
  exact I1.fpOk (Nat.le_refl _) (I1.hok.fresh (Nat.le_refl _))
theorem pi_tup {l : Expr} {tl : TE} (hl : PE X l tl) : PI X tg l (iTup X.K tl) := by
  intro pins s σ H R I h
  refine thn (hl pins s σ H _ I h) fun v s1 ⟨x, H1, I1, r1, q1⟩ => ?_
  obtain ⟨a, e, ⟨xs, hq⟩, q⟩ := q1
  subst e
  cases r1
  obtain ⟨its, rv, p, hz⟩ := I1.tuple hq
  refine wpAny_pyIter_tuple (show s1.heap.IsTuple a its.toArray from p) ?_
  refine ⟨s1.heap.objs.size, [s1.heap.objs.size], _, _, H1, rfl, I1.kept (t' := s1.toks) fun b o e => Heap.get?_push_of_some _ e, turn_tuple a _, ⟨_, Heap.get?_push_size _ rfl, rfl, rfl⟩, fun b hb => ?_, q⟩
  have e : b = s1.heap.objs.size := by simpa using hb
  subst e
  exact I1.fpOk (Nat.le_refl _) (I1.hok.fresh (Nat.le_refl _))
/-- a range object just made, walked -/
theorem range_it {pins : List (Addr × Obj)} {σ : St} {H : Hp} {s : Shared} {R : It → Hp → Prop} {E : Value → Shared → Prop} {lo hi : Int} {t u v : Tok} {tk : Nat} (I : Inv X pins σ H s) (h1 : -(2 ^ 62) ≤ lo) (h2 : lo < 2 ^ 62) (h3 : -(2 ^ 62) ≤ hi) (h4 : hi < 2 ^ 62)
    (q : R (Itr lo (hi - lo).toNat) H) : wpAny (model X.prog X.w) X.A (pyIter (.ref s.heap.objs.size)) (PIE X pins σ tg R) E { s with heap := s.heap.push { cls := .type "range", data := .fields #[.int lo t, .int hi u, .int 1 v] }, toks := tk } := by
  refine wpAny_pyIter_range (IsRange.new ..) (small_one h1 h2 h3 h4) ?_
  have I1 : Inv X pins σ H { s with heap := s.heap.push { cls := .type "range", data := .fields #[.int lo t, .int hi u, .int 1 v] }, toks := tk } := I.kept fun b o e => Heap.get?_push_of_some _ e
  refine ⟨(s.heap.push { cls := .type "range", data := .fields #[.int lo t, .int hi u, .int 1 v] }).objs.size, [(s.heap.push { cls := .type "range", data := .fields #[.int lo t, .int hi u, .int 1 v] }).objs.size], _, _, H, rfl,
    I1.kept (t' := tk) fun b o e => Heap.get?_push_of_some _ e, turn_range _ lo (hi - lo).toNat, ?_, fun b hb => ?_, q⟩
  · have e1 : lo + ((0 : Nat) : Int) * 1 = lo := by simp
    have e2 : (((hi - lo).toNat : Nat) : Int) - ((0 : Nat) : Int) = Builtin.Range.rangeSize lo hi 1 := by rw [rangeSize_one]; split <;> omega
    show IsRangeIter _ _ (lo + ((0 : Nat) : Int) * 1) ((((hi - lo).toNat : Nat) : Int) - ((0 : Nat) : Int)) 1
    rw [e1, e2]
    exact Heap.get?_push_size _ rfl
  · have e : b = (s.heap.push { cls := .type "range", data := .fields #[.int lo t, .int hi u, .int 1 v] }).objs.size := by simpa using hb
    subst e
    exact I1.fpOk (Nat.le_refl _) (I1.hok.fresh (Nat.le_refl _))
def iRng1 (ta : TA) : TI := fun σ H R => ta σ H fun vs H1 => ∃ j : Int, vs = [.int j] ∧ -(2 ^ 62) ≤ j ∧ j < 2 ^ 62 ∧ R (Itr 0 j.toNat) H1
def iRng2 (ta : TA) : TI := fun σ H R => ta σ H fun vs H1 => ∃ i j : Int, vs = [.int i, .int j] ∧ (-(2 ^ 62) ≤ i ∧ i < 2 ^ 62 ∧ -(2 ^ 62) ≤ j ∧ j < 2 ^ 62) ∧ R (Itr i (j - i).toNat) H1
theorem pi_range1 {a : Expr} {ta : TA} {p pos : Pos} (hg : Gl X "range") (hm : X.mg "range" = none) (ha : PA X [a] ta) (hs : starEach [a] X.env = [(false, eval a X.env)] := by rfl) : PI X tg (.Call (.Name "range" p) [a] [] pos) (iRng1 ta) := by
  intro pins s σ H R I h
  refine Call_ (ld_blt I hg hm boot_range (PyProof.Rows.callWith_type1 (thn (ha pos pins s σ H _ I h) fun us s1 ⟨vs, H1, I1, r1, q1⟩ => ?_) hs rfl))
  obtain ⟨j, e, q1, q2, q⟩ := q1
  subst e
  cases r1 with
  | cons r rr =>
    cases rr
    obtain ⟨t, rfl⟩ := r
    exact call_range_1 (range_it I1 (by omega) (by omega) q1 q2 (by simpa using q))
/-! ### for -/
/-- W: the invariant by the turn and a measure; N: what the body is to reach -/
def tFor (wi : TI) (g : TG) (tb : TS) : TS := fun D σ H => wi σ H fun J H1 => ∃ W : Nat → Nat → St → Hp → Prop, (∃ m, W 0 m σ H1) ∧ ∀ i m σ H, W i m σ H →
  (J.stop i H ∧ D.nx σ H) ∨ (J.go i H ∧ ∃ N : St → Hp → Prop, (∀ σ' H', N σ' H' → ∃ m', m' < m ∧ W (i + 1) m' σ' H') ∧ ∀ x H', J.yld i H x H' → g x σ H' fun σ2 H2 => tb { D with nx := N, ct := N, bk := D.nx } σ2 H2)
/-- the records at fp as they stand -/
def pinsAt (fp : List Addr) (h : Heap) : List (Addr × Obj) := fp.filterMap fun b => (h.get? b).map fun o => (b, o)
theorem mem_pinsAt {fp : List Addr} {h : Heap} {b : Addr} {o : Obj} (hb : b ∈ fp) (e : h.get? b = some o) : (b, o) ∈ pinsAt fp h := List.mem_filterMap.mpr ⟨b, hb, by rw [e]; rfl⟩
theorem of_pinsAt {fp : List Addr} {h : Heap} {p : Addr × Obj} (hp : p ∈ pinsAt fp h) : p.1 ∈ fp ∧ h.get? p.1 = some p.2 := by
  obtain ⟨b, hb, e⟩ := List.mem_filterMap.mp hp
  cases q : h.get? b with
  | none => rw [q] at e; cases e
  | some o =>
    rw [q] at e
    have e' : (b, o) = p := Option.some.inj e
    subst e'
    exact ⟨hb, q⟩
theorem Inv.pinned {pins : List (Addr × Obj)} {σ : St} {H : Hp} {s : Shared} {fp : List Addr} (I : Inv X pins σ H s) (hf : ∀ b ∈ fp, FpOk X pins H b) (ho : ∀ b ∈ fp, ∃ o, s.heap.get? b = some o ∧ ∀ v, o.data ≠ .cell v) : Inv X (pins ++ pinsAt fp s.heap) σ H s :=
  I.pins_of fun p hp => (List.mem_append.mp hp).elim (fun z => I.pin p (List.mem_append_right _ z)) fun z => by
    obtain ⟨hb, e⟩ := of_pinsAt z
    obtain ⟨f0, f1, f2, _⟩ := hf p.1 hb
    obtain ⟨o, e', d⟩ := ho p.1 hb
    rw [e] at e'; cases e'
    exact ⟨e, f0, f1, f2, d⟩
theorem Inv.unpinned {pins pl : List (Addr × Obj)} {σ : St} {H : Hp} {s : Shared} (I : Inv X (pins ++ pl) σ H s) : Inv X pins σ H s := I.pins_of fun p hp => I.pin p (List.mem_append_right _ (List.mem_append_left _ hp))
theorem ps_for {iter : Expr} {body : List Stmt} {wi : TI} {g : TG} {tb : TS} {pos : Pos} (hp : PassesOwn (model X.prog X.w) X.A X.env X.xe) (hc : X.calm = true) (hi : PI X tg iter wi) (hg : PG X tg g) (hb : PSs X body tb)
    (hs : ∀ x, foldedSetIterable iter X.env x = pure x := by intro _; rfl) : PS X (.For tg iter body [] pos) (tFor wi g tb) := by
  intro pins s σ H D I h
  refine wpAny_For (thn (hi pins s σ H _ I h) fun v s1 h1 => thn h1 fun itv s2 h2 => ?_) hs
  obtain ⟨it, fp, tn, J, H2, e, I2, T, st2, f2, W, ⟨m0, w0⟩, turn⟩ := h2
  subst e
  -- what stays true of the iterator's objects through the loop
  have stat : ∀ {H' : Hp}, (∀ b ∈ fp, H' b = none) → ∀ b ∈ fp, FpOk X pins H' b := fun hn b hb => ⟨hn b hb, (f2 b hb).2⟩
  refine codeAny_forLoop_any (fun n s' => ∃ i σ' H', Inv X pins σ' H' s' ∧ tn i s'.heap ∧ (∀ b ∈ fp, H' b = none) ∧ W i n σ' H') ?_ m0 ⟨0, σ, H2, I2, st2, fun b hb => (f2 b hb).1, w0⟩
  rintro n s3 ⟨i, σ3, H3, I3, st3, fr3, w3⟩
  rcases turn i n σ3 H3 w3 with ⟨stop, qn⟩ | ⟨go, N, hN, step⟩
  · refine wpAny_passesOwn hp (thn (T.done X rfl rfl rfl hc i pins s3 σ3 H3 X.xe I3 (stat fr3) st3 stop) fun r s4 ⟨hr, I4⟩ => ?_)
    subst hr
    exact wpAny_execs_nil ⟨σ3, H3, I4, qn⟩
  · refine wpAny_passesOwn hp (thn (T.item X rfl rfl rfl hc i pins s3 σ3 H3 X.xe I3 (stat fr3) st3 go) fun r s4 ⟨u, hr, h4⟩ => ?_)
    subst hr
    refine wpAny_passesOwn hp (thn h4 fun _ s5 ⟨x, H5, I5, r5, y5, st5, fr5⟩ => ?_)
    have I5' := I5.pinned (stat fr5) (T.obj _ _ st5)
    refine wpAny_passesOwn hp (thn (hg _ s5 σ3 H5 x u _ I5' r5 (step x H5 y5)) fun _ s6 ⟨σ6, H6, I6, q6⟩ => ?_)
    refine wpAny_passesOwn hp (thn (hb _ s6 σ6 H6 _ I6 q6) fun f s7 q7 => ?_)
    have again : ∀ {σ7 : St} {H7 : Hp}, Inv X (pins ++ pinsAt fp s5.heap) σ7 H7 s7 → N σ7 H7 → ∃ m, m < n ∧ ∃ i σ' H', Inv X pins σ' H' s7 ∧ tn i s7.heap ∧ (∀ b ∈ fp, H' b = none) ∧ W i m σ' H' := fun {σ7 H7} I7 n7 => by
      obtain ⟨m', hm, w7⟩ := hN σ7 H7 n7
      refine ⟨m', hm, i + 1, σ7, H7, I7.unpinned, T.keep _ _ _ st5 fun b hb o e => (I7.pin (b, o) (List.mem_append_right _ (List.mem_append_right _ (mem_pinsAt hb e)))).1, fun b hb => ?_, w7⟩
      obtain ⟨o, e, d⟩ := T.obj _ _ st5 b hb
      exact (I7.pin (b, o) (List.mem_append_right _ (List.mem_append_right _ (mem_pinsAt hb e)))).2.1
    cases f with
    | next => obtain ⟨σ7, H7, I7, n7⟩ := q7; exact again I7 n7
    | cont => obtain ⟨σ7, H7, I7, n7⟩ := q7; exact again I7 n7
    | brk => obtain ⟨σ7, H7, I7, q7⟩ := q7; exact ⟨σ7, H7, I7.unpinned, q7⟩
    | ret v => obtain ⟨x7, σ7, H7, I7, r7, q7⟩ := q7; exact ⟨x7, σ7, H7, I7.unpinned, r7, q7⟩
end

/-! ### the forms one uses -/
/-- over a list that the body leaves as it is -/
theorem for_list {K : PySem.W.Frag} {a : Addr} {xs : List V} {g : TG} {tb : TS} {D : Ends} {σ : St} {H : Hp} (Pv : Nat → St → Hp → Prop) (h0 : Pv 0 σ H) (hl : ∀ i σ H, i ≤ xs.length → Pv i σ H → SqL K H a xs)
    (hs : ∀ i x σ H, xs[i]? = some x → Pv i σ H → g x σ H fun σ2 H2 => tb { D with nx := Pv (i + 1), ct := Pv (i + 1), bk := D.nx } σ2 H2) (hd : ∀ σ H, Pv xs.length σ H → D.nx σ H) :
    ∃ W : Nat → Nat → St → Hp → Prop, (∃ m, W 0 m σ H) ∧ ∀ i m σ H, W i m σ H →
      ((Itl K a).stop i H ∧ D.nx σ H) ∨ ((Itl K a).go i H ∧ ∃ N : St → Hp → Prop, (∀ σ' H', N σ' H' → ∃ m', m' < m ∧ W (i + 1) m' σ' H') ∧ ∀ x H', (Itl K a).yld i H x H' → g x σ H' fun σ2 H2 => tb { D with nx := N, ct := N, bk := D.nx } σ2 H2) := by
  refine ⟨fun i m σ H => m = xs.length - i ∧ i ≤ xs.length ∧ Pv i σ H, ⟨xs.length, by simp, Nat.zero_le _, h0⟩, ?_⟩
  rintro i m σ H ⟨rfl, hi, p⟩
  have q := hl i σ H hi p
  by_cases hlt : i < xs.length
  · refine .inr ⟨⟨xs, xs[i], q, by simp [hlt]⟩, Pv (i + 1), fun σ' H' p' => ⟨xs.length - (i + 1), by omega, rfl, hlt, p'⟩, fun x H' y => ?_⟩
    obtain ⟨e, y⟩ := y
    subst e
    exact hs i x σ _ (y xs q) p
  · have e : i = xs.length := by omega
    subst e
    exact .inl ⟨⟨xs, q, Nat.le_refl _⟩, hd σ H p⟩
theorem for_tup {K : PySem.W.Frag} {a : Addr} {xs : List V} {g : TG} {tb : TS} {D : Ends} {σ : St} {H : Hp} (Pv : Nat → St → Hp → Prop) (h0 : Pv 0 σ H) (hl : ∀ i σ H, i ≤ xs.length → Pv i σ H → SqT K H a xs)
    (hs : ∀ i x σ H, xs[i]? = some x → Pv i σ H → g x σ H fun σ2 H2 => tb { D with nx := Pv (i + 1), ct := Pv (i + 1), bk := D.nx } σ2 H2) (hd : ∀ σ H, Pv xs.length σ H → D.nx σ H) :
    ∃ W : Nat → Nat → St → Hp → Prop, (∃ m, W 0 m σ H) ∧ ∀ i m σ H, W i m σ H →
      ((Itt K a).stop i H ∧ D.nx σ H) ∨ ((Itt K a).go i H ∧ ∃ N : St → Hp → Prop, (∀ σ' H', N σ' H' → ∃ m', m' < m ∧ W (i + 1) m' σ' H') ∧ ∀ x H', (Itt K a).yld i H x H' → g x σ H' fun σ2 H2 => tb { D with nx := N, ct := N, bk := D.nx } σ2 H2) := by
  refine ⟨fun i m σ H => m = xs.length - i ∧ i ≤ xs.length ∧ Pv i σ H, ⟨xs.length, by simp, Nat.zero_le _, h0⟩, ?_⟩
  rintro i m σ H ⟨rfl, hi, p⟩
  have q := hl i σ H hi p
  by_cases hlt : i < xs.length
  · refine .inr ⟨⟨xs, xs[i], q, by simp [hlt]⟩, Pv (i + 1), fun σ' H' p' => ⟨xs.length - (i + 1), by omega, rfl, hlt, p'⟩, fun x H' y => ?_⟩
    obtain ⟨e, y⟩ := y
    subst e
    exact hs i x σ _ (y xs q) p
  · have e : i = xs.length := by omega
    subst e
    exact .inl ⟨⟨xs, q, Nat.le_refl _⟩, hd σ H p⟩
theorem for_range {lo : Int} {n : Nat} {g : TG} {tb : TS} {D : Ends} {σ : St} {H : Hp} (Pv : Nat → St → Hp → Prop) (h0 : Pv 0 σ H)
    (hs : ∀ i σ H, i < n → Pv i σ H → g (.int (lo + i)) σ H fun σ2 H2 => tb { D with nx := Pv (i + 1), ct := Pv (i + 1), bk := D.nx } σ2 H2) (hd : ∀ σ H, Pv n σ H → D.nx σ H) :
    ∃ W : Nat → Nat → St → Hp → Prop, (∃ m, W 0 m σ H) ∧ ∀ i m σ H, W i m σ H →
      ((Itr lo n).stop i H ∧ D.nx σ H) ∨ ((Itr lo n).go i H ∧ ∃ N : St → Hp → Prop, (∀ σ' H', N σ' H' → ∃ m', m' < m ∧ W (i + 1) m' σ' H') ∧ ∀ x H', (Itr lo n).yld i H x H' → g x σ H' fun σ2 H2 => tb { D with nx := N, ct := N, bk := D.nx } σ2 H2) := by
  refine ⟨fun i m σ H => m = n - i ∧ i ≤ n ∧ Pv i σ H, ⟨n, by simp, Nat.zero_le _, h0⟩, ?_⟩
  rintro i m σ H ⟨rfl, hi, p⟩
  by_cases hlt : i < n
  · refine .inr ⟨hlt, Pv (i + 1), fun σ' H' p' => ⟨n - (i + 1), by omega, rfl, hlt, p'⟩, fun x H' y => ?_⟩
    obtain ⟨e, y⟩ := y
    subst e y
    exact hs i σ _ hlt p
  · have e : i = n := by omega
    subst e
    exact .inl ⟨Nat.le_refl _, hd σ H p⟩
end L2

namespace L2
open PySem PySem.Spec PyProof.Rows

abbrev R2 := V → V → Hp → VK → Prop
/-- a two-place operation on values: f is binaryOp op, inplaceOp op or compareOp op -/
def OpR (X : Cx) (f : Value → Value → Sem Value) (r : R2) : Prop :=
  ∀ (pins : List (Addr × Obj)) (s : Shared) (σ : St) (H : Hp) (x y : V) (v u : Value) (Q : VK), Inv X pins σ H s → RelV x v → RelV y u → r x y H Q →
    wpAny (model X.prog X.w) X.A (f v u) (EP X pins σ Q) X.xe s
/-- a one-place operation -/
def UnR (X : Cx) (f : Value → Sem Value) (r : V → Hp → VK → Prop) : Prop :=
  ∀ (pins : List (Addr × Obj)) (s : Shared) (σ : St) (H : Hp) (x : V) (v : Value) (Q : VK), Inv X pins σ H s → RelV x v → r x H Q →
    wpAny (model X.prog X.w) X.A (f v) (EP X pins σ Q) X.xe s
/-- a call of a value that is known (a builtin, a type) with values -/
def CallR (X : Cx) (f : Value) (r : List V → Hp → VK → Prop) : Prop :=
  ∀ (pins : List (Addr × Obj)) (s : Shared) (σ : St) (H : Hp) (xs : List V) (us : List Value) (Q : VK), Inv X pins σ H s → Vals xs us → r xs H Q →
    wpAny (model X.prog X.w) X.A (call f us) (EP X pins σ Q) X.xe s
/-- a value's truth -/
def TruR (X : Cx) (r : V → Hp → (Bool → Hp → Prop) → Prop) : Prop :=
  ∀ (pins : List (Addr × Obj)) (s : Shared) (σ : St) (H : Hp) (x : V) (v : Value) (Q : Bool → Hp → Prop), Inv X pins σ H s → RelV x v → r x H Q →
    wpAny (model X.prog X.w) X.A (truthy v) (TP X pins σ Q) X.xe s

def tOp (r : R2) (ta tb : TE) : TE := fun σ H Q => ta σ H fun x H1 => tb σ H1 fun y H2 => r x y H2 Q
def tUn (r : V → Hp → VK → Prop) (ta : TE) : TE := fun σ H Q => ta σ H fun x H1 => r x H1 Q
/-- ints in, under C, and a value out -/
def rI (C : Int → Int → Prop) (g : Int → Int → V) : R2 := fun x y H Q => ∃ i j, x = .int i ∧ y = .int j ∧ C i j ∧ Q (g i j) H
def rI0 (g : Int → Int → V) : R2 := fun x y H Q => ∃ i j, x = .int i ∧ y = .int j ∧ Q (g i j) H
def rU (g : Int → V) : V → Hp → VK → Prop := fun x H Q => ∃ i, x = .int i ∧ Q (g i) H

section
variable {X : Cx} {a b c : Expr} {ta tb tc : TE} {pos : Pos}

theorem binT (ha : PE X a ta) (hb : PE X b tb) {pins : List (Addr × Obj)} {s : Shared} {σ : St} {H : Hp} {R : V → V → Hp → Prop} (I : Inv X pins σ H s)
    (h : ta σ H fun x H1 => tb σ H1 fun y H2 => R x y H2) {Q : Value → Shared → Prop} {f : Value → Value → Sem Value}
    (hf : ∀ v u s2 x y H2, Inv X pins σ H2 s2 → RelV x v → RelV y u → R x y H2 → wpAny (model X.prog X.w) X.A (f v u) Q X.xe s2) :
    wpAny (model X.prog X.w) X.A (eval a X.env) (fun v s₁ => wpAny (model X.prog X.w) X.A (eval b X.env) (fun u s₂ => wpAny (model X.prog X.w) X.A (f v u) Q X.xe s₂) X.xe s₁) X.xe s := by
  refine thn (ha pins s σ H _ I h) fun v s1 ⟨x, H1, I1, r1, q1⟩ => ?_
  refine thn (hb pins s1 σ H1 _ I1 q1) fun u s2 ⟨y, H2, I2, r2, q2⟩ => ?_
  exact hf v u s2 x y H2 I2 r1 r2 q2

theorem pe_op {op : Operator} {r : R2} (ho : OpR X (binaryOp op) r) (ha : PE X a ta) (hb : PE X b tb) : PE X (.BinOp a op b pos) (tOp r ta tb) := by
  intro pins s σ H Q I h
  exact wpAny_BinOp (binT ha hb I h fun v u s2 x y H2 I2 rx ry q => ho pins s2 σ H2 x y v u Q I2 rx ry q)
theorem pe_un {op : UnaryOp} {r : V → Hp → VK → Prop} (ho : UnR X (unaryOp op) r) (ha : PE X a ta) : PE X (.UnaryOp op a pos) (tUn r ta) := by
  intro pins s σ H Q I h
  exact UnaryOp_ (thn (ha pins s σ H _ I h) fun v s1 ⟨x, H1, I1, r1, q1⟩ => ho pins s1 σ H1 x v Q I1 r1 q1)
/-! ### ints -/
theorem opI {f : Value → Value → Sem Value} {C : Int → Int → Prop} {g : Int → Int → Int}
    (rule : ∀ (i j : Int) (t u : Tok) (s : Shared) (Q : Value → Shared → Prop) (E : Value → Shared → Prop), C i j → Q (.int (g i j) s.toks) { s with toks := s.toks + 1 } → wpAny (model X.prog X.w) X.A (f (.int i t) (.int j u)) Q E s) :
    OpR X f (rI C fun i j => .int (g i j)) := by
  intro pins s σ H x y v u Q I rx ry h
  obtain ⟨i, j, rfl, rfl, hc, q⟩ := h
  obtain ⟨t, rfl⟩ := rx
  obtain ⟨t', rfl⟩ := ry
  exact rule i j t t' s _ _ hc ⟨.int (g i j), H, I.tok _, ⟨_, rfl⟩, q⟩
theorem opI0 {f : Value → Value → Sem Value} {g : Int → Int → Int}
    (rule : ∀ (i j : Int) (t u : Tok) (s : Shared) (Q : Value → Shared → Prop) (E : Value → Shared → Prop), Q (.int (g i j) s.toks) { s with toks := s.toks + 1 } → wpAny (model X.prog X.w) X.A (f (.int i t) (.int j u)) Q E s) :
    OpR X f (rI0 fun i j => .int (g i j)) := by
  intro pins s σ H x y v u Q I rx ry h
  obtain ⟨i, j, rfl, rfl, q⟩ := h
  obtain ⟨t, rfl⟩ := rx
  obtain ⟨t', rfl⟩ := ry
  exact rule i j t t' s _ _ ⟨.int (g i j), H, I.tok _, ⟨_, rfl⟩, q⟩
theorem opB0 {f : Value → Value → Sem Value} {g : Int → Int → Bool}
    (rule : ∀ (i j : Int) (t u : Tok) (s : Shared) (Q : Value → Shared → Prop) (E : Value → Shared → Prop), Q (.bool (g i j)) s → wpAny (model X.prog X.w) X.A (f (.int i t) (.int j u)) Q E s) :
    OpR X f (rI0 fun i j => .bl (g i j)) := by
  intro pins s σ H x y v u Q I rx ry h
  obtain ⟨i, j, rfl, rfl, q⟩ := h
  obtain ⟨t, rfl⟩ := rx
  obtain ⟨t', rfl⟩ := ry
  exact rule i j t t' s _ _ ⟨.bl (g i j), H, I, rfl, q⟩

def CDiv (i j : Int) : Prop := 0 < j ∧ j < 1073741824
def CDivN (i j : Int) : Prop := j ≠ 0 ∧ j.natAbs < 1073741824
def CPow (i j : Int) : Prop := 0 ≤ j ∧ j ≤ 1000000 ∧ i.natAbs < 2 ^ 64
def CMul (i j : Int) : Prop := (-(2 ^ 64) < i ∧ i < 2 ^ 64) ∨ (-(2 ^ 64) < j ∧ j < 2 ^ 64)
theorem CMul.ok {i j : Int} (h : CMul i j) : IntMulOk i j := by
  rcases h with ⟨h1, h2⟩ | ⟨h1, h2⟩
  · exact .of_left (intBits_le_64 h1 h2)
  · exact .of_right (intBits_le_64 h1 h2)
theorem op_add : OpR X (binaryOp .Add) (rI0 fun i j => .int (i + j)) := opI0 fun _ _ _ _ _ _ _ q => add_int q
theorem op_sub : OpR X (binaryOp .Sub) (rI0 fun i j => .int (i - j)) := opI0 fun _ _ _ _ _ _ _ q => sub_int q
theorem op_mul : OpR X (binaryOp .Mult) (rI CMul fun i j => .int (i * j)) := opI fun _ _ _ _ _ _ _ hc q => mul_int q hc.ok
/-- // by a positive divisor -/
theorem op_fdiv : OpR X (binaryOp .FloorDiv) (rI CDiv fun i j => .int (i / j)) := opI fun i j _ _ _ _ _ hc q => by
  have h1 : (0 : Int) < j := hc.1
  have h2 : j < 1073741824 := hc.2
  exact floordiv_int (by omega) (by rw [Int.fdiv_eq_ediv_of_nonneg i (by omega)]; exact q) (.inl (PyProof.noPylong_small (by omega)))
/-- % by a positive divisor of any size -/
theorem op_mod : OpR X (binaryOp .Mod) (rI (fun _ j => 0 < j) fun i j => .int (i % j)) := opI fun i j _ _ _ _ _ hc q => by
  have h1 : (0 : Int) < j := hc
  exact mod_int' (by omega) (by rw [Int.fmod_eq_emod_of_nonneg i (by omega)]; exact q)
theorem op_pow : OpR X (binaryOp .Pow) (rI CPow fun i j => .int (i ^ j.toNat)) := opI fun _ _ _ _ _ _ _ hc q => pow_int_small hc.1 hc.2.1 hc.2.2 q
theorem unI {f : Value → Sem Value} {g : Int → Int}
    (rule : ∀ (i : Int) (t : Tok) (s : Shared) (Q : Value → Shared → Prop) (E : Value → Shared → Prop), Q (.int (g i) s.toks) { s with toks := s.toks + 1 } → wpAny (model X.prog X.w) X.A (f (.int i t)) Q E s) :
    UnR X f (rU fun i => .int (g i)) := by
  intro pins s σ H x v Q I rx h
  obtain ⟨i, rfl, q⟩ := h
  obtain ⟨t, rfl⟩ := rx
  exact rule i t s _ _ ⟨.int (g i), H, I.tok _, ⟨_, rfl⟩, q⟩
theorem un_neg : UnR X (unaryOp .USub) (rU fun i => .int (-i)) := unI fun _ _ _ _ _ q => neg_int q
/-! ### bools among ints: n += (a < b) -/
end

/-! ### comparisons -/
/-- the scalars that == tells apart as data does -/
def scal : V → V → Bool
  | .non, .non => true | .non, .int _ => true | .int _, .non => true | .non, .bl _ => true | .bl _, .non => true | .non, .str _ => true | .str _, .non => true
  | .int _, .int _ => true | .bl _, .bl _ => true | .str _, .str _ => true | .byt _, .byt _ => true
  | .int _, .str _ => true | .str _, .int _ => true | .bl _, .str _ => true | .str _, .bl _ => true
  | _, _ => false
def rEq : R2 := fun x y H Q => scal x y = true ∧ Q (.bl (decide (x = y))) H
def rNe : R2 := fun x y H Q => scal x y = true ∧ Q (.bl (!decide (x = y))) H

theorem dec_int {i j : Int} : decide (V.int i = V.int j) = (i == j) := by
  rw [Bool.eq_iff_iff]
  simp
theorem dec_bl {i j : Bool} : decide (V.bl i = V.bl j) = (i == j) := by
  rw [Bool.eq_iff_iff]
  simp
theorem dec_str {i j : Str} : decide (V.str i = V.str j) = (i == j) := by
  rw [Bool.eq_iff_iff]
  simp
theorem dec_byt {i j : Array UInt8} : decide (V.byt i = V.byt j) = (i.toList == j.toList) := by
  rw [Bool.eq_iff_iff]
  cases i
  cases j
  simp

section
variable {X : Cx} {a b c : Expr} {ta tb tc : TE} {pos : Pos}
theorem fin_bl {pins : List (Addr × Obj)} {σ : St} {H : Hp} {s : Shared} {Q : VK} {k k' : Bool} (I : Inv X pins σ H s) (q : Q (.bl k) H) (e : k = k') : EP X pins σ Q (.bool k') s := by
  subst e
  exact ⟨.bl k, H, I, rfl, q⟩
theorem op_eq : OpR X (compareOp .Eq) rEq := by
  intro pins s σ H x y v u Q I rx ry h
  obtain ⟨hs, q⟩ := h
  cases x with
  | non =>
    cases rx
    cases y with
    | non => cases ry; exact PySem.EqNone.eq_none_none (fin_bl I q (by simp))
    | bl j => cases ry; exact PySem.EqNone.eq_none_bool (fin_bl I q (by simp))
    | int j => obtain ⟨t', rfl⟩ := ry; exact PySem.EqNone.eq_none_int (fin_bl I q (by simp))
    | str j => obtain ⟨t', rfl⟩ := ry; exact PySem.EqNone.eq_none_str (fin_bl I q (by simp))
    | _ => exact absurd (show false = true from hs) Bool.false_ne_true
  | bl i =>
    cases rx
    cases y with
    | non => cases ry; exact PySem.EqNone.eq_bool_none (fin_bl I q (by simp))
    | bl j => cases ry; exact eq_bool (fin_bl I q dec_bl)
    | str j => obtain ⟨t', rfl⟩ := ry; exact PySem.EqMixed.eq_bool_str (fin_bl I q (by simp))
    | _ => exact absurd (show false = true from hs) Bool.false_ne_true
  | int i =>
    obtain ⟨t, rfl⟩ := rx
    cases y with
    | non => cases ry; exact PySem.EqNone.eq_int_none (fin_bl I q (by simp))
    | int j => obtain ⟨t', rfl⟩ := ry; exact eq_int (fin_bl I q dec_int)
    | str j => obtain ⟨t', rfl⟩ := ry; exact PySem.EqMixed.eq_int_str (fin_bl I q (by simp))
    | _ => exact absurd (show false = true from hs) Bool.false_ne_true
  | str i =>
    obtain ⟨t, rfl⟩ := rx
    cases y with
    | non => cases ry; exact PySem.EqNone.eq_str_none (fin_bl I q (by simp))
    | bl j => cases ry; exact PySem.EqMixed.eq_str_bool (fin_bl I q (by simp))
    | int j => obtain ⟨t', rfl⟩ := ry; exact PySem.EqMixed.eq_str_int (fin_bl I q (by simp))
    | str j => obtain ⟨t', rfl⟩ := ry; exact eq_str (fin_bl I q dec_str)
    | _ => exact absurd (show false = true from hs) Bool.false_ne_true
  | byt i =>
    obtain ⟨t, rfl⟩ := rx
    cases y with
    | byt j => obtain ⟨t', rfl⟩ := ry; exact PySem.W.eq_bytes (fin_bl I q dec_byt)
    | _ => exact absurd (show false = true from hs) Bool.false_ne_true
  | _ => cases y <;> exact absurd (show false = true from hs) Bool.false_ne_true
theorem op_ne : OpR X (compareOp .NotEq) rNe := by
  intro pins s σ H x y v u Q I rx ry h
  obtain ⟨hs, q⟩ := h
  cases x with
  | non =>
    cases rx
    cases y with
    | non => cases ry; exact PySem.EqNone.ne_none_none (fin_bl I q (by simp))
    | bl j => cases ry; exact PySem.EqNone.ne_none_bool (fin_bl I q (by simp))
    | int j => obtain ⟨t', rfl⟩ := ry; exact PySem.EqNone.ne_none_int (fin_bl I q (by simp))
    | str j => obtain ⟨t', rfl⟩ := ry; exact PySem.EqNone.ne_none_str (fin_bl I q (by simp))
    | _ => exact absurd (show false = true from hs) Bool.false_ne_true
  | bl i =>
    cases rx
    cases y with
    | non => cases ry; exact PySem.EqNone.ne_bool_none (fin_bl I q (by simp))
    | bl j => cases ry; exact ne_bool (fin_bl I q (congrArg not dec_bl))
    | str j => obtain ⟨t', rfl⟩ := ry; exact PySem.EqMixed.ne_bool_str (fin_bl I q (by simp))
    | _ => exact absurd (show false = true from hs) Bool.false_ne_true
  | int i =>
    obtain ⟨t, rfl⟩ := rx
    cases y with
    | non => cases ry; exact PySem.EqNone.ne_int_none (fin_bl I q (by simp))
    | int j => obtain ⟨t', rfl⟩ := ry; exact ne_int (fin_bl I q (congrArg not dec_int))
    | str j => obtain ⟨t', rfl⟩ := ry; exact PySem.EqMixed.ne_int_str (fin_bl I q (by simp))
    | _ => exact absurd (show false = true from hs) Bool.false_ne_true
  | str i =>
    obtain ⟨t, rfl⟩ := rx
    cases y with
    | non => cases ry; exact PySem.EqNone.ne_str_none (fin_bl I q (by simp))
    | bl j => cases ry; exact PySem.EqMixed.ne_str_bool (fin_bl I q (by simp))
    | int j => obtain ⟨t', rfl⟩ := ry; exact PySem.EqMixed.ne_str_int (fin_bl I q (by simp))
    | str j => obtain ⟨t', rfl⟩ := ry; exact ne_str (fin_bl I q (congrArg not dec_str))
    | _ => exact absurd (show false = true from hs) Bool.false_ne_true
  | byt i =>
    obtain ⟨t, rfl⟩ := rx
    cases y with
    | byt j => obtain ⟨t', rfl⟩ := ry; exact PySem.W.ne_bytes (fin_bl I q (congrArg not dec_byt))
    | _ => exact absurd (show false = true from hs) Bool.false_ne_true
  | _ => cases y <;> exact absurd (show false = true from hs) Bool.false_ne_true

theorem op_lt : OpR X (compareOp .Lt) (rI0 fun i j => .bl (decide (i < j))) := opB0 fun _ _ _ _ _ _ _ q => lt_int q
theorem op_le : OpR X (compareOp .LtE) (rI0 fun i j => .bl (decide (i ≤ j))) := opB0 fun _ _ _ _ _ _ _ q => le_int q
theorem op_gt : OpR X (compareOp .Gt) (rI0 fun i j => .bl (decide (j < i))) := opB0 fun _ _ _ _ _ _ _ q => gt_int q
theorem op_ge : OpR X (compareOp .GtE) (rI0 fun i j => .bl (decide (j ≤ i))) := opB0 fun _ _ _ _ _ _ _ q => ge_int q
/-- is None, is not None: the right side a value none -/
theorem op_isN : OpR X (compareOp .Is) (fun x y H Q => y = .non ∧ Q (.bl (decide (x = .non))) H) := by
  intro pins s σ H x y v u Q I rx ry h
  obtain ⟨rfl, q⟩ := h
  cases ry
  refine is_none_gen (fin_bl I q ?_)
  cases x <;> first
    | (cases rx; rfl)
    | (obtain ⟨t, rfl⟩ := rx; rfl)
/-- is, is not of two objects that are tracked lists or instances -/
def isObj : HO → Bool
  | .lst _ => true
  | .ins _ _ _ => true
  | _ => false
theorem nomark (b : Expr) {op : CmpOp} (h : op ≠ .In := by decide) (h2 : op ≠ .NotIn := by decide) : behindInMarks op b = false := by
  have e1 : (op == CmpOp.In) = false := by cases op <;> first | rfl | exact absurd rfl h
  have e2 : (op == CmpOp.NotIn) = false := by cases op <;> first | rfl | exact absurd rfl h2
  cases b <;> simp [behindInMarks, e1, e2]
/-- a comparison as a value; hm: nomark b, or (for in, not in) by with_unfolding_all rfl -/
theorem pe_cmpR {op : CmpOp} {r : R2} (ho : OpR X (compareOp op) r) (ha : PE X a ta) (hb : PE X b tb) (hm : behindInMarks op b = false) : PE X (.Compare a [op] [b] pos) (tOp r ta tb) := by
  intro pins s σ H Q I h
  exact wpAny_Compare1 (binT ha hb I h fun v u s2 x y H2 I2 rx ry q => ho pins s2 σ H2 x y v u Q I2 rx ry q) hm
/-- a reading of a value as a test -/
def tTest (t : TE) : TT := fun σ H Q => t σ H fun x H' => ∃ k, x = .bl k ∧ Q k H'
theorem pt_cmpR {op : CmpOp} {r : R2} (ho : OpR X (compareOp op) r) (ha : PE X a ta) (hb : PE X b tb) (hm : behindInMarks op b = false) : PT X (.Compare a [op] [b] pos) (tTest (tOp r ta tb)) := by
  intro pins s σ H Q I h
  refine wpAny_isTrue_Compare1 (thn (ha pins s σ H _ I h) fun v s1 ⟨x, H1, I1, r1, q1⟩ => thn (hb pins s1 σ H1 _ I1 q1) fun u s2 ⟨y, H2, I2, r2, q2⟩ =>
    thn (ho pins s2 σ H2 x y v u _ I2 r1 r2 q2) fun c s3 ⟨z, H3, I3, r3, k, e, q3⟩ => ?_) hm
  subst e
  cases r3
  exact wpAny_truthy_bool ⟨H3, I3, q3⟩
/-- a op1 b op2 c -/
def tChain (r r' : R2) (ta tb tc : TE) : TE := fun σ H Q => ta σ H fun x H1 => tb σ H1 fun y H2 => r x y H2 fun z H3 => ∃ k, z = .bl k ∧
  (if k = true then tc σ H3 fun w' H4 => r' y w' H4 Q else Q (.bl false) H3)
theorem pe_chain {op op' : CmpOp} {r r' : R2} (ho : OpR X (compareOp op) r) (ho' : OpR X (compareOp op') r') (ha : PE X a ta) (hb : PE X b tb) (hc : PE X c tc)
    (hm : lastMarks [op, op'] [b, c] = false := by with_unfolding_all rfl) : PE X (.Compare a [op, op'] [b, c] pos) (tChain r r' ta tb tc) := by
  intro pins s σ H Q I h
  refine Compare_chain (thn (ha pins s σ H _ I h) fun v s1 ⟨x, H1, I1, r1, q1⟩ => chain_link (thn (hb pins s1 σ H1 _ I1 q1) fun u s2 ⟨y, H2, I2, r2, q2⟩ =>
    thn (ho pins s2 σ H2 x y v u _ I2 r1 r2 q2) fun d s3 ⟨z, H3, I3, r3, k, e, q3⟩ => ?_)) hm
  subst e
  cases r3
  refine wpAny_truthy_bool ?_
  cases k with
  | false => exact ite_ff ⟨.bl false, H3, I3, rfl, q3⟩
  | true => exact ite_tt (chain_last (thn (hc pins s3 σ H3 _ I3 q3) fun w' s4 ⟨z', H4, I4, r4, q4⟩ => ho' pins s4 σ H4 y z' u w' Q I4 r2 r4 q4))
theorem pt_chain {op op' : CmpOp} {r r' : R2} (ho : OpR X (compareOp op) r) (ho' : OpR X (compareOp op') r') (ha : PE X a ta) (hb : PE X b tb) (hc : PE X c tc)
    (hm : lastMarks [op, op'] [b, c] = false := by with_unfolding_all rfl) : PT X (.Compare a [op, op'] [b, c] pos) (tTest (tChain r r' ta tb tc)) := by
  intro pins s σ H Q I h
  refine isTrue_chain (thn (ha pins s σ H _ I h) fun v s1 ⟨x, H1, I1, r1, q1⟩ => test_link (thn (hb pins s1 σ H1 _ I1 q1) fun u s2 ⟨y, H2, I2, r2, q2⟩ =>
    thn (ho pins s2 σ H2 x y v u _ I2 r1 r2 q2) fun d s3 ⟨z, H3, I3, r3, k, e, q3⟩ => ?_)) hm
  subst e
  cases r3
  refine wpAny_truthy_bool ?_
  cases k with
  | false =>
    obtain ⟨k', e', q'⟩ := q3
    cases e'
    exact ite_ff ⟨H3, I3, q'⟩
  | true =>
    refine ite_tt (test_last (thn (hc pins s3 σ H3 _ I3 q3) fun w' s4 ⟨z', H4, I4, r4, q4⟩ => thn (ho' pins s4 σ H4 y z' u w' _ I4 r2 r4 q4) fun d' s5 ⟨z2, H5, I5, r5, k2, e2, q5⟩ => ?_))
    subst e2
    cases r5
    exact wpAny_truthy_bool ⟨H5, I5, q5⟩

/-! ### truth -/
/-- a value's truth by the abstract heap -/
def TruV (K : PySem.W.Frag) (x : V) (H : Hp) (k : Bool) : Prop :=
  match x with
  | .non => k = false
  | .bl b => k = b
  | .int i => k = (i != 0)
  | .str y => y.length ≤ sizeLine ∧ k = ((y.length : Int) != 0)
  | .byt y => y.size ≤ sizeLine ∧ k = ((y.size : Int) != 0)
  | .ref p => (∃ xs, SqL K H p xs ∧ k = !xs.isEmpty) ∨ (∃ xs, SqT K H p xs ∧ k = !xs.isEmpty) ∨ ∃ kvs, H p = some (.dK kvs) ∧ k = !kvs.isEmpty
  | _ => False
theorem line63 : (sizeLine : Nat) < 2 ^ 63 := by rw [sizeLine_eq]; decide
/-! ### strs and bytes -/
def PlainIxT (b : Expr) : Prop := ∀ o i, subscripted b false o i = operate [o, i] (getItem o i)
/-! ### scalar builtins, by CallR -/
theorem vals1 {x : V} {us : List Value} (r : Vals [x] us) : ∃ u, us = [u] ∧ RelV x u := by
  cases r with
  | cons r1 r2 => cases r2; exact ⟨_, rfl, r1⟩
theorem vals2 {x y : V} {us : List Value} (r : Vals [x, y] us) : ∃ u w', us = [u, w'] ∧ RelV x u ∧ RelV y w' := by
  cases r with
  | cons r1 r2 =>
    cases r2 with
    | cons r3 r4 => cases r4; exact ⟨_, _, rfl, r1, r3⟩
theorem call_max2 (hc : X.calm = true) : CallR X (.builtin "max") (fun xs H Q => ∃ i j, xs = [.int i, .int j] ∧ Q (.int (if j > i then j else i)) H) := by
  intro pins s σ H xs us Q I r h
  obtain ⟨i, j, rfl, q⟩ := h
  obtain ⟨u, w', rfl, ⟨t, rfl⟩, ⟨t', rfl⟩⟩ := vals2 r
  refine max_two_ints (I.ok.hd hc) fun h' tk k => ⟨_, H, I.kept k, ?_, q⟩
  by_cases hj : j > i
  · rw [if_pos hj, if_pos hj]; exact ⟨_, rfl⟩
  · rw [if_neg hj, if_neg hj]; exact ⟨_, rfl⟩
theorem call_min2 (hc : X.calm = true) : CallR X (.builtin "min") (fun xs H Q => ∃ i j, xs = [.int i, .int j] ∧ Q (.int (if j < i then j else i)) H) := by
  intro pins s σ H xs us Q I r h
  obtain ⟨i, j, rfl, q⟩ := h
  obtain ⟨u, w', rfl, ⟨t, rfl⟩, ⟨t', rfl⟩⟩ := vals2 r
  refine min_two_ints (I.ok.hd hc) fun h' tk k => ⟨_, H, I.kept k, ?_, q⟩
  by_cases hj : j < i
  · rw [if_pos hj, if_pos hj]; exact ⟨_, rfl⟩
  · rw [if_neg hj, if_neg hj]; exact ⟨_, rfl⟩
/-- len of a str, a bytes, a list, a tuple -/
def LenV (K : PySem.W.Frag) (x : V) (H : Hp) (n : Nat) : Prop :=
  match x with
  | .str y => y.length ≤ sizeLine ∧ n = y.length
  | .byt y => y.size ≤ sizeLine ∧ n = y.size
  | .ref p => (∃ xs, SqL K H p xs ∧ n = xs.length) ∨ ∃ xs, SqT K H p xs ∧ n = xs.length
  | _ => False
end
end L2

namespace L2
open PySem PySem.Spec PyProof.Rows

/-! ### an instance, its attributes a map -/
structure ObjM (h : Heap) (x dx C : Addr) (mA : Str → Option Value) : Prop where
  obj : h.get? x = some (PySem.W.instObj C dx)
  ns : h.Ns1 dx mA
  ne : dx ≠ x

section
variable {prog : Program} {w : World} {A : Around} {E : Value → Shared → Prop} {s : Shared} {K : PySem.W.Frag} {x dx C f : Addr} {mA : Str → Option Value} {name : Str} {v : Value}

end

/-! ### the attributes as a list of pairs -/
def putF (f : Str) (v : V) : List (Str × V) → List (Str × V)
  | [] => [(f, v)]
  | (g, x) :: r => if g = f then (g, v) :: r else (g, x) :: putF f v r
section
variable {P : Program} {w : World} {H H' : Hp} {h h' : Heap} {a C dx : Addr} {fs fs' : List (Str × V)}
end

/-! ### what of the text a class must have -/
structure Cls (K : PySem.W.Frag) (C : Addr) : Prop where
  pg : PySem.W.plainGet K C Str.empty = true
  hd : PySem.W.hasDictIn K C = true
  po : PySem.W.plainOver K C = true
  sa : PySem.W.findIn K (.ref C) "__setattr__" = some (some (.builtin "object.__setattr__"))
/-- no class of it has the name -/
def NoAttr (K : PySem.W.Frag) (C : Addr) (f : Str) : Prop := PySem.W.findIn K (.ref C) f = some none
/-- a constant of the class -/
structure Con (K : PySem.W.Frag) (C : Addr) (f : Str) (v : V) (u : Value) : Prop where
  at_ : PySem.W.findIn K (.ref C) f = some (some u)
  rel : RelV v u
  get : PySem.W.specialIn K u "__get__" = some none
  cp : PySem.W.copiedNames.contains f = false
/-- a method: a plain def of the class or of one above it -/
structure Meth (K : PySem.W.Frag) (C : Addr) (m : Str) (f : Addr) : Prop where
  at_ : PySem.W.findIn K (.ref C) m = some (some (.ref f))
  fn : PySem.W.isFn K (.ref f) = true
  kp : PySem.W.keepIn K (.ref f) = true

section
variable {X : Cx} {pins : List (Addr × Obj)} {σ : St} {H : Hp} {s : Shared} {a C dx : Addr} {fs : List (Str × V)} {f : Str} {v : V} {A : Around} {E : Value → Shared → Prop}

/-- e.f where nothing but the object is asked: through attributeBase (super) and the last hold -/
theorem attr_of {prog : Program} {w : World} {env : Env} {e : Expr} {f : Str} {pos : Pos} {s : Shared} {Q : Value → Shared → Prop} (hb : attributeBase e f env (eval e env) = eval e env)
    (h : wpAny (model prog w) A (eval e env) (fun o s₁ => wpAny (model prog w) A (getAttr o f true) Q E s₁) E s) : wpAny (model prog w) A (eval (.Attribute e f pos) env) Q E s :=
  Attribute_any_ h (by rw [arm_eval_Attribute, hb])
end

/-! ### readings and rules -/
/-- e.f, an attribute of the instance -/
def tFld (K : PySem.W.Frag) (ta : TE) (f : Str) : TE := fun σ H Q => ta σ H fun x H1 => ∃ a C dx fs v, x = .ref a ∧ H1 a = some (.ins C dx fs) ∧ Cls K C ∧ NoAttr K C f ∧ fs.lookup f = some v ∧ Q v H1
/-- e.f, a constant of the class -/
def tCon (K : PySem.W.Frag) (ta : TE) (f : Str) : TE := fun σ H Q => ta σ H fun x H1 => ∃ a C dx fs v u, x = .ref a ∧ H1 a = some (.ins C dx fs) ∧ Cls K C ∧ Con K C f v u ∧ fs.lookup f = none ∧ Q v H1
/-- e.f = value -/
def sFld (K : PySem.W.Frag) (ta tv : TE) (f : Str) : TS := fun D σ H => tv σ H fun y H1 => ta σ H1 fun x H2 => ∃ a C dx fs, x = .ref a ∧ H2 a = some (.ins C dx fs) ∧ Cls K C ∧ NoAttr K C f ∧ fs.length < 1000 ∧
  D.nx σ (upd H2 a (.ins C dx (putF f y fs)))
/-- an augmented operator on two values -/
def InOp (X : Cx) (op : Operator) (rd : V → V → Hp → VK → Prop) : Prop :=
  ∀ (pins : List (Addr × Obj)) (s : Shared) (σ : St) (H : Hp) (x y : V) (u v : Value) (Q : VK), Inv X pins σ H s → RelV x u → RelV y v → rd x y H Q → wpAny (model X.prog X.w) X.A (inplaceOp op u v) (EP X pins σ Q) X.xe s
/-- e.f op= value -/
def sFldAug (K : PySem.W.Frag) (ta tv : TE) (rd : V → V → Hp → VK → Prop) (f : Str) : TS := fun D σ H => ta σ H fun x H1 => ∃ a C dx fs v, x = .ref a ∧ H1 a = some (.ins C dx fs) ∧ Cls K C ∧ NoAttr K C f ∧ fs.lookup f = some v ∧
  tv σ H1 fun y H2 => rd v y H2 fun z H3 => ∃ dx' fs', H3 a = some (.ins C dx' fs') ∧ fs'.length < 1000 ∧ D.nx σ (upd H3 a (.ins C dx' (putF f z fs')))

section
variable {X : Cx} {o e value : Expr} {f : Str} {pos pos' tpos : Pos} {ta tv : TE}
def rAdd : V → V → Hp → VK → Prop := fun x y H Q => ∃ i j, x = .int i ∧ y = .int j ∧ Q (.int (i + j)) H
def rSub : V → V → Hp → VK → Prop := fun x y H Q => ∃ i j, x = .int i ∧ y = .int j ∧ Q (.int (i - j)) H
end

/-! ### isinstance -/
section
variable {X : Cx} {pins : List (Addr × Obj)} {σ : St} {H : Hp} {s : Shared} {A : Around} {E : Value → Shared → Prop} {Q : Value → Shared → Prop} {c : Value} {b : Bool}
/-- the type of a value, as the fragment's deciders take it; for an instance its class -/
inductive TyOf (K : PySem.W.Frag) (H : Hp) : V → Value → Prop where
  | non : TyOf K H .non (.type "NoneType")
  | bl (x : Bool) : TyOf K H (.bl x) (.type "bool")
  | int (i : Int) : TyOf K H (.int i) (.type "int")
  | str (x : Str) : TyOf K H (.str x) (.type "str")
  | flt (x : UInt64) : TyOf K H (.flt x) (.type "float")
  | lst {a : Addr} {xs : List V} (e : H a = some (.lst xs)) : TyOf K H (.ref a) (.type "list")
  | frz {a : Addr} {o : Obj} {xs : List V} (e : H a = some (.frz o (.lst xs))) : TyOf K H (.ref a) (.type "list")
  | tup {a : Addr} {xs : List V} (e : H a = some (.tup xs)) : TyOf K H (.ref a) (.type "tuple")
  | dK {a : Addr} {kvs : List (Key × V)} (e : H a = some (.dK kvs)) : TyOf K H (.ref a) (.type "dict")
  | dT {a : Addr} {kvs : List (List Key × V)} (e : H a = some (.dT kvs)) : TyOf K H (.ref a) (.type "dict")
  | ins {a C dx : Addr} {fs : List (Str × V)} (e : H a = some (.ins C dx fs)) (cl : Cls K C) (ha : PySem.W.findIn K (.ref C) "__class__" = some (some (.builtin "object.__class__")))
      (hn : PySem.W.specialIn K (.builtin "object.__class__") "__get__" = some (some (.builtin "getset_descriptor.__get__"))) (htk : PySem.W.takesIn K (.builtin "object.__class__") = some true)
      (hm : PySem.W.mroIn K C (.type "object") = some true) : TyOf K H (.ref a) (.ref C)
end
end L2

namespace L2
open PySem PySem.Spec PyProof.Rows

/-! ### room -/
structure Room (k : Nat) (A : Around) : Prop where
  hd : A.handled = none
  dp : A.depth + 3 * k + 5 < recursionLimit
  un : A.units + 16 * k + 200 < cLine
  gd : A.guards = some []
theorem Room.mono {j k : Nat} {A : Around} (r : Room k A) (h : j ≤ k) : Room j A := ⟨r.hd, by have := r.dp; omega, by have := r.un; omega, r.gd⟩
theorem Room.deeper {k : Nat} {A : Around} (r : Room (k + 1) A) (env : Env) : Room k (A.deeper env) :=
  ⟨r.hd, by have := r.dp; show A.depth + 1 + 3 * k + 5 < _; omega, by have := r.un; show A.units + 3 + 16 * k + 200 < _; omega, r.gd⟩
theorem make_depth {A : Around} {C : Addr} {us : List Value} {kw : List (Str × Value)} : (A.under (.builtin "type.__call__" ⟨.ref C :: us, kw⟩)).depth = A.depth + 1 := by
  first | rfl | simp [Around.under, Code.weight, Code.isCreation, Code.isGuard, Code.isCaller, Code.frames, Code.isFrame, guardIds]
theorem make_units {A : Around} {C : Addr} {us : List Value} {kw : List (Str × Value)} : (A.under (.builtin "type.__call__" ⟨.ref C :: us, kw⟩)).units = A.units + 1 := by
  first | rfl | simp [Around.under, Code.cUnits, Code.frames, Code.isFrame]
theorem make_guards {A : Around} {C : Addr} {us : List Value} {kw : List (Str × Value)} (h : A.guards = some []) : (A.under (.builtin "type.__call__" ⟨.ref C :: us, kw⟩)).guards = some [] := by
  first | exact h | (simpa [Around.under, Code.weight, Code.isCreation, Code.isGuard, Code.isCaller, Code.frames, Code.isFrame, guardIds] using h)
theorem Room.make {k : Nat} {A : Around} (r : Room (k + 1) A) (C : Addr) (us : List Value) (kw : List (Str × Value)) : Room k (A.under (.builtin "type.__call__" ⟨.ref C :: us, kw⟩)) :=
  ⟨r.hd, by have := r.dp; rw [make_depth]; omega, by have := r.un; rw [make_units]; omega, make_guards r.gd⟩
theorem Room.depth {k : Nat} {A : Around} (r : Room k A) : A.depth < recursionLimit := by have := r.dp; omega
theorem Room.units {k : Nat} {A : Around} (r : Room k A) : A.units + 64 < cLine := by have := r.un; omega
/-! ### argument lists and displays -/
def tNil : TA := fun _ H Q => Q [] H
def tCons (ta : TE) (tr : TA) : TA := fun σ H Q => ta σ H fun x H1 => tr σ H1 fun xs H2 => Q (x :: xs) H2
section
variable {X : Cx} {e : Expr} {es : List Expr} {te : TE} {t : TA} {pos : Pos}
theorem pa_nil : PA X [] tNil := fun _ _ _ _ H Q I h => Calls.spliced_nil ⟨[], H, I, .nil, h⟩
theorem pa_cons (ha : PE X e te) (hr : PA X es t) (hs : starEach (e :: es) X.env = (false, eval e X.env) :: starEach es X.env := by rfl) : PA X (e :: es) (tCons te t) := by
  intro pos pins s σ H Q I h
  rw [hs]
  show wpAny _ _ (spliced ((false, eval e X.env) :: backTo pos (starEach es X.env))) _ _ s
  refine Calls.spliced_cons (thn (ha pins s σ H _ I h) fun u s1 ⟨x, H1, I1, r1, q1⟩ => ?_)
  exact thn (hr pos pins s1 σ H1 _ I1 q1) fun us s2 ⟨xs, H2, I2, r2, q2⟩ => ⟨x :: xs, H2, I2, .cons r1 r2, q2⟩

/-- a tuple, a list of written items -/
def tTup (t : TA) : TE := fun σ H Q => t σ H fun xs H1 => xs.length ≤ sizeLine ∧ ∀ p, H1 p = none → Q (.ref p) (upd H1 p (.tup xs))
def tLst (t : TA) : TE := fun σ H Q => t σ H fun xs H1 => xs.length ≤ sizeLine ∧ ∀ p, H1 p = none → Q (.ref p) (upd H1 p (.lst xs))
theorem pe_tup {x1} (h : PA X es t) : PE X (.Tuple es x1 pos) (tTup t) := by
  intro pins s σ H Q I hq
  refine wpAny_Tuple_spliced (thn (h pos pins s σ H _ I hq) fun us s1 ⟨xs, H1, I1, r, z, q⟩ => ⟨by rw [← r.length]; exact z, ?_⟩)
  have hf : H1 s1.heap.objs.size = none := I1.hok.fresh (Nat.le_refl _)
  refine ⟨.ref s1.heap.objs.size, upd H1 s1.heap.objs.size (.tup xs), I1.laid (t' := s1.toks) (fun b u e => Heap.get?_push_of_some _ e) (Nat.le_refl _) ?_, rfl, q _ hf⟩
  exact ⟨z, us, r, ⟨_, Heap.get?_push_size _ rfl, rfl, _, rfl⟩⟩
theorem pe_lst (h : PA X es t) : PE X (.List es pos) (tLst t) := by
  intro pins s σ H Q I hq
  refine wpAny_List_spliced (thn (h pos pins s σ H _ I hq) fun us s1 ⟨xs, H1, I1, r, z, q⟩ => ⟨by rw [← r.length]; exact z, ?_⟩)
  have hf : H1 s1.heap.objs.size = none := I1.hok.fresh (Nat.le_refl _)
  refine ⟨.ref s1.heap.objs.size, upd H1 s1.heap.objs.size (.lst xs), I1.laid (t' := s1.toks) (fun b u e => Heap.get?_push_of_some _ e) (Nat.le_refl _) ?_, rfl, q _ hf⟩
  exact ⟨z, us, 0, r, Heap.get?_push_size _ rfl⟩
end

/-! ### what a def promises -/
/-- a def's promise: the bound arguments in the parameters' order, the heap, the wanted end, the wanted exception -/
abbrev Sp := List V → Hp → VK → XK → Prop
/-- how an exception lies behind a call (file 08 gives it): the callers' frames, abstract heap and state ahead of the call, the wish, the exception, the state -/
abbrev CXT := List Env → Hp → Shared → XK → Value → Shared → Prop

/-- the state at a call -/
structure Env0 (P : Program) (w : World) (K : PySem.W.Frag) (mg : Str → Option Value) (base : Heap) (A : Around) (outer : List Env) (s : Shared) (H : Hp) : Prop where
  frames : A.frames = some outer
  mod : Mod K mg base
  bs : ∀ b o, base.get? b = some o → s.heap.get? b = some o ∧ H b = none
  bsz : base.objs.size ≤ s.heap.objs.size
  funs : s.heap.FunFrames base outer
  frf : ∀ b ∈ frs outer, H b = none
  hok : HOk P w H s.heap
  bare : AllBare s.gens
/-- a call's end -/
def CE (outer : List Env) (P : Program) (w : World) (H : Hp) (s : Shared) (Q : VK) (u : Value) (s' : Shared) : Prop :=
  ∃ v H', s'.os = s.os ∧ AllBare s'.gens ∧ Un (frs outer) [] H H' s.heap s'.heap ∧ HOk P w H' s'.heap ∧ RelV v u ∧ Q v H'
def CR (CX : CXT) (outer : List Env) (P : Program) (w : World) (H : Hp) (s : Shared) (Q : VK) (E : XK) (r : Result) (s' : Shared) : Prop :=
  match r with
  | .ok (.ret u) => CE outer P w H s Q u s'
  | .ok _ => False
  | .error e => CX outer H s E e s'
structure FnOk (P : Program) (w : World) (K : PySem.W.Frag) (mg : Str → Option Value) (base : Heap) (CX : CXT) (k : Nat) (f : Addr) (fd : FuncData) (ps : List Str) (sp : Sp) : Prop where
  len : ∀ vs H Q E, sp vs H Q E → vs.length = ps.length
  run : ∀ (A : Around) (outer : List Env) (s : Shared) (H : Hp) (args : Args) (us : List Value) (vs : List V) (Q : VK) (E : XK), Room k A → Env0 P w K mg base A outer s H → BindsTo s fd args (ps.zip us) → Vals vs us → sp vs H Q E →
    codeAny (model P w) A (.call (.ref f) args) (CR CX outer P w H s Q E) s
section
variable {X : Cx} {pins : List (Addr × Obj)} {σ : St} {H : Hp} {s s' : Shared}
/-- from a body: what a callee wants -/
theorem Inv.env0 (I : Inv X pins σ H s) : Env0 X.prog X.w X.K X.mg X.base X.A X.stack s H :=
  ⟨I.ok.frames, I.ok.mod, I.bs, Nat.le_trans I.ok.bsz I.sz, I.stack, I.stkFree, I.hok, I.bare⟩
/-- behind a call -/
theorem Inv.after {Q : VK} {u : Value} (I : Inv X pins σ H s) (h : CE X.stack X.prog X.w H s Q u s') : EP X pins σ Q u s' := by
  obtain ⟨v, H', os, bare, un, hok, r, q⟩ := h
  obtain ⟨hh, g, d, t, os'⟩ := s'
  obtain rfl : os' = s.os := os
  exact ⟨v, H', I.call (h' := hh) (g' := g) (d' := d) (t' := t) (ch := []) un hok bare (fun b z => absurd z (by simp)), r, q⟩
end

/-! ### calls -/
/-- f(..): the written arguments, then the defaults dvs; E: what is wanted of an exception -/
def tCall (sp : Sp) (dvs : List V) (E : XK) (t : TA) : TE := fun σ H Q => t σ H fun vs H1 => sp (vs ++ dvs) H1 Q E
/-- o.m(..) of an instance of the class at C -/
def tMeth (C : Addr) (m : Str) (sp : Sp) (dvs : List V) (E : XK) (ta : TE) (t : TA) : TE := fun σ H Q => ta σ H fun x H1 => ∃ a dx fs, x = .ref a ∧ H1 a = some (.ins C dx fs) ∧ fs.lookup m = none ∧
  t σ H1 fun vs H2 => sp (x :: (vs ++ dvs)) H2 Q E
/-- C(..): a new instance and its dict, then __init__ -/
def tMake (C : Addr) (sp : Sp) (dvs : List V) (E : XK) (t : TA) : TE := fun σ H Q => t σ H fun vs H1 => ∀ x dx, H1 x = none → H1 dx = none → dx ≠ x →
  sp (.ref x :: (vs ++ dvs)) (upd (upd H1 dx (.own x)) x (.ins C dx [])) (fun v H2 => v = .non ∧ Q (.ref x) H2) E

/-- how the parameters are bound: us the positional arguments, kw the keywords' values by name, ds the defaults that fill up -/
def Binds (K : PySem.W.Frag) (fd : FuncData) (ps : List Str) (ds : List Value) : Prop :=
  ∀ (s : Shared) (us : List Value), K.In s.heap → (us ++ ds).length = ps.length → BindsTo s fd ⟨us, []⟩ (ps.zip (us ++ ds))
/-- every parameter is given -/
theorem Binds.all {K : PySem.W.Frag} {fd : FuncData} {ps : List Str} (h : ∀ us : List Value, us.length = ps.length → bindArgs fd ⟨us, []⟩ = pure (ps.zip us)) : Binds K fd ps [] := fun s us _ hl => by
  rw [List.append_nil] at hl ⊢
  exact .of_eq (h us hl)

/-- an exception of a callee reaches what this body wants of exceptions -/
def Passes (CX : CXT) (X : Cx) (E : XK) : Prop := ∀ (pins : List (Addr × Obj)) (σ : St) (H : Hp) (s : Shared) (e : Value) (s' : Shared), Inv X pins σ H s → CX X.stack H s E e s' → X.xe e s'

section
variable {X : Cx} {CX : CXT} {k : Nat} {f C : Addr} {fd : FuncData} {ps : List Str} {sp : Sp} {dvs : List V} {ds : List Value} {E : XK} {x m : Str} {p pos apos : Pos} {e o : Expr} {es : List Expr} {ta : TE} {t : TA}

/-- the callee runs -/
theorem run_fn {pins : List (Addr × Obj)} {σ : St} {H : Hp} {s : Shared} {Q : VK} {us : List Value} {vs : List V} (F : FnOk X.prog X.w X.K X.mg X.base CX k f fd ps sp) (hr : Room k X.A) (hb : Binds X.K fd ps ds) (hd : Vals dvs ds) (hx : Passes CX X E)
    (I : Inv X pins σ H s) (r : Vals vs us) (h : sp (vs ++ dvs) H Q E) : wpAny (model X.prog X.w) X.A (call (.ref f) us) (EP X pins σ Q) X.xe s := by
  have r2 : Vals (vs ++ dvs) (us ++ ds) := r.append hd
  have hl : (us ++ ds).length = ps.length := by rw [← r2.length]; exact F.len _ _ _ _ h
  refine wpAny_call (codeAny_mono (F.run X.A X.stack s H ⟨us, []⟩ (us ++ ds) (vs ++ dvs) Q E hr I.env0 (hb s us I.kIn hl) r2 h) fun r s' hq => ?_)
  cases r with
  | error e => exact hx pins σ H s e s' I hq
  | ok fl =>
    cases fl with
    | ret u => exact I.after hq
    | next => exact False.elim hq
    | brk => exact False.elim hq
    | cont => exact False.elim hq

theorem pe_call (F : FnOk X.prog X.w X.K X.mg X.base CX k f fd ps sp) (hr : Room k X.A) (hg : Gl X x) (hm : X.mg x = some (.ref f)) (hk : PySem.W.keepIn X.K (.ref f) = true) (hb : Binds X.K fd ps ds) (hd : Vals dvs ds) (hx : Passes CX X E)
    (ha : PA X (e :: es) t) (hdb : (x == ("__debug__" : Str)) = false := by decide) (he : starEach (e :: es) X.env = (false, eval e X.env) :: starEach es X.env := by rfl) (hpl : (backTo pos (starEach es X.env)).any (·.1) = false := by rfl) :
    PE X (.Call (.Name x p) (e :: es) [] pos) (tCall sp dvs E t) := by
  intro pins s σ H Q I h
  refine wpAny_Call_Name_kw (ld_glob I hg hm ?_ hdb)
  refine PySem.W.callWith_K (h₀ := X.base) I.ok.mod.kin hk (thn (ha pos pins s σ H _ I h) fun us s1 ⟨vs, H1, I1, r, q⟩ => ⟨I1.kIn, ?_⟩) he hpl
  exact run_fn F hr hb hd hx I1 r q
/-- what a class must have to be made -/
structure Mk (K : PySem.W.Frag) (C f : Addr) : Prop where
  makes : PySem.W.makesIn K C = true
  init : PySem.W.findIn K (.ref C) "__init__" = some (some (.ref f))
  fn : PySem.W.isFn K (.ref f) = true
  kp : PySem.W.keepIn K (.ref C) = true

end

/-! ### keywords -/
/-- the values of the keywords, from the left -/
def PK (X : Cx) (kws : List Keyword) (t : TA) : Prop :=
  ∀ (pos : Pos) (pins : List (Addr × Obj)) (s : Shared) (σ : St) (H : Hp) (Q : List V → Hp → Prop), Inv X pins σ H s → t σ H Q → wpAny (model X.prog X.w) X.A (evalAll ((backToKw pos (keywordEach kws X.env)).map (·.2))) (AP X pins σ Q) X.xe s
section
variable {X : Cx} {CX : CXT} {k : Nat} {f C : Addr} {fd : FuncData} {ps ks : List Str} {sp : Sp} {E : XK} {x m : Str} {p pos apos kpos : Pos} {e o : Expr} {es : List Expr} {kws : List Keyword} {te ta : TE} {t tk : TA} {nm : Option Str}
/-- how a call with keywords binds: g puts the positional values us and the keywords' values ws (names ks) in the parameters' order, defaults among them -/
structure KBinds (K : PySem.W.Frag) (fd : FuncData) (ps ks : List Str) (g : List Value → List Value → List Value) (gV : List V → List V → List V) : Prop where
  to : ∀ (s : Shared) (us ws : List Value), K.In s.heap → (g us ws).length = ps.length → BindsTo s fd ⟨us, ks.zip ws⟩ (ps.zip (g us ws))
  rel : ∀ {vs : List V} {us : List Value} {zs : List V} {ws : List Value}, Vals vs us → Vals zs ws → Vals (gV vs zs) (g us ws)
def tCallK (sp : Sp) (gV : List V → List V → List V) (E : XK) (t tk : TA) : TE := fun σ H Q => t σ H fun vs H1 => tk σ H1 fun zs H2 => sp (gV vs zs) H2 Q E
variable {g : List Value → List Value → List Value} {gV : List V → List V → List V}
end

/-! ### a def's body keeps its promise -/
/-- names: the parameters first -/
structure FnScope (N P : List Str) (sc : Scope) : Prop where
  kind : sc.kind = .function
  co : sc.isCoroutine = false
  gen : sc.isGenerator = false
  nd : N.Nodup
  pre : N.take P.length = P
  par : ∀ x ∈ P, sc.names.lookup x = some .local ∨ sc.names.lookup x = some .cell
  nofree : ∀ y ∈ sc.names, y.2 ≠ .free

theorem bindL_out {kindOf : Str → Option NameKind} {x : Str} : ∀ {binds : List (Str × Value)} {m : Str → Option Value}, (∀ v, (x, v) ∉ binds) → bindL kindOf binds m x = m x
  | [], _, _ => rfl
  | (n, v) :: r, m, h => by
    unfold bindL
    rw [bindL_out fun w hw => h w (List.mem_cons_of_mem _ hw)]
    split
    · have : x ≠ n := by rintro rfl; exact h v List.mem_cons_self
      simp [this]
    · rfl
theorem bindC_out {kindOf : Str → Option NameKind} {x : Str} : ∀ {binds : List (Str × Value)} {m : Str → Option Value}, (∀ v, (x, v) ∉ binds) → bindC kindOf binds m x = m x
  | [], _, _ => rfl
  | (n, v) :: r, m, h => by
    unfold bindC
    rw [bindC_out fun w hw => h w (List.mem_cons_of_mem _ hw)]
    split
    · rfl
    · have : x ≠ n := by rintro rfl; exact h v List.mem_cons_self
      simp [this]
theorem bindL_get {kindOf : Str → Option NameKind} {x : Str} {v : Value} : ∀ {P : List Str} {vs : List Value} {i : Nat} {m : Str → Option Value}, P.Nodup → P[i]? = some x → vs[i]? = some v → kindOf x = some .local →
    bindL kindOf (P.zip vs) m x = some v
  | [], _, _, _, _, h, _, _ => by simp at h
  | _ :: _, [], _, _, _, _, h, _ => by simp at h
  | p :: P, w :: vs, 0, m, nd, h1, h2, hk => by
    simp at h1 h2; subst h1; subst h2
    show bindL kindOf ((p, w) :: P.zip vs) m p = _
    unfold bindL
    rw [bindL_out fun v hv => (List.nodup_cons.mp nd).1 (List.of_mem_zip hv).1, if_pos hk]
    simp
  | p :: P, w :: vs, i + 1, m, nd, h1, h2, hk => by
    show bindL kindOf ((p, w) :: P.zip vs) m x = _
    unfold bindL
    exact bindL_get (i := i) (List.nodup_cons.mp nd).2 (by simpa using h1) (by simpa using h2) hk
theorem bindC_get {kindOf : Str → Option NameKind} {x : Str} {v : Value} : ∀ {P : List Str} {vs : List Value} {i : Nat} {m : Str → Option Value}, P.Nodup → P[i]? = some x → vs[i]? = some v → kindOf x ≠ some .local →
    bindC kindOf (P.zip vs) m x = some v
  | [], _, _, _, _, h, _, _ => by simp at h
  | _ :: _, [], _, _, _, _, h, _ => by simp at h
  | p :: P, w :: vs, 0, m, nd, h1, h2, hk => by
    simp at h1 h2; subst h1; subst h2
    show bindC kindOf ((p, w) :: P.zip vs) m p = _
    unfold bindC
    rw [bindC_out fun v hv => (List.nodup_cons.mp nd).1 (List.of_mem_zip hv).1, if_neg hk]
    simp
  | p :: P, w :: vs, i + 1, m, nd, h1, h2, hk => by
    show bindC kindOf ((p, w) :: P.zip vs) m x = _
    unfold bindC
    exact bindC_get (i := i) (List.nodup_cons.mp nd).2 (by simpa using h1) (by simpa using h2) hk

/-- the names' values at the entry -/
def start (N : List Str) (vs : List V) : St := vs.map some ++ List.replicate (N.length - vs.length) none

/-- the context of a def's body, at its entry; an exception leaves the frame, then lies as CX says -/
def cxOf (CX : CXT) (P : Program) (w : World) (K : PySem.W.Frag) (mg : Str → Option Value) (base : Heap) (N : List Str) (qual : Str) (scope : Scope) (f : Addr) (cd : Value) (A : Around) (outer : List Env) (s : Shared) (H : Hp) (E : XK) : Cx where
  prog := P
  w := w
  K := K
  mg := mg
  base := base
  A := A.deeper (envOfC qual scope s.heap.objs.size f cd)
  N := N
  s₀ := s
  H₀ := H
  env := envOfC qual scope s.heap.objs.size f cd
  outer := outer
  stack := envOfC qual scope s.heap.objs.size f cd :: outer
  ex := []
  calm := true
  fn := fun _ => true
  pn := []
  xe := fun e s' => wpAny (model P w) (A.deeper (envOfC qual scope s.heap.objs.size f cd)) (leaving (envOfC qual scope s.heap.objs.size f cd) e) (fun _ s'' => CX outer H s E e s'') (fun e' s'' => CX outer H s E e' s'') s'

theorem cell_has {sc : Scope} {n : Nat} {x : Str} (h : sc.names.lookup x = some .cell) : ∃ c, (cellsFrom n sc.names []).lookup x = some c := by
  have q := PySem.W.cellsFrom_some sc.names n [] (.inl h)
  exact Option.isSome_iff_exists.mp q

theorem inv_start {CX : CXT} {P : Program} {w : World} {K : PySem.W.Frag} {mg : Str → Option Value} {base : Heap} {N ps : List Str} {qual : Str} {scope : Scope} {f : Addr} {cd : Value} {A : Around} {outer : List Env} {s s1 : Shared} {H : Hp} {E : XK} {us : List Value} {vs : List V}
    (S : FnScope N ps scope) (hd : A.handled = none) (e0 : Env0 P w K mg base A outer s H) (hl : vs.length = ps.length) (r : Vals vs us)
    (x : InCallC s s.heap.objs.size (bindL (envOfC qual scope s.heap.objs.size f cd).kindOf (ps.zip us) fun _ => none) (cellsFrom (s.heap.objs.size + 1) scope.names []) (bindC (envOfC qual scope s.heap.objs.size f cd).kindOf (ps.zip us) fun _ => none) s1) :
    Inv (cxOf CX P w K mg base N qual scope f cd A outer s H E) [] (start N vs) H s1 := by
  have hpl : ps.length ≤ N.length := by have := congrArg List.length S.pre; rw [List.length_take] at this; omega
  obtain ⟨h1, tk, rfl, hk⟩ := x.done
  have noA : ∀ b : Addr, b ∉ (cxOf CX P w K mg base N qual scope f cd A outer s H E).ex := fun b z => absurd (show b ∈ ([] : List Addr) from z) (by simp)
  refine ⟨⟨e0.mod, S.kind, rfl, rfl, Nat.le_refl _, fun y z c h1 h2 => ?_, fun y hy => ?_, fun y c _ h => ?_, fun _ => hd, Around.frames_deeper e0.frames, .inr ⟨rfl, rfl⟩, fun b z => absurd z (noA b), e0.bs, e0.bsz, fun b _ _ => noA b, fun b z => absurd z (noA b), e0.funs, e0.frf⟩,
    rfl, e0.bare, Un.kept hk, ⟨_, x.toInCall.ns, fun i y v h1 h2 h3 => ?_⟩, fun y c h => ⟨_, x.cell y c h⟩, e0.hok.fresh (Nat.le_refl _), fun y c h => ?_, fun p hp => absurd (show p ∈ ([] : List (Addr × Obj)) from hp) (by simp), e0.hok.kept hk, ?_⟩
  · exact name_of_addr x.apart (PySem.mem_of_lookup h1) (PySem.mem_of_lookup h2)
  · have hy : scope.names.lookup y = some .cell ∨ scope.names.lookup y = some .free := hy
    rcases hy with hy | hy
    · exact cell_has hy
    · exact absurd rfl (S.nofree _ (PySem.mem_of_lookup hy))
  · exact Nat.le_of_lt (x.above y c (PySem.mem_of_lookup h))
  · have hi : i < vs.length := by
      unfold start at h2
      by_cases hi : i < vs.length
      · exact hi
      · rw [List.getElem?_append_right (by simpa using hi)] at h2
        rw [List.getElem?_replicate] at h2
        split at h2 <;> cases h2
    have ha : vs[i]? = some v := by
      unfold start at h2
      rw [List.getElem?_append_left (by simpa using hi), List.getElem?_map] at h2
      cases e : vs[i]? with
      | none => rw [e] at h2; cases h2
      | some a => rw [e] at h2; cases h2; rfl
    obtain ⟨u, hu, rv⟩ := r.get ha
    have hp : ps[i]? = some y := by
      rw [← S.pre, List.getElem?_take_of_lt (by omega)]; exact h1
    have ndP : ps.Nodup := by rw [← S.pre]; exact S.nd.sublist (List.take_sublist _ _)
    refine ⟨u, rv, ?_⟩
    rcases S.par y (List.mem_of_getElem? hp) with k | k
    · exact .inl ⟨k, bindL_get ndP hp hu k⟩
    · obtain ⟨c, e⟩ := cell_has (n := s.heap.objs.size + 1) k
      refine .inr ⟨.inl k, c, e, ?_⟩
      have q := x.cell y c e
      rw [bindC_get ndP hp hu (by show scope.names.lookup y ≠ _; rw [k]; decide)] at q
      exact q
  · exact e0.hok.fresh (Nat.le_of_lt (x.above y c (PySem.mem_of_lookup h)))
  · unfold start
    show _ = N.length
    rw [List.length_append, List.length_map, List.length_replicate]
    omega

/-- THE RULE: a def (or a method) of the text, by its body. The body's reading t is chosen for each entry; it is run at the parameters' values -/
theorem fn_of {CX : CXT} {P : Program} {w : World} {K : PySem.W.Frag} {mg : Str → Option Value} {base : Heap} {k : Nat} {f : Addr} {name qual : Str} {params : Arguments} {body : List Stmt} {scope : Scope} {dV kV doc pm cdv ct oc : Value} {an od : Option Addr}
    {osl : Array (Option Value)} {N ps : List Str} {sp : Sp} (lk : K.lookup f = some ⟨oc, od, .func (PySem.W.fnOf name qual params body scope dV kV doc pm an cdv ct), osl⟩) (hcd : PySem.W.codeIn K cdv qual = true) (S : FnScope N ps scope)
    (len : ∀ vs H Q E, sp vs H Q E → vs.length = ps.length)
    (hbody : ∀ (A : Around) (outer : List Env) (s : Shared) (H : Hp) (vs : List V) (Q : VK) (E : XK), Room k (A.deeper (envOfC qual scope s.heap.objs.size f cdv)) → sp vs H Q E →
      ∃ t, PSs (cxOf CX P w K mg base N qual scope f cdv A outer s H E) body t ∧ t { nx := fun _ H' => Q .non H', rt := Q } (start N vs) H) :
    FnOk P w K mg base CX (k + 1) f (PySem.W.fnOf name qual params body scope dV kV doc pm an cdv ct) ps sp := by
  refine ⟨len, fun A outer s H args us vs Q E hr e0 hb r hsp => ?_⟩
  have hl := len _ _ _ _ hsp
  have KX : K.In s.heap := e0.mod.kin.keeps fun b o e => (e0.bs b o e).1
  have lim : s.heap.NoLimit := e0.mod.nolimit.keeps fun b o e => (e0.bs b o e).1
  have hkind : ∀ y ∈ ps.zip us, scope.names.lookup y.1 = some .local ∨ (scope.names.lookup y.1 = some .cell ∧ ((cellsFrom (s.heap.objs.size + 1) scope.names []).lookup y.1).isSome = true) := fun ⟨n, v⟩ hy => by
    rcases S.par n (List.of_mem_zip hy).1 with q | q
    · exact .inl q
    · exact .inr ⟨q, PySem.W.cellsFrom_some _ _ _ (.inl q)⟩
  refine codeAny_call_function hr.depth (KX _ _ lk) rfl S.co S.gen rfl (PySem.W.codeRec_of KX hcd) (hb _ _ _ _ ?_)
  refine wpAny_newFunctionEnv_cells S.kind hkind fun env he s1 x => ?_
  subst he
  refine ⟨lim.keeps x.toInCall.keep, codeAny_func ?_⟩
  obtain ⟨t, ht, hq⟩ := hbody A outer s H vs Q E (hr.deeper _) hsp
  have I : Inv (cxOf CX P w K mg base N qual scope f cdv A outer s H E) [] (start N vs) H s1 := inv_start S hr.hd e0 hl r x
  refine wpAny_mono (ht [] s1 (start N vs) H _ I hq) (fun fl s' hs => ?_) fun e s' hs => hs
  have fin : ∀ {σ' : St} {H' : Hp} {v : V} {u : Value}, Inv (cxOf CX P w K mg base N qual scope f cdv A outer s H E) [] σ' H' s' → RelV v u → Q v H' → CE outer P w H s Q u s' :=
    fun {σ' H' v u} J rv q => ⟨v, H', J.os, J.bare, J.base, J.hok, rv, q⟩
  cases fl with
  | ret u =>
    obtain ⟨v, σ', H', J, rv, q⟩ := hs
    exact fin J rv q
  | next =>
    obtain ⟨σ', H', J, q⟩ := hs
    exact fin (v := V.non) (u := Value.none) J rfl q
  | brk =>
    obtain ⟨_, _, _, q⟩ := hs
    exact False.elim q
  | cont =>
    obtain ⟨_, _, _, q⟩ := hs
    exact False.elim q
end L2

namespace L2
open PySem PySem.Spec PyProof.Rows
section
variable {X : Cx} {x : Str} {p pos : Pos} {e : Expr} {es : List Expr} {t : TA} {id T : String} {r : List V → Hp → VK → Prop}

def tCB (r : List V → Hp → VK → Prop) (t : TA) : TE := fun σ H Q => t σ H fun vs H1 => r vs H1 Q
/-- f(e, ..), f a built-in function -/
theorem pe_callB (hc : CallR X (.builtin id) r) (hg : Gl X x) (hm : X.mg x = none) (hv : bootBuiltins x = some (.builtin id)) (ha : PA X (e :: es) t) (hn : x ≠ "__name__" := by decide) (hdb : (x == ("__debug__" : Str)) = false := by decide)
    (he : starEach (e :: es) X.env = (false, eval e X.env) :: starEach es X.env := by rfl) (hpl : (backTo pos (starEach es X.env)).any (·.1) = false := by rfl) : PE X (.Call (.Name x p) (e :: es) [] pos) (tCB r t) := by
  intro pins s σ H Q I h
  refine wpAny_Call_Name_kw (ld_blt I hg hm hv ?_ hn hdb)
  exact PyProof.Rows.callWith_builtin1 (thn (ha pos pins s σ H _ I h) fun us s1 ⟨vs, H1, I1, r1, q1⟩ => hc pins s1 σ H1 vs us Q I1 r1 q1) he hpl
/-- T(e, ..), T a built-in type -/
theorem pe_callTy (hc : CallR X (.type T) r) (hg : Gl X x) (hm : X.mg x = none) (hv : bootBuiltins x = some (.type T)) (ha : PA X (e :: es) t) (hn : x ≠ "__name__" := by decide) (hdb : (x == ("__debug__" : Str)) = false := by decide)
    (he : starEach (e :: es) X.env = (false, eval e X.env) :: starEach es X.env := by rfl) (hpl : (backTo pos (starEach es X.env)).any (·.1) = false := by rfl) : PE X (.Call (.Name x p) (e :: es) [] pos) (tCB r t) := by
  intro pins s σ H Q I h
  refine wpAny_Call_Name_kw (ld_blt I hg hm hv ?_ hn hdb)
  exact PyProof.Rows.callWith_type1 (thn (ha pos pins s σ H _ I h) fun us s1 ⟨vs, H1, I1, r1, q1⟩ => hc pins s1 σ H1 vs us Q I1 r1 q1) he hpl
end
end L2

namespace HT
open PySem PyProof.Rows

/-- t < u of tuples of ints -/
def lexLt : List Int → List Int → Bool
  | [], [] => false
  | [], _ :: _ => true
  | _ :: _, [] => false
  | x :: xs, y :: ys => if x = y then lexLt xs ys else decide (x < y)
section
open PySem.SeqAt
open PySem.AutoSeq1 (wpAny_loadPart')
open PySem.MeetsSeq PySem.MeetsSeq2 PySem.MeetsSeq3

end

section
variable {prog : Program} {w : World} {A : Around} {E : Value → Shared → Prop} {s : Shared}

/-- t + u, t not empty -/
theorem cat_tup {t b : Addr} {vs ws : List Value} {Q : Value → Shared → Prop} (ht : IsTup s.heap t vs.toArray) (hb : IsTup s.heap b ws.toArray) (hv : vs ≠ [])
    (h1 : ws = [] → Q (.ref t) s) (h2 : ws ≠ [] → Q (.ref s.heap.objs.size) { s with heap := s.heap.push { cls := .type "tuple", data := .seq (vs ++ ws).toArray } })
    (hsz : vs.length + ws.length ≤ sizeLine) : wpAny (model prog w) A (binaryOp .Add (.ref t) (.ref b)) Q E s := by
  obtain ⟨⟨cls, dd, data, sl⟩, ho, hc, n, hd⟩ := id ht
  obtain ⟨⟨cls2, dd2, data2, sl2⟩, ho2, hc2, n2, hd2⟩ := id hb
  simp only at hc hd hc2 hd2
  subst hc hd hc2 hd2
  have e : vs.toArray ++ ws.toArray = (vs ++ ws).toArray := by simp
  by_cases hw : ws = []
  · exact concat_meets ⟨_, ho, rfl⟩ ⟨_, ho2, rfl⟩ noFill_tuple_add seq_tuple_add PySem.F.slot_tuple_add PySem.F.entry_tuple_add (PySem.F.args_tuple_add_2 _ _)
      (tuple_addW1 t b vs.toArray ws.toArray n n2 dd dd2 sl sl2 (by simpa using hv) (by simp [hw])) ⟨ho, ho2, h1 hw⟩
  · refine concat_meets ⟨_, ho, rfl⟩ ⟨_, ho2, rfl⟩ noFill_tuple_add seq_tuple_add PySem.F.slot_tuple_add PySem.F.entry_tuple_add (PySem.F.args_tuple_add_2 _ _)
      (tuple_addW2 t b vs.toArray ws.toArray n n2 dd dd2 sl sl2 (by simpa using hv) (by simpa using hw) (by rw [List.size_toArray, List.size_toArray]; exact hsz)) ⟨ho, ho2, ?_⟩
    rw [e]
    exact h2 hw

/-! ### t[a:b], not the whole -/
/-- a slice's bound as a place among n (d where it is left out) -/
def sIx (n d : Nat) : Option Int → Nat
  | none => d
  | some v => if v < 0 then (v + (n : Int)).toNat else min v.toNat n
theorem sIx_none (n d : Nat) : sIx n d none = d := rfl
theorem sIx_nat (n d k : Nat) : sIx n d (some (k : Int)) = min k n := by
  show (if (k : Int) < 0 then ((k : Int) + (n : Int)).toNat else min (k : Int).toNat n) = min k n
  rw [if_neg (by omega), Int.toNat_natCast]
theorem sIx_le (n d : Nat) (hd : d ≤ n) (o : Option Int) : sIx n d o ≤ n := by
  cases o with
  | none => exact hd
  | some v =>
    show (if v < 0 then (v + (n : Int)).toNat else min v.toNat n) ≤ n
    by_cases hv : v < 0
    · rw [if_pos hv]; omega
    · rw [if_neg hv]; exact Nat.min_le_right _ _
theorem clip_eq (v : Int) (n d : Nat) : (if v < 0 then max (v + (n : Int)) 0 else min v (n : Int)) = ((sIx n d (some v) : Nat) : Int) := by
  show (if v < 0 then max (v + (n : Int)) 0 else min v (n : Int)) = (((if v < 0 then (v + (n : Int)).toNat else min v.toNat n) : Nat) : Int)
  by_cases hv : v < 0
  · simp only [if_pos hv]; omega
  · simp only [if_neg hv]; omega
theorem adjust_gen (lo hi : Option Int) (n : Nat) : Builtin.Slice.sliceAdjust lo hi 1 (n : Int) = (((sIx n 0 lo : Nat) : Int), ((sIx n n hi : Nat) : Int)) := by
  have h1 : ¬ ((1 : Int) < 0) := by omega
  unfold Builtin.Slice.sliceAdjust
  simp only [h1, if_false]
  refine Prod.ext ?_ ?_
  · cases lo with
    | none => rfl
    | some v => exact clip_eq v n 0
  · cases hi with
    | none => rfl
    | some v => exact clip_eq v n n
theorem places_gen (i j : Nat) : Builtin.Slice.slicePlaces (i : Int) (j : Int) 1 = j - i := by
  unfold Builtin.Slice.slicePlaces
  have h1 : (1 : Int) > 0 := by omega
  simp only [h1, if_true, Int.ediv_one]
  split <;> omega
theorem slicePart_ {v : Value} {o : Option Int} {Q : Option Int → Shared → Prop} (p : IsPart v o) (h : Q o s) : wpAny (model prog w) A (Builtin.Slice.slicePartIndex v) Q E s := by
  cases p with
  | none => exact slicePart_none h
  | int i t => exact slicePart_int h
theorem sliceApplied_gen {sl : Addr} {vl vu : Value} {lo hi : Option Int} {n : Nat} {Q : Int × Int × Nat → Shared → Prop} (hs : s.heap.IsSliceOf sl vl vu .none) (pl : IsPart vl lo) (pu : IsPart vu hi)
    (h : Q (((sIx n 0 lo : Nat) : Int), 1, sIx n n hi - sIx n 0 lo) s) : wpAny (model prog w) A (Builtin.Slice.sliceApplied (.ref sl) (pure (n : Int))) Q E s := by
  obtain ⟨os, hos, hcs, hds⟩ := id hs
  unfold Builtin.Slice.sliceApplied Builtin.Slice.sliceFields
  refine wpAny_bind (wpAny_bind (wpAny_field hos hds (x := vl) rfl (wpAny_bind (wpAny_field hos hds (x := vu) rfl (wpAny_bind (wpAny_field hos hds (x := .none) rfl (wpAny_pure ?_)))))))
  refine wpAny_bind (slicePart_none ?_)
  show wpAny _ _ (if ((1 : Int) == 0) = true then _ else _) _ _ s
  rw [if_neg (by decide)]
  refine wpAny_bind (slicePart_ pl (wpAny_bind (slicePart_ pu (wpAny_bind (wpAny_pure ?_)))))
  show wpAny _ _ (match Builtin.Slice.sliceAdjust lo hi 1 (n : Int) with | (lo, hi) => pure (lo, (1 : Int), Builtin.Slice.slicePlaces lo hi 1)) _ _ s
  rw [adjust_gen lo hi n]
  show wpAny _ _ (pure (((sIx n 0 lo : Nat) : Int), (1 : Int), Builtin.Slice.slicePlaces ((sIx n 0 lo : Nat) : Int) ((sIx n n hi : Nat) : Int) 1)) _ _ s
  rw [places_gen]
  exact wpAny_pure h
theorem pick_gen (xs : Array Value) (i k : Nat) : ((List.range k).filterMap fun (m : Nat) => xs[((i : Int) + (m : Int) * 1).toNat]?).toArray = ((xs.toList.drop i).take k).toArray := by
  have e : (fun (m : Nat) => xs[((i : Int) + (m : Int) * 1).toNat]?) = fun m => xs[i + m]? := by
    funext m
    have : ((i : Int) + (m : Int) * 1).toNat = i + m := by omega
    rw [this]
  rw [e]
  have := pick_run xs i k
  rw [List.filterMap_map] at this
  have e2 : ((fun x => xs[x]?) ∘ fun x => i + x) = fun m => xs[i + m]? := rfl
  rw [e2] at this
  rw [this]

theorem getItem_tuple_cut {t sl : Addr} {items : Array Value} {vl vu : Value} {lo hi : Option Int} {Q : Value → Shared → Prop} (ht : IsTup s.heap t items) (hs : s.heap.IsSliceOf sl vl vu .none) (pl : IsPart vl lo) (pu : IsPart vu hi)
    (hw : ¬ (sIx items.size 0 lo = 0 ∧ sIx items.size items.size hi = items.size))
    (h : Q (.ref s.heap.objs.size) { s with heap := s.heap.push { cls := .type "tuple", data := .seq ((items.toList.drop (sIx items.size 0 lo)).take (sIx items.size items.size hi - sIx items.size 0 lo)).toArray } })
    (hsz : items.size ≤ sizeLine) : wpAny (model prog w) A (getItem (.ref t) (.ref sl)) Q E s := by
  have htake : sizeOk (.seq ((items.toList.drop (sIx items.size 0 lo)).take (sIx items.size items.size hi - sIx items.size 0 lo)).toArray) := by
    show ((items.toList.drop (sIx items.size 0 lo)).take (sIx items.size items.size hi - sIx items.size 0 lo)).toArray.size ≤ sizeLine
    rw [List.size_toArray, List.length_take, List.length_drop, Array.length_toList]
    omega
  have hj : sIx items.size items.size hi ≤ items.size := sIx_le _ _ (Nat.le_refl _) hi
  obtain ⟨os, hos, hcs, hds⟩ := id hs
  have hTs : s.TypeIs (.ref sl) "slice" := ⟨os, hos, hcs⟩
  unfold getItem
  try with_reducible refine wpAny_holding ?_
  first | refine wpAny_bind (wpAny_pure ?_) | skip
  refine wpAny_bind (wpAny_sequenceKey ht.typeIs (by decide) ?_)
  refine wpAny_bind (wpAny_callSpecial?_slot (name := Str.ofString "__getitem__") ht.typeIs PyProof.Rows.slot_tuple_getitem
    (wpAny_call_entry PyProof.Rows.slot_tuple_getitem ht.typeIs entry_tuple_getitem ?_ (args_tuple_getitem _ _)))
  show wpAny _ _ (Builtin.Tuple.tupleItemsOf (.ref t) >>= _) _ _ s
  refine wpAny_bind (tupleItemsOf_ ht ?_)
  refine wpAny_bind (wpAny_typeOf hTs ?_)
  rw [if_pos (by decide)]
  refine wpAny_bind (sliceApplied_gen hs pl pu ?_)
  have hno : ¬ ((((sIx items.size 0 lo : Nat) : Int) == 0 && (1 : Int) == 1 && (sIx items.size items.size hi - sIx items.size 0 lo) == items.size) = true) := by
    intro q
    rw [Bool.and_eq_true, Bool.and_eq_true] at q
    have q1 : ((sIx items.size 0 lo : Nat) : Int) = 0 := eq_of_beq q.1.1
    have q2 : sIx items.size items.size hi - sIx items.size 0 lo = items.size := eq_of_beq q.2
    exact hw ⟨by omega, by omega⟩
  show wpAny _ _ (if (((sIx items.size 0 lo : Nat) : Int) == 0 && (1 : Int) == 1 && (sIx items.size items.size hi - sIx items.size 0 lo) == items.size) = true then _ else _) _ _ s
  rw [if_neg hno, pick_gen]
  first
    | exact wpAny_bind (m := Builtin.Tuple.tupleExact _) (wpAny_newObj_type (wpAny_pure ⟨_, rfl, wpAny_pure h⟩) htake)
    | exact wpAny_bind (m := Builtin.Tuple.tupleExact _) (wpAny_newObj_type (wpAny_bind (wpAny_pure (wpAny_pure ⟨_, rfl, wpAny_pure h⟩))) htake)
    | exact wpAny_bind (wpAny_bind (m := Builtin.Tuple.tupleExact _) (wpAny_newObj_type (wpAny_pure (wpAny_pure ⟨_, rfl, wpAny_pure h⟩)) htake))
    | exact wpAny_bind (wpAny_bind (m := Builtin.Tuple.tupleExact _) (wpAny_newObj_type (wpAny_pure ⟨_, rfl, wpAny_pure h⟩) htake))
end
end HT

namespace L2
open PySem PySem.Spec PyProof.Rows

/-! ### the parts of a slice -/
abbrev TO := St → Hp → (Option Int → Hp → Prop) → Prop
/-- a slice's part (left out, or an int) -/
def PO (X : Cx) (e : Option Expr) (t : TO) : Prop :=
  ∀ (pins : List (Addr × Obj)) (s : Shared) (σ : St) (H : Hp) (Q : Option Int → Hp → Prop), Inv X pins σ H s → t σ H Q →
    wpAny (model X.prog X.w) X.A (evalPart e X.env) (fun u s' => ∃ o H', Inv X pins σ H' s' ∧ IsPart u o ∧ Q o H') X.xe s
def tNoPart : TO := fun _ H Q => Q none H
def tPart (t : TE) : TO := fun σ H Q => t σ H fun x H1 => ∃ i, x = .int i ∧ Q (some i) H1

section
variable {X : Cx} {e : Expr} {te : TE} {lo hi : Option Expr} {tl th : TO} {pos p2 : Pos}

theorem po_none : PO X none tNoPart := by
  intro pins s σ H Q I h
  rw [evalPart_none]
  exact wpAny_pure ⟨none, H, I, .none, h⟩
theorem po_some (h : PE X e te) : PO X (some e) (tPart te) := by
  intro pins s σ H Q I hw
  rw [evalPart_some]
  refine thn (h pins s σ H _ I hw) fun u s1 ⟨x, H1, I1, r1, q1⟩ => ?_
  obtain ⟨i, rfl, q⟩ := q1
  obtain ⟨t, rfl⟩ := r1
  exact ⟨some i, H1, I1, .int i t, q⟩

/-- what a slice of a value is, by values: the slice object stands at sl -/
def SlR (X : Cx) (r : V → Option Int → Option Int → Hp → VK → Prop) : Prop :=
  ∀ (pins : List (Addr × Obj)) (s : Shared) (σ : St) (H : Hp) (x : V) (v vl vu : Value) (lo hi : Option Int) (sl : Addr) (Q : VK), Inv X pins σ H s → RelV x v → s.heap.IsSliceOf sl vl vu .none → IsPart vl lo → IsPart vu hi → r x lo hi H Q →
    ∃ T id, typeLookup (.type T) "__getitem__" = pure (some (.builtin id)) ∧ s.TypeIs v T ∧ wpAny (model X.prog X.w) X.A (getItem v (.ref sl)) (EP X pins σ Q) X.xe s
def tSl (r : V → Option Int → Option Int → Hp → VK → Prop) (te : TE) (tl th : TO) : TE := fun σ H Q => te σ H fun x H1 => tl σ H1 fun l H2 => th σ H2 fun u H3 => r x l u H3 Q
/-- a[lo:hi], any a -/
theorem pe_slice {r : V → Option Int → Option Int → Hp → VK → Prop} (hr : SlR X r) (he : PE X e te) (hl : PO X lo tl) (hu : PO X hi th) : PE X (.Subscript e (.Slice lo hi none p2) pos) (tSl r te tl th) := by
  intro pins s σ H Q I h
  refine Subscript_ (thn (he pins s σ H _ I h) fun v s1 ⟨x, H1, I1, r1, q1⟩ => ?_)
  refine wpAny_Slice (thn (hl pins s1 σ H1 _ I1 q1) fun vl s2 ⟨l, H2, I2, pl, q2⟩ => thn (hu pins s2 σ H2 _ I2 q2) fun vu s3 ⟨u, H3, I3, pu, q3⟩ => ?_)
  rw [evalPart_none]
  refine wpAny_pure ?_
  have I4 : Inv X pins σ H3 { s3 with heap := s3.heap.push { cls := .type "slice", data := .fields #[vl, vu, .none] } } := I3.kept (t' := s3.toks) fun b ob q => Heap.get?_push_of_some _ q
  obtain ⟨T, id, hT, ht, hg⟩ := hr pins { s3 with heap := s3.heap.push { cls := .type "slice", data := .fields #[vl, vu, .none] } } σ H3 x v vl vu l u s3.heap.objs.size Q I4 r1 (Heap.IsSliceOf.new ..) pl pu q3
  show wpAny (model X.prog X.w) X.A (subscriptTail e (.Slice lo hi none p2) v (.ref s3.heap.objs.size)) (EP X pins σ Q) X.xe { s3 with heap := s3.heap.push { cls := .type "slice", data := .fields #[vl, vu, .none] } }
  exact tail_any (ops := [.ref s3.heap.objs.size, v]) ht hT hg (by with_unfolding_all rfl)

/-- the items of xs[lo:hi] -/
def cutV (xs : List V) (lo hi : Option Int) : List V := (xs.drop (HT.sIx xs.length 0 lo)).take (HT.sIx xs.length xs.length hi - HT.sIx xs.length 0 lo)
theorem cutV_length (xs : List V) (lo hi : Option Int) : (cutV xs lo hi).length ≤ xs.length := by
  unfold cutV
  rw [List.length_take, List.length_drop]
  omega
/-- t[lo:hi], not the whole of it (the whole would be t itself) -/
def rSlT (K : PySem.W.Frag) : V → Option Int → Option Int → Hp → VK → Prop := fun x lo hi H Q => ∃ a xs, x = .ref a ∧ SqT K H a xs ∧
  ¬ (HT.sIx xs.length 0 lo = 0 ∧ HT.sIx xs.length xs.length hi = xs.length) ∧ ∀ p, H p = none → Q (.ref p) (upd H p (.tup (cutV xs lo hi)))
theorem sl_tup : SlR X (rSlT X.K) := by
  intro pins s σ H x v vl vu lo hi sl Q I rx hs pl pu h
  obtain ⟨a, xs, rfl, hx, hw, q⟩ := h
  cases rx
  obtain ⟨its, r, ht, hz⟩ := I.tuple hx
  have hlen : its.toArray.size = xs.length := by rw [List.size_toArray]; exact r.length.symm
  refine ⟨"tuple", _, PyProof.Rows.slot_tuple_getitem.lookup, ht.typeIs, ?_⟩
  refine HT.getItem_tuple_cut ht hs pl pu (by rw [hlen]; exact hw) ?_ (by rw [hlen]; exact hz)
  rw [hlen]
  refine ⟨.ref s.heap.objs.size, _, I.laid (t' := s.toks) (o := .tup (cutV xs lo hi)) (fun b ob q => Heap.get?_push_of_some _ q) (Nat.le_refl _) ?_, rfl, q _ (I.hok.fresh (Nat.le_refl _))⟩
  exact ⟨Nat.le_trans (cutV_length xs lo hi) hz, _, (r.drop (HT.sIx xs.length 0 lo)).take (HT.sIx xs.length xs.length hi - HT.sIx xs.length 0 lo), IsTup.new _ _⟩

/-! ### t < u, t + u -/
def rLtT (K : PySem.W.Frag) : R2 := fun x y H Q => ∃ a b ns ms, x = .ref a ∧ y = .ref b ∧ SqT K H a (ns.map V.int) ∧ SqT K H b (ms.map V.int) ∧ Q (.bl (HT.lexLt ns ms)) H
/-- t + u, t not empty: u empty gives t itself -/
def rCatT (K : PySem.W.Frag) : R2 := fun x y H Q => ∃ a b xs ys, x = .ref a ∧ y = .ref b ∧ SqT K H a xs ∧ SqT K H b ys ∧ xs ≠ [] ∧ xs.length + ys.length ≤ sizeLine ∧
  (ys = [] → Q (.ref a) H) ∧ (ys ≠ [] → ∀ p, H p = none → Q (.ref p) (upd H p (.tup (xs ++ ys))))
theorem Vals.nil_iff {xs : List V} {us : List Value} (r : Vals xs us) : us = [] ↔ xs = [] := by
  cases r with
  | nil => simp
  | cons _ _ => simp
theorem op_catT : OpR X (binaryOp .Add) (rCatT X.K) := by
  intro pins s σ H x y v u Q I rx ry h
  obtain ⟨a, b, xs, ys, rfl, rfl, ha, hb, hx, hz, q1, q2⟩ := h
  cases rx
  cases ry
  obtain ⟨its, r1, p1, _⟩ := I.tuple ha
  obtain ⟨its2, r2, p2, _⟩ := I.tuple hb
  refine HT.cat_tup p1 p2 (fun z => hx (r1.nil_iff.mp z)) (fun z => ⟨.ref a, H, I, rfl, q1 (r2.nil_iff.mp z)⟩) (fun z => ?_) (by rw [← r1.length, ← r2.length]; exact hz)
  refine ⟨.ref s.heap.objs.size, _, I.laid (t' := s.toks) (o := .tup (xs ++ ys)) (fun b ob q => Heap.get?_push_of_some _ q) (Nat.le_refl _) ?_, rfl, q2 (fun w => z (r2.nil_iff.mpr w)) _ (I.hok.fresh (Nat.le_refl _))⟩
  exact ⟨by rw [List.length_append]; exact hz, _, r1.append r2, IsTup.new _ _⟩
end
end L2

namespace L2
open PySem PySem.Spec PyProof.Rows

/-! ### places -/
/-- the place that an index of any sign means -/
def ixN (n : Nat) (i : Int) : Option Nat := if 0 ≤ i then (if i < n then some i.toNat else none) else if -(n : Int) ≤ i then some (i + n).toNat else none
def atI {α : Type} (xs : List α) (i : Int) : Option α := (ixN xs.length i).bind fun j => xs[j]?
theorem ixN_seq {n : Nat} {i : Int} {j : Nat} (h : ixN n i = some j) : seqIndex? i n = some j ∧ j < n ∧ -(n : Int) ≤ i ∧ i < n := by
  unfold ixN at h
  by_cases h0 : 0 ≤ i
  · rw [if_pos h0] at h
    by_cases h1 : i < n
    · rw [if_pos h1] at h
      have e : i.toNat = j := Option.some.inj h
      exact ⟨by rw [seqIndex_of h0 h1, e], by omega, by omega, h1⟩
    · rw [if_neg h1] at h; cases h
  · rw [if_neg h0] at h
    by_cases h1 : -(n : Int) ≤ i
    · rw [if_pos h1] at h
      have e : (i + n).toNat = j := Option.some.inj h
      exact ⟨by rw [seqIndex_neg (by omega) h1, e], by omega, h1, by omega⟩
    · rw [if_neg h1] at h; cases h
theorem atI_get {α : Type} {xs : List α} {i : Int} {v : α} (h : atI xs i = some v) : ∃ j, seqIndex? i xs.length = some j ∧ xs[j]? = some v ∧ j < xs.length ∧ -(xs.length : Int) ≤ i ∧ i < xs.length := by
  unfold atI at h
  cases e : ixN xs.length i with
  | none => rw [e] at h; cases h
  | some j =>
    rw [e] at h
    obtain ⟨h1, h2, h3, h4⟩ := ixN_seq e
    exact ⟨j, h1, h, h2, h3, h4⟩
theorem atI_nat {α : Type} {xs : List α} {j : Nat} {v : α} (h : xs[j]? = some v) : atI xs (j : Int) = some v := by
  have hj : j < xs.length := (List.getElem?_eq_some_iff.mp h).1
  have e : ixN xs.length (j : Int) = some j := by
    unfold ixN
    rw [if_pos (by omega), if_pos (by omega)]; simp
  unfold atI; rw [e]; exact h
theorem atI_last {α : Type} (xs : List α) (v : α) : atI (xs ++ [v]) (-1) = some v := by
  have hl : (xs ++ [v]).length = xs.length + 1 := by simp
  have e : ixN (xs ++ [v]).length (-1) = some xs.length := by
    unfold ixN
    rw [hl, if_neg (by decide), if_pos (by omega)]
    congr 1
    omega
  unfold atI
  rw [e]
  show (xs ++ [v])[xs.length]? = some v
  simp

/-! ### what may be subscripted -/
/-- what stands as an index of a plain subscript -/
def PlainIx (b : Expr) : Prop := ∀ o i, subscripted b false o i = operate [o, i] (getItem o i)
/-- a subscript by values -/
def IxR (X : Cx) (r : R2) : Prop :=
  ∀ (value slice : Expr) (pins : List (Addr × Obj)) (s : Shared) (σ : St) (H : Hp) (x y : V) (v u : Value) (Q : VK), Inv X pins σ H s → RelV x v → RelV y u → r x y H Q →
    subscripted slice false v u = operate [v, u] (getItem v u) → wpAny (model X.prog X.w) X.A (subscriptTail value slice v u) (EP X pins σ Q) X.xe s
/-- a call of a builtin's method by values: the receiver, the arguments -/
def MtR (X : Cx) (id : String) (r : V → List V → Hp → VK → Prop) : Prop :=
  ∀ (pins : List (Addr × Obj)) (s : Shared) (σ : St) (H : Hp) (x : V) (xs : List V) (v : Value) (us : List Value) (Q : VK), Inv X pins σ H s → RelV x v → Vals xs us → r x xs H Q →
    wpAny (model X.prog X.w) X.A (call (.builtin id) (v :: us)) (EP X pins σ Q) X.xe s
section
variable {X : Cx} {a b : Expr} {ta tb : TE} {pos : Pos}
/-- a[b] -/
theorem pe_ix {r : R2} (hr : IxR X r) (ha : PE X a ta) (hb : PE X b tb) (hs : PlainIx b) : PE X (.Subscript a b pos) (tOp r ta tb) := by
  intro pins s σ H Q I h
  exact Subscript_ (binT ha hb I h fun v u s2 x y H2 I2 rx ry q => hr a b pins s2 σ H2 x y v u Q I2 rx ry q (hs _ _))

def rIxL (K : PySem.W.Frag) : R2 := fun x y H Q => ∃ p xs i v, x = .ref p ∧ y = .int i ∧ SqL K H p xs ∧ atI xs i = some v ∧ Q v H
def rIxT (K : PySem.W.Frag) : R2 := fun x y H Q => ∃ p xs i v, x = .ref p ∧ y = .int i ∧ SqT K H p xs ∧ atI xs i = some v ∧ Q v H
def rIxS : R2 := fun x y H Q => ∃ z i c, x = .str z ∧ y = .int i ∧ z.length ≤ sizeLine ∧ atI z.cps.toList i = some c ∧ Q (.str ⟨#[c]⟩) H
theorem ix_list : IxR X (rIxL X.K) := by
  intro value slice pins s σ H x y v u Q I rx ry h hs
  obtain ⟨p, xs, i, z, rfl, rfl, hq, he, q⟩ := h
  cases rx
  obtain ⟨t, rfl⟩ := ry
  obtain ⟨its, r, pl, hz⟩ := I.list hq
  obtain ⟨j, h1, h2, h3, h4, h5⟩ := atI_get he
  obtain ⟨w, ew, rw'⟩ := r.get h2
  have hl := r.length
  have hn := line63
  have fin : EP X pins σ Q w s := ⟨z, H, I, rw', q⟩
  by_cases h0 : 0 ≤ i
  · have hj : i.toNat = j := by
      rw [seqIndex_of h0 h5] at h1
      exact Option.some.inj h1
    exact item_listR pl.isList h0 (by omega) (by rw [hj]; simpa using ew) fin hs
  · have hj : (i + (its.toArray.size : Int)).toNat = j := by
      rw [seqIndex_neg (by omega) h4] at h1
      rw [List.size_toArray, ← hl]
      exact Option.some.inj h1
    exact subscriptTail_builtinR (x := w) pl.isList.typeIs slot_list_getitem.lookup
      (wpAny_getItem_list_neg (Q := fun r s' => r = w ∧ EP X pins σ Q r s') pl.isList (by omega) (by rw [List.size_toArray] <;> omega) (by omega) (by rw [hj]; simpa using ew) ⟨rfl, fin⟩) hs
theorem ix_tup : IxR X (rIxT X.K) := by
  intro value slice pins s σ H x y v u Q I rx ry h hs
  obtain ⟨p, xs, i, z, rfl, rfl, hq, he, q⟩ := h
  cases rx
  obtain ⟨t, rfl⟩ := ry
  obtain ⟨its, r, pl, hz⟩ := I.tuple hq
  obtain ⟨j, h1, h2, h3, h4, h5⟩ := atI_get he
  obtain ⟨w, ew, rw'⟩ := r.get h2
  have hl := r.length
  have hn := line63
  have fin : EP X pins σ Q w s := ⟨z, H, I, rw', q⟩
  exact subscriptTail_builtinR (x := w) pl.typeIs slot_tuple_getitem.lookup
    (getItem_tuple (j := j) (Q := fun r s' => r = w ∧ EP X pins σ Q r s') pl (by omega) (by omega) (by rw [List.size_toArray, ← hl]; exact h1) (by simpa using ew) ⟨rfl, fin⟩) hs
/-- list, tuple or str -/
def rIx (K : PySem.W.Frag) : R2 := fun x y H Q => rIxL K x y H Q ∨ rIxT K x y H Q ∨ rIxS x y H Q
/-! ### xs[i] = v, any sign -/
/-- the list's object behind a store -/
theorem mapSeq_set (its : List Value) (n j : Nat) (u : Value) : Obj.mapSeq (·.setIfInBounds j u) { cls := .type "list", data := .seq its.toArray n } = { cls := .type "list", data := .seq (its.set j u).toArray n } := by
  simp [Obj.mapSeq]
theorem Inv.lst {pins : List (Addr × Obj)} {σ : St} {H : Hp} {s : Shared} {p : Addr} {xs : List V} (I : Inv X pins σ H s) (h : H p = some (.lst xs)) :
    ∃ (its : List Value) (n : Nat), Vals xs its ∧ s.heap.get? p = some { cls := .type "list", data := .seq its.toArray n } ∧ xs.length ≤ sizeLine := by
  obtain ⟨z, its, n, r, e⟩ := I.hok p _ h
  exact ⟨its, n, r, e, z⟩
/-- the list at p is written by an update of its object -/
theorem Inv.lstUpd {pins : List (Addr × Obj)} {σ : St} {H : Hp} {s : Shared} {p : Addr} {xs ys : List V} {its its' : List Value} {n n' : Nat} {f : Obj → Obj} (I : Inv X pins σ H s) (h : H p = some (.lst xs))
    (ho : s.heap.get? p = some { cls := .type "list", data := .seq its.toArray n }) (hf : f { cls := .type "list", data := .seq its.toArray n } = { cls := .type "list", data := .seq its'.toArray n' }) (r : Vals ys its') (hz : ys.length ≤ sizeLine) (t : Nat) :
    Inv X pins σ (upd H p (.lst ys)) { s with heap := s.heap.update p f, toks := t } := by
  have e : (s.heap.update p f).get? p = some { cls := .type "list", data := .seq its'.toArray n' } := by
    rw [Heap.get?_update_self f ho (by rw [hf] <;> rfl), hf]
  refine I.write (x := p) (e := p) (by rw [h]; trivial) (.inl rfl) (fun b u hb q => (Heap.get?_update_other _ _ (Ne.symm hb)).trans q) ⟨_, e⟩ ?_
  exact ⟨hz, its', n', r, e⟩
def rSetL : V → V → V → Hp → (Hp → Prop) → Prop := fun o i v H Q => ∃ p xs k j, o = .ref p ∧ i = .int k ∧ H p = some (.lst xs) ∧ ixN xs.length k = some j ∧ Q (upd H p (.lst (xs.set j v)))
theorem set_list : PSet X rSetL := by
  intro pins s σ H o i v ov iv u Q I ro ri rv h
  obtain ⟨p, xs, k, j, rfl, rfl, hp, hj, q⟩ := h
  cases ro
  obtain ⟨t, rfl⟩ := ri
  obtain ⟨its, n, r, ho, hz⟩ := I.lst hp
  obtain ⟨h1, h2, h3, h4⟩ := ixN_seq hj
  have hl := r.length
  have hn := line63
  have I' : Inv X pins σ (upd H p (.lst (xs.set j v))) { s with heap := s.heap.update p (Obj.mapSeq (·.setIfInBounds j u)) } :=
    I.lstUpd hp ho (mapSeq_set its n j u) (r.set rv j) (by rw [List.length_set]; exact hz) s.toks
  by_cases h0 : 0 ≤ k
  · have hk : k.toNat = j := by
      rw [seqIndex_of h0 h4] at h1
      exact Option.some.inj h1
    exact PySem.W.ki_setAt ho h0 (by omega) (by rw [List.size_toArray, ← hl]; exact h4) (by rw [hk]; exact ⟨_, I', q⟩)
  · have hk : (k + (its.toArray.size : Int)).toNat = j := by
      rw [seqIndex_neg (by omega) h3] at h1
      rw [List.size_toArray, ← hl]
      exact Option.some.inj h1
    exact PySem.W.ki_setBack ho (by omega) (by rw [List.size_toArray, ← hl]; exact h3) (by omega) (by rw [hk]; exact ⟨_, I', q⟩)

/-! ### slices -/
theorem slice_bounds (lo hi : Option Int) (n : Nat) : (sliceBounds lo hi none n).1 = ((HT.sIx n 0 lo : Nat) : Int) ∧ (sliceBounds lo hi none n).2.1 = ((HT.sIx n n hi : Nat) : Int) ∧ (sliceBounds lo hi none n).2.2 = 1 := by
  refine ⟨?_, ?_, rfl⟩
  · cases lo with
    | none => simp [sliceBounds, HT.sIx]
    | some i =>
      simp only [sliceBounds, HT.sIx, Option.getD_none, show (1 : Int) > 0 by decide, if_true]
      by_cases h : i < 0
      · simp only [h, if_true] <;> omega
      · simp only [h, if_false] <;> omega
  · cases hi with
    | none => simp [sliceBounds, HT.sIx]
    | some i =>
      simp only [sliceBounds, HT.sIx, Option.getD_none, show (1 : Int) > 0 by decide, if_true]
      by_cases h : i < 0
      · simp only [h, if_true] <;> omega
      · simp only [h, if_false] <;> omega
theorem slicePick_cut (its : List Value) (lo hi : Option Int) : slicePick its.toArray lo hi none = ((its.drop (HT.sIx its.length 0 lo)).take (HT.sIx its.length its.length hi - HT.sIx its.length 0 lo)).toArray := by
  obtain ⟨h1, h2, h3⟩ := slice_bounds lo hi its.toArray.size
  unfold slicePick
  rw [h1, h2, h3]
  simp only [sliceRange_one, pick_run, List.size_toArray] <;> rfl
/-- xs[lo:hi] of a list: a new list -/
def rSlL (K : PySem.W.Frag) : V → Option Int → Option Int → Hp → VK → Prop := fun x lo hi H Q => ∃ a xs, x = .ref a ∧ SqL K H a xs ∧ ∀ p, H p = none → Q (.ref p) (upd H p (.lst (cutV xs lo hi)))
theorem sl_list : SlR X (rSlL X.K) := by
  intro pins s σ H x v vl vu lo hi sl Q I rx hs pl pu h
  obtain ⟨a, xs, rfl, hx, q⟩ := h
  cases rx
  obtain ⟨its, r, ht, hz⟩ := I.list hx
  have hlen := r.length
  refine ⟨"list", _, slot_list_getitem.lookup, ht.isList.typeIs, ?_⟩
  refine wpAny_getItem_list_slice ht.isList hs pl pu .none (by simp) ?_ (by rw [List.size_toArray] <;> omega)
  rw [slicePick_cut, ← hlen]
  refine ⟨.ref s.heap.objs.size, _, I.laid (t' := s.toks) (o := .lst (cutV xs lo hi)) (fun b ob q => Heap.get?_push_of_some _ q) (Nat.le_refl _) ?_, rfl, q _ (I.hok.fresh (Nat.le_refl _))⟩
  exact ⟨Nat.le_trans (cutV_length xs lo hi) hz, _, 0, (r.drop (HT.sIx xs.length 0 lo)).take (HT.sIx xs.length xs.length hi - HT.sIx xs.length 0 lo), Heap.get?_push_size _ rfl⟩

/-! ### in, not in: flat items -/
def flatV : V → Bool
  | .non => true
  | .bl _ => true
  | .int _ => true
  | .str _ => true
  | _ => false
/-- == of flat values -/
def eqV : V → V → Bool
  | .non, .non => true
  | .bl a, .bl b => a == b
  | .bl a, .int b => (if a then 1 else 0) == b
  | .int a, .bl b => a == (if b then 1 else 0)
  | .int a, .int b => a == b
  | .str a, .str b => a == b
  | _, _ => false
/-- the items' answers, read off the values (a value's own answer does not lean on its token) -/
def eqU (x : V) (u : Value) : Bool := match u with
  | .none => eqV .non x
  | .bool b => eqV (.bl b) x
  | .int i _ => eqV (.int i) x
  | .str z _ => eqV (.str z) x
  | _ => false
def inV (x : V) (xs : List V) : Bool := xs.any fun y => eqV y x
/-- x in a list or tuple of flat items -/
def rIn (K : PySem.W.Frag) (neg : Bool) : R2 := fun x y H Q => ∃ p xs, y = .ref p ∧ (SqL K H p xs ∨ SqT K H p xs) ∧ flatV x = true ∧ xs.all flatV = true ∧ Q (.bl (if neg then !inV x xs else inV x xs)) H
/-! ### len, list(x), tuple(x) of any list or tuple that is read -/
theorem call_len_seq : CallR X (.builtin "len") (fun xs H Q => ∃ p ys, xs = [.ref p] ∧ (SqL X.K H p ys ∨ SqT X.K H p ys) ∧ Q (.int ys.length) H) := by
  intro pins s σ H xs us Q I r h
  obtain ⟨p, ys, rfl, hq, q⟩ := h
  obtain ⟨u, rfl, rx⟩ := vals1 r
  cases rx
  have hn := line63
  rcases hq with hq | hq
  · obtain ⟨its, r', pl, hz⟩ := I.list hq
    have hlen := r'.length
    exact Calls.call_len_list pl.isList (by simp only [List.size_toArray] <;> omega) ⟨.int ys.length, H, I.tok _, ⟨s.toks + 1, by rw [List.size_toArray, hlen]⟩, q⟩
  · obtain ⟨its, r', pl, hz⟩ := I.tuple hq
    have hlen := r'.length
    exact len_tuple pl (by simp only [List.size_toArray] <;> omega) ⟨.int ys.length, H, I.tok _, ⟨s.toks + 1, by rw [List.size_toArray, hlen]⟩, q⟩
theorem call_list_of : CallR X (.type "list") (fun xs H Q => ∃ p ys, xs = [.ref p] ∧ (SqL X.K H p ys ∨ SqT X.K H p ys) ∧ ∀ l, H l = none → Q (.ref l) (upd H l (.lst ys))) := by
  intro pins s σ H xs us Q I r h
  obtain ⟨p, ys, rfl, hq, q⟩ := h
  obtain ⟨u, rfl, rx⟩ := vals1 r
  cases rx
  have fin : ∀ (its : List Value), Vals ys its → ys.length ≤ sizeLine → ∀ (h' : Heap) (c' : Nat), (∀ b o', s.heap.get? b = some o' → h'.get? b = some o') →
      h'.get? s.heap.objs.size = some { cls := .type "list", dict := none, data := .seq its.toArray c', slots := #[] } → EP X pins σ Q (.ref s.heap.objs.size) { s with heap := h' } := fun its r' hz h' c' kp e =>
    ⟨.ref s.heap.objs.size, _, I.laid (t' := s.toks) kp (Nat.le_refl _) (show ObjOk X.prog X.w _ h' _ (.lst ys) from ⟨hz, its, c', r', e⟩), rfl, q _ (I.hok.fresh (Nat.le_refl _))⟩
  rcases hq with hq | hq
  · obtain ⟨its, r', pl, hz⟩ := I.list hq
    have hlen := r'.length
    obtain ⟨o, ho, hc, n, hd⟩ := pl.isList
    exact call_list_seq p (.inl rfl) ho hc hd (fun h' c' kp e => fin its r' hz h' c' kp e) (by simp only [List.size_toArray] <;> omega)
  · obtain ⟨its, r', pl, hz⟩ := I.tuple hq
    have hlen := r'.length
    obtain ⟨o, ho, hc, n, hd⟩ := pl
    exact call_list_seq p (.inr rfl) ho hc hd (fun h' c' kp e => fin its r' hz h' c' kp e) (by simp only [List.size_toArray] <;> omega)
theorem call_tuple_of : CallR X (.type "tuple") (fun xs H Q => ∃ p ys, xs = [.ref p] ∧ ((SqL X.K H p ys ∧ ∀ l, H l = none → Q (.ref l) (upd H l (.tup ys))) ∨ (SqT X.K H p ys ∧ Q (.ref p) H))) := by
  intro pins s σ H xs us Q I r h
  obtain ⟨p, ys, rfl, h⟩ := h
  obtain ⟨u, rfl, rx⟩ := vals1 r
  cases rx
  rcases h with ⟨hq, q⟩ | ⟨hq, q⟩
  · obtain ⟨its, r', pl, hz⟩ := I.list hq
    have hlen := r'.length
    refine call_tuple_list pl.isList (fun h' kp => ?_) (by simp only [List.size_toArray] <;> omega)
    have I1 : Inv X pins σ H { s with heap := h' } := I.kept (t' := s.toks) kp
    have I2 : Inv X pins σ (upd H h'.objs.size (.tup ys)) { s with heap := h'.push { cls := .type "tuple", data := .seq its.toArray } } :=
      I1.laid (t' := s.toks) (fun b o e => Heap.get?_push_of_some _ e) (Nat.le_refl _) (show ObjOk X.prog X.w _ _ _ (.tup ys) from ⟨hz, its, r', IsTup.new _ _⟩)
    exact ⟨.ref h'.objs.size, _, I2, rfl, q _ (I1.hok.fresh (Nat.le_refl _))⟩
  · obtain ⟨its, r', pl, hz⟩ := I.tuple hq
    exact call_tuple_same pl ⟨.ref p, H, I, rfl, q⟩

/-! ### the call of a builtin's method: o.m(..) -/
/-- the value is of that builtin type -/
def tyV (K : PySem.W.Frag) (T : String) (x : V) (H : Hp) : Prop := match x with
  | .str _ => T = "str"
  | .int _ => T = "int"
  | .ref p => (T = "list" ∧ ∃ xs, SqL K H p xs) ∨ (T = "tuple" ∧ ∃ o, K.lookup p = some o ∧ o.cls = .type "tuple" ∧ o.dict = none) ∨
      (T = "dict" ∧ ((∃ kvs, H p = some (.dK kvs)) ∨ ∃ kvs, H p = some (.dT kvs))) ∨ (T = "set" ∧ ∃ S n, H p = some (.set S n))
  | _ => False
theorem tyV_is {pins : List (Addr × Obj)} {σ : St} {H : Hp} {s : Shared} {T : String} {x : V} {v : Value} (I : Inv X pins σ H s) (r : RelV x v) (ty : tyV X.K T x H) :
    s.TypeIs v T ∧ ∀ a, v = .ref a → ∃ ob, s.heap.get? a = some ob ∧ ob.dict = none := by
  cases x with
  | str z =>
    obtain ⟨t, rfl⟩ := r
    cases (show T = "str" from ty)
    exact ⟨typeIs_str s z t, fun _ e => nomatch e⟩
  | int i =>
    obtain ⟨t, rfl⟩ := r
    cases (show T = "int" from ty)
    exact ⟨typeIs_int s i t, fun _ e => nomatch e⟩
  | ref p =>
    cases r
    rcases ty with ⟨rfl, xs, hq⟩ | ⟨rfl, o, hk, hc, hd⟩ | ⟨rfl, hk⟩ | ⟨rfl, S, n, hk⟩
    · obtain ⟨its, _, pl, _⟩ := I.list hq
      refine ⟨pl.isList.typeIs, fun a e => ?_⟩
      cases e
      obtain ⟨o, n, e, c, hd, _⟩ := pl
      exact ⟨o, e, hd⟩
    · refine ⟨⟨o, I.kIn p o hk, hc⟩, fun a e => ?_⟩
      cases e
      exact ⟨o, I.kIn _ o hk, hd⟩
    · have z : ∃ o, s.heap.get? p = some o ∧ o.ExactDict := by
        rcases hk with ⟨kvs, hk⟩ | ⟨kvs, hk⟩
        · obtain ⟨_, _, _, _, o, _, _, e, ex, _⟩ := I.hok p _ hk
          exact ⟨o, e, ex⟩
        · obtain ⟨_, _, _, _, o, _, _, e, ex, _⟩ := I.hok p _ hk
          exact ⟨o, e, ex⟩
      obtain ⟨o, e, ex⟩ := z
      refine ⟨⟨o, e, ex.1⟩, fun a e2 => ?_⟩
      cases e2
      exact ⟨o, e, ex.2.1⟩
    · obtain ⟨o, _, _, _, e, ex, _⟩ := I.hok p _ hk
      refine ⟨⟨o, e, ex.1⟩, fun a e2 => ?_⟩
      cases e2
      exact ⟨o, e, ex.2.1⟩
  | _ => exact False.elim ty
def tBM0 (K : PySem.W.Frag) (T : String) (r : V → List V → Hp → VK → Prop) (to : TE) : TE := fun σ H Q => to σ H fun x H1 => tyV K T x H1 ∧ r x [] H1 Q
def tBM (K : PySem.W.Frag) (T : String) (r : V → List V → Hp → VK → Prop) (to : TE) (t : TA) : TE := fun σ H Q => to σ H fun x H1 => tyV K T x H1 ∧ t σ H1 fun xs H2 => r x xs H2 Q
variable {o e : Expr} {es : List Expr} {to : TE} {t : TA} {name : Str} {apos cpos : Pos} {T id : String} {r : V → List V → Hp → VK → Prop}
theorem pe_bm (pa : PlainAttrs T) (slot : Slot T name id) (hty : typeOf (.builtin id) = pure (.type "method_descriptor")) (hm : MtR X id r) (ho : PE X o to) (ha : PA X (e :: es) t)
    (hbase : attributeBase o name X.env (eval o X.env) = eval o X.env := by rfl)
    (hfew : ((backTo cpos (starEach (e :: es) X.env)).all (fun x => !x.1) && (backToKw cpos (keywordEach [] X.env)).all (fun x => x.1.isSome)
      && decide ((e :: es).length + ([] : List Keyword).length + (if ([] : List Keyword).isEmpty then 0 else 1) < 30)) = true := by rfl)
    (hline : (apos.endLine == cpos.line) = true := by rfl) (hs : starEach (e :: es) X.env = (false, eval e X.env) :: starEach es X.env := by rfl) (hplain : (backTo cpos (starEach es X.env)).any (·.1) = false := by rfl) :
    PE X (.Call (.Attribute o name apos) (e :: es) [] cpos) (tBM X.K T r to t) := by
  intro pins s σ H Q I h
  refine wpAny_Call_method_late hbase hfew hline rfl (thn (ho pins s σ H _ I h) fun v s1 ⟨x, H1, I1, r1, ty, q1⟩ => ?_)
  obtain ⟨h1, h2⟩ := tyV_is I1 r1 ty
  refine ⟨T, id, pa, slot, hty, h1, h2, ?_⟩
  have hA := ha cpos pins s1 σ H1 _ I1 q1
  rw [hs] at hA ⊢
  refine Calls.callWith_builtin (by show (false || (backTo cpos (starEach es X.env)).any (·.1)) = false; rw [hplain] <;> rfl) (Calls.evalArgs_plain ?_)
  exact thn hA fun us s2 ⟨vs, H2, I2, r2, q2⟩ => hm pins s2 σ H2 x vs v us Q I2 r1 r2 q2
/- xs.append(e), list.index on a module's tuple .. are MtR facts of 06m -/
end
end L2

namespace L2
open PySem PySem.Spec PyProof.Rows

def MtM (X : Cx) (id : String) (r : V → List V → Hp → VK → Prop) : Prop :=
  ∀ (pins : List (Addr × Obj)) (s : Shared) (σ : St) (H : Hp) (x : V) (xs : List V) (v : Value) (us : List Value) (Q : VK), Inv X pins σ H s → RelV x v → Vals xs us → r x xs H Q →
    wpAny (model X.prog X.w) X.A (call (.builtin id) (v :: us)) (EP X pins σ Q) X.xe s

/-! ### lists of values -/
theorem Vals.one : ∀ {x : V} {us : List Value}, Vals [x] us → ∃ u, us = [u] ∧ RelV x u
  | _, _, .cons r .nil => ⟨_, rfl, r⟩
section
variable {X : Cx} {pins : List (Addr × Obj)} {σ : St} {H : Hp} {s : Shared} {l b : Addr} {xs ys zs : List V}

/-! ### the two steps: a tracked list is rewritten, a new list is laid -/
theorem Inv.lset {its its' : List Value} {n : Nat} {f : Array Value → Array Value} {t' : Nat} (I : Inv X pins σ H s) (hH : H l = some (.lst xs))
    (e : s.heap.get? l = some { cls := .type "list", data := .seq its.toArray n }) (hf : f its.toArray = its'.toArray) (hv : Vals ys its') (hz : ys.length ≤ sizeLine) :
    Inv X pins σ (upd H l (.lst ys)) { s with heap := s.heap.update l (Obj.mapSeq f), toks := t' } := by
  have q := PySem.IsL.update e f
  rw [hf] at q
  refine I.write (x := l) (e := l) (by rw [hH]; exact trivial) (.inl rfl) (fun b' u hb hu => (Heap.get?_update_other s.heap (Obj.mapSeq f) (Ne.symm hb)).trans hu) ⟨_, q⟩ ?_
  exact ⟨hz, its', _, hv, q⟩
theorem Inv.lnew {its : List Value} {t' : Nat} (I : Inv X pins σ H s) (hv : Vals ys its) (hz : ys.length ≤ sizeLine) :
    Inv X pins σ (upd H s.heap.objs.size (.lst ys)) { s with heap := s.heap.push { cls := .type "list", data := .seq its.toArray }, toks := t' } :=
  I.laid (fun _ _ q => Heap.get?_push_of_some _ q) (Nat.le_refl _) ⟨hz, its, 0, hv, Heap.get?_push_size _ rfl⟩
theorem Inv.fresh (I : Inv X pins σ H s) : H s.heap.objs.size = none := I.hok.fresh (Nat.le_refl _)
theorem Inv.lstM (I : Inv X pins σ H s) (hH : H l = some (.lst xs)) : xs.length ≤ sizeLine ∧ ∃ (its : List Value) (n : Nat), Vals xs its ∧ xs.length = its.length ∧ s.heap.get? l = some { cls := .type "list", data := .seq its.toArray n } := by
  obtain ⟨z, its, n, r, e⟩ := I.hok l _ hH
  exact ⟨z, its, n, r, r.length, e⟩

end

section
variable {X : Cx}

/-! ### methods -/
def rAppend : V → List V → Hp → VK → Prop := fun x vs H Q => ∃ l xs y, x = .ref l ∧ vs = [y] ∧ H l = some (.lst xs) ∧ xs.length < sizeLine ∧ Q .non (upd H l (.lst (xs ++ [y])))
theorem mt_append : MtM X "list.append" rAppend := by
  intro pins s σ H x vs v us Q I rx rv h
  obtain ⟨l, xs, y, rfl, rfl, hH, hz, q⟩ := h
  cases rx
  obtain ⟨u, rfl, ru⟩ := rv.one
  obtain ⟨z, its, n, r, hl, e⟩ := I.lstM hH
  refine call_meets F.slot_list_append ⟨_, e, rfl⟩ F.entry_list_append (F.args_list_append_2 _ _) (PySem.list_append l its.toArray n u (by rw [List.size_toArray]; omega)) ⟨e, ?_⟩
  refine ⟨.non, _, I.lset (its' := its ++ [u]) hH e (by simp) (r.append (.cons ru .nil)) ?_, rfl, q⟩
  rw [List.length_append, List.length_singleton]
  omega

def rExtend : V → List V → Hp → VK → Prop := fun x vs H Q => ∃ l b xs zs, x = .ref l ∧ vs = [.ref b] ∧ H l = some (.lst xs) ∧ H b = some (.lst zs) ∧ xs.length + zs.length ≤ sizeLine ∧ Q .non (upd H l (.lst (xs ++ zs)))
def rPop : V → List V → Hp → VK → Prop := fun x vs H Q => ∃ l xs y, x = .ref l ∧ vs = [] ∧ H l = some (.lst xs) ∧ xs[xs.length - 1]? = some y ∧ Q y (upd H l (.lst xs.dropLast))
def rPopAt : V → List V → Hp → VK → Prop := fun x vs H Q => ∃ l xs i k y, x = .ref l ∧ vs = [.int i] ∧ H l = some (.lst xs) ∧ -(2 ^ 63) ≤ i ∧ i < 2 ^ 63 ∧ seqIndex? i xs.length = some k ∧ xs[k]? = some y ∧ Q y (upd H l (.lst (xs.eraseIdx k)))
def rReverse : V → List V → Hp → VK → Prop := fun x vs H Q => ∃ l xs, x = .ref l ∧ vs = [] ∧ H l = some (.lst xs) ∧ Q .non (upd H l (.lst xs.reverse))
def rClear : V → List V → Hp → VK → Prop := fun x vs H Q => ∃ l xs, x = .ref l ∧ vs = [] ∧ H l = some (.lst xs) ∧ Q .non (upd H l (.lst []))
/-! ### list + list, list += list, list * int -/
def rCat : R2 := fun x y H Q => ∃ l b xs zs, x = .ref l ∧ y = .ref b ∧ H l = some (.lst xs) ∧ H b = some (.lst zs) ∧ xs.length + zs.length ≤ sizeLine ∧ ∀ p, H p = none → Q (.ref p) (upd H p (.lst (xs ++ zs)))
theorem op_cat : OpR X (binaryOp .Add) rCat := by
  intro pins s σ H x y v u Q I rx ry h
  obtain ⟨l, b, xs, zs, rfl, rfl, hH, hB, hz, q⟩ := h
  cases rx
  cases ry
  obtain ⟨z, its, n, r, hl, e⟩ := I.lstM hH
  obtain ⟨z2, its2, n2, r2, hl2, e2⟩ := I.lstM hB
  refine PySem.P.add_list e e2 ?_ (by rw [List.size_toArray, List.size_toArray]; omega)
  have ea : its.toArray ++ its2.toArray = (its ++ its2).toArray := by simp
  rw [ea]
  exact ⟨.ref _, _, I.lnew (t' := s.toks) (r.append r2) (by rw [List.length_append]; omega), rfl, q _ I.fresh⟩
/-- a list times an int (a negative one is nothing) -/
def rRep : R2 := fun x y H Q => ∃ l k xs, x = .ref l ∧ y = .int k ∧ H l = some (.lst xs) ∧ -(2 ^ 63) ≤ k ∧ k < 2 ^ 63 ∧ xs.length * k.toNat ≤ sizeLine ∧
  ∀ p, H p = none → Q (.ref p) (upd H p (.lst (List.replicate k.toNat xs).flatten))
/-! ### del xs[i] -/
end

/-! ### xs[a:b] = ys -/
section
variable {prog : Program} {w : World} {A : Around} {E : Value → Shared → Prop} {s : Shared}
set_option maxRecDepth 100000 in
end

section
variable {X : Cx}
end
end L2

namespace Att
open PySem PySem.W PySem.Calls PyProof.Rows

/-! ### the script -/
theorem ints_of_wellAll {P : Params} {h : Heap} : ∀ (ns : List Int) (vs : List Value), WellAll P h vs (ns.map WData.int) → IntsAre vs ns := by
  intro ns
  induction ns with
  | nil =>
    intro vs w
    rw [List.map_nil] at w
    cases w
    exact .nil
  | cons n ns ih =>
    intro vs w
    rw [List.map_cons] at w
    cases w with
    | cons a b =>
      cases a
      exact .cons _ _ (ih _ b)

theorem script_of {l : OpenLaw} {n : Nat} (hn : l.most = some n) {P : Params} {h : Heap} {args : List WData} {vals : List Value}
    (hpre : l.row.toRowW.claim.pre args = true) (hwl : WellAll P h vals args) :
    ∃ a vs ns, vals = [Value.ref a] ∧ args = [WData.list (ns.map WData.int)] ∧ h.get? a = some { cls := .type "list", data := .seq vs.toArray } ∧ IntsAre vs ns ∧ ns.length ≤ n := by
  have hsh : WShape.hasAll [] args [.list .int] = true := (pre_splitW hpre).1
  have hc : l.pre.holds [] { args := args } = true := (pre_splitW hpre).2
  obtain ⟨d, r, rfl, h1, h2⟩ := hasAllW_cons hsh
  obtain rfl := hasAllW_nil h2
  obtain ⟨xs, rfl, h3⟩ := hasW_list h1
  obtain ⟨ns, rfl⟩ := items_int h3
  have hlen : ns.length ≤ n := by
    unfold OpenLaw.pre at hc
    have h4 : (WTm.not (.lt (.lit (.int (n : Int))) (.len (.arg 0)))).holds [] { args := [.list (ns.map .int)] } = true := by
      have h4 := (holds_andW hc).1
      rw [hn] at h4
      exact h4
    have h5 := condW_of h4 (w_not (w_lt w_lit (w_len_list (w_arg rfl))))
    rw [List.length_map] at h5
    refine Nat.le_of_not_lt fun q => ?_
    have q' : (n : Int) < ((ns.length : Nat) : Int) := by omega
    first
      | (rw [decide_eq_true q'] at h5; exact absurd h5 (by decide))
      | (simp at h5; omega)
  cases hwl with
  | cons w1 w2 =>
    cases w2
    cases w1 with
    | list ho hall => exact ⟨_, _, ns, rfl, rfl, ho, ints_of_wellAll ns _ hall, hlen⟩

theorem post_true (l : OpenLaw) (args : List WData) : l.row.toRowW.claim.post args (.bool true) args = true :=
  postW_of (r := l.row.toRowW) (X := (true == true))
    (show WShape.has [] (.bool true) .bool = true by first | rfl | decide | simp [WShape.has, WShape.arms, WShape.armsAll])
    (show (WTm.eq .res (.lit (.bool true))).value [] { args := args, res := some (.bool true), after := args } = some (.bool (true == true)) from w_eq_bool (w_res rfl) w_lit) rfl

/-! ### the attachment: holds_open's last premise (the goal 'hc' behind k_head) from a wpAny of the law's body -/
/-- the same from a codeAny of the CALL (for a layer whose function contracts speak of calls) -/
theorem attach_call {l : OpenLaw} {n : Nat} {q : Program} {loose : List Str} {XP : (Str → Option Value) → Heap → Prop} {YP : World → Heap → Prop} {d : DefRec}
    (hn : l.most = some n) (hdf : d.params.defaults = [])
    (call : ∀ (w : World) (s₀ s₁ : Shared) (mg mb : Str → Option Value) (fa : Addr) (o : Obj) (pm cd doc : Value) (a : Addr) (vs : List Value) (ns : List Int),
      Ground q loose [] XP w s₀ mg mb s₁.heap → YP w s₁.heap →
      s₁.heap.get? fa = some o → o.data = .func (docDef d.name d.params d.body d.scope pm cd doc) → s₁.heap.CodeRec cd d.name → mg d.name = some (.ref fa) →
      s₁.heap.get? a = some { cls := .type "list", data := .seq vs.toArray } → IntsAre vs ns → ns.length ≤ n → s₁.gens = #[] →
      codeAny (model l.prog w) callerA (.call (.ref fa) ⟨[.ref a], []⟩) (fun r s' => r = .ok (.ret (.bool true)) ∧ OldK s₁.heap s'.heap ∧ s'.os = s₁.os ∧ AllBare s'.gens) s₁) :
    WalkO q loose XP YP l.row.toRowW d [] (fun f vs => PySem.call f vs) := by
  intro w s₀ s₁ mg mb G Y fa o pm cd doc dV kV ho hd hcd hD hmg hg args vals as hpre hlay hrd hwl hlo
  obtain rfl : dV = .none := Dflts.none hD hdf
  obtain rfl : kV = .none := Dflts.noKw hD
  obtain ⟨a, vs, ns, rfl, rfl, hobj, hints, hlen⟩ := script_of hn hpre hwl
  refine enter_call (codeAny_mono (call w s₀ s₁ mg mb fa o pm cd doc a vs ns G Y ho (fd_plain hd) hcd hmg hobj hints hlen hg) fun r s' hq => ?_)
  obtain ⟨rfl, h2, h3, h4⟩ := hq
  exact ⟨.inl ⟨.bool true, .bool true, [], rfl, fun _ => rfl, .bool true, post_true l _, fun _ => ⟨List.Pairwise.nil, fun _ hm => (nomatch hm)⟩⟩, h2, h3, h4⟩

/-! ### rules over ANY heap (no ledger) from facts about the written part K: the library's own take a ledger (News) for what they write -/
section
variable {prog : Program} {w : World} {A : Around} {E : Value → Shared → Prop} {s : Shared} {K : Frag}

/-! the whole heap as the ledger: makes every rule that writes through a ledger a rule over any heap -/
def noObjs (h : Heap) : Heap := { h with objs := #[] }
def ledger (h : Heap) (L d : Addr) : List (Addr × Obj) := (List.range h.objs.size).filterMap fun a => if a = L ∨ a = d then none else (h.get? a).map fun o => (a, o)
end
end Att

namespace L2
open PySem PySem.Spec PyProof.Rows

theorem vals_ints : ∀ {vs : List Value} {ns : List Int}, IntsAre vs ns → Vals (ns.map V.int) vs
  | _, _, .nil => .nil
  | _, _, .cons n t h => .cons ⟨t, rfl⟩ (vals_ints h)

/-- nothing is tracked but the script, known to the object (or it is an object of the module) -/
def Only (H : Hp) : Prop := ∀ b, H b = none ∨ ∃ o xs, H b = some (.frz o (.lst xs))

/-- THE HEAD: the law's promise, at the heap behind the top. F, the promise of the law's def, may use that base is part of the heap (so K.In base, base.Ns mainGlobals mg stand in Mod) -/
theorem law_call {P : Program} {w : World} {K : PySem.W.Frag} {mg mb : Str → Option Value} {CX : CXT} {k : Nat} {fa a : Addr} {fd : FuncData} {x : Str} {sp : Sp} {s₁ : Shared} {vs : List Value} {ns : List Int}
    (KX : K.In s₁.heap) (hns : s₁.heap.Ns mainGlobals mg) (hb : s₁.heap.Ns builtinsNs mb) (hbb : ∀ x : Str, x ≠ "__name__" → mb x = bootBuiltins x) (hlim : s₁.heap.NoLimit) (hg : s₁.gens = #[])
    (ha : s₁.heap.get? a = some { cls := .type "list", data := .seq vs.toArray }) (hi : IntsAre vs ns) (hl : ns.length ≤ sizeLine) (hr : Room k callerA)
    (F : ∀ base : Heap, K.In base → base.Ns mainGlobals mg → FnOk P w K mg base CX k fa fd [x] sp) (hbind : ∀ (s : Shared) (u : Value), BindsTo s fd ⟨[u], []⟩ [(x, u)])
    (hsp : ∀ H : Hp, Only H → SqL K H a (ns.map V.int) → sp [.ref a] H (fun v _ => v = .bl true) fun _ _ _ => False)
    (hCX : ∀ H e s', CX [] H s₁ (fun _ _ _ => False) e s' → False) :
    codeAny (model P w) callerA (.call (.ref fa) ⟨[.ref a], []⟩) (fun r s' => r = .ok (.ret (.bool true)) ∧ OldK s₁.heap s'.heap ∧ s'.os = s₁.os ∧ AllBare s'.gens) s₁ := by
  have rv := vals_ints hi
  have lenV := hi.length
  -- from an abstract heap in which nothing but the script may be tracked
  have core : ∀ H : Hp, Only H → SqL K H a (ns.map V.int) → HOk P w H s₁.heap → (∀ b, H b ≠ none → b = a) → (H a ≠ none → K.lookup a = none) →
      codeAny (model P w) callerA (.call (.ref fa) ⟨[.ref a], []⟩) (fun r s' => r = .ok (.ret (.bool true)) ∧ OldK s₁.heap s'.heap ∧ s'.os = s₁.os ∧ AllBare s'.gens) s₁ := by
    intro H hO hS hok hA hK
    have base_of : ∀ {b : Addr} {o : Obj}, s₁.heap.get? b = some o → H b = none → (hidT s₁.heap H).get? b = some o := fun e n => hidT_get e n
    have noA : ∀ {b : Addr} {o : Obj} {es : Array DictEntry} {ep : Nat}, s₁.heap.get? b = some o → o.data = .dict es ep → H b = none := fun {b o es ep} e d => by
      cases q : H b with
      | none => rfl
      | some u =>
        have e' : b = a := hA b (by rw [q]; simp)
        subst e'
        rw [ha] at e; cases e
        have d' : Data.seq vs.toArray _ = Data.dict es ep := d
        cases d'
    have nsK : ∀ {b : Addr} {m : Str → Option Value}, s₁.heap.Ns b m → (hidT s₁.heap H).Ns b m := fun {b m} ⟨o, es, ep, e, d, r⟩ => ⟨o, es, ep, base_of e (noA e d), d, r⟩
    have hKb : K.In (hidT s₁.heap H) := fun b o e => base_of (KX b o e) (by
      cases q : H b with
      | none => rfl
      | some u =>
        have e' : b = a := hA b (by rw [q]; simp)
        subst e'
        rw [hK (by rw [q]; simp)] at e; cases e)
    have hM : Mod K mg (hidT s₁.heap H) := ⟨hKb, nsK hns, ⟨mb, nsK hb, hbb⟩, let ⟨mc, h1, h2⟩ := hlim; ⟨mc, nsK h1, h2⟩⟩
    have e0 : Env0 P w K mg (hidT s₁.heap H) callerA [] s₁ H := ⟨rfl, hM, fun b o e => of_hidT e, Nat.le_of_eq (hidT_size _ _), trivial, fun b hb => absurd (show b ∈ ([] : List Addr) from hb) (by simp), hok, .of_eq hg⟩
    refine codeAny_mono ((F _ hKb (nsK hns)).run callerA [] s₁ H ⟨[.ref a], []⟩ [.ref a] [.ref a] _ _ hr e0 (hbind s₁ (.ref a)) (.cons rfl .nil) (hsp H hO hS)) fun r s' h => ?_
    cases r with
    | error e => exact (hCX H e s' h).elim
    | ok fl =>
      cases fl with
      | next => exact False.elim h
      | brk => exact False.elim h
      | cont => exact False.elim h
      | ret u =>
        obtain ⟨v, H', os, bare, un, hok', r', q⟩ := h
        have q' : v = .bl true := q
        subst q'
        obtain rfl : u = Value.bool true := r'
        refine ⟨rfl, OldK.of_keep fun b o e => ?_, os, bare⟩
        cases q : H b with
        | none => exact un.keep b o e q (by intro z; exact absurd (show b ∈ ([] : List Addr) from z) (by simp)) (by simp)
        | some u =>
          rcases hO b with z | ⟨ob, xs, z⟩
          · rw [q] at z; cases z
          · have z2 := un.frzs b ob _ z
            obtain ⟨e1, _⟩ := hok b _ z
            obtain ⟨e2, _⟩ := hok' b _ z2
            rw [e] at e1; cases e1
            exact e2
  cases hk : K.lookup a with
  | some o =>
    -- the script is one of the module's own objects
    have e := KX a o hk
    rw [ha] at e
    cases e
    refine core (fun _ => none) (fun _ => .inl rfl) (.inr ⟨_, vs.toArray, _, hk, rfl, rfl, rfl, by rw [List.size_toArray, lenV]; exact hl, by simpa using rv⟩) (fun b u z => by have z' : (none : Option HO) = some u := z; cases z') (fun b z => absurd rfl z) fun z => absurd rfl z
  | none =>
    refine core (fun b => if b = a then some (.frz { cls := .type "list", data := .seq vs.toArray } (.lst (ns.map V.int))) else none) (fun b => ?_) (.inl (.inr ⟨{ cls := .type "list", data := .seq vs.toArray }, if_pos rfl⟩)) (fun b u z => ?_) (fun b z => ?_) fun _ => hk
    · by_cases hb : b = a
      · exact .inr ⟨_, _, if_pos hb⟩
      · exact .inl (if_neg hb)
    · by_cases hb : b = a
      · have z' := (if_pos hb).symm.trans z
        cases z'
        subst hb
        exact ⟨ha, by rw [List.length_map]; exact hl, vs, _, rv, ha⟩
      · have z' := (if_neg hb).symm.trans z
        cases z'
    · by_cases hb : b = a
      · exact hb
      · exact absurd (if_neg hb) z
end L2

namespace L2
open PySem PySem.Spec PyProof.Rows

abbrev KOf {K : PySem.W.Frag} {h : Heap} (_ : K.In h) : PySem.W.Frag := K

/-- the goal that k_head leaves (case hc), from the law's promise. F gives the function object fd (K's own) once, then the promise over every base -/
theorem walk_of {l : PySem.W.OpenLaw} {n k : Nat} {q : Program} {loose : List Str} {XP : (Str → Option Value) → Heap → Prop} {YP : World → Heap → Prop} {d : DefRec} {K : Params → PySem.W.Frag} {CX : World → CXT} {sp : World → Sp} {x : Str}
    (hn : l.most = some n) (hn2 : n ≤ sizeLine) (hdf : d.params.defaults = []) (hr : Room k callerA)
    (hY : ∀ (w : World) (h : Heap), YP w h → (K w.params).In h)
    (F : ∀ (w : World) (mg : Str → Option Value) (fa : Addr) (h : Heap), (K w.params).In h → h.Ns mainGlobals mg → mg d.name = some (.ref fa) →
      ∃ fd : FuncData, (∀ (s : Shared) (u : Value), BindsTo s fd ⟨[u], []⟩ [(x, u)]) ∧
        ∀ base : Heap, (K w.params).In base → base.Ns mainGlobals mg → FnOk l.prog w (K w.params) mg base (CX w) k fa fd [x] (sp w))
    (hsp : ∀ (w : World) (H : Hp) (a : Addr) (ns : List Int), ns.length ≤ n → Only H → SqL (K w.params) H a (ns.map V.int) → sp w [.ref a] H (fun v _ => v = .bl true) fun _ _ _ => False)
    (hCX : ∀ (w : World) (H : Hp) (s : Shared) (e : Value) (s' : Shared), CX w [] H s (fun _ _ _ => False) e s' → False) :
    PySem.W.WalkO q loose XP YP l.row.toRowW d [] (fun f vs => PySem.call f vs) := by
  refine Att.attach_call hn hdf fun w s₀ s₁ mg mb fa o pm cd doc a vs ns G Y ho hd hcd hmg hobj hints hlen hg => ?_
  have KX := hY w _ Y
  obtain ⟨fd, hb, hF⟩ := F w mg fa _ KX G.T.g hmg
  exact law_call KX G.T.g G.T.b G.T.builtins G.T.nolimit hg hobj hints (Nat.le_trans hlen hn2) hr hF hb (fun H hO hS => hsp w H a ns hlen hO hS) fun H e s' => hCX w H s₁ e s'
/-- the same where the promise hangs on the written part alone: (sp := My.sp_law), no hole under a binder -/
theorem walk_ofK {l : PySem.W.OpenLaw} {n k : Nat} {q : Program} {loose : List Str} {XP : (Str → Option Value) → Heap → Prop} {YP : World → Heap → Prop} {d : DefRec} {K : Params → PySem.W.Frag} {CX : CXT} {sp : PySem.W.Frag → Sp} {x : Str}
    (hn : l.most = some n) (hn2 : n ≤ sizeLine) (hdf : d.params.defaults = []) (hr : Room k callerA)
    (hY : ∀ (w : World) (h : Heap), YP w h → (K w.params).In h)
    (F : ∀ (w : World) (mg : Str → Option Value) (fa : Addr) (h : Heap), (K w.params).In h → h.Ns mainGlobals mg → mg d.name = some (.ref fa) →
      ∃ fd : FuncData, (∀ (s : Shared) (u : Value), BindsTo s fd ⟨[u], []⟩ [(x, u)]) ∧
        ∀ base : Heap, (K w.params).In base → base.Ns mainGlobals mg → FnOk l.prog w (K w.params) mg base CX k fa fd [x] (sp (K w.params)))
    (hsp : ∀ (K : PySem.W.Frag) (H : Hp) (a : Addr) (ns : List Int), ns.length ≤ n → Only H → SqL K H a (ns.map V.int) → sp K [.ref a] H (fun v _ => v = .bl true) fun _ _ _ => False)
    (hCX : ∀ (H : Hp) (s : Shared) (e : Value) (s' : Shared), CX [] H s (fun _ _ _ => False) e s' → False) :
    PySem.W.WalkO q loose XP YP l.row.toRowW d [] (fun f vs => PySem.call f vs) :=
  walk_of (K := K) (CX := fun _ => CX) (sp := fun w => sp (K w.params)) hn hn2 hdf hr hY F (fun w H a ns h1 h2 h3 => hsp (K w.params) H a ns h1 h2 h3) fun _ H s e s' => hCX H s e s'
end L2



/-! SHORT WORDS over the layer: a def of the text, its body, what a loop and a test want. -/
namespace L2
open PySem PySem.Spec PyProof.Rows

/-! ### the text by places -/
/-- the j-th statement of a class's body -/
def inClass (s : Stmt) (j : Nat) : Stmt := match s with
  | .ClassDef _ _ _ body _ _ _ _ _ _ _ => body.getD j (.Pass ⟨0, 0, 0, 0⟩)
  | _ => .Pass ⟨0, 0, 0, 0⟩
def defArgs (s : Stmt) : Arguments := match s with
  | .FunctionDef _ a _ _ _ _ _ _ _ _ => a
  | _ => { posonlyargs := [], args := [], vararg := none, kwonlyargs := [], kw_defaults := [], kwarg := none, defaults := [] }
def defBody (s : Stmt) : List Stmt := match s with
  | .FunctionDef _ _ b _ _ _ _ _ _ _ => b
  | _ => []
def defScope (s : Stmt) : Scope := match s with
  | .FunctionDef _ _ _ _ _ _ sc _ _ _ => sc
  | _ => { kind := .function, names := [], isGenerator := false, isCoroutine := false }

/-! ### no exception leaves a def -/
abbrev CX0 : CXT := fun _ _ _ _ _ _ => False
abbrev E0 : XK := fun _ _ _ => False
theorem pass0 {X : Cx} : Passes CX0 X E0 := fun _ _ _ _ _ _ _ h => h.elim

/-! ### a def (or method) of the text as it stands behind the top -/
structure Fun (K : PySem.W.Frag) (x qual : Str) (st : Stmt) (f : Addr) (fd : FuncData) : Prop where
  ex : ∃ (oc : Value) (od : Option Addr) (kV doc pm : Value) (an : Option Addr) (cdv ct : Value) (osl : Array (Option Value)),
    fd = PySem.W.fnOf x qual (defArgs st) (defBody st) (defScope st) .none kV doc pm an cdv ct ∧ K.lookup f = some ⟨oc, od, .func fd, osl⟩ ∧ PySem.W.codeIn K cdv qual = true
  kp : PySem.W.keepIn K (.ref f) = true
section
variable {P : Program} {w : World} {K : PySem.W.Frag} {mg : Str → Option Value} {base : Heap}
/-- THE RULE for a def: its body as a term of rules, and the reading of that term -/
theorem Fun.ok {x qual : Str} {st : Stmt} {f : Addr} {fd : FuncData} {N ps : List Str} {k : Nat} {sp : Sp} (F : Fun K x qual st f fd) (S : FnScope N ps (defScope st)) (len : ∀ vs H Q E, sp vs H Q E → vs.length = ps.length)
    (hbody : ∀ (cdv : Value) (A : Around) (outer : List Env) (s : Shared) (H : Hp) (vs : List V) (Q : VK) (E : XK), Room k (A.deeper (envOfC qual (defScope st) s.heap.objs.size f cdv)) → sp vs H Q E →
      ∃ t, PSs (cxOf CX0 P w K mg base N qual (defScope st) f cdv A outer s H E).nox (defBody st) t ∧ t { nx := fun _ H' => Q .non H', rt := Q } (start N vs) H) : FnOk P w K mg base CX0 (k + 1) f fd ps sp := by
  obtain ⟨oc, od, kV, doc, pm, an, cdv, ct, osl, rfl, lk, hcd⟩ := F.ex
  refine fn_of lk hcd S len fun A outer s H vs Q E hr hsp => ?_
  obtain ⟨t, h, q⟩ := hbody cdv A outer s H vs Q E hr hsp
  exact ⟨t, h.nox, q⟩
/-- how its arguments bind (no defaults): h is «fun _ _ _ _ _ _ us hl => match us, hl with | [_, _], _ => rfl», one _ a parameter -/
theorem Fun.binds {x qual : Str} {st : Stmt} {f : Addr} {fd : FuncData} {ps : List Str} (F : Fun K x qual st f fd)
    (h : ∀ (kV doc pm : Value) (an : Option Addr) (cdv ct : Value) (us : List Value), us.length = ps.length → bindArgs (PySem.W.fnOf x qual (defArgs st) (defBody st) (defScope st) .none kV doc pm an cdv ct) ⟨us, []⟩ = pure (ps.zip us)) : Binds K fd ps [] := by
  obtain ⟨oc, od, kV, doc, pm, an, cdv, ct, osl, rfl, lk, hcd⟩ := F.ex
  exact .all (h kV doc pm an cdv ct)
theorem fun_mk {x qual : Str} {st : Stmt} {f : Addr} {oc : Value} {od an : Option Addr} {osl : Array (Option Value)} {kV doc pm cdv ct : Value} (l : K.lookup f = some ⟨oc, od, .func (PySem.W.fnOf x qual (defArgs st) (defBody st) (defScope st) .none kV doc pm an cdv ct), osl⟩)
    (c : PySem.W.codeIn K cdv qual = true) (k : PySem.W.keepIn K (.ref f) = true) : Fun K x qual st f (PySem.W.fnOf x qual (defArgs st) (defBody st) (defScope st) .none kV doc pm an cdv ct) := ⟨⟨oc, od, kV, doc, pm, an, cdv, ct, osl, rfl, l, c⟩, k⟩
end
/-! ### expressions in short: the name that stands in the i-th slot -/
section
variable {X : Cx}
theorem pv (i : Nat) {x : Str} {pos : Pos} (hN : X.N[i]? = some x := by rfl) (hv : Vis X.env.scope x := by first | exact Or.inl rfl | exact Or.inr (Or.inl rfl) | exact Or.inr (Or.inr rfl)) (hd : (x == ("__debug__" : Str)) = false := by decide)
    (hcd : (x == ("__classdict__" : Str)) = false := by decide) : PE X (.Name x pos) (tVar i) := pe_var hN hv hd hcd
end

/-! ### tests -/
/-! ### heaps -/
/-- all that was tracked is as it was -/
def Same (H H' : Hp) : Prop := ∀ b o, H b = some o → H' b = some o
theorem Same.refl (H : Hp) : Same H H := fun _ _ h => h
theorem Same.trans {H H1 H2 : Hp} (a : Same H H1) (b : Same H1 H2) : Same H H2 := fun c o h => b c o (a c o h)
theorem Same.free {H H' : Hp} (e : Same H H') {l : Addr} (h : H' l = Option.none) : H l = Option.none := by
  cases q : H l with
  | none => rfl
  | some o =>
    rw [e l o q] at h
    cases h
end L2

set_option maxRecDepth 100000
namespace L2
open PySem PySem.Spec PyProof.Rows

/-! ### lists of pairs as tables -/
section
variable {κ : Type} [DecidableEq κ]
def valV (kvs : List (κ × V)) (k : κ) : Option V := (kvs.find? fun kv => decide (kv.1 = k)).map (·.2)
/-- in its place, or at the end -/
def putK (kvs : List (κ × V)) (k : κ) (v : V) : List (κ × V) :=
  if (kvs.any fun kv => decide (kv.1 = k)) = true then kvs.map (fun kv => if kv.1 = k then (kv.1, v) else kv) else kvs ++ [(k, v)]
def dropK (kvs : List (κ × V)) (k : κ) : List (κ × V) := kvs.filter fun kv => decide (kv.1 ≠ k)

end


/-! ### a tracked dict, its keys ints and texts or tuples of these -/
/-- raw entries of a dict with tuple keys -/
abbrev KT (H : Hp) : List (List Key × V) → List (List Key × Addr × Value) → Prop := Paired fun p q => p.1 = q.1 ∧ H q.2.1 = some (.tup (p.1.map kV)) ∧ RelV p.2 q.2.2
section
variable {P : Program} {w : World} {H : Hp} {h : Heap} {a : Addr}
end

/-- what the dict at a holds at the key y -/
def DGet (H : Hp) (a : Addr) (y : V) (r : Option V) : Prop :=
  (∃ kvs k, Rd H a (.dK kvs) ∧ y = kV k ∧ r = valV kvs k) ∨ ∃ kvs k b, Rd H a (.dT kvs) ∧ y = .ref b ∧ H b = some (.tup (k.map kV)) ∧ r = valV kvs k
/-- the heap behind a[y] = v -/
def DPut (H : Hp) (a : Addr) (y v : V) (H' : Hp) : Prop :=
  (∃ kvs k, H a = some (.dK kvs) ∧ y = kV k ∧ kvs.length < sizeLine ∧ H' = upd H a (.dK (putK kvs k v))) ∨
  ∃ kvs k b, H a = some (.dT kvs) ∧ y = .ref b ∧ H b = some (.tup (k.map kV)) ∧ kvs.length < sizeLine ∧ H' = upd H a (.dT (putK kvs k v))
section
variable {X : Cx} {pins : List (Addr × Obj)} {σ : St} {H : Hp} {s : Shared} {a : Addr} {y v : V} {u r : Value} {o : Option V} {A : Around} {E : Value → Shared → Prop}

theorem Inv.big (I : Inv X pins σ H s) : sysModules < s.heap.objs.size := by
  have h : mainGlobals < s.heap.objs.size := (I.mod.glob.keeps I.bk).lt
  exact Nat.lt_trans (by decide) h

end

section
variable {X : Cx} {pins : List (Addr × Obj)} {σ : St} {H : Hp} {s : Shared} {a : Addr} {kvs : List (Key × V)} {k : Key} {u : Value} {A : Around} {E : Value → Shared → Prop}
end


/-! ### readings and rules -/
/-- the element of a subscription, not a slice -/
def NoSl (i : Expr) : Prop := ∀ ov iv, subscripted i false ov iv = operate [ov, iv] (getItem ov iv)
/-- d[y] -/
def tDGet (td ty : TE) : TE := fun σ H Q => td σ H fun x H1 => ty σ H1 fun y H2 => ∃ a v, x = .ref a ∧ DGet H2 a y (some v) ∧ Q v H2
/-- y in d, y not in d -/
def tDIn (ty td : TE) : TE := fun σ H Q => ty σ H fun y H1 => td σ H1 fun x H2 => ∃ a o, x = .ref a ∧ DGet H2 a y o ∧ Q (.bl o.isSome) H2
def tDNotIn (ty td : TE) : TE := fun σ H Q => ty σ H fun y H1 => td σ H1 fun x H2 => ∃ a o, x = .ref a ∧ DGet H2 a y o ∧ Q (.bl (!o.isSome)) H2
/-- d[y] = v -/
def sDPut (td ty tv : TE) : TS := fun D σ H => tv σ H fun v H1 => td σ H1 fun x H2 => ty σ H2 fun y H3 => ∃ a H4, x = .ref a ∧ DPut H3 a y v H4 ∧ D.nx σ H4
/-- d[y] op= v -/
def sDAug (td ty tv : TE) (rd : V → V → Hp → VK → Prop) : TS := fun D σ H => td σ H fun x H1 => ty σ H1 fun y H2 => ∃ a v, x = .ref a ∧ DGet H2 a y (some v) ∧
  tv σ H2 fun y2 H3 => rd v y2 H3 fun z H4 => ∃ H5, DPut H4 a y z H5 ∧ D.nx σ H5
/-- del d[y] -/
def sDDel (td ty : TE) : TS := fun D σ H => td σ H fun x H1 => ty σ H1 fun y H2 => ∃ a kvs k, x = .ref a ∧ H2 a = some (.dK kvs) ∧ y = kV k ∧ (valV kvs k).isSome = true ∧ D.nx σ (upd H2 a (.dK (dropK kvs k)))

section
variable {X : Cx} {o i e value : Expr} {pos pos' tpos : Pos} {td ty tv : TE}
end


/-! ### displays -/
theorem dk_empty {P : Program} {w : World} {H : Hp} (h : Heap) (hb : sysModules < h.objs.size) : ObjOk P w H (h.push { cls := .type "dict", data := .dict #[] }) h.objs.size (.dK []) :=
  ⟨Nat.zero_le _, beq_eq_false_iff_ne.mpr (Ne.symm (Nat.ne_of_lt hb)), [], .nil, Heap.DictOf.new h⟩
/-- {}, to be a dict of the kind that is wanted -/
def tDNewK : TE := fun _ H Q => ∀ p, H p = none → Q (.ref p) (upd H p (.dK []))
def tDNewT : TE := fun _ H Q => ∀ p, H p = none → Q (.ref p) (upd H p (.dT []))
section
variable {X : Cx} {pos : Pos}
theorem pe_dnewK : PE X (.Dict [] [] pos) tDNewK := fun pins s σ H Q I h =>
  wpAny_Dict_empty ⟨.ref s.heap.objs.size, _, I.laid (a := s.heap.objs.size) (o := .dK []) (t' := s.toks) (fun _ _ q => Heap.get?_push_of_some _ q) (Nat.le_refl _) (dk_empty s.heap I.big), rfl, h _ (I.hok.fresh (Nat.le_refl _))⟩
end

/-- the pairs of a display, from the left -/
def tPairs : List (TE × TE) → St → Hp → (List (V × V) → Hp → Prop) → Prop
  | [], _, H, Q => Q [] H
  | (tk, tv) :: r, σ, H, Q => tk σ H fun x H1 => tv σ H1 fun y H2 => tPairs r σ H2 fun ps H3 => Q ((x, y) :: ps) H3
abbrev VV : List (V × V) → List (Value × Value) → Prop := Paired fun p q => RelV p.1 q.1 ∧ RelV p.2 q.2
def PPs (X : Cx) (pos : Pos) (keys : List (Option Expr)) (values : List Expr) (trs : List (TE × TE)) : Prop :=
  ∀ (pins : List (Addr × Obj)) (s : Shared) (σ : St) (H : Hp) (Q : List (V × V) → Hp → Prop), Inv X pins σ H s → tPairs trs σ H Q →
    wpAny (model X.prog X.w) X.A (evalPairs (pairTrees keys values X.env pos)) (fun vs s' => ∃ ps H', Inv X pins σ H' s' ∧ VV ps vs ∧ Q ps H') X.xe s
def mergeK (kvs more : List (Key × V)) : List (Key × V) := more.foldl (fun acc kv => putK acc kv.1 kv.2) kvs
/-- {k: v, ..} with keys ints and texts; the new dict stands empty while the pairs are made -/
def tDisp (trs : List (TE × TE)) : TE := fun σ H Q => ∀ p, H p = none → tPairs trs σ (upd H p (.dK [])) fun ps H2 => H2 p = some (.dK []) ∧ ∃ kvs : List (Key × V), ps = kvs.map (fun kv => (kV kv.1, kv.2)) ∧ kvs.length ≤ 15 ∧ Q (.ref p) (upd H2 p (.dK (mergeK [] kvs)))
/-! ### methods -/
/-- a method call o.m(e) of a built-in, with one argument: what must be seen of the text -/
structure M1 (X : Cx) (o : Expr) (m : Str) (apos : Pos) (e : Expr) (cpos : Pos) : Prop where
  base : attributeBase o m X.env (eval o X.env) = eval o X.env
  few : ((backTo cpos (starEach [e] X.env)).all (fun x => !x.1) && (backToKw cpos (keywordEach [] X.env)).all (fun x => x.1.isSome)
    && decide (([e] : List Expr).length + ([] : List Keyword).length + (if ([] : List Keyword).isEmpty then 0 else 1) < 30)) = true
  line : (apos.endLine == cpos.line) = true
  trees : backTo cpos (starEach [e] X.env) = [(false, eval e X.env)]
structure M2 (X : Cx) (o : Expr) (m : Str) (apos : Pos) (e f : Expr) (cpos : Pos) : Prop where
  base : attributeBase o m X.env (eval o X.env) = eval o X.env
  few : ((backTo cpos (starEach [e, f] X.env)).all (fun x => !x.1) && (backToKw cpos (keywordEach [] X.env)).all (fun x => x.1.isSome)
    && decide (([e, f] : List Expr).length + ([] : List Keyword).length + (if ([] : List Keyword).isEmpty then 0 else 1) < 30)) = true
  line : (apos.endLine == cpos.line) = true
  trees : backTo cpos (starEach [e, f] X.env) = [(false, eval e X.env), (false, eval f X.env)]

/-- a is a dict, whatever its keys -/
def IsD (H : Hp) (a : Addr) : Prop := (∃ kvs, Rd H a (.dK kvs)) ∨ ∃ kvs, Rd H a (.dT kvs)
section
variable {X : Cx} {pins : List (Addr × Obj)} {σ : St} {H : Hp} {s : Shared} {a : Addr} {y d : V} {u r : Value} {o : Option V} {A : Around} {E : Value → Shared → Prop}
end

def tDGet1 (td ty : TE) : TE := fun σ H Q => td σ H fun x H1 => ∃ a, x = .ref a ∧ IsD H1 a ∧ ty σ H1 fun y H2 => ∃ o, DGet H2 a y o ∧ Q (o.getD .non) H2
def tDGet2 (td ty tx : TE) : TE := fun σ H Q => td σ H fun x H1 => ∃ a, x = .ref a ∧ IsD H1 a ∧ ty σ H1 fun y H2 => tx σ H2 fun z H3 => ∃ o, DGet H3 a y o ∧ Q (o.getD z) H3
/-- d.pop(k): there; d.pop(k, x): there or not -/
def tDPop1 (td ty : TE) : TE := fun σ H Q => td σ H fun x H1 => ∃ a, x = .ref a ∧ IsD H1 a ∧ ty σ H1 fun y H2 => ∃ kvs k v, H2 a = some (.dK kvs) ∧ y = kV k ∧ valV kvs k = some v ∧ Q v (upd H2 a (.dK (dropK kvs k)))
def tDPop2 (td ty tx : TE) : TE := fun σ H Q => td σ H fun x H1 => ∃ a, x = .ref a ∧ IsD H1 a ∧ ty σ H1 fun y H2 => tx σ H2 fun z H3 => ∃ kvs k, H3 a = some (.dK kvs) ∧ y = kV k ∧
  (∀ v, valV kvs k = some v → Q v (upd H3 a (.dK (dropK kvs k)))) ∧ (valV kvs k = none → Q z H3)
section
variable {X : Cx} {o e f : Expr} {apos cpos : Pos} {td ty tx : TE}
end

/-! ### dict(d): a copy -/
section
variable {X : Cx} {pins : List (Addr × Obj)} {σ : St} {H : Hp} {s : Shared} {a : Addr} {kvs : List (Key × V)} {A : Around} {E : Value → Shared → Prop}
end


section
variable {X : Cx} {pins : List (Addr × Obj)} {σ : St} {H : Hp} {s : Shared} {a : Addr} {y : V} {u : Value} {A : Around} {E : Value → Shared → Prop}
end
end L2
namespace L2
open PySem PySem.Spec PyProof.Rows
section
variable {X : Cx}
end
/-! ### a dict's pairs: keys that differ -/
section
variable {κ : Type} [DecidableEq κ]
end
end L2

set_option maxRecDepth 100000
namespace Zt
open PySem PySem.Spec

/-- what an iterator at i yields: its k-th item -/
structure Src (i : Addr) (fp : List Addr) (S : Nat → Heap → Prop) (nth : Nat → Option Value) : Prop where
  mem : i ∈ fp
  stay : ∀ k h h', S k h → (∀ b ∈ fp, ∀ o, h.get? b = some o → h'.get? b = some o) → S k h'
  obj : ∀ k h, S k h → ∃ o, h.get? i = some o ∧ ∀ v, o.data ≠ .cell v
  item : ∀ {prog : Program} {w : World} {A : Around} {E : Value → Shared → Prop} {s : Shared} {Q : Value → Shared → Prop} {k : Nat} {x : Value}, S k s.heap → nth k = some x →
    (∀ h', S (k + 1) h' → Heap.SameBut i s.heap h' → Q x { s with heap := h' }) → wpAny (model prog w) A (Builtin.SmallTypes.nextOf (.ref i)) Q E s
  fin : ∀ {prog : Program} {w : World} {A : Around} {E : Value → Shared → Prop} {s : Shared} {Q : Value → Shared → Prop} {k : Nat}, A.handled = none → S k s.heap → nth k = none →
    (∀ h' e, Heap.ExtBut i s.heap h' → (∃ o, h'.get? e = some o ∧ o.cls = .type "StopIteration") → E (.ref e) { s with heap := h' }) → wpAny (model prog w) A (Builtin.SmallTypes.nextOf (.ref i)) Q E s

theorem srcT (i t : Addr) (hne : t ≠ i) (its : Array Value) : Src i [i, t] (fun k h => h.IsTupleIter i t k ∧ h.IsTuple t its) (fun k => its[k]?) where
  mem := List.mem_cons_self
  stay := by
    rintro k h h' ⟨⟨o, e, r⟩, ⟨o2, e2, r2⟩⟩ hk
    exact ⟨⟨o, hk i (by simp) o e, r⟩, ⟨o2, hk t (by simp) o2 e2, r2⟩⟩
  obj := by
    rintro k h ⟨⟨o, e, c, d⟩, _⟩
    exact ⟨o, e, fun v z => by rw [d] at z; cases z⟩
  item := by
    rintro prog w A E s Q k x ⟨hit, ht⟩ hx hQ
    obtain ⟨o, ho, hc, hd⟩ := id hit; obtain ⟨ol, hol, hlc, nl, hdl⟩ := id ht
    unfold Builtin.SmallTypes.nextOf
    refine wpAny_bind (wpAny_callSpecial?_slot (name := Str.ofString "__next__") hit.typeIs F.slot_tuple_iterator_next (wpAny_call_entry F.slot_tuple_iterator_next hit.typeIs F.entry_tuple_iterator_next ?_ (F.args_tuple_iterator_next_1 _)))
    show wpAny _ _ (field (.ref i) 0 >>= _) _ _ s; refine wpAny_bind (wpAny_field ho hd (x := .ref t) rfl ?_)
    show wpAny _ _ (if (Value.ref t == Value.none) = true then _ else _) _ _ s; rw [if_neg (show ¬ ((Value.ref t == Value.none) = true) from Bool.false_ne_true)]
    show wpAny _ _ (field (.ref i) 1 >>= _) _ _ s; refine wpAny_bind (wpAny_field ho hd (x := .int k 0) rfl ?_)
    show wpAny _ _ (seqItems? (.ref t) >>= _) _ _ s; refine wpAny_bind (wpAny_seqItems hol hdl ?_)
    simp only [Int.toNat_natCast, hx]
    refine wpAny_bind (wpAny_setField ho hd (by simp) (wpAny_pure ⟨x, rfl, wpAny_pure (hQ _ ⟨?_, ht.extBut (Heap.SameBut.update ..).extBut hne⟩ (Heap.SameBut.update ..))⟩))
    refine ⟨_, Heap.get?_update_self _ ho (Obj.isFreed_of_fields (Obj.data_mapFields hd _)), (Obj.cls_mapFields ..).trans hc, ?_⟩
    rw [Obj.data_mapFields hd]; simp [rawInt]
  fin := by
    rintro prog w A E s Q k hh ⟨hit, ht⟩ hx hE
    obtain ⟨o, ho, hc, hd⟩ := id hit; obtain ⟨ol, hol, hlc, nl, hdl⟩ := id ht
    unfold Builtin.SmallTypes.nextOf
    refine wpAny_bind (wpAny_callSpecial?_slot (name := Str.ofString "__next__") hit.typeIs F.slot_tuple_iterator_next (wpAny_call_entry F.slot_tuple_iterator_next hit.typeIs F.entry_tuple_iterator_next ?_ (F.args_tuple_iterator_next_1 _)))
    show wpAny _ _ (field (.ref i) 0 >>= _) _ _ s; refine wpAny_bind (wpAny_field ho hd (x := .ref t) rfl ?_)
    show wpAny _ _ (if (Value.ref t == Value.none) = true then _ else _) _ _ s; rw [if_neg (show ¬ ((Value.ref t == Value.none) = true) from Bool.false_ne_true)]
    show wpAny _ _ (field (.ref i) 1 >>= _) _ _ s; refine wpAny_bind (wpAny_field ho hd (x := .int k 0) rfl ?_)
    show wpAny _ _ (seqItems? (.ref t) >>= _) _ _ s; refine wpAny_bind (wpAny_seqItems hol hdl ?_)
    simp only [Int.toNat_natCast, hx]
    refine wpAny_bind (wpAny_rule (wpAny_bind (wpAny_setField ho hd (by simp) ?_))); show wpAny _ _ (newExc (.type "StopIteration") [] >>= _) _ _ _
    refine wpAny_bind ?_; simp only [newExc, newTuple]; refine wpAny_bind (wpAny_newObj_type ?_ (by size_fits))
    refine wpAny_bind (m := firstArgMember _ _) (wpAny_of_eq (a := Value.none) (by first | rfl | (simp only [firstArgMember]; rfl)) ?_); refine wpAny_newObj_type ?_ (by size_fits)
    simp only [raiseNew]; refine wpAny_bind (wpAny_handled ?_); first | rw [show A.in1.handled = none from hh] | rw [hh]
    refine wpAny_bind (wpAny_pure (wpAny_throw ?_)); exact hE _ _ (((Heap.SameBut.update ..).extBut.push _).push _) ⟨_, Heap.get?_push_size _ rfl, rfl⟩

/-- the addresses of a zip's own things lie apart -/
structure Apart (z TI TO i1 i2 : Addr) (f1 f2 : List Addr) : Prop where
  TIz : TI ≠ z
  TOz : TO ≠ z
  i1z : i1 ≠ z
  i2z : i2 ≠ z
  TITO : TI ≠ TO
  TIi1 : TI ≠ i1
  TIi2 : TI ≠ i2
  TOi1 : TO ≠ i1
  TOi2 : TO ≠ i2
  i12 : i1 ≠ i2
  z1 : z ∉ f1
  z2 : z ∉ f2
  o1 : TO ∉ f1
  o2 : TO ∉ f2
  c12 : i1 ∉ f2
  c21 : i2 ∉ f1

section
variable {prog : Program} {w : World} {A : Around} {E : Value → Shared → Prop} {s : Shared} {z TI TO i1 i2 : Addr} {f1 f2 : List Addr} {S1 S2 : Nat → Heap → Prop} {n1 n2 : Nat → Option Value} {k1 k2 : Nat} {a b : Value}
theorem Src.but {i : Addr} {fp : List Addr} {S : Nat → Heap → Prop} {nth : Nat → Option Value} (R : Src i fp S nth) {k : Nat} {h h' : Heap} {c : Addr} (st : S k h) (e : Heap.ExtBut c h h') (hc : c ∉ fp) : S k h' :=
  R.stay k h h' st fun b hb o q => e b o (fun z => hc (z ▸ hb)) q

theorem next_item {x y : Value} {Q : Value → Shared → Prop} (R1 : Src i1 f1 S1 n1) (R2 : Src i2 f2 S2 n2) (D : Apart z TI TO i1 i2 f1 f2)
    (hz : IsZip s.heap z TI TO .none) (hTI : IsPair s.heap TI (.ref i1) (.ref i2)) (hTO : IsPair s.heap TO a b) (h1 : S1 k1 s.heap) (h2 : S2 k2 s.heap) (hx : n1 k1 = some x) (hy : n2 k2 = some y)
    (hQ : ∀ h', IsZip h' z TI TO (rawInt s.heap.objs.size) → IsPair h' TO x y → S1 (k1 + 1) h' → S2 (k2 + 1) h' → IsPair h' s.heap.objs.size x y →
      (∀ c o, c ≠ z → c ≠ TO → c ≠ i1 → c ≠ i2 → s.heap.get? c = some o → h'.get? c = some o) → Q (.ref s.heap.objs.size) { s with heap := h' }) :
    wpAny (model prog w) A (Builtin.«zip.__next__» ⟨[.ref z], []⟩) (fun fin s' => ∃ v, fin = .done (.ret v) ∧ Q v s') E s := by
  show wpAny _ _ (field (.ref z) 2 >>= _) _ _ _; refine wpAny_bind (wpAny_field hz rfl (x := .bool false) rfl ?_)
  show wpAny _ _ (field (.ref z) 3 >>= _) _ _ _; refine wpAny_bind (wpAny_field hz rfl (x := .ref TI) rfl ?_); refine wpAny_bind (wpAny_seqItems hTI rfl ?_)
  show wpAny _ _ (Builtin.SmallTypes.ownedTupleIsFree (.ref z) >>= _) _ _ _; refine wpAny_bind ?_; unfold Builtin.SmallTypes.ownedTupleIsFree
  refine wpAny_bind (wpAny_field hz rfl (x := .none) rfl (wpAny_pure ?_)); simp only [if_true]; refine wpAny_bind (wpAny_rule ?_)
  refine wpAny_bind (wpAny_field hz rfl (x := .ref TO) rfl ?_); refine wpAny_bind (wpAny_setField_rec hz (by simp) fun h₁ hz₁ hs₁ => ?_)
  replace hz₁ : IsZip h₁ z TI TO .ellipsis := hz₁
  refine wpAny_bind ?_; simp only [List.zipIdx_cons, List.zipIdx_nil, List.forIn_cons, List.forIn_nil]
  refine wpAny_bind (wpAny_bind (wpAny_onRaise ?_)); show wpAny _ _ (Builtin.SmallTypes.nextOf (.ref i1) >>= _) _ _ _
  refine wpAny_bind (R1.item (R1.but h1 hs₁.extBut D.z1) hx fun h₂ g1 hs₂ => wpAny_pure ?_)
  have t2 : IsPair h₂ TO a b := hs₂.extBut _ _ D.TOi1 (hs₁.extBut _ _ D.TOz hTO)
  refine wpAny_bind (wpAny_seqItems t2 rfl ?_); refine wpAny_bind (wpAny_updateSeq_pair t2 fun h₃ t3 hs₃ => ?_)
  replace t3 : IsPair h₃ TO x b := t3
  refine wpAny_bind (wpAny_letGo (wpAny_pure ?_)); refine wpAny_bind (wpAny_bind (wpAny_onRaise ?_)); show wpAny _ _ (Builtin.SmallTypes.nextOf (.ref i2) >>= _) _ _ _
  refine wpAny_bind (R2.item (R2.but (R2.but (R2.but h2 hs₁.extBut D.z2) hs₂.extBut D.c12) hs₃.extBut D.o2) hy fun h₄ g2 hs₄ => wpAny_pure ?_)
  have t4 : IsPair h₄ TO x b := hs₄.extBut _ _ D.TOi2 t3
  refine wpAny_bind (wpAny_seqItems t4 rfl ?_); refine wpAny_bind (wpAny_updateSeq_pair t4 fun h₅ t5 hs₅ => ?_)
  replace t5 : IsPair h₅ TO x y := t5
  refine wpAny_bind (wpAny_letGo (wpAny_pure (wpAny_pure ?_))); refine wpAny_bind (wpAny_seqItems t5 rfl ?_); refine wpAny_bind (wpAny_newTuple ?_)
  have hsz : h₅.objs.size = s.heap.objs.size := by rw [hs₅.1, hs₄.1, hs₃.1, hs₂.1, hs₁.1]
  have z5 : IsZip h₅ z TI TO .ellipsis := hs₅.extBut _ _ D.TOz.symm (hs₄.extBut _ _ D.i2z.symm (hs₃.extBut _ _ D.TOz.symm (hs₂.extBut _ _ D.i1z.symm hz₁)))
  have k5 : ∀ c o, c ≠ z → c ≠ TO → c ≠ i1 → c ≠ i2 → s.heap.get? c = some o → h₅.get? c = some o := fun c o c1 c2 c3 c4 e =>
    hs₅.extBut _ _ c2 (hs₄.extBut _ _ c4 (hs₃.extBut _ _ c2 (hs₂.extBut _ _ c3 (hs₁.extBut _ _ c1 e))))
  have e1 : S1 (k1 + 1) h₅ := R1.but (R1.but (R1.but g1 hs₃.extBut D.o1) hs₄.extBut D.c21) hs₅.extBut D.o1
  have e2 : S2 (k2 + 1) h₅ := R2.but g2 hs₅.extBut D.o2
  have lz : z < h₅.objs.size := Heap.lt_size z5
  show wpAny _ _ (Builtin.SmallTypes.ownedTupleHandOut (.ref z) (.ref h₅.objs.size) >>= _) _ _ _; refine wpAny_bind ?_; unfold Builtin.SmallTypes.ownedTupleHandOut
  have z6 : IsZip (h₅.push { cls := .type "tuple", data := .seq #[x, y] }) z TI TO .ellipsis := Heap.get?_push_of_some _ z5
  refine wpAny_bind (wpAny_setField_rec z6 (by simp) fun h₇ z7 hs₇ => ?_)
  replace z7 : IsZip h₇ z TI TO (rawInt h₅.objs.size) := z7
  refine wpAny_setField_rec z7 (by simp) fun h₈ z8 hs₈ => ?_
  replace z8 : IsZip h₈ z TI TO (rawInt h₅.objs.size) := z8
  have up : ∀ c o, c ≠ z → h₅.get? c = some o → h₈.get? c = some o := fun c o c1 e => hs₈.extBut _ _ c1 (hs₇.extBut _ _ c1 (Heap.get?_push_of_some _ e))
  have t8 : IsPair h₈ h₅.objs.size x y := hs₈.extBut _ _ (Nat.ne_of_gt lz) (hs₇.extBut _ _ (Nat.ne_of_gt lz) (Heap.get?_push_size _ rfl))
  rw [hsz] at z8 t8
  refine wpAny_pure ⟨_, rfl, ?_⟩; show Q (.ref h₅.objs.size) _; rw [hsz]
  exact hQ h₈ z8 (up _ _ D.TOz t5) (R1.stay _ _ _ e1 fun c hc o e => up c o (fun q => D.z1 (q ▸ hc)) e) (R2.stay _ _ _ e2 fun c hc o e => up c o (fun q => D.z2 (q ▸ hc)) e) t8 fun c o c1 c2 c3 c4 e => up c o c1 (k5 c o c1 c2 c3 c4 e)

theorem next_end {Q : Fin → Shared → Prop} (hh : A.handled = none) (R1 : Src i1 f1 S1 n1) (R2 : Src i2 f2 S2 n2) (D : Apart z TI TO i1 i2 f1 f2)
    (hz : IsZip s.heap z TI TO .none) (hTI : IsPair s.heap TI (.ref i1) (.ref i2)) (hTO : IsPair s.heap TO a b) (h1 : S1 k1 s.heap) (h2 : S2 k2 s.heap) (hend : n1 k1 = none ∨ n2 k2 = none)
    (hE : ∀ h' e, (∀ c o, c ≠ z → c ≠ TO → c ≠ i1 → c ≠ i2 → s.heap.get? c = some o → h'.get? c = some o) → (∃ o, h'.get? e = some o ∧ o.cls = .type "StopIteration") → E (.ref e) { s with heap := h' }) :
    wpAny (model prog w) A (Builtin.«zip.__next__» ⟨[.ref z], []⟩) Q E s := by
  show wpAny _ _ (field (.ref z) 2 >>= _) _ _ _; refine wpAny_bind (wpAny_field hz rfl (x := .bool false) rfl ?_)
  show wpAny _ _ (field (.ref z) 3 >>= _) _ _ _; refine wpAny_bind (wpAny_field hz rfl (x := .ref TI) rfl ?_); refine wpAny_bind (wpAny_seqItems hTI rfl ?_)
  show wpAny _ _ (Builtin.SmallTypes.ownedTupleIsFree (.ref z) >>= _) _ _ _; refine wpAny_bind ?_; unfold Builtin.SmallTypes.ownedTupleIsFree
  refine wpAny_bind (wpAny_field hz rfl (x := .none) rfl (wpAny_pure ?_)); simp only [if_true]; refine wpAny_bind (wpAny_rule ?_)
  refine wpAny_bind (wpAny_field hz rfl (x := .ref TO) rfl ?_); refine wpAny_bind (wpAny_setField_rec hz (by simp) fun h₁ hz₁ hs₁ => ?_)
  replace hz₁ : IsZip h₁ z TI TO .ellipsis := hz₁
  refine wpAny_bind ?_; simp only [List.zipIdx_cons, List.zipIdx_nil, List.forIn_cons, List.forIn_nil]
  refine wpAny_bind (wpAny_bind (wpAny_onRaise ?_)); show wpAny _ _ (Builtin.SmallTypes.nextOf (.ref i1) >>= _) _ _ _
  cases hx : n1 k1 with
  | none =>
    refine wpAny_bind (R1.fin hh (R1.but h1 hs₁.extBut D.z1) hx fun h₂ e hs₂ he => ?_)
    obtain ⟨oe, hoe, hce⟩ := he
    have hz₂ : IsZip h₂ z TI TO .ellipsis := hs₂ _ _ D.i1z.symm hz₁
    have hez : e ≠ z := fun x => by subst x; rw [hz₂] at hoe; cases hoe; simp at hce
    exact wpAny_setField_rec hz₂ (by simp) fun h₃ _ hs₃ => hE h₃ e (fun c o c1 _ c3 _ x => hs₃.extBut _ _ c1 (hs₂ _ _ c3 (hs₁.extBut _ _ c1 x))) ⟨oe, hs₃.extBut _ _ hez hoe, hce⟩
  | some x =>
    have hy : n2 k2 = none := by
      rcases hend with h | h
      · rw [hx] at h; cases h
      · exact h
    refine wpAny_bind (R1.item (R1.but h1 hs₁.extBut D.z1) hx fun h₂ g1 hs₂ => wpAny_pure ?_)
    have t2 : IsPair h₂ TO a b := hs₂.extBut _ _ D.TOi1 (hs₁.extBut _ _ D.TOz hTO)
    refine wpAny_bind (wpAny_seqItems t2 rfl ?_); refine wpAny_bind (wpAny_updateSeq_pair t2 fun h₃ t3 hs₃ => ?_)
    refine wpAny_bind (wpAny_letGo (wpAny_pure ?_)); refine wpAny_bind (wpAny_bind (wpAny_onRaise ?_)); show wpAny _ _ (Builtin.SmallTypes.nextOf (.ref i2) >>= _) _ _ _
    refine wpAny_bind (R2.fin hh (R2.but (R2.but (R2.but h2 hs₁.extBut D.z2) hs₂.extBut D.c12) hs₃.extBut D.o2) hy fun h₄ e hs₄ he => ?_)
    obtain ⟨oe, hoe, hce⟩ := he
    have hz₄ : IsZip h₄ z TI TO .ellipsis := hs₄ _ _ D.i2z.symm (hs₃.extBut _ _ D.TOz.symm (hs₂.extBut _ _ D.i1z.symm hz₁))
    have hez : e ≠ z := fun x => by subst x; rw [hz₄] at hoe; cases hoe; simp at hce
    exact wpAny_setField_rec hz₄ (by simp) fun h₅ _ hs₅ => hE h₅ e (fun c o c1 c2 c3 c4 x => hs₅.extBut _ _ c1 (hs₄ _ _ c4 (hs₃.extBut _ _ c2 (hs₂.extBut _ _ c3 (hs₁.extBut _ _ c1 x))))) ⟨oe, hs₅.extBut _ _ hez hoe, hce⟩

theorem py_item {x y : Value} {Q : Option Value → Shared → Prop} (R1 : Src i1 f1 S1 n1) (R2 : Src i2 f2 S2 n2) (D : Apart z TI TO i1 i2 f1 f2)
    (hz : IsZip s.heap z TI TO .none) (hTI : IsPair s.heap TI (.ref i1) (.ref i2)) (hTO : IsPair s.heap TO a b) (h1 : S1 k1 s.heap) (h2 : S2 k2 s.heap) (hx : n1 k1 = some x) (hy : n2 k2 = some y)
    (hQ : ∀ h', IsZip h' z TI TO (rawInt s.heap.objs.size) → IsPair h' TO x y → S1 (k1 + 1) h' → S2 (k2 + 1) h' → IsPair h' s.heap.objs.size x y →
      (∀ c o, c ≠ z → c ≠ TO → c ≠ i1 → c ≠ i2 → s.heap.get? c = some o → h'.get? c = some o) → Q (some (.ref s.heap.objs.size)) { s with heap := h' }) :
    wpAny (model prog w) A (pyNext (.ref z)) Q E s := by
  have hT : s.TypeIs (.ref z) "zip" := ⟨_, hz, rfl⟩
  unfold pyNext
  exact wpAny_bind (wpAny_attempt (wpAny_callSpecial?_slot (name := Str.ofString "__next__") hT F.slot_zip_next (wpAny_call_entry F.slot_zip_next hT F.entry_zip_next
      (next_item R1 R2 D hz hTI hTO h1 h2 hx hy fun h' a1 a2 a3 a4 a5 a7 => wpAny_pure (hQ h' a1 a2 a3 a4 a5 a7)) (F.args_zip_next_1 _))))
theorem py_end {Q : Option Value → Shared → Prop} (hh : A.handled = none) (R1 : Src i1 f1 S1 n1) (R2 : Src i2 f2 S2 n2) (D : Apart z TI TO i1 i2 f1 f2)
    (hz : IsZip s.heap z TI TO .none) (hTI : IsPair s.heap TI (.ref i1) (.ref i2)) (hTO : IsPair s.heap TO a b) (h1 : S1 k1 s.heap) (h2 : S2 k2 s.heap) (hend : n1 k1 = none ∨ n2 k2 = none)
    (hQ : ∀ h', (∀ c o, c ≠ z → c ≠ TO → c ≠ i1 → c ≠ i2 → s.heap.get? c = some o → h'.get? c = some o) → Q none { s with heap := h' }) : wpAny (model prog w) A (pyNext (.ref z)) Q E s := by
  have hT : s.TypeIs (.ref z) "zip" := ⟨_, hz, rfl⟩
  unfold pyNext
  refine wpAny_bind (wpAny_attempt (wpAny_callSpecial?_slot (name := Str.ofString "__next__") hT F.slot_zip_next
    (wpAny_call_entry F.slot_zip_next hT F.entry_zip_next (next_end hh R1 R2 D hz hTI hTO h1 h2 hend fun h' e hk he => ?_) (F.args_zip_next_1 _))))
  obtain ⟨o, ho, hc⟩ := he
  exact wpAny_bind (wpAny_isInstance (T := "StopIteration") (b := true) ⟨o, ho, hc⟩ isSubtype_stop (wpAny_pure (hQ _ hk)))
end

/-! a zip of two tuples is made -/
abbrev g1 (h : Heap) (l1 : Addr) : Heap := h.push { cls := .type "tuple_iterator", data := .fields #[.ref l1, .int 0 0] }
abbrev g2 (h : Heap) (l1 l2 : Addr) : Heap := (g1 h l1).push { cls := .type "tuple_iterator", data := .fields #[.ref l2, .int 0 0] }
abbrev g3 (h : Heap) (l1 l2 : Addr) : Heap := (g2 h l1 l2).push { cls := .type "tuple", data := .seq #[.ref h.objs.size, .ref (g1 h l1).objs.size] }
abbrev g4 (h : Heap) (l1 l2 : Addr) : Heap := (g3 h l1 l2).push { cls := .type "tuple", data := .seq #[.none, .none] }
abbrev g5 (h : Heap) (l1 l2 : Addr) : Heap := (g4 h l1 l2).push { cls := .type "zip", data := .fields #[.none, .bool false, .bool false, .ref (g2 h l1 l2).objs.size, .ref (g3 h l1 l2).objs.size] }

theorem meets_new (l1 l2 : Addr) (xs ys : Array Value) :
    Meets (Builtin.«zip.__new__» ⟨[.type "zip", .ref l1, .ref l2], []⟩) (fun _ R s => s.heap.IsTuple l1 xs ∧ s.heap.IsTuple l2 ys ∧
      R (.ok (.ret (.ref (g4 s.heap l1 l2).objs.size))) { s with heap := g5 s.heap l1 l2 }) :=
  .of_wp fun prog w A R s h => by
    obtain ⟨hp, g, d, tk, os⟩ := s; obtain ⟨hl1, hl2, h⟩ := h
    have hsub := sub_zip
    have hL1 : Heap.IsTuple (Shared.heap ⟨hp, g, d, tk, os⟩) l1 xs := hl1
    have hL2 : Heap.IsTuple (Shared.heap ⟨hp.push { cls := .type "tuple_iterator", data := .fields #[.ref l1, .int 0 0] }, g, d, tk, os⟩) l2 ys := Heap.IsTuple.push hl2 _
    wp_walk using wpAny_pyIter_tuple hL1, wpAny_pyIter_tuple hL2
    exact ⟨_, rfl, h⟩

theorem call_zip {prog : Program} {w : World} {A : Around} {E : Value → Shared → Prop} {s : Shared} {l1 l2 : Addr} {xs ys : Array Value} {Q : Value → Shared → Prop} (hl1 : s.heap.IsTuple l1 xs) (hl2 : s.heap.IsTuple l2 ys)
    (h : ∀ h', IsZip h' (s.heap.objs.size + 4) (s.heap.objs.size + 2) (s.heap.objs.size + 3) .none → IsPair h' (s.heap.objs.size + 2) (.ref s.heap.objs.size) (.ref (s.heap.objs.size + 1)) →
      IsPair h' (s.heap.objs.size + 3) .none .none → h'.IsTupleIter s.heap.objs.size l1 0 → h'.IsTupleIter (s.heap.objs.size + 1) l2 0 →
      (∀ c o, s.heap.get? c = some o → h'.get? c = some o) → Q (.ref (s.heap.objs.size + 4)) { s with heap := h' }) :
    wpAny (model prog w) A (call (.type "zip") [.ref l1, .ref l2]) Q E s := by
  refine callType_new F.called_zip (by decide) (F.typeCall_zip_2 _ _) (F.newCall_zip_2 _ _) (fun obj => F.args_object_init_3 obj _ _) F.entry_zip_new (meets_new l1 l2 xs ys) ⟨hl1, hl2, ?_⟩
  have z1 : (g1 s.heap l1).objs.size = s.heap.objs.size + 1 := Heap.size_push ..
  have z2 : (g2 s.heap l1 l2).objs.size = s.heap.objs.size + 2 := by rw [Heap.size_push, z1]
  have z3 : (g3 s.heap l1 l2).objs.size = s.heap.objs.size + 3 := by rw [Heap.size_push, z2]
  have z4 : (g4 s.heap l1 l2).objs.size = s.heap.objs.size + 4 := by rw [Heap.size_push, z3]
  have q5 : (g5 s.heap l1 l2).get? (g4 s.heap l1 l2).objs.size = some _ := Heap.get?_push_size _ rfl
  have q4 : (g5 s.heap l1 l2).get? (g3 s.heap l1 l2).objs.size = some _ := Heap.get?_push_of_some _ (Heap.get?_push_size _ rfl)
  have q3 : (g5 s.heap l1 l2).get? (g2 s.heap l1 l2).objs.size = some _ := Heap.get?_push_of_some _ (Heap.get?_push_of_some _ (Heap.get?_push_size _ rfl))
  have q2 : (g5 s.heap l1 l2).get? (g1 s.heap l1).objs.size = some _ := Heap.get?_push_of_some _ (Heap.get?_push_of_some _ (Heap.get?_push_of_some _ (Heap.get?_push_size _ rfl)))
  have q1 : (g5 s.heap l1 l2).get? s.heap.objs.size = some _ := Heap.get?_push_of_some _ (Heap.get?_push_of_some _ (Heap.get?_push_of_some _ (Heap.get?_push_of_some _ (Heap.get?_push_size _ rfl))))
  show _ ∧ _
  rw [z2, z3, z4] at q5; rw [z1, z2] at q3; rw [z3] at q4; rw [z1] at q2; rw [z4]
  exact ⟨⟨_, q5, rfl⟩, h _ q5 q3 q4 ⟨_, q1, rfl, rfl⟩ ⟨_, q2, rfl, rfl⟩ fun c o x =>
    Heap.get?_push_of_some _ (Heap.get?_push_of_some _ (Heap.get?_push_of_some _ (Heap.get?_push_of_some _ (Heap.get?_push_of_some _ x))))⟩
end Zt

namespace L2
open PySem PySem.Spec PyProof.Rows
/-- the iterator's own objects have turned, others are kept -/
theorem Inv.spun {X : Cx} {pins : List (Addr × Obj)} {σ : St} {H : Hp} {s : Shared} {h' : Heap} {t' : Nat} {ch : List Addr} (I : Inv X pins σ H s) (hch : ∀ b ∈ ch, FpOk X pins H b)
    (k : ∀ b o, b ∉ ch → s.heap.get? b = some o → h'.get? b = some o) : Inv X pins σ H { s with heap := h', toks := t' } := by
  have nit : ∀ b u, H b = some u → b ∉ ch := fun b u e z => by rw [(hch b z).1] at e; cases e
  refine I.step (g' := s.gens) (d' := s.drawn) (ch := ch) (fun b hb => ?_) (fun b o _ _ hc e _ => k b o hc e) (fun b o _ _ hc e _ => ⟨o.slots, k b o hc e⟩) (fun _ _ _ _ n => n)
    (fun b o hc e => ⟨o, k b o hc e⟩) (fun _ _ e => e) (fun _ _ _ e => e) (fun b ps e => ⟨#[], by rw [e]; simp⟩) (fun m hm => ?_) (fun b u e => ?_) I.bare
  · obtain ⟨f0, f1, f2, f3, f4, f5⟩ := hch b hb
    exact ⟨f3, f1, f4, f5⟩
  · obtain ⟨o, es, ep, ho, r⟩ := hm
    exact ⟨o, es, ep, k _ o (fun z => (hch _ z).2.1 rfl) ho, r⟩
  · refine (I.hok b u e).stay (fun c v hc q => k c v ?_ q) (fun _ q => q) fun _ _ q => q
    rcases hc with z | z
    · rw [z]; exact nit b u e
    · exact nit c _ z
/-- an object that stands there untracked is tracked from now on -/
theorem Inv.track {X : Cx} {pins : List (Addr × Obj)} {σ : St} {H : Hp} {s s1 : Shared} {a : Addr} {o : HO} (I : Inv X pins σ H s) (J : Inv X pins σ H s1) (ha : s.heap.objs.size ≤ a) (new : ObjOk X.prog X.w (upd H a o) s1.heap a o) :
    Inv X pins σ (upd H a o) s1 := by
  have hn : H a = none := I.hok.fresh ha
  have ne : ∀ b u, s.heap.get? b = some u → b ≠ a := fun b u e => Nat.ne_of_lt (Nat.lt_of_lt_of_le (Heap.lt_size e) ha)
  have h0 : X.s₀.heap.objs.size ≤ a := Nat.le_trans I.sz ha
  have ne0 : ∀ b u, X.s₀.heap.get? b = some u → b ≠ a := fun b u e => Nat.ne_of_lt (Nat.lt_of_lt_of_le (Heap.lt_size e) h0)
  refine ⟨J.ok, J.os, J.bare, ⟨J.base.keep, J.base.slot, fun b u e n hx => ?_, J.base.there, fun b xs e => ?_, fun b u v e => ?_, fun b ps e => ?_⟩, J.loc, J.cell, ?_, fun x c e => ?_, fun p hp => ?_, fun b u e => ?_, J.len⟩
  · rw [upd_ne (ne0 b u e)]; exact J.base.free b u e n hx
  · have q := J.base.tups b xs e
    rw [upd_ne (ne_of_none q hn)]; exact q
  · have q := J.base.frzs b u v e
    rw [upd_ne (ne_of_none q hn)]; exact q
  · obtain ⟨m, q⟩ := J.base.tbls b ps e
    exact ⟨m, by rw [upd_ne (ne_of_none q hn)]; exact q⟩
  · obtain ⟨m, ⟨ob, _, _, e, _⟩, _⟩ := I.loc
    rw [upd_ne (ne _ _ e)]; exact J.free
  · obtain ⟨v, ob, e1, _⟩ := I.cell x c e
    rw [upd_ne (ne _ _ e1)]; exact J.freeC x c e
  · obtain ⟨q1, q2, q3, q4, q5⟩ := J.pin p hp
    exact ⟨q1, by rw [upd_ne (ne _ _ (I.pin p hp).1)]; exact q2, q3, q4, q5⟩
  · by_cases hb : b = a
    · subst hb; rw [upd_same] at e; cases e; exact new
    · rw [upd_ne hb] at e
      exact (J.hok b u e).stay (fun c v _ q => q) (fun c q => by rw [upd_ne (ne_of_none q hn)]; exact q) fun c xs q => by rw [upd_ne (ne_of_none q hn)]; exact q

/-- zip of the tuples at a and b: each turn lays a new pair -/
def Itz (K : PySem.W.Frag) (a b : Addr) : It :=
  ⟨fun i H => ∃ xs ys x y, SqT K H a xs ∧ SqT K H b ys ∧ xs[i]? = some x ∧ ys[i]? = some y,
   fun i H v H' => ∃ p x y, H p = none ∧ (∀ xs, SqT K H a xs → xs[i]? = some x) ∧ (∀ ys, SqT K H b ys → ys[i]? = some y) ∧ v = .ref p ∧ H' = upd H p (.tup [x, y]),
   fun i H => ∃ xs ys, SqT K H a xs ∧ SqT K H b ys ∧ (xs.length ≤ i ∨ ys.length ≤ i)⟩
theorem turn_zip {P : Program} {w : World} {K : PySem.W.Frag} {es : List Expr} {k : Nat} {ps : Pos} {z TI TO i1 i2 a b : Addr}
    (na : a ≠ i1) (nb : b ≠ i2) (D : Zt.Apart z TI TO i1 i2 [i1, a] [i2, b]) :
    Turn P w K (.Tuple es k ps) (Itz K a b) [z, TI, TO, i1, i2] z (fun n h => IsZip h z TI TO .none ∧ IsPair h TI (.ref i1) (.ref i2) ∧ (∃ u v, IsPair h TO u v) ∧ h.IsTupleIter i1 a n ∧ h.IsTupleIter i2 b n) where
  mem := by simp
  obj := by
    rintro n h ⟨hz, hTI, ⟨u, v, hTO⟩, ⟨o1, e1, c1, d1⟩, ⟨o2, e2, c2, d2⟩⟩ c hc
    simp only [List.mem_cons, List.not_mem_nil, or_false] at hc
    rcases hc with rfl | rfl | rfl | rfl | rfl
    · exact ⟨_, hz, fun v q => nomatch q⟩
    · exact ⟨_, hTI, fun v q => nomatch q⟩
    · exact ⟨_, hTO, fun v q => nomatch q⟩
    · exact ⟨o1, e1, fun v q => by rw [d1] at q; cases q⟩
    · exact ⟨o2, e2, fun v q => by rw [d2] at q; cases q⟩
  keep := by
    rintro n h h' ⟨hz, hTI, ⟨u, v, hTO⟩, ⟨o1, e1, r1⟩, ⟨o2, e2, r2⟩⟩ kp
    exact ⟨kp z (by simp) _ hz, kp TI (by simp) _ hTI, ⟨u, v, kp TO (by simp) _ hTO⟩, ⟨o1, kp i1 (by simp) _ e1, r1⟩, ⟨o2, kp i2 (by simp) _ e2, r2⟩⟩
  item := by
    intro X hP hw hK hc i pins s σ H E I hf st hg
    subst hP hw hK
    obtain ⟨hz, hTI, ⟨u, v, hTO⟩, hi1, hi2⟩ := st
    obtain ⟨xs, ys, x, y, qx, qy, hx, hy⟩ := hg
    obtain ⟨us, rx, px, zx⟩ := I.tuple qx
    obtain ⟨ws, ry, py, zy⟩ := I.tuple qy
    obtain ⟨ux, hux, rux⟩ := rx.get hx
    obtain ⟨uy, huy, ruy⟩ := ry.get hy
    refine Zt.py_item (Zt.srcT i1 a na us.toArray) (Zt.srcT i2 b nb ws.toArray) D hz hTI hTO ⟨hi1, px⟩ ⟨hi2, py⟩ (x := ux) (y := uy) (by simpa using hux) (by simpa using huy) fun h' z1 t1 s1 s2 t2 kp => ⟨_, rfl, ?_⟩
    refine wpAny_letOwnedTupleGo_zip (s := { s with heap := h' }) z1 fun h'' z2 sb => ?_
    have kp2 : ∀ c o, c ∉ [z, TI, TO, i1, i2] → s.heap.get? c = some o → h''.get? c = some o := fun c o hc e => by
      simp only [List.mem_cons, List.not_mem_nil, or_false, not_or] at hc
      exact sb.extBut _ _ hc.1 (kp c o hc.1 hc.2.2.1 hc.2.2.2.1 hc.2.2.2.2 e)
    have nz : s.heap.objs.size ≠ z := Nat.ne_of_gt (Heap.lt_size hz)
    have J : Inv X pins σ H { s with heap := h'' } := I.spun (t' := s.toks) hf kp2
    have t3 : IsPair h'' s.heap.objs.size ux uy := sb.extBut _ _ nz t2
    refine ⟨.ref s.heap.objs.size, upd H s.heap.objs.size (.tup [x, y]), I.track J (Nat.le_refl _) ⟨by show 2 ≤ sizeLine; decide, [ux, uy], .cons rux (.cons ruy .nil), ⟨_, t3, rfl, _, rfl⟩⟩, rfl, ⟨_, x, y, I.hok.fresh (Nat.le_refl _), fun zs h => ?_, fun zs h => ?_, rfl, rfl⟩, ?_, fun c hc => ?_⟩
    · rw [I.tuple_inj h qx]; exact hx
    · rw [I.tuple_inj h qy]; exact hy
    · exact ⟨z2, sb.extBut _ _ D.TIz (kp TI _ D.TIz D.TITO D.TIi1 D.TIi2 hTI), ⟨ux, uy, sb.extBut _ _ D.TOz t1⟩, s1.1.extBut sb.extBut D.i1z, s2.1.extBut sb.extBut D.i2z⟩
    · have e : c ≠ s.heap.objs.size := by
        simp only [List.mem_cons, List.not_mem_nil, or_false] at hc
        obtain ⟨o1, e1, _⟩ := hi1; obtain ⟨o2, e2, _⟩ := hi2
        rcases hc with rfl | rfl | rfl | rfl | rfl
        · exact Nat.ne_of_lt (Heap.lt_size hz)
        · exact Nat.ne_of_lt (Heap.lt_size hTI)
        · exact Nat.ne_of_lt (Heap.lt_size hTO)
        · exact Nat.ne_of_lt (Heap.lt_size e1)
        · exact Nat.ne_of_lt (Heap.lt_size e2)
      rw [upd_ne e]; exact (hf c hc).1
  done := by
    intro X hP hw hK hc i pins s σ H E I hf st hg
    subst hP hw hK
    obtain ⟨hz, hTI, ⟨u, v, hTO⟩, hi1, hi2⟩ := st
    obtain ⟨xs, ys, qx, qy, hend⟩ := hg
    obtain ⟨us, rx, px, zx⟩ := I.tuple qx
    obtain ⟨ws, ry, py, zy⟩ := I.tuple qy
    have lx := rx.length
    have ly := ry.length
    refine Zt.py_end (I.ok.hd hc) (Zt.srcT i1 a na us.toArray) (Zt.srcT i2 b nb ws.toArray) D hz hTI hTO ⟨hi1, px⟩ ⟨hi2, py⟩ (k1 := i) (k2 := i) (hend.imp (fun h => by simp; omega) (fun h => by simp; omega)) fun h' kp => ⟨rfl, ?_⟩
    refine I.spun (t' := s.toks) hf fun c o hc e => ?_
    simp only [List.mem_cons, List.not_mem_nil, or_false, not_or] at hc
    exact kp c o hc.1 hc.2.2.1 hc.2.2.2.1 hc.2.2.2.2 e
  self := by
    rintro A n s Q E ⟨hz, _⟩ h
    exact wpAny_pyIter_zip hz h
/-- for a, b in zip(t, u), two tuples -/
def iZip (K : PySem.W.Frag) (ta : TA) : TI := fun σ H R => ta σ H fun vs H1 => ∃ a b, vs = [.ref a, .ref b] ∧ (∃ xs, SqT K H1 a xs) ∧ (∃ ys, SqT K H1 b ys) ∧ R (Itz K a b) H1
theorem pi_zip {X : Cx} {es : List Expr} {k : Nat} {ps p pos : Pos} {e1 e2 : Expr} {ta : TA} (hg : Gl X "zip") (hm : X.mg "zip" = none) (ha : PA X [e1, e2] ta)
    (hs : starEach [e1, e2] X.env = [(false, eval e1 X.env), (false, eval e2 X.env)] := by rfl) (hs2 : starEach [e2] X.env = [(false, eval e2 X.env)] := by rfl) (hv : bootBuiltins "zip" = some (.type "zip") := by decide +kernel) :
    PI X (.Tuple es k ps) (.Call (.Name "zip" p) [e1, e2] [] pos) (iZip X.K ta) := by
  intro pins s σ H R I h
  refine Call_ (ld_blt I hg hm hv (PyProof.Rows.callWith_type1 (thn (ha pos pins s σ H _ I h) fun us s1 ⟨vs, H1, I1, r1, q1⟩ => ?_) (by rw [hs, hs2]) (by rw [hs2]; rfl)))
  obtain ⟨a, b, e, ⟨xs, qx⟩, ⟨ys, qy⟩, q⟩ := q1
  subst e
  obtain ⟨u, v, rfl, ra, rb⟩ := vals2 r1
  cases ra
  cases rb
  obtain ⟨us, rx, px, zx⟩ := I1.tuple qx
  obtain ⟨ws, ry, py, zy⟩ := I1.tuple qy
  refine Zt.call_zip (xs := us.toArray) (ys := ws.toArray) px py fun h' hz hTI hTO h1 h2 kp => ?_
  refine wpAny_pyIter_zip (s := { s1 with heap := h' }) hz ?_
  have la : a < s1.heap.objs.size := by obtain ⟨o, e, _⟩ := px; exact Heap.lt_size e
  have lb : b < s1.heap.objs.size := by obtain ⟨o, e, _⟩ := py; exact Heap.lt_size e
  have J : Inv X pins σ H1 { s1 with heap := h' } := I1.kept (t' := s1.toks) kp
  refine ⟨_, [s1.heap.objs.size + 4, s1.heap.objs.size + 2, s1.heap.objs.size + 3, s1.heap.objs.size, s1.heap.objs.size + 1], _, Itz X.K a b, H1, rfl, J, turn_zip (a := a) (b := b) (Nat.ne_of_lt la) (Nat.ne_of_lt (Nat.lt_succ_of_lt lb)) ?_, ⟨hz, hTI, ⟨_, _, hTO⟩, h1, h2⟩, fun c hc => ?_, q⟩
  · generalize s1.heap.objs.size = n at la lb
    constructor <;> (try simp only [List.mem_cons, List.not_mem_nil, or_false, not_or, ne_eq]) <;> (unfold Addr at *; omega)
  · have le : s1.heap.objs.size ≤ c := by
      simp only [List.mem_cons, List.not_mem_nil, or_false] at hc
      rcases hc with rfl | rfl | rfl | rfl | rfl
      · exact Nat.le_add_right _ _
      · exact Nat.le_add_right _ _
      · exact Nat.le_add_right _ _
      · exact Nat.le_refl _
      · exact Nat.le_add_right _ _
    exact I1.fpOk le (I1.hok.fresh le)
end L2

set_option maxRecDepth 100000
namespace L2
open PySem PySem.Spec PyProof.Rows

/-! ### a list comprehension -/
/-- the cells that a block takes over -/
def clsOf (cells : List (Str × Addr)) : List (Str × NameKind) → List (Str × Addr) → Option (List (Str × Addr))
  | [], acc => some acc
  | (n, k) :: r, acc => if (k == .free) = true then (match cells.lookup n with | some a => clsOf cells r ((n, a) :: acc) | none => none) else clsOf cells r acc

theorem clsOf_loop {env : Env} : ∀ (ns : List (Str × NameKind)) (acc cl : List (Str × Addr)), clsOf env.cells ns acc = some cl →
    (forIn ns acc fun (x : Str × NameKind) (cs : List (Str × Addr)) => (if (x.2 == .free) = true then (do let a ← cellOf env x.1; pure (ForInStep.yield ((x.1, a) :: cs))) else pure (ForInStep.yield cs) : Sem _)) = pure cl
  | [], acc, cl, h => by
    simp only [clsOf, Option.some.injEq] at h
    subst h; rfl
  | (n, k) :: r, acc, cl, h => by
    rw [List.forIn_cons]
    unfold clsOf at h
    by_cases hk : (k == NameKind.free) = true
    · rw [if_pos hk] at h
      simp only [hk, if_true]
      cases e : env.cells.lookup n with
      | none => rw [e] at h; cases h
      | some a =>
        rw [e] at h
        have ih := clsOf_loop r ((n, a) :: acc) cl h
        simp only [cellOf, e, pure_bind]
        exact ih
    · rw [if_neg hk] at h
      simp only [hk, if_false, pure_bind]
      exact clsOf_loop r acc cl h
theorem closure_of {env : Env} {sc : Scope} {cl : List (Str × Addr)} (h : clsOf env.cells sc.names [] = some cl) : closureFor sc env = pure cl := by
  have e := clsOf_loop (env := env) sc.names [] cl h
  unfold closureFor
  have e2 := congrArg (fun m : Sem (List (Str × Addr)) => m >>= fun r => (pure r : Sem (List (Str × Addr)))) e
  simp only [pure_bind] at e2
  refine Eq.trans ?_ e2
  rfl
theorem clsOf_sub {cells : List (Str × Addr)} : ∀ (ns : List (Str × NameKind)) (acc cl : List (Str × Addr)), clsOf cells ns acc = some cl → (∀ x c, acc.lookup x = some c → cells.lookup x = some c) → ∀ x c, cl.lookup x = some c → cells.lookup x = some c
  | [], acc, cl, h, ha => by
    simp only [clsOf, Option.some.injEq] at h
    subst h; exact ha
  | (n, k) :: r, acc, cl, h, ha => by
    unfold clsOf at h
    by_cases hk : (k == NameKind.free) = true
    · rw [if_pos hk] at h
      cases e : cells.lookup n with
      | none => rw [e] at h; cases h
      | some a =>
        rw [e] at h
        refine clsOf_sub r ((n, a) :: acc) cl h fun x c q => ?_
        rw [List.lookup_cons] at q
        cases hx : x == n with
        | true =>
          rw [hx] at q
          have e' : x = n := by simpa using hx
          subst e'
          cases q; exact e
        | false => rw [hx] at q; exact ha x c q
    · rw [if_neg hk] at h
      exact clsOf_sub r acc cl h ha
theorem clsOf_has {cells : List (Str × Addr)} : ∀ (ns : List (Str × NameKind)) (acc cl : List (Str × Addr)), clsOf cells ns acc = some cl → (∀ x, (∃ c, acc.lookup x = some c) → ∃ c, cl.lookup x = some c) ∧ ∀ y ∈ ns, y.2 = .free → ∃ c, cl.lookup y.1 = some c
  | [], acc, cl, h => by
    simp only [clsOf, Option.some.injEq] at h
    subst h; exact ⟨fun x q => q, fun y hy => by simp at hy⟩
  | (n, k) :: r, acc, cl, h => by
    unfold clsOf at h
    by_cases hk : (k == NameKind.free) = true
    · rw [if_pos hk] at h
      cases e : cells.lookup n with
      | none => rw [e] at h; cases h
      | some a =>
        rw [e] at h
        obtain ⟨h1, h2⟩ := clsOf_has r ((n, a) :: acc) cl h
        have up : ∀ x, (∃ c, acc.lookup x = some c) → ∃ c, ((n, a) :: acc).lookup x = some c := fun x ⟨c, q⟩ => by
          rw [List.lookup_cons]
          cases hx : x == n with
          | true => exact ⟨a, rfl⟩
          | false => exact ⟨c, q⟩
        refine ⟨fun x q => h1 x (up x q), fun y hy hf => ?_⟩
        rcases List.mem_cons.mp hy with rfl | hy
        · exact h1 n ⟨a, by simp [List.lookup_cons]⟩
        · exact h2 y hy hf
    · rw [if_neg hk] at h
      obtain ⟨h1, h2⟩ := clsOf_has r acc cl h
      refine ⟨h1, fun y hy hf => ?_⟩
      rcases List.mem_cons.mp hy with rfl | hy
      · exact absurd (show (k == NameKind.free) = true by have : k = .free := hf; subst this; rfl) hk
      · exact h2 y hy hf

theorem relabel_free {env : Env} : ∀ {names : List (Str × NameKind)} {x : Str}, names.lookup x = some .free →
    (names.map fun (n, k) => if (k == NameKind.free && env.scope.kind == .function && env.kindOf n == some .cell) then (n, NameKind.cell) else (n, k)).lookup x = some .cell ∨
    (names.map fun (n, k) => if (k == NameKind.free && env.scope.kind == .function && env.kindOf n == some .cell) then (n, NameKind.cell) else (n, k)).lookup x = some .free
  | [], _, h => by simp at h
  | (n, k) :: r, x, h => by
    have ih := @relabel_free env r x
    rw [List.map_cons]
    dsimp only
    cases hx : x == n with
    | true =>
      simp only [List.lookup_cons, hx] at h
      cases h
      by_cases hc : (NameKind.free == NameKind.free && env.scope.kind == .function && env.kindOf n == some .cell) = true
      · refine .inl ?_
        rw [if_pos hc, List.lookup_cons, hx]
      · refine .inr ?_
        rw [if_neg hc, List.lookup_cons, hx]
    | false =>
      simp only [List.lookup_cons, hx] at h
      by_cases hc : (k == NameKind.free && env.scope.kind == .function && env.kindOf n == some .cell) = true
      · rw [if_pos hc]; simp only [List.lookup_cons, hx]; exact ih h
      · rw [if_neg hc]; simp only [List.lookup_cons, hx]; exact ih h
theorem relabel_back {env : Env} : ∀ {names : List (Str × NameKind)} {x : Str} {kd : NameKind}, (kd = .cell ∨ kd = .free) →
    (names.map fun (n, k) => if (k == NameKind.free && env.scope.kind == .function && env.kindOf n == some .cell) then (n, NameKind.cell) else (n, k)).lookup x = some kd → ∃ y ∈ names, y.1 = x ∧ (y.2 = .free ∨ y.2 = .cell)
  | [], _, _, _, h => by simp at h
  | (n, k) :: r, x, kd, hkd, h => by
    have ih := @relabel_back env r x kd hkd
    rw [List.map_cons] at h
    dsimp only at h
    cases hx : x == n with
    | true =>
      have e : x = n := by simpa using hx
      subst e
      refine ⟨(x, k), by simp, rfl, ?_⟩
      by_cases hc : (k == NameKind.free && env.scope.kind == .function && env.kindOf x == some .cell) = true
      · refine .inl ?_
        simp only [Bool.and_eq_true] at hc
        simpa using hc.1.1
      · rw [if_neg hc] at h
        simp only [List.lookup_cons, beq_self_eq_true, Option.some.injEq] at h
        subst h
        exact hkd.symm
    | false =>
      have h' : (r.map fun (n, k) => if (k == NameKind.free && env.scope.kind == .function && env.kindOf n == some .cell) then (n, NameKind.cell) else (n, k)).lookup x = some kd := by
        by_cases hc : (k == NameKind.free && env.scope.kind == .function && env.kindOf n == some .cell) = true
        · rw [if_pos hc] at h; simp only [List.lookup_cons, hx] at h; exact h
        · rw [if_neg hc] at h; simp only [List.lookup_cons, hx] at h; exact h
      obtain ⟨y, hy, q⟩ := ih h'
      exact ⟨y, List.mem_cons_of_mem _ hy, q⟩

/-- the context of the block: made where the frame is about to be laid; nothing may be raised in it -/
def cxC (X : Cx) (sc : Scope) (cl : List (Str × Addr)) (NC : List Str) (fp : List Addr) (s : Shared) (H : Hp) : Cx where
  prog := X.prog
  w := X.w
  K := X.K
  mg := X.mg
  base := X.base
  A := X.A
  N := NC
  s₀ := s
  H₀ := H
  env := compEnvC sc cl s.heap.objs.size X.env
  outer := X.stack
  stack := X.stack
  ex := fp
  fn := fun _ => false
  calm := X.calm
  pn := []
  xe := fun _ _ => False
/-- the names of a block that are the outer frame's -/
def OutOk (X : Cx) (sc : Scope) : List Str → List (Option Nat) → Prop
  | x :: xs, o :: os => (match o with | none => True | some j => X.N[j]? = some x ∧ sc.names.lookup x = some .free ∧ (X.env.scope.names.lookup x = some .cell ∨ X.env.scope.names.lookup x = some .free)) ∧ OutOk X sc xs os
  | _, _ => True
theorem OutOk.at {X : Cx} {sc : Scope} : ∀ {NC : List Str} {fr : List (Option Nat)}, OutOk X sc NC fr → ∀ (i : Nat) (x : Str) (j : Nat), NC[i]? = some x → fr[i]? = some (some j) →
    X.N[j]? = some x ∧ sc.names.lookup x = some .free ∧ (X.env.scope.names.lookup x = some .cell ∨ X.env.scope.names.lookup x = some .free)
  | [], _, _, i, x, j, h1, _ => by simp at h1
  | _ :: _, [], _, i, x, j, _, h2 => by simp at h2
  | y :: ys, o :: os, h, 0, x, j, h1, h2 => by
    simp only [List.getElem?_cons_zero, Option.some.injEq] at h1 h2
    subst h1 h2
    exact h.1
  | y :: ys, o :: os, h, i + 1, x, j, h1, h2 => OutOk.at h.2 i x j (by simpa using h1) (by simpa using h2)
/-- what the block's names are: its own ones, and those of the outer frame, by their places -/
structure Blk (X : Cx) (sc : Scope) (cl : List (Str × Addr)) (NC : List Str) (fr : List (Option Nat)) : Prop where
  kind : sc.kind = .function
  cls : clsOf X.env.cells sc.names [] = some cl
  nocell : ∀ y ∈ sc.names, y.2 ≠ .cell
  names : ∀ y ∈ sc.names, y.2 = .local → sc.names.lookup y.1 = some .local
  len : fr.length = NC.length
  out : OutOk X sc NC fr
def stC (fr : List (Option Nat)) (σ : St) : St := fr.map fun o => o.bind fun j => (σ[j]?).join
theorem blk_start {X : Cx} {sc : Scope} {cl : List (Str × Addr)} {NC : List Str} {fr : List (Option Nat)} {pins : List (Addr × Obj)} {σ : St} {H : Hp} {s s4 : Shared} {fp : List Addr} (B : Blk X sc cl NC fr)
    (I : Inv X pins σ H s) (hf : ∀ b ∈ fp, FpOk X pins H b) (hlt : ∀ b ∈ fp, b < s.heap.objs.size) (hns : ∃ m, s4.heap.Ns s.heap.objs.size m) (hk : ∀ b o, s.heap.get? b = some o → s4.heap.get? b = some o) (hos : s4.os = s.os) (hg : s4.gens = s.gens) :
    Inv (cxC X sc cl NC fp s H) [] (stC fr σ) H s4 := by
  have sub := clsOf_sub sc.names [] cl B.cls (fun x c q => by simp at q)
  have has := (clsOf_has sc.names [] cl B.cls).2
  have nloc : ∀ x c, cl.lookup x = some c → c < s.heap.objs.size := fun x c e => by
    obtain ⟨v, o, q, _⟩ := I.cell x c (sub x c e)
    exact Heap.lt_size q
  refine ⟨⟨I.ok.mod, B.kind, I.ok.glob, I.ok.blt, Nat.le_refl _, fun x y c h1 h2 => I.ok.inj x y c (sub x c h1) (sub y c h2), fun x hx => ?_, fun x c hx _ => (nomatch hx), I.ok.hd, I.ok.frames, .inl rfl, fun b hb => ⟨?_, fun x c e => ?_⟩, I.bs, Nat.le_trans I.ok.bsz I.sz, fun b o e hb => ?_, fun b hb => ?_, I.stack, I.stkFree⟩,
    hos, by rw [hg]; exact I.bare, Un.kept hk, ?_, fun x c e => ?_, I.hok.fresh (Nat.le_refl _), fun x c e => I.freeC x c (sub x c e), fun p hp => absurd (show p ∈ ([] : List (Addr × Obj)) from hp) (by simp), I.hok.kept hk, ?_⟩
  · have h' : ∃ y ∈ sc.names, y.1 = x ∧ (y.2 = .free ∨ y.2 = .cell) := by
      rcases hx with q | q
      · exact relabel_back (.inl rfl) q
      · exact relabel_back (.inr rfl) q
    obtain ⟨y, hy, rfl, q⟩ := h'
    rcases q with q | q
    · exact has y hy q
    · exact absurd q (B.nocell y hy)
  · exact Nat.ne_of_lt (hlt b hb)
  · intro z
    obtain ⟨f0, f1, f2, f3, f4, f5⟩ := hf b hb
    exact f4 x c (sub x c e) z
  · obtain ⟨f0, f1, f2, f3, f4, f5⟩ := hf b hb
    rcases f3 with q | q
    · exact I.ok.noex b o e q
    · exact absurd (Nat.lt_of_lt_of_le (Heap.lt_size e) I.ok.bsz) (Nat.not_lt.mpr q)
  · intro z
    obtain ⟨f0, f1, f2, f3, f4, f5⟩ := hf b hb
    rcases List.mem_cons.mp (I.stkSub b z) with q | q
    · exact f1 q
    · exact f2 q
  · obtain ⟨m, hm⟩ := hns
    refine ⟨m, hm, fun i x v h1 h2 h3 => ?_⟩
    unfold stC at h2
    rw [List.getElem?_map] at h2
    cases e : fr[i]? with
    | none => rw [e] at h2; cases h2
    | some oj =>
      rw [e] at h2
      cases oj with
      | none => cases h2
      | some j =>
        have h2' : (σ[j]?).join = some v := Option.some.inj h2
        have h4 : σ[j]? = some (some v) := by
          cases q : σ[j]? with
          | none => rw [q] at h2'; cases h2'
          | some o => rw [q] at h2'; exact congrArg some h2'
        obtain ⟨n1, n2, n3⟩ := B.out.at i x j h1 e
        obtain ⟨m0, hm0, hl⟩ := I.loc
        obtain ⟨u, r, l⟩ := hl j x v n1 h4 (n3.elim (fun q => .inr (.inl q)) fun q => .inr (.inr q))
        refine ⟨u, r, .inr ⟨relabel_free n2, ?_⟩⟩
        rcases l with ⟨k1, _⟩ | ⟨_, c, c1, c2⟩
        · have k1' : X.env.scope.names.lookup x = some .local := k1
          rcases n3 with q | q <;> (rw [q] at k1'; cases k1')
        · obtain ⟨c', e'⟩ := has (x, .free) (PySem.mem_of_lookup n2) rfl
          have q := sub x c' e'
          rw [c1] at q; cases q
          obtain ⟨o, ho, hd⟩ := c2
          exact ⟨c, e', o, hk _ _ ho, hd⟩
  · obtain ⟨v, o, q, d⟩ := I.cell x c (sub x c e)
    exact ⟨v, o, hk _ _ q, d⟩
  · show (stC fr σ).length = NC.length
    unfold stC
    rw [List.length_map]; exact B.len

/-- the turns of a comprehension (its target may let an owned tuple go); nothing is raised -/
theorem comp_turns {prog : Program} {w : World} {A : Around} {R : Result → Shared → Prop} {s : Shared} {elt target iter : Expr} {ifs : List Expr} {scope : Scope} {pos : Pos} {it acc : Value} {env : Env} (J : Nat → Shared → Prop)
    (turn : ∀ n s, J n s → wpAny (model prog w) A (pyNext it) (fun r s1 => match r with
      | none => R (.ok .next) s1
      | some v => wpAny (model prog w) A (letOwnedTupleGo target it v) (fun _ s2 => wpAny (model prog w) A (assign target env v) (fun _ s3 =>
          wpAny (model prog w) A (compTests ifs env) (fun ok s4 => if ok = true then wpAny (model prog w) A (eval elt env) (fun x s5 =>
              wpAny (model prog w) A (call (.builtin "list.append") [acc, x]) (fun _ s6 => ∃ m, m < n ∧ J m s6) (fun _ _ => False) s5) (fun _ _ => False) s4
            else ∃ m, m < n ∧ J m s4) (fun _ _ => False) s3) (fun _ _ => False) s2) (fun _ _ => False) s1) (fun _ _ => False) s)
    (n : Nat) (h : J n s) : codeAny (model prog w) A (.compLoop (.ListComp elt [⟨target, iter, ifs, 0⟩] scope pos) 0 it acc env) R s := by
  refine codeAny_loop rfl J (fun n s hJ => ?_) n h
  show wpAny _ A ((compTurn (.ListComp elt [⟨target, iter, ifs, 0⟩] scope pos) 0 it acc env).onRaise (fun x => do noteFrame x env; theTreesLotGoes x)) _ _ s
  refine wpAny_noted ?_
  have wk : ∀ {α : Type} {t : Sem α} {Q Q' : α → Shared → Prop} {E : Value → Shared → Prop} {s : Shared}, wpAny (model prog w) A t Q (fun _ _ => False) s → (∀ a s, Q a s → Q' a s) → wpAny (model prog w) A t Q' E s := fun h q => wpAny_mono h q fun _ _ f => f.elim
  rw [compTurn_list]
  refine wpAny_bind (wpAny_standAt (wpAny_bind (wk (turn n s hJ) fun r s1 h1 => ?_)))
  cases r with
  | none => exact wpAny_pure h1
  | some v =>
    refine wpAny_bind (wk h1 fun _ s2 h2 => wpAny_bind (wk h2 fun _ s3 h3 => ?_))
    have h3' : wpAny (model prog w) A (forIn ifs true fun c r => if r = true then do let ok ← isTrue c env (eval c env); pure (ForInStep.yield ok) else pure (ForInStep.yield r)) (fun ok s4 => if ok = true then wpAny (model prog w) A (eval elt env) (fun x s5 =>
              wpAny (model prog w) A (call (.builtin "list.append") [acc, x]) (fun _ s6 => ∃ m, m < n ∧ J m s6) (fun _ _ => False) s5) (fun _ _ => False) s4
            else ∃ m, m < n ∧ J m s4) (fun _ _ => False) s3 := by
      have e : compTests ifs env = (forIn ifs true fun c r => if r = true then do let ok ← isTrue c env (eval c env); pure (ForInStep.yield ok) else pure (ForInStep.yield r)) >>= pure := by rfl
      rw [e, bind_pure] at h3
      exact h3
    refine wpAny_bind (wk h3' fun ok s4 h4 => ?_)
    cases ok with
    | false => exact wpAny_pure ⟨rfl, h4⟩
    | true => exact wpAny_bind (wpAny_bind (wk h4 fun x s5 h5 => wpAny_bind (wk h5 fun _ s6 h6 => wpAny_pure (wpAny_pure ⟨rfl, h6⟩))))

/-- the tests of a comprehension -/
def PF (X : Cx) (ifs : List Expr) (t : TT) : Prop :=
  ∀ (pins : List (Addr × Obj)) (s : Shared) (σ : St) (H : Hp) (Q : Bool → Hp → Prop), Inv X pins σ H s → t σ H Q → wpAny (model X.prog X.w) X.A (compTests ifs X.env) (TP X pins σ Q) X.xe s
def tYes : TT := fun _ H Q => Q true H
theorem pf_nil {X : Cx} : PF X [] tYes := fun _ _ _ H _ I h => wpAny_pure ⟨H, I, h⟩
/-- [elt for target in iter if tests]: W the invariant over the turn, a measure, the block's names, the heap; the list grows at acc -/
def tComp (K : PySem.W.Frag) (fr : List (Option Nat)) (wi : TI) (g : TG) (tt : TT) (te : TE) : TE := fun σ H Q => wi σ H fun J H1 => ∀ acc, H1 acc = none → K.lookup acc = none →
  ∃ W : Nat → Nat → St → Hp → Prop, (∃ m, W 0 m (stC fr σ) (upd H1 acc (.lst []))) ∧ ∀ i m σc H, W i m σc H →
    (J.stop i H ∧ Q (.ref acc) H) ∨ (J.go i H ∧ ∃ N : St → Hp → Prop, (∀ σ' H', N σ' H' → ∃ m', m' < m ∧ W (i + 1) m' σ' H') ∧ ∀ x H', J.yld i H x H' → g x σc H' fun σ2 H2 => tt σ2 H2 fun b H3 =>
      if b = true then te σ2 H3 fun v H4 => ∃ xs, H4 acc = some (.lst xs) ∧ xs.length < sizeLine ∧ N σ2 (upd H4 acc (.lst (xs ++ [v]))) else N σ2 H3)

section
variable {X : Cx} {sc : Scope} {cl : List (Str × Addr)} {NC : List Str} {fr : List (Option Nat)} {elt target iter : Expr} {ifs : List Expr} {pos : Pos} {wi : TI} {g : TG} {tt : TT} {te : TE}
/-- the core: up to the block's end, whatever is done with the list behind it -/
theorem comp_core {pins : List (Addr × Obj)} {s : Shared} {σ : St} {H : Hp} {Q : VK} {RR : Value → Addr → Result → Shared → Prop} (B : Blk X sc cl NC fr) (hc : X.calm = true) (hi : PI X target iter wi)
    (hg : ∀ fp s H, PG (cxC X sc cl NC fp s H) target g) (ht : ∀ fp s H, PF (cxC X sc cl NC fp s H) ifs tt) (he : ∀ fp s H, PE (cxC X sc cl NC fp s H) elt te)
    (I : Inv X pins σ H s) (h : tComp X.K fr wi g tt te σ H Q)
    (hRR : ∀ acc C s' H', Q (.ref acc) H' → (∃ m, s'.heap.Ns C m) → Inv X pins σ H' s' → FpOk X pins H' C → RR (.ref acc) C (.ok .next) s') :
    wpAny (model X.prog X.w) X.A (eval iter X.env) (fun x s1 => wpAny (model X.prog X.w) X.A (pyIter x) (fun it s2 => wpAny (model X.prog X.w) X.A (newList []) (fun acc s3 =>
      wpAny (model X.prog X.w) X.A (newFunctionEnv sc X.env.globals cl [] X.env.qual none .none (some X.env)) (fun cenv s4 =>
        codeAny (model X.prog X.w) X.A (.compStart (.ListComp elt [⟨target, iter, ifs, 0⟩] sc pos) 0 it acc { cenv with scope := relabel sc X.env }) (RR acc cenv.locals) s4) X.xe s3) X.xe s2) X.xe s1) X.xe s := by
  refine thn (hi pins s σ H _ I h) fun v s1 h1 => thn h1 fun itv s2 h2 => ?_
  obtain ⟨it, fp, tn, J, H2, e, I2, T, st2, f2, K⟩ := h2
  subst e
  have nk : X.K.lookup s2.heap.objs.size = none := by
    cases q : X.K.lookup s2.heap.objs.size with
    | none => rfl
    | some o => exact absurd (Heap.lt_size (I2.kIn _ o q)) (Nat.lt_irrefl _)
  obtain ⟨W, ⟨m0, w0⟩, turn⟩ := K s2.heap.objs.size (I2.hok.fresh (Nat.le_refl _)) nk
  have I3 : Inv X pins σ (upd H2 s2.heap.objs.size (.lst [])) { s2 with heap := s2.heap.push { cls := .type "list", dict := none, data := .seq ([] : List Value).toArray } } :=
    I2.laid (t' := s2.toks) (fun b u e => Heap.get?_push_of_some _ e) (Nat.le_refl _) ⟨Nat.zero_le _, [], 0, .nil, Heap.get?_push_size _ rfl⟩
  have lt2 : ∀ b ∈ fp, b < s2.heap.objs.size := fun b hb => by
    obtain ⟨o, e, _⟩ := T.obj _ _ st2 b hb
    exact Heap.lt_size e
  have f3 : ∀ b ∈ fp, FpOk X pins (upd H2 s2.heap.objs.size (.lst [])) b := fun b hb => ⟨by rw [upd_ne (Nat.ne_of_lt (lt2 b hb))]; exact (f2 b hb).1, (f2 b hb).2⟩
  refine wpAny_newObj_type (wpAny_newFunctionEnv B.nocell (by intro y hy; simp at hy) (fun h4 hns4 hsb4 => ?_) B.kind)
  dsimp only at hns4 hsb4 ⊢
  generalize hs3 : ({ s2 with heap := s2.heap.push { cls := .type "list", dict := none, data := .seq ([] : List Value).toArray } } : Shared) = s3 at I3 ⊢
  have hh3 : s3.heap = s2.heap.push { cls := .type "list", dict := none, data := .seq ([] : List Value).toArray } := by rw [← hs3]
  have z3 : s3.heap.objs.size = s2.heap.objs.size + 1 := by rw [hh3, Heap.size_push]
  rw [← hh3] at hns4 hsb4 ⊢
  have k4 : ∀ b o, s3.heap.get? b = some o → h4.get? b = some o := fun b o e => hsb4.extBut b o (Nat.ne_of_lt (Heap.lt_size e)) (Heap.get?_push_of_some _ e)
  have lt3 : ∀ b ∈ fp, b < s3.heap.objs.size := fun b hb => by rw [z3]; exact Nat.lt_succ_of_lt (lt2 b hb)
  have start : ∀ s4 : Shared, s4 = { s2 with heap := h4, toks := s2.toks + ([] : List (Str × Value)).length } → codeAny (model X.prog X.w) X.A (.compLoop (.ListComp elt [⟨target, iter, ifs, 0⟩] sc pos) 0 (.ref it) (.ref s2.heap.objs.size) (compEnvC sc cl s3.heap.objs.size X.env)) (RR (.ref s2.heap.objs.size) s3.heap.objs.size) s4 := by
    rintro s4 rfl
    have I4 : Inv (cxC X sc cl NC fp s3 (upd H2 s2.heap.objs.size (.lst []))) [] (stC fr σ) (upd H2 s2.heap.objs.size (.lst [])) { s2 with heap := h4, toks := s2.toks + ([] : List (Str × Value)).length } :=
      blk_start B I3 f3 lt3 ⟨_, hns4⟩ k4 (by rw [← hs3]) (by rw [← hs3])
    have st4 : tn 0 h4 := T.keep _ _ _ st2 fun b hb o e => k4 b o (by rw [hh3]; exact Heap.get?_push_of_some _ e)
    have stat : ∀ {H' : Hp}, (∀ b ∈ fp, H' b = none) → ∀ b ∈ fp, FpOk (cxC X sc cl NC fp s3 (upd H2 s2.heap.objs.size (.lst []))) [] H' b := fun hn b hb =>
      ⟨hn b hb, (I4.ok.exf b hb).1, I4.ok.exfs b hb, .inl hb, (I4.ok.exf b hb).2, fun p hp => absurd (show p ∈ ([] : List (Addr × Obj)) from hp) (by simp)⟩
    refine comp_turns (fun n s' => ∃ i σ' H', Inv (cxC X sc cl NC fp s3 (upd H2 s2.heap.objs.size (.lst []))) [] σ' H' s' ∧ tn i s'.heap ∧ (∀ b ∈ fp, H' b = none) ∧ W i n σ' H') ?_ m0 ⟨0, _, _, I4, st4, fun b hb => (f3 b hb).1, w0⟩
    rintro n s5 ⟨i, σ5, H5, I5, st5, fr5, w5⟩
    rcases turn i n σ5 H5 w5 with ⟨stop, qn⟩ | ⟨go, N, hN, step⟩
    · refine thn (T.done (cxC X sc cl NC fp s3 (upd H2 s2.heap.objs.size (.lst []))) rfl rfl rfl hc i [] s5 σ5 H5 _ I5 (stat fr5) st5 stop) fun r s6 ⟨hr, I6⟩ => ?_
      subst hr
      have hC : H5 s3.heap.objs.size = none := I6.free
      refine hRR _ _ s6 H5 qn (let ⟨m, hm, _⟩ := I6.loc; ⟨m, hm⟩) ?_ (I3.fpOk (Nat.le_refl _) hC)
      have un : Un (frs X.stack) fp (upd H2 s2.heap.objs.size (.lst [])) H5 s3.heap s6.heap := I6.base
      have eo : s6.os = s3.os := I6.os
      have hb6 := I6.bare
      have hk6 : HOk X.prog X.w H5 s6.heap := I6.hok
      obtain ⟨hh6, g6, d6, t6, os6⟩ := s6
      dsimp only at eo
      subst eo
      exact I3.call (h' := hh6) (g' := g6) (d' := d6) (t' := t6) (ch := fp) un hk6 hb6 fun b hb => ⟨(f3 b hb).2.2.2.1, (f3 b hb).2.1, (f3 b hb).2.2.2.2.1, (f3 b hb).2.2.2.2.2⟩
    · refine thn (T.item (cxC X sc cl NC fp s3 (upd H2 s2.heap.objs.size (.lst []))) rfl rfl rfl hc i [] s5 σ5 H5 _ I5 (stat fr5) st5 go) fun r s6 ⟨u, hr, h6⟩ => ?_
      subst hr
      refine thn h6 fun _ s7 ⟨x, H7, I7, r7, y7, st7, fr7⟩ => ?_
      have I7' := I7.pinned (stat fr7) (T.obj _ _ st7)
      refine thn (hg fp s3 _ _ s7 σ5 H7 x u _ I7' r7 (step x H7 y7)) fun _ s8 ⟨σ8, H8, I8, q8⟩ => ?_
      refine thn (ht fp s3 _ _ s8 σ8 H8 _ I8 q8) fun b s9 ⟨H9, I9, q9⟩ => ?_
      have again : ∀ {s10 : Shared} {σ7 : St} {H10 : Hp}, Inv (cxC X sc cl NC fp s3 (upd H2 s2.heap.objs.size (.lst []))) ([] ++ pinsAt fp s7.heap) σ7 H10 s10 → N σ7 H10 →
          ∃ m, m < n ∧ ∃ i σ' H', Inv (cxC X sc cl NC fp s3 (upd H2 s2.heap.objs.size (.lst []))) [] σ' H' s10 ∧ tn i s10.heap ∧ (∀ b ∈ fp, H' b = none) ∧ W i m σ' H' := fun {s10 σ7 H10} I10 n7 => by
        obtain ⟨m', hm, w7⟩ := hN σ7 H10 n7
        refine ⟨m', hm, i + 1, σ7, H10, I10.unpinned, T.keep _ _ _ st7 fun b hb o e => (I10.pin (b, o) (List.mem_append_right _ (List.mem_append_right _ (mem_pinsAt hb e)))).1, fun b hb => ?_, w7⟩
        obtain ⟨o, e, d⟩ := T.obj _ _ st7 b hb
        exact (I10.pin (b, o) (List.mem_append_right _ (List.mem_append_right _ (mem_pinsAt hb e)))).2.1
      cases b with
      | false => exact again I9 q9
      | true =>
        refine thn (he fp s3 _ _ s9 σ8 H9 _ I9 q9) fun y s10 ⟨v, H10, I10, r10, xs, q1, q2, q3⟩ => ?_
        refine thn (mt_append (X := cxC X sc cl NC fp s3 (upd H2 s2.heap.objs.size (.lst []))) _ s10 σ8 H10 (.ref s2.heap.objs.size) [v] (.ref s2.heap.objs.size) [y] (fun z H' => N σ8 H') I10 rfl (.cons r10 .nil) ⟨_, xs, v, rfl, rfl, q1, q2, q3⟩) fun z s11 ⟨_, H11, I11, _, q11⟩ => ?_
        exact again I11 q11
  exact codeAny_compStart_list (start _ rfl) (T.self _ _ _ _ _ (T.keep _ _ _ st2 fun b hb o e => k4 b o (by rw [hh3]; exact Heap.get?_push_of_some _ e)) (start _ rfl))
theorem pe_comp (B : Blk X sc cl NC fr) (hc : X.calm = true) (hi : PI X target iter wi) (hg : ∀ fp s H, PG (cxC X sc cl NC fp s H) target g) (ht : ∀ fp s H, PF (cxC X sc cl NC fp s H) ifs tt) (he : ∀ fp s H, PE (cxC X sc cl NC fp s H) elt te)
    (hs : ∀ x, foldedSetIterable iter X.env x = pure x := by intro _; rfl) : PE X (.ListComp elt [⟨target, iter, ifs, 0⟩] sc pos) (tComp X.K fr wi g tt te) := by
  intro pins s σ H Q I h
  rw [eval_ListComp]
  refine wpAny_comprehension_free (use := none) rfl hs (closure_of B.cls) B.kind B.names ?_
  refine comp_core (RR := fun acc C => compPost (model X.prog X.w) X.A X.xe none (EP X pins σ Q) acc C) B hc hi hg ht he I h ?_
  rintro acc C s' H' q ⟨m, hn⟩ I' ⟨f0, f1, f2, f3, f4, f5⟩
  exact ⟨m, hn, fun h' sb => ⟨.ref acc, H', I'.turned (t' := s'.toks) (fun b o hb e => sb.extBut b o hb e) f0 f1 f3 f4 f5, rfl, q⟩⟩
end
end L2

set_option maxRecDepth 100000
namespace L2
open PySem PySem.Spec PyProof.Rows

theorem Same.upd {H : Hp} {p : Addr} {o : HO} (h : H p = none) : Same H (upd H p o) := fun b u e => by rw [upd_ne (ne_of_none e h)]; exact e
theorem Same.tupS {K : PySem.W.Frag} {H H' : Hp} {a : Addr} {xs : List V} (e : Same H H') (h : SqT K H a xs) : SqT K H' a xs := by
  rcases h with (h | ⟨o, h⟩) | h
  · exact .inl (.inl (e _ _ h))
  · exact .inl (.inr ⟨o, e _ _ h⟩)
  · exact .inr h

/-! ### t[lo:hi] of a tuple, whole or not -/
theorem tup_whole {prog : Program} {w : World} {A : Around} {E : Value → Shared → Prop} {s : Shared} {t sl : Addr} {items : Array Value} {vl vu : Value} {lo hi : Option Int} {Q : Value → Shared → Prop} (ht : IsTup s.heap t items) (hs : s.heap.IsSliceOf sl vl vu .none) (pl : IsPart vl lo) (pu : IsPart vu hi)
    (hw : HT.sIx items.size 0 lo = 0 ∧ HT.sIx items.size items.size hi = items.size) (h : Q (.ref t) s) : wpAny (model prog w) A (getItem (.ref t) (.ref sl)) Q E s := by
  obtain ⟨os, hos, hcs, hds⟩ := id hs
  have hTs : s.TypeIs (.ref sl) "slice" := ⟨os, hos, hcs⟩
  unfold getItem
  try with_reducible refine wpAny_holding ?_
  first | refine wpAny_bind (wpAny_pure ?_) | skip
  refine wpAny_bind (wpAny_sequenceKey ht.typeIs (by decide) ?_)
  refine wpAny_bind (wpAny_callSpecial?_slot (name := Str.ofString "__getitem__") ht.typeIs PyProof.Rows.slot_tuple_getitem (wpAny_call_entry PyProof.Rows.slot_tuple_getitem ht.typeIs entry_tuple_getitem ?_ (args_tuple_getitem _ _)))
  show wpAny _ _ (Builtin.Tuple.tupleItemsOf (.ref t) >>= _) _ _ s
  refine wpAny_bind (tupleItemsOf_ ht ?_)
  refine wpAny_bind (wpAny_typeOf hTs ?_)
  rw [if_pos (by decide)]
  refine wpAny_bind (HT.sliceApplied_gen hs pl pu ?_)
  show wpAny _ _ (if (((HT.sIx items.size 0 lo : Nat) : Int) == 0 && (1 : Int) == 1 && (HT.sIx items.size items.size hi - HT.sIx items.size 0 lo) == items.size) = true then _ else _) _ _ s
  rw [if_pos (by rw [hw.1, hw.2]; simp)]
  refine wpAny_bind ?_
  unfold Builtin.Tuple.tupleIsExact
  refine wpAny_bind (wpAny_typeOf ht.typeIs (wpAny_pure ?_))
  rw [if_pos (by decide)]
  exact wpAny_bind (wpAny_rule (wpAny_pure ⟨_, rfl, wpAny_pure h⟩))
theorem cutV_whole {xs : List V} {lo hi : Option Int} (hw : HT.sIx xs.length 0 lo = 0 ∧ HT.sIx xs.length xs.length hi = xs.length) : cutV xs lo hi = xs := by
  unfold cutV
  rw [hw.1, hw.2]; simp
def rSlG (K : PySem.W.Frag) : V → Option Int → Option Int → Hp → VK → Prop := fun x lo hi H Q => ∃ a xs, x = .ref a ∧ SqT K H a xs ∧ ∀ p H', (p = a ∨ H p = none) → Same H H' → SqT K H' p (cutV xs lo hi) → Q (.ref p) H'
section
variable {X : Cx}
theorem sl_tupG : SlR X (rSlG X.K) := by
  intro pins s σ H x v vl vu lo hi sl Q I rx hs pl pu h
  obtain ⟨a, xs, rfl, hx, q⟩ := h
  by_cases hw : HT.sIx xs.length 0 lo = 0 ∧ HT.sIx xs.length xs.length hi = xs.length
  · cases rx
    obtain ⟨its, r, ht, hz⟩ := I.tuple hx
    have hlen : its.toArray.size = xs.length := by rw [List.size_toArray]; exact r.length.symm
    refine ⟨"tuple", _, PyProof.Rows.slot_tuple_getitem.lookup, ht.typeIs, ?_⟩
    refine tup_whole ht hs pl pu (by rw [hlen]; exact hw) ⟨.ref a, H, I, rfl, q a H (.inl rfl) (Same.refl H) ?_⟩
    rw [cutV_whole hw]; exact hx
  · exact sl_tup pins s σ H _ v vl vu lo hi sl Q I rx hs pl pu ⟨a, xs, rfl, hx, hw, fun p hp => q p _ (.inr hp) (Same.upd hp) (SqT.of upd_same)⟩

/-! ### t + u, any tuples -/
def rCatG (K : PySem.W.Frag) : R2 := fun x y H Q => ∃ a b xs ys, x = .ref a ∧ y = .ref b ∧ SqT K H a xs ∧ SqT K H b ys ∧ xs.length + ys.length ≤ sizeLine ∧ ∀ p H', (p = a ∨ p = b ∨ H p = none) → Same H H' → SqT K H' p (xs ++ ys) → Q (.ref p) H'
theorem op_catG : OpR X (binaryOp .Add) (rCatG X.K) := by
  intro pins s σ H x y v u Q I rx ry h
  obtain ⟨a, b, xs, ys, rfl, rfl, ha, hb, hz, q⟩ := h
  by_cases hx : xs = []
  · subst hx
    cases rx
    cases ry
    obtain ⟨its, r1, p1, _⟩ := I.tuple ha
    obtain ⟨its2, r2, p2, _⟩ := I.tuple hb
    have e1 := r1.nil_iff.mpr rfl
    subst e1
    obtain ⟨⟨cls, dd, data, sl⟩, ho, hc, n, hd⟩ := id p1
    obtain ⟨⟨cls2, dd2, data2, sl2⟩, ho2, hc2, n2, hd2⟩ := id p2
    simp only at hc hd hc2 hd2
    subst hc hd hc2 hd2
    exact concat_meets ⟨_, ho, rfl⟩ ⟨_, ho2, rfl⟩ noFill_tuple_add seq_tuple_add PySem.F.slot_tuple_add PySem.F.entry_tuple_add (PySem.F.args_tuple_add_2 _ _)
      (tuple_addW0 a b _ _ n n2 dd dd2 sl sl2 (by simp)) ⟨ho, ho2, ⟨.ref b, H, I, rfl, q b H (.inr (.inl rfl)) (Same.refl H) hb⟩⟩
  · exact op_catT pins s σ H _ _ v u Q I rx ry ⟨a, b, xs, ys, rfl, rfl, ha, hb, hx, hz, fun e => q a H (.inl rfl) (Same.refl H) (by rw [e, List.append_nil]; exact ha), fun _ p hp => q p _ (.inr (.inr hp)) (Same.upd hp) (SqT.of upd_same)⟩

/-! ### all([..]) -/
theorem all_range_map (bs : List Bool) (f : Nat → Bool) (hf : ∀ i b, bs[i]? = some b → f i = b) : (List.range bs.length).all f = bs.all id := by
  induction bs generalizing f with
  | nil => rfl
  | cons b bs ih =>
    rw [List.length_cons, List.range_succ_eq_map, List.all_cons, List.all_map, List.all_cons, hf 0 b rfl]
    have := ih (fun i => f (i + 1)) fun i b' h => hf (i + 1) b' (by simpa using h)
    rw [← this]; rfl
theorem call_all (hc : X.calm = true) : CallR X (.builtin "all") (fun xs H Q => ∃ (p : Addr) (bs : List Bool), xs = [.ref p] ∧ SqL X.K H p (bs.map V.bl) ∧ Q (.bl (bs.all id)) H) := by
  intro pins s σ H xs us Q I r h
  obtain ⟨p, bs, rfl, hq, q⟩ := h
  obtain ⟨u, rfl, ru⟩ := vals1 r
  cases ru
  obtain ⟨its, rv, pl, hz⟩ := I.list hq
  have hl := rv.length
  rw [List.length_map] at hl
  refine call_all_walk (wpAny_pyIter_list pl.isList ?_)
  have hne : p ≠ s.heap.objs.size := by
    obtain ⟨o, n, e, _⟩ := pl
    exact Nat.ne_of_lt (Heap.lt_size e)
  refine ⟨_, _, _, _, _, _, fun i => (bs[i]?).getD true, rfl, Walks.list (A := X.A.in1) (show X.A.in1.handled = none from I.ok.hd hc) s.heap.objs.size p hne its.toArray, ⟨⟨_, Heap.get?_push_size _ rfl, rfl, rfl⟩, pl.isList.push _⟩, fun i v s' Q' E' hP hQ => ?_, fun h' tk hk => ?_⟩
  · have hb : ∃ b, bs[i]? = some b ∧ v = .bool b := by
      have hi : i < its.length := by
        have := (Array.getElem?_eq_some_iff.mp hP).1
        simpa using this
      have e1 : (bs.map V.bl)[i]? = some (.bl bs[i]) := by simp
      obtain ⟨u, hu, ru⟩ := rv.get e1
      have : its.toArray[i]? = some u := by simpa using hu
      rw [hP] at this; cases this
      exact ⟨bs[i], by simp, ru⟩
    obtain ⟨b, hb, rfl⟩ := hb
    dsimp only at hQ
    rw [hb] at hQ
    exact wpAny_truthy_bool hQ
  · have e : (List.range its.toArray.size).all (fun i => (bs[i]?).getD true) = bs.all id := by
      rw [List.size_toArray, ← hl]
      exact all_range_map bs _ fun i b h => by rw [h]; rfl
    rw [e]
    refine ⟨.bl (bs.all id), H, ?_, rfl, q⟩
    refine Inv.spun (s := s) (t' := tk) (ch := [s.heap.objs.size]) I (fun b hb => ?_) fun b o hb e => hk b o hb (Heap.get?_push_of_some _ e)
    have eb : b = s.heap.objs.size := by simpa using hb
    subst eb
    exact I.fpOk (Nat.le_refl _) (I.hok.fresh (Nat.le_refl _))

/-! ### isinstance(x, T), T a built-in type -/
def subT (T n : String) : Option Bool := if (Value.type T == Value.type n) = true then some true else if PySem.W.kitMeta n = true then (PySem.fastBuiltinMro T).map (·.contains (.type n)) else none
/-- the built-in type of a value -/
inductive TyS (K : PySem.W.Frag) (H : Hp) : V → String → Prop
  | non : TyS K H .non "NoneType"
  | bl (b : Bool) : TyS K H (.bl b) "bool"
  | int (i : Int) : TyS K H (.int i) "int"
  | str (x : Str) : TyS K H (.str x) "str"
  | lst {a : Addr} {xs : List V} (h : SqL K H a xs) : TyS K H (.ref a) "list"
  | tup {a : Addr} {xs : List V} (h : SqT K H a xs) : TyS K H (.ref a) "tuple"
  | dk {a : Addr} {kvs : List (Key × V)} (h : H a = some (.dK kvs)) : TyS K H (.ref a) "dict"
theorem call_isi : CallR X (.builtin "isinstance") (fun xs H Q => ∃ x T n b, xs = [x, .ty n] ∧ TyS X.K H x T ∧ subT T n = some b ∧ Q (.bl b) H) := by
  intro pins s σ H xs us Q I r h
  obtain ⟨x, T, n, b, rfl, ty, hs, q⟩ := h
  obtain ⟨u, w, rfl, ru, rw_⟩ := vals2 r
  cases rw_
  have e : PySem.W.kitOne X.K (.type T) (.type n) = some b := hs
  have fin : ∀ tk, EP X pins σ Q (.bool b) { s with toks := tk } := fun tk => ⟨.bl b, H, I.tok tk, rfl, q⟩
  cases ty with
  | non => cases ru; exact PySem.W.kia_one PySem.W.kitx_none I.kIn True.intro e (fun z => nomatch z) fin
  | bl y => cases ru; exact PySem.W.kia_one PySem.W.kitx_bool I.kIn True.intro e (fun z => nomatch z) fin
  | int i => obtain ⟨t, rfl⟩ := ru; exact PySem.W.kia_one PySem.W.kitx_int I.kIn True.intro e (fun z => nomatch z) fin
  | str y => obtain ⟨t, rfl⟩ := ru; exact PySem.W.kia_one PySem.W.kitx_str I.kIn True.intro e (fun z => nomatch z) fin
  | lst hq =>
    cases ru
    obtain ⟨its, _, ⟨o, nn, e1, e2, _⟩, _⟩ := I.list hq
    exact PySem.W.kia_one PySem.W.kitx_list I.kIn ⟨o, e1, e2⟩ e (fun z => nomatch z) fin
  | tup hq =>
    cases ru
    obtain ⟨its, _, ⟨o, e1, e2, _⟩, _⟩ := I.tuple hq
    exact PySem.W.kia_one PySem.W.kitx_tuple I.kIn ⟨o, e1, e2⟩ e (fun z => nomatch z) fin
  | @dk a kvs hq =>
    cases ru
    obtain ⟨_, _, vs, _, o, es, ep, h1, h2, _⟩ := (show ObjOk X.prog X.w H s.heap a (.dK kvs) from I.hok a _ hq)
    exact PySem.W.kia_one PySem.W.kitx_dict I.kIn ⟨o, h1, h2.1⟩ e (fun z => nomatch z) fin
def isB (T n : String) : Bool := T == n || (T == "bool" && n == "int")
theorem subT_tab : ∀ T ∈ ["NoneType", "bool", "int", "str", "list", "tuple", "dict"], ∀ n ∈ ["int", "bool", "str", "tuple", "list", "dict"], subT T n = some (isB T n) := by decide +kernel
end
end L2

set_option maxRecDepth 100000
namespace L2
open PySem PySem.Spec PyProof.Rows

/-- what was tracked is as it was, but for the objects at N -/
def Ext (N : List Addr) (H H' : Hp) : Prop := ∀ b o, H b = some o → b ∉ N → H' b = some o
theorem Ext.trans {N : List Addr} {H H1 H2 : Hp} (a : Ext N H H1) (b : Ext N H1 H2) : Ext N H H2 := fun c o h n => b c o (a c o h n) n
theorem Ext.same {N : List Addr} {H H' : Hp} (a : Same H H') : Ext N H H' := fun c o h _ => a c o h
theorem Ext.new {N : List Addr} {H : Hp} {p : Addr} {o : HO} (h : H p = none) : Ext N H (upd H p o) := Ext.same (Same.upd h)
theorem Ext.at {N : List Addr} {H : Hp} {p : Addr} {o : HO} (h : p ∈ N) : Ext N H (L2.upd H p o) := fun c u e n => by rw [upd_ne (show c ≠ p from fun z => n (by rw [z]; exact h))]; exact e
theorem Ext.tup {N : List Addr} {K : PySem.W.Frag} {H H' : Hp} {a : Addr} {xs : List V} (e : Ext N H H') (h : SqT K H a xs) (n : a ∉ N) : SqT K H' a xs := by
  rcases h with (h | ⟨o, h⟩) | h
  · exact .inl (.inl (e _ _ h n))
  · exact .inl (.inr ⟨o, e _ _ h n⟩)
  · exact .inr h
theorem Ext.lst {N : List Addr} {K : PySem.W.Frag} {H H' : Hp} {a : Addr} {xs : List V} (e : Ext N H H') (h : SqL K H a xs) (n : a ∉ N) : SqL K H' a xs := by
  rcases h with (h | ⟨o, h⟩) | h
  · exact .inl (.inl (e _ _ h n))
  · exact .inl (.inr ⟨o, e _ _ h n⟩)
  · exact .inr h
theorem Ext.free {N : List Addr} {H H' : Hp} (e : Ext N H H') {p : Addr} (h : H' p = none) (n : p ∉ N) : H p = none := by
  cases q : H p with
  | none => rfl
  | some o => rw [e p o q n] at h; cases h

mutual
/-- the value v is the datum d; none of its objects is one of those at N -/
inductive Dt (K : PySem.W.Frag) (N : List Addr) (H : Hp) : V → PyData → Prop
  | non : Dt K N H .non .none
  | bl (b : Bool) : Dt K N H (.bl b) (.bool b)
  | int (i : Int) : Dt K N H (.int i) (.int i)
  | str (x : Str) : Dt K N H (.str x) (.str x)
  | tup {a : Addr} {xs : List V} {ds : List PyData} (h : SqT K H a xs) (n : a ∉ N) (r : DtAll K N H xs ds) : Dt K N H (.ref a) (.tuple ds)
  | lst {a : Addr} {xs : List V} {ds : List PyData} (h : SqL K H a xs) (n : a ∉ N) (r : DtAll K N H xs ds) : Dt K N H (.ref a) (.list ds)
  | dk0 {a : Addr} (h : H a = some (.dK [])) (n : a ∉ N) : Dt K N H (.ref a) (.dict [])
inductive DtAll (K : PySem.W.Frag) (N : List Addr) (H : Hp) : List V → List PyData → Prop
  | nil : DtAll K N H [] []
  | cons {v : V} {d : PyData} {vs : List V} {ds : List PyData} (h : Dt K N H v d) (r : DtAll K N H vs ds) : DtAll K N H (v :: vs) (d :: ds)
end
section
variable {K : PySem.W.Frag} {N : List Addr} {H H' : Hp}
mutual
theorem Dt.ext (e : Ext N H H') : ∀ {v : V} {d : PyData}, Dt K N H v d → Dt K N H' v d
  | _, _, .non => .non
  | _, _, .bl b => .bl b
  | _, _, .int i => .int i
  | _, _, .str x => .str x
  | _, _, .tup h n r => .tup (e.tup h n) n (DtAll.ext e r)
  | _, _, .lst h n r => .lst (e.lst h n) n (DtAll.ext e r)
  | _, _, .dk0 h n => .dk0 (e _ _ h n) n
theorem DtAll.ext (e : Ext N H H') : ∀ {vs : List V} {ds : List PyData}, DtAll K N H vs ds → DtAll K N H' vs ds
  | _, _, .nil => .nil
  | _, _, .cons h r => .cons (Dt.ext e h) (DtAll.ext e r)
end
theorem DtAll.length : ∀ {vs : List V} {ds : List PyData}, DtAll K N H vs ds → vs.length = ds.length
  | _, _, .nil => rfl
  | _, _, .cons _ r => by rw [List.length_cons, List.length_cons, DtAll.length r]
theorem DtAll.get : ∀ {vs : List V} {ds : List PyData} {i : Nat} {v : V}, DtAll K N H vs ds → vs[i]? = some v → ∃ d, ds[i]? = some d ∧ Dt K N H v d
  | _, _, _, _, .nil, e => by simp at e
  | _, _, 0, _, .cons h _, e => by simp at e; subst e; exact ⟨_, rfl, h⟩
  | _, _, i + 1, v, .cons _ r, e => by
    obtain ⟨d, h1, h2⟩ := DtAll.get (i := i) (v := v) r (by simpa using e)
    exact ⟨d, by simpa using h1, h2⟩
theorem DtAll.getD : ∀ {vs : List V} {ds : List PyData} {i : Nat} {d : PyData}, DtAll K N H vs ds → ds[i]? = some d → ∃ v, vs[i]? = some v ∧ Dt K N H v d
  | _, _, _, _, .nil, e => by simp at e
  | _, _, 0, _, .cons h _, e => by simp at e; subst e; exact ⟨_, rfl, h⟩
  | _, _, i + 1, d, .cons _ r, e => by
    obtain ⟨v, h1, h2⟩ := DtAll.getD (i := i) (d := d) r (by simpa using e)
    exact ⟨v, by simpa using h1, h2⟩
theorem DtAll.append : ∀ {vs ws : List V} {ds es : List PyData}, DtAll K N H vs ds → DtAll K N H ws es → DtAll K N H (vs ++ ws) (ds ++ es)
  | _, _, _, _, .nil, s => s
  | _, _, _, _, .cons h r, s => .cons h (DtAll.append r s)
theorem DtAll.take : ∀ {vs : List V} {ds : List PyData} (n : Nat), DtAll K N H vs ds → DtAll K N H (vs.take n) (ds.take n)
  | _, _, 0, _ => .nil
  | _, _, _ + 1, .nil => .nil
  | _, _, n + 1, .cons h r => .cons h (DtAll.take n r)
theorem DtAll.drop : ∀ {vs : List V} {ds : List PyData} (n : Nat), DtAll K N H vs ds → DtAll K N H (vs.drop n) (ds.drop n)
  | _, _, 0, r => r
  | _, _, _ + 1, .nil => .nil
  | _, _, n + 1, .cons _ r => DtAll.drop n r
/-- the items of a cut datum -/
def cutD (ds : List PyData) (lo hi : Option Int) : List PyData := (ds.drop (HT.sIx ds.length 0 lo)).take (HT.sIx ds.length ds.length hi - HT.sIx ds.length 0 lo)
theorem DtAll.cut {vs : List V} {ds : List PyData} (lo hi : Option Int) (r : DtAll K N H vs ds) : DtAll K N H (cutV vs lo hi) (cutD ds lo hi) := by
  unfold cutV cutD
  rw [r.length]
  exact (r.drop _).take _
end
section
variable {X : Cx} {pins : List (Addr × Obj)} {σ : St} {H : Hp} {s : Shared} {N : List Addr}
mutual
theorem Dt.reads (I : Inv X pins σ H s) : ∀ {v : V} {d : PyData} {u : Value}, Dt X.K N H v d → RelV v u → ∃ as, Reads s.heap u d as ∧ (d = .dict [] → sysModules ∉ as)
  | _, _, _, .non, r => by cases r; exact ⟨_, .none, fun _ => by simp⟩
  | _, _, _, .bl b, r => by cases r; exact ⟨_, .bool b, fun _ => by simp⟩
  | _, _, _, .int i, r => by obtain ⟨t, rfl⟩ := r; exact ⟨_, .int i t, fun _ => by simp⟩
  | _, _, _, .str x, r => by obtain ⟨t, rfl⟩ := r; exact ⟨_, .str x t, fun _ => by simp⟩
  | _, _, _, .tup h n q, r => by
    cases r
    obtain ⟨its, rv, ⟨o, e1, e2, m, e3⟩, _⟩ := I.tuple h
    obtain ⟨as, ra⟩ := DtAll.reads I q rv
    exact ⟨as, .tuple e1 e2 e3 (by simpa using ra), fun z => nomatch z⟩
  | _, _, _, .lst h n q, r => by
    cases r
    obtain ⟨its, rv, ⟨o, m, e1, e2, e3, e4⟩, _⟩ := I.list h
    obtain ⟨as, ra⟩ := DtAll.reads I q rv
    exact ⟨_, .list e1 e2 e4 (by simpa using ra), fun z => nomatch z⟩
  | _, _, _, .dk0 (a := a) h n, r => by
    cases r
    obtain ⟨_, hsm, vs, kv, o, es, ep, e1, e2, e3, e4, e5, e6⟩ := (show ObjOk X.prog X.w H s.heap a (.dK []) from I.hok a _ h)
    have ev : vs = [] := by cases kv; rfl
    subst ev
    have ee : es.toList = [] := by
      cases q : es.toList with
      | nil => rfl
      | cons x r => rw [q] at e5; cases e5
    refine ⟨[a], ?_, fun _ => ?_⟩
    · have := Reads.dict (h := s.heap) (a := a) (o := o) (es := es) (n := ep) (kvs := []) (as := []) (bs := []) e1 e2.1 e3 (by rw [ee]; exact .nil) (by rw [ee]; exact .nil)
      simpa using this
    · intro z
      have z' : sysModules = a := by simpa using z
      rw [z'] at hsm
      simp at hsm
theorem DtAll.reads (I : Inv X pins σ H s) : ∀ {vs : List V} {ds : List PyData} {us : List Value}, DtAll X.K N H vs ds → Vals vs us → ∃ as, ReadsAll s.heap us ds as
  | _, _, _, .nil, .nil => ⟨_, .nil⟩
  | _, _, _, .cons h q, .cons r t => by
    obtain ⟨as, ra, _⟩ := Dt.reads I h r
    obtain ⟨bs, rb⟩ := DtAll.reads I q t
    exact ⟨_, .cons ra rb⟩
end
end

/-- what repr shows within the model's bounds -/
structure Shw (d : PyData) : Prop where
  sh : d.showable = true
  dp : d.depth ≤ 30
  ln : d.shown.length ≤ sizeLine
  nd : d.hasDict = false ∨ d = .dict []
section
variable {X : Cx} {N : List Addr}
theorem call_repr {k : Nat} (hr : Room k X.A) : CallR X (.builtin "repr") (fun xs H Q => ∃ x d, xs = [x] ∧ Dt X.K N H x d ∧ Shw d ∧ Q (.str d.shown) H) := by
  intro pins s σ H xs us Q I r h
  obtain ⟨x, d, rfl, hd, hs, q⟩ := h
  obtain ⟨u, rfl, ru⟩ := vals1 r
  have fin : ∀ t tk, EP X pins σ Q (.str d.shown t) { s with toks := tk } := fun t tk => ⟨.str d.shown, H, I.tok tk, ⟨t, rfl⟩, q⟩
  have big : ∀ a, u = .ref a → wpAny (model X.prog X.w) X.A (call (.builtin "repr") [u]) (EP X pins σ Q) X.xe s := fun a e => by
    subst e
    obtain ⟨as, rd, sm⟩ := hd.reads I ru
    refine repr_of_reads' rd hs.sh (fun z => ?_) hr.gd (by have := hr.units; have := hs.dp; omega) (fun _ _ e => e) (fun h' t tk kp => ⟨.str d.shown, H, I.kept (t' := tk) kp, ⟨t, rfl⟩, q⟩) hs.ln
    rcases hs.nd with y | y
    · rw [y] at z; cases z
    · exact sm y
  cases hd with
  | non => cases ru; exact P.repr_of_none (fin _ _)
  | bl b => cases ru; exact P.repr_of_bool (fin _ _)
  | int i => obtain ⟨t, rfl⟩ := ru; exact P.repr_of_int (by have := hs.sh; simpa only [PyData.showable, decide_eq_true_eq] using this) (fin _ _)
  | str x => obtain ⟨t, rfl⟩ := ru; exact P.repr_of_str (fin _ _) (hsz := hs.ln)
  | tup h n r => cases ru; exact big _ rfl
  | lst h n r => cases ru; exact big _ rfl
  | dk0 h n => cases ru; exact big _ rfl
theorem op_neD {k : Nat} (hr : Room k X.A) : OpR X (compareOp .NotEq) (fun x y H Q => ∃ d e, Dt X.K N H x d ∧ Dt X.K N H y e ∧ SeqAt.shaped d = true ∧ SeqAt.shaped e = true ∧ Q (.bl (!PyData.eqv d e)) H) := by
  intro pins s σ H x y v u Q I rx ry h
  obtain ⟨d, e, hd, he, sd, se, q⟩ := h
  obtain ⟨as, ra, _⟩ := hd.reads I rx
  obtain ⟨bs, rb, _⟩ := he.reads I ry
  exact SeqAt.compareNe_shaped ra rb sd se hr.units ⟨.bl _, H, I, rfl, q⟩
end
end L2

namespace L2
open PySem PySem.Spec PyProof.Rows
/-! ### readings, a step at a time -/
section
variable {D : Ends} {σ : St} {H : Hp} {t u : TS} {te ta tb tc : TE} {c tA tB' : TT} {g : TG} {gs : TGs} {Q : VK} {K : PySem.W.Frag} {i : Nat} {v : V} {vs : List V}
theorem rd_seq (h : t { D with nx := u D } σ H) : tSeq t u D σ H := h
theorem rd_if (h : c σ H fun b H1 => if b = true then t D σ H1 else u D σ H1) : tIfS c t u D σ H := h
theorem rd_asg (h : te σ H fun x H1 => g x σ H1 D.nx) : tAsg te g D σ H := h
theorem rd_drop (h : te σ H fun _ H1 => D.nx σ H1) : tDrop te D σ H := h
theorem rd_ret (h : te σ H D.rt) : tRet te D σ H := h
theorem rd_next (h : D.nx σ H) : tNext D σ H := h
theorem rd_op {r : R2} (h : ta σ H fun x H1 => tb σ H1 fun y H2 => r x y H2 Q) : tOp r ta tb σ H Q := h
theorem rd_un {r : V → Hp → VK → Prop} (h : ta σ H fun x H1 => r x H1 Q) : tUn r ta σ H Q := h
theorem rd_var (e : σ[i]? = some (some v)) (h : Q v H) : tVar i σ H Q := ⟨v, e, h⟩
theorem rd_c (h : Q v H) : tC v σ H Q := h
theorem rd_I0 {f : Int → Int → V} {i j : Int} (h : Q (f i j) H) : rI0 f (.int i) (.int j) H Q := ⟨i, j, rfl, rfl, h⟩
theorem rd_I {C : Int → Int → Prop} {f : Int → Int → V} {i j : Int} (hc : C i j) (h : Q (f i j) H) : rI C f (.int i) (.int j) H Q := ⟨i, j, rfl, rfl, hc, h⟩
theorem rd_U {f : Int → V} {i : Int} (h : Q (f i) H) : rU f (.int i) H Q := ⟨i, rfl, h⟩
theorem rd_test {Q : Bool → Hp → Prop} (h : te σ H fun x H' => ∃ k, x = .bl k ∧ Q k H') : tTest te σ H Q := h
theorem rd_tB {Q : Bool → Hp → Prop} (h : te σ H fun x H' => ∃ k, x = .bl k ∧ Q k H') : tB te σ H Q := h
theorem rd_bl' {P : Bool → Prop} {k : Bool} (h : P k) : ∃ k', V.bl k = .bl k' ∧ P k' := ⟨k, rfl, h⟩
theorem rd_eq {x y : V} (hs : scal x y = true) (h : Q (.bl (decide (x = y))) H) : rEq x y H Q := ⟨hs, h⟩
theorem rd_ne {x y : V} (hs : scal x y = true) (h : Q (.bl (!decide (x = y))) H) : rNe x y H Q := ⟨hs, h⟩
theorem rd_ixL {p : Addr} {xs : List V} {i : Int} (hq : SqL K H p xs) (ha : atI xs i = some v) (h : Q v H) : rIxL K (.ref p) (.int i) H Q := ⟨p, xs, i, v, rfl, rfl, hq, ha, h⟩
theorem rd_ixT {p : Addr} {xs : List V} {i : Int} (hq : SqT K H p xs) (ha : atI xs i = some v) (h : Q v H) : rIxT K (.ref p) (.int i) H Q := ⟨p, xs, i, v, rfl, rfl, hq, ha, h⟩
theorem rd_name {Q : St → Hp → Prop} (h : Q (σ.set i (some v)) H) : gName i v σ H Q := h
theorem rd_sub {to ti : TE} {s : TSet} {Q : St → Hp → Prop} (h : to σ H fun o H1 => ti σ H1 fun i H2 => s o i v H2 fun H3 => Q σ H3) : gSub to ti s v σ H Q := h
theorem rd_setL {p : Addr} {xs : List V} {k : Int} {j : Nat} {Q : Hp → Prop} (hp : H p = some (.lst xs)) (hi : ixN xs.length k = some j) (h : Q (upd H p (.lst (xs.set j v)))) : rSetL (.ref p) (.int k) v H Q := ⟨p, xs, k, j, rfl, rfl, hp, hi, h⟩
theorem rd_CB {r : List V → Hp → VK → Prop} {ta : TA} (h : ta σ H fun vs H1 => r vs H1 Q) : tCB r ta σ H Q := h
theorem rd_nil {Q : List V → Hp → Prop} (h : Q [] H) : tNil σ H Q := h
theorem rd_cons {tr : TA} {Q : List V → Hp → Prop} (h : ta σ H fun x H1 => tr σ H1 fun xs H2 => Q (x :: xs) H2) : tCons ta tr σ H Q := h
theorem rd_and {Q : Bool → Hp → Prop} (h : tA σ H fun c H1 => if c = true then tB' σ H1 Q else Q false H1) : tAnd tA tB' σ H Q := h
theorem rd_or {Q : Bool → Hp → Prop} (h : tA σ H fun c H1 => if c = true then Q true H1 else tB' σ H1 Q) : tOr tA tB' σ H Q := h
theorem rd_not {Q : Bool → Hp → Prop} (h : tA σ H fun c H1 => Q (!c) H1) : tNot tA σ H Q := h
theorem rd_andV (h : ta σ H fun x H1 => ∃ c, x = .bl c ∧ if c = true then tb σ H1 Q else Q (.bl false) H1) : tAndV ta tb σ H Q := h
theorem rd_notV (h : ta σ H fun x H1 => ∃ c, x = .bl c ∧ Q (.bl (!c)) H1) : tNotV ta σ H Q := h
theorem rd_call {sp : Sp} {dvs : List V} {E : XK} {ta : TA} (h : ta σ H fun vs H1 => sp (vs ++ dvs) H1 Q E) : tCall sp dvs E ta σ H Q := h
theorem rd_tup {ta : TA} (h : ta σ H fun xs H1 => xs.length ≤ sizeLine ∧ ∀ p, H1 p = none → Q (.ref p) (upd H1 p (.tup xs))) : tTup ta σ H Q := h
theorem rd_lst {ta : TA} (h : ta σ H fun xs H1 => xs.length ≤ sizeLine ∧ ∀ p, H1 p = none → Q (.ref p) (upd H1 p (.lst xs))) : tLst ta σ H Q := h
theorem rd_chain {r r' : R2} (h : ta σ H fun x H1 => tb σ H1 fun y H2 => r x y H2 fun z H3 => ∃ k, z = .bl k ∧ if k = true then tc σ H3 fun w H4 => r' y w H4 Q else Q (.bl false) H3) : tChain r r' ta tb tc σ H Q := h
theorem rd_sl {r : V → Option Int → Option Int → Hp → VK → Prop} {tl th : TO} (h : te σ H fun x H1 => tl σ H1 fun l H2 => th σ H2 fun u H3 => r x l u H3 Q) : tSl r te tl th σ H Q := h
theorem rd_nopart {Q : Option Int → Hp → Prop} (h : Q none H) : tNoPart σ H Q := h
theorem rd_part {Q : Option Int → Hp → Prop} (h : te σ H fun x H1 => ∃ i, x = .int i ∧ Q (some i) H1) : tPart te σ H Q := h
theorem rd_int {P : Int → Prop} {i : Int} (h : P i) : ∃ i', V.int i = .int i' ∧ P i' := ⟨i, rfl, h⟩
theorem rd_slL {p : Addr} {xs : List V} {lo hi : Option Int} (hq : SqL K H p xs) (h : ∀ l, H l = none → Q (.ref l) (upd H l (.lst (cutV xs lo hi)))) : rSlL K (.ref p) lo hi H Q := ⟨p, xs, rfl, hq, h⟩
theorem rd_slG {p : Addr} {xs : List V} {lo hi : Option Int} (hq : SqT K H p xs) (h : ∀ q H', (q = p ∨ H q = none) → Same H H' → SqT K H' q (cutV xs lo hi) → Q (.ref q) H') : rSlG K (.ref p) lo hi H Q := ⟨p, xs, rfl, hq, h⟩
theorem rd_catG {p q : Addr} {xs ys : List V} (h1 : SqT K H p xs) (h2 : SqT K H q ys) (hz : xs.length + ys.length ≤ sizeLine) (h : ∀ r H', (r = p ∨ r = q ∨ H r = none) → Same H H' → SqT K H' r (xs ++ ys) → Q (.ref r) H') : rCatG K (.ref p) (.ref q) H Q := ⟨p, q, xs, ys, rfl, rfl, h1, h2, hz, h⟩
theorem rd_tupT {t : TGs} {n : Nat} {p : Addr} {xs : List V} {Q : St → Hp → Prop} (hq : SqT K H p xs) (hl : xs.length = n) (h : t xs σ H Q) : gTup K n t (.ref p) σ H Q := ⟨p, xs, rfl, hq, hl, h⟩
theorem rd_gnil {Q : St → Hp → Prop} (h : Q σ H) : gNil [] σ H Q := ⟨rfl, h⟩
theorem rd_gcons {t : TG} {u : TGs} {v : V} {r : List V} {Q : St → Hp → Prop} (h : t v σ H fun σ' H' => u r σ' H' Q) : gCons t u (v :: r) σ H Q := ⟨v, r, rfl, h⟩
theorem rd_BM {T : String} {r : V → List V → Hp → VK → Prop} {to : TE} {t : TA} (h : to σ H fun x H1 => tyV K T x H1 ∧ t σ H1 fun xs H2 => r x xs H2 Q) : tBM K T r to t σ H Q := h
theorem rd_append {l : Addr} {xs : List V} {y : V} (h1 : H l = some (.lst xs)) (hz : xs.length < sizeLine) (h : Q .non (upd H l (.lst (xs ++ [y])))) : rAppend (.ref l) [y] H Q := ⟨l, xs, y, rfl, rfl, h1, hz, h⟩
theorem rd_rng1 {ta : TA} {R : It → Hp → Prop} (h : ta σ H fun vs H1 => ∃ j : Int, vs = [.int j] ∧ -(2 ^ 62) ≤ j ∧ j < 2 ^ 62 ∧ R (Itr 0 j.toNat) H1) : iRng1 ta σ H R := h
theorem rd_rngV {j : Int} {P : Int → Prop} (h : P j) : ∃ j' : Int, [V.int j] = [.int j'] ∧ P j' := ⟨j, rfl, h⟩
theorem rd_ilist {tl : TE} {R : It → Hp → Prop} (h : tl σ H fun x H1 => ∃ a, x = .ref a ∧ (∃ xs, SqL K H1 a xs) ∧ R (Itl K a) H1) : iList K tl σ H R := h
theorem rd_itup {tl : TE} {R : It → Hp → Prop} (h : tl σ H fun x H1 => ∃ a, x = .ref a ∧ (∃ xs, SqT K H1 a xs) ∧ R (Itt K a) H1) : iTup K tl σ H R := h
end
/-! ### the calls' readings, each with a name -/
abbrev TR := List V → Hp → VK → Prop
def rLen (K : PySem.W.Frag) : TR := fun xs H Q => ∃ p ys, xs = [.ref p] ∧ (SqL K H p ys ∨ SqT K H p ys) ∧ Q (.int ys.length) H
def rLenS : TR := fun xs H Q => ∃ z, xs = [.str z] ∧ z.length ≤ sizeLine ∧ Q (.int z.length) H
def rIsi (K : PySem.W.Frag) : TR := fun xs H Q => ∃ x T n b, xs = [x, .ty n] ∧ TyS K H x T ∧ subT T n = some b ∧ Q (.bl b) H
def rAll (K : PySem.W.Frag) : TR := fun xs H Q => ∃ (p : Addr) (bs : List Bool), xs = [.ref p] ∧ SqL K H p (bs.map V.bl) ∧ Q (.bl (bs.all id)) H
def rRepr (K : PySem.W.Frag) : TR := fun xs H Q => ∃ (N : List Addr) (x : V) (d : PyData), xs = [x] ∧ Dt K N H x d ∧ Shw d ∧ Q (.str d.shown) H
def rListOf (K : PySem.W.Frag) : TR := fun xs H Q => ∃ p ys, xs = [.ref p] ∧ (SqL K H p ys ∨ SqT K H p ys) ∧ ∀ l, H l = none → Q (.ref l) (upd H l (.lst ys))
def rTupleOf (K : PySem.W.Frag) : TR := fun xs H Q => ∃ p ys, xs = [.ref p] ∧ ((SqL K H p ys ∧ ∀ l, H l = none → Q (.ref l) (upd H l (.tup ys))) ∨ (SqT K H p ys ∧ Q (.ref p) H))
def rMin : TR := fun xs H Q => ∃ i j, xs = [.int i, .int j] ∧ Q (.int (if j < i then j else i)) H
def rMax : TR := fun xs H Q => ∃ i j, xs = [.int i, .int j] ∧ Q (.int (if j > i then j else i)) H
def rStr : TR := fun xs H Q => ∃ i, xs = [.int i] ∧ i.natAbs.log2 < 1920 ∧ Q (.str (toString i)) H
def rEqD (K : PySem.W.Frag) : R2 := fun x y H Q => ∃ (N : List Addr) (d e : PyData), Dt K N H x d ∧ Dt K N H y e ∧ SeqAt.shaped d = true ∧ SeqAt.shaped e = true ∧ Q (.bl (PyData.eqv d e)) H
def rNeD (K : PySem.W.Frag) : R2 := fun x y H Q => ∃ (N : List Addr) (d e : PyData), Dt K N H x d ∧ Dt K N H y e ∧ SeqAt.shaped d = true ∧ SeqAt.shaped e = true ∧ Q (.bl (!PyData.eqv d e)) H
def rIsN : R2 := fun x y H Q => y = .non ∧ Q (.bl (decide (x = .non))) H
def rNotN : R2 := fun x y H Q => y = .non ∧ Q (.bl (!decide (x = .non))) H
section
variable {X : Cx}
theorem cn_len : CallR X (.builtin "len") (rLen X.K) := call_len_seq
theorem cn_isi : CallR X (.builtin "isinstance") (rIsi X.K) := call_isi
theorem cn_all (hc : X.calm = true) : CallR X (.builtin "all") (rAll X.K) := call_all hc
theorem cn_repr {k : Nat} (hr : Room k X.A) : CallR X (.builtin "repr") (rRepr X.K) := fun pins s σ H xs us Q I r ⟨N, x, d, h⟩ => call_repr (N := N) hr pins s σ H xs us Q I r ⟨x, d, h⟩
theorem cn_list : CallR X (.type "list") (rListOf X.K) := call_list_of
theorem cn_tuple : CallR X (.type "tuple") (rTupleOf X.K) := call_tuple_of
theorem cn_min (hc : X.calm = true) : CallR X (.builtin "min") rMin := call_min2 hc
theorem cn_max (hc : X.calm = true) : CallR X (.builtin "max") rMax := call_max2 hc
theorem on_neD {k : Nat} (hr : Room k X.A) : OpR X (compareOp .NotEq) (rNeD X.K) := fun pins s σ H x y v u Q I rx ry ⟨N, d, e, h⟩ => op_neD (N := N) hr pins s σ H x y v u Q I rx ry ⟨d, e, h⟩
theorem on_isN : OpR X (compareOp .Is) rIsN := op_isN
end
section
variable {H : Hp} {Q : VK} {K : PySem.W.Frag} {N : List Addr} {p : Addr} {xs : List V}
theorem rd_lenL (hq : SqL K H p xs) (h : Q (.int xs.length) H) : rLen K [.ref p] H Q := ⟨p, xs, rfl, .inl hq, h⟩
theorem rd_lenT (hq : SqT K H p xs) (h : Q (.int xs.length) H) : rLen K [.ref p] H Q := ⟨p, xs, rfl, .inr hq, h⟩
theorem rd_isi {x : V} {T n : String} {b : Bool} (ty : TyS K H x T) (hs : subT T n = some b) (h : Q (.bl b) H) : rIsi K [x, .ty n] H Q := ⟨x, T, n, b, rfl, ty, hs, h⟩
theorem rd_repr {x : V} {d : PyData} (hd : Dt K N H x d) (hs : Shw d) (h : Q (.str d.shown) H) : rRepr K [x] H Q := ⟨N, x, d, rfl, hd, hs, h⟩
theorem rd_neD {x y : V} {d e : PyData} (hd : Dt K N H x d) (he : Dt K N H y e) (h1 : SeqAt.shaped d = true) (h2 : SeqAt.shaped e = true) (h : Q (.bl (!PyData.eqv d e)) H) : rNeD K x y H Q := ⟨N, d, e, hd, he, h1, h2, h⟩
theorem rd_listL (hq : SqL K H p xs) (h : ∀ l, H l = none → Q (.ref l) (upd H l (.lst xs))) : rListOf K [.ref p] H Q := ⟨p, xs, rfl, .inl hq, h⟩
theorem rd_tupleL (hq : SqL K H p xs) (h : ∀ l, H l = none → Q (.ref l) (upd H l (.tup xs))) : rTupleOf K [.ref p] H Q := ⟨p, xs, rfl, .inl ⟨hq, h⟩⟩
theorem rd_all {bs : List Bool} (hq : SqL K H p (bs.map V.bl)) (h : Q (.bl (bs.all id)) H) : rAll K [.ref p] H Q := ⟨p, bs, rfl, hq, h⟩
theorem rd_min {i j : Int} (h : Q (.int (if j < i then j else i)) H) : rMin [.int i, .int j] H Q := ⟨i, j, rfl, h⟩
theorem rd_max {i j : Int} (h : Q (.int (if j > i then j else i)) H) : rMax [.int i, .int j] H Q := ⟨i, j, rfl, h⟩
theorem rd_isN {x : V} (h : Q (.bl (decide (x = .non))) H) : rIsN x .non H Q := ⟨rfl, h⟩
end
theorem atI_in {α : Type} {xs : List α} {i : Int} (h0 : 0 ≤ i) (h1 : i < xs.length) : ∃ v, atI xs i = some v ∧ xs[i.toNat]? = some v := by
  obtain ⟨n, rfl⟩ := Int.eq_ofNat_of_zero_le h0
  have hn : n < xs.length := by omega
  exact ⟨xs[n], atI_nat (by simp [hn]), by simp [hn]⟩
theorem atI_ints {ns : List Int} {i : Int} (h0 : 0 ≤ i) (h1 : i < ns.length) : ∃ n, atI (ns.map V.int) i = some (.int n) ∧ n ∈ ns := by
  obtain ⟨v, h2, h3⟩ := atI_in (xs := ns.map V.int) h0 (by simpa using h1)
  rw [List.getElem?_map] at h3
  cases e : ns[i.toNat]? with
  | none => rw [e] at h3; cases h3
  | some n => rw [e] at h3; cases h3; exact ⟨n, h2, List.mem_of_getElem? e⟩
/-- the turns of a comprehension, of a loop -/
def CompW (σ0 : St) (J : It) (H1 : Hp) (acc : Addr) (g : TG) (tt : TT) (te : TE) (Q : VK) : Prop := ∃ W : Nat → Nat → St → Hp → Prop, (∃ m, W 0 m σ0 (upd H1 acc (.lst []))) ∧ ∀ i m σc H, W i m σc H →
    (J.stop i H ∧ Q (.ref acc) H) ∨ (J.go i H ∧ ∃ N : St → Hp → Prop, (∀ σ' H', N σ' H' → ∃ m', m' < m ∧ W (i + 1) m' σ' H') ∧ ∀ x H', J.yld i H x H' → g x σc H' fun σ2 H2 => tt σ2 H2 fun b H3 =>
      if b = true then te σ2 H3 fun v H4 => ∃ xs, H4 acc = some (.lst xs) ∧ xs.length < sizeLine ∧ N σ2 (upd H4 acc (.lst (xs ++ [v]))) else N σ2 H3)
def ForW (J : It) (g : TG) (tb : TS) (D : Ends) (σ : St) (H : Hp) : Prop := ∃ W : Nat → Nat → St → Hp → Prop, (∃ m, W 0 m σ H) ∧ ∀ i m σ H, W i m σ H →
  (J.stop i H ∧ D.nx σ H) ∨ (J.go i H ∧ ∃ N : St → Hp → Prop, (∀ σ' H', N σ' H' → ∃ m', m' < m ∧ W (i + 1) m' σ' H') ∧ ∀ x H', J.yld i H x H' → g x σ H' fun σ2 H2 => tb { D with nx := N, ct := N, bk := D.nx } σ2 H2)
/-! ### a comprehension without tests, by an invariant over the list so far -/
section
variable {J : It} {H1 : Hp} {acc : Addr} {σ0 : St} {g : TG} {te : TE} {Q : VK}
theorem comp_by (n : Nat) (hn : n < sizeLine) (Pv : Nat → List V → St → Hp → Prop) (h0 : Pv 0 [] σ0 (upd H1 acc (.lst [])))
    (hgo : ∀ i vs σc H, i < n → vs.length = i → H acc = some (.lst vs) → Pv i vs σc H → J.go i H ∧ ∀ x H', J.yld i H x H' → ∀ R : St → V → Hp → Prop,
      (∀ σ2 v H4, H4 acc = some (.lst vs) → Pv (i + 1) (vs ++ [v]) σ2 (upd H4 acc (.lst (vs ++ [v]))) → R σ2 v H4) → g x σc H' fun σ2 H2 => te σ2 H2 (R σ2))
    (hst : ∀ vs σc H, vs.length = n → H acc = some (.lst vs) → Pv n vs σc H → J.stop n H ∧ Q (.ref acc) H) :
    CompW σ0 J H1 acc g tYes te Q := by
  refine ⟨fun i m σc H => m = n - i ∧ i ≤ n ∧ ∃ vs, vs.length = i ∧ H acc = some (.lst vs) ∧ Pv i vs σc H, ⟨n, by simp, Nat.zero_le _, [], rfl, upd_same, h0⟩, ?_⟩
  rintro i m σc H ⟨rfl, hi, vs, hl, ha, hp⟩
  by_cases hlt : i < n
  · obtain ⟨g1, g2⟩ := hgo i vs σc H hlt hl ha hp
    refine .inr ⟨g1, fun σ' H' => i + 1 ≤ n ∧ ∃ vs, vs.length = i + 1 ∧ H' acc = some (.lst vs) ∧ Pv (i + 1) vs σ' H', fun σ' H' q => ⟨n - (i + 1), by omega, rfl, q⟩, fun x H' y => ?_⟩
    simp only [tYes, if_true]
    exact g2 x H' y (fun σ2 v H4 => ∃ xs, H4 acc = some (.lst xs) ∧ xs.length < sizeLine ∧ (i + 1 ≤ n ∧ ∃ vs, vs.length = i + 1 ∧ (upd H4 acc (.lst (xs ++ [v]))) acc = some (.lst vs) ∧ Pv (i + 1) vs σ2 (upd H4 acc (.lst (xs ++ [v])))))
      fun σ2 v H4 q1 q2 => ⟨vs, q1, by omega, hlt, vs ++ [v], by simp [hl], upd_same, q2⟩
  · have e : i = n := by omega
    subst e
    exact .inl (hst vs σc H hl ha hp)
end
theorem rd_comp {K : PySem.W.Frag} {fr : List (Option Nat)} {wi : TI} {g : TG} {tt : TT} {te : TE} {σ : St} {H : Hp} {Q : VK} (h : wi σ H fun J H1 => ∀ acc, H1 acc = none → K.lookup acc = none → CompW (stC fr σ) J H1 acc g tt te Q) : tComp K fr wi g tt te σ H Q := h
theorem rd_for {wi : TI} {g : TG} {tb : TS} {D : Ends} {σ : St} {H : Hp} (h : wi σ H fun J H1 => ForW J g tb D σ H1) : tFor wi g tb D σ H := h
theorem for_listW {K : PySem.W.Frag} {a : Addr} {xs : List V} {g : TG} {tb : TS} {D : Ends} {σ : St} {H : Hp} (Pv : Nat → St → Hp → Prop) (h0 : Pv 0 σ H) (hl : ∀ i σ H, i ≤ xs.length → Pv i σ H → SqL K H a xs)
    (hs : ∀ i x σ H, xs[i]? = some x → Pv i σ H → g x σ H fun σ2 H2 => tb { D with nx := Pv (i + 1), ct := Pv (i + 1), bk := D.nx } σ2 H2) (hd : ∀ σ H, Pv xs.length σ H → D.nx σ H) : ForW (Itl K a) g tb D σ H := for_list Pv h0 hl hs hd
theorem for_tupW {K : PySem.W.Frag} {a : Addr} {xs : List V} {g : TG} {tb : TS} {D : Ends} {σ : St} {H : Hp} (Pv : Nat → St → Hp → Prop) (h0 : Pv 0 σ H) (hl : ∀ i σ H, i ≤ xs.length → Pv i σ H → SqT K H a xs)
    (hs : ∀ i x σ H, xs[i]? = some x → Pv i σ H → g x σ H fun σ2 H2 => tb { D with nx := Pv (i + 1), ct := Pv (i + 1), bk := D.nx } σ2 H2) (hd : ∀ σ H, Pv xs.length σ H → D.nx σ H) : ForW (Itt K a) g tb D σ H := for_tup Pv h0 hl hs hd
theorem for_rangeW {lo : Int} {n : Nat} {g : TG} {tb : TS} {D : Ends} {σ : St} {H : Hp} (Pv : Nat → St → Hp → Prop) (h0 : Pv 0 σ H)
    (hs : ∀ i σ H, i < n → Pv i σ H → g (.int (lo + i)) σ H fun σ2 H2 => tb { D with nx := Pv (i + 1), ct := Pv (i + 1), bk := D.nx } σ2 H2) (hd : ∀ σ H, Pv n σ H → D.nx σ H) : ForW (Itr lo n) g tb D σ H := for_range Pv h0 hs hd
theorem rd_izip {K : PySem.W.Frag} {ta : TA} {σ : St} {H : Hp} {R : It → Hp → Prop} (h : ta σ H fun vs H1 => ∃ a b, vs = [.ref a, .ref b] ∧ (∃ xs, SqT K H1 a xs) ∧ (∃ ys, SqT K H1 b ys) ∧ R (Itz K a b) H1) : iZip K ta σ H R := h
theorem subT_of {T n : String} (h1 : T ∈ ["NoneType", "bool", "int", "str", "list", "tuple", "dict"]) (h2 : n ∈ ["int", "bool", "str", "tuple", "list", "dict"]) : subT T n = some (isB T n) := subT_tab T h1 n h2
def tyN : PyData → String
  | .none => "NoneType"
  | .bool _ => "bool"
  | .int _ => "int"
  | .str _ => "str"
  | .list _ => "list"
  | .tuple _ => "tuple"
  | .dict _ => "dict"
theorem tyN_in (d : PyData) : tyN d ∈ ["NoneType", "bool", "int", "str", "list", "tuple", "dict"] := by cases d <;> simp [tyN]
theorem Dt.tyn {K : PySem.W.Frag} {N : List Addr} {H : Hp} {v : V} {d : PyData} (h : Dt K N H v d) : TyS K H v (tyN d) := by
  cases h with
  | non => exact .non
  | bl b => exact .bl b
  | int i => exact .int i
  | str x => exact .str x
  | tup h n r => exact .tup h
  | lst h n r => exact .lst h
  | dk0 h n => exact .dk h
def isTupD : PyData → Bool
  | .tuple _ => true
  | _ => false
def isIntD : PyData → Bool
  | .int _ => true
  | .bool _ => true
  | _ => false
def isBoolD : PyData → Bool
  | .bool _ => true
  | _ => false
def isStrD : PyData → Bool
  | .str _ => true
  | _ => false
def isListD : PyData → Bool
  | .list _ => true
  | _ => false
section
variable {K : PySem.W.Frag} {N : List Addr} {H : Hp} {x : V} {d : PyData} {Q : VK}
theorem rd_isiTup (hd : Dt K N H x d) (h : Q (.bl (isTupD d)) H) : rIsi K [x, .ty "tuple"] H Q := by
  refine rd_isi hd.tyn (subT_of (tyN_in d) (by simp)) ?_
  have e : isB (tyN d) "tuple" = isTupD d := by cases d <;> (dsimp only [tyN, isTupD, isIntD, isBoolD, isStrD, isListD]; decide)
  rw [e]; exact h
theorem rd_isiInt (hd : Dt K N H x d) (h : Q (.bl (isIntD d)) H) : rIsi K [x, .ty "int"] H Q := by
  refine rd_isi hd.tyn (subT_of (tyN_in d) (by simp)) ?_
  have e : isB (tyN d) "int" = isIntD d := by cases d <;> (dsimp only [tyN, isTupD, isIntD, isBoolD, isStrD, isListD]; decide)
  rw [e]; exact h
theorem rd_isiBool (hd : Dt K N H x d) (h : Q (.bl (isBoolD d)) H) : rIsi K [x, .ty "bool"] H Q := by
  refine rd_isi hd.tyn (subT_of (tyN_in d) (by simp)) ?_
  have e : isB (tyN d) "bool" = isBoolD d := by cases d <;> (dsimp only [tyN, isTupD, isIntD, isBoolD, isStrD, isListD]; decide)
  rw [e]; exact h
end
theorem rd_iteT {i : Decidable (true = true)} {A B : Prop} (h : A) : @ite Prop (true = true) i A B := by rw [if_pos rfl]; exact h
theorem rd_iteF {i : Decidable (false = true)} {A B : Prop} (h : B) : @ite Prop (false = true) i A B := by rw [if_neg Bool.false_ne_true]; exact h
theorem rd_ite2 {c : Bool} {i : Decidable (c = true)} {A B : Prop} (h1 : c = true → A) (h2 : c = false → B) : @ite Prop (c = true) i A B := by
  cases c with
  | true => rw [if_pos rfl]; exact h1 rfl
  | false => rw [if_neg Bool.false_ne_true]; exact h2 rfl
theorem Same.upd2 {H H' : Hp} {p : Addr} {o : HO} (s : Same H H') (h : H p = none) : Same H (L2.upd H' p o) := fun b u e => by rw [upd_ne (ne_of_none e h)]; exact s b u e
theorem Ext.upd2 {N : List Addr} {H H' : Hp} {p : Addr} {o : HO} (s : Ext N H H') (h : H p = none) : Ext N H (L2.upd H' p o) := fun b u e n => by rw [upd_ne (ne_of_none e h)]; exact s b u e n
theorem Dt.pair {K : PySem.W.Frag} {N : List Addr} {H : Hp} {v : V} {a b : Int} (h : Dt K N H v (.tuple [.int a, .int b])) : ∃ p, v = .ref p ∧ SqT K H p [.int a, .int b] ∧ p ∉ N := by
  cases h with
  | tup h n r =>
    cases r with
    | cons h1 r => cases r with
      | cons h2 r => cases r; cases h1; cases h2; exact ⟨_, rfl, h, n⟩
theorem DtAll.at {K : PySem.W.Frag} {N : List Addr} {H : Hp} {vs : List V} {ds : List PyData} {i : Nat} (r : DtAll K N H vs ds) (h : i < ds.length) : ∃ v d, vs[i]? = some v ∧ ds[i]? = some d ∧ Dt K N H v d := by
  have e : ds[i]? = some ds[i] := by simp [h]
  obtain ⟨v, h1, h2⟩ := r.getD e
  exact ⟨v, ds[i], h1, e, h2⟩
theorem cutV_tail (xs : List V) : cutV xs (some 1) none = xs.drop 1 := by
  unfold cutV
  have e : HT.sIx xs.length 0 (some 1) = min 1 xs.length := HT.sIx_nat _ _ 1
  rw [e, HT.sIx_none]
  cases xs with
  | nil => simp
  | cons x r => rw [List.length_cons, Nat.min_eq_left (by omega)]; simp
/-! ### the rules with the written part by its own name (within a block) -/
section
variable {X : Cx} {K : PySem.W.Frag}
theorem ix_tupK (h : X.K = K) : IxR X (rIxT K) := h ▸ ix_tup
theorem pg_tupK {es : List Expr} {k : Nat} {t : TGs} {n : Nat} {pos : Pos} (hK : X.K = K) (hc : X.calm = true) (h : PGs X es t)
    (hn : (assignEach es X.env).length = n := by rfl) (hst : (assignEach es X.env).findIdx? (·.1) = none := by rfl) : PG X (.Tuple es k pos) (gTup K n t) := hK ▸ pg_tup hc h hn hst
end
end L2

namespace L2
open PySem
/-- the state of the draws: cells, how many were taken, what is left of a great one, the seed -/
structure StOk (K : PySem.W.Frag) (H : Hp) (st : Addr) : Prop where
  ex : ∃ (c : Addr) (cs : List Int) (p q r : Int), H st = some (.lst [.ref c, .int p, .int q, .int r]) ∧ H c = some (.lst (cs.map V.int)) ∧ c ≠ st ∧ 1 ≤ cs.length ∧ cs.length ≤ 63 ∧ 0 ≤ p ∧ 0 ≤ q ∧ 0 ≤ r ∧ r < 2147483647
theorem StOk.ext {K : PySem.W.Frag} {H H' : Hp} {st : Addr} (h : StOk K H st) (e : ∀ b o, H b = some o → H' b = some o) : StOk K H' st := by
  obtain ⟨c, cs, p, q, r, h1, h2, h3⟩ := h.ex
  exact ⟨c, cs, p, q, r, e _ _ h1, e _ _ h2, h3⟩
theorem sz {n : Nat} (h : n ≤ 1000) : n ≤ sizeLine := Nat.le_trans h (by decide)
end L2
namespace Mt
open PySem
/-! the mathematics of histories -/
def numD : PyData → Bool
  | .int _ => true
  | _ => false
def withinD (a b : Int) : PyData → Bool
  | .int i => decide (a ≤ i) && decide (i ≤ b)
  | _ => false
def begunD : PyData → Bool
  | .tuple [x, y] => withinD 0 1000000000 x && withinD 0 1000000 y
  | _ => false
/-- pair by pair, from the last line and fork on -/
def chk : Int → Int → List PyData → Bool
  | _, _, [] => true
  | l, f, .tuple [.int a, .int b] :: r => decide (l < a) && decide (a ≤ 1000000000) && decide (f ≤ b) && decide (b ≤ 1000000) && chk a b r
  | _, _, _ :: _ => false
def first0 : List PyData → Bool
  | .tuple [.int _, .int b] :: _ => decide (b = 0)
  | _ => false
def histD : PyData → Bool
  | .tuple ds => decide (1 ≤ ds.length) && decide (ds.length ≤ 60) && chk (-1) 0 ds && first0 ds
  | _ => false
theorem begun_shape {d : PyData} (h : begunD d = true) : ∃ a b, d = .tuple [.int a, .int b] ∧ 0 ≤ a ∧ a ≤ 1000000000 ∧ 0 ≤ b ∧ b ≤ 1000000 := by
  unfold begunD at h
  split at h
  · rename_i x y
    simp only [Bool.and_eq_true] at h
    obtain ⟨h1, h2⟩ := h
    unfold withinD at h1 h2
    split at h1
    · split at h2
      · rename_i i _ j
        simp only [Bool.and_eq_true, decide_eq_true_eq] at h1 h2
        exact ⟨_, _, rfl, h1.1, h1.2, h2.1, h2.2⟩
      · cases h2
    · cases h1
  · cases h
theorem chk_cons_int (l f a b : Int) (r : List PyData) : chk l f (.tuple [.int a, .int b] :: r) = (decide (l < a) && decide (a ≤ 1000000000) && decide (f ≤ b) && decide (b ≤ 1000000) && chk a b r) := by
  simp only [chk]
theorem chk_begun : ∀ {ds : List PyData} {l f : Int}, -1 ≤ l → 0 ≤ f → chk l f ds = true → ds.all begunD = true
  | [], _, _, _, _, _ => rfl
  | d :: r, l, f, hl, hf, h => by
    unfold chk at h
    split at h
    · rename_i heq; cases heq
    · rename_i a b r' heq
      cases heq
      simp only [Bool.and_eq_true, decide_eq_true_eq] at h
      obtain ⟨⟨⟨⟨h1, h2⟩, h3⟩, h4⟩, h5⟩ := h
      rw [List.all_cons, chk_begun (by omega) (by omega) h5]
      simp only [begunD, withinD, Bool.and_eq_true, decide_eq_true_eq, Bool.and_true]
      exact ⟨⟨by omega, h2⟩, by omega, h4⟩
    · cases h
/-- the i-th pair and the next one rise -/
def rise (ds : List PyData) (i : Nat) : Bool :=
  match ds[i]?, ds[i + 1]? with
  | some (.tuple [.int a, .int b]), some (.tuple [.int c, .int d]) => decide (a < c) && decide (b ≤ d)
  | _, _ => false
theorem chk_rise : ∀ {ds : List PyData} {l f a b : Int} {r : List PyData}, ds = .tuple [.int a, .int b] :: r → ds.all begunD = true → (chk l f ds = (decide (l < a) && decide (f ≤ b) && (List.range r.length).all (rise ds)))
  | _, l, f, a, b, [], rfl, h => by
    rw [List.all_cons] at h
    simp only [begunD, withinD, Bool.and_eq_true, decide_eq_true_eq] at h
    rw [chk_cons_int]
    simp [chk, h.1.1.2, h.1.2.2]
  | _, l, f, a, b, d :: r, rfl, h => by
    have h0 := h
    rw [List.all_cons, Bool.and_eq_true] at h
    obtain ⟨h1, h2⟩ := h
    have h2' := h2
    rw [List.all_cons, Bool.and_eq_true] at h2
    obtain ⟨c, e, rfl, _⟩ := begun_shape h2.1
    simp only [begunD, withinD, Bool.and_eq_true, decide_eq_true_eq] at h1
    rw [chk_cons_int, chk_rise (l := a) (f := b) rfl h2', List.length_cons, List.range_succ_eq_map, List.all_cons, List.all_map]
    have e1 : rise (.tuple [.int a, .int b] :: .tuple [.int c, .int e] :: r) 0 = (decide (a < c) && decide (b ≤ e)) := by simp [rise]
    have e2 : (rise (.tuple [.int a, .int b] :: .tuple [.int c, .int e] :: r) ∘ Nat.succ) = rise (.tuple [.int c, .int e] :: r) := by
      funext i; simp [rise]
    rw [e1, e2, decide_eq_true h1.1.2, decide_eq_true h1.2.2]
    simp only [Bool.and_true]
theorem hist_of_begun {ds : List PyData} (h1 : 1 ≤ ds.length) (h2 : ds.length ≤ 60) (hb : ds.all begunD = true) (hf : first0 ds = true) : histD (.tuple ds) = (List.range (ds.length - 1)).all (rise ds) := by
  cases ds with
  | nil => simp at h1
  | cons d r =>
    have hb' := hb
    rw [List.all_cons, Bool.and_eq_true] at hb'
    obtain ⟨a, b, rfl, g1, g2, g3, g4⟩ := begun_shape hb'.1
    have e : decide (-1 < a) = true := decide_eq_true (by omega)
    have e' : decide (0 ≤ b) = true := decide_eq_true g3
    simp only [histD, hf, Bool.true_and, Bool.and_true, chk_rise (l := -1) (f := 0) rfl hb, e, e', decide_eq_true h1, decide_eq_true h2]
    rfl
theorem hist_not_begun {ds : List PyData} (hb : ds.all begunD = false) : histD (.tuple ds) = false := by
  cases h : histD (.tuple ds) with
  | false => rfl
  | true =>
    simp only [histD, Bool.and_eq_true, decide_eq_true_eq] at h
    rw [chk_begun (by omega) (by omega) h.1.2] at hb
    cases hb
theorem p6 : (10 : Int) ^ (6 : Int).toNat = 1000000 := by decide
end Mt

set_option maxRecDepth 100000
namespace Mt
open PySem L2
/-! what may be shown: small data -/
structure Itm (w k : Nat) (d : PyData) : Prop where
  sh : d.showable = true
  lv : d.leavesShort 60 = true
  wt : d.weight ≤ w
  dp : d.depth ≤ k
  nd : d.hasDict = false
theorem Itm.shw {w k : Nat} {d : PyData} (h : Itm w k d) (hw : w ≤ 200000) (hk : k ≤ 30) : Shw d := by
  refine ⟨h.sh, Nat.le_trans h.dp hk, ?_, .inl h.nd⟩
  have e := PyData.shown_le 60 (by decide) d h.lv
  have e2 := h.wt
  rw [sizeLine_eq]
  have e3 : (60 + 2) * d.weight ≤ 62 * 200000 := Nat.mul_le_mul_left 62 (Nat.le_trans e2 hw)
  omega
theorem itm_none : Itm 0 0 .none := ⟨rfl, rfl, Nat.le_refl _, Nat.le_refl _, rfl⟩
theorem itm_bool (b : Bool) : Itm 0 0 (.bool b) := ⟨rfl, rfl, Nat.le_refl _, Nat.le_refl _, rfl⟩
theorem log2_le {n : Nat} (h : n < 10 ^ 41) : n.log2 < 140 := by
  by_cases h0 : n = 0
  · subst h0; decide
  · exact (Nat.log2_lt h0).mpr (Nat.lt_of_lt_of_le h (by decide))
theorem itm_int {i : Int} (h : i.natAbs < 10 ^ 41) : Itm 140 0 (.int i) := by
  have hl := log2_le h
  refine ⟨?_, ?_, ?_, Nat.le_refl _, rfl⟩
  · simp only [PyData.showable, decide_eq_true_eq]; omega
  · have e := int_text_length_le10 (k := 41) (by decide) h
    have e' : (PyData.shown (.int i)).length = (toString i).length := ofString_length _
    simp only [PyData.leavesShort, decide_eq_true_eq, e']; omega
  · simp only [PyData.weight]
    split <;> omega
def cpsOk (x : Str) : Prop := (x.cps.toList.all fun c => decide (c < 16 ^ 8)) = true
theorem itm_str {x : Str} (h : cpsOk x) (hl : x.length ≤ 140) : Itm 140 0 (.str x) := ⟨rfl, h, hl, Nat.le_refl _, rfl⟩
theorem all_showable {w k : Nat} : ∀ {ds : List PyData}, (∀ d ∈ ds, Itm w k d) → PyData.showableAll ds = true
  | [], _ => rfl
  | d :: r, h => by
    simp only [PyData.showableAll, Bool.and_eq_true]
    exact ⟨(h d (by simp)).sh, all_showable fun e he => h e (List.mem_cons_of_mem _ he)⟩
theorem all_leaves {w k : Nat} : ∀ {ds : List PyData}, (∀ d ∈ ds, Itm w k d) → PyData.leavesShortAll 60 ds = true
  | [], _ => rfl
  | d :: r, h => by
    simp only [PyData.leavesShortAll, Bool.and_eq_true]
    exact ⟨(h d (by simp)).lv, all_leaves fun e he => h e (List.mem_cons_of_mem _ he)⟩
theorem all_weight {w k : Nat} : ∀ {ds : List PyData}, (∀ d ∈ ds, Itm w k d) → PyData.weightAll ds ≤ ds.length * (w + 1)
  | [], _ => by simp [PyData.weightAll]
  | d :: r, h => by
    have h1 := (h d (by simp)).wt
    have h2 := all_weight (ds := r) fun e he => h e (List.mem_cons_of_mem _ he)
    simp only [PyData.weightAll, List.length_cons, Nat.add_mul, Nat.one_mul]
    omega
theorem all_depth {w k : Nat} : ∀ {ds : List PyData}, (∀ d ∈ ds, Itm w k d) → PyData.depthAll ds ≤ k
  | [], _ => by simp [PyData.depthAll]
  | d :: r, h => by
    simp only [PyData.depthAll]
    exact Nat.max_le.mpr ⟨(h d (by simp)).dp, all_depth fun e he => h e (List.mem_cons_of_mem _ he)⟩
theorem all_nodict {w k : Nat} : ∀ {ds : List PyData}, (∀ d ∈ ds, Itm w k d) → PyData.hasDictAll ds = false
  | [], _ => rfl
  | d :: r, h => by
    simp only [PyData.hasDictAll, Bool.or_eq_false_iff]
    exact ⟨(h d (by simp)).nd, all_nodict fun e he => h e (List.mem_cons_of_mem _ he)⟩
theorem itm_tuple {w k n : Nat} {ds : List PyData} (h : ∀ d ∈ ds, Itm w k d) (hn : ds.length ≤ n) : Itm (n * (w + 1)) (k + 1) (.tuple ds) :=
  ⟨all_showable h, all_leaves h, Nat.le_trans (all_weight h) (Nat.mul_le_mul_right _ hn), Nat.succ_le_succ (all_depth h), all_nodict h⟩
theorem itm_list {w k n : Nat} {ds : List PyData} (h : ∀ d ∈ ds, Itm w k d) (hn : ds.length ≤ n) : Itm (n * (w + 1)) (k + 1) (.list ds) :=
  ⟨all_showable h, all_leaves h, Nat.le_trans (all_weight h) (Nat.mul_le_mul_right _ hn), Nat.succ_le_succ (all_depth h), all_nodict h⟩
theorem shw_dict0 : Shw (.dict []) := ⟨rfl, by decide, by decide +kernel, .inr rfl⟩

/-! histories as lists of pairs -/
def pr (p : Int × Int) : PyData := .tuple [.int p.1, .int p.2]
def okP : Int → Int → List (Int × Int) → Prop
  | _, _, [] => True
  | l, f, (a, b) :: r => l < a ∧ a ≤ 1000000000 ∧ f ≤ b ∧ b ≤ 1000000 ∧ okP a b r
theorem okP_snoc : ∀ {l f : Int} {hs : List (Int × Int)} {a b c d : Int}, okP l f (hs ++ [(a, b)]) → a < c → c ≤ 1000000000 → b ≤ d → d ≤ 1000000 → okP l f (hs ++ [(a, b)] ++ [(c, d)])
  | l, f, [], a, b, c, d, h, h1, h2, h3, h4 => ⟨h.1, h.2.1, h.2.2.1, h.2.2.2.1, h1, h2, h3, h4, trivial⟩
  | l, f, (x, y) :: r, a, b, c, d, h, h1, h2, h3, h4 => ⟨h.1, h.2.1, h.2.2.1, h.2.2.2.1, okP_snoc h.2.2.2.2 h1 h2 h3 h4⟩
theorem okP_bound : ∀ {l f : Int} {hs : List (Int × Int)}, -1 ≤ l → 0 ≤ f → okP l f hs → ∀ p ∈ hs, 0 ≤ p.1 ∧ p.1 ≤ 1000000000 ∧ 0 ≤ p.2 ∧ p.2 ≤ 1000000
  | l, f, [], _, _, _, p, hp => by simp at hp
  | l, f, (a, b) :: r, hl, hf, h, p, hp => by
    obtain ⟨h1, h2, h3, h4, h5⟩ := h
    rcases List.mem_cons.mp hp with rfl | hp
    · exact ⟨by show 0 ≤ a; omega, h2, by show 0 ≤ b; omega, h4⟩
    · exact okP_bound (by omega) (by omega) h5 p hp
theorem chk_okP : ∀ {l f : Int} {hs : List (Int × Int)}, okP l f hs → chk l f (hs.map pr) = true
  | l, f, [], _ => rfl
  | l, f, (a, b) :: r, h => by
    obtain ⟨h1, h2, h3, h4, h5⟩ := h
    rw [List.map_cons]
    show chk l f (.tuple [.int a, .int b] :: r.map pr) = true
    rw [chk_cons_int, chk_okP h5]
    simp [h1, h2, h3, h4]
/-- a history: its pairs -/
structure HOK (hs : List (Int × Int)) : Prop where
  len1 : 1 ≤ hs.length
  len2 : hs.length ≤ 60
  ok : okP (-1) 0 hs
  zero : ∃ a r, hs = (a, 0) :: r
theorem HOK.hist {hs : List (Int × Int)} (h : HOK hs) : histD (.tuple (hs.map pr)) = true := by
  obtain ⟨a, r, rfl⟩ := h.zero
  have h1 := h.len1
  have h2 := h.len2
  simp only [histD, chk_okP h.ok, List.length_map, decide_eq_true h1, decide_eq_true h2]
  rfl
theorem HOK.bound {hs : List (Int × Int)} (h : HOK hs) : ∀ p ∈ hs, 0 ≤ p.1 ∧ p.1 ≤ 1000000000 ∧ 0 ≤ p.2 ∧ p.2 ≤ 1000000 := okP_bound (by decide) (by decide) h.ok
end Mt
namespace L2
open PySem
theorem sub_not {N N' : List Addr} (h : ∀ b ∈ N', b ∈ N) {a : Addr} (n : a ∉ N) : a ∉ N' := fun z => n (h a z)
mutual
theorem Dt.weaken {K : PySem.W.Frag} {N N' : List Addr} {H : Hp} (h : ∀ b ∈ N', b ∈ N) : ∀ {v : V} {d : PyData}, Dt K N H v d → Dt K N' H v d
  | _, _, .non => .non
  | _, _, .bl b => .bl b
  | _, _, .int i => .int i
  | _, _, .str x => .str x
  | _, _, .tup q n r => .tup q (sub_not h n) (DtAll.weaken h r)
  | _, _, .lst q n r => .lst q (sub_not h n) (DtAll.weaken h r)
  | _, _, .dk0 q n => .dk0 q (sub_not h n)
theorem DtAll.weaken {K : PySem.W.Frag} {N N' : List Addr} {H : Hp} (h : ∀ b ∈ N', b ∈ N) : ∀ {vs : List V} {ds : List PyData}, DtAll K N H vs ds → DtAll K N' H vs ds
  | _, _, .nil => .nil
  | _, _, .cons q r => .cons (Dt.weaken h q) (DtAll.weaken h r)
end
theorem StOk.at {K : PySem.W.Frag} {H : Hp} {st : Addr} (h : StOk K H st) : ∃ xs, H st = some (.lst xs) := by
  obtain ⟨c, cs, p, q, r, h1, _⟩ := h.ex
  exact ⟨_, h1⟩
/-- an allocation leaves the state -/
theorem StOk.new {K : PySem.W.Frag} {H : Hp} {st p : Addr} {o : HO} (h : StOk K H st) (n : H p = none) : StOk K (upd H p o) st := h.ext (Same.upd n)
theorem StOk.ne {K : PySem.W.Frag} {H : Hp} {st p : Addr} (h : StOk K H st) (n : H p = none) : p ≠ st := by
  obtain ⟨xs, e⟩ := h.at
  exact fun z => by rw [z, e] at n; cases n
theorem DtAll.snoc {K : PySem.W.Frag} {N : List Addr} {H : Hp} : ∀ {ds : List PyData} {d : PyData} {vs : List V}, DtAll K N H vs (ds ++ [d]) → ∃ ws v, vs = ws ++ [v] ∧ DtAll K N H ws ds ∧ Dt K N H v d
  | [], d, _, .cons h .nil => ⟨[], _, rfl, .nil, h⟩
  | _ :: ds, d, _, .cons h r => by
    obtain ⟨ws, v, rfl, h1, h2⟩ := DtAll.snoc r
    exact ⟨_ :: ws, v, rfl, .cons h h1, h2⟩
theorem at3 {a b c : Int} {i : Int} (h0 : 0 ≤ i) (h1 : i < 3) : ∃ w, atI [V.int a, V.int b, V.int c] i = some (.int w) ∧ (w = a ∨ w = b ∨ w = c) := by
  have : i = 0 ∨ i = 1 ∨ i = 2 := by omega
  rcases this with rfl | rfl | rfl
  · exact ⟨a, rfl, .inl rfl⟩
  · exact ⟨b, rfl, .inr (.inl rfl)⟩
  · exact ⟨c, rfl, .inr (.inr rfl)⟩
theorem mul_le {a b m n : Int} (h0 : 0 ≤ a) (h1 : a ≤ m) (h2 : 0 ≤ b) (h3 : b ≤ n) : 0 ≤ a * b ∧ a * b ≤ m * n :=
  ⟨Int.mul_nonneg h0 h2, Int.mul_le_mul h1 h3 h2 (by omega)⟩
theorem rd_seqK {t u : TS} {D : Ends} {σ : St} {H : Hp} (P : St → Hp → Prop) (hu : ∀ σ' H', P σ' H' → u D σ' H') (h : (∀ σ' H', P σ' H' → u D σ' H') → t { D with nx := u D } σ H) : tSeq t u D σ H := h hu
theorem DtAll.atI {K : PySem.W.Frag} {N : List Addr} {H : Hp} {vs : List V} {ds : List PyData} {i : Int} (r : DtAll K N H vs ds) (h0 : 0 ≤ i) (h1 : i < ds.length) : ∃ v d, L2.atI vs i = some v ∧ d ∈ ds ∧ Dt K N H v d := by
  obtain ⟨n, rfl⟩ := Int.eq_ofNat_of_zero_le h0
  obtain ⟨v, d, e1, e2, e3⟩ := r.at (i := n) (by omega)
  exact ⟨v, d, atI_nat e1, List.mem_of_getElem? e2, e3⟩
theorem cps_ofString (s : String) : Mt.cpsOk (Str.ofString s) := by
  unfold Mt.cpsOk
  rw [Str.ofString_eq_toList]
  simp only [List.toList_toArray, List.all_map, List.all_eq_true]
  intro c _
  have : c.toNat < 1114112 := by
    have := c.valid
    rcases this with h | h
    · exact Nat.lt_of_lt_of_le h (by decide)
    · exact Nat.lt_of_lt_of_le h.2 (by decide)
  simp only [Function.comp, decide_eq_true_eq]
  exact Nat.lt_trans this (by decide)
/-! ### makers, the new heap by its facts -/
def tTupA (t : TA) : TE := fun σ H Q => t σ H fun xs H1 => xs.length ≤ sizeLine ∧ ∀ p H', H1 p = none → Same H1 H' → H' p = some (.tup xs) → Q (.ref p) H'
def tLstA (t : TA) : TE := fun σ H Q => t σ H fun xs H1 => xs.length ≤ sizeLine ∧ ∀ p H', H1 p = none → Same H1 H' → H' p = some (.lst xs) → Q (.ref p) H'
def tDNewA : TE := fun _ H Q => ∀ p H', H p = none → Same H H' → H' p = some (.dK []) → Q (.ref p) H'
def rCatA : R2 := fun x y H Q => ∃ l b xs zs, x = .ref l ∧ y = .ref b ∧ H l = some (.lst xs) ∧ H b = some (.lst zs) ∧ xs.length + zs.length ≤ sizeLine ∧ ∀ p H', H p = none → Same H H' → H' p = some (.lst (xs ++ zs)) → Q (.ref p) H'
def rSlA (K : PySem.W.Frag) : V → Option Int → Option Int → Hp → VK → Prop := fun x lo hi H Q => ∃ a xs, x = .ref a ∧ SqL K H a xs ∧ ∀ p H', H p = none → Same H H' → H' p = some (.lst (cutV xs lo hi)) → Q (.ref p) H'
def rListA (K : PySem.W.Frag) : TR := fun xs H Q => ∃ p ys, xs = [.ref p] ∧ (SqL K H p ys ∨ SqT K H p ys) ∧ ∀ l H', H l = none → Same H H' → H' l = some (.lst ys) → Q (.ref l) H'
def rTupleA (K : PySem.W.Frag) : TR := fun xs H Q => ∃ p ys, xs = [.ref p] ∧ (SqL K H p ys ∨ SqT K H p ys) ∧ ∀ l H', (l = p ∨ H l = none) → Same H H' → SqT K H' l ys → Q (.ref l) H'
section
open PyProof.Rows
variable {X : Cx} {es : List Expr} {t : TA} {pos : Pos} {K : PySem.W.Frag}
theorem pe_tupA {x1} (h : PA X es t) : PE X (.Tuple es x1 pos) (tTupA t) := by
  intro pins s σ H Q I hq
  refine wpAny_Tuple_spliced (thn (h pos pins s σ H _ I hq) fun us s1 ⟨xs, H1, I1, r, z, q⟩ => ⟨by rw [← r.length]; exact z, ?_⟩)
  have hf : H1 s1.heap.objs.size = none := I1.hok.fresh (Nat.le_refl _)
  exact ⟨.ref s1.heap.objs.size, upd H1 s1.heap.objs.size (.tup xs), I1.laid (t' := s1.toks) (fun b u e => Heap.get?_push_of_some _ e) (Nat.le_refl _) ⟨z, us, r, ⟨_, Heap.get?_push_size _ rfl, rfl, _, rfl⟩⟩, rfl, q _ _ hf (Same.upd hf) upd_same⟩
theorem pe_lstA (h : PA X es t) : PE X (.List es pos) (tLstA t) := by
  intro pins s σ H Q I hq
  refine wpAny_List_spliced (thn (h pos pins s σ H _ I hq) fun us s1 ⟨xs, H1, I1, r, z, q⟩ => ⟨by rw [← r.length]; exact z, ?_⟩)
  have hf : H1 s1.heap.objs.size = none := I1.hok.fresh (Nat.le_refl _)
  exact ⟨.ref s1.heap.objs.size, upd H1 s1.heap.objs.size (.lst xs), I1.laid (t' := s1.toks) (fun b u e => Heap.get?_push_of_some _ e) (Nat.le_refl _) ⟨z, us, 0, r, Heap.get?_push_size _ rfl⟩, rfl, q _ _ hf (Same.upd hf) upd_same⟩
theorem pe_dnewA : PE X (.Dict [] [] pos) tDNewA := fun pins s σ H Q I h => pe_dnewK pins s σ H Q I fun p hp => h p _ hp (Same.upd hp) upd_same
theorem op_catA : OpR X (binaryOp .Add) rCatA := fun pins s σ H x y v u Q I rx ry ⟨l, b, xs, zs, h1, h2, h3, h4, h5, h6⟩ => op_cat pins s σ H x y v u Q I rx ry ⟨l, b, xs, zs, h1, h2, h3, h4, h5, fun p hp => h6 p _ hp (Same.upd hp) upd_same⟩
theorem cn_listA (hK : X.K = K) : CallR X (.type "list") (rListA K) := fun pins s σ H xs us Q I r ⟨p, ys, h1, h2, h3⟩ => cn_list pins s σ H xs us Q I r ⟨p, ys, h1, by rw [hK]; exact h2, fun l hl => h3 l _ hl (Same.upd hl) upd_same⟩
end
section
variable {σ : St} {H : Hp} {Q : VK} {K : PySem.W.Frag} {ta : TA} {p q : Addr} {xs ys : List V}
theorem rd_tupA (h : ta σ H fun xs H1 => xs.length ≤ sizeLine ∧ ∀ p H', H1 p = none → Same H1 H' → H' p = some (.tup xs) → Q (.ref p) H') : tTupA ta σ H Q := h
theorem rd_lstA (h : ta σ H fun xs H1 => xs.length ≤ sizeLine ∧ ∀ p H', H1 p = none → Same H1 H' → H' p = some (.lst xs) → Q (.ref p) H') : tLstA ta σ H Q := h
theorem rd_dnewA (h : ∀ p H', H p = none → Same H H' → H' p = some (.dK []) → Q (.ref p) H') : tDNewA σ H Q := h
theorem rd_catA (h1 : H p = some (.lst xs)) (h2 : H q = some (.lst ys)) (hz : xs.length + ys.length ≤ sizeLine) (h : ∀ r H', H r = none → Same H H' → H' r = some (.lst (xs ++ ys)) → Q (.ref r) H') : rCatA (.ref p) (.ref q) H Q := ⟨p, q, xs, ys, rfl, rfl, h1, h2, hz, h⟩
theorem rd_listAT (hq : SqT K H p xs) (h : ∀ l H', H l = none → Same H H' → H' l = some (.lst xs) → Q (.ref l) H') : rListA K [.ref p] H Q := ⟨p, xs, rfl, .inr hq, h⟩
end
theorem StOk.same {K : PySem.W.Frag} {H H' : Hp} {st : Addr} (h : StOk K H st) (e : Same H H') : StOk K H' st := h.ext e
/-- the state of the draws, and things at N that are there (the state among them) -/
structure Trk (K : PySem.W.Frag) (N : List Addr) (H : Hp) (st : Addr) : Prop where
  so : StOk K H st
  mem : st ∈ N
  tr : ∀ b ∈ N, H b ≠ none
theorem Trk.ext {K : PySem.W.Frag} {N : List Addr} {H H' : Hp} {st : Addr} (h : Trk K N H st) (S : StOk K H' st) (e : Ext [st] H H') : Trk K N H' st := ⟨S, h.mem, fun b hb z => by
  by_cases q : b = st
  · subst q
    obtain ⟨xs, e'⟩ := S.at
    rw [e'] at z; cases z
  · exact h.tr b hb (e.free z (by simpa using q))⟩
mutual
theorem Dt.fresh {K : PySem.W.Frag} {N : List Addr} {H : Hp} {p : Addr} (h : H p = none) (k : K.lookup p = none) : ∀ {v : V} {d : PyData}, Dt K N H v d → Dt K (p :: N) H v d
  | _, _, .non => .non
  | _, _, .bl b => .bl b
  | _, _, .int i => .int i
  | _, _, .str x => .str x
  | _, _, .tup q n r => .tup q (by
      rw [List.mem_cons, not_or]
      refine ⟨?_, n⟩
      rintro rfl
      rcases q with (q | ⟨o, q⟩) | ⟨o, its, m, q, _⟩
      · rw [h] at q; cases q
      · rw [h] at q; cases q
      · rw [k] at q; cases q) (DtAll.fresh h k r)
  | _, _, .lst q n r => .lst q (by
      rw [List.mem_cons, not_or]
      refine ⟨?_, n⟩
      rintro rfl
      rcases q with (q | ⟨o, q⟩) | ⟨o, its, m, q, _⟩
      · rw [h] at q; cases q
      · rw [h] at q; cases q
      · rw [k] at q; cases q) (DtAll.fresh h k r)
  | _, _, .dk0 q n => .dk0 q (by
      rw [List.mem_cons, not_or]
      refine ⟨?_, n⟩
      rintro rfl
      rw [h] at q; cases q)
theorem DtAll.fresh {K : PySem.W.Frag} {N : List Addr} {H : Hp} {p : Addr} (h : H p = none) (k : K.lookup p = none) : ∀ {vs : List V} {ds : List PyData}, DtAll K N H vs ds → DtAll K (p :: N) H vs ds
  | _, _, .nil => .nil
  | _, _, .cons q r => .cons (Dt.fresh h k q) (DtAll.fresh h k r)
end
theorem Ext.mono {N N' : List Addr} {H H' : Hp} (e : Ext N H H') (h : ∀ b ∈ N, b ∈ N') : Ext N' H H' := fun b u q n => e b u q fun z => n (h b z)
theorem Ext.up {N : List Addr} {st : Addr} {H H' : Hp} (e : Ext [st] H H') (h : st ∈ N) : Ext N H H' := e.mono fun b hb => by
  have : b = st := by simpa using hb
  rw [this]; exact h
theorem Trk.one {K : PySem.W.Frag} {H : Hp} {st : Addr} (S : StOk K H st) : Trk K [st] H st := ⟨S, by simp, fun b hb => by
  simp only [List.mem_cons, List.not_mem_nil, or_false] at hb
  subst hb
  obtain ⟨xs, e⟩ := S.at
  rw [e]; simp⟩
theorem ne_self {v : V} : (!decide (v = v)) = false := by simp
end L2

namespace L2
open PySem PySem.Spec PyProof.Rows
def notStar : Expr → Bool
  | .Starred .. => false
  | _ => true
def noStars : List Expr → Bool
  | [] => true
  | e :: r => notStar e && noStars r
theorem star_ne {e : Expr} {r : List Expr} {env : Env} (h : notStar e = true) : starEach (e :: r) env = (false, eval e env) :: starEach r env := by
  cases e <;> first | rfl | cases h
theorem stars_any {pos : Pos} {env : Env} : ∀ {es : List Expr}, noStars es = true → (backTo pos (starEach es env)).any (·.1) = false
  | [], _ => rfl
  | e :: r, h => by
    simp only [noStars, Bool.and_eq_true] at h
    rw [star_ne h.1]
    show (false || (backTo pos (starEach r env)).any (·.1)) = false
    rw [stars_any h.2]; rfl
section
variable {X : Cx} {e : Expr} {es : List Expr} {te : TE} {t : TA} {pos p : Pos} {CX : CXT} {k : Nat} {f : Addr} {fd : FuncData} {ps : List Str} {sp : Sp} {dvs : List V} {ds : List Value} {E : XK} {x : Str} {id Ty : String} {r : List V → Hp → VK → Prop}
theorem paN (ha : PE X e te) (hr : PA X es t) (h : notStar e = true := by rfl) : PA X (e :: es) (tCons te t) := pa_cons ha hr (star_ne h)
theorem peN_call (F : FnOk X.prog X.w X.K X.mg X.base CX k f fd ps sp) (hr : Room k X.A) (hg : Gl X x) (hm : X.mg x = some (.ref f)) (hk : PySem.W.keepIn X.K (.ref f) = true) (hb : Binds X.K fd ps ds) (hd : Vals dvs ds) (hx : Passes CX X E)
    (ha : PA X (e :: es) t) (hdb : (x == ("__debug__" : Str)) = false := by decide) (h1 : notStar e = true := by rfl) (h2 : noStars es = true := by rfl) : PE X (.Call (.Name x p) (e :: es) [] pos) (tCall sp dvs E t) :=
  pe_call F hr hg hm hk hb hd hx ha hdb (star_ne h1) (stars_any h2)
theorem peN_callB (hc : CallR X (.builtin id) r) (hg : Gl X x) (hm : X.mg x = none) (hv : bootBuiltins x = some (.builtin id)) (ha : PA X (e :: es) t) (hn : x ≠ "__name__" := by decide) (hdb : (x == ("__debug__" : Str)) = false := by decide)
    (h1 : notStar e = true := by rfl) (h2 : noStars es = true := by rfl) : PE X (.Call (.Name x p) (e :: es) [] pos) (tCB r t) := pe_callB hc hg hm hv ha hn hdb (star_ne h1) (stars_any h2)
theorem peN_callTy (hc : CallR X (.type Ty) r) (hg : Gl X x) (hm : X.mg x = none) (hv : bootBuiltins x = some (.type Ty)) (ha : PA X (e :: es) t) (hn : x ≠ "__name__" := by decide) (hdb : (x == ("__debug__" : Str)) = false := by decide)
    (h1 : notStar e = true := by rfl) (h2 : noStars es = true := by rfl) : PE X (.Call (.Name x p) (e :: es) [] pos) (tCB r t) := pe_callTy hc hg hm hv ha hn hdb (star_ne h1) (stars_any h2)
end
end L2
namespace L2
open PySem PySem.Spec PyProof.Rows
/-- an argument list, behind a wall: the elaborator does not look through it -/
structure PAs (X : Cx) (es : List Expr) (t : TA) : Prop where
  run : PA X es t
section
variable {X : Cx} {e o : Expr} {es : List Expr} {te to : TE} {t : TA} {pos p apos cpos : Pos} {CX : CXT} {k : Nat} {f : Addr} {fd : FuncData} {ps : List Str} {sp : Sp} {dvs : List V} {ds : List Value} {E : XK} {x name : Str} {id Ty T : String} {r : List V → Hp → VK → Prop} {rm : V → List V → Hp → VK → Prop}
theorem qa_nil : PAs X [] tNil := ⟨pa_nil⟩
theorem qa (ha : PE X e te) (hr : PAs X es t) (h : notStar e = true) : PAs X (e :: es) (tCons te t) := ⟨paN ha hr.run h⟩
theorem qe_tup {x1} (h : PAs X es t) : PE X (.Tuple es x1 pos) (tTup t) := pe_tup h.run
theorem qe_lst (h : PAs X es t) : PE X (.List es pos) (tLst t) := pe_lst h.run
theorem qe_tupA {x1} (h : PAs X es t) : PE X (.Tuple es x1 pos) (tTupA t) := pe_tupA h.run
theorem qe_lstA (h : PAs X es t) : PE X (.List es pos) (tLstA t) := pe_lstA h.run
theorem qe_call (F : FnOk X.prog X.w X.K X.mg X.base CX k f fd ps sp) (hr : Room k X.A) (hg : Gl X x) (hm : X.mg x = some (.ref f)) (hk : PySem.W.keepIn X.K (.ref f) = true) (hb : Binds X.K fd ps ds) (hd : Vals dvs ds) (hx : Passes CX X E)
    (ha : PAs X (e :: es) t) (hdb : (x == ("__debug__" : Str)) = false) (h1 : notStar e = true) (h2 : noStars es = true) : PE X (.Call (.Name x p) (e :: es) [] pos) (tCall sp dvs E t) := peN_call F hr hg hm hk hb hd hx ha.run hdb h1 h2
theorem qe_callB (hc : CallR X (.builtin id) r) (hg : Gl X x) (hm : X.mg x = none) (hv : bootBuiltins x = some (.builtin id)) (ha : PAs X (e :: es) t) (hn : x ≠ "__name__") (hdb : (x == ("__debug__" : Str)) = false)
    (h1 : notStar e = true) (h2 : noStars es = true) : PE X (.Call (.Name x p) (e :: es) [] pos) (tCB r t) := peN_callB hc hg hm hv ha.run hn hdb h1 h2
theorem qe_callTy (hc : CallR X (.type Ty) r) (hg : Gl X x) (hm : X.mg x = none) (hv : bootBuiltins x = some (.type Ty)) (ha : PAs X (e :: es) t) (hn : x ≠ "__name__") (hdb : (x == ("__debug__" : Str)) = false)
    (h1 : notStar e = true) (h2 : noStars es = true) : PE X (.Call (.Name x p) (e :: es) [] pos) (tCB r t) := peN_callTy hc hg hm hv ha.run hn hdb h1 h2
theorem qe_append (ho : PE X o to) (ha : PAs X (e :: es) t) (hbase : attributeBase o "append" X.env (eval o X.env) = eval o X.env) (h1 : notStar e = true) (h2 : noStars es = true)
    (hfew : ((backTo cpos (starEach (e :: es) X.env)).all (fun x => !x.1) && (backToKw cpos (keywordEach [] X.env)).all (fun x => x.1.isSome) && decide ((e :: es).length + ([] : List Keyword).length + (if ([] : List Keyword).isEmpty then 0 else 1) < 30)) = true)
    (hline : (apos.endLine == cpos.line) = true) : PE X (.Call (.Attribute o "append" apos) (e :: es) [] cpos) (tBM X.K "list" rAppend to t) :=
  pe_bm PySem.F.plainAttrs_list PySem.F.slot_list_append PySem.F.type_list_append mt_append ho ha.run hbase hfew hline (star_ne h1) (stars_any h2)
variable {tg a b : Expr} {ta : TA}
theorem qi_range1 (hg : Gl X "range") (hm : X.mg "range" = none) (ha : PAs X [a] ta) (h1 : notStar a = true) : PI X tg (.Call (.Name "range" p) [a] [] pos) (iRng1 ta) := pi_range1 hg hm ha.run (star_ne h1)
theorem qi_zip {es : List Expr} {k : Nat} {ps : Pos} (hg : Gl X "zip") (hm : X.mg "zip" = none) (ha : PAs X [a, b] ta) (h1 : notStar a = true) (h2 : notStar b = true) : PI X (.Tuple es k ps) (.Call (.Name "zip" p) [a, b] [] pos) (iZip X.K ta) :=
  pi_zip hg hm ha.run (by rw [star_ne h1, star_ne h2]; rfl) (by rw [star_ne h2]; rfl) (by decide +kernel)
end
end L2
namespace L2
open PySem PySem.Spec PyProof.Rows
structure PSw (X : Cx) (st : Stmt) (t : TS) : Prop where
  run : PS X st t
structure PSsw (X : Cx) (sts : List Stmt) (t : TS) : Prop where
  run : PSs X sts t
section
variable {X : Cx} {st : Stmt} {rest body a b : List Stmt} {t u tb : TS} {e tg c iter elt target : Expr} {es ifs : List Expr} {te : TE} {tc tt : TT} {g : TG} {ta : TA} {wi : TI} {pos pos' spos : Pos} {i : Nat} {x : Str}
theorem qss_nil : PSsw X [] tNext := ⟨pss_nil⟩
theorem qss_one (h : PSw X st t) : PSsw X [st] t := ⟨pss_one h.run⟩
theorem qss_cons (h1 : PSw X st t) (h2 : PSsw X rest u) : PSsw X (st :: rest) (tSeq t u) := ⟨pss_cons h1.run h2.run⟩
theorem qs_ret (he : PE X e te) : PSw X (.Return (some e) pos) (tRet te) := ⟨ps_ret he⟩
theorem qs_if (hc : PT X c tc) (ha : PSsw X a t) (hb : PSsw X b u) : PSw X (.If c a b pos) (tIfS tc t u) := ⟨ps_if hc ha.run hb.run⟩
theorem qs_expr (he : PE X e te) (hs : swapsWith e none pos.line X.env = pure false) : PSw X (.Expr e pos) (tDrop te) := ⟨ps_expr he hs⟩
theorem qs_set (hN : X.N.Nodup) (hi : X.N[i]? = some x) (hx : Loc X.env.scope x) (he : PE X e te) (hs : swapsWith e (some (.Name x pos')) pos.line X.env = pure false) (hf : X.fn x = true ∨ X.env.scope.names.lookup x = some .local) :
    PSw X (.Assign [.Name x pos'] e pos) (tAsg te (gName i)) := ⟨ps_set hN hi hx he hs hf⟩
/-- name = [..] of many items -/
theorem qs_setLA (hN : X.N.Nodup) (hi : X.N[i]? = some x) (hx : Loc X.env.scope x) (h : PAs X es ta) (hf : X.fn x = true ∨ X.env.scope.names.lookup x = some .local) :
    PSw X (.Assign [.Name x pos'] (.List es spos) pos) (tAsg (tLstA ta) (gName i)) := ⟨ps_set hN hi hx (pe_lstA h.run) rfl hf⟩
theorem qs_asg (he : PE X e te) (hg : PG X tg g) (hs : swapsWithSole [tg] e pos.line X.env = pure false) (hw : swappedStores [tg] e X.env = pure none) (h1 : (assignEach [tg] X.env).map (·.2) = [assign tg X.env]) : PSw X (.Assign [tg] e pos) (tAsg te g) := ⟨ps_asg he hg hs hw h1⟩
theorem qs_for (hp : PassesOwn (model X.prog X.w) X.A X.env X.xe) (hc : X.calm = true) (hi : PI X tg iter wi) (hg : PG X tg g) (hb : PSsw X body tb) (hs : ∀ x, foldedSetIterable iter X.env x = pure x) : PSw X (.For tg iter body [] pos) (tFor wi g tb) := ⟨ps_for hp hc hi hg hb.run hs⟩
end
end L2
namespace L2
open PySem
theorem exW {X : Cx} {sts : List Stmt} {P : TS → Prop} (h : ∃ t, PSsw X sts t ∧ P t) : ∃ t, PSs X sts t ∧ P t := let ⟨t, h1, h2⟩ := h; ⟨t, h1.run, h2⟩
end L2

set_option maxRecDepth 100000
namespace HT
open PySem PyProof.Rows
section
open PySem.SeqAt
open PySem.AutoSeq1 (wpAny_loadPart')
open PySem.MeetsSeq PySem.MeetsSeq2 PySem.MeetsSeq3
end
section
variable {prog : Program} {w : World} {A : Around} {E : Value → Shared → Prop} {s : Shared}
end
end HT
namespace L2
open PySem PySem.Spec PyProof.Rows
def rGtT (K : PySem.W.Frag) : R2 := fun x y H Q => ∃ a b ns ms, x = .ref a ∧ y = .ref b ∧ SqT K H a (ns.map V.int) ∧ SqT K H b (ms.map V.int) ∧ Q (.bl (HT.lexLt ms ns)) H
def rIsnB : R2 := fun x y H Q => ∃ a b, x = .bl a ∧ y = .bl b ∧ Q (.bl (a != b)) H
def rIsB : R2 := fun x y H Q => ∃ a b, x = .bl a ∧ y = .bl b ∧ Q (.bl (a == b)) H
section
variable {X : Cx}
end
section
variable {H : Hp} {Q : VK} {K : PySem.W.Frag} {p q : Addr} {ns ms : List Int}
end
def rListF (K : PySem.W.Frag) : TR := fun xs H Q => ∃ p ys, xs = [.ref p] ∧ (SqL K H p ys ∨ SqT K H p ys) ∧ ∀ l, H l = none → K.lookup l = none → Q (.ref l) (upd H l (.lst ys))
end L2
namespace L2
theorem rd_iteG {c A B : Prop} {i : Decidable c} (h : @ite Prop c i A B) : @ite Prop c i A B := h
end L2

set_option maxRecDepth 100000
namespace Mt
open PySem L2
/-! lines of places, standings -/
def stepL (pl : Int) (a : Int) (p : Int × Int) : Int := if p.2 < pl then p.1 else a
def line0 (hs : List (Int × Int)) : Int := match hs with | [] => 0 | p :: _ => p.1
def lineOf (hs : List (Int × Int)) (pl : Int) : Int := hs.foldl (stepL pl) (line0 hs)
theorem lineOf_take {hs : List (Int × Int)} {pl c : Int} {i : Nat} {p : Int × Int} (h : hs[i]? = some p) : (hs.take (i + 1)).foldl (stepL pl) c = stepL pl ((hs.take i).foldl (stepL pl) c) p := by
  rw [List.take_add_one, h, List.foldl_append]; rfl
def stand (hs : List (Int × Int)) (e : Int) : Int × Int := if 0 < e then (lineOf hs e, e) else (-1, 0)
/-! alike: the law's own comparison -/
mutual
def tupOnly : PyData → Bool
  | .none => true
  | .int _ => true
  | .str _ => true
  | .tuple es => tupOnlyAll es
  | _ => false
def tupOnlyAll : List PyData → Bool
  | [] => true
  | e :: es => tupOnly e && tupOnlyAll es
end
def isNoneD : PyData → Bool
  | .none => true
  | _ => false
def intEq (j : Int) : PyData → Bool
  | .int i => decide (i = j)
  | _ => false
def strEq (t : Str) : PyData → Bool
  | .str u => decide (u = t)
  | _ => false
def subs : PyData → Option (List PyData)
  | .tuple ds => some ds
  | _ => none
mutual
def alikeD : PyData → PyData → Bool
  | .none, d => isNoneD d
  | .int j, d => intEq j d
  | .str t, d => strEq t d
  | .tuple es, d => match subs d with
    | some ds => alikeAll es ds
    | none => false
  | _, _ => false
def alikeAll : List PyData → List PyData → Bool
  | [], ds => ds.isEmpty
  | e :: es, ds => match ds with
    | [] => false
    | d :: ds => alikeD e d && alikeAll es ds
end
theorem okP_last : ∀ {l f : Int} {ini : List (Int × Int)} {a b : Int}, okP l f (ini ++ [(a, b)]) → ∀ p ∈ ini ++ [(a, b)], p.1 ≤ a
  | l, f, [], a, b, h, p, hp => by
    have : p = (a, b) := by simpa using hp
    rw [this]; exact Int.le_refl _
  | l, f, (x, y) :: r, a, b, h, p, hp => by
    have h5 : okP x y (r ++ [(a, b)]) := h.2.2.2.2
    have hlt : ∀ {l f : Int} {r : List (Int × Int)}, okP l f (r ++ [(a, b)]) → l < a := fun {l f r} => by
      intro q
      induction r generalizing l f with
      | nil => exact q.1
      | cons z r ih => exact Int.lt_trans q.1 (ih q.2.2.2.2)
    rcases List.mem_cons.mp hp with rfl | hp
    · exact Int.le_of_lt (hlt h5)
    · exact okP_last h5 p hp
end Mt

set_option maxRecDepth 100000
/-! exceptions: what flies, and how it passes a frame -/
namespace L2
open PySem PySem.Spec PyProof.Rows

/-- the object of an exception: its class, its dict; its record of stations is empty, or a record that is free of flight -/
def Aloft (N : Addr → Prop) (h : Heap) (e : Addr) (C : Value) (dx : Option Addr) (fl : Value) : Prop :=
  ∃ oe vs, h.get? e = some oe ∧ oe.cls = C ∧ oe.dict = dx ∧ oe.data = .fields vs ∧ 1 < vs.size ∧
    (vs[1]? = some .none ∧ fl = .none ∨ ∃ T oT ts, vs[1]? = some (.ref T) ∧ N T ∧ T ≠ e ∧ h.get? T = some oT ∧ oT.data = .fields ts ∧ ts[3]? = some fl)
theorem dict_mapF (o : Obj) (f : Array Value → Array Value) : (o.mapFields f).dict = o.dict := by
  obtain ⟨c, d, dt, sl⟩ := o
  cases dt <;> rfl
/-- what is kept where a station is noted: all but e and records that N names; the frames up to their slots -/
def Stn (N : Addr → Prop) (fs : List Addr) (e : Addr) (h h' : Heap) : Prop :=
  ∀ b o, b ≠ e → ¬ N b → h.get? b = some o → (∃ sl, h'.get? b = some { o with slots := sl }) ∧ (b ∉ fs → h'.get? b = some o)
theorem Stn.refl {N : Addr → Prop} {fs : List Addr} {e : Addr} {h : Heap} : Stn N fs e h h := fun b o _ _ q => ⟨⟨o.slots, q⟩, fun _ => q⟩
theorem Stn.trans {N : Addr → Prop} {fs : List Addr} {e : Addr} {h h1 h2 : Heap} (a : Stn N fs e h h1) (b : Stn N fs e h1 h2) : Stn N fs e h h2 := fun c o n1 n2 q => by
  obtain ⟨⟨sl, q1⟩, k1⟩ := a c o n1 n2 q
  obtain ⟨⟨sl2, q2⟩, _⟩ := b c _ n1 n2 q1
  exact ⟨⟨sl2, q2⟩, fun hc => (b c o n1 n2 (k1 hc)).2 hc⟩

section
variable {M : Model} {A : Around} {E : Value → Shared → Prop} {s : Shared} {N : Addr → Prop} {base : Heap} {env : Env} {outer : List Env} {L e : Addr} {C : Value} {dx : Option Addr}

theorem stn_turn {T : Addr} {f : Obj → Obj} {h : Heap} (hN : N T) : Stn N fs e h (h.update T f) := fun b o n1 n2 q => by
  have : T ≠ b := fun z => n2 (z ▸ hN)
  exact ⟨⟨o.slots, (Heap.get?_update_other _ _ this).trans q⟩, fun _ => (Heap.get?_update_other _ _ this).trans q⟩

/-- one more station -/
theorem mark_on {head : Value} {hadNext : Bool} {oe : Obj} {vs : Array Value} {Q : Unit → Shared → Prop} (hA : A.frames = some (env :: outer)) (hF : s.heap.FunFrames base (env :: outer)) (hL : env.frame = some L)
    (new : ∀ b, s.heap.objs.size ≤ b → N b) (nf : ∀ b ∈ frs (env :: outer), b ≠ e ∧ ¬ N b) (q0 : s.heap.get? e = some oe) (q1 : oe.cls = C) (q2 : oe.dict = dx) (q3 : oe.data = .fields vs) (q4 : 1 < vs.size)
    (k : ∀ h', Aloft N h' e C dx (rawInt L) → Stn N (frs (env :: outer)) e s.heap h' → h'.FunFrames base (env :: outer) → Q () { s with heap := h' }) :
    wpAny M A (do setField (.ref e) 1 (← EntryCells.newEntry head (← frameOf env) .none (rawInt L) .none (← entryPlaceOf L hadNext))) Q E s := by
  refine wpAny_bind (wpAny_frameOf_fun hA hF hL fun g x => ?_)
  refine wpAny_bind (wpAny_entryPlaceOf fun pl p => ?_)
  have k1 : g.get? e = some oe := (x.2.1 e fun z => (nf e z).1 rfl).trans q0
  have z1 : g.objs.size = s.heap.objs.size := x.1
  unfold EntryCells.newEntry newFields
  refine wpAny_bind (wpAny_newObj_type ?_ (p.sizeOk5 _ _ _ _ _))
  generalize hob : ({ cls := .type "traceback", dict := none, data := .fields ([head, .ref L, .none, rawInt L, .none] ++ (if pl.isEmpty then List.replicate 6 Value.none else pl)).toArray } : Obj) = ob
  have k2 := Heap.get?_push_of_some (h := g) ob k1
  have eT : g.objs.size ≠ e := Nat.ne_of_gt (Heap.lt_size k1)
  have obf : ob.isFreed = false := by rw [← hob]; rfl
  have t2 : (g.push ob).get? g.objs.size = some ob := Heap.get?_push_size g obf
  refine wpAny_setField k2 q3 q4 (k _ ?_ ?_ ?_)
  · have d3 := Obj.data_mapFields q3 (·.setIfInBounds 1 (Value.ref g.objs.size))
    refine ⟨_, _, Heap.get?_update_self _ k2 (Obj.isFreed_of_fields d3), (Obj.cls_mapFields _ _).trans q1, (dict_mapF _ _).trans q2, d3, by simpa using q4, .inr ⟨g.objs.size, ob, _, by simp [q4], new _ (by omega), eT, (Heap.get?_update_other _ _ (Ne.symm eT)).trans t2, by rw [← hob], ?_⟩⟩
    first | (simp; done) | (rcases p with rfl | ⟨_, _, _, _, _, _, _, rfl⟩ <;> simp)
  · intro b o n1 n2 q
    have nT : g.objs.size ≠ b := by rw [z1]; exact Nat.ne_of_gt (Heap.lt_size q)
    obtain ⟨sl, r⟩ := x.2.2 b o q
    exact ⟨⟨sl, (Heap.get?_update_other _ _ (Ne.symm n1)).trans (Heap.get?_push_of_some _ r)⟩, fun nb => (Heap.get?_update_other _ _ (Ne.symm n1)).trans (Heap.get?_push_of_some _ ((x.2.1 b nb).trans q))⟩
  · have hg := hF.of_slotsOnly x
    refine hg.of_keeps fun b o q nd => ?_
    by_cases hb : b = e
    · subst hb
      rw [k1] at q; cases q
      exact absurd q3 (nd vs)
    · exact ⟨o, (Heap.get?_update_other _ _ (Ne.symm hb)).trans (Heap.get?_push_of_some _ q), rfl⟩
theorem frames_turn {T : Addr} {oT : Obj} {ts : Array Value} {f : Obj → Obj} {h : Heap} (q : h.get? T = some oT) (hd : oT.data = .fields ts) (hF : h.FunFrames base l) : (h.update T f).FunFrames base l :=
  hF.of_keeps fun b o r nd => by
    have : T ≠ b := fun z => by subst z; rw [q] at r; cases r; exact nd ts hd
    exact ⟨o, (Heap.get?_update_other _ _ this).trans r, rfl⟩

theorem land {l : List Env} {fl : Value} {Q : Unit → Shared → Prop} (hF : s.heap.FunFrames base l) (a : Aloft N s.heap e C dx fl)
    (k : ∀ h', Aloft N h' e C dx .none → Stn N fs e s.heap h' → h'.FunFrames base l → Q () { s with heap := h' }) : wpAny M A (setFlight (.ref e) none) Q E s := by
  obtain ⟨oe, vs, q0, q1, q2, q3, q4, r⟩ := a
  unfold setFlight
  rcases r with ⟨r, _⟩ | ⟨T, oT, ts, r1, r2, r3, r4, r5, r6⟩
  · refine wpAny_bind (wpAny_field q0 q3 r ?_)
    rw [if_neg (by decide)]
    exact wpAny_pure (k s.heap ⟨oe, vs, q0, q1, q2, q3, q4, .inl ⟨r, rfl⟩⟩ Stn.refl hF)
  · refine wpAny_bind (wpAny_field q0 q3 r1 ?_)
    rw [if_pos (by simp)]
    have h3 : 3 < ts.size := (Array.getElem?_eq_some_iff.mp r6).1
    refine wpAny_setField r4 r5 h3 (k _ ⟨oe, vs, (Heap.get?_update_other _ _ r3).trans q0, q1, q2, q3, q4, .inr ⟨T, _, _, r1, r2, r3, Heap.get?_update_self _ r4 (Obj.isFreed_of_fields (Obj.data_mapFields r5 _)), Obj.data_mapFields r5 _, by simp [h3]⟩⟩ (stn_turn r2) (frames_turn r4 r5 hF))

theorem note_on {Q : Unit → Shared → Prop} (hA : A.frames = some (env :: outer)) (hF : s.heap.FunFrames base (env :: outer)) (hL : env.frame = some L)
    (new : ∀ b, s.heap.objs.size ≤ b → N b) (nf : ∀ b ∈ frs (env :: outer), b ≠ e ∧ ¬ N b) (a : Aloft N s.heap e C dx .none)
    (k : ∀ h', Aloft N h' e C dx (rawInt L) → Stn N (frs (env :: outer)) e s.heap h' → h'.FunFrames base (env :: outer) → Q () { s with heap := h' }) : wpAny M A (noteFrame (.ref e) env) Q E s := by
  obtain ⟨oe, vs, q0, q1, q2, q3, q4, r⟩ := a
  unfold noteFrame
  simp only [hL]
  rcases r with ⟨r, _⟩ | ⟨T, oT, ts, r1, r2, r3, r4, r5, r6⟩
  · refine wpAny_bind (wpAny_field q0 q3 r ?_)
    rw [if_neg (by decide)]
    exact mark_on hA hF hL new nf q0 q1 q2 q3 q4 k
  · refine wpAny_bind (wpAny_field q0 q3 r1 ?_)
    rw [if_pos (by simp)]
    refine wpAny_bind (wpAny_field r4 r5 r6 ?_)
    rw [if_neg (by simp [rawInt])]
    have h3 : 3 < ts.size := (Array.getElem?_eq_some_iff.mp r6).1
    refine wpAny_bind (wpAny_setField r4 r5 h3 ?_)
    refine mark_on (s := { s with heap := s.heap.update T (Obj.mapFields (·.setIfInBounds 3 Value.none)) }) hA (frames_turn r4 r5 hF) hL (fun b z => new b ?_) nf ((Heap.get?_update_other _ _ r3).trans q0) q1 q2 q3 q4 fun h' a1 a2 a3 => k h' a1 ((stn_turn r2).trans a2) a3
    simpa using z

theorem leave_on {Q : Unit → Shared → Prop} (hA : A.frames = some (env :: outer)) (hF : s.heap.FunFrames base (env :: outer)) (hL : env.frame = some L)
    (new : ∀ b, s.heap.objs.size ≤ b → N b) (nf : ∀ b ∈ frs (env :: outer), b ≠ e ∧ ¬ N b) (a : Aloft N s.heap e C dx .none)
    (k : ∀ h', Aloft N h' e C dx .none → Stn N (frs (env :: outer)) e s.heap h' → Q () { s with heap := h' }) : wpAny M A (leaving env (.ref e)) Q E s := by
  unfold leaving
  refine wpAny_bind (note_on hA hF hL new nf a fun h1 a1 a2 a3 => ?_)
  exact land (s := { s with heap := h1 }) a3 a1 fun h2 b1 b2 _ => k h2 b1 (a2.trans b2)
end
end L2

set_option maxRecDepth 100000
namespace L2
open PySem PySem.Spec PyProof.Rows

/-- made since h₀ and not tracked -/
def Since (h₀ : Heap) (H : Hp) (b : Addr) : Prop := h₀.get? b = none ∧ H b = none
/-- how an exception lies behind a call -/
def CX1 (P : Program) (w : World) : CXT := fun outer H s E e s' =>
  ∃ (a : Addr) (C : Value) (dx : Option Addr) (H' : Hp), e = .ref a ∧ s'.os = s.os ∧ AllBare s'.gens ∧ Un (frs outer) [] H H' s.heap s'.heap ∧ HOk P w H' s'.heap ∧ Since s.heap H' a ∧ Aloft (Since s.heap H') s'.heap a C dx .none ∧ E C dx H'
theorem Aloft.mono {N N' : Addr → Prop} {h : Heap} {e : Addr} {C : Value} {dx : Option Addr} {fl : Value} (a : Aloft N h e C dx fl) (k : ∀ b, N b → N' b) : Aloft N' h e C dx fl := by
  obtain ⟨oe, vs, q0, q1, q2, q3, q4, r⟩ := a
  refine ⟨oe, vs, q0, q1, q2, q3, q4, ?_⟩
  rcases r with r | ⟨T, oT, ts, r1, r2, r⟩
  · exact .inl r
  · exact .inr ⟨T, oT, ts, r1, k _ r2, r⟩
theorem since_of {P : Program} {w : World} {H H' : Hp} {h h' : Heap} {fs : List Addr} (u : Un fs [] H H' h h') (hok : HOk P w H' h') : ∀ b, h'.objs.size ≤ b → Since h H' b := fun b z => by
  refine ⟨?_, hok.fresh z⟩
  cases q : h.get? b with
  | none => rfl
  | some o =>
    obtain ⟨o', q'⟩ := u.there b o q (by simp)
    exact absurd (Nat.lt_of_lt_of_le (Heap.lt_size q') z) (Nat.lt_irrefl _)
theorem hok_stn {P : Program} {w : World} {H : Hp} {h h' : Heap} {N : Addr → Prop} {fs : List Addr} {e : Addr} (hok : HOk P w H h) (st : Stn N fs e h h') (hN : ∀ b, N b → H b = none) (he : H e = none) (hf : ∀ b ∈ fs, H b = none) : HOk P w H h' := fun a o q =>
  (hok a o q).stay (fun b u hb r => by
    have nb : H b ≠ none := by
      rcases hb with rfl | hb
      · rw [q]; simp
      · rw [hb]; simp
    exact (st b u (fun z => nb (z ▸ he)) (fun z => nb (hN b z)) r).2 fun z => nb (hf b z)) (fun _ q => q) fun _ _ q => q

section
variable {P : Program} {w : World} {X : Cx} {pins : List (Addr × Obj)} {σ : St} {H H' : Hp} {s s' : Shared} {e : Addr} {C : Value} {dx : Option Addr}
/-- what of this frame is kept where a station is noted -/
theorem Inv.stn {h' : Heap} (I : Inv X pins σ H s) (st : Stn N (frs X.stack) e s.heap h') (hN : ∀ b, N b → H b = none ∧ s₁.heap.get? b = none) (he : H e = none ∧ s₁.heap.get? e = none)
    (I₁ : Inv X pins σ H₁ s₁) (un : Un (frs X.stack) [] H₁ H s₁.heap s.heap) : Inv X pins σ H { s with heap := h' } := by
  have k : ∀ b o, s₁.heap.get? b = some o → ∀ o', s.heap.get? b = some o' → (∃ sl, h'.get? b = some { o' with slots := sl }) ∧ (b ∉ frs X.stack → h'.get? b = some o') := fun b o q o' q' =>
    st b o' (fun z => by rw [z, he.2] at q; cases q) (fun z => by rw [(hN b z).2] at q; cases q) q'
  have hu : Un (frs X.stack) [] H₁ H s₁.heap h' := by
    refine ⟨fun b o q n hb hx => ?_, fun b o q n hb hx => ?_, un.free, fun b o q hx => ?_, un.tups, un.frzs, un.tbls⟩
    · exact (k b o q o (un.keep b o q n hb hx)).2 hb
    · obtain ⟨sl, r⟩ := un.slot b o q n hb hx
      exact (k b o q _ r).1
    · obtain ⟨o', r⟩ := un.there b o q hx
      obtain ⟨sl, r2⟩ := (k b o q o' r).1
      exact ⟨_, r2⟩
  have ok : HOk X.prog X.w H h' := hok_stn I.hok st (fun b z => (hN b z).1) he.1 I.stkFree
  obtain ⟨hh, g, d, t, os⟩ := s
  have e1 : os = s₁.os := I.os.trans I₁.os.symm
  subst e1
  have fin := Inv.call (s := s₁) (h' := h') (g' := g) (t' := t) (d' := d) (ch := []) I₁ hu ok I.bare (fun b z => absurd z (by simp))
  exact fin

theorem Inv.cx1 (I : Inv X pins σ H s) (h : Un (frs X.stack) [] H H' s.heap s'.heap) (ho : s'.os = s.os) (hb : AllBare s'.gens) (hk : HOk X.prog X.w H' s'.heap) : Inv X pins σ H' s' := by
  obtain ⟨hh, g, d, t, os'⟩ := s'
  obtain rfl : os' = s.os := ho
  exact I.call (h' := hh) (g' := g) (d' := d) (t' := t) (ch := []) h hk hb (fun b z => absurd z (by simp))
/-- the frames are none of the new things -/
theorem Inv.nfr (I : Inv X pins σ H s) (he : s.heap.get? e = none) : ∀ b ∈ frs X.stack, b ≠ e ∧ ¬ Since s.heap H' b := fun b hb => by
  obtain ⟨_, o, q, _⟩ := I.stack.mem hb
  exact ⟨fun z => (by rw [z, he] at q; cases q), fun z => (by rw [z.1] at q; cases q)⟩
end

/-- an exception that leaves a def's body -/
theorem pass1 {P : Program} {w : World} {K : PySem.W.Frag} {mg : Str → Option Value} {base : Heap} {N : List Str} {qual : Str} {scope : Scope} {f : Addr} {cd : Value} {A : Around} {outer : List Env} {s₀ : Shared} {H₀ : Hp} {E : XK} :
    Passes (CX1 P w) (cxOf (CX1 P w) P w K mg base N qual scope f cd A outer s₀ H₀ E) E := by
  intro pins σ H s e s' I h
  obtain ⟨a, C, dx, H', rfl, o1, b1, un, hok, na, al, q⟩ := h
  have J := I.cx1 un o1 b1 hok
  refine leave_on (N := Since s.heap H') (base := base) (outer := outer) (L := s₀.heap.objs.size) I.ok.frames J.stack rfl (since_of un hok) (I.nfr na.1) al fun h' al' st => ?_
  have J2 : Inv (cxOf (CX1 P w) P w K mg base N qual scope f cd A outer s₀ H₀ E) pins σ H' { s' with heap := h' } := J.stn (s₁ := s) (H₁ := H) st (fun b z => ⟨z.2, z.1⟩) ⟨na.2, na.1⟩ I un
  have old : ∀ b, s.heap.get? b = none → s₀.heap.get? b = none := fun b z => by
    cases r : s₀.heap.get? b with
    | none => rfl
    | some o =>
      obtain ⟨o', r'⟩ := I.base.there b o r (by show b ∉ ([] : List Addr); simp)
      rw [z] at r'; cases r'
  exact ⟨a, C, dx, H', rfl, J2.os, J2.bare, J2.base, J2.hok, ⟨old a na.1, na.2⟩, al'.mono fun b z => ⟨old b z.1, z.2⟩, q⟩
end L2

set_option maxRecDepth 100000
namespace L2
open PySem PySem.Spec PyProof.Rows

/-- what an exception is wanted to be, by the locals where it comes up -/
def Px (X : Cx) (XR : St → XK) : Prop := ∀ (pins : List (Addr × Obj)) (σ : St) (H : Hp) (s : Shared) (e : Value) (s' : Shared), Inv X pins σ H s → CX1 X.prog X.w X.stack H s (XR σ) e s' → X.xe e s'
theorem px1 {P : Program} {w : World} {K : PySem.W.Frag} {mg : Str → Option Value} {base : Heap} {N : List Str} {qual : Str} {scope : Scope} {f : Addr} {cd : Value} {A : Around} {outer : List Env} {s₀ : Shared} {H₀ : Hp} {E : XK} :
    Px (cxOf (CX1 P w) P w K mg base N qual scope f cd A outer s₀ H₀ E) (fun _ => E) := fun pins σ H s e s' I h => pass1 pins σ H s e s' I h

def tCallX (sp : Sp) (dvs : List V) (XR : St → XK) (t : TA) : TE := fun σ H Q => t σ H fun vs H1 => sp (vs ++ dvs) H1 Q (XR σ)
section
variable {X : Cx} {e : Expr} {es : List Expr} {t : TA} {pos p : Pos} {k : Nat} {f : Addr} {fd : FuncData} {ps : List Str} {sp : Sp} {dvs : List V} {ds : List Value} {XR : St → XK} {x : Str}
theorem run_fnX {pins : List (Addr × Obj)} {σ : St} {H : Hp} {s : Shared} {Q : VK} {us : List Value} {vs : List V} (F : FnOk X.prog X.w X.K X.mg X.base (CX1 X.prog X.w) k f fd ps sp) (hr : Room k X.A) (hb : Binds X.K fd ps ds) (hd : Vals dvs ds) (hx : Px X XR)
    (I : Inv X pins σ H s) (r : Vals vs us) (h : sp (vs ++ dvs) H Q (XR σ)) : wpAny (model X.prog X.w) X.A (call (.ref f) us) (EP X pins σ Q) X.xe s := by
  have r2 : Vals (vs ++ dvs) (us ++ ds) := r.append hd
  have hl : (us ++ ds).length = ps.length := by rw [← r2.length]; exact F.len _ _ _ _ h
  refine wpAny_call (codeAny_mono (F.run X.A X.stack s H ⟨us, []⟩ (us ++ ds) (vs ++ dvs) Q (XR σ) hr I.env0 (hb s us I.kIn hl) r2 h) fun r s' hq => ?_)
  cases r with
  | error e => exact hx pins σ H s e s' I hq
  | ok fl =>
    cases fl with
    | ret u => exact I.after hq
    | next => exact False.elim hq
    | brk => exact False.elim hq
    | cont => exact False.elim hq
theorem qe_callX (F : FnOk X.prog X.w X.K X.mg X.base (CX1 X.prog X.w) k f fd ps sp) (hr : Room k X.A) (hg : Gl X x) (hm : X.mg x = some (.ref f)) (hk : PySem.W.keepIn X.K (.ref f) = true) (hb : Binds X.K fd ps ds) (hd : Vals dvs ds) (hx : Px X XR)
    (ha : PAs X (e :: es) t) (hdb : (x == ("__debug__" : Str)) = false) (h1 : notStar e = true) (h2 : noStars es = true) : PE X (.Call (.Name x p) (e :: es) [] pos) (tCallX sp dvs XR t) := by
  intro pins s σ H Q I h
  refine wpAny_Call_Name_kw (ld_glob I hg hm ?_ hdb)
  refine PySem.W.callWith_K (h₀ := X.base) I.ok.mod.kin hk (thn (ha.run pos pins s σ H _ I h) fun us s1 ⟨vs, H1, I1, r, q⟩ => ⟨I1.kIn, ?_⟩) (star_ne h1) (stars_any h2)
  exact run_fnX F hr hb hd hx I1 r q
end

/-- a def whose exceptions are told -/
theorem Fun.okX {P : Program} {w : World} {K : PySem.W.Frag} {mg : Str → Option Value} {base : Heap} {x qual : Str} {st : Stmt} {f : Addr} {fd : FuncData} {N ps : List Str} {k : Nat} {sp : Sp} (F : Fun K x qual st f fd) (S : FnScope N ps (defScope st)) (len : ∀ vs H Q E, sp vs H Q E → vs.length = ps.length)
    (hbody : ∀ (cdv : Value) (A : Around) (outer : List Env) (s : Shared) (H : Hp) (vs : List V) (Q : VK) (E : XK), Room k (A.deeper (envOfC qual (defScope st) s.heap.objs.size f cdv)) → sp vs H Q E →
      ∃ t, PSs (cxOf (CX1 P w) P w K mg base N qual (defScope st) f cdv A outer s H E) (defBody st) t ∧ t { nx := fun _ H' => Q .non H', rt := Q } (start N vs) H) : FnOk P w K mg base (CX1 P w) (k + 1) f fd ps sp := by
  obtain ⟨oc, od, kV, doc, pm, an, cdv, ct, osl, rfl, lk, hcd⟩ := F.ex
  exact fn_of lk hcd S len fun A outer s H vs Q E hr hsp => hbody cdv A outer s H vs Q E hr hsp

/-! ### try -/
/-- within a try's body -/
def Cx.tr (X : Cx) (xe' : Value → Shared → Prop) (pn' : List (Addr × Obj)) : Cx := { X with xe := xe', pn := X.pn ++ pn' }
/-- within an except suite -/
def Cx.su (X : Cx) (e : Addr) : Cx := { X with A := X.A.mark (some (.ref e)), calm := false, xe := fun _ _ => False }
section
variable {X : Cx} {pins pins' pn' : List (Addr × Obj)} {σ : St} {H : Hp} {s : Shared} {xe' : Value → Shared → Prop} {e : Addr}
theorem Cx.Ok.tr (ok : X.Ok) : (X.tr xe' pn').Ok := ⟨ok.mod, ok.kind, ok.glob, ok.blt, ok.above, ok.inj, ok.has, ok.cab, ok.hd, ok.frames, ok.stk, ok.exf, ok.bs, ok.bsz, ok.noex, ok.exfs, ok.funs, ok.frf⟩
theorem Cx.Ok.su (ok : X.Ok) : (X.su e).Ok := ⟨ok.mod, ok.kind, ok.glob, ok.blt, ok.above, ok.inj, ok.has, ok.cab, fun z => (by cases z), ok.frames, ok.stk, ok.exf, ok.bs, ok.bsz, ok.noex, ok.exfs, ok.funs, ok.frf⟩
theorem Inv.tr (I : Inv X pins σ H s) : Inv (X.tr xe' pins) [] σ H s := ⟨I.ok.tr, I.os, I.bare, I.base, I.loc, I.cell, I.free, I.freeC, fun p hp => I.pin p (by simpa [Cx.tr] using hp), I.hok, I.len⟩
theorem Inv.untr (ok : X.Ok) (I : Inv (X.tr xe' pins) pins' σ H s) : Inv X pins σ H s := ⟨ok, I.os, I.bare, I.base, I.loc, I.cell, I.free, I.freeC, fun p hp => I.pin p (List.mem_append_left _ hp), I.hok, I.len⟩
theorem Inv.su (I : Inv X pins σ H s) : Inv (X.su e) pins σ H s := ⟨I.ok.su, I.os, I.bare, I.base, I.loc, I.cell, I.free, I.freeC, I.pin, I.hok, I.len⟩
theorem Inv.unsu (ok : X.Ok) (I : Inv (X.su e) pins σ H s) : Inv X pins σ H s := ⟨ok, I.os, I.bare, I.base, I.loc, I.cell, I.free, I.freeC, I.pin, I.hok, I.len⟩
/-- a name is gone -/
theorem Inv.gone {h' : Heap} {m : Str → Option Value} {v : Option Value} {i : Nat} {x : Str} {t' : Nat} (I : Inv X pins σ H s) (hN : X.N.Nodup) (hi : X.N[i]? = some x) (hn : s.heap.Ns X.env.locals m) (hm : ∀ (i : Nat) (y : Str) (v : V), X.N[i]? = some y → σ[i]? = some (some v) → Vis X.env.scope y → ∃ u, RelV v u ∧ Look X.env s.heap m y u)
    (hn' : h'.Ns X.env.locals (fun y => if y = x then v else m y)) (sb : Heap.SameBut X.env.locals s.heap h') : Inv X pins (σ.set i none) H { s with heap := h', toks := t' } := by
  have hL : ∃ o, s.heap.get? X.env.locals = some o ∧ H X.env.locals = none := by
    obtain ⟨o, _, _, ho, _⟩ := id hn
    exact ⟨o, ho, I.free⟩
  have old : ∀ b o, X.s₀.heap.get? b = some o → b ≠ X.env.locals := fun b o z => Nat.ne_of_lt (Nat.lt_of_lt_of_le (Heap.lt_size z) I.ok.above)
  refine ⟨I.ok, I.os, I.bare, ⟨fun b o z n hb hx => (sb.2 b (old b o z)).trans (I.base.keep b o z n hb hx), fun b o z n hb hx => ?_, I.base.free, fun b o z hx => ?_, I.base.tups, I.base.frzs, I.base.tbls⟩, ⟨_, hn', fun j y v' e1 e2 e3 => ?_⟩, fun y c z => ?_, I.free, I.freeC, fun p hp => ?_, fun b ob z => ?_, by simpa using I.len⟩
  · obtain ⟨sl, q⟩ := I.base.slot b o z n hb hx
    exact ⟨sl, (sb.2 b (old b o z)).trans q⟩
  · obtain ⟨o', q⟩ := I.base.there b o z hx
    exact ⟨o', (sb.2 b (old b o z)).trans q⟩
  · by_cases hj : j = i
    · subst hj
      have hlt : j < σ.length := by rw [I.len]; exact (List.getElem?_eq_some_iff.mp hi).1
      rw [List.getElem?_set_self hlt] at e2
      cases e2
    · rw [List.getElem?_set_ne (Ne.symm hj)] at e2
      obtain ⟨u, r, l⟩ := hm j y v' e1 e2 e3
      refine ⟨u, r, ?_⟩
      rcases l with ⟨k, q⟩ | ⟨k, c, q, z⟩
      · have : y ≠ x := fun z => hj (nodup_ix hN e1 (z ▸ hi))
        exact .inl ⟨k, by simp [this, q]⟩
      · exact .inr ⟨k, c, q, z.sameBut sb (I.cne y c q)⟩
  · obtain ⟨w', q⟩ := I.cell y c z
    exact ⟨w', q.sameBut sb (I.cne y c z)⟩
  · obtain ⟨q, n, ne, nf, d⟩ := I.pin p hp
    exact ⟨(sb.2 p.1 ne).trans q, n, ne, nf, d⟩
  · refine (I.hok b ob z).stay (fun c w' hc q => (sb.2 c ?_).trans q) (fun _ q => q) fun _ _ q => q
    rintro rfl
    rcases hc with rfl | hc
    · rw [I.free] at z; cases z
    · rw [I.free] at hc; cases hc
end
end L2

set_option maxRecDepth 100000
namespace L2
open PySem PySem.Spec PyProof.Rows
/-- an exception that was caught -/
def ExcIs (a : Addr) (C : Value) (dx : Option Addr) (h : Heap) : Prop := ∃ oe vs, h.get? a = some oe ∧ oe.cls = C ∧ oe.dict = dx ∧ oe.data = .fields vs
theorem ExcIs.ok {P : Program} {w : World} {H : Hp} {h : Heap} {a : Addr} {C : Value} {dx : Option Addr} (x : ExcIs a C dx h) : ObjOk P w H h a (.ext (ExcIs a C dx)) := by
  obtain ⟨oe, vs, q, r⟩ := id x
  refine ⟨x, ⟨oe, q⟩, fun h1 h2 ⟨oe', vs', q', r'⟩ k => ⟨oe', vs', k _ q', r'⟩⟩
/-- what is wanted behind the suite: the name is gone -/
def Ends.un (D : Ends) (i : Nat) : Ends := { nx := fun σ2 H2 => D.nx (σ2.set i none) H2, rt := D.rt, bk := fun σ2 H2 => D.bk (σ2.set i none) H2, ct := fun σ2 H2 => D.ct (σ2.set i none) H2 }
def tTry (K : PySem.W.Frag) (B : Addr) (i : Nat) (tb : (St → XK) → TS) (ts : TS) : TS := fun D σ H =>
  tb (fun σ' C dx H' => PySem.W.exmOne K C (.ref B) = some true ∧ ∀ a, H' a = none → ts (D.un i) (σ'.set i (some (.ref a))) (upd H' a (.ext (ExcIs a C dx)))) D σ H

theorem looks_cls {M : Model} {h : Heap} {e : Addr} {oe : Obj} (q : h.get? e = some oe) : PySem.W.Looks M h (typeOf (.ref e)) oe.cls := by
  intro A Q E s k z
  unfold typeOf
  exact wpAny_bind (wpAny_loadPart (k _ _ q) (wpAny_pure z))
theorem aloft_is {N : Addr → Prop} {h : Heap} {e : Addr} {C : Value} {dx : Option Addr} {fl : Value} (a : Aloft N h e C dx fl) : ExcIs e C dx h := by
  obtain ⟨oe, vs, q0, q1, q2, q3, _⟩ := a
  exact ⟨oe, vs, q0, q1, q2, q3⟩
/-- an object that nobody knew is tracked -/
theorem Inv.trackE {X : Cx} {pins : List (Addr × Obj)} {σ : St} {H : Hp} {s : Shared} {a : Addr} {o : HO} (I : Inv X pins σ H s) (hn : H a = none) (n0 : X.s₀.heap.get? a = none) (n1 : a ≠ X.env.locals) (n2 : ∀ x c, X.env.cells.lookup x = some c → c ≠ a) (n3 : ∀ p ∈ X.pn ++ pins, p.1 ≠ a)
    (new : ObjOk X.prog X.w (upd H a o) s.heap a o) : Inv X pins σ (upd H a o) s := by
  have ne : ∀ b u, H b = some u → b ≠ a := fun b u q z => by rw [z, hn] at q; cases q
  refine ⟨I.ok, I.os, I.bare, ⟨I.base.keep, I.base.slot, fun b u q n hx => ?_, I.base.there, fun b xs q => ?_, fun b u xs q => ?_, fun b ps q => ?_⟩, I.loc, I.cell, ?_, fun y c q => ?_, fun p hp => ?_, fun b u q => ?_, I.len⟩
  · rw [upd_ne (fun z => by rw [z, n0] at q; cases q)]; exact I.base.free b u q n hx
  · rw [upd_ne (ne _ _ (I.base.tups b xs q))]; exact I.base.tups b xs q
  · rw [upd_ne (ne _ _ (I.base.frzs b u xs q))]; exact I.base.frzs b u xs q
  · obtain ⟨m, r⟩ := I.base.tbls b ps q
    exact ⟨m, by rw [upd_ne (ne _ _ r)]; exact r⟩
  · rw [upd_ne (Ne.symm n1)]; exact I.free
  · rw [upd_ne (n2 y c q)]; exact I.freeC y c q
  · obtain ⟨q, n, r⟩ := I.pin p hp
    exact ⟨q, by rw [upd_ne (n3 p hp)]; exact n, r⟩
  · by_cases hb : b = a
    · subst hb; rw [upd_same] at q; cases q; exact new
    · rw [upd_ne hb] at q
      exact (I.hok b u q).stay (fun c v _ r => r) (fun c r => by rw [upd_ne (ne _ _ r)]; exact r) fun c xs r => by rw [upd_ne (ne _ _ r)]; exact r
section
variable {X : Cx} {b₀ : Stmt} {body suite : List Stmt} {c x : Str} {p hp pos : Pos} {B : Addr} {i : Nat} {tb : (St → XK) → TS} {ts : TS}
theorem ps_try (hN : X.N.Nodup) (hi : X.N[i]? = some x) (hx : X.env.scope.names.lookup x = some .local) (hg : Gl X c) (hm : X.mg c = some (.ref B)) (hst : X.stack = X.env :: X.outer) (hfr : X.env.frame = some X.env.locals) (hex : X.ex = [])
    (hb : ∀ (xe' : Value → Shared → Prop) (pn' : List (Addr × Obj)) (XR : St → XK), Px (X.tr xe' pn') XR → PSs (X.tr xe' pn') body (tb XR)) (hs : ∀ e : Addr, PSs (X.su e) (b₀ :: suite) ts) (hdb : (c == ("__debug__" : Str)) = false) :
    PS X (.Try body [.ExceptHandler (some (.Name c p)) (some x) (b₀ :: suite) hp] [] [] pos) (tTry X.K B i tb ts) := by
  intro pins s σ H D I h
  refine wpAny_Try_except ?_
  refine wpAny_mono (hb _ pins _ ?_ [] s σ H D I.tr h) (fun f s1 q => ?_) (fun e s1 q => q)
  · intro pins' σ1 H1 s1 ev s2 I1 hq
    obtain ⟨a, C, dx, H2, rfl, o1, b1, un, hok, na, al, hm1, hk⟩ := hq
    have J := I1.cx1 un o1 b1 hok
    have un' : Un (frs X.stack) [] H1 H2 s1.heap s2.heap := un
    show wpAny (model X.prog X.w) X.A (noteFrame (.ref a) X.env) (fun _ s₂ => wpAny (model X.prog X.w) X.A (setFlight (.ref a) none) (fun _ s₃ => wpAny (model X.prog X.w) X.A (handleBy (.ref a) X.env [.ExceptHandler (some (.Name c p)) (some x) (b₀ :: suite) hp]) (SP X pins D) X.xe s₃) X.xe s₂) X.xe s2
    have Jst : s2.heap.FunFrames X.base (X.env :: X.outer) := by rw [← hst]; exact J.stack
    have nf : ∀ b ∈ frs (X.env :: X.outer), b ≠ a ∧ ¬ Since s1.heap H2 b := by rw [← hst]; exact I1.nfr na.1
    refine note_on (N := Since s1.heap H2) (base := X.base) (outer := X.outer) (L := X.env.locals) (by rw [← hst]; exact I.ok.frames) Jst hfr (since_of un hok) nf al fun h3 al3 st3 ff3 => ?_
    refine land (s := { s2 with heap := h3 }) (fs := frs (X.env :: X.outer)) ff3 al3 fun h4 al4 st4 ff4 => ?_
    have st34 := st3.trans st4
    -- the state ahead of the handler
    have mk : ∀ {h5 : Heap} {t5 : Nat}, Stn (Since s1.heap H2) (frs (X.env :: X.outer)) a s2.heap h5 → Inv (X.tr (X.tr X.xe []).xe pins) pins' σ1 H2 { s2 with heap := h5, toks := t5 } := fun {h5 t5} st => by
      have st' : Stn (Since s1.heap H2) (frs X.stack) a s2.heap h5 := by rw [hst]; exact st
      have z := J.stn (s₁ := s1) (H₁ := H1) (N := Since s1.heap H2) st' (fun b z => ⟨z.2, z.1⟩) ⟨na.2, na.1⟩ I1 un
      have z2 := z.tok t5
      exact ⟨I.ok.tr, z2.os, z2.bare, z2.base, z2.loc, z2.cell, z2.free, z2.freeC, z2.pin, z2.hok, z2.len⟩
    have I4 : Inv X pins σ1 H2 { s2 with heap := h4 } := (mk (t5 := s2.toks) st34).untr I.ok
    refine wpAny_handleBy_cons (codeAny_handlers_test ?_) (by intro q; cases q)
    refine ld_glob (I4.su (e := a)) hg hm ?_ hdb
    obtain ⟨oe, vs, q0, q1, q2, q3, _⟩ := id al4
    refine (PySem.W.exm_one (K := X.K) I4.kIn (by rw [← q1]; exact looks_cls q0) hm1).here ?_
    show codeAny _ _ _ _ _
    refine codeAny_handlers_suite_as ?_
    refine land (s := { s2 with heap := h4 }) (fs := frs (X.env :: X.outer)) ff4 al4 fun h5 al5 st5 ff5 => ?_
    have I5 : Inv X pins σ1 H2 { s2 with heap := h5 } := (mk (t5 := s2.toks) (st34.trans st5)).untr I.ok
    have n1 : a ≠ X.env.locals := fun z => by
      obtain ⟨m, ⟨o, _, _, ho, _⟩, _⟩ := I1.loc
      have ho' : s1.heap.get? X.env.locals = some o := ho
      rw [← z, na.1] at ho'; cases ho'
    have I6 : Inv X pins σ1 (upd H2 a (.ext (ExcIs a C dx))) { s2 with heap := h5 } := by
      refine I5.trackE na.2 ?_ n1 (fun y e hc z => ?_) (fun q hq z => ?_) (aloft_is al5).ok
      · cases r : X.s₀.heap.get? a with
        | none => rfl
        | some o =>
          obtain ⟨o', r'⟩ := I1.base.there a o r (by show a ∉ X.ex; rw [hex]; simp)
          rw [na.1] at r'; cases r'
      · obtain ⟨v, o, ho, _⟩ := I1.cell y e hc
        rw [z, na.1] at ho; cases ho
      · have r := (I1.pin q (List.mem_append_left _ hq)).1
        rw [z, na.1] at r; cases r
    refine store_ok (X := X.su a) (s := { s2 with heap := h5 }) (I6.su (e := a)) hN hi (.inl hx) (v := .ref a) rfl (fun s7 I7 => ?_) (.inr hx)
    refine wpAny_mono (hs a pins s7 _ _ (D.un i) I7 (hk a na.2)) (fun f s8 q8 => ?_) (fun _ _ z => z.elim)
    have fin : ∀ {σ8 : St} {H8 : Hp} {Q : Unit → Shared → Prop}, Inv (X.su a) pins σ8 H8 s8 → (∀ s9, Inv X pins (σ8.set i none) H8 s9 → Q () s9) → wpAny (model X.prog X.w) X.A (do bindName X.env x .none; unbindBehindTheSuite X.env x hp) Q X.xe s8 := fun {σ8 H8 Q} I8 k => by
      obtain ⟨m, hn, hl⟩ := id I8.loc
      refine wpAny_nameGoes_keeps hx hn (by rw [I.ok.kind]; rfl) fun h' v hn' sb => k _ ?_
      exact (I8.unsu I.ok).gone hN hi hn hl hn' sb
    cases f with
    | next => obtain ⟨σ8, H8, I8, q⟩ := q8; exact fin I8 fun s9 I9 => ⟨_, _, I9, q⟩
    | brk => obtain ⟨σ8, H8, I8, q⟩ := q8; exact fin I8 fun s9 I9 => ⟨_, _, I9, q⟩
    | cont => obtain ⟨σ8, H8, I8, q⟩ := q8; exact fin I8 fun s9 I9 => ⟨_, _, I9, q⟩
    | ret u => obtain ⟨v, σ8, H8, I8, r, q⟩ := q8; exact fin I8 fun s9 I9 => ⟨v, _, _, I9, r, q⟩
  · cases f with
    | next =>
      obtain ⟨σ', H', I', q⟩ := q
      exact wpAny_execs_nil ⟨σ', H', I'.untr I.ok, q⟩
    | brk => obtain ⟨σ', H', I', q⟩ := q; exact ⟨σ', H', I'.untr I.ok, q⟩
    | cont => obtain ⟨σ', H', I', q⟩ := q; exact ⟨σ', H', I'.untr I.ok, q⟩
    | ret u => obtain ⟨v, σ', H', I', r, q⟩ := q; exact ⟨v, σ', H', I'.untr I.ok, r, q⟩
end
end L2

set_option maxRecDepth 100000
namespace L2
open PySem PySem.Spec PyProof.Rows
abbrev bmV : List Value := [.type "ValueError", .type "Exception", .type "BaseException", .type "object"]
/-- an own class beneath ValueError, by way of others without __init__ -/
def xcIn (K : PySem.W.Frag) (C : Addr) (init : Option Value) : Bool := match K.lookup C with
  | some ⟨.type "type", _, .cls cd, sl⟩ => (match cd.mro, sl.toList with
    | .ref C' :: bm, [_, _, _, _, some (.builtin n), _] => C' == C && (n == "ValueError.__new__" && (!cd.hasDel && (cd.hasDict && (PySem.W.tailIn K bmV bm && (PySem.W.nsOkIn K cd.ns && PySem.W.nsIn K cd.ns "__init__" == some init)))))
    | _, _ => false)
  | _ => false
/-- .. what is known of it in a heap -/
structure XAt (h : Heap) (C : Addr) (init : Option Value) : Prop where
  out : ∃ nm q N bs bm sn sub ab col dd k0 k1 k2 k3 k5 mN, h.get? C = some (excClassObj nm q C N bs bm true sn sub ab col dd k0 k1 k2 k3 k5 "ValueError.__new__") ∧ h.Ns N mN ∧ mN "__init__" = init ∧ OwnTail h bmV bm
theorem ns_of_in {K : PySem.W.Frag} {h : Heap} {N : Addr} {mg : Str → Option Value} {n : Str} {r : Option Value} (X : K.In h) (G : h.Ns N mg) (e : PySem.W.nsIn K N n = some r) : mg n = r := by
  obtain ⟨o, es, ep, ho, hd, _, hf⟩ := G
  unfold PySem.W.nsIn at e
  split at e
  · rename_i c d es' n' sl q
    have z := X _ _ q
    rw [ho] at z
    cases z
    cases hd
    rw [← hf]
    unfold nsFind findBy
    rw [← Array.find?_toList]
    split at e
    · rename_i he
      rw [he]
      cases e
      rfl
    · rename_i he
      rw [he]
      split at e
      · cases e
      · cases e
        rfl
  · cases e
theorem xc_at {K : PySem.W.Frag} {h : Heap} {C : Addr} {init : Option Value} (X : K.In h) (q : xcIn K C init = true) : XAt h C init := by
  unfold xcIn at q
  split at q
  · rename_i dd cd sl ho
    split at q
    · rename_i C' bm k0 k1 k2 k3 n k5 hm hs
      simp only [Bool.and_eq_true, beq_iff_eq, Bool.not_eq_true'] at q
      obtain ⟨rfl, rfl, d, hd', t, o, i⟩ := q
      obtain ⟨nm, bs, mro, ns, qn, hd, sn, sub, ab, col, del⟩ := cd
      dsimp only at hm d o i hd'
      subst hm d hd'
      obtain ⟨l⟩ := sl
      simp only at hs
      subst hs
      have G : h.Ns ns (h.nsMap ns) := .of_isNs (PySem.W.isNs_of_in X o)
      exact ⟨_, _, _, _, _, _, _, _, _, _, _, _, _, _, _, _, X _ _ ho, G, ns_of_in X G i, PySem.W.tail_of_in X t⟩
    · cases q
  · cases q
section
variable {M : Model} {A : Around} {E : Value → Shared → Prop} {s : Shared} {env : Env} {C : Addr} {init : Option Value}
/-- the raise of a made one -/
theorem raise_made {x : Sem Value} {Q : Flow → Shared → Prop} (hh : A.handled = none)
    (h : wpAny M A x (fun v s₁ => ∃ e oe vs, v = .ref e ∧ XAt s₁.heap C init ∧ s₁.heap.get? e = some oe ∧ oe.cls = .ref C ∧ oe.data = .fields vs ∧ vs[1]? = some .none ∧ E (.ref e) s₁) E s) :
    wpAny M A (raiseStmt env (some x) none) Q E s := by
  unfold raiseStmt
  refine wpAny_bind (wpAny_mono h (fun v s₁ h₁ => ?_) fun _ _ x => x)
  obtain ⟨e, oe, vs, rfl, ⟨nm, q, N, bs, bm, sn, sub, ab, col, dd, k0, k1, k2, k3, k5, mN, hC, _, _, T⟩, he, hc, hd, h1, hE⟩ := h₁
  have hbm : (Value.ref C :: bm).contains (.type "BaseException") = true := by rw [List.contains_cons, T.hasType (X := "BaseException") (b := true) (by decide +kernel), Bool.or_true]
  obtain ⟨hp, g, d, tk, os⟩ := s₁
  obtain ⟨oc, od, odt, osl⟩ := oe
  dsimp only at hc hd
  subst hc hd
  have hfld : ∀ {Q' : Value → Shared → Prop} {A' : Around}, Q' .none ⟨hp, g, d, tk, os⟩ → wpAny M A' (field (.ref e) 1) Q' E ⟨hp, g, d, tk, os⟩ := fun z => wpAny_field (s := ⟨hp, g, d, tk, os⟩) he rfl h1 z
  repeat (first | with_reducible refine wpAny_loadPart_at he ?_ | with_reducible refine wpAny_loadPart_at hC ?_ | (with_reducible refine wpAny_isSubtype_exc hC ?_; rw [hbm]) | with_reducible refine hfld ?_ | wp_step)
  exact wpAny_raiseNew_none hh hE
end

theorem XAt.keeps {h h' : Heap} {C : Addr} {init : Option Value} (x : XAt h C init) (k : ∀ b o, h.get? b = some o → h'.get? b = some o) : XAt h' C init := by
  obtain ⟨nm, q, N, bs, bm, sn, sub, ab, col, dd, k0, k1, k2, k3, k5, mN, hC, hN, hi, T⟩ := x.out
  exact ⟨nm, q, N, bs, bm, sn, sub, ab, col, dd, k0, k1, k2, k3, k5, mN, k _ _ hC, hN.keeps k, hi, T.keeps k⟩

theorem ObjOk.there {P : Program} {w : World} {H : Hp} {h : Heap} {a : Addr} {o : HO} (x : ObjOk P w H h a o) : ∃ ob, h.get? a = some ob := by
  induction o with
  | lst xs => obtain ⟨_, _, _, _, e⟩ := x; exact ⟨_, e⟩
  | tup xs => obtain ⟨_, _, _, ob, e, _⟩ := x; exact ⟨_, e⟩
  | dK kvs => obtain ⟨_, _, _, _, o, _, _, e, _⟩ := x; exact ⟨_, e⟩
  | dT kvs => obtain ⟨_, _, _, _, o, _, _, e, _⟩ := x; exact ⟨_, e⟩
  | set S n => obtain ⟨o, _, _, _, e, _⟩ := x; exact ⟨_, e⟩
  | ins C dx fs => obtain ⟨_, _, _, e, _⟩ := x; exact ⟨_, e⟩
  | own y => exact x
  | xd fs => obtain ⟨_, ⟨_, _, _, e, _⟩, _⟩ := x; exact ⟨_, e⟩
  | rng lo hi => obtain ⟨_, _, _, e⟩ := x; exact ⟨_, e⟩
  | frz ob u ih => exact ⟨ob, x.1⟩
  | tbl ps => exact ⟨_, x⟩
  | met f y => exact ⟨_, x⟩
  | ext φ => exact x.2.1
theorem HOk.none {P : Program} {w : World} {H : Hp} {h : Heap} {a : Addr} (x : HOk P w H h) (e : h.get? a = none) : H a = none := by
  cases r : H a with
  | none => rfl
  | some o =>
    obtain ⟨ob, q⟩ := (x a o r).there
    rw [e] at q; cases q

/-- raise C() -/
def tRaise0 (C : Addr) (XR : St → XK) : TS := fun _ σ H => XR σ (.ref C) none H
section
variable {X : Cx} {C : Addr} {XR : St → XK} {x : Str} {np cpos pos : Pos}
end
end L2

set_option maxRecDepth 100000
namespace L2
open PySem PySem.Spec PyProof.Rows PySem.W
theorem slot_wget : Slot "wrapper_descriptor" "__get__" "wrapper_descriptor.__get__" := .of (owner := "wrapper_descriptor") (n := "__get__") (by rw [typeLookup_type, builtinLookup_eq_fast]; kernel_rfl) (by decide +kernel) (by decide +kernel) (by decide +kernel)
  (by first | exact .inl (by decide +kernel) | exact .inr (by decide +kernel)) (by rw [isSubtype_type]; kernel_rfl)
theorem entry_wget : entryFor table "wrapper_descriptor.__get__" = some Builtin.«wrapper_descriptor.__get__» := entryFor_of_tree (by kernel_rfl)
theorem args_wget (a b c : Value) : argsOk "wrapper_descriptor.__get__" ⟨[a, b, c], []⟩ := by unfold argsOk; kernel_rfl
theorem type_vinit : typeOf (.builtin "ValueError.__init__") = pure (.type "wrapper_descriptor") := by kernel_rfl
section
variable {prog : Program} {w : World} {A : Around} {E : Value → Shared → Prop} {h : Heap} {g : Array GenState} {d : Drawn} {t : Nat} {os : OsState}
/-- the wrapper of ValueError's own, bound -/
theorem run_wget {x C : Addr} {Q : Fin → Shared → Prop} (hi : Looks (model prog w) h (isInstance (.ref x) (.type "ValueError")) true)
    (hq : Q (.done (.ret (.ref h.objs.size))) ⟨h.push { cls := .type "method-wrapper", data := .fields #[.builtin "ValueError.__init__", .ref x] }, g, d, t, os⟩) :
    wpAny (model prog w) A (Builtin.«wrapper_descriptor.__get__» ⟨[.builtin "ValueError.__init__", .ref x, .ref C], []⟩) Q E ⟨h, g, d, t, os⟩ := by
  unfold Builtin.«wrapper_descriptor.__get__»
  refine wpAny_bind (wpAny_of_eq (a := (.builtin "ValueError.__init__", some (.ref x), some (.ref C))) rfl ?_)
  dsimp only
  refine wpAny_bind ?_
  refine wpAny_bind (wpAny_of_eq (a := (("__init__" : Str), Value.type "ValueError")) (by kernel_rfl) ?_)
  dsimp only
  refine wpAny_bind (hi.here ?_)
  rw [if_neg (by decide)]
  refine wpAny_pure ?_
  exact wpAny_bind (wpAny_newObj_type (wpAny_pure hq))
theorem xs_ga {so D x C : Addr} {l₀ l : List Value} {K : Frag} {tk : Tok} {Q : Fin → Shared → Prop}
    (hso : h.get? so = some { cls := .type "super", dict := none, data := .fields #[.ref D, .ref x, .ref C], slots := #[] }) (hno : Looks (model prog w) h (opaqueClassAbove (.ref C)) none)
    (hC : Looks (model prog w) h (mroOf (.ref C)) l₀) (hl : (l₀.dropWhile (· != .ref D)).drop 1 = l) (X : K.In h) (hf : alongIn K "__init__" l = some (some (.builtin "ValueError.__init__")))
    (hxC : x ≠ C) (hi : Looks (model prog w) h (isInstance (.ref x) (.type "ValueError")) true)
    (hq : Q (.done (.ret (.ref h.objs.size))) ⟨h.push { cls := .type "method-wrapper", data := .fields #[.builtin "ValueError.__init__", .ref x] }, g, d, t, os⟩) :
    wpAny (model prog w) A (Builtin.«super.__getattribute__» ⟨[.ref so, .str "__init__" tk], []⟩) Q E ⟨h, g, d, t, os⟩ := by
  have lk := slot_wget.lookup
  have ne : (Value.ref x == Value.ref C) = false := by simp [hxC]
  have dt : ({ cls := .type "super", dict := none, data := .fields #[.ref D, .ref x, .ref C], slots := #[] } : Obj).data = .fields #[.ref D, .ref x, .ref C] := rfl
  have z0 : (#[.ref D, .ref x, .ref C] : Array Value)[0]? = some (.ref D) := rfl
  have z1 : (#[.ref D, .ref x, .ref C] : Array Value)[1]? = some (.ref x) := rfl
  have z2 : (#[.ref D, .ref x, .ref C] : Array Value)[2]? = some (.ref C) := rfl
  have tv : (⟨h, g, d, t, os⟩ : Shared).TypeIs (.builtin "ValueError.__init__") "wrapper_descriptor" := type_vinit
  have nc : (("__init__" : Str) == ("__class__" : Str)) = false := by decide +kernel
  unfold Builtin.«super.__getattribute__»
  repeat (first
    | (with_reducible refine wpAny_field hso dt z0 ?_) | (with_reducible refine wpAny_field hso dt z1 ?_) | (with_reducible refine wpAny_field hso dt z2 ?_)
    | (with_reducible refine ks_wpAny_notOpaque hno ?_)
    | (with_reducible refine Looks.at hC ?_; rw [hl])
    | (refine ks_forIn_along X (fun _ _ => rfl) rfl ?_ hf)
    | (with_reducible refine wpAny_of_eq type_vinit ?_)
    | (with_reducible refine wpAny_call_entry slot_wget tv entry_wget ?_ (args_wget _ _ _))
    | (with_reducible refine run_wget hi ?_)
    | (with_reducible refine ⟨_, rfl, ?_⟩)
    | (simp only [nc, ne, Bool.or_false, Bool.false_eq_true, if_false])
    | wp_step
    | dsimp only)
  all_goals exact hq
theorem xs_getm {so D x C : Addr} {l₀ l : List Value} {K : Frag} {pl : Sem Bool} {Q : Value × List Value → Shared → Prop}
    (hso : h.get? so = some { cls := .type "super", dict := none, data := .fields #[.ref D, .ref x, .ref C], slots := #[] }) (hno : Looks (model prog w) h (opaqueClassAbove (.ref C)) none)
    (hC : Looks (model prog w) h (mroOf (.ref C)) l₀) (hl : (l₀.dropWhile (· != .ref D)).drop 1 = l) (X : K.In h) (hf : alongIn K "__init__" l = some (some (.builtin "ValueError.__init__")))
    (hxC : x ≠ C) (hi : Looks (model prog w) h (isInstance (.ref x) (.type "ValueError")) true)
    (hq : Q (.ref h.objs.size, []) ⟨h.push { cls := .type "method-wrapper", data := .fields #[.builtin "ValueError.__init__", .ref x] }, g, d, t + 1, os⟩) :
    wpAny (model prog w) A (getMethod (.ref so) "__init__" pl) Q E ⟨h, g, d, t, os⟩ := by
  have lk := F.ks_slot_super_ga.lookup
  have ty : ∀ t', (⟨h, g, d, t', os⟩ : Shared).TypeIs (.ref so) "super" := fun _ => ⟨_, hso, rfl⟩
  unfold getMethod
  refine wpAny_bind (wpAny_specialOf (ty _) lk ?_)
  show wpAny _ _ (if (Manifest.canonical "super.__getattribute__" != "object.__getattribute__") = true then _ else _) _ _ _
  rw [if_pos F.ks_canon_super_ga]
  unfold getAttr getAttrBy
  refine wpAny_bind (wpAny_bind (wpAny_mkText (wpAny_holding (wpAny_bind (wpAny_typeOf (ty _) (wpAny_bind (wpAny_of_eq lk ?_)))))))
  show wpAny _ _ (getAttrByItsOwn (.ref so) (.str "__init__" t) (.type "super") (.builtin "super.__getattribute__") true false) _ _ _
  unfold getAttrByItsOwn hookBefore callGetattribute boundAndCalled
  refine wpAny_bind (wpAny_of_eq (a := none) rfl ?_)
  refine wpAny_bind (wpAny_attempt (wpAny_holding ?_))
  refine wpAny_bind (wpAny_of_eq (F.ks_slot_super_ga.bind _) ?_)
  refine wpAny_mono (E := fun _ _ => False) (wpAny_call_entry F.ks_slot_super_ga (ty _) F.ks_entry_super_ga (xs_ga (Q := fun fin s' => ∃ v, fin = .done (.ret v) ∧ (v = .ref h.objs.size ∧ s' = ⟨h.push { cls := .type "method-wrapper", data := .fields #[.builtin "ValueError.__init__", .ref x] }, g, d, t + 1, os⟩)) hso hno hC hl X hf hxC hi ⟨_, rfl, rfl, rfl⟩) (F.ks_gaArgs_super _ _)) (fun v s' hv => ?_) fun _ _ z => z.elim
  obtain ⟨rfl, rfl⟩ := hv
  exact wpAny_pure (wpAny_pure hq)
end
end L2

set_option maxRecDepth 100000
namespace L2
open PySem PySem.Spec PyProof.Rows PySem.W
section
variable {prog : Program} {w : World} {A : Around} {E : Value → Shared → Prop} {h : Heap} {g : Array GenState} {d : Drawn} {t : Nat} {os : OsState}
theorem check_vi {M : Model} {nm q : Str} {C N : Addr} {bs bm : List Value} {hdct : Bool} {sn : List Str} {sub : List Value} {ab : Bool} {col : Option Bool} {dd : Option Addr} {k0 k1 k2 k3 k5 : Option Value} {newId : String} {x : Addr} {oe : Obj} {a : Str} {tk : Tok} {Q : Unit → Shared → Prop}
    (hC : h.get? C = some (excClassObj nm q C N bs bm hdct sn sub ab col dd k0 k1 k2 k3 k5 newId)) (he : h.get? x = some oe) (hc : oe.cls = .ref C) (hq : Q () ⟨h, g, d, t, os⟩) :
    wpAny M A (checkBoundCall "ValueError.__init__" ⟨[.ref x, .str a tk], []⟩) Q E ⟨h, g, d, t, os⟩ := by
  have F := PySem.F.excBase_ValueError
  have hshort := F.noStar
  simp only [checkBoundCall, F.initKind, F.initRow]
  rw [if_pos (by decide)]
  repeat (first | (with_reducible refine wpAny_loadPart_at he ?_; rw [hc]) | with_reducible refine wpAny_loadPart_at hC ?_ | wp_step)
  exact hq
theorem fld_at {M : Model} {e : Addr} {o : Obj} {vs : Array Value} {i : Nat} {v : Value} {Q : Value → Shared → Prop} (ho : h.get? e = some o) (hd : o.data = .fields vs) (hi : vs[i]? = some v) (hq : Q v ⟨h, g, d, t, os⟩) : wpAny M A (field (.ref e) i) Q E ⟨h, g, d, t, os⟩ := wpAny_field ho hd hi hq
theorem sfl_at {M : Model} {e : Addr} {o : Obj} {vs : Array Value} {i : Nat} {v : Value} {Q : Unit → Shared → Prop} (ho : h.get? e = some o) (hd : o.data = .fields vs) (hi : i < vs.size) (hq : Q () ⟨h.update e (Obj.mapFields (·.setIfInBounds i v)), g, d, t, os⟩) : wpAny M A (setField (.ref e) i v) Q E ⟨h, g, d, t, os⟩ := wpAny_setField (s := ⟨h, g, d, t, os⟩) ho hd hi hq
theorem xs_run {mw x t0 : Addr} {a : Str} {tk : Tok} {oe : Obj} {vs : Array Value} {Q : Value → Shared → Prop} (hmw : h.get? mw = some { cls := .type "method-wrapper", data := .fields #[.builtin "ValueError.__init__", .ref x] })
    {C : Addr} {init : Option Value} (xa : XAt h C init) (hc : oe.cls = .ref C) (hx : h.get? x = some oe) (hd : oe.data = .fields vs) (h0 : vs[0]? = some (.ref t0))
    (hq : ∀ h' T, h.objs.size ≤ T → h'.get? x = some (oe.mapFields (·.setIfInBounds 0 (.ref T))) → (∀ b o, b ≠ x → h.get? b = some o → h'.get? b = some o) → Q .none ⟨h', g, d, t, os⟩) :
    wpAny (model prog w) A (call (.ref mw) [.str a tk]) Q E ⟨h, g, d, t, os⟩ := by
  refine wpAny_call (codeAny_of_tree ?_)
  show wpAny _ _ (callAny (.ref mw) _) _ _ _
  unfold callAny
  refine wpAny_bind (wpAny_load hmw ?_)
  dsimp only
  rw [if_pos (by decide)]
  simp only [show (#[Value.builtin "ValueError.__init__", Value.ref x] : Array Value)[0]? = some (.builtin "ValueError.__init__") from rfl, show (#[Value.builtin "ValueError.__init__", Value.ref x] : Array Value)[1]? = some (.ref x) from rfl]
  rw [if_pos (by decide)]
  obtain ⟨nm, qn, N, bs, bm, sn, sub, ab, col, dd, k0, k1, k2, k3, k5, mN, hC, _, _, _⟩ := xa.out
  refine wpAny_bind (check_vi hC hx hc ?_)
  refine wpAny_pure ?_
  refine ⟨Code.quiet_builtin _ (by decide +kernel), codeAny_builtin PySem.F.excBase_ValueError.initEntry ?_⟩
  have h1 := Heap.get?_push_of_some { cls := Value.type "tuple", data := Data.seq #[Value.str a tk] } hx
  have z0 : 0 < vs.size := (Array.getElem?_eq_some_iff.mp h0).1
  unfold Builtin.«BaseException.__init__» Builtin.BaseException.bexcPut
  repeat (first | (with_reducible refine fld_at h1 hd h0 ?_) | (with_reducible refine sfl_at h1 hd z0 ?_) | wp_step)
  exact hq _ h.objs.size (Nat.le_refl _) (Heap.get?_update_self _ h1 (Obj.isFreed_of_fields (Obj.data_mapFields hd _))) fun b o nb q => (Heap.get?_update_other _ _ (Ne.symm nb)).trans (Heap.get?_push_of_some _ q)
end
end L2

set_option maxRecDepth 100000
namespace L2
open PySem PySem.Spec PyProof.Rows PySem.W
open Builtin Builtin.ObjectAttr
section
variable {prog : Program} {w : World} {A : Around} {E : Value → Shared → Prop} {h : Heap} {g : Array GenState} {d : Drawn} {t : Nat} {os : OsState}
variable {x C LE : Addr} {o : Obj} {name : Str} {v : Value} {vs : Array Value}
/-- what a class says of a name and of storing -/
structure StoreAt (M : Model) (h : Heap) (C LE : Addr) (name : Str) : Prop where
  mro : Looks M h (mroOf (.ref C)) (.ref C :: .ref LE :: bmV)
  no : Looks M h (typeLookup (.ref C) name) none
  sa : Looks M h (typeLookup (.ref C) "__setattr__") (some (.builtin "object.__setattr__"))
  ob : Looks M h (isSubtype (.ref C) (.type "object")) true
  at_ : ∃ init, XAt h C init
theorem xs_sa {tk : Tok} {Q : Fin → Shared → Prop} (S : StoreAt (model prog w) h C LE name) (hx : h.get? x = some o) (hc : o.cls = .ref C) (hn : o.dict = none) (hd : o.data = .fields vs)
    (hq : ∀ h' tk' dx, h.objs.size ≤ dx → h'.get? x = some { o with dict := some dx } → h'.Ns1 dx (fun y => if y = name then some v else none) → (∀ b u, b ≠ x → h.get? b = some u → h'.get? b = some u) → Q (.done (.ret .none)) ⟨h', g, d, tk', os⟩) :
    wpAny (model prog w) A (Builtin.«object.__setattr__» ⟨[.ref x, .str name tk, v], []⟩) Q E ⟨h, g, d, t, os⟩ := by
  have ps := PySem.F.store_ValueError.passes (.ref x)
  obtain ⟨init, xa⟩ := S.at_
  obtain ⟨nm, qn, N, bs, bm, sn, sub, ab, col, dd, k0, k1, k2, k3, k5, mN, hC, _, _, _⟩ := xa.out
  unfold Builtin.«object.__setattr__»
  repeat (first | rw [refuse_eq] | (with_reducible refine wpAny_loadPart_at hx ?_; rw [hc]) | (with_reducible refine Looks.at S.mro ?_; rw [refuseLoop_ref, refuseLoop_ref, ps]) | (with_reducible refine Looks.at S.no ?_) | (with_reducible refine wpAny_loadPart_at hC ?_) | wp_step)
  rw [hn, hd]
  dsimp only
  rw [if_neg (by simp [typeHasDict])]
  have x1 : (h.push { cls := .type "dict", data := .dict #[] }).get? x = some o := Heap.get?_push_of_some _ hx
  have nx : x ≠ h.objs.size := Nat.ne_of_lt (Heap.lt_size hx)
  have fr : ({ cls := o.cls, dict := some h.objs.size, data := o.data, slots := o.slots } : Obj).isFreed = false := by
    obtain ⟨oc, od, odt, osl⟩ := o
    dsimp only at hd
    subst hd
    rfl
  refine wpAny_bind (wpAny_alloc' (wpAny_bind (wpAny_update' x1 (wpAny_pure ?_))))
  have x2 := Heap.get?_update_self (fun o => { cls := o.cls, dict := some h.objs.size, data := o.data, slots := o.slots }) x1 fr
  have d2 : ((h.push { cls := .type "dict", data := .dict #[] }).update x fun o => { cls := o.cls, dict := some h.objs.size, data := o.data, slots := o.slots }).get? h.objs.size = some { cls := .type "dict", data := .dict #[] } :=
    (Heap.get?_update_other _ _ nx).trans (Heap.get?_push_at rfl rfl)
  generalize hg : ((h.push { cls := .type "dict", data := .dict #[] }).update x fun o => { cls := o.cls, dict := some h.objs.size, data := o.data, slots := o.slots }) = h2 at x2 d2 ⊢
  have old : ∀ b u, b ≠ x → h.get? b = some u → h2.get? b = some u := fun b u nb q => by
    rw [← hg]
    exact (Heap.get?_update_other _ _ (Ne.symm nb)).trans (Heap.get?_push_of_some _ q)
  have n2 : h2.Ns h.objs.size (fun _ => none) := ⟨_, #[], _, d2, rfl, fun e z => absurd z (by simp), fun _ => rfl⟩
  show wpAny _ _ (storeInDict h.objs.size (.str name tk) name v) _ _ _
  unfold storeInDict newKeyGuard
  refine wpAny_bind (wpAny_pure (wpAny_bind (wpAny_nsSet1 (Heap.Ns1.of_empty n2) fun h3 n3 s3 => ?_)))
  obtain ⟨oD, eD, pD, q1, q2, q3⟩ := n3.count (Within.cons name v Within.nil)
  refine wpAny_bind (wpAny_lookBehind q1 (by rw [q2]; exact pastItsLine_dict (Nat.le_trans q3 (by rw [List.length_cons, List.length_nil, sizeLine_eq]; omega))) ?_)
  wp_walk
  exact hq h3 _ h.objs.size (Nat.le_refl _) ((s3.2 x nx).trans x2) n3 fun b u nb q => (s3.2 b (Nat.ne_of_lt (Heap.lt_size q))).trans (old b u nb q)

theorem xs_chk {M : Model} {n : Value} {Q : Unit → Shared → Prop} (ob : Looks M h (isSubtype (.ref C) (.type "object")) true) (hx : h.get? x = some o) (hc : o.cls = .ref C) (hq : Q () ⟨h, g, d, t, os⟩) :
    wpAny M A (checkBuiltinCall "object.__setattr__" ⟨[.ref x, n, v], []⟩) Q E ⟨h, g, d, t, os⟩ := by
  have SF := PySem.F.store_ValueError
  simp only [checkBuiltinCall, SF.kind, SF.split]
  refine wpAny_bind ?_
  unfold isInstance
  repeat (first | (with_reducible refine wpAny_loadPart_at hx ?_; rw [hc]) | (with_reducible refine Looks.at ob ?_) | wp_step)
  exact hq
theorem xs_set {Q : Unit → Shared → Prop} (S : StoreAt (model prog w) h C LE name) (hx : h.get? x = some o) (hc : o.cls = .ref C) (hn : o.dict = none) (hd : o.data = .fields vs)
    (hq : ∀ h' tk' dx, h.objs.size ≤ dx → h'.get? x = some { o with dict := some dx } → h'.Ns1 dx (fun y => if y = name then some v else none) → (∀ b u, b ≠ x → h.get? b = some u → h'.get? b = some u) → Q () ⟨h', g, d, tk', os⟩) :
    wpAny (model prog w) A (setAttr (.ref x) name v) Q E ⟨h, g, d, t, os⟩ := by
  have SF := PySem.F.store_ValueError
  have bd := SF.slot.bind (.ref x)
  unfold setAttr callSpecial? specialOf
  repeat (any_goals (first | assumption | (with_reducible refine wpAny_loadPart_at hx ?_; rw [hc]) | (with_reducible refine Looks.at S.sa ?_) | wp_step))
  refine codeAny_call_builtin SF.slot.plain SF.entry (xs_chk (S.ob) hx hc ?_)
  refine xs_sa (t := t + 1) S hx hc hn hd fun h' tk' dx z1 z2 z3 z4 => ?_
  repeat (any_goals (first | assumption | wp_step))
  exact hq h' tk' dx z1 z2 z3 z4
end
end L2

set_option maxRecDepth 100000
namespace L2
open PySem PySem.Spec PyProof.Rows PySem.W
/-- the class facts that making and storing ask, of K alone -/
structure XK1 (K : Frag) (C LE : Addr) (fld : Str) : Prop where
  mro : (clsIn K C).map (·.mro) = some (.ref C :: .ref LE :: bmV)
  no : findIn K (.ref C) fld = some none
  sa : findIn K (.ref C) "__setattr__" = some (some (.builtin "object.__setattr__"))
  ini : alongIn K "__init__" (.ref LE :: bmV) = some (some (.builtin "ValueError.__init__"))
  opq : nsIn K cStatics "thirdparty.any" = some none
theorem XK1.subs {K : Frag} {C LE : Addr} {fld : Str} {M : Model} {h : Heap} {b : Value} (x : XK1 K C LE fld) (X : K.In h) (hb : (Value.ref C :: .ref LE :: bmV).contains b = true) : Looks M h (isSubtype (.ref C) b) true := by
  obtain ⟨cd, e, z⟩ := Option.map_eq_some_iff.mp x.mro
  refine looks_mroIn X ?_
  unfold mroIn
  rw [e]
  show (if cd.mro.isEmpty = true then none else some (cd.mro.contains b)) = some true
  rw [z, hb]; rfl
theorem XK1.mroL {K : Frag} {C LE : Addr} {fld : Str} {M : Model} {h : Heap} (x : XK1 K C LE fld) (X : K.In h) : Looks M h (mroOf (.ref C)) (.ref C :: .ref LE :: bmV) := by
  obtain ⟨cd, e, z⟩ := Option.map_eq_some_iff.mp x.mro
  rw [← z]
  exact (looks_clsIn X e).andThen .now
theorem XK1.store {K : Frag} {C LE : Addr} {fld : Str} {M : Model} {h : Heap} {init : Option Value} (x : XK1 K C LE fld) (X : K.In h) (q : xcIn K C init = true) : StoreAt M h C LE fld :=
  ⟨x.mroL X, looks_findIn X x.no, looks_findIn X x.sa, x.subs X (by simp [bmV]), init, xc_at X q⟩
section
variable {prog : Program} {w : World} {A : Around} {E : Value → Shared → Prop} {s : Shared}
/-- a call of a method-wrapper with one written text -/
theorem callWith_mw {pos : Pos} {env : Env} {mw : Addr} {fn x : Value} {msg : Str} {kd : Nat} {p4 : Pos} {Q : Value → Shared → Prop} (hmw : s.heap.get? mw = some { cls := .type "method-wrapper", data := .fields #[fn, x] })
    (k : ∀ tk, wpAny (model prog w) A (call (.ref mw) [.str msg tk]) Q E { s with toks := s.toks + 1 }) :
    wpAny (model prog w) A (callWith pos (.ref mw) [] (backTo pos (starEach [.Constant (.str msg) kd p4] env)) []) Q E s := by
  unfold callWith
  refine wpAny_bind (wpAny_holding (wpAny_mono (Q := fun (a : Args) s₁ => ∃ tk, a = ⟨[.str msg tk], []⟩ ∧ s₁ = { s with toks := s.toks + 1 }) ?_ (fun a s₁ ⟨tk, ha, hs⟩ => wpAny_bind (wpAny_standAt ?_)) fun _ _ z => z))
  · show wpAny (model prog w) A (evalArgs (.ref mw) true ((false, eval (.Constant (.str msg) kd p4) env) :: []) []) _ _ _
    refine Calls.evalArgs_plain (Calls.spliced_cons (Calls.Constant_str (k := kd) (pos := p4) ?_))
    exact Calls.spliced_nil ⟨_, rfl, rfl⟩
  · subst ha hs
    simp only [stars_any (es := [.Constant (.str msg) kd p4]) rfl, List.any_nil, Bool.or_false]
    refine wpAny_bind (m := keeperOf (.ref mw)) ?_
    unfold keeperOf
    refine wpAny_bind (wpAny_load hmw ?_)
    dsimp only
    rw [if_pos (by decide)]
    refine wpAny_pure ?_
    rw [if_pos (by decide)]
    exact wpAny_bind (wpAny_mono (k tk) (fun r s₂ z => wpAny_bind (wpAny_holding (wpAny_point (wpAny_pure z)))) fun _ _ z => z)
end
end L2

set_option maxRecDepth 100000
namespace L2
open PySem PySem.Spec PyProof.Rows PySem.W
/-- the names of an own __init__(self, par) -/
structure ISc (sc : Scope) (par : Str) : Prop where
  su : sc.names.lookup ("super" : Str) = some .globalImplicit
  cl : sc.names.lookup ("__class__" : Str) = some .free
  se : sc.names.lookup ("self" : Str) = some .local
  pa : sc.names.lookup par = some .local
  nc : ∀ x ∈ sc.names, x.2 ≠ .cell
  co : sc.isCoroutine = false
  ge : sc.isGenerator = false
  ki : sc.kind = .function
  ns : (("self" : Str) == par) = false
  db : (par == ("__debug__" : Str)) = false
section
variable {prog : Program} {w : World} {A : Around} {R : Result → Shared → Prop} {h : Heap} {g : Array GenState} {d : Drawn} {t : Nat} {os : OsState}
variable {K : Frag} {mg : Str → Option Value} {base : Heap} {f C LE e cda cc : Addr} {fld par nm qual msg file : Str} {ps : Arguments} {body : List Stmt} {sc : Scope} {kV doc pm ct oc ccl cl u : Value} {an od cdd cld : Option Addr} {osl ccs csl : Array (Option Value)} {cvs vs : Array Value} {tf : Tok} {init : Option Value} {oe : Obj} {t0 : Addr} {ar : Arg}
  {a1 a2 a3 a4 a5 a6 b1 b2 b3 b4 : Pos} {kd : Nat} {pl : Env → Sem Bool}
theorem xs_init (B : Mod K mg base) (kb : ∀ b o, base.get? b = some o → h.get? b = some o) (nb : base.get? e = none) (x1 : XK1 K C LE fld) (q : xcIn K C init = true) (hroom : A.depth < recursionLimit)
    (lk : K.lookup f = some ⟨oc, od, .func (ksFn nm qual ps body sc .none kV doc pm an (.ref cda) ct cc), osl⟩) (hcd : codeIn K (.ref cda) qual = true) (hcode : K.lookup cda = some ⟨ccl, cdd, .fields cvs, ccs⟩) (hvs : cvs[2]? = some (.str file tf)) (hfile : ((prog.main.file : Str) == file) = true)
    (hcell : K.lookup cc = some ⟨cl, cld, .cell (some (.ref C)), csl⟩) (hsu : mg "super" = none) (htop : (prog.main.scope.names.lookup ("super" : Str)).isSome = false) (hboot : bootBuiltins "super" = some (.type "super"))
    (S : ISc sc par) (hp : (ps.posonlyargs ++ ps.args).head? = some ar) (har : ar.arg = "self") (hbind : bindArgs (ksFn nm qual ps body sc .none kV doc pm an (.ref cda) ct cc) ⟨[.ref e, u], []⟩ = pure [(("self" : Str), .ref e), (par, u)])
    (hb : body = [.Expr (.Call (.Attribute (.Call (.Name "super" a1) [] [] a2) "__init__" a3) [.Constant (.str msg) kd a4] [] a5) a6, .Assign [.Attribute (.Name "self" b1) fld b2] (.Name par b3) b4])
    (hev : ∀ env, eval (.Call (.Attribute (.Call (.Name "super" a1) [] [] a2) "__init__" a3) [.Constant (.str msg) kd a4] [] a5) env = (do
      let ov ← attributeBase (.Call (.Name "super" a1) [] [] a2) "__init__" env (eval (.Call (.Name "super" a1) [] [] a2) env)
      standAt a3.atName
      let (f, first) ← holding [ov] (getMethod ov "__init__" (pl env))
      callWith a5 f first (backTo a5 (starEach [.Constant (.str msg) kd a4] env)) []))
    (he : h.get? e = some oe) (hec : oe.cls = .ref C) (hed : oe.dict = none) (hef : oe.data = .fields vs) (h0 : vs[0]? = some (.ref t0))
    (hq : ∀ h' t' dx T, h'.get? e = some { cls := .ref C, dict := some dx, data := .fields (vs.setIfInBounds 0 (.ref T)), slots := oe.slots } → h.objs.size ≤ dx → h'.Ns1 dx (fun y => if y = fld then some u else none) → (∀ b o, b ≠ e → h.get? b = some o → h'.get? b = some o) → R (.ok (.ret .none)) ⟨h', g, d, t', os⟩) :
    codeAny (model prog w) A (.call (.ref f) ⟨[.ref e, u], []⟩) R ⟨h, g, d, t, os⟩ := by
  have X : K.In h := B.kin.keeps kb
  refine ks_codeAny_call_defAt (s := ⟨h, g, d, t, os⟩) (binds := [(("self" : Str), .ref e), (par, u)]) hroom (X _ _ lk) rfl (B.nolimit.keeps kb) (codeRec_of X hcd) rfl (.of_eq hbind) S.nc (fun y hy => ?_) (fun h₀ hn k0 => ?_) S.co S.ge S.ki
  · simp only [List.mem_cons, List.mem_nil_iff, or_false] at hy
    rcases hy with rfl | rfl
    · exact S.se
    · exact S.pa
  have kb0 : ∀ b o, base.get? b = some o → h₀.get? b = some o := fun b o z => k0 _ _ (kb _ _ z)
  have X0 : K.In h₀ := B.kin.keeps kb0
  have e0 := k0 _ _ he
  have ms : (fun x => ([("self", .ref e), (par, u)] : List (Str × Value)).reverse.lookup x) ("self" : Str) = some (.ref e) := by
    show ([(par, u), ("self", .ref e)] : List (Str × Value)).lookup ("self" : Str) = _
    rw [List.lookup_cons, S.ns]; rfl
  have mp : (fun x => ([("self", .ref e), (par, u)] : List (Str × Value)).reverse.lookup x) par = some u := by
    show ([(par, u), ("self", .ref e)] : List (Str × Value)).lookup par = _
    rw [List.lookup_cons, beq_self_eq_true]
  obtain ⟨mb, hb1, hb2⟩ := B.blt
  obtain ⟨nmC, qnC, NC, bsC, bmC, snC, subC, abC, colC, ddC, k0C, k1C, k2C, k3C, k5C, mNC, hC, _, _, _⟩ := (xc_at X0 q).out
  have nfe : ∀ c, oe.data ≠ .cls c := fun c z => by rw [hef] at z; cases z
  have neC : e ≠ C := fun z => by
    subst z
    rw [e0] at hC; cases hC
    cases hef
  subst hb
  dsimp only
  generalize hE : (fun (e : Value) (s' : Shared) => wpAny (model prog w) _ (leaving _ e) (fun _ s'' => R (Except.error e) s'') (fun e' s'' => R (Except.error e') s'') s') = EX
  refine ks_wpAt_execs_cons ?_
  refine ks_wpAt_Expr_any ?_ (by show (sc.kind == .module && _) = false; rw [S.ki]; rfl) rfl
  refine ks_wpAt_MethodCall ?_ (hev _)
  refine ks_wpAt_super_base (env := ksEnv qual sc h.objs.size f (.ref cda) cc) (file := file) (tf := tf) S.su S.cl (by decide +kernel) rfl (X0 _ _ lk) rfl hp rfl (X0 _ _ hcode) rfl hvs hfile htop ?_
  refine ks_loadName_global S.ki S.su (Calls.loadGlobal_builtin (B.glob.keeps kb0) hsu (hb1.keeps kb0) ((hb2 _ (by decide +kernel)).trans hboot) ⟨rfl, ?_⟩)
  refine wpAny_loadName_free S.ki S.cl rfl ⟨_, X0 _ _ hcell, rfl⟩ ?_
  rw [har]
  refine wpAny_loadName_local S.ki S.se hn ms ?_
  refine ks_wpAny_isType_cls hC rfl ⟨rfl, ?_⟩
  refine ks_wpAny_call_super hC rfl e0 hec nfe (x1.subs X0 (by simp)) (fun h1 hso k1 => ?_)
  have kb1 : ∀ b o, base.get? b = some o → h1.get? b = some o := fun b o z => k1 _ _ (kb0 _ _ z)
  have X1 : K.In h1 := B.kin.keeps kb1
  have e1 := k1 _ _ e0
  have inst : Looks (model prog w) h1 (isInstance (.ref e) (.type "ValueError")) true := by
    unfold isInstance
    refine (looks_cls e1).andThen ?_
    rw [hec]
    exact x1.subs X1 (by simp [bmV])
  refine xs_getm (l := .ref LE :: bmV) hso (looks_opaque X1 x1.opq) (x1.mroL X1) (by simp [List.dropWhile]) X1 x1.ini neC inst ?_
  generalize hmo : ({ cls := .type "method-wrapper", data := .fields #[.builtin "ValueError.__init__", .ref e] } : Obj) = mo
  have m2 : (h1.push mo).get? h1.objs.size = some mo := Heap.get?_push_size _ (by rw [← hmo]; rfl)
  have k2 : ∀ b o, h.get? b = some o → (h1.push mo).get? b = some o := fun b o z => Heap.get?_push_of_some _ (k1 _ _ (k0 _ _ z))
  have e2 := k2 _ _ he
  have X2 : K.In (h1.push mo) := B.kin.keeps fun b o z => Heap.get?_push_of_some _ (kb1 _ _ z)
  refine callWith_mw (mw := h1.objs.size) (fn := .builtin "ValueError.__init__") (x := .ref e) (by rw [hmo]; exact m2) fun tk => ?_
  refine xs_run (by rw [hmo]; exact m2) (xc_at X2 q) hec e2 hef h0 fun h3 T zT z1 z2 => ?_
  have kb3 : ∀ b o, base.get? b = some o → h3.get? b = some o := fun b o z => z2 _ _ (fun y => by rw [y, nb] at z; cases z) (Heap.get?_push_of_some _ (kb1 _ _ z))
  have X3 : K.In h3 := B.kin.keeps kb3
  have hn3 : h3.Ns h.objs.size (fun x => ([("self", .ref e), (par, u)] : List (Str × Value)).reverse.lookup x) := by
    obtain ⟨o, es, ep, ho, r⟩ := hn
    refine ⟨o, es, ep, z2 _ _ (fun y => ?_) (Heap.get?_push_of_some _ (k1 _ _ ho)), r⟩
    have z := Heap.lt_size he
    rw [← y] at z
    exact absurd z (Nat.lt_irrefl _)
  show PySem.wpAt _ _ _ (execs [.Assign [.Attribute (.Name "self" b1) fld b2] (.Name par b3) b4] _) _ _ _
  refine ks_wpAt_execs_cons (ks_wpAt_Assign_Attr (wpAt_of_wpAny (wpAny_Name (wpAny_loadName_local S.ki S.pa hn3 mp ?_) S.db)) rfl)
  refine wpAny_Name (wpAny_loadName_local S.ki S.se hn3 ms ?_) (by decide +kernel)
  have dm := Obj.data_mapFields hef (·.setIfInBounds 0 (Value.ref T))
  refine xs_set (x1.store X3 q) z1 ((Obj.cls_mapFields _ _).trans hec) ((dict_mapF _ _).trans hed) dm fun h4 t4 dx y1 y2 y3 y4 => ?_
  refine wpAt_of_wpAny (wpAny_execs_nil ?_)
  have y2' : h4.get? e = some { cls := .ref C, dict := some dx, data := .fields (vs.setIfInBounds 0 (.ref T)), slots := oe.slots } := by
    rw [y2, Obj.cls_mapFields, hec, dm]
    obtain ⟨oc', od', odt', osl'⟩ := oe
    cases odt' <;> rfl
  exact hq h4 t4 dx T y2' (Nat.le_trans (Nat.le_of_lt hn3.lt) y1) y3 fun b o nb' z => y4 _ _ nb' (z2 _ _ nb' (k2 _ _ z))
end
end L2

set_option maxRecDepth 100000
namespace L2
open PySem PySem.Spec PyProof.Rows PySem.W
section
variable {prog : Program} {w : World} {A : Around} {E : Value → Shared → Prop} {h : Heap} {g : Array GenState} {d : Drawn} {t : Nat} {os : OsState} {C fI : Addr} {oI : Obj} {u : Value}
theorem xs_tcall {Q : Fin → Shared → Prop} (xa : XAt h C (some (.ref fI))) (hf : h.get? fI = some oI) (hfc : oI.cls = .type "function")
    (hq : ∀ h' e, Heap.MadeExcOf h h' e (.ref C) [u] → wpAny (model prog w) A (call (.ref fI) [.ref e, u]) (fun r s' => r = .none ∧ Q (.done (.ret (.ref e))) s') E ⟨h', g, d, t, os⟩) :
    wpAny (model prog w) A (Builtin.«type.__call__» ⟨[.ref C, u], []⟩) Q E ⟨h, g, d, t, os⟩ := by
  obtain ⟨nm, qn, N, bs, bm, sn, sub, ab, col, dd, k0, k1, k2, k3, k5, mN, hC, hN, hi, T⟩ := xa.out
  have F := PySem.F.excBase_ValueError
  repeat (first | with_reducible refine wpAny_loadPart_at hC ?_ | with_reducible refine wpAny_madeBy_exc hC ?_ | wp_step)
  refine codeAny_call_builtin_code (Code.quiet_builtin _ F.quiet) (wpAny_check_new_subU F (by decide +kernel) T hC ?_)
  refine codeAny_exc_new_subU (rest := [u]) F (by decide +kernel) F T hC ?_ (by show 1 ≤ sizeLine; decide)
  show wpAny _ _ _ _ _ _
  generalize hh : (h.push { cls := .type "tuple", data := .seq [u].toArray }).push { cls := .ref C, data := .fields #[.ref h.objs.size, .none, .none, .none, .bool false, .none] } = h2
  have up : ∀ b o, h.get? b = some o → h2.get? b = some o := fun b o z => by rw [← hh]; exact Heap.get?_push_of_some _ (Heap.get?_push_of_some _ z)
  have ge : h2.get? (h.objs.size + 1) = some { cls := .ref C, data := .fields #[.ref h.objs.size, .none, .none, .none, .bool false, .none] } := by rw [← hh]; heap_get
  have gt : h2.get? h.objs.size = some { cls := .type "tuple", data := .seq [u].toArray } := by rw [← hh]; exact Heap.get?_push_of_some _ (Heap.get?_push_at rfl rfl)
  have cC : (Value.ref C :: bm).contains (.ref C) = true := by simp
  have C2 := up _ _ hC
  unfold isInstance
  repeat (first | with_reducible refine wpAny_loadPart_at ge ?_ | (with_reducible refine wpAny_isSubtype_exc C2 ?_; rw [cC]) | wp_step)
  show wpAny _ _ (typeLookup (.ref C) _) _ _ _
  refine wpAny_typeLookup_tail C2 (hN.keeps up) (T.keeps up) F.mroIs F.init.lookup ?_
  rw [hi]
  refine wpAny_holding (wpAny_bind ?_)
  unfold bindSpecial
  refine wpAny_bind (wpAny_typeOf (T := "function") ⟨_, up _ _ hf, hfc⟩ ?_)
  rw [if_pos (by decide)]
  refine wpAny_pure (wpAny_bind (wpAny_mono (hq h2 (h.objs.size + 1) ⟨up, Heap.get?_none_of_le (Nat.le_succ _), h.objs.size, ge, Heap.get?_none_of_le (Nat.le_refl _), gt⟩) (fun r s' z => ?_) fun _ _ z => z))
  obtain ⟨rfl, z⟩ := z
  wp_walk
  exact z
theorem xs_call {Q : Value → Shared → Prop} (xa : XAt h C (some (.ref fI))) (hf : h.get? fI = some oI) (hfc : oI.cls = .type "function")
    (hq : ∀ h' e, Heap.MadeExcOf h h' e (.ref C) [u] → wpAny (model prog w) (A.under (.builtin "type.__call__" ⟨[.ref C, u], []⟩)) (call (.ref fI) [.ref e, u]) (fun r s' => r = .none ∧ Q (.ref e) s') E ⟨h', g, d, t, os⟩) :
    wpAny (model prog w) A (call (.ref C) [u]) Q E ⟨h, g, d, t, os⟩ := by
  obtain ⟨nm, qn, N, bs, bm, sn, sub, ab, col, dd, k0, k1, k2, k3, k5, mN, hC, _, _, _⟩ := xa.out
  have f1 := tc_lookup
  have f2 := tc_bind (.ref C)
  have ty : (⟨h, g, d, t, os⟩ : Shared).TypeIs (.ref C) "type" := ⟨_, hC, rfl⟩
  refine wpAny_call (codeAny_of_tree ?_)
  show wpAny _ _ (callAny (.ref C) _) _ _ _
  repeat (any_goals (first | assumption | with_reducible refine wpAny_loadPart_at hC ?_ | wp_step))
  refine ⟨rfl, ?_⟩
  exact codeAny_call_builtin_at (Code.quiet_builtin _ (by decide +kernel)) entry_typeCall (wpAny_check_type_call_sub hC (xs_tcall xa hf hfc fun h' e me => hq h' e me))
end
end L2

set_option maxRecDepth 100000
namespace L2
open PySem PySem.Spec PyProof.Rows PySem.W
/-- an own exception with __init__(self, par) that calls super's and stores par under fld -/
structure XIni (prog : Program) (K : Frag) (C LE fI : Addr) (fld : Str) : Prop where
  x1 : XK1 K C LE fld
  xc : xcIn K C (some (.ref fI)) = true
  kp : keepIn K (.ref C) = true
  su : nsIn K mainGlobals "super" = some none
  top : (prog.main.scope.names.lookup ("super" : Str)).isSome = false
  ex : ∃ (nm qual par msg file : Str) (ps : Arguments) (body : List Stmt) (sc : Scope) (kV doc pm ct ccl cl : Value) (an od cdd cld : Option Addr) (osl ccs csl : Array (Option Value)) (cvs : Array Value) (tf : Tok) (ar : Arg) (cda cc : Addr)
    (a1 a2 a3 a4 a5 a6 b1 b2 b3 b4 : Pos) (kd : Nat) (pl : Env → Sem Bool),
    K.lookup fI = some ⟨.type "function", od, .func (ksFn nm qual ps body sc .none kV doc pm an (.ref cda) ct cc), osl⟩ ∧ codeIn K (.ref cda) qual = true ∧ K.lookup cda = some ⟨ccl, cdd, .fields cvs, ccs⟩ ∧ cvs[2]? = some (.str file tf) ∧ ((prog.main.file : Str) == file) = true ∧
    K.lookup cc = some ⟨cl, cld, .cell (some (.ref C)), csl⟩ ∧ ISc sc par ∧ (ps.posonlyargs ++ ps.args).head? = some ar ∧ ar.arg = "self" ∧ (∀ e u : Value, bindArgs (ksFn nm qual ps body sc .none kV doc pm an (.ref cda) ct cc) ⟨[e, u], []⟩ = pure [(("self" : Str), e), (par, u)]) ∧
    body = [.Expr (.Call (.Attribute (.Call (.Name "super" a1) [] [] a2) "__init__" a3) [.Constant (.str msg) kd a4] [] a5) a6, .Assign [.Attribute (.Name "self" b1) fld b2] (.Name par b3) b4] ∧
    ∀ env, eval (.Call (.Attribute (.Call (.Name "super" a1) [] [] a2) "__init__" a3) [.Constant (.str msg) kd a4] [] a5) env = (do
      let ov ← attributeBase (.Call (.Name "super" a1) [] [] a2) "__init__" env (eval (.Call (.Name "super" a1) [] [] a2) env)
      standAt a3.atName
      let (f, first) ← holding [ov] (getMethod ov "__init__" (pl env))
      callWith a5 f first (backTo a5 (starEach [.Constant (.str msg) kd a4] env)) [])
def tRaise1 (C : Addr) (fld : Str) (XR : St → XK) (t : TA) : TS := fun _ σ H => t σ H fun vs H1 => ∃ v, vs = [v] ∧ ∀ dx, H1 dx = none → XR σ (.ref C) (some dx) (upd H1 dx (.xd [(fld, v)]))
section
variable {X : Cx} {C LE fI : Addr} {fld x : Str} {XR : St → XK} {np cpos pos : Pos} {e : Expr} {t : TA}
theorem qs_raise1 (hx : Px X XR) (hc : X.calm = true) (hr : Room 2 X.A) (hg : Gl X x) (hm : X.mg x = some (.ref C)) (Z : XIni X.prog X.K C LE fI fld) (ha : PAs X [e] t) (hst : notStar e = true) (hdb : (x == ("__debug__" : Str)) = false) :
    PSw X (.Raise (some (.Call (.Name x np) [e] [] cpos)) none pos) (tRaise1 C fld XR t) := by
  refine ⟨fun pins s σ H D I h => ?_⟩
  rw [arm_exec_Raise]
  simp only [evalOpt, Option.map]
  refine wpAny_bind (wpAny_standAt (raise_made (C := C) (init := some (.ref fI)) (I.ok.hd hc) ?_))
  refine wpAny_bind (wpAny_mono (Q := fun v s₁ => ∃ e oe vs, v = .ref e ∧ XAt s₁.heap C (some (.ref fI)) ∧ s₁.heap.get? e = some oe ∧ oe.cls = .ref C ∧ oe.data = .fields vs ∧ vs[1]? = some .none ∧ X.xe (.ref e) s₁) ?_ (fun v s₃ h₃ => wpAny_bind (wpAny_standAt (wpAny_pure h₃))) fun _ _ z => z)
  refine wpAny_Call_Name_kw (ld_glob I hg hm ?_ hdb)
  refine callWith_K (h₀ := X.base) I.ok.mod.kin Z.kp (thn (ha.run cpos pins s σ H _ I h) fun us s1 ⟨vs, H1, I1, r, v, hv, q⟩ => ⟨I1.kIn, ?_⟩) (star_ne hst) rfl
  subst hv
  obtain ⟨u, rfl, rv⟩ : ∃ u, us = [u] ∧ RelV v u := by
    cases r with
    | cons a b => cases b; exact ⟨_, rfl, a⟩
  obtain ⟨nm, qual, par, msg, file, ps, body, sc, kV, doc, pm, ct, ccl, cl, an, od, cdd, cld, osl, ccs, csl, cvs, tf, ar, cda, cc, a1, a2, a3, a4, a5, a6, b1, b2, b3, b4, kd, pl, z1, z2, z3, z4, z5, z6, z7, z8, z9, z10, z11, z12⟩ := Z.ex
  obtain ⟨hh, g, d, t1, os⟩ := s1
  have hk : ∀ b o, X.base.get? b = some o → hh.get? b = some o := I1.bk
  refine xs_call (xc_at I1.kIn Z.xc) (I1.kIn _ _ z1) rfl fun h1 e1 me => ?_
  obtain ⟨tp, q1, q2, q3⟩ := me.there
  have nb : X.base.get? e1 = none := by
    cases zz : X.base.get? e1 with
    | none => rfl
    | some o => have := hk _ _ zz; rw [me.new] at this; cases this
  have hsu : X.mg "super" = none := mg_none_of I1.ok.mod.kin I1.ok.mod.glob Z.su
  refine wpAny_call (codeAny_mono (R := fun r s' => r = .ok (.ret .none) ∧ ∃ e oe vs, Value.ref e1 = .ref e ∧ XAt s'.heap C (some (.ref fI)) ∧ s'.heap.get? e = some oe ∧ oe.cls = .ref C ∧ oe.data = .fields vs ∧ vs[1]? = some .none ∧ X.xe (.ref e) s') (xs_init (base := X.base) (par := par) (fld := fld) (LE := LE) (C := C) I1.ok.mod (fun b o z => me.keeps _ _ (hk _ _ z)) nb Z.x1 Z.xc (hr.make C [u] []).depth z1 z2 z3 z4 z5 z6 hsu Z.top (by decide +kernel) z7 z8 z9 (z10 _ _) z11 z12 q1 rfl rfl rfl rfl fun h2 t2 dx T y1 y2 y3 y4 => ⟨rfl, e1, _, _, rfl, ?_, y1, rfl, rfl, rfl, ?_⟩) ?_)
  · exact (xc_at I1.kIn Z.xc).keeps fun b o z => y4 _ _ (fun y => by rw [y] at z; rw [me.new] at z; cases z) (me.keeps _ _ z)
  · have kk : ∀ b o, hh.get? b = some o → h2.get? b = some o := fun b o z => y4 _ _ (fun y => by rw [y, me.new] at z; cases z) (me.keeps _ _ z)
    have d1 : h1.get? dx = none := Heap.get?_none_of_le y2
    have d0 : hh.get? dx = none := by
      cases zz : hh.get? dx with
      | none => rfl
      | some o => have := me.keeps _ _ zz; rw [d1] at this; cases this
    have Hd : H1 dx = none := I1.hok.none d0
    have He : H1 e1 = none := I1.hok.none me.new
    have ed : e1 ≠ dx := fun y => by rw [← y, q1] at d1; cases d1
    have ne : ∀ b o, H1 b = some o → b ≠ dx := fun b o z y => by rw [y, Hd] at z; cases z
    have hun : Un (frs X.stack) [] H1 (upd H1 dx (.xd [(fld, v)])) hh h2 := by
      refine ⟨fun b o z _ _ _ => kk b o z, fun b o z _ _ _ => ⟨o.slots, kk b o z⟩, fun b o z n _ => ?_, fun b o z _ => ⟨o, kk b o z⟩, fun b xs z => ?_, fun b o xs z => ?_, fun b ps z => ⟨#[], ?_⟩⟩
      · rw [upd_ne (fun y => by rw [y, d0] at z; cases z)]; exact n
      · rw [upd_ne (ne _ _ z)]; exact z
      · rw [upd_ne (ne _ _ z)]; exact z
      · rw [upd_ne (ne _ _ z), z]; simp
    have hho : HOk X.prog X.w (upd H1 dx (.xd [(fld, v)])) h2 := fun b o z => by
      by_cases hb : b = dx
      · subst hb
        rw [upd_same] at z
        cases z
        refine ⟨_, y3, fun f => ?_⟩
        show RelO (([(fld, v)] : List (Str × V)).lookup f) _
        rw [List.lookup_cons]
        by_cases hf : f = fld
        · subst hf; simp only [beq_self_eq_true, if_true]; exact rv
        · have : (f == fld) = false := by simpa using hf
          rw [this, if_neg hf]; exact trivial
      · rw [upd_ne hb] at z
        exact (I1.hok b o z).stay (fun c w' _ y => kk c w' y) (fun c y => by rw [upd_ne (ne _ _ y)]; exact y) fun c xs y => by rw [upd_ne (ne _ _ y)]; exact y
    exact hx pins σ H1 ⟨hh, g, d, t1, os⟩ (.ref e1) ⟨h2, g, d, t2, os⟩ I1 ⟨e1, .ref C, some dx, _, rfl, rfl, I1.bare, hun, hho, ⟨me.new, by rw [upd_ne ed]; exact He⟩, ⟨_, _, y1, rfl, rfl, rfl, by simp, .inl ⟨rfl, rfl⟩⟩, q dx Hd⟩
  · rintro _ s' ⟨rfl, z⟩
    exact ⟨rfl, z⟩
end
end L2

set_option maxRecDepth 100000
namespace L2
open PySem PySem.Spec PyProof.Rows PySem.W
section
variable {prog : Program} {w : World} {A : Around} {E : Value → Shared → Prop} {h : Heap} {g : Array GenState} {d : Drawn} {t : Nat} {os : OsState} {a C LE dx : Addr} {o : Obj} {vs : Array Value} {name : Str} {v : Value} {mA : Str → Option Value}
theorem ld_at {M : Model} {Q : Obj → Shared → Prop} (ho : h.get? a = some o) (hq : Q o ⟨h, g, d, t, os⟩) : wpAny M A (load a) Q E ⟨h, g, d, t, os⟩ := wpAny_load ho hq
theorem nsg_at {M : Model} {Q : Option Value → Shared → Prop} (hn : h.Ns1 dx mA) (hm : mA name = some v) (hq : Q (some v) ⟨h, g, d, t, os⟩) : wpAny M A (nsGet dx name) Q E ⟨h, g, d, t, os⟩ := wpAny_nsGet hn.ns (by rw [hm]; exact hq)
theorem xa_entry {init : Option Value} {tk : Tok} {Q : Fin → Shared → Prop} (xa : XAt h C init) (no : Looks (model prog w) h (typeLookup (.ref C) name) none) (hx : h.get? a = some o) (hc : o.cls = .ref C) (hd : o.data = .fields vs) (hdx : o.dict = some dx) (hn : h.Ns1 dx mA) (hm : mA name = some v)
    (hq : Q (.done (.ret v)) ⟨h, g, d, t, os⟩) : wpAny (model prog w) A (Builtin.«object.__getattribute__» ⟨[.ref a, .str name tk], []⟩) Q E ⟨h, g, d, t, os⟩ := by
  obtain ⟨oc, od, odt, osl⟩ := o
  dsimp only at hc hd hdx
  subst hc hd hdx
  obtain ⟨nm, qn, N, bs, bm, sn, sub, ab, col, dd, k0, k1, k2, k3, k5, mN, hC, _, _, _⟩ := xa.out
  repeat (any_goals (first | assumption | (with_reducible refine wpAny_loadPart_at hx ?_) | (with_reducible refine ld_at hC ?_) | (with_reducible refine nsg_at hn hm ?_) | (with_reducible refine Looks.at no ?_) | wp_step))
/-- what an own exception's class says of attributes -/
structure GetAt (M : Model) (h : Heap) (C : Addr) : Prop where
  ga : Looks M h (typeLookup (.ref C) "__getattribute__") (some (.builtin "BaseException.__getattribute__"))
  gn : Looks M h (typeLookup (.ref C) "__getattr__") none
  be : Looks M h (isSubtype (.ref C) (.type "BaseException")) true
  ob : Looks M h (isSubtype (.ref C) (.type "object")) true
  kc : Looks M h (typeLookup (.ref C) "__class__") (some (.builtin "object.__class__"))
theorem xa_chk {M : Model} {n : Value} {Q : Unit → Shared → Prop} (G : GetAt M h C) (hx : h.get? a = some o) (hc : o.cls = .ref C) (hq : Q () ⟨h, g, d, t, os⟩) : wpAny M A (checkBuiltinCall "BaseException.__getattribute__" ⟨[.ref a, n], []⟩) Q E ⟨h, g, d, t, os⟩ := by
  have kd : builtinKind "BaseException.__getattribute__" = some .slot := by decide +kernel
  have sp : splitId "BaseException.__getattribute__" = some ("BaseException", "__getattribute__") := by decide +kernel
  have be := G.be
  simp only [checkBuiltinCall, kd, sp]
  refine wpAny_bind ?_
  unfold isInstance
  repeat (first | (with_reducible refine wpAny_loadPart_at hx ?_; rw [hc]) | (with_reducible refine Looks.at be ?_) | wp_step)
  exact hq
theorem xa_by {tk : Tok} {fill expr : Bool} {Q : Value → Shared → Prop} (hv : handedOut v = pure v) (G : GetAt (model prog w) h C) (hx : h.get? a = some o) (hc : o.cls = .ref C)
    (hq : ∀ A', codeAny (model prog w) A' (.call (.builtin "BaseException.__getattribute__") ⟨[.ref a, .str name tk], []⟩) (fun r s' => r = .ok (.ret v) ∧ Q v s') ⟨h, g, d, t, os⟩) :
    wpAny (model prog w) A (getAttrBy (.ref a) (.str name tk) fill expr) Q E ⟨h, g, d, t, os⟩ := by
  have FB := PySem.F.attr_ValueError
  have f3 := FB.ga.bind (.ref a)
  have z0 : (expr && onTheHeap (Value.builtin "BaseException.__getattribute__")) = false := by cases expr <;> rfl
  have z2 : (Value.builtin "BaseException.__getattribute__" == Value.builtin "object.__getattribute__") = false := by decide +kernel
  have z1 : (onTheHeap (Value.ref C) && Value.builtin "BaseException.__getattribute__" == Value.builtin "object.__getattribute__") = false := by rw [z2]; rfl
  have ga := G.ga
  have gn := G.gn
  repeat (any_goals (first | assumption | (with_reducible refine wpAny_loadPart_at hx ?_; rw [hc]) | (with_reducible refine Looks.at ga ?_) | (with_reducible refine Looks.at gn ?_) | wp_step))
  refine codeAny_mono (hq _) fun r s' ⟨z, q⟩ => ?_
  subst z
  show wpAny _ _ (handedOut v) _ _ _
  rw [hv]
  exact wpAny_pure q
theorem xa_fld {init : Option Value} {expr : Bool} {Q : Value → Shared → Prop} (hv : handedOut v = pure v) (G : GetAt (model prog w) h C) (xa : XAt h C init) (no : Looks (model prog w) h (typeLookup (.ref C) name) none) (hx : h.get? a = some o) (hc : o.cls = .ref C) (hd : o.data = .fields vs) (hdx : o.dict = some dx) (hn : h.Ns1 dx mA) (hm : mA name = some v)
    (hq : Q v ⟨h, g, d, t + 1, os⟩) : wpAny (model prog w) A (getAttr (.ref a) name expr) Q E ⟨h, g, d, t, os⟩ := by
  unfold getAttr
  refine wpAny_bind (wpAny_mkText ?_)
  refine xa_by (v := v) hv G hx hc fun A' => ?_
  exact codeAny_call_builtin PySem.F.attr_ValueError.ga.plain PySem.F.entry_bexc_ga (xa_chk G hx hc (xa_entry xa no hx hc hd hdx hn hm ⟨rfl, hq⟩))
theorem xa_ce {tk : Tok} {Q : Fin → Shared → Prop} (G : GetAt (model prog w) h C) (hx : h.get? a = some o) (hc : o.cls = .ref C) (hd : o.data = .fields vs)
    (hq : Q (.done (.ret (.ref C))) ⟨h, g, d, t, os⟩) : wpAny (model prog w) A (Builtin.«object.__getattribute__» ⟨[.ref a, .str "__class__" tk], []⟩) Q E ⟨h, g, d, t, os⟩ := by
  have ty : (⟨h, g, d, t, os⟩ : Shared).TypeIs (.builtin "object.__class__") "getset_descriptor" := PySem.F.typeOf_object_class
  have f5 := PySem.F.typeOf_object_class
  have f6 := PySem.F.slot_gs_get.lookup
  have f7 := PySem.F.slot_gs_set.lookup
  have kc := G.kc
  repeat (any_goals (first | assumption | (with_reducible refine wpAny_loadPart_at hx ?_; rw [hc]) | (with_reducible refine Looks.at kc ?_) | wp_step))
  have ow : (".".intercalate ("object.__class__".cutAt '.').dropLast) = "object" := by kernel_rfl
  have ob := G.ob
  rw [← ow] at ob
  refine codeAny_call_builtin PySem.F.slot_gs_get.plain PySem.F.entry_gs_get (PySem.F.slot_gs_get.check _ _ _ _ _ _ _ _ ty (PySem.F.args_gs_get _ _ _) ?_)
  repeat (any_goals (first | assumption | (with_reducible refine wpAny_loadPart_at hx ?_; rw [hc]) | (with_reducible refine Looks.at ob ?_) | wp_step))
  refine ⟨Code.quiet_builtin _ (by decide +kernel), codeAny_builtin PySem.F.entry_object_class ?_⟩
  unfold Builtin.«object.__class__»
  repeat (any_goals (first | assumption | (with_reducible refine wpAny_loadPart_at hx ?_; rw [hc]) | wp_step))
theorem xa_cls {Q : Option Value → Shared → Prop} (G : GetAt (model prog w) h C) (hx : h.get? a = some o) (hc : o.cls = .ref C) (hd : o.data = .fields vs) (hq : Q (some (.ref C)) ⟨h, g, d, t + 1, os⟩) :
    wpAny (model prog w) A (getAttr? (.ref a) "__class__") Q E ⟨h, g, d, t, os⟩ := by
  unfold getAttr? getAttrBy?
  refine wpAny_bind (wpAny_mkText (wpAny_bind (wpAny_attempt ?_)))
  refine xa_by (v := .ref C) rfl G hx hc fun A' => ?_
  exact codeAny_call_builtin PySem.F.attr_ValueError.ga.plain PySem.F.entry_bexc_ga (xa_chk G hx hc (xa_ce G hx hc hd ⟨rfl, wpAny_pure hq⟩))
end
end L2

set_option maxRecDepth 100000
namespace L2
open PySem PySem.Spec PyProof.Rows PySem.W
/-- an own exception's class, as K knows it: what attributes are read by -/
structure XG (K : Frag) (C : Addr) : Prop where
  cl : ∃ cd, clsIn K C = some cd
  ga : findIn K (.ref C) "__getattribute__" = some (some (.builtin "BaseException.__getattribute__"))
  gn : findIn K (.ref C) "__getattr__" = some none
  kc : findIn K (.ref C) "__class__" = some (some (.builtin "object.__class__"))
  be : mroIn K C (.type "BaseException") = some true
  ob : mroIn K C (.type "object") = some true
theorem XG.at_ {K : Frag} {C : Addr} {M : Model} {h : Heap} (x : XG K C) (X : K.In h) : GetAt M h C := ⟨looks_findIn X x.ga, looks_findIn X x.gn, looks_mroIn X x.be, looks_mroIn X x.ob, looks_findIn X x.kc⟩
theorem kitx_exc {K : Frag} {a C : Addr} {dx : Option Addr} (x : XG K C) : KitX K (.ref a) (.ref C) (ExcIs a (.ref C) dx) where
  ty := fun M h X ⟨oe, vs, q, c, _⟩ => by rw [← c]; exact looks_cls q
  it := fun M h X _ => by
    obtain ⟨cd, e⟩ := x.cl
    unfold clsIn at e
    split at e
    · rename_i ho
      intro A' Q' E' s' k q
      unfold isType loadHead
      exact wpAny_bind (wpAny_loadPart (k _ _ (X _ _ ho)) (wpAny_pure q))
    · cases e
  ne := fun h tp dd its n sl X htp => by
    obtain ⟨cd, e⟩ := x.cl
    refine Bool.eq_false_iff.mpr fun q => ?_
    have z : C = tp := Value.ref.inj (beq_iff_eq.mp q)
    subst z
    unfold clsIn at e
    split at e
    · rename_i ho
      have z := (X _ _ ho).symm.trans htp
      cases z
    · cases e
  ca := fun {_ _ _ _ _ s} X ⟨oe, vs, q, c, _, f⟩ k => by
    obtain ⟨h, g, d, t, os⟩ := s
    exact xa_cls (x.at_ X) q c f k
/-- the type of a value, with own exceptions -/
inductive TyX (K : Frag) (H : Hp) : V → Value → Prop
  | std {x : V} {T : String} (h : TyS K H x T) : TyX K H x (.type T)
  | exc {a C : Addr} {dx : Option Addr} (h : H a = some (.ext (ExcIs a (.ref C) dx))) (g : XG K C) : TyX K H (.ref a) (.ref C)
def cV : V → Option Value
  | .ty n => some (.type n)
  | .ref C => some (.ref C)
  | _ => none
def rIsiX (K : Frag) : List V → Hp → VK → Prop := fun xs H Q => ∃ x c tv cv b, xs = [x, c] ∧ TyX K H x tv ∧ cV c = some cv ∧ kitOne K tv cv = some b ∧ Q (.bl b) H
section
variable {X : Cx}
theorem cn_isiX : CallR X (.builtin "isinstance") (rIsiX X.K) := by
  intro pins s σ H xs us Q I r h
  obtain ⟨x, c, tv, cv, b, rfl, ty, hc, e, q⟩ := h
  obtain ⟨u, w, rfl, ru, rw_⟩ := vals2 r
  obtain rfl : w = cv := by
    cases c with
    | ty n => cases hc; exact rw_
    | ref C => cases hc; exact rw_
    | _ => cases hc
  have fin : ∀ tk, EP X pins σ Q (.bool b) { s with toks := tk } := fun tk => ⟨.bl b, H, I.tok tk, rfl, q⟩
  cases ty with
  | std ty =>
    cases ty with
    | non => cases ru; exact kia_one kitx_none I.kIn True.intro e (fun z => nomatch z) fin
    | bl y => cases ru; exact kia_one kitx_bool I.kIn True.intro e (fun z => nomatch z) fin
    | int i => obtain ⟨t, rfl⟩ := ru; exact kia_one kitx_int I.kIn True.intro e (fun z => nomatch z) fin
    | str y => obtain ⟨t, rfl⟩ := ru; exact kia_one kitx_str I.kIn True.intro e (fun z => nomatch z) fin
    | lst hq =>
      cases ru
      obtain ⟨its, _, ⟨o, nn, e1, e2, _⟩, _⟩ := I.list hq
      exact kia_one kitx_list I.kIn ⟨o, e1, e2⟩ e (fun z => nomatch z) fin
    | tup hq =>
      cases ru
      obtain ⟨its, _, ⟨o, e1, e2, _⟩, _⟩ := I.tuple hq
      exact kia_one kitx_tuple I.kIn ⟨o, e1, e2⟩ e (fun z => nomatch z) fin
    | @dk a kvs hq =>
      cases ru
      obtain ⟨_, _, vs, _, o, es, ep, h1, h2, _⟩ := (show ObjOk X.prog X.w H s.heap a (.dK kvs) from I.hok a _ hq)
      exact kia_one kitx_dict I.kIn ⟨o, h1, h2.1⟩ e (fun z => nomatch z) fin
  | @exc a C dx hq g =>
    cases ru
    have z : ExcIs a (.ref C) dx s.heap := (I.hok a _ hq).1
    exact kia_one (kitx_exc g) I.kIn z e (fun z => nomatch z) fin
/-- e.f of a caught exception -/
def tXAt (K : Frag) (ta : TE) (f : Str) : TE := fun σ H Q => ta σ H fun x H1 => ∃ a C dx fs v init, x = .ref a ∧ H1 a = some (.ext (ExcIs a (.ref C) (some dx))) ∧ XG K C ∧ xcIn K C init = true ∧ findIn K (.ref C) f = some none ∧ H1 dx = some (.xd fs) ∧ fs.lookup f = some v ∧ Q v H1
variable {e : Expr} {ta : TE} {f : Str} {pos : Pos}
theorem handed_rel {v : V} {u : Value} (r : RelV v u) : handedOut u = pure u := by
  cases v with
  | non => cases r; rfl
  | bl b => cases r; rfl
  | int i => obtain ⟨t, rfl⟩ := r; rfl
  | str x => obtain ⟨t, rfl⟩ := r; rfl
  | byt b => obtain ⟨t, rfl⟩ := r; rfl
  | flt b => obtain ⟨t, rfl⟩ := r; rfl
  | ref a => cases r; rfl
  | ty n => cases r; rfl
theorem pe_xat (he : PE X e ta) (hb : attributeBase e f X.env (eval e X.env) = eval e X.env) : PE X (.Attribute e f pos) (tXAt X.K ta f) := by
  intro pins s σ H Q I h
  refine attr_of hb (thn (he pins s σ H _ I h) fun u s1 ⟨x, H1, I1, rx, a, C, dx, fs, v, init, ex, ea, g, xc, nf, ed, l, q⟩ => ?_)
  subst ex
  obtain rfl : u = Value.ref a := rx
  obtain ⟨oe, vs, q0, q1, q2, q3⟩ := (I1.hok a _ ea).1
  obtain ⟨mA, n1, rel⟩ : ∃ mA, s1.heap.Ns1 dx mA ∧ ∀ f, RelO (fs.lookup f) (mA f) := I1.hok dx _ ed
  have rf := rel f
  rw [l] at rf
  cases hm : mA f with
  | none => rw [hm] at rf; exact rf.elim
  | some uv =>
    rw [hm] at rf
    have rf' : RelV v uv := rf
    obtain ⟨hh, gg, d, t, os⟩ := s1
    exact xa_fld (handed_rel rf') (g.at_ I1.kIn) (xc_at I1.kIn xc) (looks_findIn I1.kIn nf) q0 q1 q3 q2 n1 hm ⟨v, H1, I1.tok _, rf', q⟩
end
end L2

set_option maxRecDepth 100000
namespace L2
open PySem PySem.Spec PyProof.Rows PySem.W
/-- the facts over K as truths -/
def xgIn (K : Frag) (C : Addr) : Bool := (clsIn K C).isSome && (findIn K (.ref C) "__getattribute__" == some (some (.builtin "BaseException.__getattribute__")) && (findIn K (.ref C) "__getattr__" == some none && (findIn K (.ref C) "__class__" == some (some (.builtin "object.__class__")) && (mroIn K C (.type "BaseException") == some true && mroIn K C (.type "object") == some true))))
theorem xg_of {K : Frag} {C : Addr} (h : xgIn K C = true) : XG K C := by
  unfold xgIn at h
  simp only [Bool.and_eq_true, beq_iff_eq] at h
  obtain ⟨a, b, c, d, e, f⟩ := h
  exact ⟨Option.isSome_iff_exists.mp a, b, c, d, e, f⟩
def xk1In (K : Frag) (C LE : Addr) (fld : Str) : Bool := (clsIn K C).map (·.mro) == some (.ref C :: .ref LE :: bmV) && (findIn K (.ref C) fld == some none && (findIn K (.ref C) "__setattr__" == some (some (.builtin "object.__setattr__")) && (alongIn K "__init__" (.ref LE :: bmV) == some (some (.builtin "ValueError.__init__")) && nsIn K cStatics "thirdparty.any" == some none)))
theorem xk1_of {K : Frag} {C LE : Addr} {fld : Str} (h : xk1In K C LE fld = true) : XK1 K C LE fld := by
  unfold xk1In at h
  simp only [Bool.and_eq_true, beq_iff_eq] at h
  obtain ⟨a, b, c, d, e⟩ := h
  exact ⟨a, b, c, d, e⟩
/-- the text of an own __init__ -/
structure IBody (st : Stmt) (fld par : Str) : Prop where
  sc : ISc (defScope st) par
  se : ∃ ar, ((defArgs st).posonlyargs ++ (defArgs st).args).head? = some ar ∧ ar.arg = "self"
  bd : ∀ (nm qual : Str) (kV doc pm : Value) (an : Option Addr) (cda : Value) (ct : Value) (cc : Addr) (e u : Value), bindArgs (ksFn nm qual (defArgs st) (defBody st) (defScope st) .none kV doc pm an cda ct cc) ⟨[e, u], []⟩ = pure [(("self" : Str), e), (par, u)]
  tx : ∃ (msg : Str) (a1 a2 a3 a4 a5 a6 b1 b2 b3 b4 : Pos) (kd : Nat) (pl : Env → Sem Bool), defBody st = [.Expr (.Call (.Attribute (.Call (.Name "super" a1) [] [] a2) "__init__" a3) [.Constant (.str msg) kd a4] [] a5) a6, .Assign [.Attribute (.Name "self" b1) fld b2] (.Name par b3) b4] ∧
    ∀ env, eval (.Call (.Attribute (.Call (.Name "super" a1) [] [] a2) "__init__" a3) [.Constant (.str msg) kd a4] [] a5) env = (do
      let ov ← attributeBase (.Call (.Name "super" a1) [] [] a2) "__init__" env (eval (.Call (.Name "super" a1) [] [] a2) env)
      standAt a3.atName
      let (f, first) ← holding [ov] (getMethod ov "__init__" (pl env))
      callWith a5 f first (backTo a5 (starEach [.Constant (.str msg) kd a4] env)) [])
theorem xini_mk {prog : Program} {K : Frag} {C LE fI cda cc : Addr} {fld par nm qual file : Str} {st : Stmt} {kV doc pm ct ccl cl : Value} {an od cdd cld : Option Addr} {osl ccs csl : Array (Option Value)} {cvs : Array Value} {tf : Tok}
    (T : IBody st fld par) (x1 : xk1In K C LE fld = true) (xc : xcIn K C (some (.ref fI)) = true) (kp : keepIn K (.ref C) = true) (su : nsIn K mainGlobals "super" = some none) (top : (prog.main.scope.names.lookup ("super" : Str)).isSome = false)
    (lk : K.lookup fI = some ⟨.type "function", od, .func (ksFn nm qual (defArgs st) (defBody st) (defScope st) .none kV doc pm an (.ref cda) ct cc), osl⟩) (cd : codeIn K (.ref cda) qual = true) (hcode : K.lookup cda = some ⟨ccl, cdd, .fields cvs, ccs⟩) (hvs : cvs[2]? = some (.str file tf)) (hfile : ((prog.main.file : Str) == file) = true)
    (hcell : K.lookup cc = some ⟨cl, cld, .cell (some (.ref C)), csl⟩) : XIni prog K C LE fI fld := by
  obtain ⟨ar, s1, s2⟩ := T.se
  obtain ⟨msg, a1, a2, a3, a4, a5, a6, b1, b2, b3, b4, kd, pl, t1, t2⟩ := T.tx
  exact ⟨xk1_of x1, xc, kp, su, top, nm, qual, par, msg, file, _, _, _, kV, doc, pm, ct, ccl, cl, an, od, cdd, cld, osl, ccs, csl, cvs, tf, ar, cda, cc, a1, a2, a3, a4, a5, a6, b1, b2, b3, b4, kd, pl, lk, cd, hcode, hvs, hfile, hcell, T.sc, s1, s2, T.bd nm qual kV doc pm an (.ref cda) ct cc, t1, t2⟩
/-! ### the words of the generator -/
theorem px0 {X : Cx} : Px X (fun _ => E0) := fun _ _ _ _ _ _ _ h => by
  obtain ⟨a, C, dx, H', _, _, _, _, _, _, _, q⟩ := h
  exact q.elim
section
variable {X : Cx} {b₀ : Stmt} {body suite : List Stmt} {c x : Str} {p hp pos : Pos} {B : Addr} {i : Nat} {tb : (St → XK) → TS} {ts : TS}
theorem qs_try (hN : X.N.Nodup) (hi : X.N[i]? = some x) (hx : X.env.scope.names.lookup x = some .local) (hg : Gl X c) (hm : X.mg c = some (.ref B)) (hst : X.stack = X.env :: X.outer) (hfr : X.env.frame = some X.env.locals) (hex : X.ex = [])
    (hb : ∀ (xe' : Value → Shared → Prop) (pn' : List (Addr × Obj)) (XR : St → XK), Px (X.tr xe' pn') XR → PSsw (X.tr xe' pn') body (tb XR)) (hs : ∀ e : Addr, PSsw (X.su e) (b₀ :: suite) ts) (hdb : (c == ("__debug__" : Str)) = false) :
    PSw X (.Try body [.ExceptHandler (some (.Name c p)) (some x) (b₀ :: suite) hp] [] [] pos) (tTry X.K B i tb ts) := ⟨ps_try hN hi hx hg hm hst hfr hex (fun xe' pn' XR h => (hb xe' pn' XR h).run) (fun e => (hs e).run) hdb⟩
end
/-! ### readings -/
section
variable {σ : St} {H : Hp} {D : Ends} {Q : VK}
theorem rd_callX {sp : Sp} {dvs : List V} {XR : St → XK} {t : TA} (h : t σ H fun vs H1 => sp (vs ++ dvs) H1 Q (XR σ)) : tCallX sp dvs XR t σ H Q := h
theorem rd_raise0 {C : Addr} {XR : St → XK} (h : XR σ (.ref C) none H) : tRaise0 C XR D σ H := h
theorem rd_raise1 {C : Addr} {fld : Str} {XR : St → XK} {t : TA} (h : t σ H fun vs H1 => ∃ v, vs = [v] ∧ ∀ dx, H1 dx = none → XR σ (.ref C) (some dx) (upd H1 dx (.xd [(fld, v)]))) : tRaise1 C fld XR t D σ H := h
theorem rd_try {K : Frag} {B : Addr} {i : Nat} {tb : (St → XK) → TS} {ts : TS}
    (h : tb (fun σ' C dx H' => exmOne K C (.ref B) = some true ∧ ∀ a, H' a = none → ts (D.un i) (σ'.set i (some (.ref a))) (upd H' a (.ext (ExcIs a C dx)))) D σ H) : tTry K B i tb ts D σ H := h
theorem rd_unx {i : Nat} (h : D.nx (σ.set i none) H) : (D.un i).nx σ H := h
theorem rd_xat {K : Frag} {ta : TE} {f : Str} (h : ta σ H fun x H1 => ∃ a C dx fs v init, x = .ref a ∧ H1 a = some (.ext (ExcIs a (.ref C) (some dx))) ∧ XG K C ∧ xcIn K C init = true ∧ findIn K (.ref C) f = some none ∧ H1 dx = some (.xd fs) ∧ fs.lookup f = some v ∧ Q v H1) : tXAt K ta f σ H Q := h
theorem rd_isiX {K : Frag} {x c : V} {tv cv : Value} {b : Bool} (ty : TyX K H x tv) (hc : cV c = some cv) (e : kitOne K tv cv = some b) (h : Q (.bl b) H) : rIsiX K [x, c] H Q := ⟨x, c, tv, cv, b, rfl, ty, hc, e, h⟩
end
end L2

set_option maxRecDepth 100000
namespace L2
open PySem PySem.Spec PyProof.Rows PySem.W
/-- the names of an own __init__(self) -/
structure ISc0 (sc : Scope) : Prop where
  su : sc.names.lookup ("super" : Str) = some .globalImplicit
  cl : sc.names.lookup ("__class__" : Str) = some .free
  se : sc.names.lookup ("self" : Str) = some .local
  nc : ∀ x ∈ sc.names, x.2 ≠ .cell
  co : sc.isCoroutine = false
  ge : sc.isGenerator = false
  ki : sc.kind = .function
section
variable {prog : Program} {w : World} {A : Around} {R : Result → Shared → Prop} {h : Heap} {g : Array GenState} {d : Drawn} {t : Nat} {os : OsState}
variable {K : Frag} {mg : Str → Option Value} {base : Heap} {f C LE e cda cc : Addr} {fld nm qual msg file : Str} {ps : Arguments} {body : List Stmt} {sc : Scope} {kV doc pm ct oc ccl cl : Value} {an od cdd cld : Option Addr} {osl ccs csl : Array (Option Value)} {cvs vs : Array Value} {tf : Tok} {init : Option Value} {oe : Obj} {t0 : Addr} {ar : Arg}
  {a1 a2 a3 a4 a5 a6 : Pos} {kd : Nat} {pl : Env → Sem Bool}
theorem xs_init0 (B : Mod K mg base) (kb : ∀ b o, base.get? b = some o → h.get? b = some o) (nb : base.get? e = none) (x1 : XK1 K C LE fld) (q : xcIn K C init = true) (hroom : A.depth < recursionLimit)
    (lk : K.lookup f = some ⟨oc, od, .func (ksFn nm qual ps body sc .none kV doc pm an (.ref cda) ct cc), osl⟩) (hcd : codeIn K (.ref cda) qual = true) (hcode : K.lookup cda = some ⟨ccl, cdd, .fields cvs, ccs⟩) (hvs : cvs[2]? = some (.str file tf)) (hfile : ((prog.main.file : Str) == file) = true)
    (hcell : K.lookup cc = some ⟨cl, cld, .cell (some (.ref C)), csl⟩) (hsu : mg "super" = none) (htop : (prog.main.scope.names.lookup ("super" : Str)).isSome = false) (hboot : bootBuiltins "super" = some (.type "super"))
    (S : ISc0 sc) (hp : (ps.posonlyargs ++ ps.args).head? = some ar) (har : ar.arg = "self") (hbind : bindArgs (ksFn nm qual ps body sc .none kV doc pm an (.ref cda) ct cc) ⟨[.ref e], []⟩ = pure [(("self" : Str), .ref e)])
    (hb : body = [.Expr (.Call (.Attribute (.Call (.Name "super" a1) [] [] a2) "__init__" a3) [.Constant (.str msg) kd a4] [] a5) a6])
    (hev : ∀ env, eval (.Call (.Attribute (.Call (.Name "super" a1) [] [] a2) "__init__" a3) [.Constant (.str msg) kd a4] [] a5) env = (do
      let ov ← attributeBase (.Call (.Name "super" a1) [] [] a2) "__init__" env (eval (.Call (.Name "super" a1) [] [] a2) env)
      standAt a3.atName
      let (f, first) ← holding [ov] (getMethod ov "__init__" (pl env))
      callWith a5 f first (backTo a5 (starEach [.Constant (.str msg) kd a4] env)) []))
    (he : h.get? e = some oe) (hec : oe.cls = .ref C) (hed : oe.dict = none) (hef : oe.data = .fields vs) (h0 : vs[0]? = some (.ref t0))
    (hq : ∀ h' t' T, h'.get? e = some { cls := .ref C, dict := none, data := .fields (vs.setIfInBounds 0 (.ref T)), slots := oe.slots } → (∀ b o, b ≠ e → h.get? b = some o → h'.get? b = some o) → R (.ok (.ret .none)) ⟨h', g, d, t', os⟩) :
    codeAny (model prog w) A (.call (.ref f) ⟨[.ref e], []⟩) R ⟨h, g, d, t, os⟩ := by
  have X : K.In h := B.kin.keeps kb
  refine ks_codeAny_call_defAt (s := ⟨h, g, d, t, os⟩) (binds := [(("self" : Str), .ref e)]) hroom (X _ _ lk) rfl (B.nolimit.keeps kb) (codeRec_of X hcd) rfl (.of_eq hbind) S.nc (fun y hy => ?_) (fun h₀ hn k0 => ?_) S.co S.ge S.ki
  · simp only [List.mem_cons, List.mem_nil_iff, or_false] at hy
    subst hy
    exact S.se
  have kb0 : ∀ b o, base.get? b = some o → h₀.get? b = some o := fun b o z => k0 _ _ (kb _ _ z)
  have X0 : K.In h₀ := B.kin.keeps kb0
  have e0 := k0 _ _ he
  have ms : (fun x => ([("self", .ref e)] : List (Str × Value)).reverse.lookup x) ("self" : Str) = some (.ref e) := rfl
  obtain ⟨mb, hb1, hb2⟩ := B.blt
  obtain ⟨nmC, qnC, NC, bsC, bmC, snC, subC, abC, colC, ddC, k0C, k1C, k2C, k3C, k5C, mNC, hC, _, _, _⟩ := (xc_at X0 q).out
  have nfe : ∀ c, oe.data ≠ .cls c := fun c z => by rw [hef] at z; cases z
  have neC : e ≠ C := fun z => by
    subst z
    rw [e0] at hC; cases hC
    cases hef
  subst hb
  dsimp only
  generalize hE : (fun (e : Value) (s' : Shared) => wpAny (model prog w) _ (leaving _ e) (fun _ s'' => R (Except.error e) s'') (fun e' s'' => R (Except.error e') s'') s') = EX
  refine ks_wpAt_execs_cons ?_
  refine ks_wpAt_Expr_any ?_ (by show (sc.kind == .module && _) = false; rw [S.ki]; rfl) rfl
  refine ks_wpAt_MethodCall ?_ (hev _)
  refine ks_wpAt_super_base (env := ksEnv qual sc h.objs.size f (.ref cda) cc) (file := file) (tf := tf) S.su S.cl (by decide +kernel) rfl (X0 _ _ lk) rfl hp rfl (X0 _ _ hcode) rfl hvs hfile htop ?_
  refine ks_loadName_global S.ki S.su (Calls.loadGlobal_builtin (B.glob.keeps kb0) hsu (hb1.keeps kb0) ((hb2 _ (by decide +kernel)).trans hboot) ⟨rfl, ?_⟩)
  refine wpAny_loadName_free S.ki S.cl rfl ⟨_, X0 _ _ hcell, rfl⟩ ?_
  rw [har]
  refine wpAny_loadName_local S.ki S.se hn ms ?_
  refine ks_wpAny_isType_cls hC rfl ⟨rfl, ?_⟩
  refine ks_wpAny_call_super hC rfl e0 hec nfe (x1.subs X0 (by simp)) (fun h1 hso k1 => ?_)
  have kb1 : ∀ b o, base.get? b = some o → h1.get? b = some o := fun b o z => k1 _ _ (kb0 _ _ z)
  have X1 : K.In h1 := B.kin.keeps kb1
  have e1 := k1 _ _ e0
  have inst : Looks (model prog w) h1 (isInstance (.ref e) (.type "ValueError")) true := by
    unfold isInstance
    refine (looks_cls e1).andThen ?_
    rw [hec]
    exact x1.subs X1 (by simp [bmV])
  refine xs_getm (l := .ref LE :: bmV) hso (looks_opaque X1 x1.opq) (x1.mroL X1) (by simp [List.dropWhile]) X1 x1.ini neC inst ?_
  generalize hmo : ({ cls := .type "method-wrapper", data := .fields #[.builtin "ValueError.__init__", .ref e] } : Obj) = mo
  have m2 : (h1.push mo).get? h1.objs.size = some mo := Heap.get?_push_size _ (by rw [← hmo]; rfl)
  have k2 : ∀ b o, h.get? b = some o → (h1.push mo).get? b = some o := fun b o z => Heap.get?_push_of_some _ (k1 _ _ (k0 _ _ z))
  have e2 := k2 _ _ he
  have X2 : K.In (h1.push mo) := B.kin.keeps fun b o z => Heap.get?_push_of_some _ (kb1 _ _ z)
  refine callWith_mw (mw := h1.objs.size) (fn := .builtin "ValueError.__init__") (x := .ref e) (by rw [hmo]; exact m2) fun tk => ?_
  refine xs_run (by rw [hmo]; exact m2) (xc_at X2 q) hec e2 hef h0 fun h3 T zT z1 z2 => ?_
  have dm := Obj.data_mapFields hef (·.setIfInBounds 0 (Value.ref T))
  refine wpAt_of_wpAny (wpAny_execs_nil ?_)
  have y2' : h3.get? e = some { cls := .ref C, dict := none, data := .fields (vs.setIfInBounds 0 (.ref T)), slots := oe.slots } := by
    rw [z1]
    obtain ⟨oc', od', odt', osl'⟩ := oe
    dsimp only at hec hed hef
    subst hec hed hef
    rfl
  exact hq h3 _ T y2' fun b o nb' z => z2 _ _ nb' (k2 _ _ z)
end
section
variable {prog : Program} {w : World} {A : Around} {E : Value → Shared → Prop} {h : Heap} {g : Array GenState} {d : Drawn} {t : Nat} {os : OsState} {C fI : Addr} {oI : Obj}
theorem xs_tcall0 {Q : Fin → Shared → Prop} (xa : XAt h C (some (.ref fI))) (hf : h.get? fI = some oI) (hfc : oI.cls = .type "function")
    (hq : ∀ h' e, Heap.MadeExcOf h h' e (.ref C) [] → wpAny (model prog w) A (call (.ref fI) [.ref e]) (fun r s' => r = .none ∧ Q (.done (.ret (.ref e))) s') E ⟨h', g, d, t, os⟩) :
    wpAny (model prog w) A (Builtin.«type.__call__» ⟨[.ref C], []⟩) Q E ⟨h, g, d, t, os⟩ := by
  obtain ⟨nm, qn, N, bs, bm, sn, sub, ab, col, dd, k0, k1, k2, k3, k5, mN, hC, hN, hi, T⟩ := xa.out
  have F := PySem.F.excBase_ValueError
  repeat (first | with_reducible refine wpAny_loadPart_at hC ?_ | with_reducible refine wpAny_madeBy_exc hC ?_ | wp_step)
  refine codeAny_call_builtin_code (Code.quiet_builtin _ F.quiet) (wpAny_check_new_subU F (by decide +kernel) T hC ?_)
  refine codeAny_exc_new_subU (rest := []) F (by decide +kernel) F T hC ?_ (by show 0 ≤ sizeLine; exact Nat.zero_le _)
  show wpAny _ _ _ _ _ _
  generalize hh : (h.push { cls := .type "tuple", data := .seq ([] : List Value).toArray }).push { cls := .ref C, data := .fields #[.ref h.objs.size, .none, .none, .none, .bool false, .none] } = h2
  have up : ∀ b o, h.get? b = some o → h2.get? b = some o := fun b o z => by rw [← hh]; exact Heap.get?_push_of_some _ (Heap.get?_push_of_some _ z)
  have ge : h2.get? (h.objs.size + 1) = some { cls := .ref C, data := .fields #[.ref h.objs.size, .none, .none, .none, .bool false, .none] } := by rw [← hh]; heap_get
  have gt : h2.get? h.objs.size = some { cls := .type "tuple", data := .seq ([] : List Value).toArray } := by rw [← hh]; exact Heap.get?_push_of_some _ (Heap.get?_push_at rfl rfl)
  have cC : (Value.ref C :: bm).contains (.ref C) = true := by simp
  have C2 := up _ _ hC
  unfold isInstance
  repeat (first | with_reducible refine wpAny_loadPart_at ge ?_ | (with_reducible refine wpAny_isSubtype_exc C2 ?_; rw [cC]) | wp_step)
  show wpAny _ _ (typeLookup (.ref C) _) _ _ _
  refine wpAny_typeLookup_tail C2 (hN.keeps up) (T.keeps up) F.mroIs F.init.lookup ?_
  rw [hi]
  refine wpAny_holding (wpAny_bind ?_)
  unfold bindSpecial
  refine wpAny_bind (wpAny_typeOf (T := "function") ⟨_, up _ _ hf, hfc⟩ ?_)
  rw [if_pos (by decide)]
  refine wpAny_pure (wpAny_bind (wpAny_mono (hq h2 (h.objs.size + 1) ⟨up, Heap.get?_none_of_le (Nat.le_succ _), h.objs.size, ge, Heap.get?_none_of_le (Nat.le_refl _), gt⟩) (fun r s' z => ?_) fun _ _ z => z))
  obtain ⟨rfl, z⟩ := z
  wp_walk
  exact z
theorem xs_call0 {Q : Value → Shared → Prop} (xa : XAt h C (some (.ref fI))) (hf : h.get? fI = some oI) (hfc : oI.cls = .type "function")
    (hq : ∀ h' e, Heap.MadeExcOf h h' e (.ref C) [] → wpAny (model prog w) (A.under (.builtin "type.__call__" ⟨[.ref C], []⟩)) (call (.ref fI) [.ref e]) (fun r s' => r = .none ∧ Q (.ref e) s') E ⟨h', g, d, t, os⟩) :
    wpAny (model prog w) A (call (.ref C) []) Q E ⟨h, g, d, t, os⟩ := by
  obtain ⟨nm, qn, N, bs, bm, sn, sub, ab, col, dd, k0, k1, k2, k3, k5, mN, hC, _, _, _⟩ := xa.out
  have f1 := tc_lookup
  have f2 := tc_bind (.ref C)
  have ty : (⟨h, g, d, t, os⟩ : Shared).TypeIs (.ref C) "type" := ⟨_, hC, rfl⟩
  refine wpAny_call (codeAny_of_tree ?_)
  show wpAny _ _ (callAny (.ref C) _) _ _ _
  repeat (any_goals (first | assumption | with_reducible refine wpAny_loadPart_at hC ?_ | wp_step))
  refine ⟨rfl, ?_⟩
  exact codeAny_call_builtin_at (Code.quiet_builtin _ (by decide +kernel)) entry_typeCall (wpAny_check_type_call_sub hC (xs_tcall0 xa hf hfc fun h' e me => hq h' e me))
end
/-- an own exception with __init__(self) that only calls super's -/
structure XIni0 (prog : Program) (K : Frag) (C LE fI : Addr) (fld : Str) : Prop where
  x1 : XK1 K C LE fld
  xc : xcIn K C (some (.ref fI)) = true
  kp : keepIn K (.ref C) = true
  su : nsIn K mainGlobals "super" = some none
  top : (prog.main.scope.names.lookup ("super" : Str)).isSome = false
  ex : ∃ (nm qual msg file : Str) (ps : Arguments) (body : List Stmt) (sc : Scope) (kV doc pm ct ccl cl : Value) (an od cdd cld : Option Addr) (osl ccs csl : Array (Option Value)) (cvs : Array Value) (tf : Tok) (ar : Arg) (cda cc : Addr)
    (a1 a2 a3 a4 a5 a6 : Pos) (kd : Nat) (pl : Env → Sem Bool),
    K.lookup fI = some ⟨.type "function", od, .func (ksFn nm qual ps body sc .none kV doc pm an (.ref cda) ct cc), osl⟩ ∧ codeIn K (.ref cda) qual = true ∧ K.lookup cda = some ⟨ccl, cdd, .fields cvs, ccs⟩ ∧ cvs[2]? = some (.str file tf) ∧ ((prog.main.file : Str) == file) = true ∧
    K.lookup cc = some ⟨cl, cld, .cell (some (.ref C)), csl⟩ ∧ ISc0 sc ∧ (ps.posonlyargs ++ ps.args).head? = some ar ∧ ar.arg = "self" ∧ (∀ e : Value, bindArgs (ksFn nm qual ps body sc .none kV doc pm an (.ref cda) ct cc) ⟨[e], []⟩ = pure [(("self" : Str), e)]) ∧
    body = [.Expr (.Call (.Attribute (.Call (.Name "super" a1) [] [] a2) "__init__" a3) [.Constant (.str msg) kd a4] [] a5) a6] ∧
    ∀ env, eval (.Call (.Attribute (.Call (.Name "super" a1) [] [] a2) "__init__" a3) [.Constant (.str msg) kd a4] [] a5) env = (do
      let ov ← attributeBase (.Call (.Name "super" a1) [] [] a2) "__init__" env (eval (.Call (.Name "super" a1) [] [] a2) env)
      standAt a3.atName
      let (f, first) ← holding [ov] (getMethod ov "__init__" (pl env))
      callWith a5 f first (backTo a5 (starEach [.Constant (.str msg) kd a4] env)) [])
section
variable {X : Cx} {C LE fI : Addr} {fld x : Str} {XR : St → XK} {np cpos pos : Pos}
theorem qs_raise0i (hx : Px X XR) (hc : X.calm = true) (hr : Room 2 X.A) (hg : Gl X x) (hm : X.mg x = some (.ref C)) (Z : XIni0 X.prog X.K C LE fI fld) (hdb : (x == ("__debug__" : Str)) = false) :
    PSw X (.Raise (some (.Call (.Name x np) [] [] cpos)) none pos) (tRaise0 C XR) := by
  refine ⟨fun pins s σ H D I h => ?_⟩
  rw [arm_exec_Raise]
  simp only [evalOpt, Option.map]
  refine wpAny_bind (wpAny_standAt (raise_made (C := C) (init := some (.ref fI)) (I.ok.hd hc) ?_))
  refine wpAny_bind (wpAny_mono (Q := fun v s₁ => ∃ e oe vs, v = .ref e ∧ XAt s₁.heap C (some (.ref fI)) ∧ s₁.heap.get? e = some oe ∧ oe.cls = .ref C ∧ oe.data = .fields vs ∧ vs[1]? = some .none ∧ X.xe (.ref e) s₁) ?_ (fun v s₃ h₃ => wpAny_bind (wpAny_standAt (wpAny_pure h₃))) fun _ _ z => z)
  refine wpAny_Call_Name_kw (ld_glob I hg hm ?_ hdb)
  refine PySem.W.callWith_K0 I.kIn Z.kp ?_
  obtain ⟨nm, qual, msg, file, ps, body, sc, kV, doc, pm, ct, ccl, cl, an, od, cdd, cld, osl, ccs, csl, cvs, tf, ar, cda, cc, a1, a2, a3, a4, a5, a6, kd, pl, z1, z2, z3, z4, z5, z6, z7, z8, z9, z10, z11, z12⟩ := Z.ex
  obtain ⟨hh, g, d, t1, os⟩ := s
  have hk : ∀ b o, X.base.get? b = some o → hh.get? b = some o := I.bk
  refine xs_call0 (xc_at I.kIn Z.xc) (I.kIn _ _ z1) rfl fun h1 e1 me => ?_
  obtain ⟨tp, q1, q2, q3⟩ := me.there
  have nb : X.base.get? e1 = none := by
    cases zz : X.base.get? e1 with
    | none => rfl
    | some o => have := hk _ _ zz; rw [me.new] at this; cases this
  have hsu : X.mg "super" = none := mg_none_of I.ok.mod.kin I.ok.mod.glob Z.su
  refine wpAny_call (codeAny_mono (R := fun r s' => r = .ok (.ret .none) ∧ ∃ e oe vs, Value.ref e1 = .ref e ∧ XAt s'.heap C (some (.ref fI)) ∧ s'.heap.get? e = some oe ∧ oe.cls = .ref C ∧ oe.data = .fields vs ∧ vs[1]? = some .none ∧ X.xe (.ref e) s') (xs_init0 (base := X.base) (fld := fld) (LE := LE) (C := C) I.ok.mod (fun b o z => me.keeps _ _ (hk _ _ z)) nb Z.x1 Z.xc (hr.make C [] []).depth z1 z2 z3 z4 z5 z6 hsu Z.top (by decide +kernel) z7 z8 z9 (z10 _) z11 z12 q1 rfl rfl rfl rfl fun h2 t2 T y1 y4 => ⟨rfl, e1, _, _, rfl, ?_, y1, rfl, rfl, rfl, ?_⟩) ?_)
  · exact (xc_at I.kIn Z.xc).keeps fun b o z => y4 _ _ (fun y => by rw [y] at z; rw [me.new] at z; cases z) (me.keeps _ _ z)
  · have kk : ∀ b o, hh.get? b = some o → h2.get? b = some o := fun b o z => y4 _ _ (fun y => by rw [y, me.new] at z; cases z) (me.keeps _ _ z)
    have hne : H e1 = none := I.hok.none me.new
    exact hx pins σ H ⟨hh, g, d, t1, os⟩ (.ref e1) ⟨h2, g, d, t2, os⟩ I ⟨e1, .ref C, none, H, rfl, rfl, I.bare, Un.kept kk, I.hok.kept kk, ⟨me.new, hne⟩, ⟨_, _, y1, rfl, rfl, rfl, by simp, .inl ⟨rfl, rfl⟩⟩, h⟩
  · rintro _ s' ⟨rfl, z⟩
    exact ⟨rfl, z⟩
end
/-- the text of an own __init__(self) -/
structure IBody0 (st : Stmt) : Prop where
  sc : ISc0 (defScope st)
  se : ∃ ar, ((defArgs st).posonlyargs ++ (defArgs st).args).head? = some ar ∧ ar.arg = "self"
  bd : ∀ (nm qual : Str) (kV doc pm : Value) (an : Option Addr) (cda : Value) (ct : Value) (cc : Addr) (e : Value), bindArgs (ksFn nm qual (defArgs st) (defBody st) (defScope st) .none kV doc pm an cda ct cc) ⟨[e], []⟩ = pure [(("self" : Str), e)]
  tx : ∃ (msg : Str) (a1 a2 a3 a4 a5 a6 : Pos) (kd : Nat) (pl : Env → Sem Bool), defBody st = [.Expr (.Call (.Attribute (.Call (.Name "super" a1) [] [] a2) "__init__" a3) [.Constant (.str msg) kd a4] [] a5) a6] ∧
    ∀ env, eval (.Call (.Attribute (.Call (.Name "super" a1) [] [] a2) "__init__" a3) [.Constant (.str msg) kd a4] [] a5) env = (do
      let ov ← attributeBase (.Call (.Name "super" a1) [] [] a2) "__init__" env (eval (.Call (.Name "super" a1) [] [] a2) env)
      standAt a3.atName
      let (f, first) ← holding [ov] (getMethod ov "__init__" (pl env))
      callWith a5 f first (backTo a5 (starEach [.Constant (.str msg) kd a4] env)) [])
theorem xini0_mk {prog : Program} {K : Frag} {C LE fI cda cc : Addr} {fld nm qual file : Str} {st : Stmt} {kV doc pm ct ccl cl : Value} {an od cdd cld : Option Addr} {osl ccs csl : Array (Option Value)} {cvs : Array Value} {tf : Tok}
    (T : IBody0 st) (x1 : xk1In K C LE fld = true) (xc : xcIn K C (some (.ref fI)) = true) (kp : keepIn K (.ref C) = true) (su : nsIn K mainGlobals "super" = some none) (top : (prog.main.scope.names.lookup ("super" : Str)).isSome = false)
    (lk : K.lookup fI = some ⟨.type "function", od, .func (ksFn nm qual (defArgs st) (defBody st) (defScope st) .none kV doc pm an (.ref cda) ct cc), osl⟩) (cd : codeIn K (.ref cda) qual = true) (hcode : K.lookup cda = some ⟨ccl, cdd, .fields cvs, ccs⟩) (hvs : cvs[2]? = some (.str file tf)) (hfile : ((prog.main.file : Str) == file) = true)
    (hcell : K.lookup cc = some ⟨cl, cld, .cell (some (.ref C)), csl⟩) : XIni0 prog K C LE fI fld := by
  obtain ⟨ar, s1, s2⟩ := T.se
  obtain ⟨msg, a1, a2, a3, a4, a5, a6, kd, pl, t1, t2⟩ := T.tx
  exact ⟨xk1_of x1, xc, kp, su, top, nm, qual, msg, file, _, _, _, kV, doc, pm, ct, ccl, cl, an, od, cdd, cld, osl, ccs, csl, cvs, tf, ar, cda, cc, a1, a2, a3, a4, a5, a6, kd, pl, lk, cd, hcode, hvs, hfile, hcell, T.sc, s1, s2, T.bd nm qual kV doc pm an (.ref cda) ct cc, t1, t2⟩
end L2

namespace Mt
open PySem L2
theorem chk_last : ∀ {r : List (Int × Int)} {l f : Int} {q : Int × Int}, chk l f (r.map pr ++ [pr q]) = true → l < q.1
  | [], l, f, q, h => by
    have h' : (decide (l < q.1) && decide (q.1 ≤ 1000000000) && decide (f ≤ q.2) && decide (q.2 ≤ 1000000) && chk q.1 q.2 []) = true := h
    simp only [Bool.and_eq_true, decide_eq_true_eq] at h'
    exact h'.1.1.1.1
  | p :: r, l, f, q, h => by
    have h' : (decide (l < p.1) && decide (p.1 ≤ 1000000000) && decide (f ≤ p.2) && decide (p.2 ≤ 1000000) && chk p.1 p.2 (r.map pr ++ [pr q])) = true := h
    simp only [Bool.and_eq_true, decide_eq_true_eq] at h'
    have := chk_last h'.2
    omega
theorem twice_not (p : Int × Int) (r : List (Int × Int)) : histD (.tuple ((p :: r).map pr ++ [pr p])) = false := by
  cases h : histD (.tuple ((p :: r).map pr ++ [pr p])) with
  | false => rfl
  | true =>
    have h' : (decide (1 ≤ ((p :: r).map pr ++ [pr p]).length) && decide (((p :: r).map pr ++ [pr p]).length ≤ 60) && chk (-1) 0 ((p :: r).map pr ++ [pr p]) && first0 ((p :: r).map pr ++ [pr p])) = true := h
    simp only [Bool.and_eq_true] at h'
    have h2 : (decide (-1 < p.1) && decide (p.1 ≤ 1000000000) && decide (0 ≤ p.2) && decide (p.2 ≤ 1000000) && chk p.1 p.2 (r.map pr ++ [pr p])) = true := h'.1.2
    simp only [Bool.and_eq_true] at h2
    have := chk_last h2.2
    omega
theorem cut1 (d : PyData) (r : List PyData) : cutD (d :: r) none (some 1) = [d] := by
  unfold cutD
  have h1 : HT.sIx (d :: r).length 0 none = 0 := rfl
  have h2 : HT.sIx (d :: r).length (d :: r).length (some 1) = 1 := by
    simp [HT.sIx]
  rw [h1, h2]
  rfl
end Mt
namespace Mt
open PySem L2
end Mt

set_option maxRecDepth 100000
set_option maxHeartbeats 1000000
local macro_rules | `(tactic| walk_at "vis") => `(tactic| first | exact Or.inl rfl | exact Or.inr (Or.inl rfl) | exact Or.inr (Or.inr rfl))
local macro_rules | `(tactic| walk_at "cond") => `(tactic| first | assumption | decide | omega | (simp only [L2.CDiv, L2.CMul, L2.CPow]; first | decide | omega))
local macro_rules | `(tactic| walk_at "sq") => `(tactic| first | assumption | exact L2.SqL.of (by assumption) | exact L2.SqT.of (by assumption) | exact L2.SqL.of L2.upd_same | exact L2.SqT.of L2.upd_same)
local macro_rules | `(tactic| walk_at "lk") => `(tactic| first | assumption | exact L2.upd_same)
local macro_rules | `(tactic| walk_at "ty") => `(tactic| first | assumption | exact L2.TyS.non | exact L2.TyS.bl _ | exact L2.TyS.int _ | exact L2.TyS.str _ | exact L2.TyS.tup (by assumption) | exact L2.TyS.lst (by assumption))
local macro_rules | `(tactic| walk_at "rs") => `(tactic| repeat (first
  | with_reducible refine L2.rd_if ?_ | with_reducible refine L2.rd_asg ?_ | with_reducible refine L2.rd_drop ?_ | with_reducible refine L2.rd_ret ?_ | with_reducible refine L2.rd_next ?_
  | with_reducible refine L2.rd_op ?_ | with_reducible refine L2.rd_un ?_ | ((with_reducible apply L2.rd_var); (case e => exact rfl)) | with_reducible refine L2.rd_c ?_
  | with_reducible refine L2.rd_I0 ?_ | ((with_reducible apply L2.rd_I); (case hc => walk_at "cond")) | with_reducible refine L2.rd_U ?_
  | with_reducible refine L2.rd_test ?_ | with_reducible refine L2.rd_tB ?_ | with_reducible refine L2.rd_bl' ?_ | ((with_reducible apply L2.rd_eq); (case hs => exact rfl)) | ((with_reducible apply L2.rd_ne); (case hs => exact rfl))
  | ((with_reducible apply L2.rd_ixL); (case hq => walk_at "sq"); (case ha => exact rfl)) | ((with_reducible apply L2.rd_ixT); (case hq => walk_at "sq"); (case ha => exact rfl))
  | with_reducible refine L2.rd_name ?_ | with_reducible refine L2.rd_sub ?_ | ((with_reducible apply L2.rd_setL); (case hp => walk_at "lk"); (case hi => exact rfl))
  | with_reducible refine L2.rd_CB ?_ | with_reducible refine L2.rd_nil ?_ | with_reducible refine L2.rd_cons ?_ | with_reducible refine L2.rd_and ?_ | with_reducible refine L2.rd_or ?_ | with_reducible refine L2.rd_not ?_
  | with_reducible refine L2.rd_andV ?_ | with_reducible refine L2.rd_orV ?_ | with_reducible refine L2.rd_notV ?_ | with_reducible refine L2.rd_ifE ?_ | with_reducible refine L2.rd_call ?_ | with_reducible refine L2.rd_callX ?_ | with_reducible refine L2.rd_raise0 ?_ | with_reducible refine L2.rd_raise1 ?_ | with_reducible refine L2.rd_try ?_ | with_reducible refine L2.rd_xat ?_ | with_reducible refine L2.rd_unx ?_
  | with_reducible refine L2.rd_tup ?_ | with_reducible refine L2.rd_tupA ?_ | with_reducible refine L2.rd_lstA ?_ | with_reducible refine L2.rd_dnewA ?_ | with_reducible refine L2.rd_lst ?_ | with_reducible refine L2.rd_chain ?_ | with_reducible refine L2.rd_sl ?_ | with_reducible refine L2.rd_nopart ?_ | with_reducible refine L2.rd_part ?_ | with_reducible refine L2.rd_int ?_
  | ((with_reducible apply L2.rd_slL); (case hq => walk_at "sq")) | ((with_reducible apply L2.rd_slG); (case hq => walk_at "sq"))
  | with_reducible refine L2.rd_gnil ?_ | with_reducible refine L2.rd_gcons ?_ | ((with_reducible apply L2.rd_tupT); (case hq => walk_at "sq"); (case hl => exact rfl)) | with_reducible refine L2.rd_BM ?_ | with_reducible refine L2.rd_for ?_ | with_reducible refine L2.rd_rng1 ?_ | with_reducible refine L2.rd_rngV ?_ | with_reducible refine L2.rd_ilist ?_ | with_reducible refine L2.rd_itup ?_ | with_reducible refine L2.rd_comp ?_ | with_reducible refine L2.rd_izip ?_
  | ((with_reducible apply L2.rd_slA); (case hq => walk_at "sq")) | ((with_reducible apply L2.rd_listAL); (case hq => walk_at "sq")) | ((with_reducible apply L2.rd_listAT); (case hq => walk_at "sq")) | ((with_reducible apply L2.rd_tupleAL); (case hq => walk_at "sq")) | ((with_reducible apply L2.rd_lenL); (case hq => walk_at "sq")) | ((with_reducible apply L2.rd_lenT); (case hq => walk_at "sq")) | ((with_reducible apply L2.rd_listFT); (case hq => walk_at "sq")) | ((with_reducible apply L2.rd_listFL); (case hq => walk_at "sq")) | ((with_reducible apply L2.rd_listL); (case hq => walk_at "sq")) | ((with_reducible apply L2.rd_listT); (case hq => walk_at "sq"))
  | ((with_reducible apply L2.rd_tupleL); (case hq => walk_at "sq")) | ((with_reducible apply L2.rd_isiTup); (case hd => assumption)) | ((with_reducible apply L2.rd_isiInt); (case hd => assumption)) | ((with_reducible apply L2.rd_isiBool); (case hd => assumption)) | ((with_reducible apply L2.rd_isiStr); (case hd => assumption)) | ((with_reducible apply L2.rd_isiList); (case hd => assumption)) | with_reducible refine L2.rd_min ?_ | with_reducible refine L2.rd_max ?_ | refine L2.rd_iteT ?_ | refine L2.rd_iteF ?_ | with_reducible refine L2.rd_isN ?_ | with_reducible refine L2.rd_isnB ?_ | with_reducible refine L2.rd_isB ?_ | with_reducible refine L2.rd_notN ?_ | ((with_reducible apply L2.rd_str); (case hl => walk_at "cond")) | dsimp only))
local macro_rules | `(tactic| walk_at "rd") => `(tactic| repeat (first
  | with_reducible refine L2.rd_seq ?_ | with_reducible refine L2.rd_if ?_ | with_reducible refine L2.rd_asg ?_ | with_reducible refine L2.rd_drop ?_ | with_reducible refine L2.rd_ret ?_ | with_reducible refine L2.rd_next ?_
  | with_reducible refine L2.rd_op ?_ | with_reducible refine L2.rd_un ?_ | ((with_reducible apply L2.rd_var); (case e => exact rfl)) | with_reducible refine L2.rd_c ?_
  | with_reducible refine L2.rd_I0 ?_ | ((with_reducible apply L2.rd_I); (case hc => walk_at "cond")) | with_reducible refine L2.rd_U ?_
  | with_reducible refine L2.rd_test ?_ | with_reducible refine L2.rd_tB ?_ | with_reducible refine L2.rd_bl' ?_ | ((with_reducible apply L2.rd_eq); (case hs => exact rfl)) | ((with_reducible apply L2.rd_ne); (case hs => exact rfl))
  | ((with_reducible apply L2.rd_ixL); (case hq => walk_at "sq"); (case ha => exact rfl)) | ((with_reducible apply L2.rd_ixT); (case hq => walk_at "sq"); (case ha => exact rfl))
  | with_reducible refine L2.rd_name ?_ | with_reducible refine L2.rd_sub ?_ | ((with_reducible apply L2.rd_setL); (case hp => walk_at "lk"); (case hi => exact rfl))
  | with_reducible refine L2.rd_CB ?_ | with_reducible refine L2.rd_nil ?_ | with_reducible refine L2.rd_cons ?_ | with_reducible refine L2.rd_and ?_ | with_reducible refine L2.rd_or ?_ | with_reducible refine L2.rd_not ?_
  | with_reducible refine L2.rd_andV ?_ | with_reducible refine L2.rd_orV ?_ | with_reducible refine L2.rd_notV ?_ | with_reducible refine L2.rd_ifE ?_ | with_reducible refine L2.rd_call ?_ | with_reducible refine L2.rd_callX ?_ | with_reducible refine L2.rd_raise0 ?_ | with_reducible refine L2.rd_raise1 ?_ | with_reducible refine L2.rd_try ?_ | with_reducible refine L2.rd_xat ?_ | with_reducible refine L2.rd_unx ?_
  | with_reducible refine L2.rd_tup ?_ | with_reducible refine L2.rd_tupA ?_ | with_reducible refine L2.rd_lstA ?_ | with_reducible refine L2.rd_dnewA ?_ | with_reducible refine L2.rd_lst ?_ | with_reducible refine L2.rd_chain ?_ | with_reducible refine L2.rd_sl ?_ | with_reducible refine L2.rd_nopart ?_ | with_reducible refine L2.rd_part ?_ | with_reducible refine L2.rd_int ?_
  | ((with_reducible apply L2.rd_slL); (case hq => walk_at "sq")) | ((with_reducible apply L2.rd_slG); (case hq => walk_at "sq"))
  | with_reducible refine L2.rd_gnil ?_ | with_reducible refine L2.rd_gcons ?_ | ((with_reducible apply L2.rd_tupT); (case hq => walk_at "sq"); (case hl => exact rfl)) | with_reducible refine L2.rd_BM ?_ | with_reducible refine L2.rd_for ?_ | with_reducible refine L2.rd_rng1 ?_ | with_reducible refine L2.rd_rngV ?_ | with_reducible refine L2.rd_ilist ?_ | with_reducible refine L2.rd_itup ?_ | with_reducible refine L2.rd_comp ?_ | with_reducible refine L2.rd_izip ?_
  | ((with_reducible apply L2.rd_slA); (case hq => walk_at "sq")) | ((with_reducible apply L2.rd_listAL); (case hq => walk_at "sq")) | ((with_reducible apply L2.rd_listAT); (case hq => walk_at "sq")) | ((with_reducible apply L2.rd_tupleAL); (case hq => walk_at "sq")) | ((with_reducible apply L2.rd_lenL); (case hq => walk_at "sq")) | ((with_reducible apply L2.rd_lenT); (case hq => walk_at "sq")) | ((with_reducible apply L2.rd_listFT); (case hq => walk_at "sq")) | ((with_reducible apply L2.rd_listFL); (case hq => walk_at "sq")) | ((with_reducible apply L2.rd_listL); (case hq => walk_at "sq")) | ((with_reducible apply L2.rd_listT); (case hq => walk_at "sq"))
  | ((with_reducible apply L2.rd_tupleL); (case hq => walk_at "sq")) | ((with_reducible apply L2.rd_isiTup); (case hd => assumption)) | ((with_reducible apply L2.rd_isiInt); (case hd => assumption)) | ((with_reducible apply L2.rd_isiBool); (case hd => assumption)) | ((with_reducible apply L2.rd_isiStr); (case hd => assumption)) | ((with_reducible apply L2.rd_isiList); (case hd => assumption)) | with_reducible refine L2.rd_min ?_ | with_reducible refine L2.rd_max ?_ | refine L2.rd_iteT ?_ | refine L2.rd_iteF ?_ | with_reducible refine L2.rd_isN ?_ | with_reducible refine L2.rd_isnB ?_ | with_reducible refine L2.rd_isB ?_ | with_reducible refine L2.rd_notN ?_ | ((with_reducible apply L2.rd_str); (case hl => walk_at "cond")) | dsimp only))
local macro_rules | `(tactic| walk_at "rq") => `(tactic| repeat (first
  | with_reducible refine L2.rd_seq ?_ | with_reducible refine L2.rd_if ?_ | with_reducible refine L2.rd_asg ?_ | with_reducible refine L2.rd_drop ?_ | with_reducible refine L2.rd_ret ?_ | with_reducible refine L2.rd_next ?_
  | with_reducible refine L2.rd_op ?_ | with_reducible refine L2.rd_un ?_ | ((with_reducible apply L2.rd_var); (case e => exact rfl)) | with_reducible refine L2.rd_c ?_
  | with_reducible refine L2.rd_I0 ?_ | ((with_reducible apply L2.rd_I); (case hc => walk_at "cond")) | with_reducible refine L2.rd_U ?_
  | with_reducible refine L2.rd_test ?_ | with_reducible refine L2.rd_tB ?_ | with_reducible refine L2.rd_bl' ?_ | ((with_reducible apply L2.rd_eq); (case hs => exact rfl)) | ((with_reducible apply L2.rd_ne); (case hs => exact rfl))
  | ((with_reducible apply L2.rd_ixL); (case hq => walk_at "sq"); (case ha => exact rfl)) | ((with_reducible apply L2.rd_ixT); (case hq => walk_at "sq"); (case ha => exact rfl))
  | with_reducible refine L2.rd_name ?_ | with_reducible refine L2.rd_sub ?_ | ((with_reducible apply L2.rd_setL); (case hp => walk_at "lk"); (case hi => exact rfl))
  | with_reducible refine L2.rd_CB ?_ | with_reducible refine L2.rd_nil ?_ | with_reducible refine L2.rd_cons ?_ | with_reducible refine L2.rd_and ?_ | with_reducible refine L2.rd_or ?_ | with_reducible refine L2.rd_not ?_
  | with_reducible refine L2.rd_andV ?_ | with_reducible refine L2.rd_orV ?_ | with_reducible refine L2.rd_notV ?_ | with_reducible refine L2.rd_ifE ?_ | with_reducible refine L2.rd_call ?_ | with_reducible refine L2.rd_callX ?_ | with_reducible refine L2.rd_raise0 ?_ | with_reducible refine L2.rd_raise1 ?_ | with_reducible refine L2.rd_try ?_ | with_reducible refine L2.rd_xat ?_ | with_reducible refine L2.rd_unx ?_
  | with_reducible refine L2.rd_tup ?_ | with_reducible refine L2.rd_tupA ?_ | with_reducible refine L2.rd_lstA ?_ | with_reducible refine L2.rd_dnewA ?_ | with_reducible refine L2.rd_lst ?_ | with_reducible refine L2.rd_chain ?_ | with_reducible refine L2.rd_sl ?_ | with_reducible refine L2.rd_nopart ?_ | with_reducible refine L2.rd_part ?_ | with_reducible refine L2.rd_int ?_
  | ((with_reducible apply L2.rd_slL); (case hq => walk_at "sq")) | ((with_reducible apply L2.rd_slG); (case hq => walk_at "sq"))
  | with_reducible refine L2.rd_gnil ?_ | with_reducible refine L2.rd_gcons ?_ | ((with_reducible apply L2.rd_tupT); (case hq => walk_at "sq"); (case hl => exact rfl)) | with_reducible refine L2.rd_BM ?_ | with_reducible refine L2.rd_for ?_ | with_reducible refine L2.rd_rng1 ?_ | with_reducible refine L2.rd_rngV ?_ | with_reducible refine L2.rd_ilist ?_ | with_reducible refine L2.rd_itup ?_ | with_reducible refine L2.rd_comp ?_ | with_reducible refine L2.rd_izip ?_
  | ((with_reducible apply L2.rd_slA); (case hq => walk_at "sq")) | ((with_reducible apply L2.rd_listAL); (case hq => walk_at "sq")) | ((with_reducible apply L2.rd_listAT); (case hq => walk_at "sq")) | ((with_reducible apply L2.rd_tupleAL); (case hq => walk_at "sq")) | ((with_reducible apply L2.rd_lenL); (case hq => walk_at "sq")) | ((with_reducible apply L2.rd_lenT); (case hq => walk_at "sq")) | ((with_reducible apply L2.rd_listFT); (case hq => walk_at "sq")) | ((with_reducible apply L2.rd_listFL); (case hq => walk_at "sq")) | ((with_reducible apply L2.rd_listL); (case hq => walk_at "sq")) | ((with_reducible apply L2.rd_listT); (case hq => walk_at "sq"))
  | ((with_reducible apply L2.rd_tupleL); (case hq => walk_at "sq")) | ((with_reducible apply L2.rd_isiTup); (case hd => assumption)) | ((with_reducible apply L2.rd_isiInt); (case hd => assumption)) | ((with_reducible apply L2.rd_isiBool); (case hd => assumption)) | ((with_reducible apply L2.rd_isiStr); (case hd => assumption)) | ((with_reducible apply L2.rd_isiList); (case hd => assumption)) | with_reducible refine L2.rd_min ?_ | with_reducible refine L2.rd_max ?_ | ((with_reducible refine L2.rd_iteG ?_); first | refine L2.rd_iteT ?_ | refine L2.rd_iteF ?_) | with_reducible refine L2.rd_isN ?_ | with_reducible refine L2.rd_isnB ?_ | with_reducible refine L2.rd_isB ?_ | with_reducible refine L2.rd_notN ?_ | ((with_reducible apply L2.rd_str); (case hl => walk_at "cond")) | dsimp only))
namespace My
open PySem L2
def top (i : Nat) : Stmt := PySem.Challenge.pw_laterline_k14_lines_of_places.main.body.getD i (.Pass ⟨0, 0, 0, 0⟩)
abbrev s_is_number : Stmt := top 11
abbrev s_is_within : Stmt := top 12
abbrev s_is_place : Stmt := top 13
abbrev s_is_line : Stmt := top 17
abbrev s_is_line_and_place : Stmt := top 18
abbrev s_is_history : Stmt := top 19
abbrev s_require_history : Stmt := top 20
abbrev s_require_place : Stmt := top 21
abbrev s_line_at : Stmt := top 22
abbrev s_line_of : Stmt := top 23
abbrev s_law_state : Stmt := top 25
abbrev s_law_next : Stmt := top 26
abbrev s_law_whole : Stmt := top 27
abbrev s_law_history : Stmt := top 28
abbrev s_law_end : Stmt := top 29
abbrev s_law_at : Stmt := top 30
abbrev s_law_error : Stmt := top 31
abbrev s_law_refused : Stmt := top 32
abbrev s_law : Stmt := top 33
theorem sc_is_number : FnScope ["thing"] ["thing"] (defScope s_is_number) := ⟨rfl, rfl, rfl, by decide +kernel, rfl, by decide +kernel, by decide +kernel⟩
theorem sc_is_within : FnScope ["thing", "least", "most"] ["thing", "least", "most"] (defScope s_is_within) := ⟨rfl, rfl, rfl, by decide +kernel, rfl, by decide +kernel, by decide +kernel⟩
theorem sc_is_place : FnScope ["thing"] ["thing"] (defScope s_is_place) := ⟨rfl, rfl, rfl, by decide +kernel, rfl, by decide +kernel, by decide +kernel⟩
theorem sc_is_line : FnScope ["thing"] ["thing"] (defScope s_is_line) := ⟨rfl, rfl, rfl, by decide +kernel, rfl, by decide +kernel, by decide +kernel⟩
theorem sc_is_line_and_place : FnScope ["thing"] ["thing"] (defScope s_is_line_and_place) := ⟨rfl, rfl, rfl, by decide +kernel, rfl, by decide +kernel, by decide +kernel⟩
theorem sc_is_history : FnScope ["thing"] ["thing"] (defScope s_is_history) := ⟨rfl, rfl, rfl, by decide +kernel, rfl, by decide +kernel, by decide +kernel⟩
theorem sc_require_history : FnScope ["thing"] ["thing"] (defScope s_require_history) := ⟨rfl, rfl, rfl, by decide +kernel, rfl, by decide +kernel, by decide +kernel⟩
theorem sc_require_place : FnScope ["thing"] ["thing"] (defScope s_require_place) := ⟨rfl, rfl, rfl, by decide +kernel, rfl, by decide +kernel, by decide +kernel⟩
theorem sc_line_at : FnScope ["history", "place", "found", "line", "fork"] ["history", "place"] (defScope s_line_at) := ⟨rfl, rfl, rfl, by decide +kernel, rfl, by decide +kernel, by decide +kernel⟩
theorem sc_line_of : FnScope ["history", "place"] ["history", "place"] (defScope s_line_of) := ⟨rfl, rfl, rfl, by decide +kernel, rfl, by decide +kernel, by decide +kernel⟩
theorem sc_law_state : FnScope ["_law_script", "_law_cells"] ["_law_script"] (defScope s_law_state) := ⟨rfl, rfl, rfl, by decide +kernel, rfl, by decide +kernel, by decide +kernel⟩
theorem sc_law_next : FnScope ["_law_state_here", "_law_below", "_law_found", "_law_cells", "_law_cell"] ["_law_state_here", "_law_below"] (defScope s_law_next) := ⟨rfl, rfl, rfl, by decide +kernel, rfl, by decide +kernel, by decide +kernel⟩
theorem sc_law_whole : FnScope ["_law_found"] ["_law_found"] (defScope s_law_whole) := ⟨rfl, rfl, rfl, by decide +kernel, rfl, by decide +kernel, by decide +kernel⟩
theorem sc_law_history : FnScope ["_law_state_here", "_law_many", "_law_wide", "_law_line", "_law_found", "_law_k"] ["_law_state_here"] (defScope s_law_history) := ⟨rfl, rfl, rfl, by decide +kernel, rfl, by decide +kernel, by decide +kernel⟩
theorem sc_law_end : FnScope ["_law_state_here", "_law_history_here", "_law_near", "_law_far"] ["_law_state_here", "_law_history_here"] (defScope s_law_end) := ⟨rfl, rfl, rfl, by decide +kernel, rfl, by decide +kernel, by decide +kernel⟩
theorem sc_law_at : FnScope ["_law_history_here", "_law_place", "_law_found", "_law_line", "_law_fork"] ["_law_history_here", "_law_place"] (defScope s_law_at) := ⟨rfl, rfl, rfl, by decide +kernel, rfl, by decide +kernel, by decide +kernel⟩
theorem sc_law_error : FnScope ["_law_history_here", "_law_place", "_law_caught", "_law_error_here"] ["_law_history_here", "_law_place"] (defScope s_law_error) := ⟨rfl, rfl, rfl, by decide +kernel, rfl, by decide +kernel, by decide +kernel⟩
theorem sc_law_refused : FnScope ["_law_history_here", "_law_place", "_law_names", "_law_turn", "_law_error_here", "_law_said"] ["_law_history_here", "_law_place", "_law_names"] (defScope s_law_refused) := ⟨rfl, rfl, rfl, by decide +kernel, rfl, by decide +kernel, by decide +kernel⟩
theorem sc_law : FnScope ["_law_script", "_law_state_here", "_law_turn", "_law_history_here", "_law_place", "_law_found", "_law_none", "_law_wrong", "_law_odd"] ["_law_script"] (defScope s_law) := ⟨rfl, rfl, rfl, by decide +kernel, rfl, by decide +kernel, by decide +kernel⟩
abbrev t_NoHistory : Stmt := inClass (top 2) 0
abbrev t_NoPlace : Stmt := inClass (top 3) 0
theorem ib_NoHistory : IBody0 t_NoHistory := ⟨⟨rfl, rfl, rfl, by decide +kernel, rfl, rfl, rfl⟩, ⟨_, rfl, rfl⟩, fun _ _ _ _ _ _ _ _ _ _ => rfl, ⟨_, _, _, _, _, _, _, _, _, rfl, fun _ => rfl⟩⟩
theorem ib_NoPlace : IBody t_NoPlace "place" "place" := ⟨⟨rfl, rfl, rfl, rfl, by decide +kernel, rfl, rfl, rfl, by decide +kernel, by decide +kernel⟩, ⟨_, rfl, rfl⟩, fun _ _ _ _ _ _ _ _ _ _ _ => rfl, ⟨_, _, _, _, _, _, _, _, _, _, _, _, _, rfl, fun _ => rfl⟩⟩
/-- the addresses that the top has given -/
structure Adr where
  f_is_number : Addr
  d_is_number : FuncData
  f_is_within : Addr
  d_is_within : FuncData
  f_is_place : Addr
  d_is_place : FuncData
  f_is_line : Addr
  d_is_line : FuncData
  f_is_line_and_place : Addr
  d_is_line_and_place : FuncData
  f_is_history : Addr
  d_is_history : FuncData
  f_require_history : Addr
  d_require_history : FuncData
  f_require_place : Addr
  d_require_place : FuncData
  f_line_at : Addr
  d_line_at : FuncData
  f_line_of : Addr
  d_line_of : FuncData
  f_law_state : Addr
  d_law_state : FuncData
  f_law_next : Addr
  d_law_next : FuncData
  f_law_whole : Addr
  d_law_whole : FuncData
  f_law_history : Addr
  d_law_history : FuncData
  f_law_end : Addr
  d_law_end : FuncData
  f_law_at : Addr
  d_law_at : FuncData
  f_law_error : Addr
  d_law_error : FuncData
  f_law_refused : Addr
  d_law_refused : FuncData
  f_law : Addr
  d_law : FuncData
  u_LAST_LINE : Value
  u_LAST_PLACE : Value
  u_LINES : Value
  C_Elder : Addr
  C_Full : Addr
  C_LineError : Addr
  C_NoCount : Addr
  C_NoHistory : Addr
  C_NoPlace : Addr
  C_TooEarly : Addr
  C_TooOld : Addr
  I_NoHistory : Addr
  I_NoPlace : Addr
/-- what the walk asks of the top -/
structure Txt (P : Program) (K : PySem.W.Frag) (mg : Str → Option Value) (a : Adr) : Prop where
  mC_Elder : mg "Elder" = some (.ref a.C_Elder)
  mC_Full : mg "Full" = some (.ref a.C_Full)
  mC_LineError : mg "LineError" = some (.ref a.C_LineError)
  mC_NoCount : mg "NoCount" = some (.ref a.C_NoCount)
  mC_NoHistory : mg "NoHistory" = some (.ref a.C_NoHistory)
  mC_NoPlace : mg "NoPlace" = some (.ref a.C_NoPlace)
  mC_TooEarly : mg "TooEarly" = some (.ref a.C_TooEarly)
  mC_TooOld : mg "TooOld" = some (.ref a.C_TooOld)
  Z_NoHistory : XIni0 P K a.C_NoHistory a.C_LineError a.I_NoHistory "zzplace"
  Z_NoPlace : XIni P K a.C_NoPlace a.C_LineError a.I_NoPlace "place"
  xg_NoHistory : XG K a.C_NoHistory
  ex_NoHistory_LineError : PySem.W.exmOne K (.ref a.C_NoHistory) (.ref a.C_LineError) = some true
  is_NoHistory_Elder : PySem.W.kitOne K (.ref a.C_NoHistory) (.ref a.C_Elder) = some false
  is_NoHistory_Full : PySem.W.kitOne K (.ref a.C_NoHistory) (.ref a.C_Full) = some false
  is_NoHistory_NoCount : PySem.W.kitOne K (.ref a.C_NoHistory) (.ref a.C_NoCount) = some false
  is_NoHistory_NoHistory : PySem.W.kitOne K (.ref a.C_NoHistory) (.ref a.C_NoHistory) = some true
  is_NoHistory_NoPlace : PySem.W.kitOne K (.ref a.C_NoHistory) (.ref a.C_NoPlace) = some false
  is_NoHistory_TooEarly : PySem.W.kitOne K (.ref a.C_NoHistory) (.ref a.C_TooEarly) = some false
  is_NoHistory_TooOld : PySem.W.kitOne K (.ref a.C_NoHistory) (.ref a.C_TooOld) = some false
  is_NoHistory_ValueError : PySem.W.kitOne K (.ref a.C_NoHistory) (.type "ValueError") = some true
  xg_NoPlace : XG K a.C_NoPlace
  ex_NoPlace_LineError : PySem.W.exmOne K (.ref a.C_NoPlace) (.ref a.C_LineError) = some true
  is_NoPlace_Elder : PySem.W.kitOne K (.ref a.C_NoPlace) (.ref a.C_Elder) = some false
  is_NoPlace_Full : PySem.W.kitOne K (.ref a.C_NoPlace) (.ref a.C_Full) = some false
  is_NoPlace_NoCount : PySem.W.kitOne K (.ref a.C_NoPlace) (.ref a.C_NoCount) = some false
  is_NoPlace_NoHistory : PySem.W.kitOne K (.ref a.C_NoPlace) (.ref a.C_NoHistory) = some false
  is_NoPlace_NoPlace : PySem.W.kitOne K (.ref a.C_NoPlace) (.ref a.C_NoPlace) = some true
  is_NoPlace_TooEarly : PySem.W.kitOne K (.ref a.C_NoPlace) (.ref a.C_TooEarly) = some false
  is_NoPlace_TooOld : PySem.W.kitOne K (.ref a.C_NoPlace) (.ref a.C_TooOld) = some false
  is_NoPlace_ValueError : PySem.W.kitOne K (.ref a.C_NoPlace) (.type "ValueError") = some true
  c_LAST_LINE : mg "LAST_LINE" = some a.u_LAST_LINE ∧ RelV (.int 1000000000) a.u_LAST_LINE
  c_LAST_PLACE : mg "LAST_PLACE" = some a.u_LAST_PLACE ∧ RelV (.int 1000000) a.u_LAST_PLACE
  c_LINES : mg "LINES" = some a.u_LINES ∧ RelV (.int 60) a.u_LINES
  b_ValueError : mg "ValueError" = none
  b_all : mg "all" = none
  b_bool : mg "bool" = none
  b_int : mg "int" = none
  b_isinstance : mg "isinstance" = none
  b_len : mg "len" = none
  b_list : mg "list" = none
  b_max : mg "max" = none
  b_min : mg "min" = none
  b_range : mg "range" = none
  b_repr : mg "repr" = none
  b_tuple : mg "tuple" = none
  b_zip : mg "zip" = none
  F_is_number : Fun K "is_number" "is_number" s_is_number a.f_is_number a.d_is_number
  m_is_number : mg "is_number" = some (.ref a.f_is_number)
  k_is_number : PySem.W.keepIn K (.ref a.f_is_number) = true
  bd_is_number : Binds K a.d_is_number ["thing"] []
  F_is_within : Fun K "is_within" "is_within" s_is_within a.f_is_within a.d_is_within
  m_is_within : mg "is_within" = some (.ref a.f_is_within)
  k_is_within : PySem.W.keepIn K (.ref a.f_is_within) = true
  bd_is_within : Binds K a.d_is_within ["thing", "least", "most"] []
  F_is_place : Fun K "is_place" "is_place" s_is_place a.f_is_place a.d_is_place
  m_is_place : mg "is_place" = some (.ref a.f_is_place)
  k_is_place : PySem.W.keepIn K (.ref a.f_is_place) = true
  bd_is_place : Binds K a.d_is_place ["thing"] []
  F_is_line : Fun K "is_line" "is_line" s_is_line a.f_is_line a.d_is_line
  m_is_line : mg "is_line" = some (.ref a.f_is_line)
  k_is_line : PySem.W.keepIn K (.ref a.f_is_line) = true
  bd_is_line : Binds K a.d_is_line ["thing"] []
  F_is_line_and_place : Fun K "is_line_and_place" "is_line_and_place" s_is_line_and_place a.f_is_line_and_place a.d_is_line_and_place
  m_is_line_and_place : mg "is_line_and_place" = some (.ref a.f_is_line_and_place)
  k_is_line_and_place : PySem.W.keepIn K (.ref a.f_is_line_and_place) = true
  bd_is_line_and_place : Binds K a.d_is_line_and_place ["thing"] []
  F_is_history : Fun K "is_history" "is_history" s_is_history a.f_is_history a.d_is_history
  m_is_history : mg "is_history" = some (.ref a.f_is_history)
  k_is_history : PySem.W.keepIn K (.ref a.f_is_history) = true
  bd_is_history : Binds K a.d_is_history ["thing"] []
  F_require_history : Fun K "require_history" "require_history" s_require_history a.f_require_history a.d_require_history
  m_require_history : mg "require_history" = some (.ref a.f_require_history)
  k_require_history : PySem.W.keepIn K (.ref a.f_require_history) = true
  bd_require_history : Binds K a.d_require_history ["thing"] []
  F_require_place : Fun K "require_place" "require_place" s_require_place a.f_require_place a.d_require_place
  m_require_place : mg "require_place" = some (.ref a.f_require_place)
  k_require_place : PySem.W.keepIn K (.ref a.f_require_place) = true
  bd_require_place : Binds K a.d_require_place ["thing"] []
  F_line_at : Fun K "line_at" "line_at" s_line_at a.f_line_at a.d_line_at
  m_line_at : mg "line_at" = some (.ref a.f_line_at)
  k_line_at : PySem.W.keepIn K (.ref a.f_line_at) = true
  bd_line_at : Binds K a.d_line_at ["history", "place"] []
  F_line_of : Fun K "line_of" "line_of" s_line_of a.f_line_of a.d_line_of
  m_line_of : mg "line_of" = some (.ref a.f_line_of)
  k_line_of : PySem.W.keepIn K (.ref a.f_line_of) = true
  bd_line_of : Binds K a.d_line_of ["history", "place"] []
  F_law_state : Fun K "_law_state" "_law_state" s_law_state a.f_law_state a.d_law_state
  m__law_state : mg "_law_state" = some (.ref a.f_law_state)
  k__law_state : PySem.W.keepIn K (.ref a.f_law_state) = true
  bd__law_state : Binds K a.d_law_state ["_law_script"] []
  F_law_next : Fun K "_law_next" "_law_next" s_law_next a.f_law_next a.d_law_next
  m__law_next : mg "_law_next" = some (.ref a.f_law_next)
  k__law_next : PySem.W.keepIn K (.ref a.f_law_next) = true
  bd__law_next : Binds K a.d_law_next ["_law_state_here", "_law_below"] []
  F_law_whole : Fun K "_law_whole" "_law_whole" s_law_whole a.f_law_whole a.d_law_whole
  m__law_whole : mg "_law_whole" = some (.ref a.f_law_whole)
  k__law_whole : PySem.W.keepIn K (.ref a.f_law_whole) = true
  bd__law_whole : Binds K a.d_law_whole ["_law_found"] []
  F_law_history : Fun K "_law_history" "_law_history" s_law_history a.f_law_history a.d_law_history
  m__law_history : mg "_law_history" = some (.ref a.f_law_history)
  k__law_history : PySem.W.keepIn K (.ref a.f_law_history) = true
  bd__law_history : Binds K a.d_law_history ["_law_state_here"] []
  F_law_end : Fun K "_law_end" "_law_end" s_law_end a.f_law_end a.d_law_end
  m__law_end : mg "_law_end" = some (.ref a.f_law_end)
  k__law_end : PySem.W.keepIn K (.ref a.f_law_end) = true
  bd__law_end : Binds K a.d_law_end ["_law_state_here", "_law_history_here"] []
  F_law_at : Fun K "_law_at" "_law_at" s_law_at a.f_law_at a.d_law_at
  m__law_at : mg "_law_at" = some (.ref a.f_law_at)
  k__law_at : PySem.W.keepIn K (.ref a.f_law_at) = true
  bd__law_at : Binds K a.d_law_at ["_law_history_here", "_law_place"] []
  F_law_error : Fun K "_law_error" "_law_error" s_law_error a.f_law_error a.d_law_error
  m__law_error : mg "_law_error" = some (.ref a.f_law_error)
  k__law_error : PySem.W.keepIn K (.ref a.f_law_error) = true
  bd__law_error : Binds K a.d_law_error ["_law_history_here", "_law_place"] []
  F_law_refused : Fun K "_law_refused" "_law_refused" s_law_refused a.f_law_refused a.d_law_refused
  m__law_refused : mg "_law_refused" = some (.ref a.f_law_refused)
  k__law_refused : PySem.W.keepIn K (.ref a.f_law_refused) = true
  bd__law_refused : Binds K a.d_law_refused ["_law_history_here", "_law_place", "_law_names"] []
  F_law : Fun K "law" "law" s_law a.f_law a.d_law
  m_law : mg "law" = some (.ref a.f_law)
  k_law : PySem.W.keepIn K (.ref a.f_law) = true
  bd_law : Binds K a.d_law ["_law_script"] []
  bl_law : ∀ (s : Shared) (u : Value), BindsTo s a.d_law ⟨[u], []⟩ [("_law_script", u)]
section
variable {P : Program} {w : World} {K : PySem.W.Frag} {mg : Str → Option Value} {base : Heap} {a : Adr}
def sp_is_number (K : PySem.W.Frag) : Sp := fun vs H Q _ => ∃ (N : List Addr) (x : V) (d : PyData), vs = [x] ∧ Dt K N H x d ∧ Q (.bl (Mt.numD d)) H
theorem ok_is_number (T : Txt P K mg a)  : FnOk P w K mg base CX0 1 a.f_is_number a.d_is_number ["thing"] (sp_is_number K) := by
  refine T.F_is_number.ok sc_is_number (fun vs H Q E h => ?_) (fun cdv A outer s H vs Q E hr h => ?_)
  · obtain ⟨N, x, d, rfl, _⟩ := h; rfl
  · obtain ⟨N, x, d, rfl, hd, k⟩ := h
    refine exW ⟨_, (qss_one (qs_ret (pe_and (qe_callB cn_isi (by rfl) T.b_isinstance (by decide +kernel) (qa (pv 0 (by rfl) (by walk_at "vis") (by decide) (by decide)) (qa (pe_bltn (by rfl) T.b_int (by decide +kernel) (v := .ty "int") rfl (by decide) (by decide)) qa_nil (by rfl)) (by rfl)) (by decide) (by decide) (by rfl) (by rfl)) (pe_one (pe_not (qe_callB cn_isi (by rfl) T.b_isinstance (by decide +kernel) (qa (pv 0 (by rfl) (by walk_at "vis") (by decide) (by decide)) (qa (pe_bltn (by rfl) T.b_bool (by decide +kernel) (v := .ty "bool") rfl (by decide) (by decide)) qa_nil (by rfl)) (by rfl)) (by decide) (by decide) (by rfl) (by rfl))))))), ?_⟩
    try dsimp only [cxOf]
    walk_at "rd"
    cases d with
    | int i => dsimp only [isIntD]; walk_at "rd"; dsimp only [isBoolD]; walk_at "rd"; exact k
    | bool b => dsimp only [isIntD]; walk_at "rd"; dsimp only [isBoolD]; walk_at "rd"; exact k
    | _ => dsimp only [isIntD]; walk_at "rd"; exact k

def sp_is_within (K : PySem.W.Frag) : Sp := fun vs H Q _ => ∃ (N : List Addr) (x : V) (d : PyData) (lo hi : Int), vs = [x, .int lo, .int hi] ∧ Dt K N H x d ∧ Q (.bl (Mt.withinD lo hi d)) H
theorem ok_is_within (T : Txt P K mg a) (G_is_number : FnOk P w K mg base CX0 1 a.f_is_number a.d_is_number ["thing"] (sp_is_number K)) : FnOk P w K mg base CX0 2 a.f_is_within a.d_is_within ["thing", "least", "most"] (sp_is_within K) := by
  refine T.F_is_within.ok sc_is_within (fun vs H Q E h => ?_) (fun cdv A outer s H vs Q E hr h => ?_)
  · obtain ⟨N, x, d, lo, hi, rfl, _⟩ := h; rfl
  · obtain ⟨N, x, d, lo, hi, rfl, hd, k⟩ := h
    refine exW ⟨_, (qss_one (qs_ret (pe_and (qe_call G_is_number (hr.mono (by decide)) (by rfl) T.m_is_number T.k_is_number T.bd_is_number .nil pass0 (qa (pv 0 (by rfl) (by walk_at "vis") (by decide) (by decide)) qa_nil (by rfl)) (by decide) (by rfl) (by rfl)) (pe_one (pe_chain op_le op_le (pv 1 (by rfl) (by walk_at "vis") (by decide) (by decide)) (pv 0 (by rfl) (by walk_at "vis") (by decide) (by decide)) (pv 2 (by rfl) (by walk_at "vis") (by decide) (by decide)) (by with_unfolding_all rfl)))))), ?_⟩
    try dsimp only [cxOf]
    walk_at "rd"
    refine ⟨N, x, d, rfl, hd, rd_bl' ?_⟩
    cases hd with
    | int i =>
      dsimp only [Mt.numD]
      walk_at "rd"
      refine rd_ite2 (fun hc => ?_) (fun hc => ?_)
      · walk_at "rd"
        simpa only [Mt.withinD, hc, Bool.true_and] using k
      · simpa only [Mt.withinD, hc, Bool.false_and] using k
    | _ => dsimp only [Mt.numD]; walk_at "rd"; exact k

def sp_is_place (K : PySem.W.Frag) : Sp := fun vs H Q _ => ∃ (N : List Addr) (x : V) (d : PyData), vs = [x] ∧ Dt K N H x d ∧ Q (.bl (Mt.withinD 0 1000000 d)) H
theorem ok_is_place (T : Txt P K mg a) (G_is_within : FnOk P w K mg base CX0 2 a.f_is_within a.d_is_within ["thing", "least", "most"] (sp_is_within K)) : FnOk P w K mg base CX0 3 a.f_is_place a.d_is_place ["thing"] (sp_is_place K) := by
  refine T.F_is_place.ok sc_is_place (fun vs H Q E h => ?_) (fun cdv A outer s H vs Q E hr h => ?_)
  · obtain ⟨N, x, d, rfl, _⟩ := h; rfl
  · obtain ⟨N, x, d, rfl, hd, k⟩ := h
    refine exW ⟨_, (qss_one (qs_ret (qe_call G_is_within (hr.mono (by decide)) (by rfl) T.m_is_within T.k_is_within T.bd_is_within .nil pass0 (qa (pv 0 (by rfl) (by walk_at "vis") (by decide) (by decide)) (qa pe_int (qa (pe_glob (by rfl) T.c_LAST_PLACE.1 T.c_LAST_PLACE.2 (by decide)) qa_nil (by rfl)) (by rfl)) (by rfl)) (by decide) (by rfl) (by rfl)))), ?_⟩
    try dsimp only [cxOf]
    walk_at "rd"
    exact ⟨N, x, d, 0, 1000000, rfl, hd, k⟩

def sp_is_line (K : PySem.W.Frag) : Sp := fun vs H Q _ => ∃ (N : List Addr) (x : V) (d : PyData), vs = [x] ∧ Dt K N H x d ∧ Q (.bl (Mt.withinD 0 1000000000 d)) H
theorem ok_is_line (T : Txt P K mg a) (G_is_within : FnOk P w K mg base CX0 2 a.f_is_within a.d_is_within ["thing", "least", "most"] (sp_is_within K)) : FnOk P w K mg base CX0 3 a.f_is_line a.d_is_line ["thing"] (sp_is_line K) := by
  refine T.F_is_line.ok sc_is_line (fun vs H Q E h => ?_) (fun cdv A outer s H vs Q E hr h => ?_)
  · obtain ⟨N, x, d, rfl, _⟩ := h; rfl
  · obtain ⟨N, x, d, rfl, hd, k⟩ := h
    refine exW ⟨_, (qss_one (qs_ret (qe_call G_is_within (hr.mono (by decide)) (by rfl) T.m_is_within T.k_is_within T.bd_is_within .nil pass0 (qa (pv 0 (by rfl) (by walk_at "vis") (by decide) (by decide)) (qa pe_int (qa (pe_glob (by rfl) T.c_LAST_LINE.1 T.c_LAST_LINE.2 (by decide)) qa_nil (by rfl)) (by rfl)) (by rfl)) (by decide) (by rfl) (by rfl)))), ?_⟩
    try dsimp only [cxOf]
    walk_at "rd"
    exact ⟨N, x, d, 0, 1000000000, rfl, hd, k⟩

def sp_is_line_and_place (K : PySem.W.Frag) : Sp := fun vs H Q _ => ∃ (N : List Addr) (x : V) (d : PyData), vs = [x] ∧ Dt K N H x d ∧ Q (.bl (Mt.begunD d)) H
theorem ok_is_line_and_place (T : Txt P K mg a) (G_is_line : FnOk P w K mg base CX0 3 a.f_is_line a.d_is_line ["thing"] (sp_is_line K)) (G_is_place : FnOk P w K mg base CX0 3 a.f_is_place a.d_is_place ["thing"] (sp_is_place K)) : FnOk P w K mg base CX0 4 a.f_is_line_and_place a.d_is_line_and_place ["thing"] (sp_is_line_and_place K) := by
  refine T.F_is_line_and_place.ok sc_is_line_and_place (fun vs H Q E h => ?_) (fun cdv A outer s H vs Q E hr h => ?_)
  · obtain ⟨N, x, d, rfl, _⟩ := h; rfl
  · obtain ⟨N, x, d, rfl, hd, k⟩ := h
    refine exW ⟨_, (qss_one (qs_ret (pe_and (qe_callB cn_isi (by rfl) T.b_isinstance (by decide +kernel) (qa (pv 0 (by rfl) (by walk_at "vis") (by decide) (by decide)) (qa (pe_bltn (by rfl) T.b_tuple (by decide +kernel) (v := .ty "tuple") rfl (by decide) (by decide)) qa_nil (by rfl)) (by rfl)) (by decide) (by decide) (by rfl) (by rfl)) (pe_and (pe_cmpR op_eq (qe_callB cn_len (by rfl) T.b_len (by decide +kernel) (qa (pv 0 (by rfl) (by walk_at "vis") (by decide) (by decide)) qa_nil (by rfl)) (by decide) (by decide) (by rfl) (by rfl)) pe_int (nomark _)) (pe_and (qe_call G_is_line (hr.mono (by decide)) (by rfl) T.m_is_line T.k_is_line T.bd_is_line .nil pass0 (qa (pe_ix ix_tup (pv 0 (by rfl) (by walk_at "vis") (by decide) (by decide)) pe_int (fun _ _ => rfl)) qa_nil (by rfl)) (by decide) (by rfl) (by rfl)) (pe_one (qe_call G_is_place (hr.mono (by decide)) (by rfl) T.m_is_place T.k_is_place T.bd_is_place .nil pass0 (qa (pe_ix ix_tup (pv 0 (by rfl) (by walk_at "vis") (by decide) (by decide)) pe_int (fun _ _ => rfl)) qa_nil (by rfl)) (by decide) (by rfl) (by rfl)))))))), ?_⟩
    try dsimp only [cxOf]
    walk_at "rd"
    cases hd with
    | tup hq hn hr =>
      rename_i p xs ds
      dsimp only [isTupD]
      walk_at "rd"
      have hlen := hr.length
      refine rd_ite2 (fun hc => ?_) (fun hc => ?_)
      · have e2 : ds.length = 2 := by
          have := of_decide_eq_true hc
          injection this with this
          omega
        cases hr with
        | nil => simp at e2
        | cons q1 hr => cases hr with
          | nil => simp at e2
          | cons q2 hr => cases hr with
            | cons q3 hr => simp at e2
            | nil =>
              rename_i d1 x1 d2 x2
              walk_at "rd"
              refine ⟨N, _, _, rfl, q1, rd_bl' ?_⟩
              refine rd_ite2 (fun h1 => ?_) (fun h1 => ?_)
              · walk_at "rd"
                refine ⟨N, _, _, rfl, q2, ?_⟩
                simpa only [Mt.begunD, h1, Bool.true_and] using k
              · simpa only [Mt.begunD, h1, Bool.false_and] using k
      · have e2 : ds.length ≠ 2 := by
          intro e
          rw [hlen, e] at hc
          simp at hc
        have : Mt.begunD (.tuple ds) = false := by
          unfold Mt.begunD
          split
          · rename_i heq; cases heq; simp at e2
          · rfl
        rw [this] at k
        exact k
    | _ => dsimp only [isTupD]; walk_at "rd"; exact k

def sp_is_history (K : PySem.W.Frag) : Sp := fun vs H Q _ => ∃ (N : List Addr) (x : V) (d : PyData), vs = [x] ∧ Dt K N H x d ∧ ∀ H', Same H H' → Q (.bl (Mt.histD d)) H'
theorem ok_is_history (T : Txt P K mg a) (G_is_line_and_place : FnOk P w K mg base CX0 4 a.f_is_line_and_place a.d_is_line_and_place ["thing"] (sp_is_line_and_place K)) : FnOk P w K mg base CX0 5 a.f_is_history a.d_is_history ["thing"] (sp_is_history K) := by
  refine T.F_is_history.ok sc_is_history (fun vs H Q E h => ?_) (fun cdv A outer s H vs Q E hr h => ?_)
  · obtain ⟨N, x, d, rfl, _⟩ := h; rfl
  · obtain ⟨N, x, d, rfl, hd, k⟩ := h
    refine exW ⟨_, (qss_cons (qs_if (pw_or (pt_not (pt_val (qe_callB cn_isi (by rfl) T.b_isinstance (by decide +kernel) (qa (pv 0 (by rfl) (by walk_at "vis") (by decide) (by decide)) (qa (pe_bltn (by rfl) T.b_tuple (by decide +kernel) (v := .ty "tuple") rfl (by decide) (by decide)) qa_nil (by rfl)) (by rfl)) (by decide) (by decide) (by rfl) (by rfl)) (by intro _; rfl))) (pw_or1 (pt_not (pt_chain op_le op_le pe_int (qe_callB cn_len (by rfl) T.b_len (by decide +kernel) (qa (pv 0 (by rfl) (by walk_at "vis") (by decide) (by decide)) qa_nil (by rfl)) (by decide) (by decide) (by rfl) (by rfl)) (pe_glob (by rfl) T.c_LINES.1 T.c_LINES.2 (by decide)) (by with_unfolding_all rfl))))).pt
        (qss_one (qs_ret pe_bl))
        qss_nil)
      (qss_cons (qs_if (pw_or (pt_not (pt_val (qe_callB (cn_all (by rfl)) (by rfl) T.b_all (by decide +kernel) (qa (by
        refine' pe_comp (NC := ["pair"]) (fr := [none]) ?B rfl ?hi ?hg ?ht ?he (by intro _; rfl)
        case B => exact ⟨rfl, rfl, by decide +kernel, by decide +kernel, rfl, ⟨trivial, trivial⟩⟩
        case hi => exact (pi_tup (pv 0 (by rfl) (by walk_at "vis") (by decide) (by decide)))
        case hg => intro _ _ _; exact (pg_name (i := 0) (show (["pair"] : List Str).Nodup by decide +kernel) rfl (Or.inl rfl) (by first | exact Or.inl rfl | exact Or.inr rfl))
        case ht => intro _ _ _; exact pf_nil
        case he => intro _ _ _; exact (qe_call G_is_line_and_place (hr.mono (by decide)) (by rfl) T.m_is_line_and_place T.k_is_line_and_place T.bd_is_line_and_place .nil pass0 (qa (pv 0 (by rfl) (by walk_at "vis") (by decide) (by decide)) qa_nil (by rfl)) (by decide) (by rfl) (by rfl))) qa_nil (by rfl)) (by decide) (by decide) (by rfl) (by rfl)) (by intro _; rfl))) (pw_or1 (pt_cmpR op_ne (pe_ix ix_tup (pe_ix ix_tup (pv 0 (by rfl) (by walk_at "vis") (by decide) (by decide)) pe_int (fun _ _ => rfl)) pe_int (fun _ _ => rfl)) pe_int (nomark _)))).pt
        (qss_one (qs_ret pe_bl))
        qss_nil)
      (qss_one (qs_ret (qe_callB (cn_all (by rfl)) (by rfl) T.b_all (by decide +kernel) (qa (by
        refine' pe_comp (NC := ["ahead", "behind"]) (fr := [none, none]) ?B rfl ?hi ?hg ?ht ?he (by intro _; rfl)
        case B => exact ⟨rfl, rfl, by decide +kernel, by decide +kernel, rfl, ⟨trivial, trivial, trivial⟩⟩
        case hi => exact (qi_zip (by rfl) T.b_zip (qa (pv 0 (by rfl) (by walk_at "vis") (by decide) (by decide)) (qa (pe_slice sl_tupG (pv 0 (by rfl) (by walk_at "vis") (by decide) (by decide)) (po_some pe_int) po_none) qa_nil (by rfl)) (by rfl)) (by rfl) (by rfl))
        case hg => intro _ _ _; exact (pg_tupK (K := K) (n := 2) (by rfl) rfl (pgs_cons (pg_name (i := 0) (show (["ahead", "behind"] : List Str).Nodup by decide +kernel) rfl (Or.inl rfl) (by first | exact Or.inl rfl | exact Or.inr rfl)) (pgs_cons (pg_name (i := 1) (show (["ahead", "behind"] : List Str).Nodup by decide +kernel) rfl (Or.inl rfl) (by first | exact Or.inl rfl | exact Or.inr rfl)) pgs_nil (by rfl)) (by rfl)) (by rfl) (by rfl))
        case ht => intro _ _ _; exact pf_nil
        case he => intro _ _ _; exact (pe_and (pe_cmpR op_lt (pe_ix (ix_tupK (K := K) (by rfl)) (pv 0 (by rfl) (by walk_at "vis") (by decide) (by decide)) pe_int (fun _ _ => rfl)) (pe_ix (ix_tupK (K := K) (by rfl)) (pv 1 (by rfl) (by walk_at "vis") (by decide) (by decide)) pe_int (fun _ _ => rfl)) (nomark _)) (pe_one (pe_cmpR op_le (pe_ix (ix_tupK (K := K) (by rfl)) (pv 0 (by rfl) (by walk_at "vis") (by decide) (by decide)) pe_int (fun _ _ => rfl)) (pe_ix (ix_tupK (K := K) (by rfl)) (pv 1 (by rfl) (by walk_at "vis") (by decide) (by decide)) pe_int (fun _ _ => rfl)) (nomark _))))) qa_nil (by rfl)) (by decide) (by decide) (by rfl) (by rfl)))))), ?_⟩
    try dsimp only [cxOf]
    walk_at "rd"
    cases hd with
    | tup hq hn hr =>
      rename_i p xs ds
      have hlen := hr.length
      dsimp only [isTupD]
      walk_at "rd"
      have short : ¬ (1 ≤ ds.length ∧ ds.length ≤ 60) → Q (.bl false) H := fun hs => by
        have e : Mt.histD (.tuple ds) = false := by
          simp only [Mt.histD, Bool.and_eq_false_iff, decide_eq_false_iff_not]
          omega
        have := k H (Same.refl H)
        rwa [e] at this
      refine rd_ite2 (fun h1 => ?_) (fun h1 => ?_)
      · walk_at "rd"
        refine rd_ite2 (fun h2 => ?_) (fun h2 => ?_)
        · have h2' := h2
          simp only [Bool.not_eq_true', decide_eq_false_iff_not] at h2'
          walk_at "rd"
          exact short (by omega)
        · have g1 := of_decide_eq_true h1
          simp only [Bool.not_eq_false', decide_eq_true_eq] at h2
          have l1 : 1 ≤ ds.length := by omega
          have l2 : ds.length ≤ 60 := by omega
          walk_at "rd"
          refine ⟨p, rfl, ⟨xs, hq⟩, ?_⟩
          intro acc hacc nka
          refine comp_by ds.length ?_ (fun i vs σc H' => Same H H' ∧ (∃ o, σc = [o]) ∧ vs = (ds.take i).map fun d => V.bl (Mt.begunD d)) ?_ ?_ ?_
          · have : sizeLine = 16777216 := rfl
            omega
          · exact ⟨(Same.refl H).upd2 hacc, ⟨none, rfl⟩, by simp⟩
          · rintro i vs σc H' hi hl ha ⟨sm, ⟨o, rfl⟩, rfl⟩
            obtain ⟨v, d, e1, e2, e3⟩ := hr.at hi
            refine ⟨⟨xs, v, sm.tupS hq, e1⟩, ?_⟩
            rintro x H2 ⟨rfl, hx⟩ R hR
            have ex := hx xs (sm.tupS hq)
            rw [e1] at ex; cases ex
            walk_at "rd"
            refine ⟨N, v, d, rfl, e3.ext (Ext.same sm), hR _ _ _ ha ⟨sm.upd2 hacc, ⟨some v, rfl⟩, ?_⟩⟩
            rw [List.take_add_one, e2]
            simp
          · rintro vs σc H' hl ha ⟨sm, _, rfl⟩
            refine ⟨⟨xs, sm.tupS hq, by omega⟩, ?_⟩
            rw [List.take_length] at ha
            have hbs : SqL K H' acc ((ds.map Mt.begunD).map V.bl) := SqL.of (by rw [ha, List.map_map]; rfl)
            walk_at "rd"
            refine rd_all hbs ?_
            have eall : (ds.map Mt.begunD).all id = ds.all Mt.begunD := by rw [List.all_map]; rfl
            rw [eall]
            walk_at "rd"
            have no : Mt.histD (.tuple ds) = false → ∀ H2, Same H H2 → Q (.bl false) H2 := fun e H2 s2 => by
              have := k H2 s2
              rwa [e] at this
            refine rd_ite2 (fun hb => ?_) (fun hb => ?_)
            · simp only [Bool.not_eq_true'] at hb
              walk_at "rd"
              exact no (Mt.hist_not_begun hb) _ sm
            · simp only [Bool.not_eq_false'] at hb
              have pairs : ∀ i, i < ds.length → ∃ v a b, xs[i]? = some v ∧ ds[i]? = some (.tuple [.int a, .int b]) ∧ ∃ q, v = .ref q ∧ SqT K H q [.int a, .int b] := fun i hi => by
                obtain ⟨v, d, e1, e2, e3⟩ := hr.at hi
                obtain ⟨a, b, rfl, _⟩ := Mt.begun_shape (List.all_eq_true.mp hb d (List.mem_of_getElem? e2))
                obtain ⟨q, rfl, hq2, _⟩ := e3.pair
                exact ⟨_, a, b, e1, e2, q, rfl, hq2⟩
              obtain ⟨v0, a0, b0, e1, e2, q0, rfl, hq0⟩ := pairs 0 (by omega)
              walk_at "rd"
              refine rd_ixT (sm.tupS hq) (atI_nat (j := 0) e1) ?_
              refine rd_c ?_
              refine rd_ixT (sm.tupS hq0) (atI_nat (j := 1) rfl) ?_
              walk_at "rd"
              have f0 : Mt.first0 ds = decide (b0 = 0) := by
                cases ds with
                | nil => simp at l1
                | cons d r => simp only [List.getElem?_cons_zero, Option.some.injEq] at e2; subst e2; rfl
              refine rd_ite2 (fun hz => ?_) (fun hz => ?_)
              · walk_at "rd"
                refine no ?_ _ sm
                have : Mt.first0 ds = false := by
                  rw [f0]
                  simpa using hz
                simp only [Mt.histD, this, Bool.and_false]
              · have hf : Mt.first0 ds = true := by
                  rw [f0]
                  simpa using hz
                walk_at "rd"
                refine rd_slG (sm.tupS hq) ?_
                intro q H2 _ s2 hq2
                rw [cutV_tail] at hq2
                walk_at "rd"
                have sm2 : Same H H2 := sm.trans s2
                refine ⟨p, q, rfl, ⟨xs, sm2.tupS hq⟩, ⟨xs.drop 1, hq2⟩, ?_⟩
                intro ac2 hac2 nka2
                refine comp_by (ds.length - 1) ?_ (fun i vs σc H' => Same H2 H' ∧ (∃ o1 o2, σc = [o1, o2]) ∧ vs = (List.range i).map fun j => V.bl (Mt.rise ds j)) ?_ ?_ ?_
                · have : sizeLine = 16777216 := rfl
                  omega
                · exact ⟨(Same.refl H2).upd2 hac2, ⟨none, none, rfl⟩, by simp⟩
                · rintro i vs σc H3 hi hl3 ha3 ⟨s3, ⟨o1, o2, rfl⟩, rfl⟩
                  obtain ⟨v1, a1, b1, f1, f2, r1, rfl, g1'⟩ := pairs i (by omega)
                  obtain ⟨v2, a2, b2, f3, f4, r2, rfl, g2'⟩ := pairs (i + 1) (by omega)
                  have f3' : (xs.drop 1)[i]? = some (.ref r2) := by rw [List.getElem?_drop, Nat.add_comm]; exact f3
                  have m3 : Same H H3 := sm2.trans s3
                  refine ⟨⟨xs, xs.drop 1, _, _, m3.tupS hq, s3.tupS hq2, f1, f3'⟩, ?_⟩
                  rintro x H4 ⟨t, y1, y2, ht, hy1, hy2, rfl, rfl⟩ R hR
                  have ey1 := hy1 xs (m3.tupS hq)
                  have ey2 := hy2 _ (s3.tupS hq2)
                  rw [f1] at ey1; cases ey1
                  rw [f3'] at ey2; cases ey2
                  have m4 : Same H (upd H3 t (.tup [.ref r1, .ref r2])) := m3.trans (Same.upd ht)
                  have k1 := m4.tupS g1'
                  have k2 := m4.tupS g2'
                  have nt : ac2 ≠ t := fun z => by rw [z, ht] at ha3; cases ha3
                  have ris : Mt.rise ds i = (decide (a1 < a2) && decide (b1 ≤ b2)) := by simp only [Mt.rise, f2, f4]
                  have fin : ∀ b : Bool, Mt.rise ds i = b → R [some (.ref r1), some (.ref r2)] (.bl b) (upd H3 t (.tup [.ref r1, .ref r2])) := fun b e => by
                    refine hR _ _ _ (by rw [upd_ne nt]; exact ha3) ⟨?_, ⟨_, _, rfl⟩, ?_⟩
                    · exact (s3.trans (Same.upd ht)).upd2 hac2
                    · rw [List.range_succ, List.map_append, ← e]; rfl
                  walk_at "rd"
                  refine rd_ite2 (fun hx => ?_) (fun hx => ?_)
                  · walk_at "rd"
                    exact fin _ (by rw [ris, hx, Bool.true_and])
                  · exact fin _ (by rw [ris, hx, Bool.false_and])
                · rintro vs σc H3 hl3 ha3 ⟨s3, _, rfl⟩
                  have m3 : Same H H3 := sm2.trans s3
                  refine ⟨⟨xs, xs.drop 1, m3.tupS hq, s3.tupS hq2, .inr (by rw [List.length_drop]; omega)⟩, ?_⟩
                  walk_at "rd"
                  have hbs2 : SqL K H3 ac2 (((List.range (ds.length - 1)).map (Mt.rise ds)).map V.bl) := SqL.of (by rw [ha3, List.map_map]; rfl)
                  refine rd_all hbs2 ?_
                  have := k H3 m3
                  rw [Mt.hist_of_begun l1 l2 hb hf] at this
                  rw [List.all_map]
                  exact this
      · walk_at "rd"
        simp only [decide_eq_false_iff_not] at h1
        exact short (by omega)
    | _ => dsimp only [isTupD]; walk_at "rd"; exact k H (Same.refl H)

def sp_require_history (K : PySem.W.Frag) (a : Adr) : Sp := fun vs H Q E => ∃ (N : List Addr) (x : V) (d : PyData), vs = [x] ∧ Dt K N H x d ∧ (Mt.histD d = true → ∀ H', Same H H' → Q .non H') ∧ (Mt.histD d = false → ∀ H', Same H H' → E (.ref a.C_NoHistory) none H')
theorem ok_require_history (T : Txt P K mg a) (G_is_history : FnOk P w K mg base CX0 5 a.f_is_history a.d_is_history ["thing"] (sp_is_history K)) : FnOk P w K mg base (CX1 P w) 6 a.f_require_history a.d_require_history ["thing"] (sp_require_history K a) := by
  refine T.F_require_history.okX sc_require_history (fun vs H Q E h => ?_) (fun cdv A outer s H vs Q E hr h => ?_)
  · obtain ⟨N, x, d, rfl, _⟩ := h; rfl
  · obtain ⟨N, x, d, rfl, hd, k1, k2⟩ := h
    refine exW ⟨_, (qss_one (qs_if (pt_not (pt_val (qe_call G_is_history (hr.mono (by decide)) (by rfl) T.m_is_history T.k_is_history T.bd_is_history .nil pass0 (qa (pv 0 (by rfl) (by walk_at "vis") (by decide) (by decide)) qa_nil (by rfl)) (by decide) (by rfl) (by rfl)) (by intro _; rfl)))
        (qss_one (qs_raise0i px1 (by rfl) (hr.mono (by decide)) (by rfl) T.mC_NoHistory T.Z_NoHistory (by decide)))
        qss_nil)), ?_⟩
    try dsimp only [cxOf]
    walk_at "rd"
    refine ⟨N, x, d, rfl, hd, fun H1 s1 => ?_⟩
    cases hh : Mt.histD d with
    | true =>
      walk_at "rd"
      exact k1 hh _ s1
    | false =>
      walk_at "rd"
      exact k2 hh _ s1

def sp_require_place (K : PySem.W.Frag) (a : Adr) : Sp := fun vs H Q E => ∃ (N : List Addr) (x : V) (d : PyData), vs = [x] ∧ Dt K N H x d ∧ (Mt.withinD 0 1000000 d = true → Q .non H) ∧ (Mt.withinD 0 1000000 d = false → ∀ dx, H dx = none → E (.ref a.C_NoPlace) (some dx) (upd H dx (.xd [("place", x)])))
theorem ok_require_place (T : Txt P K mg a) (G_is_place : FnOk P w K mg base CX0 3 a.f_is_place a.d_is_place ["thing"] (sp_is_place K)) : FnOk P w K mg base (CX1 P w) 4 a.f_require_place a.d_require_place ["thing"] (sp_require_place K a) := by
  refine T.F_require_place.okX sc_require_place (fun vs H Q E h => ?_) (fun cdv A outer s H vs Q E hr h => ?_)
  · obtain ⟨N, x, d, rfl, _⟩ := h; rfl
  · obtain ⟨N, x, d, rfl, hd, k1, k2⟩ := h
    refine exW ⟨_, (qss_one (qs_if (pt_not (pt_val (qe_call G_is_place (hr.mono (by decide)) (by rfl) T.m_is_place T.k_is_place T.bd_is_place .nil pass0 (qa (pv 0 (by rfl) (by walk_at "vis") (by decide) (by decide)) qa_nil (by rfl)) (by decide) (by rfl) (by rfl)) (by intro _; rfl)))
        (qss_one (qs_raise1 px1 (by rfl) (hr.mono (by decide)) (by rfl) T.mC_NoPlace T.Z_NoPlace (qa (pv 0 (by rfl) (by walk_at "vis") (by decide) (by decide)) qa_nil (by rfl)) (by rfl) (by decide)))
        qss_nil)), ?_⟩
    try dsimp only [cxOf]
    walk_at "rd"
    refine ⟨N, x, d, rfl, hd, ?_⟩
    cases hh : Mt.withinD 0 1000000 d with
    | true =>
      walk_at "rd"
      exact k1 hh
    | false =>
      walk_at "rd"
      exact ⟨_, rfl, k2 hh⟩

def sp_line_at (K : PySem.W.Frag) : Sp := fun vs H Q _ => ∃ (N : List Addr) (hp : Addr) (hs : List (Int × Int)) (pl : Int), vs = [.ref hp, .int pl] ∧ Mt.HOK hs ∧ Dt K N H (.ref hp) (.tuple (hs.map Mt.pr)) ∧ 0 ≤ pl ∧ pl ≤ 2000000 ∧ ∀ H', Same H H' → Q (.int (Mt.lineOf hs pl)) H'
theorem ok_line_at (T : Txt P K mg a)  : FnOk P w K mg base CX0 1 a.f_line_at a.d_line_at ["history", "place"] (sp_line_at K) := by
  refine T.F_line_at.ok sc_line_at (fun vs H Q E h => ?_) (fun cdv A outer s H vs Q E hr h => ?_)
  · obtain ⟨N, hp, hs, pl, rfl, _⟩ := h; rfl
  · obtain ⟨N, hp, hs, pl, rfl, ho, hd, h0, h1, k⟩ := h
    refine exW ⟨_, (qss_cons (qs_set (i := 2) sc_line_at.nd rfl (Or.inl rfl) (pe_ix ix_tup (pe_ix ix_tup (pv 0 (by rfl) (by walk_at "vis") (by decide) (by decide)) pe_int (fun _ _ => rfl)) pe_int (fun _ _ => rfl)) (by rfl) (by first | exact Or.inl rfl | exact Or.inr rfl))
      (qss_cons (qs_for PassesOwn.never rfl (pi_tup (pv 0 (by rfl) (by walk_at "vis") (by decide) (by decide))) (pg_tup (n := 2) rfl (pgs_cons (pg_name (i := 3) (show (["history", "place", "found", "line", "fork"] : List Str).Nodup by decide +kernel) rfl (Or.inl rfl) (by first | exact Or.inl rfl | exact Or.inr rfl)) (pgs_cons (pg_name (i := 4) (show (["history", "place", "found", "line", "fork"] : List Str).Nodup by decide +kernel) rfl (Or.inl rfl) (by first | exact Or.inl rfl | exact Or.inr rfl)) pgs_nil (by rfl)) (by rfl)) (by rfl) (by rfl))
        (qss_one (qs_if (pt_cmpR op_lt (pv 4 (by rfl) (by walk_at "vis") (by decide) (by decide)) (pv 1 (by rfl) (by walk_at "vis") (by decide) (by decide)) (nomark _))
          (qss_one (qs_set (i := 2) sc_line_at.nd rfl (Or.inl rfl) (pv 3 (by rfl) (by walk_at "vis") (by decide) (by decide)) (by rfl) (by first | exact Or.inl rfl | exact Or.inr rfl)))
          qss_nil)) (by intro _; rfl))
      (qss_one (qs_ret (pv 2 (by rfl) (by walk_at "vis") (by decide) (by decide)))))), ?_⟩
    try dsimp only [cxOf]
    have s1 := Same.refl H
    have hd1 := hd
    walk_at "rd"
    cases hd1 with
    | tup hq hn hr =>
      rename_i xs
      have g1 := ho.len1
      have hl := hr.length
      rw [List.length_map] at hl
      obtain ⟨v0, d0, f1, f2, f3⟩ := hr.at (i := 0) (by rw [List.length_map]; omega)
      obtain ⟨l0, fk0, hs1, rfl⟩ : ∃ l0 fk0 hs1, hs = (l0, fk0) :: hs1 := by
        cases hs with
        | nil => simp at g1
        | cons p r => exact ⟨p.1, p.2, r, rfl⟩
      have e0 : d0 = Mt.pr (l0, fk0) := by simpa using f2.symm
      rw [e0] at f3
      obtain ⟨q0, rfl, hq0, _⟩ := f3.pair
      refine rd_ixT hq (atI_nat (j := 0) f1) ?_
      walk_at "rd"
      refine ⟨_, rfl, ⟨xs, hq⟩, ?_⟩
      refine for_tupW (xs := xs) (fun i σ' H' => ∃ o3 o4 : Option V, σ' = [some (.ref hp), some (.int pl), some (.int ((((l0, fk0) :: hs1).take i).foldl (Mt.stepL pl) l0)), o3, o4] ∧ H' = H) ?_ ?_ ?_ ?_
      · exact ⟨_, _, rfl, rfl⟩
      · rintro i σ' H2 hi ⟨o3, o4, rfl, rfl⟩
        exact hq
      · rintro i x σ' H2 hx ⟨o3, o4, rfl, rfl⟩
        obtain ⟨d, e1, e2⟩ := hr.get hx
        rw [List.getElem?_map] at e1
        obtain ⟨⟨l, f⟩, hlf, rfl⟩ := Option.map_eq_some_iff.mp e1
        obtain ⟨q, rfl, hq2, _⟩ := e2.pair
        walk_at "rd"
        rw [Mt.lineOf_take hlf]
        refine rd_ite2 (fun c1 => ?_) (fun c1 => ?_)
        · walk_at "rd"
          refine ⟨some (.int l), some (.int f), ?_, rfl⟩
          rw [show Mt.stepL pl (((((l0, fk0) :: hs1).take i)).foldl (Mt.stepL pl) l0) (l, f) = l from if_pos (of_decide_eq_true c1)]
          rfl
        · walk_at "rd"
          refine ⟨some (.int l), some (.int f), ?_, rfl⟩
          rw [show Mt.stepL pl (((((l0, fk0) :: hs1).take i)).foldl (Mt.stepL pl) l0) (l, f) = _ from if_neg (of_decide_eq_false c1)]
          rfl
      · rintro σ' H2 ⟨o3, o4, rfl, rfl⟩
        walk_at "rd"
        have e : ((l0, fk0) :: hs1).take xs.length = (l0, fk0) :: hs1 := by rw [hl]; exact List.take_length
        rw [e]
        exact k _ s1

def sp_line_of (K : PySem.W.Frag) (a : Adr) : Sp := fun vs H Q E => ∃ (N : List Addr) (v u : V) (d e : PyData), vs = [v, u] ∧ Dt K N H v d ∧ Dt K N H u e ∧
  ((∃ (hs : List (Int × Int)) (pl : Int), d = .tuple (hs.map Mt.pr) ∧ Mt.HOK hs ∧ e = .int pl ∧ 0 ≤ pl ∧ pl ≤ 1000000 ∧ ∀ H', Same H H' → Q (.int (Mt.lineOf hs pl)) H') ∨
   (Mt.histD d = false ∧ ∀ H', Same H H' → E (.ref a.C_NoHistory) none H') ∨
   (Mt.histD d = true ∧ Mt.withinD 0 1000000 e = false ∧ ∀ H', Same H H' → ∀ dx, H' dx = none → E (.ref a.C_NoPlace) (some dx) (upd H' dx (.xd [("place", u)]))))
theorem ok_line_of (T : Txt P K mg a) (G_line_at : FnOk P w K mg base CX0 1 a.f_line_at a.d_line_at ["history", "place"] (sp_line_at K)) (G_require_history : FnOk P w K mg base (CX1 P w) 6 a.f_require_history a.d_require_history ["thing"] (sp_require_history K a)) (G_require_place : FnOk P w K mg base (CX1 P w) 4 a.f_require_place a.d_require_place ["thing"] (sp_require_place K a)) : FnOk P w K mg base (CX1 P w) 7 a.f_line_of a.d_line_of ["history", "place"] (sp_line_of K a) := by
  refine T.F_line_of.okX sc_line_of (fun vs H Q E h => ?_) (fun cdv A outer s H vs Q E hr h => ?_)
  · obtain ⟨N, v, u, d, e, rfl, _⟩ := h; rfl
  · obtain ⟨N, v, u, d, e, rfl, hd, he, k⟩ := h
    refine exW ⟨_, (qss_cons (qs_expr (qe_callX G_require_history (hr.mono (by decide)) (by rfl) T.m_require_history T.k_require_history T.bd_require_history .nil px1 (qa (pv 0 (by rfl) (by walk_at "vis") (by decide) (by decide)) qa_nil (by rfl)) (by decide) (by rfl) (by rfl)) (by rfl))
      (qss_cons (qs_expr (qe_callX G_require_place (hr.mono (by decide)) (by rfl) T.m_require_place T.k_require_place T.bd_require_place .nil px1 (qa (pv 1 (by rfl) (by walk_at "vis") (by decide) (by decide)) qa_nil (by rfl)) (by decide) (by rfl) (by rfl)) (by rfl))
      (qss_one (qs_ret (qe_call G_line_at (hr.mono (by decide)) (by rfl) T.m_line_at T.k_line_at T.bd_line_at .nil pass0 (qa (pv 0 (by rfl) (by walk_at "vis") (by decide) (by decide)) (qa (pv 1 (by rfl) (by walk_at "vis") (by decide) (by decide)) qa_nil (by rfl)) (by rfl)) (by decide) (by rfl) (by rfl)))))), ?_⟩
    try dsimp only [cxOf]
    walk_at "rd"
    rcases k with ⟨hs, pl, rfl, ho, rfl, h0, h1, k⟩ | ⟨hh, k⟩ | ⟨hh, hw, k⟩
    · refine ⟨N, v, _, rfl, hd, fun _ H1 s1 => ?_, fun z => (by rw [ho.hist] at z; cases z)⟩
      walk_at "rd"
      have hw : Mt.withinD 0 1000000 (.int pl) = true := by simp [Mt.withinD, h0, h1]
      refine ⟨N, u, _, rfl, he.ext (Ext.same s1), fun _ => ?_, fun z => (by rw [hw] at z; cases z)⟩
      walk_at "rd"
      cases he with
      | int =>
        have hd1 := hd.ext (Ext.same s1)
        cases hd with
        | @tup hp _ _ _ _ _ =>
          refine ⟨N, hp, hs, pl, rfl, ho, hd1, h0, by omega, fun H2 s2 => ?_⟩
          walk_at "rd"
          exact k _ (s1.trans s2)
    · refine ⟨N, v, _, rfl, hd, fun z => (by rw [hh] at z; cases z), fun _ H1 s1 => k _ s1⟩
    · refine ⟨N, v, _, rfl, hd, fun _ H1 s1 => ?_, fun z => (by rw [hh] at z; cases z)⟩
      walk_at "rd"
      exact ⟨N, u, _, rfl, he.ext (Ext.same s1), fun z => (by rw [hw] at z; cases z), fun _ => k _ s1⟩

def sp_law_state (K : PySem.W.Frag) : Sp := fun vs H Q _ => ∃ (p : Addr) (ns : List Int), vs = [.ref p] ∧ SqL K H p (ns.map V.int) ∧ ns.length ≤ 63 ∧ ∀ (st : Addr) (H' : Hp), StOk K H' st → Same H H' → H st = none → Q (.ref st) H'
theorem ok_law_state (T : Txt P K mg a)  : FnOk P w K mg base CX0 1 a.f_law_state a.d_law_state ["_law_script"] (sp_law_state K) := by
  refine T.F_law_state.ok sc_law_state (fun vs H Q E h => ?_) (fun cdv A outer s H vs Q E hr h => ?_)
  · obtain ⟨p, ns, rfl, _⟩ := h; rfl
  · obtain ⟨p, ns, rfl, hq, hl, k⟩ := h
    refine exW ⟨_, (qss_cons (qs_set (i := 1) sc_law_state.nd rfl (Or.inl rfl) (qe_callTy cn_list (by rfl) T.b_list (by decide +kernel) (qa (pe_slice sl_list (pv 0 (by rfl) (by walk_at "vis") (by decide) (by decide)) po_none (po_some pe_int)) qa_nil (by rfl)) (by decide) (by decide) (by rfl) (by rfl)) (by rfl) (by first | exact Or.inl rfl | exact Or.inr rfl))
      (qss_cons (qs_if (pt_cmpR op_eq (qe_callB cn_len (by rfl) T.b_len (by decide +kernel) (qa (pv 1 (by rfl) (by walk_at "vis") (by decide) (by decide)) qa_nil (by rfl)) (by decide) (by decide) (by rfl) (by rfl)) pe_int (nomark _))
        (qss_one (qs_set (i := 1) sc_law_state.nd rfl (Or.inl rfl) (qe_lst (qa pe_int qa_nil (by rfl))) (by rfl) (by first | exact Or.inl rfl | exact Or.inr rfl)))
        qss_nil)
      (qss_one (qs_ret (qe_lst (qa (pv 1 (by rfl) (by walk_at "vis") (by decide) (by decide)) (qa pe_int (qa pe_int (qa pe_int qa_nil (by rfl)) (by rfl)) (by rfl)) (by rfl))))))), ?_⟩
    try dsimp only [cxOf]
    walk_at "rd"
    intro l1 n1
    have e1 : cutV (ns.map V.int) none (some 63) = ns.map V.int := by
      unfold cutV
      have e : HT.sIx (ns.map V.int).length (ns.map V.int).length (some 63) = min 63 (ns.map V.int).length := HT.sIx_nat _ _ 63
      rw [e, HT.sIx_none, List.length_map, Nat.min_eq_right hl, List.drop_zero, Nat.sub_zero, ← List.length_map (f := V.int), List.take_length]
    rw [e1]
    walk_at "rd"
    intro l2 n2
    have n1' : H l2 = none := (Same.upd n1).free n2
    walk_at "rd"
    have s2 : Same H (upd (upd H l1 (.lst (ns.map V.int))) l2 (.lst (ns.map V.int))) := (Same.upd n1).trans (Same.upd n2)
    have fin : ∀ (c : Addr) (cs : List Int) (H2 : Hp), Same H H2 → H2 c = some (.lst (cs.map V.int)) → 1 ≤ cs.length → cs.length ≤ 63 → ∀ q, H2 q = none → Q (.ref q) (upd H2 q (.lst [.ref c, .int 0, .int 0, .int 91])) := fun c cs H2 s hc g1 g2 q hq => by
      have nc : c ≠ q := ne_of_none hc hq
      exact k q _ ⟨c, cs, 0, 0, 91, upd_same, by rw [upd_ne nc]; exact hc, nc, g1, g2, by decide, by decide, by decide, by decide⟩ (s.trans (Same.upd hq)) (s.free hq)
    refine rd_ite2 (fun hc => ?_) (fun hc => ?_)
    · walk_at "rd"
      refine ⟨sz (by simp), fun l3 n3 => ?_⟩
      walk_at "rd"
      refine ⟨sz (by simp), fun l4 n4 => ?_⟩
      exact fin l3 [0] _ (s2.trans (Same.upd n3)) upd_same (by decide) (by decide) l4 n4
    · walk_at "rd"
      refine ⟨sz (by simp), fun l4 n4 => ?_⟩
      have hne : ns.length ≠ 0 := fun z => by
        rw [List.length_map, z] at hc
        simp at hc
      exact fin l2 ns _ s2 upd_same (by omega) hl l4 n4

def sp_law_next (K : PySem.W.Frag) : Sp := fun vs H Q _ => ∃ (st : Addr) (b : Int), vs = [.ref st, .int b] ∧ StOk K H st ∧ 0 < b ∧ b < 1073741824 ∧
  ∀ (v : Int) (H' : Hp), 0 ≤ v → v < b → StOk K H' st → Ext [st] H H' → Q (.int v) H'
theorem ok_law_next (T : Txt P K mg a)  : FnOk P w K mg base CX0 1 a.f_law_next a.d_law_next ["_law_state_here", "_law_below"] (sp_law_next K) := by
  refine T.F_law_next.ok sc_law_next (fun vs H Q E h => ?_) (fun cdv A outer s H vs Q E hr h => ?_)
  · obtain ⟨st, b, rfl, _⟩ := h; rfl
  · obtain ⟨st, b, rfl, S, hb0, hb1, k⟩ := h
    obtain ⟨c, cs, p, q, r, h1, h2h, h3, h4, h5, h6, h7, h8, h9⟩ := S.ex
    have h2 : SqL K H c (cs.map V.int) := SqL.of h2h
    refine exW ⟨_, (qss_cons (qs_if (pt_cmpR op_gt (pe_ix ix_list (pv 0 (by rfl) (by walk_at "vis") (by decide) (by decide)) pe_int (fun _ _ => rfl)) pe_int (nomark _))
        (qss_cons (qs_set (i := 2) sc_law_next.nd rfl (Or.inl rfl) (pe_op op_mod (pe_ix ix_list (pv 0 (by rfl) (by walk_at "vis") (by decide) (by decide)) pe_int (fun _ _ => rfl)) (pv 1 (by rfl) (by walk_at "vis") (by decide) (by decide))) (by rfl) (by first | exact Or.inl rfl | exact Or.inr rfl))
        (qss_cons (qs_asg (pe_op op_fdiv (pe_ix ix_list (pv 0 (by rfl) (by walk_at "vis") (by decide) (by decide)) pe_int (fun _ _ => rfl)) (pv 1 (by rfl) (by walk_at "vis") (by decide) (by decide))) (pg_sub (pv 0 (by rfl) (by walk_at "vis") (by decide) (by decide)) pe_int set_list (by intro _; rfl)) (by rfl) (by rfl) (by rfl))
        (qss_one (qs_ret (pv 2 (by rfl) (by walk_at "vis") (by decide) (by decide))))))
        qss_nil)
      (qss_cons (qs_set (i := 3) sc_law_next.nd rfl (Or.inl rfl) (pe_ix ix_list (pv 0 (by rfl) (by walk_at "vis") (by decide) (by decide)) pe_int (fun _ _ => rfl)) (by rfl) (by first | exact Or.inl rfl | exact Or.inr rfl))
      (qss_cons (qs_set (i := 4) sc_law_next.nd rfl (Or.inl rfl) (pe_ix ix_list (pv 3 (by rfl) (by walk_at "vis") (by decide) (by decide)) (pe_op op_mod (pe_ix ix_list (pv 0 (by rfl) (by walk_at "vis") (by decide) (by decide)) pe_int (fun _ _ => rfl)) (qe_callB cn_len (by rfl) T.b_len (by decide +kernel) (qa (pv 3 (by rfl) (by walk_at "vis") (by decide) (by decide)) qa_nil (by rfl)) (by decide) (by decide) (by rfl) (by rfl))) (fun _ _ => rfl)) (by rfl) (by first | exact Or.inl rfl | exact Or.inr rfl))
      (qss_cons (qs_asg (pe_op op_add (pe_ix ix_list (pv 0 (by rfl) (by walk_at "vis") (by decide) (by decide)) pe_int (fun _ _ => rfl)) pe_int) (pg_sub (pv 0 (by rfl) (by walk_at "vis") (by decide) (by decide)) pe_int set_list (by intro _; rfl)) (by rfl) (by rfl) (by rfl))
      (qss_cons (qs_if (pw_and (pt_cmpR op_ge (pv 4 (by rfl) (by walk_at "vis") (by decide) (by decide)) (pe_op op_pow pe_int pe_int) (nomark _)) (pw_and1 (pt_cmpR op_le (pe_ix ix_list (pv 0 (by rfl) (by walk_at "vis") (by decide) (by decide)) pe_int (fun _ _ => rfl)) (qe_callB cn_len (by rfl) T.b_len (by decide +kernel) (qa (pv 3 (by rfl) (by walk_at "vis") (by decide) (by decide)) qa_nil (by rfl)) (by decide) (by decide) (by rfl) (by rfl)) (nomark _)))).pt
        (qss_cons (qs_asg (pe_op op_fdiv (pv 4 (by rfl) (by walk_at "vis") (by decide) (by decide)) (pv 1 (by rfl) (by walk_at "vis") (by decide) (by decide))) (pg_sub (pv 0 (by rfl) (by walk_at "vis") (by decide) (by decide)) pe_int set_list (by intro _; rfl)) (by rfl) (by rfl) (by rfl))
        (qss_one (qs_ret (pe_op op_mod (pv 4 (by rfl) (by walk_at "vis") (by decide) (by decide)) (pv 1 (by rfl) (by walk_at "vis") (by decide) (by decide))))))
        qss_nil)
      (qss_cons (qs_asg (pe_op op_mod (pe_op op_add (pe_op op_add (pe_op op_mul (pe_ix ix_list (pv 0 (by rfl) (by walk_at "vis") (by decide) (by decide)) pe_int (fun _ _ => rfl)) pe_int) (pe_op op_mod (pv 4 (by rfl) (by walk_at "vis") (by decide) (by decide)) pe_int)) (pe_op op_mul pe_int (pe_ix ix_list (pv 0 (by rfl) (by walk_at "vis") (by decide) (by decide)) pe_int (fun _ _ => rfl)))) pe_int) (pg_sub (pv 0 (by rfl) (by walk_at "vis") (by decide) (by decide)) pe_int set_list (by intro _; rfl)) (by rfl) (by rfl) (by rfl))
      (qss_one (qs_ret (pe_op op_mod (pe_op op_fdiv (pe_op op_mod (pe_op op_mul (pe_ix ix_list (pv 0 (by rfl) (by walk_at "vis") (by decide) (by decide)) pe_int (fun _ _ => rfl)) pe_int) pe_int) pe_int) (pv 1 (by rfl) (by walk_at "vis") (by decide) (by decide))))))))))), ?_⟩
    try dsimp only [cxOf]
    walk_at "rd"
    have fin : ∀ (v p' q' r' : Int) (H' : Hp), H' = upd H st (.lst [.ref c, .int p', .int q', .int r']) → 0 ≤ v → v < b → 0 ≤ p' → 0 ≤ q' → 0 ≤ r' → r' < 2147483647 → Q (.int v) H' := by
      rintro v p' q' r' H' rfl g1 g2 g3 g4 g5 g6
      have e : Ext [st] H (upd H st (.lst [.ref c, .int p', .int q', .int r'])) := Ext.at (by simp)
      exact k v _ g1 g2 ⟨c, cs, p', q', r', upd_same, e _ _ h2h (by simpa using h3), h3, h4, h5, g3, g4, g5, g6⟩ e
    refine rd_ite2 (fun hc => ?_) (fun hc => ?_)
    · have hq : 0 < q := of_decide_eq_true hc
      walk_at "rd"
      exact fin _ p (q / b) r _ rfl (Int.emod_nonneg _ (by omega)) (Int.emod_lt_of_pos _ hb0) h6 (Int.ediv_nonneg h7 (by omega)) h8 h9
    · have hlm : ((cs.map V.int).length : Int) = cs.length := by rw [List.length_map]
      have hl0 : (0 : Int) < (cs.map V.int).length := by omega
      walk_at "rd"
      obtain ⟨x, hx, _⟩ := atI_ints (ns := cs) (i := p % ((cs.map V.int).length : Int)) (Int.emod_nonneg _ (by omega)) (by rw [hlm]; exact Int.emod_lt_of_pos _ (by omega))
      refine rd_ixL h2 hx ?_
      walk_at "rd"
      have h2' : SqL K (upd H st (.lst [.ref c, .int (p + 1), .int q, .int r])) c (cs.map V.int) := (Ext.at (N := [st]) (by simp)).lst h2 (by simpa using h3)
      refine rd_ite2 (fun hg => ?_) (fun hg => ?_)
      · walk_at "rd"
        have hx0 : (0 : Int) ≤ x := by
          have := of_decide_eq_true hg
          have e : (0 : Int) ≤ 10 ^ (18 : Int).toNat := by decide
          omega
        refine rd_ite2 (fun hj => ?_) (fun hj => ?_)
        · walk_at "rd"
          exact fin _ (p + 1) (x / b) r _ (upd_upd.trans rfl) (Int.emod_nonneg _ (by omega)) (Int.emod_lt_of_pos _ hb0) (by omega) (Int.ediv_nonneg hx0 (by omega)) h8 h9
        · walk_at "rd"
          exact fin _ (p + 1) q _ _ (upd_upd.trans rfl) (Int.emod_nonneg _ (by omega)) (Int.emod_lt_of_pos _ hb0) (by omega) h7 (Int.emod_nonneg _ (by omega)) (Int.emod_lt_of_pos _ (by omega))
      · walk_at "rd"
        exact fin _ (p + 1) q _ _ (upd_upd.trans rfl) (Int.emod_nonneg _ (by omega)) (Int.emod_lt_of_pos _ hb0) (by omega) h7 (Int.emod_nonneg _ (by omega)) (Int.emod_lt_of_pos _ (by omega))

def sp_law_whole (K : PySem.W.Frag) : Sp := fun vs H Q _ => ∃ (N : List Addr) (x : V) (d : PyData), vs = [x] ∧ Dt K N H x d ∧ Q (.bl (Mt.numD d)) H
theorem ok_law_whole (T : Txt P K mg a)  : FnOk P w K mg base CX0 1 a.f_law_whole a.d_law_whole ["_law_found"] (sp_law_whole K) := by
  refine T.F_law_whole.ok sc_law_whole (fun vs H Q E h => ?_) (fun cdv A outer s H vs Q E hr h => ?_)
  · obtain ⟨N, x, d, rfl, _⟩ := h; rfl
  · obtain ⟨N, x, d, rfl, hd, k⟩ := h
    refine exW ⟨_, (qss_one (qs_ret (pe_and (qe_callB cn_isi (by rfl) T.b_isinstance (by decide +kernel) (qa (pv 0 (by rfl) (by walk_at "vis") (by decide) (by decide)) (qa (pe_bltn (by rfl) T.b_int (by decide +kernel) (v := .ty "int") rfl (by decide) (by decide)) qa_nil (by rfl)) (by rfl)) (by decide) (by decide) (by rfl) (by rfl)) (pe_one (pe_not (qe_callB cn_isi (by rfl) T.b_isinstance (by decide +kernel) (qa (pv 0 (by rfl) (by walk_at "vis") (by decide) (by decide)) (qa (pe_bltn (by rfl) T.b_bool (by decide +kernel) (v := .ty "bool") rfl (by decide) (by decide)) qa_nil (by rfl)) (by rfl)) (by decide) (by decide) (by rfl) (by rfl))))))), ?_⟩
    try dsimp only [cxOf]
    walk_at "rd"
    cases d with
    | int i => dsimp only [isIntD]; walk_at "rd"; dsimp only [isBoolD]; walk_at "rd"; exact k
    | bool b => dsimp only [isIntD]; walk_at "rd"; dsimp only [isBoolD]; walk_at "rd"; exact k
    | _ => dsimp only [isIntD]; walk_at "rd"; exact k

def sp_law_history (K : PySem.W.Frag) : Sp := fun vs H Q _ => ∃ (st : Addr), vs = [.ref st] ∧ StOk K H st ∧ ∀ (p : Addr) (hs : List (Int × Int)) (H' : Hp), Mt.HOK hs → (∀ p ∈ hs, p.1 ≤ 60000000) → Dt K [st] H' (.ref p) (.tuple (hs.map Mt.pr)) → StOk K H' st → Ext [st] H H' → Q (.ref p) H'
theorem ok_law_history (T : Txt P K mg a) (G__law_next : FnOk P w K mg base CX0 1 a.f_law_next a.d_law_next ["_law_state_here", "_law_below"] (sp_law_next K)) : FnOk P w K mg base CX0 2 a.f_law_history a.d_law_history ["_law_state_here"] (sp_law_history K) := by
  refine T.F_law_history.ok sc_law_history (fun vs H Q E h => ?_) (fun cdv A outer s H vs Q E hr h => ?_)
  · obtain ⟨st, rfl, _⟩ := h; rfl
  · obtain ⟨st, rfl, S, k⟩ := h
    refine exW ⟨_, (qss_cons (qs_set (i := 1) sc_law_history.nd rfl (Or.inl rfl) (pe_op op_add pe_int (qe_call G__law_next (hr.mono (by decide)) (by rfl) T.m__law_next T.k__law_next T.bd__law_next .nil pass0 (qa (pv 0 (by rfl) (by walk_at "vis") (by decide) (by decide)) (qa pe_int qa_nil (by rfl)) (by rfl)) (by decide) (by rfl) (by rfl))) (by rfl) (by first | exact Or.inl rfl | exact Or.inr rfl))
      (qss_cons (qs_if (pt_cmpR op_eq (qe_call G__law_next (hr.mono (by decide)) (by rfl) T.m__law_next T.k__law_next T.bd__law_next .nil pass0 (qa (pv 0 (by rfl) (by walk_at "vis") (by decide) (by decide)) (qa pe_int qa_nil (by rfl)) (by rfl)) (by decide) (by rfl) (by rfl)) pe_int (nomark _))
        (qss_one (qs_set (i := 1) sc_law_history.nd rfl (Or.inl rfl) (pe_op op_sub pe_int (pe_op op_mul (qe_call G__law_next (hr.mono (by decide)) (by rfl) T.m__law_next T.k__law_next T.bd__law_next .nil pass0 (qa (pv 0 (by rfl) (by walk_at "vis") (by decide) (by decide)) (qa pe_int qa_nil (by rfl)) (by rfl)) (by decide) (by rfl) (by rfl)) (qe_call G__law_next (hr.mono (by decide)) (by rfl) T.m__law_next T.k__law_next T.bd__law_next .nil pass0 (qa (pv 0 (by rfl) (by walk_at "vis") (by decide) (by decide)) (qa pe_int qa_nil (by rfl)) (by rfl)) (by decide) (by rfl) (by rfl)))) (by rfl) (by first | exact Or.inl rfl | exact Or.inr rfl)))
        qss_nil)
      (qss_cons (qs_set (i := 2) sc_law_history.nd rfl (Or.inl rfl) (pe_ix ix_list (qe_lst (qa pe_int (qa pe_int (qa pe_int qa_nil (by rfl)) (by rfl)) (by rfl))) (qe_call G__law_next (hr.mono (by decide)) (by rfl) T.m__law_next T.k__law_next T.bd__law_next .nil pass0 (qa (pv 0 (by rfl) (by walk_at "vis") (by decide) (by decide)) (qa pe_int qa_nil (by rfl)) (by rfl)) (by decide) (by rfl) (by rfl)) (fun _ _ => rfl)) (by rfl) (by first | exact Or.inl rfl | exact Or.inr rfl))
      (qss_cons (qs_set (i := 3) sc_law_history.nd rfl (Or.inl rfl) (pe_op op_mul (qe_call G__law_next (hr.mono (by decide)) (by rfl) T.m__law_next T.k__law_next T.bd__law_next .nil pass0 (qa (pv 0 (by rfl) (by walk_at "vis") (by decide) (by decide)) (qa pe_int qa_nil (by rfl)) (by rfl)) (by decide) (by rfl) (by rfl)) (qe_call G__law_next (hr.mono (by decide)) (by rfl) T.m__law_next T.k__law_next T.bd__law_next .nil pass0 (qa (pv 0 (by rfl) (by walk_at "vis") (by decide) (by decide)) (qa pe_int qa_nil (by rfl)) (by rfl)) (by decide) (by rfl) (by rfl))) (by rfl) (by first | exact Or.inl rfl | exact Or.inr rfl))
      (qss_cons (qs_set (i := 4) sc_law_history.nd rfl (Or.inl rfl) (qe_lst (qa (qe_tup (qa (pv 3 (by rfl) (by walk_at "vis") (by decide) (by decide)) (qa pe_int qa_nil (by rfl)) (by rfl))) qa_nil (by rfl))) (by rfl) (by first | exact Or.inl rfl | exact Or.inr rfl))
      (qss_cons (qs_for PassesOwn.never rfl (qi_range1 (by rfl) T.b_range (qa (pe_op op_sub (pv 1 (by rfl) (by walk_at "vis") (by decide) (by decide)) pe_int) qa_nil (by rfl)) (by rfl)) (pg_name (i := 5) sc_law_history.nd rfl (Or.inl rfl) (by first | exact Or.inl rfl | exact Or.inr rfl))
        (qss_cons (qs_set (i := 3) sc_law_history.nd rfl (Or.inl rfl) (pe_op op_add (pe_op op_add (pv 3 (by rfl) (by walk_at "vis") (by decide) (by decide)) pe_int) (qe_call G__law_next (hr.mono (by decide)) (by rfl) T.m__law_next T.k__law_next T.bd__law_next .nil pass0 (qa (pv 0 (by rfl) (by walk_at "vis") (by decide) (by decide)) (qa (pe_ix ix_list (qe_lst (qa pe_int (qa pe_int (qa (pe_op op_pow pe_int pe_int) qa_nil (by rfl)) (by rfl)) (by rfl))) (qe_call G__law_next (hr.mono (by decide)) (by rfl) T.m__law_next T.k__law_next T.bd__law_next .nil pass0 (qa (pv 0 (by rfl) (by walk_at "vis") (by decide) (by decide)) (qa pe_int qa_nil (by rfl)) (by rfl)) (by decide) (by rfl) (by rfl)) (fun _ _ => rfl)) qa_nil (by rfl)) (by rfl)) (by decide) (by rfl) (by rfl))) (by rfl) (by first | exact Or.inl rfl | exact Or.inr rfl))
        (qss_one (qs_expr (qe_append (pv 4 (by rfl) (by walk_at "vis") (by decide) (by decide)) (qa (qe_tup (qa (pv 3 (by rfl) (by walk_at "vis") (by decide) (by decide)) (qa (qe_callB (cn_min (by rfl)) (by rfl) T.b_min (by decide +kernel) (qa (pe_op op_pow pe_int pe_int) (qa (pe_op op_add (pe_ix ix_tup (pe_ix ix_list (pv 4 (by rfl) (by walk_at "vis") (by decide) (by decide)) (pe_un un_neg pe_int) (fun _ _ => rfl)) pe_int (fun _ _ => rfl)) (qe_call G__law_next (hr.mono (by decide)) (by rfl) T.m__law_next T.k__law_next T.bd__law_next .nil pass0 (qa (pv 0 (by rfl) (by walk_at "vis") (by decide) (by decide)) (qa (pv 2 (by rfl) (by walk_at "vis") (by decide) (by decide)) qa_nil (by rfl)) (by rfl)) (by decide) (by rfl) (by rfl))) qa_nil (by rfl)) (by rfl)) (by decide) (by decide) (by rfl) (by rfl)) qa_nil (by rfl)) (by rfl))) qa_nil (by rfl)) (by rfl) (by rfl) (by rfl) (by rfl) (by rfl)) (by rfl)))) (by intro _; rfl))
      (qss_one (qs_ret (qe_callTy cn_tuple (by rfl) T.b_tuple (by decide +kernel) (qa (pv 4 (by rfl) (by walk_at "vis") (by decide) (by decide)) qa_nil (by rfl)) (by decide) (by decide) (by rfl) (by rfl)))))))))), ?_⟩
    try dsimp only [cxOf]
    walk_at "rd"
    refine ⟨st, 6, rfl, S, by decide, by decide, ?_⟩
    intro v1 H1 a1 b1 S1 x1
    walk_at "rs"
    refine rd_seqK (fun σ' H' => ∃ many : Int, σ' = [some (.ref st), some (.int many), none, none, none, none] ∧ 1 ≤ many ∧ many ≤ 60 ∧ StOk K H' st ∧ Ext [st] H H') ?_ ?_
    · rintro σ' H2 ⟨many, rfl, m1, m2, S2, x2⟩
      walk_at "rd"
      refine ⟨sz (by simp), fun l1 n1 => ?_⟩
      walk_at "rd"
      refine ⟨st, 3, rfl, S2.new n1, by decide, by decide, ?_⟩
      intro v3 H3 a3 b3 S3 x3
      obtain ⟨wide, e3, w3⟩ := at3 (a := 3) (b := 9) (c := 16000) a3 b3
      refine rd_ixL (x3.lst (SqL.of upd_same) (by simpa using S2.ne n1)) e3 ?_
      have xx3 : Ext [st] H H3 := (x2.trans (Ext.new n1)).trans x3
      walk_at "rd"
      refine ⟨st, 3, rfl, S3, by decide, by decide, ?_⟩
      intro v4 H4 a4 b4 S4 x4
      walk_at "rd"
      refine ⟨st, 50, rfl, S4, by decide, by decide, ?_⟩
      intro v5 H5 a5 b5 S5 x5
      have xx5 : Ext [st] H H5 := (xx3.trans x4).trans x5
      obtain ⟨ml0, ml1⟩ := mul_le (m := 2) (n := 49) a4 (by omega) a5 (by omega)
      generalize hline : v4 * v5 = line0 at ml0 ml1
      walk_at "rd"
      rw [hline]
      walk_at "rd"
      refine ⟨sz (by simp), fun t0 n6 => ?_⟩
      walk_at "rd"
      refine ⟨sz (by simp), fun fl n7 => ?_⟩
      walk_at "rd"
      refine ⟨by omega, by omega, ?_⟩
      have w3' : 1 ≤ wide ∧ wide ≤ 16000 := by omega
      have S6 := (S5.new (o := .tup [.int line0, .int 0]) n6).new (o := .lst [.ref t0]) n7
      have nft : t0 ≠ fl := ne_of_none (upd_same (H := H5) (a := t0) (o := .tup [.int line0, .int 0])) n7
      have nfs : fl ≠ st := (S5.new (o := .tup [.int line0, .int 0]) n6).ne n7
      have nts : t0 ≠ st := S5.ne n6
      have n7' : H fl = none := (xx5.trans (Ext.new n6)).free n7 (by simpa using nfs)
      have xx6 : Ext [st] H (upd (upd H5 t0 (.tup [.int line0, .int 0])) fl (.lst [.ref t0])) := (xx5.trans (Ext.new n6)).trans (Ext.new n7)
      refine for_rangeW (fun i σ' H' => ∃ (o : Option V) (line fork : Int) (ini : List (Int × Int)) (vs : List V), σ' = [some (.ref st), some (.int many), some (.int wide), some (.int line), some (.ref fl), o] ∧ StOk K H' st ∧ Ext [st] H H' ∧ H' fl = some (.lst vs) ∧
        DtAll K [st, fl] H' vs ((ini ++ [(line, fork)]).map Mt.pr) ∧ Mt.okP (-1) 0 (ini ++ [(line, fork)]) ∧ (∃ a r, ini ++ [(line, fork)] = (a, 0) :: r) ∧ ini.length = i ∧ 0 ≤ line ∧ line ≤ 98 + 1000000 * i ∧ 0 ≤ fork ∧ fork ≤ 1000000) ?_ ?_ ?_
      · refine ⟨none, line0, 0, [], [.ref t0], rfl, S6, xx6, upd_same, ?_, ⟨by omega, by omega, by decide, by decide, trivial⟩, ⟨line0, [], rfl⟩, rfl, ml0, by omega, by decide, by decide⟩
        refine .cons (.tup (SqT.of (by rw [upd_ne nft]; exact upd_same)) ?_ (.cons (.int _) (.cons (.int _) .nil))) .nil
        simp only [List.mem_cons, List.not_mem_nil, or_false, not_or]
        exact ⟨nts, nft⟩
      · rintro i σ' H6 hi ⟨o, line, fork, ini, vs, rfl, S7, x7, hfl, hda, hok, hz, hil, hl0, hl1, hf0, hf1⟩
        walk_at "rd"
        refine ⟨sz (by simp), fun l2 n8 => ?_⟩
        walk_at "rd"
        refine ⟨st, 3, rfl, S7.new n8, by decide, by decide, ?_⟩
        intro v6 H7 a6 b6 S8 x8
        rw [Mt.p6] at x8
        obtain ⟨bb, e6, w6⟩ := at3 (a := 1) (b := 5) (c := 1000000) a6 b6
        refine rd_ixL (x8.lst (SqL.of upd_same) (by simpa using S7.ne n8)) e6 ?_
        walk_at "rd"
        have w6' : 1 ≤ bb ∧ bb ≤ 1000000 := by omega
        refine ⟨st, bb, rfl, S8, by omega, by omega, ?_⟩
        intro v7 H8 a7 b7 S9 x9
        have hx8 : Ext [st] H6 H8 := ((Ext.new n8).trans x8).trans x9
        walk_at "rd"
        have hfl8 : H8 fl = some (.lst vs) := hx8 _ _ hfl (by simpa using nfs)
        refine ⟨.inl ⟨rfl, _, SqL.of hfl8⟩, ?_⟩
        walk_at "rd"
        obtain ⟨ws, v, rfl, hd1, hd2⟩ := DtAll.snoc (by rw [List.map_append] at hda; exact hda)
        obtain ⟨q, rfl, hq, hqn⟩ := hd2.pair
        refine rd_ixL (SqL.of hfl8) (atI_last ws _) ?_
        refine rd_c ?_
        have hqs : q ∉ [st] := fun z => hqn (by simp only [List.mem_cons, List.not_mem_nil, or_false] at z ⊢; exact .inl z)
        refine rd_ixT (hx8.tup hq hqs) (atI_nat (j := 1) rfl) ?_
        walk_at "rd"
        refine ⟨st, wide, rfl, S9, by omega, by omega, ?_⟩
        intro v8 H9 a8 b8 S10 x10
        have hx9 : Ext [st] H6 H9 := hx8.trans x10
        walk_at "rd"
        rw [Mt.p6]
        have hfork : ∃ fork' : Int, (if fork + v8 < 1000000 then fork + v8 else 1000000) = fork' ∧ fork ≤ fork' ∧ fork' ≤ 1000000 := by
          refine ⟨_, rfl, ?_, ?_⟩ <;> split <;> omega
        obtain ⟨fork', hfe, hf2, hf3⟩ := hfork
        rw [hfe]
        walk_at "rd"
        refine ⟨sz (by simp), fun t n9 => ?_⟩
        have hfl9 : H9 fl = some (.lst (ws ++ [.ref q])) := hx9 _ _ hfl (by simpa using nfs)
        have ntf : fl ≠ t := ne_of_none hfl9 n9
        walk_at "rd"
        have hfa : (upd H9 t (.tup [.int (line + 1 + v7), .int fork'])) fl = some (.lst (ws ++ [.ref q])) := by rw [upd_ne ntf]; exact hfl9
        refine rd_append hfa ?_ ?_
        · have e := hda.length
          simp only [List.length_map, List.length_append, List.length_singleton] at e ⊢
          have : sizeLine = 16777216 := rfl
          omega
        · have nst : st ≠ fl := Ne.symm nfs
          have nts2 : t ≠ st := S10.ne n9
          have S11 := S10.new (o := .tup [.int (line + 1 + v7), .int fork']) n9
          have n7'' : ∀ o, (upd H9 t o) fl = some (.lst (ws ++ [.ref q])) := fun o => by rw [upd_ne ntf]; exact hfl9
          refine ⟨_, line + 1 + v7, fork', ini ++ [(line, fork)], _, rfl, ?_, ?_, upd_same, ?_, Mt.okP_snoc hok (by omega) (by omega) hf2 hf3, ?_, by simp [hil], by omega, by omega, by omega, hf3⟩
          · obtain ⟨c, cs, p1, q1, r1, h1, h2, h3⟩ := S11.ex
            refine ⟨c, cs, p1, q1, r1, by rw [upd_ne nst]; exact h1, ?_, h3⟩
            have ncf : c ≠ fl := fun z => by
              subst z
              rw [n7''] at h2
              have h2' := congrArg (fun o => match o with | some (HO.lst l) => l.getLast? | _ => none) h2
              simp only [List.getLast?_append, List.getLast?_singleton, Option.some_or] at h2'
              have : (V.ref q) ∈ cs.map V.int := List.mem_of_getLast? h2'.symm
              simp at this
            rw [upd_ne ncf]; exact h2
          · exact ((x7.trans hx9).trans (Ext.new n9)).upd2 n7'
          · rw [List.map_append, List.map_append]
            have up : Ext [st, fl] H6 (upd (upd H9 t (.tup [.int (line + 1 + v7), .int fork'])) fl (.lst (ws ++ [.ref q] ++ [.ref t]))) := fun b u e n => by
              simp only [List.mem_cons, List.not_mem_nil, or_false, not_or] at n
              rw [upd_ne n.2, upd_ne (ne_of_none (hx9 b u e (by simpa using n.1)) n9)]
              exact hx9 b u e (by simpa using n.1)
            have hda' : DtAll K [st, fl] H6 (ws ++ [.ref q]) (ini.map Mt.pr ++ [Mt.pr (line, fork)]) := by rw [List.map_append] at hda; exact hda
            refine (hda'.ext up).append (.cons (.tup (SqT.of (by rw [upd_ne (Ne.symm ntf)]; exact upd_same)) ?_ (.cons (.int _) (.cons (.int _) .nil))) .nil)
            simp only [List.mem_cons, List.not_mem_nil, or_false, not_or]
            exact ⟨nts2, Ne.symm ntf⟩
          · obtain ⟨a9, r9, e9⟩ := hz
            exact ⟨a9, r9 ++ [(line + 1 + v7, fork')], by rw [e9]; rfl⟩
      · rintro σ' H6 ⟨o, line, fork, ini, vs, rfl, S7, x7, hfl, hda, hok, hz, hil, hl0, hl1, hf0, hf1⟩
        walk_at "rd"
        intro p np
        have hlen : ini.length + 1 ≤ 60 := by omega
        refine k p (ini ++ [(line, fork)]) _ ⟨by simp, by simp; omega, hok, hz⟩ (fun p9 h9 => Int.le_trans (Mt.okP_last hok p9 h9) (by omega)) (.tup (SqT.of upd_same) (by simpa using S7.ne np) ?_) (S7.new np) (x7.trans (Ext.new np))
        exact (hda.weaken (by simp)).ext (Ext.new np)
    · intro hrest
      walk_at "rs"
      refine ⟨st, 10, rfl, S1, by decide, by decide, ?_⟩
      intro v2 H2 a2 b2 S2 x2
      walk_at "rs"
      refine rd_ite2 (fun hc => ?_) (fun hc => ?_)
      · walk_at "rs"
        refine ⟨st, 2, rfl, S2, by decide, by decide, ?_⟩
        intro v3 H3 a3 b3 S3 x3
        walk_at "rs"
        refine ⟨st, 50, rfl, S3, by decide, by decide, ?_⟩
        intro v4 H4 a4 b4 S4 x4
        obtain ⟨ml0, ml1⟩ := mul_le (m := 1) (n := 49) a3 (by omega) a4 (by omega)
        walk_at "rs"
        exact hrest _ _ ⟨_, rfl, by omega, by omega, S4, ((x1.trans x2).trans x3).trans x4⟩
      · walk_at "rs"
        exact hrest _ _ ⟨_, rfl, by omega, by omega, S2, x1.trans x2⟩

def sp_law_end (K : PySem.W.Frag) : Sp := fun vs H Q _ => ∃ (N : List Addr) (st hp : Addr) (hs : List (Int × Int)), vs = [.ref st, .ref hp] ∧ Trk K N H st ∧ Mt.HOK hs ∧ Dt K N H (.ref hp) (.tuple (hs.map Mt.pr)) ∧
  ∀ (v : Int) (H' : Hp), 0 ≤ v → v ≤ 1000000 → StOk K H' st → Ext [st] H H' → Q (.int v) H'
theorem ok_law_end (T : Txt P K mg a) (G__law_next : FnOk P w K mg base CX0 1 a.f_law_next a.d_law_next ["_law_state_here", "_law_below"] (sp_law_next K)) : FnOk P w K mg base CX0 2 a.f_law_end a.d_law_end ["_law_state_here", "_law_history_here"] (sp_law_end K) := by
  refine T.F_law_end.ok sc_law_end (fun vs H Q E h => ?_) (fun cdv A outer s H vs Q E hr h => ?_)
  · obtain ⟨N, st, hp, hs, rfl, _⟩ := h; rfl
  · obtain ⟨N, st, hp, hs, rfl, S, ho, hd, k⟩ := h
    refine exW ⟨_, (qss_cons (qs_set (i := 2) sc_law_end.nd rfl (Or.inl rfl) (pe_op op_sub (pe_op op_add (pe_ix ix_tup (pe_ix ix_tup (pv 1 (by rfl) (by walk_at "vis") (by decide) (by decide)) (qe_call G__law_next (hr.mono (by decide)) (by rfl) T.m__law_next T.k__law_next T.bd__law_next .nil pass0 (qa (pv 0 (by rfl) (by walk_at "vis") (by decide) (by decide)) (qa (qe_callB cn_len (by rfl) T.b_len (by decide +kernel) (qa (pv 1 (by rfl) (by walk_at "vis") (by decide) (by decide)) qa_nil (by rfl)) (by decide) (by decide) (by rfl) (by rfl)) qa_nil (by rfl)) (by rfl)) (by decide) (by rfl) (by rfl)) (fun _ _ => rfl)) pe_int (fun _ _ => rfl)) (qe_call G__law_next (hr.mono (by decide)) (by rfl) T.m__law_next T.k__law_next T.bd__law_next .nil pass0 (qa (pv 0 (by rfl) (by walk_at "vis") (by decide) (by decide)) (qa pe_int qa_nil (by rfl)) (by rfl)) (by decide) (by rfl) (by rfl))) pe_int) (by rfl) (by first | exact Or.inl rfl | exact Or.inr rfl))
      (qss_cons (qs_set (i := 3) sc_law_end.nd rfl (Or.inl rfl) (qe_call G__law_next (hr.mono (by decide)) (by rfl) T.m__law_next T.k__law_next T.bd__law_next .nil pass0 (qa (pv 0 (by rfl) (by walk_at "vis") (by decide) (by decide)) (qa (pe_op op_add (pe_ix ix_tup (pe_ix ix_tup (pv 1 (by rfl) (by walk_at "vis") (by decide) (by decide)) (pe_un un_neg pe_int) (fun _ _ => rfl)) pe_int (fun _ _ => rfl)) pe_int) qa_nil (by rfl)) (by rfl)) (by decide) (by rfl) (by rfl)) (by rfl) (by first | exact Or.inl rfl | exact Or.inr rfl))
      (qss_one (qs_ret (qe_callB (cn_max (by rfl)) (by rfl) T.b_max (by decide +kernel) (qa pe_int (qa (qe_callB (cn_min (by rfl)) (by rfl) T.b_min (by decide +kernel) (qa (pe_op op_pow pe_int pe_int) (qa (pe_ix ix_list (qe_lst (qa (pv 2 (by rfl) (by walk_at "vis") (by decide) (by decide)) (qa (pv 3 (by rfl) (by walk_at "vis") (by decide) (by decide)) qa_nil (by rfl)) (by rfl))) (qe_call G__law_next (hr.mono (by decide)) (by rfl) T.m__law_next T.k__law_next T.bd__law_next .nil pass0 (qa (pv 0 (by rfl) (by walk_at "vis") (by decide) (by decide)) (qa pe_int qa_nil (by rfl)) (by rfl)) (by decide) (by rfl) (by rfl)) (fun _ _ => rfl)) qa_nil (by rfl)) (by rfl)) (by decide) (by decide) (by rfl) (by rfl)) qa_nil (by rfl)) (by rfl)) (by decide) (by decide) (by rfl) (by rfl)))))), ?_⟩
    try dsimp only [cxOf]
    cases hd with
    | tup hq hn hr =>
      rename_i xs
      have hl := hr.length
      rw [List.length_map] at hl
      have g1 := ho.len1
      have g2 := ho.len2
      walk_at "rd"
      refine ⟨st, _, rfl, S.so, by omega, by omega, ?_⟩
      intro v1 H1 a1 b1 S1' x1
      have S1 := S.ext S1' x1
      obtain ⟨n, rfl⟩ := Int.eq_ofNat_of_zero_le a1
      obtain ⟨v, d, e1, e2, e3⟩ := hr.at (i := n) (by rw [List.length_map]; omega)
      obtain ⟨⟨l, f⟩, hlf, rfl⟩ := List.mem_map.mp (List.mem_of_getElem? e2)
      obtain ⟨q, rfl, hq2, hqn⟩ := e3.pair
      obtain ⟨bl0, bl1, bf0, bf1⟩ := ho.bound _ hlf
      have hq1 := (x1.up S.mem).tup hq hn
      have hq21 := (x1.up S.mem).tup hq2 hqn
      walk_at "rd"
      refine rd_ixT hq1 (atI_nat e1) ?_
      walk_at "rd"
      refine ⟨st, 4, rfl, S1.so, by decide, by decide, ?_⟩
      intro v2 H2 a2 b2 S2' x2
      have S2 := S1.ext S2' x2
      walk_at "rd"
      obtain ⟨hs0, ⟨l9, f9⟩, hs9⟩ : ∃ hs0 p, hs = hs0 ++ [p] := ⟨hs.dropLast, hs.getLast (by intro z; rw [z] at g1; simp at g1), (List.dropLast_concat_getLast _).symm⟩
      obtain ⟨ws, v9, hws, _, d9⟩ := DtAll.snoc (ds := hs0.map Mt.pr) (d := Mt.pr (l9, f9)) (by rw [hs9, List.map_append] at hr; exact hr)
      obtain ⟨q9, rfl, hq9, hqn9⟩ := d9.pair
      obtain ⟨bb0, bb1, bb2, bb3⟩ := ho.bound (l9, f9) (by rw [hs9]; simp)
      have elast : L2.atI xs (-1) = some (.ref q9) := by rw [hws]; exact atI_last ws _
      have x12 := x1.trans x2
      have hp2 := (x12.up S.mem).tup hq hn
      have hq92 := (x12.up S.mem).tup hq9 hqn9
      refine rd_ixT hp2 elast ?_
      walk_at "rd"
      refine ⟨st, _, rfl, S2.so, by omega, by omega, ?_⟩
      intro v3 H3 a3 b3 S3' x3
      have S3 := S2.ext S3' x3
      walk_at "rd"
      refine ⟨sz (by simp), fun l n4 => ?_⟩
      walk_at "rd"
      refine ⟨st, 2, rfl, S3.so.new n4, by decide, by decide, ?_⟩
      intro v4 H4 a4 b4 S4 x4
      obtain ⟨w, e4⟩ : ∃ w : Int, atI [V.int (f + v2 - 1), V.int v3] v4 = some (.int w) := by
        have : v4 = 0 ∨ v4 = 1 := by omega
        rcases this with rfl | rfl
        · exact ⟨_, rfl⟩
        · exact ⟨_, rfl⟩
      refine rd_ixL (x4.lst (SqL.of upd_same) (by simpa using S3.so.ne n4)) e4 ?_
      walk_at "rd"
      rw [Mt.p6]
      have fin : ∀ z : Int, 0 ≤ z → z ≤ 1000000 → Q (.int z) H4 := fun z q1 q2 => k z H4 q1 q2 S4 (((x12.trans x3).trans (Ext.new n4)).trans x4)
      apply fin
      · split <;> split <;> omega
      · split <;> split <;> omega

def sp_law_at (K : PySem.W.Frag) : Sp := fun vs H Q _ => ∃ (N : List Addr) (hp : Addr) (hs : List (Int × Int)) (pl : Int), vs = [.ref hp, .int pl] ∧ Mt.HOK hs ∧ Dt K N H (.ref hp) (.tuple (hs.map Mt.pr)) ∧ 0 ≤ pl ∧ pl ≤ 1000000 ∧ ∀ H', Same H H' → Q (.int (Mt.lineOf hs pl)) H'
theorem ok_law_at (T : Txt P K mg a)  : FnOk P w K mg base CX0 1 a.f_law_at a.d_law_at ["_law_history_here", "_law_place"] (sp_law_at K) := by
  refine T.F_law_at.ok sc_law_at (fun vs H Q E h => ?_) (fun cdv A outer s H vs Q E hr h => ?_)
  · obtain ⟨N, hp, hs, pl, rfl, _⟩ := h; rfl
  · obtain ⟨N, hp, hs, pl, rfl, ho, hd, h0, h1, k⟩ := h
    refine exW ⟨_, (qss_cons (qs_set (i := 2) sc_law_at.nd rfl (Or.inl rfl) (pe_ix ix_tup (pe_ix ix_tup (pv 0 (by rfl) (by walk_at "vis") (by decide) (by decide)) pe_int (fun _ _ => rfl)) pe_int (fun _ _ => rfl)) (by rfl) (by first | exact Or.inl rfl | exact Or.inr rfl))
      (qss_cons (qs_for PassesOwn.never rfl (pi_tup (pv 0 (by rfl) (by walk_at "vis") (by decide) (by decide))) (pg_tup (n := 2) rfl (pgs_cons (pg_name (i := 3) (show (["_law_history_here", "_law_place", "_law_found", "_law_line", "_law_fork"] : List Str).Nodup by decide +kernel) rfl (Or.inl rfl) (by first | exact Or.inl rfl | exact Or.inr rfl)) (pgs_cons (pg_name (i := 4) (show (["_law_history_here", "_law_place", "_law_found", "_law_line", "_law_fork"] : List Str).Nodup by decide +kernel) rfl (Or.inl rfl) (by first | exact Or.inl rfl | exact Or.inr rfl)) pgs_nil (by rfl)) (by rfl)) (by rfl) (by rfl))
        (qss_one (qs_if (pt_cmpR op_lt (pv 4 (by rfl) (by walk_at "vis") (by decide) (by decide)) (pv 1 (by rfl) (by walk_at "vis") (by decide) (by decide)) (nomark _))
          (qss_one (qs_set (i := 2) sc_law_at.nd rfl (Or.inl rfl) (pv 3 (by rfl) (by walk_at "vis") (by decide) (by decide)) (by rfl) (by first | exact Or.inl rfl | exact Or.inr rfl)))
          qss_nil)) (by intro _; rfl))
      (qss_one (qs_ret (pv 2 (by rfl) (by walk_at "vis") (by decide) (by decide)))))), ?_⟩
    try dsimp only [cxOf]
    have s1 := Same.refl H
    have hd1 := hd
    walk_at "rd"
    cases hd1 with
    | tup hq hn hr =>
      rename_i xs
      have g1 := ho.len1
      have hl := hr.length
      rw [List.length_map] at hl
      obtain ⟨v0, d0, f1, f2, f3⟩ := hr.at (i := 0) (by rw [List.length_map]; omega)
      obtain ⟨l0, fk0, hs1, rfl⟩ : ∃ l0 fk0 hs1, hs = (l0, fk0) :: hs1 := by
        cases hs with
        | nil => simp at g1
        | cons p r => exact ⟨p.1, p.2, r, rfl⟩
      have e0 : d0 = Mt.pr (l0, fk0) := by simpa using f2.symm
      rw [e0] at f3
      obtain ⟨q0, rfl, hq0, _⟩ := f3.pair
      refine rd_ixT hq (atI_nat (j := 0) f1) ?_
      walk_at "rd"
      refine ⟨_, rfl, ⟨xs, hq⟩, ?_⟩
      refine for_tupW (xs := xs) (fun i σ' H' => ∃ o3 o4 : Option V, σ' = [some (.ref hp), some (.int pl), some (.int ((((l0, fk0) :: hs1).take i).foldl (Mt.stepL pl) l0)), o3, o4] ∧ H' = H) ?_ ?_ ?_ ?_
      · exact ⟨_, _, rfl, rfl⟩
      · rintro i σ' H2 hi ⟨o3, o4, rfl, rfl⟩
        exact hq
      · rintro i x σ' H2 hx ⟨o3, o4, rfl, rfl⟩
        obtain ⟨d, e1, e2⟩ := hr.get hx
        rw [List.getElem?_map] at e1
        obtain ⟨⟨l, f⟩, hlf, rfl⟩ := Option.map_eq_some_iff.mp e1
        obtain ⟨q, rfl, hq2, _⟩ := e2.pair
        walk_at "rd"
        rw [Mt.lineOf_take hlf]
        refine rd_ite2 (fun c1 => ?_) (fun c1 => ?_)
        · walk_at "rd"
          refine ⟨some (.int l), some (.int f), ?_, rfl⟩
          rw [show Mt.stepL pl (((((l0, fk0) :: hs1).take i)).foldl (Mt.stepL pl) l0) (l, f) = l from if_pos (of_decide_eq_true c1)]
          rfl
        · walk_at "rd"
          refine ⟨some (.int l), some (.int f), ?_, rfl⟩
          rw [show Mt.stepL pl (((((l0, fk0) :: hs1).take i)).foldl (Mt.stepL pl) l0) (l, f) = _ from if_neg (of_decide_eq_false c1)]
          rfl
      · rintro σ' H2 ⟨o3, o4, rfl, rfl⟩
        walk_at "rd"
        have e : ((l0, fk0) :: hs1).take xs.length = (l0, fk0) :: hs1 := by rw [hl]; exact List.take_length
        rw [e]
        exact k _ s1

def sp_law_error (K : PySem.W.Frag) (a : Adr) : Sp := fun vs H Q _ => ∃ (N : List Addr) (v u : V) (d e : PyData), vs = [v, u] ∧ Dt K N H v d ∧ Dt K N H u e ∧
  ((Mt.histD d = false ∧ ∀ x H', Same H H' → H' x = some (.ext (ExcIs x (.ref a.C_NoHistory) none)) → Q (.ref x) H') ∨
   (Mt.histD d = true ∧ Mt.withinD 0 1000000 e = false ∧ ∀ x dx H', Same H H' → H' x = some (.ext (ExcIs x (.ref a.C_NoPlace) (some dx))) → H' dx = some (.xd [("place", u)]) → Q (.ref x) H'))
theorem ok_law_error (T : Txt P K mg a) (G_line_of : FnOk P w K mg base (CX1 P w) 7 a.f_line_of a.d_line_of ["history", "place"] (sp_line_of K a)) : FnOk P w K mg base CX0 8 a.f_law_error a.d_law_error ["_law_history_here", "_law_place"] (sp_law_error K a) := by
  refine T.F_law_error.ok sc_law_error (fun vs H Q E h => ?_) (fun cdv A outer s H vs Q E hr h => ?_)
  · obtain ⟨N, v, u, d, e, rfl, _⟩ := h; rfl
  · obtain ⟨N, v, u, d, e, rfl, hd, he, k⟩ := h
    refine exW ⟨_, (qss_cons (qs_set (i := 2) sc_law_error.nd rfl (Or.inl rfl) pe_non (by rfl) (by first | exact Or.inl rfl | exact Or.inr rfl))
      (qss_cons (qs_try (i := 3) (c := "LineError") sc_law_error.nd rfl rfl (by rfl) T.mC_LineError rfl rfl rfl (fun _ _ XR hx =>
        (qss_one (qs_expr (qe_callX G_line_of (hr.mono (by decide)) (by rfl) T.m_line_of T.k_line_of T.bd_line_of .nil hx (qa (pv 0 (by rfl) (by walk_at "vis") (by decide) (by decide)) (qa (pv 1 (by rfl) (by walk_at "vis") (by decide) (by decide)) qa_nil (by rfl)) (by rfl)) (by decide) (by rfl) (by rfl)) (by rfl)))) (fun _ =>
        (qss_one (qs_set (i := 2) sc_law_error.nd rfl (Or.inl rfl) (pv 3 (by rfl) (by walk_at "vis") (by decide) (by decide)) (by rfl) (by first | exact Or.inl rfl | exact Or.inr rfl)))) (by decide))
      (qss_one (qs_ret (pv 2 (by rfl) (by walk_at "vis") (by decide) (by decide)))))), ?_⟩
    try dsimp only [cxOf]
    walk_at "rd"
    rcases k with ⟨hh, k⟩ | ⟨hh, hw, k⟩
    · refine ⟨N, v, u, d, e, rfl, hd, he, .inr (.inl ⟨hh, fun H1 s1 => ⟨T.ex_NoHistory_LineError, fun x hx => ?_⟩⟩)⟩
      walk_at "rd"
      exact k x _ (s1.trans (Same.upd hx)) upd_same
    · refine ⟨N, v, u, d, e, rfl, hd, he, .inr (.inr ⟨hh, hw, fun H1 s1 dx hdx => ⟨T.ex_NoPlace_LineError, fun x hx => ?_⟩⟩)⟩
      have nx : dx ≠ x := fun z => by rw [z, upd_same] at hx; cases hx
      walk_at "rd"
      exact k x dx _ ((s1.trans (Same.upd hdx)).trans (Same.upd hx)) upd_same (by rw [upd_ne nx]; exact upd_same)

def sp_law_refused (K : PySem.W.Frag) (a : Adr) : Sp := fun vs H Q _ => ∃ (N : List Addr) (v u : V) (nm : Addr) (d e : PyData), vs = [v, u, .ref nm] ∧ Dt K N H v d ∧ Dt K N H u e ∧ Shw e ∧
  ((Mt.histD d = false ∧ H nm = some (.lst [.bl true, .bl false, .bl false, .bl false, .bl false, .bl false, .bl false])) ∨
   (Mt.histD d = true ∧ Mt.withinD 0 1000000 e = false ∧ H nm = some (.lst [.bl false, .bl true, .bl false, .bl false, .bl false, .bl false, .bl false]))) ∧
  ∀ H', Same H H' → Q (.bl true) H'
theorem ok_law_refused (T : Txt P K mg a) (G__law_error : FnOk P w K mg base CX0 8 a.f_law_error a.d_law_error ["_law_history_here", "_law_place"] (sp_law_error K a)) : FnOk P w K mg base CX0 9 a.f_law_refused a.d_law_refused ["_law_history_here", "_law_place", "_law_names"] (sp_law_refused K a) := by
  refine T.F_law_refused.ok sc_law_refused (fun vs H Q E h => ?_) (fun cdv A outer s H vs Q E hr h => ?_)
  · obtain ⟨N, v, u, nm, d, e, rfl, _⟩ := h; rfl
  · obtain ⟨N, v, u, nm, d, e, rfl, hd, he, sh, c, k⟩ := h
    refine exW ⟨_, (qss_cons (qs_for PassesOwn.never rfl (qi_range1 (by rfl) T.b_range (qa pe_int qa_nil (by rfl)) (by rfl)) (pg_name (i := 3) sc_law_refused.nd rfl (Or.inl rfl) (by first | exact Or.inl rfl | exact Or.inr rfl))
        (qss_cons (qs_set (i := 4) sc_law_refused.nd rfl (Or.inl rfl) (qe_call G__law_error (hr.mono (by decide)) (by rfl) T.m__law_error T.k__law_error T.bd__law_error .nil pass0 (qa (pv 0 (by rfl) (by walk_at "vis") (by decide) (by decide)) (qa (pv 1 (by rfl) (by walk_at "vis") (by decide) (by decide)) qa_nil (by rfl)) (by rfl)) (by decide) (by rfl) (by rfl)) (by rfl) (by first | exact Or.inl rfl | exact Or.inr rfl))
        (qss_cons (qs_if (pw_or (pt_cmpR on_isN (pv 4 (by rfl) (by walk_at "vis") (by decide) (by decide)) pe_non (nomark _)) (pw_or1 (pt_not (pt_val (qe_callB cn_isiX (by rfl) T.b_isinstance (by decide +kernel) (qa (pv 4 (by rfl) (by walk_at "vis") (by decide) (by decide)) (qa (pe_bltn (by rfl) T.b_ValueError (by decide +kernel) (v := .ty "ValueError") rfl (by decide) (by decide)) qa_nil (by rfl)) (by rfl)) (by decide) (by decide) (by rfl) (by rfl)) (by intro _; rfl))))).pt
          (qss_one (qs_ret pe_bl))
          qss_nil)
        (qss_cons (qs_set (i := 5) sc_law_refused.nd rfl (Or.inl rfl) (qe_lstA (qa (qe_callB cn_isiX (by rfl) T.b_isinstance (by decide +kernel) (qa (pv 4 (by rfl) (by walk_at "vis") (by decide) (by decide)) (qa (pe_glob (v := .ref a.C_NoHistory) (by rfl) T.mC_NoHistory rfl (by decide)) qa_nil (by rfl)) (by rfl)) (by decide) (by decide) (by rfl) (by rfl)) (qa (qe_callB cn_isiX (by rfl) T.b_isinstance (by decide +kernel) (qa (pv 4 (by rfl) (by walk_at "vis") (by decide) (by decide)) (qa (pe_glob (v := .ref a.C_NoPlace) (by rfl) T.mC_NoPlace rfl (by decide)) qa_nil (by rfl)) (by rfl)) (by decide) (by decide) (by rfl) (by rfl)) (qa (qe_callB cn_isiX (by rfl) T.b_isinstance (by decide +kernel) (qa (pv 4 (by rfl) (by walk_at "vis") (by decide) (by decide)) (qa (pe_glob (v := .ref a.C_NoCount) (by rfl) T.mC_NoCount rfl (by decide)) qa_nil (by rfl)) (by rfl)) (by decide) (by decide) (by rfl) (by rfl)) qa_nil (by rfl)) (by rfl)) (by rfl))) (by rfl) (by first | exact Or.inl rfl | exact Or.inr rfl))
        (qss_cons (qs_set (i := 5) sc_law_refused.nd rfl (Or.inl rfl) (pe_op op_catA (pv 5 (by rfl) (by walk_at "vis") (by decide) (by decide)) (qe_lstA (qa (qe_callB cn_isiX (by rfl) T.b_isinstance (by decide +kernel) (qa (pv 4 (by rfl) (by walk_at "vis") (by decide) (by decide)) (qa (pe_glob (v := .ref a.C_Full) (by rfl) T.mC_Full rfl (by decide)) qa_nil (by rfl)) (by rfl)) (by decide) (by decide) (by rfl) (by rfl)) (qa (qe_callB cn_isiX (by rfl) T.b_isinstance (by decide +kernel) (qa (pv 4 (by rfl) (by walk_at "vis") (by decide) (by decide)) (qa (pe_glob (v := .ref a.C_TooEarly) (by rfl) T.mC_TooEarly rfl (by decide)) qa_nil (by rfl)) (by rfl)) (by decide) (by decide) (by rfl) (by rfl)) (qa (qe_callB cn_isiX (by rfl) T.b_isinstance (by decide +kernel) (qa (pv 4 (by rfl) (by walk_at "vis") (by decide) (by decide)) (qa (pe_glob (v := .ref a.C_TooOld) (by rfl) T.mC_TooOld rfl (by decide)) qa_nil (by rfl)) (by rfl)) (by decide) (by decide) (by rfl) (by rfl)) qa_nil (by rfl)) (by rfl)) (by rfl)))) (by rfl) (by first | exact Or.inl rfl | exact Or.inr rfl))
        (qss_cons (qs_if (pt_cmpR (on_neD hr) (pe_op op_catA (pv 5 (by rfl) (by walk_at "vis") (by decide) (by decide)) (qe_lstA (qa (qe_callB cn_isiX (by rfl) T.b_isinstance (by decide +kernel) (qa (pv 4 (by rfl) (by walk_at "vis") (by decide) (by decide)) (qa (pe_glob (v := .ref a.C_Elder) (by rfl) T.mC_Elder rfl (by decide)) qa_nil (by rfl)) (by rfl)) (by decide) (by decide) (by rfl) (by rfl)) qa_nil (by rfl)))) (pv 2 (by rfl) (by walk_at "vis") (by decide) (by decide)) (nomark _))
          (qss_one (qs_ret pe_bl))
          qss_nil)
        (qss_one (qs_if (pw_and (pt_val (pe_ix ix_list (pv 2 (by rfl) (by walk_at "vis") (by decide) (by decide)) pe_int (fun _ _ => rfl)) (by intro _; rfl)) (pw_and1 (pt_cmpR op_ne (qe_callB (cn_repr hr) (by rfl) T.b_repr (by decide +kernel) (qa (pe_xat (pv 4 (by rfl) (by walk_at "vis") (by decide) (by decide)) (by rfl)) qa_nil (by rfl)) (by decide) (by decide) (by rfl) (by rfl)) (qe_callB (cn_repr hr) (by rfl) T.b_repr (by decide +kernel) (qa (pv 1 (by rfl) (by walk_at "vis") (by decide) (by decide)) qa_nil (by rfl)) (by decide) (by decide) (by rfl) (by rfl)) (nomark _)))).pt
          (qss_one (qs_ret pe_bl))
          qss_nil))))))) (by intro _; rfl))
      (qss_one (qs_ret pe_bl))), ?_⟩
    try dsimp only [cxOf]
    walk_at "rd"
    refine ⟨by decide, by decide, ?_⟩
    have blsD : ∀ {H' : Hp} {p : Addr} {b1 b2 b3 b4 b5 b6 b7 : Bool}, H' p = some (.lst [.bl b1, .bl b2, .bl b3, .bl b4, .bl b5, .bl b6, .bl b7]) → Dt K [] H' (.ref p) (.list [.bool b1, .bool b2, .bool b3, .bool b4, .bool b5, .bool b6, .bool b7]) :=
      fun z => .lst (SqL.of z) (by simp) (.cons (.bl _) (.cons (.bl _) (.cons (.bl _) (.cons (.bl _) (.cons (.bl _) (.cons (.bl _) (.cons (.bl _) .nil)))))))
    refine for_rangeW (fun i σ' H' => ∃ o3 o4 o5 : Option V, σ' = [some v, some u, some (.ref nm), o3, o4, o5] ∧ Same H H') ?_ ?_ ?_
    · exact ⟨none, none, none, rfl, Same.refl _⟩
    · rintro i0 σ' H1 hi ⟨o3, o4, o5, rfl, s1⟩
      have hd1 := hd.ext (Ext.same s1)
      have he1 := he.ext (Ext.same s1)
      walk_at "rd"
      rcases c with ⟨hh, cn⟩ | ⟨hh, hw, cn⟩
      · refine ⟨N, v, u, d, e, rfl, hd1, he1, .inl ⟨hh, fun x H2 s2 ex => ?_⟩⟩
        have ty : ∀ {H' : Hp}, Same H2 H' → TyX K H' (.ref x) (.ref a.C_NoHistory) := fun s => .exc (s _ _ ex) T.xg_NoHistory
        walk_at "rd"
        refine rd_isiX (ty (Same.refl _)) rfl T.is_NoHistory_ValueError ?_
        walk_at "rd"
        refine rd_isiX (ty (Same.refl _)) rfl T.is_NoHistory_NoHistory ?_
        walk_at "rd"
        refine rd_isiX (ty (Same.refl _)) rfl T.is_NoHistory_NoPlace ?_
        walk_at "rd"
        refine rd_isiX (ty (Same.refl _)) rfl T.is_NoHistory_NoCount ?_
        walk_at "rd"
        refine ⟨sz (by simp), fun l1 H3 n3 s3 e3 => ?_⟩
        walk_at "rd"
        refine rd_isiX (ty s3) rfl T.is_NoHistory_Full ?_
        walk_at "rd"
        refine rd_isiX (ty s3) rfl T.is_NoHistory_TooEarly ?_
        walk_at "rd"
        refine rd_isiX (ty s3) rfl T.is_NoHistory_TooOld ?_
        walk_at "rd"
        refine ⟨sz (by simp), fun l2 H4 n4 s4 e4 => ?_⟩
        refine rd_catA (s4 _ _ e3) e4 (sz (by simp)) fun l3 H5 n5 s5 e5 => ?_
        walk_at "rd"
        refine rd_isiX (ty ((s3.trans s4).trans s5)) rfl T.is_NoHistory_Elder ?_
        walk_at "rd"
        refine ⟨sz (by simp), fun l4 H6 n6 s6 e6 => ?_⟩
        refine rd_catA (s6 _ _ e5) e6 (sz (by simp)) fun l5 H7 n7 s7 e7 => ?_
        have s27 := (((s3.trans s4).trans s5).trans s6).trans s7
        have s17 := s2.trans s27
        have cn7 := (s1.trans s17) _ _ cn
        walk_at "rd"
        refine rd_neD (N := []) (blsD e7) (blsD cn7) rfl rfl ?_
        rw [show PyData.eqv (.list [.bool true, .bool false, .bool false, .bool false, .bool false, .bool false, .bool false]) (.list [.bool true, .bool false, .bool false, .bool false, .bool false, .bool false, .bool false]) = true by decide]
        walk_at "rd"
        exact ⟨_, _, _, rfl, s1.trans s17⟩
      · refine ⟨N, v, u, d, e, rfl, hd1, he1, .inr ⟨hh, hw, fun x dx H2 s2 ex ed => ?_⟩⟩
        have ty : ∀ {H' : Hp}, Same H2 H' → TyX K H' (.ref x) (.ref a.C_NoPlace) := fun s => .exc (s _ _ ex) T.xg_NoPlace
        walk_at "rd"
        refine rd_isiX (ty (Same.refl _)) rfl T.is_NoPlace_ValueError ?_
        walk_at "rd"
        refine rd_isiX (ty (Same.refl _)) rfl T.is_NoPlace_NoHistory ?_
        walk_at "rd"
        refine rd_isiX (ty (Same.refl _)) rfl T.is_NoPlace_NoPlace ?_
        walk_at "rd"
        refine rd_isiX (ty (Same.refl _)) rfl T.is_NoPlace_NoCount ?_
        walk_at "rd"
        refine ⟨sz (by simp), fun l1 H3 n3 s3 e3 => ?_⟩
        walk_at "rd"
        refine rd_isiX (ty s3) rfl T.is_NoPlace_Full ?_
        walk_at "rd"
        refine rd_isiX (ty s3) rfl T.is_NoPlace_TooEarly ?_
        walk_at "rd"
        refine rd_isiX (ty s3) rfl T.is_NoPlace_TooOld ?_
        walk_at "rd"
        refine ⟨sz (by simp), fun l2 H4 n4 s4 e4 => ?_⟩
        refine rd_catA (s4 _ _ e3) e4 (sz (by simp)) fun l3 H5 n5 s5 e5 => ?_
        walk_at "rd"
        refine rd_isiX (ty ((s3.trans s4).trans s5)) rfl T.is_NoPlace_Elder ?_
        walk_at "rd"
        refine ⟨sz (by simp), fun l4 H6 n6 s6 e6 => ?_⟩
        refine rd_catA (s6 _ _ e5) e6 (sz (by simp)) fun l5 H7 n7 s7 e7 => ?_
        have s27 := (((s3.trans s4).trans s5).trans s6).trans s7
        have s17 := s2.trans s27
        have cn7 := (s1.trans s17) _ _ cn
        walk_at "rd"
        refine rd_neD (N := []) (blsD e7) (blsD cn7) rfl rfl ?_
        rw [show PyData.eqv (.list [.bool false, .bool true, .bool false, .bool false, .bool false, .bool false, .bool false]) (.list [.bool false, .bool true, .bool false, .bool false, .bool false, .bool false, .bool false]) = true by decide]
        have he7 := he1.ext (Ext.same s17)
        walk_at "rd"
        refine ⟨x, _, dx, _, u, _, rfl, s27 _ _ ex, T.xg_NoPlace, T.Z_NoPlace.xc, T.Z_NoPlace.x1.no, s27 _ _ ed, rfl, ?_⟩
        walk_at "rd"
        refine rd_repr he7 sh ?_
        walk_at "rd"
        refine rd_repr he7 sh ?_
        walk_at "rd"
        rw [ne_self]
        walk_at "rd"
        exact ⟨_, _, _, rfl, s1.trans s17⟩
    · rintro σ' H1 ⟨o3, o4, o5, rfl, s1⟩
      walk_at "rd"
      exact k _ s1

def sp_law (K : PySem.W.Frag) : Sp := fun vs H Q _ => ∃ (p : Addr) (ns : List Int), vs = [.ref p] ∧ SqL K H p (ns.map V.int) ∧ ns.length ≤ 63 ∧ ∀ H', Q (.bl true) H'
theorem ok_law (T : Txt P K mg a) (G__law_at : FnOk P w K mg base CX0 1 a.f_law_at a.d_law_at ["_law_history_here", "_law_place"] (sp_law_at K)) (G__law_end : FnOk P w K mg base CX0 2 a.f_law_end a.d_law_end ["_law_state_here", "_law_history_here"] (sp_law_end K)) (G__law_history : FnOk P w K mg base CX0 2 a.f_law_history a.d_law_history ["_law_state_here"] (sp_law_history K)) (G__law_next : FnOk P w K mg base CX0 1 a.f_law_next a.d_law_next ["_law_state_here", "_law_below"] (sp_law_next K)) (G__law_refused : FnOk P w K mg base CX0 9 a.f_law_refused a.d_law_refused ["_law_history_here", "_law_place", "_law_names"] (sp_law_refused K a)) (G__law_state : FnOk P w K mg base CX0 1 a.f_law_state a.d_law_state ["_law_script"] (sp_law_state K)) (G__law_whole : FnOk P w K mg base CX0 1 a.f_law_whole a.d_law_whole ["_law_found"] (sp_law_whole K)) (G_line_of : FnOk P w K mg base (CX1 P w) 7 a.f_line_of a.d_line_of ["history", "place"] (sp_line_of K a)) : FnOk P w K mg base CX0 10 a.f_law a.d_law ["_law_script"] (sp_law K) := by
  refine T.F_law.ok sc_law (fun vs H Q E h => ?_) (fun cdv A outer s H vs Q E hr h => ?_)
  · obtain ⟨p, ns, rfl, _⟩ := h; rfl
  · obtain ⟨p, ns, rfl, hq, hl, k⟩ := h
    refine exW ⟨_, (qss_cons (qs_set (i := 1) sc_law.nd rfl (Or.inl rfl) (qe_call G__law_state (hr.mono (by decide)) (by rfl) T.m__law_state T.k__law_state T.bd__law_state .nil pass0 (qa (pv 0 (by rfl) (by walk_at "vis") (by decide) (by decide)) qa_nil (by rfl)) (by decide) (by rfl) (by rfl)) (by rfl) (by first | exact Or.inl rfl | exact Or.inr rfl))
      (qss_cons (qs_for PassesOwn.never rfl (qi_range1 (by rfl) T.b_range (qa pe_int qa_nil (by rfl)) (by rfl)) (pg_name (i := 2) sc_law.nd rfl (Or.inl rfl) (by first | exact Or.inl rfl | exact Or.inr rfl))
        (qss_cons (qs_set (i := 3) sc_law.nd rfl (Or.inl rfl) (qe_call G__law_history (hr.mono (by decide)) (by rfl) T.m__law_history T.k__law_history T.bd__law_history .nil pass0 (qa (pv 1 (by rfl) (by walk_at "vis") (by decide) (by decide)) qa_nil (by rfl)) (by decide) (by rfl) (by rfl)) (by rfl) (by first | exact Or.inl rfl | exact Or.inr rfl))
        (qss_cons (qs_for PassesOwn.never rfl (pi_list (qe_lstA (qa (by exact (qe_call G__law_end (hr.mono (by decide)) (by rfl) T.m__law_end T.k__law_end T.bd__law_end .nil pass0 (qa (pv 1 (by rfl) (by walk_at "vis") (by decide) (by decide)) (qa (pv 3 (by rfl) (by walk_at "vis") (by decide) (by decide)) qa_nil (by rfl)) (by rfl)) (by decide) (by rfl) (by rfl))) (qa (by exact (qe_call G__law_end (hr.mono (by decide)) (by rfl) T.m__law_end T.k__law_end T.bd__law_end .nil pass0 (qa (pv 1 (by rfl) (by walk_at "vis") (by decide) (by decide)) (qa (pv 3 (by rfl) (by walk_at "vis") (by decide) (by decide)) qa_nil (by rfl)) (by rfl)) (by decide) (by rfl) (by rfl))) (qa pe_int (qa (by exact (pe_op op_pow pe_int pe_int)) (qa (by exact (qe_call G__law_end (hr.mono (by decide)) (by rfl) T.m__law_end T.k__law_end T.bd__law_end .nil pass0 (qa (pv 1 (by rfl) (by walk_at "vis") (by decide) (by decide)) (qa (pv 3 (by rfl) (by walk_at "vis") (by decide) (by decide)) qa_nil (by rfl)) (by rfl)) (by decide) (by rfl) (by rfl))) qa_nil (by rfl)) (by rfl)) (by rfl)) (by rfl)) (by rfl)))) (pg_name (i := 4) sc_law.nd rfl (Or.inl rfl) (by first | exact Or.inl rfl | exact Or.inr rfl))
          (qss_cons (qs_set (i := 5) sc_law.nd rfl (Or.inl rfl) (qe_callX G_line_of (hr.mono (by decide)) (by rfl) T.m_line_of T.k_line_of T.bd_line_of .nil px0 (qa (pv 3 (by rfl) (by walk_at "vis") (by decide) (by decide)) (qa (pv 4 (by rfl) (by walk_at "vis") (by decide) (by decide)) qa_nil (by rfl)) (by rfl)) (by decide) (by rfl) (by rfl)) (by rfl) (by first | exact Or.inl rfl | exact Or.inr rfl))
          (qss_one (qs_if (pw_or (pt_not (pt_val (qe_call G__law_whole (hr.mono (by decide)) (by rfl) T.m__law_whole T.k__law_whole T.bd__law_whole .nil pass0 (qa (pv 5 (by rfl) (by walk_at "vis") (by decide) (by decide)) qa_nil (by rfl)) (by decide) (by rfl) (by rfl)) (by intro _; rfl))) (pw_or1 (pt_cmpR op_ne (pv 5 (by rfl) (by walk_at "vis") (by decide) (by decide)) (qe_call G__law_at (hr.mono (by decide)) (by rfl) T.m__law_at T.k__law_at T.bd__law_at .nil pass0 (qa (pv 3 (by rfl) (by walk_at "vis") (by decide) (by decide)) (qa (pv 4 (by rfl) (by walk_at "vis") (by decide) (by decide)) qa_nil (by rfl)) (by rfl)) (by decide) (by rfl) (by rfl)) (nomark _)))).pt
            (qss_one (qs_ret pe_bl))
            qss_nil))) (by intro _; rfl))
        (qss_cons (qs_setLA (i := 6) sc_law.nd rfl (Or.inl rfl) (qa (by exact (pe_op op_sub (pe_un un_neg pe_int) (qe_call G__law_next (hr.mono (by decide)) (by rfl) T.m__law_next T.k__law_next T.bd__law_next .nil pass0 (qa (pv 1 (by rfl) (by walk_at "vis") (by decide) (by decide)) (qa pe_int qa_nil (by rfl)) (by rfl)) (by decide) (by rfl) (by rfl)))) (qa (by exact (pe_op op_add (pe_op op_add (pe_op op_pow pe_int pe_int) pe_int) (qe_call G__law_next (hr.mono (by decide)) (by rfl) T.m__law_next T.k__law_next T.bd__law_next .nil pass0 (qa (pv 1 (by rfl) (by walk_at "vis") (by decide) (by decide)) (qa pe_int qa_nil (by rfl)) (by rfl)) (by decide) (by rfl) (by rfl)))) (qa (by exact (pe_op op_pow pe_int pe_int)) (qa pe_bl (qa pe_non (qa pe_str (qa (by exact (qe_tupA (qa pe_int qa_nil (by rfl)))) (qa (by exact (qe_lstA (qa pe_int qa_nil (by rfl)))) (qa pe_dnewA qa_nil (by rfl)) (by rfl)) (by rfl)) (by rfl)) (by rfl)) (by rfl)) (by rfl)) (by rfl)) (by rfl)) (by first | exact Or.inl rfl | exact Or.inr rfl))
        (qss_cons (qs_set (i := 7) sc_law.nd rfl (Or.inl rfl) (pe_ix ix_list (pv 6 (by rfl) (by walk_at "vis") (by decide) (by decide)) (qe_call G__law_next (hr.mono (by decide)) (by rfl) T.m__law_next T.k__law_next T.bd__law_next .nil pass0 (qa (pv 1 (by rfl) (by walk_at "vis") (by decide) (by decide)) (qa pe_int qa_nil (by rfl)) (by rfl)) (by decide) (by rfl) (by rfl)) (fun _ _ => rfl)) (by rfl) (by first | exact Or.inl rfl | exact Or.inr rfl))
        (qss_cons (qs_set (i := 8) sc_law.nd rfl (Or.inl rfl) (pe_ix ix_list (qe_lstA (qa (by exact (qe_tupA qa_nil)) (qa (by exact (qe_callTy (cn_listA (K := K) (by rfl)) (by rfl) T.b_list (by decide +kernel) (qa (pv 3 (by rfl) (by walk_at "vis") (by decide) (by decide)) qa_nil (by rfl)) (by decide) (by decide) (by rfl) (by rfl))) (qa pe_non (qa (by exact (pe_op op_catG (pv 3 (by rfl) (by walk_at "vis") (by decide) (by decide)) (pe_slice sl_tupG (pv 3 (by rfl) (by walk_at "vis") (by decide) (by decide)) po_none (po_some pe_int)))) (qa (by exact (qe_tupA (qa (qe_tupA (qa pe_int (qa pe_int qa_nil (by rfl)) (by rfl))) qa_nil (by rfl)))) (qa pe_int (qa pe_str qa_nil (by rfl)) (by rfl)) (by rfl)) (by rfl)) (by rfl)) (by rfl)) (by rfl))) (qe_call G__law_next (hr.mono (by decide)) (by rfl) T.m__law_next T.k__law_next T.bd__law_next .nil pass0 (qa (pv 1 (by rfl) (by walk_at "vis") (by decide) (by decide)) (qa pe_int qa_nil (by rfl)) (by rfl)) (by decide) (by rfl) (by rfl)) (fun _ _ => rfl)) (by rfl) (by first | exact Or.inl rfl | exact Or.inr rfl))
        (qss_cons (qs_if (pt_not (pt_val (qe_call G__law_refused (hr.mono (by decide)) (by rfl) T.m__law_refused T.k__law_refused T.bd__law_refused .nil pass0 (qa (pv 3 (by rfl) (by walk_at "vis") (by decide) (by decide)) (qa (pv 7 (by rfl) (by walk_at "vis") (by decide) (by decide)) (qa (qe_lstA (qa pe_bl (qa pe_bl (qa pe_bl (qa pe_bl (qa pe_bl (qa pe_bl (qa pe_bl qa_nil (by rfl)) (by rfl)) (by rfl)) (by rfl)) (by rfl)) (by rfl)) (by rfl))) qa_nil (by rfl)) (by rfl)) (by rfl)) (by decide) (by rfl) (by rfl)) (by intro _; rfl)))
          (qss_one (qs_ret pe_bl))
          qss_nil)
        (qss_cons (qs_for PassesOwn.never rfl (pi_list (qe_lstA (qa (pv 7 (by rfl) (by walk_at "vis") (by decide) (by decide)) (qa (qe_call G__law_end (hr.mono (by decide)) (by rfl) T.m__law_end T.k__law_end T.bd__law_end .nil pass0 (qa (pv 1 (by rfl) (by walk_at "vis") (by decide) (by decide)) (qa (pv 3 (by rfl) (by walk_at "vis") (by decide) (by decide)) qa_nil (by rfl)) (by rfl)) (by decide) (by rfl) (by rfl)) qa_nil (by rfl)) (by rfl)))) (pg_name (i := 4) sc_law.nd rfl (Or.inl rfl) (by first | exact Or.inl rfl | exact Or.inr rfl))
          (qss_one (qs_if (pt_not (pt_val (qe_call G__law_refused (hr.mono (by decide)) (by rfl) T.m__law_refused T.k__law_refused T.bd__law_refused .nil pass0 (qa (pv 8 (by rfl) (by walk_at "vis") (by decide) (by decide)) (qa (pv 4 (by rfl) (by walk_at "vis") (by decide) (by decide)) (qa (qe_lstA (qa pe_bl (qa pe_bl (qa pe_bl (qa pe_bl (qa pe_bl (qa pe_bl (qa pe_bl qa_nil (by rfl)) (by rfl)) (by rfl)) (by rfl)) (by rfl)) (by rfl)) (by rfl))) qa_nil (by rfl)) (by rfl)) (by rfl)) (by decide) (by rfl) (by rfl)) (by intro _; rfl)))
            (qss_one (qs_ret pe_bl))
            qss_nil)) (by intro _; rfl))
        (qss_one (qs_if (pt_cmpR op_ne (qe_callX G_line_of (hr.mono (by decide)) (by rfl) T.m_line_of T.k_line_of T.bd_line_of .nil px0 (qa (pv 3 (by rfl) (by walk_at "vis") (by decide) (by decide)) (qa pe_int qa_nil (by rfl)) (by rfl)) (by decide) (by rfl) (by rfl)) (qe_call G__law_at (hr.mono (by decide)) (by rfl) T.m__law_at T.k__law_at T.bd__law_at .nil pass0 (qa (pv 3 (by rfl) (by walk_at "vis") (by decide) (by decide)) (qa pe_int qa_nil (by rfl)) (by rfl)) (by decide) (by rfl) (by rfl)) (nomark _))
          (qss_one (qs_ret pe_bl))
          qss_nil))))))))) (by intro _; rfl))
      (qss_one (qs_ret pe_bl)))), ?_⟩
    try dsimp only [cxOf]
    walk_at "rq"
    refine ⟨p, ns, rfl, hq, hl, fun st H1 S1 s1 n1 => ?_⟩
    walk_at "rq"
    refine ⟨by decide, by decide, ?_⟩
    have tr : ∀ {H' : Hp}, StOk K H' st → Trk K [st] H' st := fun s => Trk.one s
    refine for_rangeW (fun i σ' H' => ∃ o2 o3 o4 o5 o6 o7 o8 : Option V, σ' = [some (.ref p), some (.ref st), o2, o3, o4, o5, o6, o7, o8] ∧ StOk K H' st) ?_ ?_ ?_
    · exact ⟨none, none, none, none, none, none, none, rfl, S1⟩
    · rintro i0 σ' H4 hi ⟨o2, o3, o4, o5, o6, o7, o8, rfl, S4⟩
      walk_at "rq"
      refine ⟨st, rfl, S4, fun hp hs H5 ho hsm hd S5 x5 => ?_⟩
      walk_at "rq"
      refine ⟨[st], st, hp, hs, rfl, tr S5, ho, hd, fun v1 H6 a1 b1 S6 x6 => ?_⟩
      walk_at "rq"
      refine ⟨[st], st, hp, hs, rfl, tr S6, ho, hd.ext x6, fun v2 H7 a2 b2 S7 x7 => ?_⟩
      walk_at "rq"
      refine ⟨[st], st, hp, hs, rfl, tr S7, ho, (hd.ext x6).ext x7, fun v3 H8 a3 b3 S8 x8 => ?_⟩
      walk_at "rq"
      refine ⟨sz (by simp), fun l1 H9 n9 s9 e9 => ?_⟩
      rw [Mt.p6] at e9
      have S9 := S8.same s9
      have hd9 := (((hd.ext x6).ext x7).ext x8).ext (Ext.same s9)
      refine ⟨l1, rfl, ⟨_, SqL.of e9⟩, ?_⟩
      refine for_listW (xs := [.int v1, .int v2, .int 0, .int 1000000, .int v3]) (fun i σ' H' => ∃ o4 o5 : Option V, σ' = [some (.ref p), some (.ref st), some (.int (0 + i0)), some (.ref hp), o4, o5, o6, o7, o8] ∧ Same H9 H') ?_ ?_ ?_ ?_
      · exact ⟨_, _, rfl, Same.refl _⟩
      · rintro i σ' H10 hi ⟨o4, o5, rfl, s10⟩
        exact SqL.of (s10 _ _ e9)
      · rintro i x σ' H10 hx ⟨o4, o5, rfl, s10⟩
        obtain ⟨e, rfl, he0, he1⟩ : ∃ e : Int, x = .int e ∧ 0 ≤ e ∧ e ≤ 1000000 := by
          have hm := List.mem_of_getElem? hx
          simp only [List.mem_cons, List.not_mem_nil, or_false] at hm
          rcases hm with rfl | rfl | rfl | rfl | rfl
          · exact ⟨_, rfl, a1, b1⟩
          · exact ⟨_, rfl, a2, b2⟩
          · exact ⟨_, rfl, by decide, by decide⟩
          · exact ⟨_, rfl, by decide, by decide⟩
          · exact ⟨_, rfl, a3, b3⟩
        have hd10 := hd9.ext (Ext.same s10)
        walk_at "rq"
        refine ⟨[st], _, _, _, _, rfl, hd10, .int e, .inl ⟨hs, e, rfl, ho, rfl, he0, he1, fun H11 s11 => ?_⟩⟩
        walk_at "rq"
        refine ⟨[], _, _, rfl, .int _, ?_⟩
        walk_at "rq"
        refine ⟨[st], hp, hs, e, rfl, ho, hd10.ext (Ext.same s11), he0, he1, fun H12 s12 => ?_⟩
        refine rd_ne rfl ?_
        rw [ne_self]
        walk_at "rq"
        exact ⟨_, _, rfl, (s10.trans s11).trans s12⟩
      · rintro σ' H10 ⟨o4, o5, rfl, s10⟩
        have S10 := S9.same s10
        have hd10 := hd9.ext (Ext.same s10)
        walk_at "rq"
        refine ⟨st, 9, rfl, S10, by decide, by decide, ?_⟩
        intro w1 H11 a4 b4 S11 x11
        walk_at "rq"
        refine ⟨st, 9, rfl, S11, by decide, by decide, ?_⟩
        intro w2 H12 a5 b5 S12 x12
        walk_at "rq"
        refine ⟨sz (by simp), fun t1 H13 n13 s13 e13 => ?_⟩
        walk_at "rq"
        refine ⟨sz (by simp), fun t2 H14 n14 s14 e14 => ?_⟩
        walk_at "rq"
        intro t3 H15 n15 s15 e15
        walk_at "rq"
        refine ⟨sz (by simp), fun l2 H16 n16 s16 e16 => ?_⟩
        have S13 := S12.same s13
        have S14 := S13.same s14
        have S15 := S14.same s15
        have S16 := S15.same s16
        have m1 : t1 ∉ [st] := by simpa using S12.ne n13
        have m2 : t2 ∉ [st] := by simpa using S13.ne n14
        have m3 : t3 ∉ [st] := by simpa using S14.ne n15
        have ml : l2 ∉ [st] := by simpa using S15.ne n16
        have q6 := Mt.p6
        have dall : DtAll K [st] H16 _ [.int (-1 - w1), .int (10 ^ (6 : Int).toNat + 1 + w2), .int (10 ^ (40 : Int).toNat), .bool true, .none, .str (Str.ofString "1"), .tuple [.int 1], .list [.int 1], .dict []] :=
          .cons (.int _) (.cons (.int _) (.cons (.int _) (.cons (.bl true) (.cons .non (.cons (.str _) (.cons (.tup (SqT.of (((s14.trans s15).trans s16) _ _ e13)) m1 (.cons (.int 1) .nil)) (.cons (.lst (SqL.of ((s15.trans s16) _ _ e14)) m2 (.cons (.int 1) .nil)) (.cons (.dk0 (s16 _ _ e15) m3) .nil))))))))
        walk_at "rq"
        refine ⟨st, 9, rfl, S16, by decide, by decide, ?_⟩
        intro w3 H17 a6 b6 S17 x17
        obtain ⟨u, e, g1, g2, g3⟩ := (dall.ext x17).atI (i := w3) a6 (by simpa using b6)
        refine rd_ixL (x17.lst (SqL.of e16) ml) g1 ?_
        have oneI : ∀ d ∈ [PyData.int 1], Mt.Itm 140 0 d := fun d hd => by
          have : d = .int 1 := by simpa using hd
          rw [this]; exact Mt.itm_int (by decide)
        have sh : Shw e ∧ Mt.withinD 0 1000000 e = false := by
          simp only [List.mem_cons, List.not_mem_nil, or_false] at g2
          rcases g2 with rfl | rfl | rfl | rfl | rfl | rfl | rfl | rfl | rfl
          · refine ⟨(Mt.itm_int (by omega)).shw (by decide) (by decide), ?_⟩
            simp only [Mt.withinD]
            rw [decide_eq_false (by omega)]; rfl
          · rw [q6]
            refine ⟨(Mt.itm_int (by omega)).shw (by decide) (by decide), ?_⟩
            simp only [Mt.withinD]
            rw [decide_eq_false (show ¬ (1000000 + 1 + w2 ≤ 1000000) by omega), Bool.and_false]
          · exact ⟨(Mt.itm_int (by decide)).shw (by decide) (by decide), by decide⟩
          · exact ⟨(Mt.itm_bool true).shw (by decide) (by decide), rfl⟩
          · exact ⟨Mt.itm_none.shw (by decide) (by decide), rfl⟩
          · exact ⟨(Mt.itm_str (cps_ofString _) (by decide)).shw (by decide) (by decide), rfl⟩
          · exact ⟨(Mt.itm_tuple (n := 1) oneI (by simp)).shw (by decide) (by decide), rfl⟩
          · exact ⟨(Mt.itm_list (n := 1) oneI (by simp)).shw (by decide) (by decide), rfl⟩
          · exact ⟨Mt.shw_dict0, rfl⟩
        have x1017 : Ext [st] H10 H17 := ((x11.trans x12).trans (Ext.same (((s13.trans s14).trans s15).trans s16))).trans x17
        have hd17 := hd10.ext x1017
        have hdc := hd17
        cases hdc with
        | tup hq hn hr =>
          rename_i xs
          have hlx := hr.length
          rw [List.length_map] at hlx
          have g60 := ho.len2
          walk_at "rq"
          refine ⟨sz (by simp), fun r1 H18 n18 s18 e18 => ?_⟩
          have hq18 := s18.tupS hq
          walk_at "rq"
          intro r2 H19 n19 s19 e19
          have hq19 := s19.tupS hq18
          walk_at "rq"
          intro c1 H20 hc1 s20 q20
          have lc := cutV_length xs none (some 1)
          refine rd_catG (s20.tupS hq19) q20 (sz (by omega)) fun r3 H21 hr3 s21 q21 => ?_
          walk_at "rq"
          refine ⟨sz (by simp), fun r4 H22 n22 s22 e22 => ?_⟩
          walk_at "rq"
          refine ⟨sz (by simp), fun r5 H23 n23 s23 e23 => ?_⟩
          walk_at "rq"
          refine ⟨sz (by simp), fun l3 H24 n24 s24 e24 => ?_⟩
          have S18 := S17.same s18
          have S19 := S18.same s19
          have S20 := S19.same s20
          have S21 := S20.same s21
          have S22 := S21.same s22
          have S23 := S22.same s23
          have S24 := S23.same s24
          have k1 : r1 ∉ [st] := by simpa using S17.ne n18
          have k2 : r2 ∉ [st] := by simpa using S18.ne n19
          have kc : c1 ∉ [st] := by
            rcases hc1 with rfl | z
            · exact hn
            · simpa using S19.ne z
          have k3 : r3 ∉ [st] := by
            rcases hr3 with rfl | rfl | z
            · exact hn
            · exact kc
            · simpa using S20.ne z
          have k4 : r4 ∉ [st] := by simpa using S21.ne n22
          have k5 : r5 ∉ [st] := by simpa using S22.ne n23
          have kl : l3 ∉ [st] := by simpa using S23.ne n24
          have s2124 := (s22.trans s23).trans s24
          have s1724 := (((s18.trans s19).trans s20).trans s21).trans s2124
          have hr24 := hr.ext (Ext.same s1724)
          have dal2 : DtAll K [st] H24 _ [.tuple [], .list (hs.map Mt.pr), .none, .tuple (hs.map Mt.pr ++ cutD (hs.map Mt.pr) none (some 1)), .tuple [.tuple [.int 0, .int 1]], .int 0, .str (Str.ofString "h")] :=
            .cons (.tup (SqT.of (((((s19.trans s20).trans s21).trans s2124)) _ _ e18)) k1 .nil) (.cons (.lst (SqL.of (((s20.trans s21).trans s2124) _ _ e19)) k2 hr24) (.cons .non (.cons (.tup (s2124.tupS q21) k3 (hr24.append (hr24.cut none (some 1))))
              (.cons (.tup (SqT.of (s24 _ _ e23)) k5 (.cons (.tup (SqT.of ((s23.trans s24) _ _ e22)) k4 (.cons (.int 0) (.cons (.int 1) .nil))) .nil)) (.cons (.int 0) (.cons (.str _) .nil))))))
          walk_at "rq"
          refine ⟨st, 7, rfl, S24, by decide, by decide, ?_⟩
          intro w4 H25 a7 b7 S25 x25
          obtain ⟨v, dd, f1, f2, f3⟩ := (dal2.ext x25).atI (i := w4) a7 (by simpa using b7)
          refine rd_ixL (x25.lst (SqL.of e24) kl) f1 ?_
          have hno : Mt.histD dd = false := by
            simp only [List.mem_cons, List.not_mem_nil, or_false] at f2
            rcases f2 with rfl | rfl | rfl | rfl | rfl | rfl | rfl
            · rfl
            · rfl
            · rfl
            · obtain ⟨a0, r0, rfl⟩ := ho.zero
              rw [List.map_cons, Mt.cut1]
              exact Mt.twice_not (a0, 0) r0
            · rfl
            · rfl
            · rfl
          have hd25 := (hd17.ext (Ext.same s1724)).ext x25
          have g25 := (g3.ext (Ext.same s1724)).ext x25
          walk_at "rq"
          refine ⟨sz (by simp), fun nm H26 n26 s26 e26 => ?_⟩
          walk_at "rq"
          refine ⟨[st], _, u, nm, _, e, rfl, hd25.ext (Ext.same s26), g25.ext (Ext.same s26), sh.1, .inr ⟨ho.hist, sh.2, e26⟩, fun H27 s27 => ?_⟩
          have s2527 := s26.trans s27
          have S27 := S25.same s2527
          have hd27 := hd25.ext (Ext.same s2527)
          walk_at "rq"
          refine ⟨[st], st, hp, hs, rfl, tr S27, ho, hd27, fun v4 H28 a8 b8 S28 x28 => ?_⟩
          walk_at "rq"
          refine ⟨sz (by simp), fun l4 H29 n29 s29 e29 => ?_⟩
          have x2529 : Ext [st] H25 H29 := (((Ext.same s2527).trans x28)).trans (Ext.same s29)
          have g29 := g25.ext x2529
          have f29 := f3.ext x2529
          have hd29 := hd25.ext x2529
          have S29 := S28.same s29
          refine ⟨l4, rfl, ⟨_, SqL.of e29⟩, ?_⟩
          refine for_listW (xs := [u, .int v4]) (fun i σ' H' => ∃ o4 : Option V, σ' = [some (.ref p), some (.ref st), some (.int (0 + i0)), some (.ref hp), o4, o5, some (.ref l2), some u, some v] ∧ Same H29 H') ?_ ?_ ?_ ?_
          · exact ⟨_, rfl, Same.refl _⟩
          · rintro i σ' H30 hi ⟨o4, rfl, s30⟩
            exact SqL.of (s30 _ _ e29)
          · rintro i x σ' H30 hx ⟨o4, rfl, s30⟩
            obtain ⟨ex, j1, j2⟩ : ∃ ex, Dt K [st] H29 x ex ∧ Shw ex := by
              have hm := List.mem_of_getElem? hx
              simp only [List.mem_cons, List.not_mem_nil, or_false] at hm
              rcases hm with rfl | rfl
              · exact ⟨e, g29, sh.1⟩
              · exact ⟨_, .int v4, (Mt.itm_int (by omega)).shw (by decide) (by decide)⟩
            walk_at "rq"
            refine ⟨sz (by simp), fun nm2 H31 n31 s31 e31 => ?_⟩
            have s2931 := s30.trans s31
            walk_at "rq"
            refine ⟨[st], v, x, nm2, dd, ex, rfl, f29.ext (Ext.same s2931), j1.ext (Ext.same s2931), j2, .inl ⟨hno, e31⟩, fun H32 s32 => ?_⟩
            walk_at "rq"
            exact ⟨_, rfl, s2931.trans s32⟩
          · rintro σ' H30 ⟨o4, rfl, s30⟩
            have hd30 := hd29.ext (Ext.same s30)
            walk_at "rq"
            refine ⟨[st], _, _, _, _, rfl, hd30, .int 1, .inl ⟨hs, 1, rfl, ho, rfl, by decide, by decide, fun H31 s31 => ?_⟩⟩
            walk_at "rq"
            refine ⟨[st], hp, hs, 1, rfl, ho, hd30.ext (Ext.same s31), by decide, by decide, fun H32 s32 => ?_⟩
            refine rd_ne rfl ?_
            rw [ne_self]
            walk_at "rq"
            exact ⟨_, _, _, _, _, _, _, rfl, S29.same ((s30.trans s31).trans s32)⟩
    · rintro σ' H4 ⟨o2, o3, o4, o5, o6, o7, o8, rfl, S4⟩
      walk_at "rq"
      exact k _

end
theorem txt_mk {P : Program} {K : PySem.W.Frag} {h : Heap} {mg : Str → Option Value} (X : K.In h) (G : h.Ns mainGlobals mg)
    {f_is_number : Addr} {od_is_number an_is_number : Option Addr} {sl_is_number : Array (Option Value)} {oc_is_number kV_is_number dc_is_number pm_is_number cd_is_number ct_is_number : Value}
    {f_is_within : Addr} {od_is_within an_is_within : Option Addr} {sl_is_within : Array (Option Value)} {oc_is_within kV_is_within dc_is_within pm_is_within cd_is_within ct_is_within : Value}
    {f_is_place : Addr} {od_is_place an_is_place : Option Addr} {sl_is_place : Array (Option Value)} {oc_is_place kV_is_place dc_is_place pm_is_place cd_is_place ct_is_place : Value}
    {f_is_line : Addr} {od_is_line an_is_line : Option Addr} {sl_is_line : Array (Option Value)} {oc_is_line kV_is_line dc_is_line pm_is_line cd_is_line ct_is_line : Value}
    {f_is_line_and_place : Addr} {od_is_line_and_place an_is_line_and_place : Option Addr} {sl_is_line_and_place : Array (Option Value)} {oc_is_line_and_place kV_is_line_and_place dc_is_line_and_place pm_is_line_and_place cd_is_line_and_place ct_is_line_and_place : Value}
    {f_is_history : Addr} {od_is_history an_is_history : Option Addr} {sl_is_history : Array (Option Value)} {oc_is_history kV_is_history dc_is_history pm_is_history cd_is_history ct_is_history : Value}
    {f_require_history : Addr} {od_require_history an_require_history : Option Addr} {sl_require_history : Array (Option Value)} {oc_require_history kV_require_history dc_require_history pm_require_history cd_require_history ct_require_history : Value}
    {f_require_place : Addr} {od_require_place an_require_place : Option Addr} {sl_require_place : Array (Option Value)} {oc_require_place kV_require_place dc_require_place pm_require_place cd_require_place ct_require_place : Value}
    {f_line_at : Addr} {od_line_at an_line_at : Option Addr} {sl_line_at : Array (Option Value)} {oc_line_at kV_line_at dc_line_at pm_line_at cd_line_at ct_line_at : Value}
    {f_line_of : Addr} {od_line_of an_line_of : Option Addr} {sl_line_of : Array (Option Value)} {oc_line_of kV_line_of dc_line_of pm_line_of cd_line_of ct_line_of : Value}
    {f_law_state : Addr} {od_law_state an_law_state : Option Addr} {sl_law_state : Array (Option Value)} {oc_law_state kV_law_state dc_law_state pm_law_state cd_law_state ct_law_state : Value}
    {f_law_next : Addr} {od_law_next an_law_next : Option Addr} {sl_law_next : Array (Option Value)} {oc_law_next kV_law_next dc_law_next pm_law_next cd_law_next ct_law_next : Value}
    {f_law_whole : Addr} {od_law_whole an_law_whole : Option Addr} {sl_law_whole : Array (Option Value)} {oc_law_whole kV_law_whole dc_law_whole pm_law_whole cd_law_whole ct_law_whole : Value}
    {f_law_history : Addr} {od_law_history an_law_history : Option Addr} {sl_law_history : Array (Option Value)} {oc_law_history kV_law_history dc_law_history pm_law_history cd_law_history ct_law_history : Value}
    {f_law_end : Addr} {od_law_end an_law_end : Option Addr} {sl_law_end : Array (Option Value)} {oc_law_end kV_law_end dc_law_end pm_law_end cd_law_end ct_law_end : Value}
    {f_law_at : Addr} {od_law_at an_law_at : Option Addr} {sl_law_at : Array (Option Value)} {oc_law_at kV_law_at dc_law_at pm_law_at cd_law_at ct_law_at : Value}
    {f_law_error : Addr} {od_law_error an_law_error : Option Addr} {sl_law_error : Array (Option Value)} {oc_law_error kV_law_error dc_law_error pm_law_error cd_law_error ct_law_error : Value}
    {f_law_refused : Addr} {od_law_refused an_law_refused : Option Addr} {sl_law_refused : Array (Option Value)} {oc_law_refused kV_law_refused dc_law_refused pm_law_refused cd_law_refused ct_law_refused : Value}
    {f_law : Addr} {od_law an_law : Option Addr} {sl_law : Array (Option Value)} {oc_law kV_law dc_law pm_law cd_law ct_law : Value}
    {C_Elder : Addr}
    {C_Full : Addr}
    {C_LineError : Addr}
    {C_NoCount : Addr}
    {C_NoHistory : Addr}
    {C_NoPlace : Addr}
    {C_TooEarly : Addr}
    {C_TooOld : Addr}
    {I_NoHistory cda_NoHistory cc_NoHistory : Addr} {oJ_NoHistory aJ_NoHistory oK_NoHistory oL_NoHistory : Option Addr} {sJ_NoHistory sK_NoHistory sL_NoHistory : Array (Option Value)} {kJ_NoHistory dJ_NoHistory pJ_NoHistory tJ_NoHistory cK_NoHistory cL_NoHistory : Value} {vK_NoHistory : Array Value} {fi_NoHistory : Str} {ti_NoHistory : Tok}
    {I_NoPlace cda_NoPlace cc_NoPlace : Addr} {oJ_NoPlace aJ_NoPlace oK_NoPlace oL_NoPlace : Option Addr} {sJ_NoPlace sK_NoPlace sL_NoPlace : Array (Option Value)} {kJ_NoPlace dJ_NoPlace pJ_NoPlace tJ_NoPlace cK_NoPlace cL_NoPlace : Value} {vK_NoPlace : Array Value} {fi_NoPlace : Str} {ti_NoPlace : Tok}
    {u_LAST_LINE : Value}
    {u_LAST_PLACE : Value}
    {u_LINES : Value}
    (a_is_number : PySem.W.nsIn K mainGlobals "is_number" = some (some (.ref f_is_number)))
    (l_is_number : K.lookup f_is_number = some ⟨oc_is_number, od_is_number, .func (PySem.W.fnOf "is_number" "is_number" (defArgs s_is_number) (defBody s_is_number) (defScope s_is_number) .none kV_is_number dc_is_number pm_is_number an_is_number cd_is_number ct_is_number), sl_is_number⟩)
    (c_is_number : PySem.W.codeIn K cd_is_number "is_number" = true)
    (k_is_number : PySem.W.keepIn K (.ref f_is_number) = true)
    (a_is_within : PySem.W.nsIn K mainGlobals "is_within" = some (some (.ref f_is_within)))
    (l_is_within : K.lookup f_is_within = some ⟨oc_is_within, od_is_within, .func (PySem.W.fnOf "is_within" "is_within" (defArgs s_is_within) (defBody s_is_within) (defScope s_is_within) .none kV_is_within dc_is_within pm_is_within an_is_within cd_is_within ct_is_within), sl_is_within⟩)
    (c_is_within : PySem.W.codeIn K cd_is_within "is_within" = true)
    (k_is_within : PySem.W.keepIn K (.ref f_is_within) = true)
    (a_is_place : PySem.W.nsIn K mainGlobals "is_place" = some (some (.ref f_is_place)))
    (l_is_place : K.lookup f_is_place = some ⟨oc_is_place, od_is_place, .func (PySem.W.fnOf "is_place" "is_place" (defArgs s_is_place) (defBody s_is_place) (defScope s_is_place) .none kV_is_place dc_is_place pm_is_place an_is_place cd_is_place ct_is_place), sl_is_place⟩)
    (c_is_place : PySem.W.codeIn K cd_is_place "is_place" = true)
    (k_is_place : PySem.W.keepIn K (.ref f_is_place) = true)
    (a_is_line : PySem.W.nsIn K mainGlobals "is_line" = some (some (.ref f_is_line)))
    (l_is_line : K.lookup f_is_line = some ⟨oc_is_line, od_is_line, .func (PySem.W.fnOf "is_line" "is_line" (defArgs s_is_line) (defBody s_is_line) (defScope s_is_line) .none kV_is_line dc_is_line pm_is_line an_is_line cd_is_line ct_is_line), sl_is_line⟩)
    (c_is_line : PySem.W.codeIn K cd_is_line "is_line" = true)
    (k_is_line : PySem.W.keepIn K (.ref f_is_line) = true)
    (a_is_line_and_place : PySem.W.nsIn K mainGlobals "is_line_and_place" = some (some (.ref f_is_line_and_place)))
    (l_is_line_and_place : K.lookup f_is_line_and_place = some ⟨oc_is_line_and_place, od_is_line_and_place, .func (PySem.W.fnOf "is_line_and_place" "is_line_and_place" (defArgs s_is_line_and_place) (defBody s_is_line_and_place) (defScope s_is_line_and_place) .none kV_is_line_and_place dc_is_line_and_place pm_is_line_and_place an_is_line_and_place cd_is_line_and_place ct_is_line_and_place), sl_is_line_and_place⟩)
    (c_is_line_and_place : PySem.W.codeIn K cd_is_line_and_place "is_line_and_place" = true)
    (k_is_line_and_place : PySem.W.keepIn K (.ref f_is_line_and_place) = true)
    (a_is_history : PySem.W.nsIn K mainGlobals "is_history" = some (some (.ref f_is_history)))
    (l_is_history : K.lookup f_is_history = some ⟨oc_is_history, od_is_history, .func (PySem.W.fnOf "is_history" "is_history" (defArgs s_is_history) (defBody s_is_history) (defScope s_is_history) .none kV_is_history dc_is_history pm_is_history an_is_history cd_is_history ct_is_history), sl_is_history⟩)
    (c_is_history : PySem.W.codeIn K cd_is_history "is_history" = true)
    (k_is_history : PySem.W.keepIn K (.ref f_is_history) = true)
    (a_require_history : PySem.W.nsIn K mainGlobals "require_history" = some (some (.ref f_require_history)))
    (l_require_history : K.lookup f_require_history = some ⟨oc_require_history, od_require_history, .func (PySem.W.fnOf "require_history" "require_history" (defArgs s_require_history) (defBody s_require_history) (defScope s_require_history) .none kV_require_history dc_require_history pm_require_history an_require_history cd_require_history ct_require_history), sl_require_history⟩)
    (c_require_history : PySem.W.codeIn K cd_require_history "require_history" = true)
    (k_require_history : PySem.W.keepIn K (.ref f_require_history) = true)
    (a_require_place : PySem.W.nsIn K mainGlobals "require_place" = some (some (.ref f_require_place)))
    (l_require_place : K.lookup f_require_place = some ⟨oc_require_place, od_require_place, .func (PySem.W.fnOf "require_place" "require_place" (defArgs s_require_place) (defBody s_require_place) (defScope s_require_place) .none kV_require_place dc_require_place pm_require_place an_require_place cd_require_place ct_require_place), sl_require_place⟩)
    (c_require_place : PySem.W.codeIn K cd_require_place "require_place" = true)
    (k_require_place : PySem.W.keepIn K (.ref f_require_place) = true)
    (a_line_at : PySem.W.nsIn K mainGlobals "line_at" = some (some (.ref f_line_at)))
    (l_line_at : K.lookup f_line_at = some ⟨oc_line_at, od_line_at, .func (PySem.W.fnOf "line_at" "line_at" (defArgs s_line_at) (defBody s_line_at) (defScope s_line_at) .none kV_line_at dc_line_at pm_line_at an_line_at cd_line_at ct_line_at), sl_line_at⟩)
    (c_line_at : PySem.W.codeIn K cd_line_at "line_at" = true)
    (k_line_at : PySem.W.keepIn K (.ref f_line_at) = true)
    (a_line_of : PySem.W.nsIn K mainGlobals "line_of" = some (some (.ref f_line_of)))
    (l_line_of : K.lookup f_line_of = some ⟨oc_line_of, od_line_of, .func (PySem.W.fnOf "line_of" "line_of" (defArgs s_line_of) (defBody s_line_of) (defScope s_line_of) .none kV_line_of dc_line_of pm_line_of an_line_of cd_line_of ct_line_of), sl_line_of⟩)
    (c_line_of : PySem.W.codeIn K cd_line_of "line_of" = true)
    (k_line_of : PySem.W.keepIn K (.ref f_line_of) = true)
    (a_law_state : PySem.W.nsIn K mainGlobals "_law_state" = some (some (.ref f_law_state)))
    (l_law_state : K.lookup f_law_state = some ⟨oc_law_state, od_law_state, .func (PySem.W.fnOf "_law_state" "_law_state" (defArgs s_law_state) (defBody s_law_state) (defScope s_law_state) .none kV_law_state dc_law_state pm_law_state an_law_state cd_law_state ct_law_state), sl_law_state⟩)
    (c_law_state : PySem.W.codeIn K cd_law_state "_law_state" = true)
    (k_law_state : PySem.W.keepIn K (.ref f_law_state) = true)
    (a_law_next : PySem.W.nsIn K mainGlobals "_law_next" = some (some (.ref f_law_next)))
    (l_law_next : K.lookup f_law_next = some ⟨oc_law_next, od_law_next, .func (PySem.W.fnOf "_law_next" "_law_next" (defArgs s_law_next) (defBody s_law_next) (defScope s_law_next) .none kV_law_next dc_law_next pm_law_next an_law_next cd_law_next ct_law_next), sl_law_next⟩)
    (c_law_next : PySem.W.codeIn K cd_law_next "_law_next" = true)
    (k_law_next : PySem.W.keepIn K (.ref f_law_next) = true)
    (a_law_whole : PySem.W.nsIn K mainGlobals "_law_whole" = some (some (.ref f_law_whole)))
    (l_law_whole : K.lookup f_law_whole = some ⟨oc_law_whole, od_law_whole, .func (PySem.W.fnOf "_law_whole" "_law_whole" (defArgs s_law_whole) (defBody s_law_whole) (defScope s_law_whole) .none kV_law_whole dc_law_whole pm_law_whole an_law_whole cd_law_whole ct_law_whole), sl_law_whole⟩)
    (c_law_whole : PySem.W.codeIn K cd_law_whole "_law_whole" = true)
    (k_law_whole : PySem.W.keepIn K (.ref f_law_whole) = true)
    (a_law_history : PySem.W.nsIn K mainGlobals "_law_history" = some (some (.ref f_law_history)))
    (l_law_history : K.lookup f_law_history = some ⟨oc_law_history, od_law_history, .func (PySem.W.fnOf "_law_history" "_law_history" (defArgs s_law_history) (defBody s_law_history) (defScope s_law_history) .none kV_law_history dc_law_history pm_law_history an_law_history cd_law_history ct_law_history), sl_law_history⟩)
    (c_law_history : PySem.W.codeIn K cd_law_history "_law_history" = true)
    (k_law_history : PySem.W.keepIn K (.ref f_law_history) = true)
    (a_law_end : PySem.W.nsIn K mainGlobals "_law_end" = some (some (.ref f_law_end)))
    (l_law_end : K.lookup f_law_end = some ⟨oc_law_end, od_law_end, .func (PySem.W.fnOf "_law_end" "_law_end" (defArgs s_law_end) (defBody s_law_end) (defScope s_law_end) .none kV_law_end dc_law_end pm_law_end an_law_end cd_law_end ct_law_end), sl_law_end⟩)
    (c_law_end : PySem.W.codeIn K cd_law_end "_law_end" = true)
    (k_law_end : PySem.W.keepIn K (.ref f_law_end) = true)
    (a_law_at : PySem.W.nsIn K mainGlobals "_law_at" = some (some (.ref f_law_at)))
    (l_law_at : K.lookup f_law_at = some ⟨oc_law_at, od_law_at, .func (PySem.W.fnOf "_law_at" "_law_at" (defArgs s_law_at) (defBody s_law_at) (defScope s_law_at) .none kV_law_at dc_law_at pm_law_at an_law_at cd_law_at ct_law_at), sl_law_at⟩)
    (c_law_at : PySem.W.codeIn K cd_law_at "_law_at" = true)
    (k_law_at : PySem.W.keepIn K (.ref f_law_at) = true)
    (a_law_error : PySem.W.nsIn K mainGlobals "_law_error" = some (some (.ref f_law_error)))
    (l_law_error : K.lookup f_law_error = some ⟨oc_law_error, od_law_error, .func (PySem.W.fnOf "_law_error" "_law_error" (defArgs s_law_error) (defBody s_law_error) (defScope s_law_error) .none kV_law_error dc_law_error pm_law_error an_law_error cd_law_error ct_law_error), sl_law_error⟩)
    (c_law_error : PySem.W.codeIn K cd_law_error "_law_error" = true)
    (k_law_error : PySem.W.keepIn K (.ref f_law_error) = true)
    (a_law_refused : PySem.W.nsIn K mainGlobals "_law_refused" = some (some (.ref f_law_refused)))
    (l_law_refused : K.lookup f_law_refused = some ⟨oc_law_refused, od_law_refused, .func (PySem.W.fnOf "_law_refused" "_law_refused" (defArgs s_law_refused) (defBody s_law_refused) (defScope s_law_refused) .none kV_law_refused dc_law_refused pm_law_refused an_law_refused cd_law_refused ct_law_refused), sl_law_refused⟩)
    (c_law_refused : PySem.W.codeIn K cd_law_refused "_law_refused" = true)
    (k_law_refused : PySem.W.keepIn K (.ref f_law_refused) = true)
    (a_law : PySem.W.nsIn K mainGlobals "law" = some (some (.ref f_law)))
    (l_law : K.lookup f_law = some ⟨oc_law, od_law, .func (PySem.W.fnOf "law" "law" (defArgs s_law) (defBody s_law) (defScope s_law) .none kV_law dc_law pm_law an_law cd_law ct_law), sl_law⟩)
    (c_law : PySem.W.codeIn K cd_law "law" = true)
    (k_law : PySem.W.keepIn K (.ref f_law) = true)
    (z_ValueError : PySem.W.nsIn K mainGlobals "ValueError" = some none)
    (z_all : PySem.W.nsIn K mainGlobals "all" = some none)
    (z_bool : PySem.W.nsIn K mainGlobals "bool" = some none)
    (z_int : PySem.W.nsIn K mainGlobals "int" = some none)
    (z_isinstance : PySem.W.nsIn K mainGlobals "isinstance" = some none)
    (z_len : PySem.W.nsIn K mainGlobals "len" = some none)
    (z_list : PySem.W.nsIn K mainGlobals "list" = some none)
    (z_max : PySem.W.nsIn K mainGlobals "max" = some none)
    (z_min : PySem.W.nsIn K mainGlobals "min" = some none)
    (z_range : PySem.W.nsIn K mainGlobals "range" = some none)
    (z_repr : PySem.W.nsIn K mainGlobals "repr" = some none)
    (z_tuple : PySem.W.nsIn K mainGlobals "tuple" = some none)
    (z_zip : PySem.W.nsIn K mainGlobals "zip" = some none)
    (vC_Elder : PySem.W.nsIn K mainGlobals "Elder" = some (some (.ref C_Elder)))
    (vC_Full : PySem.W.nsIn K mainGlobals "Full" = some (some (.ref C_Full)))
    (vC_LineError : PySem.W.nsIn K mainGlobals "LineError" = some (some (.ref C_LineError)))
    (vC_NoCount : PySem.W.nsIn K mainGlobals "NoCount" = some (some (.ref C_NoCount)))
    (vC_NoHistory : PySem.W.nsIn K mainGlobals "NoHistory" = some (some (.ref C_NoHistory)))
    (vC_NoPlace : PySem.W.nsIn K mainGlobals "NoPlace" = some (some (.ref C_NoPlace)))
    (vC_TooEarly : PySem.W.nsIn K mainGlobals "TooEarly" = some (some (.ref C_TooEarly)))
    (vC_TooOld : PySem.W.nsIn K mainGlobals "TooOld" = some (some (.ref C_TooOld)))
    (zsu : PySem.W.nsIn K mainGlobals "super" = some none)
    (ztp : (P.main.scope.names.lookup ("super" : Str)).isSome = false)
    (fI_NoHistory : PySem.W.findIn K (.ref C_NoHistory) "__init__" = some (some (.ref I_NoHistory)))
    (lI_NoHistory : K.lookup I_NoHistory = some ⟨.type "function", oJ_NoHistory, .func (PySem.W.ksFn "__init__" "NoHistory.__init__" (defArgs t_NoHistory) (defBody t_NoHistory) (defScope t_NoHistory) .none kJ_NoHistory dJ_NoHistory pJ_NoHistory aJ_NoHistory (.ref cda_NoHistory) tJ_NoHistory cc_NoHistory), sJ_NoHistory⟩)
    (cI_NoHistory : PySem.W.codeIn K (.ref cda_NoHistory) "NoHistory.__init__" = true)
    (hI_NoHistory : K.lookup cda_NoHistory = some ⟨cK_NoHistory, oK_NoHistory, .fields vK_NoHistory, sK_NoHistory⟩)
    (vI_NoHistory : vK_NoHistory[2]? = some (.str fi_NoHistory ti_NoHistory))
    (eI_NoHistory : ((P.main.file : Str) == fi_NoHistory) = true)
    (gI_NoHistory : K.lookup cc_NoHistory = some ⟨cL_NoHistory, oL_NoHistory, .cell (some (.ref C_NoHistory)), sL_NoHistory⟩)
    (xk_NoHistory : xk1In K C_NoHistory C_LineError "zzplace" = true)
    (xi_NoHistory : xcIn K C_NoHistory (some (.ref I_NoHistory)) = true)
    (kC_NoHistory : PySem.W.keepIn K (.ref C_NoHistory) = true)
    (fI_NoPlace : PySem.W.findIn K (.ref C_NoPlace) "__init__" = some (some (.ref I_NoPlace)))
    (lI_NoPlace : K.lookup I_NoPlace = some ⟨.type "function", oJ_NoPlace, .func (PySem.W.ksFn "__init__" "NoPlace.__init__" (defArgs t_NoPlace) (defBody t_NoPlace) (defScope t_NoPlace) .none kJ_NoPlace dJ_NoPlace pJ_NoPlace aJ_NoPlace (.ref cda_NoPlace) tJ_NoPlace cc_NoPlace), sJ_NoPlace⟩)
    (cI_NoPlace : PySem.W.codeIn K (.ref cda_NoPlace) "NoPlace.__init__" = true)
    (hI_NoPlace : K.lookup cda_NoPlace = some ⟨cK_NoPlace, oK_NoPlace, .fields vK_NoPlace, sK_NoPlace⟩)
    (vI_NoPlace : vK_NoPlace[2]? = some (.str fi_NoPlace ti_NoPlace))
    (eI_NoPlace : ((P.main.file : Str) == fi_NoPlace) = true)
    (gI_NoPlace : K.lookup cc_NoPlace = some ⟨cL_NoPlace, oL_NoPlace, .cell (some (.ref C_NoPlace)), sL_NoPlace⟩)
    (xk_NoPlace : xk1In K C_NoPlace C_LineError "place" = true)
    (xi_NoPlace : xcIn K C_NoPlace (some (.ref I_NoPlace)) = true)
    (kC_NoPlace : PySem.W.keepIn K (.ref C_NoPlace) = true)
    (xg_NoHistory : xgIn K C_NoHistory = true)
    (ex_NoHistory_LineError : PySem.W.exmOne K (.ref C_NoHistory) (.ref C_LineError) = some true)
    (is_NoHistory_Elder : PySem.W.kitOne K (.ref C_NoHistory) (.ref C_Elder) = some false)
    (is_NoHistory_Full : PySem.W.kitOne K (.ref C_NoHistory) (.ref C_Full) = some false)
    (is_NoHistory_NoCount : PySem.W.kitOne K (.ref C_NoHistory) (.ref C_NoCount) = some false)
    (is_NoHistory_NoHistory : PySem.W.kitOne K (.ref C_NoHistory) (.ref C_NoHistory) = some true)
    (is_NoHistory_NoPlace : PySem.W.kitOne K (.ref C_NoHistory) (.ref C_NoPlace) = some false)
    (is_NoHistory_TooEarly : PySem.W.kitOne K (.ref C_NoHistory) (.ref C_TooEarly) = some false)
    (is_NoHistory_TooOld : PySem.W.kitOne K (.ref C_NoHistory) (.ref C_TooOld) = some false)
    (is_NoHistory_ValueError : PySem.W.kitOne K (.ref C_NoHistory) (.type "ValueError") = some true)
    (xg_NoPlace : xgIn K C_NoPlace = true)
    (ex_NoPlace_LineError : PySem.W.exmOne K (.ref C_NoPlace) (.ref C_LineError) = some true)
    (is_NoPlace_Elder : PySem.W.kitOne K (.ref C_NoPlace) (.ref C_Elder) = some false)
    (is_NoPlace_Full : PySem.W.kitOne K (.ref C_NoPlace) (.ref C_Full) = some false)
    (is_NoPlace_NoCount : PySem.W.kitOne K (.ref C_NoPlace) (.ref C_NoCount) = some false)
    (is_NoPlace_NoHistory : PySem.W.kitOne K (.ref C_NoPlace) (.ref C_NoHistory) = some false)
    (is_NoPlace_NoPlace : PySem.W.kitOne K (.ref C_NoPlace) (.ref C_NoPlace) = some true)
    (is_NoPlace_TooEarly : PySem.W.kitOne K (.ref C_NoPlace) (.ref C_TooEarly) = some false)
    (is_NoPlace_TooOld : PySem.W.kitOne K (.ref C_NoPlace) (.ref C_TooOld) = some false)
    (is_NoPlace_ValueError : PySem.W.kitOne K (.ref C_NoPlace) (.type "ValueError") = some true)
    (v_LAST_LINE : PySem.W.nsIn K mainGlobals "LAST_LINE" = some (some u_LAST_LINE))
    (r_LAST_LINE : RelV (.int 1000000000) u_LAST_LINE)
    (v_LAST_PLACE : PySem.W.nsIn K mainGlobals "LAST_PLACE" = some (some u_LAST_PLACE))
    (r_LAST_PLACE : RelV (.int 1000000) u_LAST_PLACE)
    (v_LINES : PySem.W.nsIn K mainGlobals "LINES" = some (some u_LINES))
    (r_LINES : RelV (.int 60) u_LINES) :
    ∃ a, Txt P K mg a := by
  exact ⟨⟨f_is_number, PySem.W.fnOf "is_number" "is_number" (defArgs s_is_number) (defBody s_is_number) (defScope s_is_number) .none kV_is_number dc_is_number pm_is_number an_is_number cd_is_number ct_is_number, f_is_within, PySem.W.fnOf "is_within" "is_within" (defArgs s_is_within) (defBody s_is_within) (defScope s_is_within) .none kV_is_within dc_is_within pm_is_within an_is_within cd_is_within ct_is_within, f_is_place, PySem.W.fnOf "is_place" "is_place" (defArgs s_is_place) (defBody s_is_place) (defScope s_is_place) .none kV_is_place dc_is_place pm_is_place an_is_place cd_is_place ct_is_place, f_is_line, PySem.W.fnOf "is_line" "is_line" (defArgs s_is_line) (defBody s_is_line) (defScope s_is_line) .none kV_is_line dc_is_line pm_is_line an_is_line cd_is_line ct_is_line, f_is_line_and_place, PySem.W.fnOf "is_line_and_place" "is_line_and_place" (defArgs s_is_line_and_place) (defBody s_is_line_and_place) (defScope s_is_line_and_place) .none kV_is_line_and_place dc_is_line_and_place pm_is_line_and_place an_is_line_and_place cd_is_line_and_place ct_is_line_and_place, f_is_history, PySem.W.fnOf "is_history" "is_history" (defArgs s_is_history) (defBody s_is_history) (defScope s_is_history) .none kV_is_history dc_is_history pm_is_history an_is_history cd_is_history ct_is_history, f_require_history, PySem.W.fnOf "require_history" "require_history" (defArgs s_require_history) (defBody s_require_history) (defScope s_require_history) .none kV_require_history dc_require_history pm_require_history an_require_history cd_require_history ct_require_history, f_require_place, PySem.W.fnOf "require_place" "require_place" (defArgs s_require_place) (defBody s_require_place) (defScope s_require_place) .none kV_require_place dc_require_place pm_require_place an_require_place cd_require_place ct_require_place, f_line_at, PySem.W.fnOf "line_at" "line_at" (defArgs s_line_at) (defBody s_line_at) (defScope s_line_at) .none kV_line_at dc_line_at pm_line_at an_line_at cd_line_at ct_line_at, f_line_of, PySem.W.fnOf "line_of" "line_of" (defArgs s_line_of) (defBody s_line_of) (defScope s_line_of) .none kV_line_of dc_line_of pm_line_of an_line_of cd_line_of ct_line_of, f_law_state, PySem.W.fnOf "_law_state" "_law_state" (defArgs s_law_state) (defBody s_law_state) (defScope s_law_state) .none kV_law_state dc_law_state pm_law_state an_law_state cd_law_state ct_law_state, f_law_next, PySem.W.fnOf "_law_next" "_law_next" (defArgs s_law_next) (defBody s_law_next) (defScope s_law_next) .none kV_law_next dc_law_next pm_law_next an_law_next cd_law_next ct_law_next, f_law_whole, PySem.W.fnOf "_law_whole" "_law_whole" (defArgs s_law_whole) (defBody s_law_whole) (defScope s_law_whole) .none kV_law_whole dc_law_whole pm_law_whole an_law_whole cd_law_whole ct_law_whole, f_law_history, PySem.W.fnOf "_law_history" "_law_history" (defArgs s_law_history) (defBody s_law_history) (defScope s_law_history) .none kV_law_history dc_law_history pm_law_history an_law_history cd_law_history ct_law_history, f_law_end, PySem.W.fnOf "_law_end" "_law_end" (defArgs s_law_end) (defBody s_law_end) (defScope s_law_end) .none kV_law_end dc_law_end pm_law_end an_law_end cd_law_end ct_law_end, f_law_at, PySem.W.fnOf "_law_at" "_law_at" (defArgs s_law_at) (defBody s_law_at) (defScope s_law_at) .none kV_law_at dc_law_at pm_law_at an_law_at cd_law_at ct_law_at, f_law_error, PySem.W.fnOf "_law_error" "_law_error" (defArgs s_law_error) (defBody s_law_error) (defScope s_law_error) .none kV_law_error dc_law_error pm_law_error an_law_error cd_law_error ct_law_error, f_law_refused, PySem.W.fnOf "_law_refused" "_law_refused" (defArgs s_law_refused) (defBody s_law_refused) (defScope s_law_refused) .none kV_law_refused dc_law_refused pm_law_refused an_law_refused cd_law_refused ct_law_refused, f_law, PySem.W.fnOf "law" "law" (defArgs s_law) (defBody s_law) (defScope s_law) .none kV_law dc_law pm_law an_law cd_law ct_law, u_LAST_LINE, u_LAST_PLACE, u_LINES, C_Elder, C_Full, C_LineError, C_NoCount, C_NoHistory, C_NoPlace, C_TooEarly, C_TooOld, I_NoHistory, I_NoPlace⟩,
    ⟨PySem.W.mg_of X G vC_Elder,
     PySem.W.mg_of X G vC_Full,
     PySem.W.mg_of X G vC_LineError,
     PySem.W.mg_of X G vC_NoCount,
     PySem.W.mg_of X G vC_NoHistory,
     PySem.W.mg_of X G vC_NoPlace,
     PySem.W.mg_of X G vC_TooEarly,
     PySem.W.mg_of X G vC_TooOld,
     xini0_mk ib_NoHistory xk_NoHistory xi_NoHistory kC_NoHistory zsu ztp lI_NoHistory cI_NoHistory hI_NoHistory vI_NoHistory eI_NoHistory gI_NoHistory,
     xini_mk ib_NoPlace xk_NoPlace xi_NoPlace kC_NoPlace zsu ztp lI_NoPlace cI_NoPlace hI_NoPlace vI_NoPlace eI_NoPlace gI_NoPlace,
     xg_of xg_NoHistory,
     ex_NoHistory_LineError,
     is_NoHistory_Elder,
     is_NoHistory_Full,
     is_NoHistory_NoCount,
     is_NoHistory_NoHistory,
     is_NoHistory_NoPlace,
     is_NoHistory_TooEarly,
     is_NoHistory_TooOld,
     is_NoHistory_ValueError,
     xg_of xg_NoPlace,
     ex_NoPlace_LineError,
     is_NoPlace_Elder,
     is_NoPlace_Full,
     is_NoPlace_NoCount,
     is_NoPlace_NoHistory,
     is_NoPlace_NoPlace,
     is_NoPlace_TooEarly,
     is_NoPlace_TooOld,
     is_NoPlace_ValueError,
     ⟨PySem.W.mg_of X G v_LAST_LINE, r_LAST_LINE⟩,
     ⟨PySem.W.mg_of X G v_LAST_PLACE, r_LAST_PLACE⟩,
     ⟨PySem.W.mg_of X G v_LINES, r_LINES⟩,
     PySem.W.mg_none_of X G z_ValueError,
     PySem.W.mg_none_of X G z_all,
     PySem.W.mg_none_of X G z_bool,
     PySem.W.mg_none_of X G z_int,
     PySem.W.mg_none_of X G z_isinstance,
     PySem.W.mg_none_of X G z_len,
     PySem.W.mg_none_of X G z_list,
     PySem.W.mg_none_of X G z_max,
     PySem.W.mg_none_of X G z_min,
     PySem.W.mg_none_of X G z_range,
     PySem.W.mg_none_of X G z_repr,
     PySem.W.mg_none_of X G z_tuple,
     PySem.W.mg_none_of X G z_zip,
     fun_mk (st := s_is_number) l_is_number c_is_number k_is_number,
     PySem.W.mg_of X G a_is_number,
     k_is_number,
     (fun_mk (st := s_is_number) l_is_number c_is_number k_is_number).binds (ps := ["thing"]) fun _ _ _ _ _ _ us hl => match us, hl with | [_], _ => rfl,
     fun_mk (st := s_is_within) l_is_within c_is_within k_is_within,
     PySem.W.mg_of X G a_is_within,
     k_is_within,
     (fun_mk (st := s_is_within) l_is_within c_is_within k_is_within).binds (ps := ["thing", "least", "most"]) fun _ _ _ _ _ _ us hl => match us, hl with | [_, _, _], _ => rfl,
     fun_mk (st := s_is_place) l_is_place c_is_place k_is_place,
     PySem.W.mg_of X G a_is_place,
     k_is_place,
     (fun_mk (st := s_is_place) l_is_place c_is_place k_is_place).binds (ps := ["thing"]) fun _ _ _ _ _ _ us hl => match us, hl with | [_], _ => rfl,
     fun_mk (st := s_is_line) l_is_line c_is_line k_is_line,
     PySem.W.mg_of X G a_is_line,
     k_is_line,
     (fun_mk (st := s_is_line) l_is_line c_is_line k_is_line).binds (ps := ["thing"]) fun _ _ _ _ _ _ us hl => match us, hl with | [_], _ => rfl,
     fun_mk (st := s_is_line_and_place) l_is_line_and_place c_is_line_and_place k_is_line_and_place,
     PySem.W.mg_of X G a_is_line_and_place,
     k_is_line_and_place,
     (fun_mk (st := s_is_line_and_place) l_is_line_and_place c_is_line_and_place k_is_line_and_place).binds (ps := ["thing"]) fun _ _ _ _ _ _ us hl => match us, hl with | [_], _ => rfl,
     fun_mk (st := s_is_history) l_is_history c_is_history k_is_history,
     PySem.W.mg_of X G a_is_history,
     k_is_history,
     (fun_mk (st := s_is_history) l_is_history c_is_history k_is_history).binds (ps := ["thing"]) fun _ _ _ _ _ _ us hl => match us, hl with | [_], _ => rfl,
     fun_mk (st := s_require_history) l_require_history c_require_history k_require_history,
     PySem.W.mg_of X G a_require_history,
     k_require_history,
     (fun_mk (st := s_require_history) l_require_history c_require_history k_require_history).binds (ps := ["thing"]) fun _ _ _ _ _ _ us hl => match us, hl with | [_], _ => rfl,
     fun_mk (st := s_require_place) l_require_place c_require_place k_require_place,
     PySem.W.mg_of X G a_require_place,
     k_require_place,
     (fun_mk (st := s_require_place) l_require_place c_require_place k_require_place).binds (ps := ["thing"]) fun _ _ _ _ _ _ us hl => match us, hl with | [_], _ => rfl,
     fun_mk (st := s_line_at) l_line_at c_line_at k_line_at,
     PySem.W.mg_of X G a_line_at,
     k_line_at,
     (fun_mk (st := s_line_at) l_line_at c_line_at k_line_at).binds (ps := ["history", "place"]) fun _ _ _ _ _ _ us hl => match us, hl with | [_, _], _ => rfl,
     fun_mk (st := s_line_of) l_line_of c_line_of k_line_of,
     PySem.W.mg_of X G a_line_of,
     k_line_of,
     (fun_mk (st := s_line_of) l_line_of c_line_of k_line_of).binds (ps := ["history", "place"]) fun _ _ _ _ _ _ us hl => match us, hl with | [_, _], _ => rfl,
     fun_mk (st := s_law_state) l_law_state c_law_state k_law_state,
     PySem.W.mg_of X G a_law_state,
     k_law_state,
     (fun_mk (st := s_law_state) l_law_state c_law_state k_law_state).binds (ps := ["_law_script"]) fun _ _ _ _ _ _ us hl => match us, hl with | [_], _ => rfl,
     fun_mk (st := s_law_next) l_law_next c_law_next k_law_next,
     PySem.W.mg_of X G a_law_next,
     k_law_next,
     (fun_mk (st := s_law_next) l_law_next c_law_next k_law_next).binds (ps := ["_law_state_here", "_law_below"]) fun _ _ _ _ _ _ us hl => match us, hl with | [_, _], _ => rfl,
     fun_mk (st := s_law_whole) l_law_whole c_law_whole k_law_whole,
     PySem.W.mg_of X G a_law_whole,
     k_law_whole,
     (fun_mk (st := s_law_whole) l_law_whole c_law_whole k_law_whole).binds (ps := ["_law_found"]) fun _ _ _ _ _ _ us hl => match us, hl with | [_], _ => rfl,
     fun_mk (st := s_law_history) l_law_history c_law_history k_law_history,
     PySem.W.mg_of X G a_law_history,
     k_law_history,
     (fun_mk (st := s_law_history) l_law_history c_law_history k_law_history).binds (ps := ["_law_state_here"]) fun _ _ _ _ _ _ us hl => match us, hl with | [_], _ => rfl,
     fun_mk (st := s_law_end) l_law_end c_law_end k_law_end,
     PySem.W.mg_of X G a_law_end,
     k_law_end,
     (fun_mk (st := s_law_end) l_law_end c_law_end k_law_end).binds (ps := ["_law_state_here", "_law_history_here"]) fun _ _ _ _ _ _ us hl => match us, hl with | [_, _], _ => rfl,
     fun_mk (st := s_law_at) l_law_at c_law_at k_law_at,
     PySem.W.mg_of X G a_law_at,
     k_law_at,
     (fun_mk (st := s_law_at) l_law_at c_law_at k_law_at).binds (ps := ["_law_history_here", "_law_place"]) fun _ _ _ _ _ _ us hl => match us, hl with | [_, _], _ => rfl,
     fun_mk (st := s_law_error) l_law_error c_law_error k_law_error,
     PySem.W.mg_of X G a_law_error,
     k_law_error,
     (fun_mk (st := s_law_error) l_law_error c_law_error k_law_error).binds (ps := ["_law_history_here", "_law_place"]) fun _ _ _ _ _ _ us hl => match us, hl with | [_, _], _ => rfl,
     fun_mk (st := s_law_refused) l_law_refused c_law_refused k_law_refused,
     PySem.W.mg_of X G a_law_refused,
     k_law_refused,
     (fun_mk (st := s_law_refused) l_law_refused c_law_refused k_law_refused).binds (ps := ["_law_history_here", "_law_place", "_law_names"]) fun _ _ _ _ _ _ us hl => match us, hl with | [_, _, _], _ => rfl,
     fun_mk (st := s_law) l_law c_law k_law,
     PySem.W.mg_of X G a_law,
     k_law,
     (fun_mk (st := s_law) l_law c_law k_law).binds (ps := ["_law_script"]) fun _ _ _ _ _ _ us hl => match us, hl with | [_], _ => rfl,
     fun s u => .of_eq rfl⟩⟩
theorem all_ok {P : Program} {w : World} {K : PySem.W.Frag} {mg : Str → Option Value} {base : Heap} {a : Adr} (T : Txt P K mg a) : FnOk P w K mg base CX0 10 a.f_law a.d_law ["_law_script"] (sp_law K) := by
  have G_is_number : FnOk P w K mg base CX0 1 a.f_is_number a.d_is_number ["thing"] (sp_is_number K) := ok_is_number T 
  have G_line_at : FnOk P w K mg base CX0 1 a.f_line_at a.d_line_at ["history", "place"] (sp_line_at K) := ok_line_at T 
  have G__law_state : FnOk P w K mg base CX0 1 a.f_law_state a.d_law_state ["_law_script"] (sp_law_state K) := ok_law_state T 
  have G__law_next : FnOk P w K mg base CX0 1 a.f_law_next a.d_law_next ["_law_state_here", "_law_below"] (sp_law_next K) := ok_law_next T 
  have G__law_whole : FnOk P w K mg base CX0 1 a.f_law_whole a.d_law_whole ["_law_found"] (sp_law_whole K) := ok_law_whole T 
  have G__law_at : FnOk P w K mg base CX0 1 a.f_law_at a.d_law_at ["_law_history_here", "_law_place"] (sp_law_at K) := ok_law_at T 
  have G_is_within : FnOk P w K mg base CX0 2 a.f_is_within a.d_is_within ["thing", "least", "most"] (sp_is_within K) := ok_is_within T G_is_number
  have G__law_history : FnOk P w K mg base CX0 2 a.f_law_history a.d_law_history ["_law_state_here"] (sp_law_history K) := ok_law_history T G__law_next
  have G__law_end : FnOk P w K mg base CX0 2 a.f_law_end a.d_law_end ["_law_state_here", "_law_history_here"] (sp_law_end K) := ok_law_end T G__law_next
  have G_is_place : FnOk P w K mg base CX0 3 a.f_is_place a.d_is_place ["thing"] (sp_is_place K) := ok_is_place T G_is_within
  have G_is_line : FnOk P w K mg base CX0 3 a.f_is_line a.d_is_line ["thing"] (sp_is_line K) := ok_is_line T G_is_within
  have G_is_line_and_place : FnOk P w K mg base CX0 4 a.f_is_line_and_place a.d_is_line_and_place ["thing"] (sp_is_line_and_place K) := ok_is_line_and_place T G_is_line G_is_place
  have G_require_place : FnOk P w K mg base (CX1 P w) 4 a.f_require_place a.d_require_place ["thing"] (sp_require_place K a) := ok_require_place T G_is_place
  have G_is_history : FnOk P w K mg base CX0 5 a.f_is_history a.d_is_history ["thing"] (sp_is_history K) := ok_is_history T G_is_line_and_place
  have G_require_history : FnOk P w K mg base (CX1 P w) 6 a.f_require_history a.d_require_history ["thing"] (sp_require_history K a) := ok_require_history T G_is_history
  have G_line_of : FnOk P w K mg base (CX1 P w) 7 a.f_line_of a.d_line_of ["history", "place"] (sp_line_of K a) := ok_line_of T G_line_at G_require_history G_require_place
  have G__law_error : FnOk P w K mg base CX0 8 a.f_law_error a.d_law_error ["_law_history_here", "_law_place"] (sp_law_error K a) := ok_law_error T G_line_of
  have G__law_refused : FnOk P w K mg base CX0 9 a.f_law_refused a.d_law_refused ["_law_history_here", "_law_place", "_law_names"] (sp_law_refused K a) := ok_law_refused T G__law_error
  have G_law : FnOk P w K mg base CX0 10 a.f_law a.d_law ["_law_script"] (sp_law K) := ok_law T G__law_at G__law_end G__law_history G__law_next G__law_refused G__law_state G__law_whole G_line_of
  exact G_law
end My
open PySem PySem.W PyProof.Rows
set_option maxRecDepth 100000 in
set_option maxHeartbeats 0 in
theorem PySem.Challenge.cw_laterline_k14_lines_of_places_holds : PySem.Challenge.rw_laterline_k14_lines_of_places.Holds := by
  w_on; o_law; k_head; (case hw => w_witness2)
  k_fill
  refine L2.walk_ofK (l := PySem.Challenge.rw_laterline_k14_lines_of_places) (n := 63) (k := 10) (x := "_law_script") (CX := L2.CX0) (sp := My.sp_law) rfl (by decide) rfl ⟨rfl, by decide, by decide, rfl⟩ (fun w h Y => PySem.W.kIn_of Y) ?F ?S ?C
  case F =>
    intro w mg fa h KX G hmg
    have T : ∃ a, My.Txt (PySem.Challenge.rw_laterline_k14_lines_of_places).prog (L2.KOf KX) mg a := by
      dsimp only [L2.KOf]
      refine' My.txt_mk KX G ?a_is_number ?l_is_number ?c_is_number ?k_is_number ?a_is_within ?l_is_within ?c_is_within ?k_is_within ?a_is_place ?l_is_place ?c_is_place ?k_is_place ?a_is_line ?l_is_line ?c_is_line ?k_is_line ?a_is_line_and_place ?l_is_line_and_place ?c_is_line_and_place ?k_is_line_and_place ?a_is_history ?l_is_history ?c_is_history ?k_is_history ?a_require_history ?l_require_history ?c_require_history ?k_require_history ?a_require_place ?l_require_place ?c_require_place ?k_require_place ?a_line_at ?l_line_at ?c_line_at ?k_line_at ?a_line_of ?l_line_of ?c_line_of ?k_line_of ?a_law_state ?l_law_state ?c_law_state ?k_law_state ?a_law_next ?l_law_next ?c_law_next ?k_law_next ?a_law_whole ?l_law_whole ?c_law_whole ?k_law_whole ?a_law_history ?l_law_history ?c_law_history ?k_law_history ?a_law_end ?l_law_end ?c_law_end ?k_law_end ?a_law_at ?l_law_at ?c_law_at ?k_law_at ?a_law_error ?l_law_error ?c_law_error ?k_law_error ?a_law_refused ?l_law_refused ?c_law_refused ?k_law_refused ?a_law ?l_law ?c_law ?k_law ?z_ValueError ?z_all ?z_bool ?z_int ?z_isinstance ?z_len ?z_list ?z_max ?z_min ?z_range ?z_repr ?z_tuple ?z_zip ?vC_Elder ?vC_Full ?vC_LineError ?vC_NoCount ?vC_NoHistory ?vC_NoPlace ?vC_TooEarly ?vC_TooOld ?zsu ?rr_ztp ?fI_NoHistory ?lI_NoHistory ?cI_NoHistory ?hI_NoHistory ?rf_vI_NoHistory ?rr_eI_NoHistory ?gI_NoHistory ?rr_xk_NoHistory ?rr_xi_NoHistory ?kC_NoHistory ?fI_NoPlace ?lI_NoPlace ?cI_NoPlace ?hI_NoPlace ?rf_vI_NoPlace ?rr_eI_NoPlace ?gI_NoPlace ?rr_xk_NoPlace ?rr_xi_NoPlace ?kC_NoPlace ?rr_xg_NoHistory ?rr_ex_NoHistory_LineError ?rr_is_NoHistory_Elder ?rr_is_NoHistory_Full ?rr_is_NoHistory_NoCount ?rr_is_NoHistory_NoHistory ?rr_is_NoHistory_NoPlace ?rr_is_NoHistory_TooEarly ?rr_is_NoHistory_TooOld ?rr_is_NoHistory_ValueError ?rr_xg_NoPlace ?rr_ex_NoPlace_LineError ?rr_is_NoPlace_Elder ?rr_is_NoPlace_Full ?rr_is_NoPlace_NoCount ?rr_is_NoPlace_NoHistory ?rr_is_NoPlace_NoPlace ?rr_is_NoPlace_TooEarly ?rr_is_NoPlace_TooOld ?rr_is_NoPlace_ValueError ?v_LAST_LINE ?r_LAST_LINE ?v_LAST_PLACE ?r_LAST_PLACE ?v_LINES ?r_LINES
      (case a_is_number => k_is)
      (case l_is_number => k_is)
      (case c_is_number => k_is)
      (case k_is_number => k_is)
      (case a_is_within => k_is)
      (case l_is_within => k_is)
      (case c_is_within => k_is)
      (case k_is_within => k_is)
      (case a_is_place => k_is)
      (case l_is_place => k_is)
      (case c_is_place => k_is)
      (case k_is_place => k_is)
      (case a_is_line => k_is)
      (case l_is_line => k_is)
      (case c_is_line => k_is)
      (case k_is_line => k_is)
      (case a_is_line_and_place => k_is)
      (case l_is_line_and_place => k_is)
      (case c_is_line_and_place => k_is)
      (case k_is_line_and_place => k_is)
      (case a_is_history => k_is)
      (case l_is_history => k_is)
      (case c_is_history => k_is)
      (case k_is_history => k_is)
      (case a_require_history => k_is)
      (case l_require_history => k_is)
      (case c_require_history => k_is)
      (case k_require_history => k_is)
      (case a_require_place => k_is)
      (case l_require_place => k_is)
      (case c_require_place => k_is)
      (case k_require_place => k_is)
      (case a_line_at => k_is)
      (case l_line_at => k_is)
      (case c_line_at => k_is)
      (case k_line_at => k_is)
      (case a_line_of => k_is)
      (case l_line_of => k_is)
      (case c_line_of => k_is)
      (case k_line_of => k_is)
      (case a_law_state => k_is)
      (case l_law_state => k_is)
      (case c_law_state => k_is)
      (case k_law_state => k_is)
      (case a_law_next => k_is)
      (case l_law_next => k_is)
      (case c_law_next => k_is)
      (case k_law_next => k_is)
      (case a_law_whole => k_is)
      (case l_law_whole => k_is)
      (case c_law_whole => k_is)
      (case k_law_whole => k_is)
      (case a_law_history => k_is)
      (case l_law_history => k_is)
      (case c_law_history => k_is)
      (case k_law_history => k_is)
      (case a_law_end => k_is)
      (case l_law_end => k_is)
      (case c_law_end => k_is)
      (case k_law_end => k_is)
      (case a_law_at => k_is)
      (case l_law_at => k_is)
      (case c_law_at => k_is)
      (case k_law_at => k_is)
      (case a_law_error => k_is)
      (case l_law_error => k_is)
      (case c_law_error => k_is)
      (case k_law_error => k_is)
      (case a_law_refused => k_is)
      (case l_law_refused => k_is)
      (case c_law_refused => k_is)
      (case k_law_refused => k_is)
      (case a_law => k_is)
      (case l_law => k_is)
      (case c_law => k_is)
      (case k_law => k_is)
      (case z_ValueError => k_is)
      (case z_all => k_is)
      (case z_bool => k_is)
      (case z_int => k_is)
      (case z_isinstance => k_is)
      (case z_len => k_is)
      (case z_list => k_is)
      (case z_max => k_is)
      (case z_min => k_is)
      (case z_range => k_is)
      (case z_repr => k_is)
      (case z_tuple => k_is)
      (case z_zip => k_is)
      (case vC_Elder => k_is)
      (case vC_Full => k_is)
      (case vC_LineError => k_is)
      (case vC_NoCount => k_is)
      (case vC_NoHistory => k_is)
      (case vC_NoPlace => k_is)
      (case vC_TooEarly => k_is)
      (case vC_TooOld => k_is)
      (case zsu => k_is)
      (case rr_ztp => kernel_rfl)
      (case fI_NoHistory => k_is)
      (case lI_NoHistory => k_is)
      (case cI_NoHistory => k_is)
      (case hI_NoHistory => k_is)
      (case rf_vI_NoHistory => exact rfl)
      (case rr_eI_NoHistory => kernel_rfl)
      (case gI_NoHistory => k_is)
      (case rr_xk_NoHistory => kernel_rfl)
      (case rr_xi_NoHistory => kernel_rfl)
      (case kC_NoHistory => k_is)
      (case fI_NoPlace => k_is)
      (case lI_NoPlace => k_is)
      (case cI_NoPlace => k_is)
      (case hI_NoPlace => k_is)
      (case rf_vI_NoPlace => exact rfl)
      (case rr_eI_NoPlace => kernel_rfl)
      (case gI_NoPlace => k_is)
      (case rr_xk_NoPlace => kernel_rfl)
      (case rr_xi_NoPlace => kernel_rfl)
      (case kC_NoPlace => k_is)
      (case rr_xg_NoHistory => kernel_rfl)
      (case rr_ex_NoHistory_LineError => kernel_rfl)
      (case rr_is_NoHistory_Elder => kernel_rfl)
      (case rr_is_NoHistory_Full => kernel_rfl)
      (case rr_is_NoHistory_NoCount => kernel_rfl)
      (case rr_is_NoHistory_NoHistory => kernel_rfl)
      (case rr_is_NoHistory_NoPlace => kernel_rfl)
      (case rr_is_NoHistory_TooEarly => kernel_rfl)
      (case rr_is_NoHistory_TooOld => kernel_rfl)
      (case rr_is_NoHistory_ValueError => kernel_rfl)
      (case rr_xg_NoPlace => kernel_rfl)
      (case rr_ex_NoPlace_LineError => kernel_rfl)
      (case rr_is_NoPlace_Elder => kernel_rfl)
      (case rr_is_NoPlace_Full => kernel_rfl)
      (case rr_is_NoPlace_NoCount => kernel_rfl)
      (case rr_is_NoPlace_NoHistory => kernel_rfl)
      (case rr_is_NoPlace_NoPlace => kernel_rfl)
      (case rr_is_NoPlace_TooEarly => kernel_rfl)
      (case rr_is_NoPlace_TooOld => kernel_rfl)
      (case rr_is_NoPlace_ValueError => kernel_rfl)
      (case v_LAST_LINE => k_is)
      (case r_LAST_LINE => exact ⟨_, rfl⟩)
      (case v_LAST_PLACE => k_is)
      (case r_LAST_PLACE => exact ⟨_, rfl⟩)
      (case v_LINES => k_is)
      (case r_LINES => exact ⟨_, rfl⟩)
    obtain ⟨a, T⟩ := T
    have e0 := hmg.symm.trans T.m_law
    cases e0
    exact ⟨_, T.bl_law, fun base kb nb => My.all_ok T⟩
  case S => exact fun K H a ns hl hO hS => ⟨a, ns, rfl, hS, hl, fun _ => rfl⟩
  case C => exact fun _ _ _ _ z => z
