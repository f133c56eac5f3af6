import PyProof.Rows.All
import Wide.All
import OpenK.AllK
import Wide.FinOn
import Lean
import PyProof.EqAt
import PyProof.EqKinds
import PyProof.TupleCall
import KE.KTryMore
import PyProof.NsDelKeeps
import OpenK.KOwn
import PyProof.ExcClass3
import KE.KSuper
import PyProof.InstStoreFacts
import PyProof.ExcArgsOwn
import PyProof.ExcAttrAll.ValueError
import KE.KIsAll
import PyProof.EnumFor
import PyProof.EnumStmt
import PyProof.EnumIter
import KE.KStar
import KE.KUnpack
import PyProof.ListRange
import PyProof.P3In
import PyProof.Rows.SortShell
import PyProof.Rows.SortWalk
import PyProof.SeqI3
import PyProof.WalkInts
import KE.KRevIter
import PyProof.CollectIter
import PyProof.TupleOfGen
import PySem.Challenge.RW_laterline_k42_told_lines_judged
set_option Elab.async false
set_option linter.all false
set_option maxRecDepth 100000
/-! THE HAND LAYER, for ints, bools, texts, own classes, LISTS and tuples (index, slices, in, append, pop ..), calls, loops. Paste it whole ahead of your own text; what your proof does not reach may be deleted. -/
namespace L2
open PySem PySem.Spec PyProof.Rows

/-- a key: an int or a str -/
abbrev Key := Sum Int Str
def keyIs : Key → Value → Bool
  | .inl k, v => Value.isInt k v
  | .inr x, v => Value.isStrOf x v
def keyH (w : World) : Key → Int
  | .inl k => hashInt k
  | .inr x => hashStr w x
theorem keyIs_shape : ∀ {k : Key} {v : Value}, keyIs k v = true → (∃ i t, k = Sum.inl i ∧ v = Value.int i t) ∨ (∃ x t, k = Sum.inr x ∧ v = Value.str x t)
  | .inl i, v, h => by
    obtain ⟨t, e⟩ := Value.isInt_shape (k := i) (v := v) h
    exact .inl ⟨i, t, rfl, e⟩
  | .inr x, v, h => by
    obtain ⟨t, e⟩ := Value.isStrOf_shape (x := x) (v := v) h
    exact .inr ⟨x, t, rfl, e⟩
theorem keyIs_int (i : Int) (t : Tok) : keyIs (.inl i) (.int i t) = true := by simp [keyIs, Value.isInt]
theorem keyIs_str (x : Str) (t : Tok) : keyIs (.inr x) (.str x t) = true := by simp [keyIs, Value.isStrOf]
theorem key_ll (a b : Int) : decide ((Sum.inl a : Key) = Sum.inl b) = (a == b) := by
  by_cases e : a = b
  · subst e; simp
  · have h : ¬ (Sum.inl a : Key) = Sum.inl b := fun q => e (Sum.inl.inj q)
    rw [decide_eq_false h]
    exact (beq_eq_false_iff_ne.mpr e).symm
theorem key_rr (a b : Str) : decide ((Sum.inr a : Key) = Sum.inr b) = decide (a = b) := by
  by_cases e : a = b
  · subst e; simp
  · have h : ¬ (Sum.inr a : Key) = Sum.inr b := fun q => e (Sum.inr.inj q)
    rw [decide_eq_false h, decide_eq_false e]
theorem key_lr (a : Int) (b : Str) : decide ((Sum.inl a : Key) = Sum.inr b) = false := decide_eq_false (fun q => nomatch q)
theorem key_rl (a : Str) (b : Int) : decide ((Sum.inr a : Key) = Sum.inl b) = false := decide_eq_false (fun q => nomatch q)

def mixKind (prog : Program) (w : World) : PySem.KeyKind prog w Key where
  is := keyIs
  hash := keyH w
  inj := fun v a b ha hb => by
    rcases keyIs_shape ha with ⟨i, t, rfl, rfl⟩ | ⟨x, t, rfl, rfl⟩
    · rcases keyIs_shape hb with ⟨j, u, rfl, e⟩ | ⟨y, u, rfl, e⟩
      · injection e with e1 _; rw [e1]
      · exact nomatch e
    · rcases keyIs_shape hb with ⟨j, u, rfl, e⟩ | ⟨y, u, rfl, e⟩
      · exact nomatch e
      · injection e with e1 _; rw [e1]
  byValue := fun k v h => by
    rcases keyIs_shape h with ⟨i, t, rfl, rfl⟩ | ⟨x, t, rfl, rfl⟩ <;> rfl
  pyHash := fun hv h => by
    rcases keyIs_shape hv with ⟨i, t, rfl, rfl⟩ | ⟨x, t, rfl, rfl⟩
    · exact wpAny_pyHash_int h
    · exact wpAny_pyHash_str h
  eqBool := fun hu hv h => by
    rcases keyIs_shape hu with ⟨i, t, rfl, rfl⟩ | ⟨x, t, rfl, rfl⟩
    · rcases keyIs_shape hv with ⟨j, u, rfl, rfl⟩ | ⟨y, u, rfl, rfl⟩
      · rw [key_ll] at h; exact wpAny_eqBool_int h
      · rw [key_lr] at h; exact SeqAt.EqAt.int_str i t y u _ _ _ _ h
    · rcases keyIs_shape hv with ⟨j, u, rfl, rfl⟩ | ⟨y, u, rfl, rfl⟩
      · rw [key_rl] at h; exact SeqAt.EqAt.str_int x t j u _ _ _ _ h
      · rw [key_rr] at h; exact wpAny_eqBool_str h
  «strs» := fun k x t v h => by
    rcases keyIs_shape h with ⟨i, u, rfl, e⟩ | ⟨y, u, rfl, e⟩
    · exact nomatch e
    · injection e with e1 _
      subst e1
      cases v <;> rfl

theorem mixKind_int (prog : Program) (w : World) (i : Int) (t : Tok) : (mixKind prog w).is (.inl i) (.int i t) = true := keyIs_int i t
theorem mixKind_str (prog : Program) (w : World) (x : Str) (t : Tok) : (mixKind prog w).is (.inr x) (.str x t) = true := keyIs_str x t
end L2

namespace L2
open PySem PySem.Spec PyProof.Rows

/-- a value, without the heap -/
inductive V where
  | non | bl (b : Bool) | int (i : Int) | str (x : Str) | byt (b : Array UInt8) | flt (b : UInt64) | ref (a : Addr) | ty (n : String)
  deriving DecidableEq

def RelV : V → Value → Prop
  | .non, u => u = Value.none
  | .bl b, u => u = Value.bool b
  | .int i, u => ∃ t, u = Value.int i t
  | .str x, u => ∃ t, u = Value.str x t
  | .byt b, u => ∃ t, u = Value.bytes b t
  | .flt b, u => ∃ t, u = Value.float b t
  | .ref a, u => u = Value.ref a
  | .ty n, u => u = Value.type n

abbrev Vals : List V → List Value → Prop := Paired RelV
theorem Vals.length {xs : List V} {us : List Value} (r : Vals xs us) : xs.length = us.length := Paired.length r
theorem Vals.get : ∀ {xs : List V} {us : List Value} {i : Nat} {x : V}, Vals xs us → xs[i]? = some x → ∃ u, us[i]? = some u ∧ RelV x u
  | _, _, _, _, .nil, e => by simp at e
  | _, _, 0, _, .cons r _, e => by simp at e; subst e; exact ⟨_, rfl, r⟩
  | _, _, i + 1, x, .cons _ t, e => by
    obtain ⟨u, h1, h2⟩ := Vals.get (i := i) (x := x) t (by simpa using e)
    exact ⟨u, by simpa using h1, h2⟩
theorem Vals.set {x : V} {u : Value} (r : RelV x u) : ∀ {xs : List V} {us : List Value} (i : Nat), Vals xs us → Vals (xs.set i x) (us.set i u)
  | _, _, _, .nil => .nil
  | _, _, 0, .cons _ t => .cons r t
  | _, _, i + 1, .cons q t => .cons q (Vals.set r i t)
theorem Vals.append : ∀ {xs ys : List V} {us ws : List Value}, Vals xs us → Vals ys ws → Vals (xs ++ ys) (us ++ ws)
  | _, _, _, _, .nil, s => s
  | _, _, _, _, .cons r t, s => .cons r (Vals.append t s)
theorem Vals.take : ∀ {xs : List V} {us : List Value} (n : Nat), Vals xs us → Vals (xs.take n) (us.take n)
  | _, _, 0, _ => .nil
  | _, _, _ + 1, .nil => .nil
  | _, _, n + 1, .cons r t => .cons r (Vals.take n t)
theorem Vals.drop : ∀ {xs : List V} {us : List Value} (n : Nat), Vals xs us → Vals (xs.drop n) (us.drop n)
  | _, _, 0, r => r
  | _, _, _ + 1, .nil => .nil
  | _, _, n + 1, .cons _ t => Vals.drop n t
def RelO : Option V → Option Value → Prop
  | some v, some u => RelV v u
  | none, none => True
  | _, _ => False
def KV {κ : Type} : List (κ × V) → List (κ × Value) → Prop := Paired fun (p : κ × V) (q : κ × Value) => p.1 = q.1 ∧ RelV p.2 q.2

/-- a key of a dict (00_mix): an int or a text -/
def kV : Key → V
  | .inl i => .int i
  | .inr x => .str x

/-- what stands at a tracked address -/
inductive HO where
  /-- a list -/
  | lst (xs : List V)
  /-- a tuple (never changes) -/
  | tup (xs : List V)
  /-- a dict whose keys are ints and texts; one whose keys are tuples of ints and texts (the empty one is both) -/
  | dK (kvs : List (Key × V)) | dT (kvs : List (List Key × V))
  /-- a set of ints: its members, its size -/
  | set (S : Int → Bool) (n : Nat)
  /-- an instance of the class at C, its dict at dx, its attributes -/
  | ins (C dx : Addr) (fs : List (Str × V))
  /-- the dict of the instance at x -/
  | own (x : Addr)
  /-- the dict of an exception -/
  | xd (fs : List (Str × V))
  /-- a bound method, f of x -/
  | met (f x : Addr)
  /-- a range object lo, lo + 1, .. below hi -/
  | rng (lo hi : Int)
  /-- a thing that is known to the object (the script; a dict while a loop walks it): read, never written while it is so -/
  | frz (o : Obj) (u : HO)
  /-- a code object's table -/
  | tbl (ps : Array Value)
  /-- any other thing, by what is true of its one object (a def of one's own: SetO a S n := HO.ext fun h => ..) -/
  | ext (φ : Heap → Prop)

abbrev Hp := Addr → Option HO
def upd (H : Hp) (a : Addr) (o : HO) : Hp := fun b => if b = a then some o else H b
theorem upd_same {H : Hp} {a : Addr} {o : HO} : upd H a o a = some o := by unfold upd; rw [if_pos rfl]
theorem upd_ne {H : Hp} {a b : Addr} {o : HO} (h : b ≠ a) : upd H a o b = H b := by unfold upd; rw [if_neg h]
theorem upd_upd {H : Hp} {a : Addr} {o u : HO} : upd (upd H a o) a u = upd H a u := by
  funext b; unfold upd; split <;> rfl
/-- two objects of different content stand apart -/
theorem ne_of {H : Hp} {a b : Addr} {o u : HO} (h : H a = some o) (h' : H b = some u) (d : o ≠ u) : a ≠ b := by
  intro e; subst e; rw [h] at h'; exact d (Option.some.inj h')
theorem ne_of_none {H : Hp} {a b : Addr} {o : HO} (h : H a = some o) (h' : H b = none) : a ≠ b := by
  intro e; subst e; rw [h] at h'; cases h'

section
variable (P : Program) (w : World)
def ObjOk (H : Hp) (h : Heap) (a : Addr) : HO → Prop
  | .lst xs => xs.length ≤ sizeLine ∧ ∃ (its : List Value) (n : Nat), Vals xs its ∧ h.get? a = some { cls := .type "list", data := .seq its.toArray n }
  | .tup xs => xs.length ≤ sizeLine ∧ ∃ its : List Value, Vals xs its ∧ IsTup h a its.toArray
  | .dK kvs => kvs.length ≤ sizeLine ∧ (a == sysModules) = false ∧ ∃ vs, KV kvs vs ∧ h.DictOf (mixKind P w) a vs
  | .dT kvs => kvs.length ≤ sizeLine ∧ (a == sysModules) = false ∧ ∃ xs : List (List Key × Addr × Value),
      Paired (fun (p : List Key × V) (q : List Key × Addr × Value) => p.1 = q.1 ∧ H q.2.1 = some (.tup (p.1.map kV)) ∧ RelV p.2 q.2.2) kvs xs ∧
      ∃ o es ep, h.get? a = some o ∧ o.ExactDict ∧ o.data = .dict es ep ∧ es.toList = xs.map (entryOfKey (tupleKind (mixKind P w))) ∧ (xs.map (·.1)).Nodup
  | .set S n => h.SetOf (intKind P w) a S n
  | .ins C dx fs => H dx = some (.own a) ∧ fs.length ≤ 1000 ∧ dx ≠ a ∧ h.get? a = some (PySem.W.instObj C dx) ∧
      ∃ mA, h.Ns1 dx mA ∧ (∀ f, RelO (fs.lookup f) (mA f)) ∧ PySem.Within mA (fs.map (·.1))
  | .own _ => ∃ o, h.get? a = some o
  | .xd fs => ∃ mA, h.Ns1 a mA ∧ ∀ f, RelO (fs.lookup f) (mA f)
  | .rng lo hi => ∃ t u v, h.get? a = some { cls := .type "range", data := .fields #[.int lo t, .int hi u, .int 1 v] }
  | .frz o u => h.get? a = some o ∧ ObjOk H h a u
  | .tbl ps => h.get? a = some { cls := .none, data := .fields ps }
  | .met f x => h.get? a = some (PySem.W.methodObj (.ref f) (.ref x))
  | .ext φ => φ h ∧ (∃ o, h.get? a = some o) ∧ ∀ h1 h2 : Heap, φ h1 → (∀ o, h1.get? a = some o → h2.get? a = some o) → φ h2
/-- the abstract heap is held -/
def HOk (H : Hp) (h : Heap) : Prop := ∀ a o, H a = some o → ObjOk P w H h a o
end

section
variable {P : Program} {w : World} {H H' : Hp} {h h' : Heap} {a : Addr} {o : HO}
theorem ObjOk.lt (x : ObjOk P w H h a o) : a < h.objs.size := by
  cases o with
  | lst xs => obtain ⟨_, _, _, _, e⟩ := x; exact Heap.lt_size e
  | tup xs => obtain ⟨_, _, _, p⟩ := x; exact p.lt
  | dK kvs => obtain ⟨_, _, _, _, o, _, _, e, _⟩ := x; exact Heap.lt_size e
  | dT kvs => obtain ⟨_, _, _, _, o, _, _, e, _⟩ := x; exact Heap.lt_size e
  | set S n => obtain ⟨o, _, _, _, e, _⟩ := x; exact Heap.lt_size e
  | ins C dx fs => obtain ⟨_, _, _, e, _⟩ := x; exact Heap.lt_size e
  | own y => obtain ⟨_, e⟩ := x; exact Heap.lt_size e
  | xd fs => obtain ⟨_, ⟨_, _, _, e, _⟩, _⟩ := x; exact Heap.lt_size e
  | rng lo hi => obtain ⟨_, _, _, e⟩ := x; exact Heap.lt_size e
  | frz ob u => obtain ⟨e, _⟩ := x; exact Heap.lt_size e
  | tbl ps => exact Heap.lt_size (show h.get? a = some _ from x)
  | met f y => exact Heap.lt_size (show h.get? a = some _ from x)
  | ext φ => obtain ⟨_, ⟨_, e⟩, _⟩ := x; exact Heap.lt_size e
theorem Paired.mapP {α β : Type} {F G : α → β → Prop} : ∀ {l₁ : List α} {l₂ : List β}, Paired F l₁ l₂ → (∀ a b, F a b → G a b) → Paired G l₁ l₂
  | _, _, .nil, _ => .nil
  | _, _, .cons r t, f => .cons (f _ _ r) (Paired.mapP t f)
/-- what an object's description leans on: its own object, its own dict, the tuples -/
theorem ObjOk.stay (x : ObjOk P w H h a o) (k : ∀ b u, (b = a ∨ H b = some (.own a)) → h.get? b = some u → h'.get? b = some u)
    (ho : ∀ b, H b = some (.own a) → H' b = some (.own a)) (ht : ∀ b xs, H b = some (.tup xs) → H' b = some (.tup xs)) : ObjOk P w H' h' a o := by
  induction o with
  | lst xs => obtain ⟨z, its, n, r, e⟩ := x; exact ⟨z, its, n, r, k _ _ (.inl rfl) e⟩
  | tup xs => obtain ⟨z, its, r, ob, e, c⟩ := x; exact ⟨z, its, r, ob, k _ _ (.inl rfl) e, c⟩
  | dK kvs => obtain ⟨z, y, vs, r, ob, es, ep, e, c⟩ := x; exact ⟨z, y, vs, r, ob, es, ep, k _ _ (.inl rfl) e, c⟩
  | dT kvs =>
    obtain ⟨z, y, xs, r, ob, es, ep, e, c⟩ := x
    exact ⟨z, y, xs, Paired.mapP r fun p q z => ⟨z.1, ht _ _ z.2.1, z.2.2⟩, ob, es, ep, k _ _ (.inl rfl) e, c⟩
  | set S n => obtain ⟨ob, es, ep, t, e, c⟩ := x; exact ⟨ob, es, ep, t, k _ _ (.inl rfl) e, c⟩
  | ins C dx fs =>
    obtain ⟨d, z, ne, e, mA, ⟨od, es, ep, e2, c⟩, r⟩ := x
    exact ⟨ho _ d, z, ne, k _ _ (.inl rfl) e, mA, ⟨od, es, ep, k _ _ (.inr d) e2, c⟩, r⟩
  | own y => obtain ⟨ob, e⟩ := x; exact ⟨ob, k _ _ (.inl rfl) e⟩
  | xd fs => obtain ⟨mA, ⟨od, es, ep, e, c⟩, r⟩ := x; exact ⟨mA, ⟨od, es, ep, k _ _ (.inl rfl) e, c⟩, r⟩
  | rng lo hi => obtain ⟨t, u, v, e⟩ := x; exact ⟨t, u, v, k _ _ (.inl rfl) e⟩
  | frz ob u ih => obtain ⟨e, q⟩ := x; exact ⟨k _ _ (.inl rfl) e, ih q⟩
  | tbl ps =>
    have e : h.get? a = some { cls := .none, data := .fields ps } := x
    show h'.get? a = some { cls := .none, data := .fields ps }
    exact k a _ (.inl rfl) e
  | met f y =>
    have e : h.get? a = some (PySem.W.methodObj (.ref f) (.ref y)) := x
    show h'.get? a = some (PySem.W.methodObj (.ref f) (.ref y))
    exact k a _ (.inl rfl) e
  | ext φ => obtain ⟨p, ⟨o, e⟩, st⟩ := x; exact ⟨st _ _ p fun o q => k _ _ (.inl rfl) q, ⟨o, k _ _ (.inl rfl) e⟩, st⟩
theorem HOk.lt (x : HOk P w H h) (e : H a = some o) : a < h.objs.size := (x a o e).lt
theorem HOk.fresh (x : HOk P w H h) (e : h.objs.size ≤ a) : H a = none := by
  cases q : H a with
  | none => rfl
  | some u => exact absurd (Nat.lt_of_lt_of_le (x.lt q) e) (Nat.lt_irrefl _)
/-- every object of the heap is kept -/
theorem HOk.kept (x : HOk P w H h) (k : ∀ b u, h.get? b = some u → h'.get? b = some u) : HOk P w H h' := fun a o e =>
  (x a o e).stay (fun b u _ q => k b u q) (fun _ q => q) fun _ _ q => q
/-- a new object is laid and tracked -/
theorem HOk.laid (x : HOk P w H h) (k : ∀ b u, h.get? b = some u → h'.get? b = some u) (hp : h.objs.size ≤ a) (new : ObjOk P w (upd H a o) h' a o) : HOk P w (upd H a o) h' := fun b u e => by
  have hn := x.fresh hp
  by_cases hb : b = a
  · subst hb; rw [upd_same] at e; cases e; exact new
  · rw [upd_ne hb] at e
    exact (x b u e).stay (fun c v _ q => k c v q) (fun c q => by rw [upd_ne (ne_of_none q hn)]; exact q) fun c xs q => by rw [upd_ne (ne_of_none q hn)]; exact q
end

/-- what may be read as u: it is u, or a known u -/
def Rd (H : Hp) (a : Addr) (u : HO) : Prop := H a = some u ∨ ∃ o, H a = some (.frz o u)
theorem Rd.ok {P : Program} {w : World} {H : Hp} {h : Heap} {a : Addr} {u : HO} (r : Rd H a u) (x : HOk P w H h) : ObjOk P w H h a u := by
  rcases r with r | ⟨o, r⟩
  · exact x a u r
  · obtain ⟨_, q⟩ := x a _ r
    exact q
/-- what may be written -/
def Mut : Option HO → Prop
  | some (.lst _) => True
  | some (.dK _) => True
  | some (.dT _) => True
  | some (.set _ _) => True
  | some (.ins _ _ _) => True
  | some (.ext _) => True
  | _ => False
section
variable {P : Program} {w : World} {H : Hp} {h h' : Heap} {x e : Addr} {o' : HO}
/-- the object at e is changed: x itself, or the dict of the instance x -/
theorem HOk.write (ok : HOk P w H h) (mu : Mut (H x)) (he : e = x ∨ H e = some (.own x)) (k : ∀ b u, b ≠ e → h.get? b = some u → h'.get? b = some u) (heo : ∃ u, h'.get? e = some u)
    (new : ObjOk P w (upd H x o') h' x o') : HOk P w (upd H x o') h' := fun b u q => by
  have nown : ∀ c y, H c = some (.own y) → c ≠ x := fun c y r z => by subst z; rw [r] at mu; exact mu
  have ntup : ∀ c xs, H c = some (.tup xs) → c ≠ x := fun c xs r z => by subst z; rw [r] at mu; exact mu
  by_cases hb : b = x
  · subst hb; rw [upd_same] at q; cases q; exact new
  · rw [upd_ne hb] at q
    by_cases hbe : b = e
    · have q' : H b = some (.own x) := by
        rcases he with z | z
        · exact absurd (hbe.trans z) hb
        · rw [hbe]; exact z
      rw [q] at q'; cases q'
      obtain ⟨v, hv⟩ := heo
      exact ⟨v, by rw [hbe]; exact hv⟩
    · refine (ok b u q).stay (fun c v hc r => k c v ?_ r) (fun c r => by rw [upd_ne (nown c b r)]; exact r) fun c xs r => by rw [upd_ne (ntup c xs r)]; exact r
      rcases hc with rfl | hc
      · exact hbe
      · rintro rfl
        rcases he with z | z
        · exact nown c b hc z
        · rw [hc] at z; cases z; exact hb rfl
end

/-! ### kept unless tracked; of the frames at fs (the callers') the slots may change (an exception that passes writes there); of the records at ex (iterators) nothing is said -/
structure Un (fs ex : List Addr) (H H' : Hp) (h h' : Heap) : Prop where
  keep : ∀ b o, h.get? b = some o → H b = none → b ∉ fs → b ∉ ex → h'.get? b = some o
  slot : ∀ b o, h.get? b = some o → H b = none → b ∈ fs → b ∉ ex → ∃ sl, h'.get? b = some { o with slots := sl }
  free : ∀ b o, h.get? b = some o → H b = none → b ∉ ex → H' b = none
  there : ∀ b o, h.get? b = some o → b ∉ ex → ∃ o', h'.get? b = some o'
  tups : ∀ b xs, H b = some (.tup xs) → H' b = some (.tup xs)
  frzs : ∀ b o u, H b = some (.frz o u) → H' b = some (.frz o u)
  tbls : ∀ b ps, H b = some (.tbl ps) → ∃ more, H' b = some (.tbl (ps ++ more))
section
variable {fs fs' ex ex' : List Addr} {H H1 H2 : Hp} {h h1 h2 h' : Heap} {a x e : Addr} {o : HO}
theorem Un.any (u : Un fs ex H H1 h h1) {b : Addr} {ob : Obj} (q : h.get? b = some ob) (n : H b = none) (hx : b ∉ ex) : ∃ sl, h1.get? b = some { ob with slots := sl } := by
  by_cases hb : b ∈ fs
  · exact u.slot b ob q n hb hx
  · exact ⟨ob.slots, u.keep b ob q n hb hx⟩
theorem Un.kept (k : ∀ b u, h.get? b = some u → h'.get? b = some u) : Un fs ex H H h h' :=
  ⟨fun b ob q _ _ _ => k b ob q, fun b ob q _ _ _ => ⟨ob.slots, k b ob q⟩, fun _ _ _ n _ => n, fun b ob q _ => ⟨ob, k b ob q⟩, fun _ _ q => q, fun _ _ _ q => q, fun _ ps q => ⟨#[], by rw [q]; simp⟩⟩
theorem Un.refl : Un fs ex H H h h := Un.kept fun _ _ q => q
theorem Un.laid (k : ∀ b u, h.get? b = some u → h'.get? b = some u) (hp : h.objs.size ≤ a) (hn : H a = none) : Un fs ex H (upd H a o) h h' where
  keep := fun b u q _ _ _ => k b u q
  slot := fun b u q _ _ _ => ⟨u.slots, k b u q⟩
  free := fun b u q n _ => by rw [upd_ne (Nat.ne_of_lt (Nat.lt_of_lt_of_le (Heap.lt_size q) hp))]; exact n
  there := fun b u q _ => ⟨u, k b u q⟩
  tups := fun b xs q => by rw [upd_ne (ne_of_none q hn)]; exact q
  frzs := fun b u xs q => by rw [upd_ne (ne_of_none q hn)]; exact q
  tbls := fun b ps q => ⟨#[], by rw [upd_ne (ne_of_none q hn), q]; simp⟩
theorem Un.write (mu : Mut (H x)) (he : e = x ∨ H e = some (.own x)) (k : ∀ b u, b ≠ e → h.get? b = some u → h'.get? b = some u) (heo : ∃ u, h'.get? e = some u) : Un fs ex H (upd H x o) h h' := by
  have hx : ∀ b, H b = none → b ≠ x := fun b n z => by subst z; rw [n] at mu; exact mu
  have hb : ∀ b, H b = none → b ≠ e := fun b n z => by
    subst z
    rcases he with r | r
    · exact hx b n r
    · rw [n] at r; cases r
  have hm : ∀ b u, H b = some u → ¬ Mut (some u) → b ≠ x := fun b u q nm z => by subst z; rw [q] at mu; exact nm mu
  refine ⟨fun b u q n _ _ => k b u (hb b n) q, fun b u q n _ _ => ⟨u.slots, k b u (hb b n) q⟩, fun b u q n _ => by rw [upd_ne (hx b n)]; exact n, fun b u q _ => ?_,
    fun b xs q => by rw [upd_ne (hm b _ q fun z => z)]; exact q, fun b u xs q => by rw [upd_ne (hm b _ q fun z => z)]; exact q, fun b ps q => ⟨#[], by rw [upd_ne (hm b _ q fun z => z), q]; simp⟩⟩
  by_cases hbe : b = e
  · subst hbe; exact heo
  · exact ⟨u, k b u hbe q⟩
end

/-! ### the heap without what is tracked -/
def trk (h : Heap) (H : Hp) : List Addr := (List.range h.objs.size).filter fun a => (H a).isSome
def hidT (h : Heap) (H : Hp) : Heap := PySem.W.hideAll h (trk h H)
theorem hidT_size (h : Heap) (H : Hp) : (hidT h H).objs.size = h.objs.size := PySem.W.hideAll_size _ _
theorem hidT_get {h : Heap} {H : Hp} {b : Addr} {o : Obj} (e : h.get? b = some o) (n : H b = none) : (hidT h H).get? b = some o :=
  PySem.W.hideAll_get _ e fun hm => by
    have q : (H b).isSome = true := (List.mem_filter.mp hm).2
    rw [n] at q; simp at q
theorem of_hidT {h : Heap} {H : Hp} {b : Addr} {o : Obj} (e : (hidT h H).get? b = some o) : h.get? b = some o ∧ H b = none := by
  have e' : h.get? b = some o := PySem.W.of_hideAll (trk h H) e
  refine ⟨e', ?_⟩
  cases q : H b with
  | none => rfl
  | some x =>
    have hm : b ∈ trk h H := List.mem_filter.mpr ⟨List.mem_range.mpr (Heap.lt_size e'), by simp [q]⟩
    have z : (hidT h H).get? b = none := PySem.W.hideAll_none (trk h H) hm
    rw [z] at e; cases e

/-! ### OpenK's ledger, filled with every new object but one -/
def allNews (g h : Heap) (L : Addr) : List (Addr × Obj) := (List.range h.objs.size).filterMap fun a => if a = L ∨ (g.get? a).isSome = true then none else (h.get? a).map fun o => (a, o)
def rest (g h : Heap) (L d : Addr) : List (Addr × Obj) := (allNews g h L).filter fun p => decide (p.1 ≠ d)
end L2

namespace L2
open PySem PySem.Spec PyProof.Rows

/-- the module's facts, over the base: the heap at the law's entry without what is tracked there -/
structure Mod (K : PySem.W.Frag) (mg : Str → Option Value) (base : Heap) : Prop where
  kin : K.In base
  glob : base.Ns mainGlobals mg
  blt : ∃ mb, base.Ns builtinsNs mb ∧ ∀ x : Str, x ≠ "__name__" → mb x = bootBuiltins x
  nolimit : base.NoLimit

/-- the context: a def's body (or a comprehension's block) running. base: fixed through the whole law; s₀, H₀: the entry; outer: the frames whose slots others may change (a def's callers); stack: all frames that run;
   ex: iterators that were made ahead of the entry and are walked here (a comprehension's); fn: the names whose cells were made at the entry (a def: all; a comprehension's block: its own); calm: not within an except suite; pn: pins that every state bears; xe: what is wanted of an exception that leaves the code -/
structure Cx where
  prog : Program
  w : World
  K : PySem.W.Frag
  mg : Str → Option Value
  base : Heap
  A : Around
  N : List Str
  s₀ : Shared
  H₀ : Hp
  env : Env
  outer : List Env
  stack : List Env
  ex : List Addr
  fn : Str → Bool
  calm : Bool
  pn : List (Addr × Obj)
  xe : Value → Shared → Prop
/-- the callers' frames -/
def frs (l : List Env) : List Addr := l.filterMap (·.frame)
abbrev Cx.fs (X : Cx) : List Addr := frs X.outer

def Vis (sc : Scope) (x : Str) : Prop := sc.names.lookup x = some .local ∨ sc.names.lookup x = some .cell ∨ sc.names.lookup x = some .free
def Loc (sc : Scope) (x : Str) : Prop := sc.names.lookup x = some .local ∨ sc.names.lookup x = some .cell
def Look (env : Env) (h : Heap) (m : Str → Option Value) (x : Str) (u : Value) : Prop :=
  (env.kindOf x = some .local ∧ m x = some u) ∨ ((env.kindOf x = some .cell ∨ env.kindOf x = some .free) ∧ ∃ c, env.cells.lookup x = some c ∧ h.IsCell c (some u))

structure Cx.Ok (X : Cx) : Prop where
  mod : Mod X.K X.mg X.base
  kind : X.env.scope.kind = .function
  glob : X.env.globals = mainGlobals
  blt : X.env.builtins = builtinsNs
  above : X.s₀.heap.objs.size ≤ X.env.locals
  inj : ∀ x y c, X.env.cells.lookup x = some c → X.env.cells.lookup y = some c → x = y
  has : ∀ x, (X.env.kindOf x = some .cell ∨ X.env.kindOf x = some .free) → ∃ c, X.env.cells.lookup x = some c
  cab : ∀ x c, X.fn x = true → X.env.cells.lookup x = some c → X.s₀.heap.objs.size ≤ c
  hd : X.calm = true → X.A.handled = none
  frames : X.A.frames = some X.stack
  stk : X.stack = X.outer ∨ (X.stack = X.env :: X.outer ∧ X.env.frame = some X.env.locals)
  exf : ∀ b ∈ X.ex, b ≠ X.env.locals ∧ ∀ x c, X.env.cells.lookup x = some c → c ≠ b
  bs : ∀ b o, X.base.get? b = some o → X.s₀.heap.get? b = some o ∧ X.H₀ b = none
  bsz : X.base.objs.size ≤ X.s₀.heap.objs.size
  noex : ∀ b o, X.base.get? b = some o → b ∉ X.ex
  exfs : ∀ b ∈ X.ex, b ∉ X.fs
  funs : X.s₀.heap.FunFrames X.base X.outer
  frf : ∀ b ∈ X.fs, X.H₀ b = none

structure Inv (X : Cx) (pins : List (Addr × Obj)) (σ : List (Option V)) (H : Hp) (s : Shared) : Prop where
  ok : X.Ok
  os : s.os = X.s₀.os
  bare : AllBare s.gens
  base : Un X.fs X.ex X.H₀ H X.s₀.heap s.heap
  loc : ∃ m, s.heap.Ns X.env.locals m ∧ ∀ (i : Nat) (x : Str) (v : V), X.N[i]? = some x → σ[i]? = some (some v) → Vis X.env.scope x → ∃ u, RelV v u ∧ Look X.env s.heap m x u
  cell : ∀ x c, X.env.cells.lookup x = some c → ∃ v, s.heap.IsCell c v
  free : H X.env.locals = none
  freeC : ∀ x c, X.env.cells.lookup x = some c → H c = none
  pin : ∀ p ∈ X.pn ++ pins, s.heap.get? p.1 = some p.2 ∧ H p.1 = none ∧ p.1 ≠ X.env.locals ∧ p.1 ∉ X.fs ∧ ∀ v, p.2.data ≠ .cell v
  hok : HOk X.prog X.w H s.heap
  len : σ.length = X.N.length

section
variable {X : Cx} {pins : List (Addr × Obj)} {σ : List (Option V)} {H H' : Hp} {s : Shared} {h' : Heap}

theorem Cx.Ok.nofr (ok : X.Ok) {b : Addr} {o : Obj} (e : X.base.get? b = some o) : b ∉ X.fs := fun hb => by
  have := (ok.funs.mem hb).1
  rw [e] at this; cases this
theorem Inv.bs (I : Inv X pins σ H s) : ∀ b o, X.base.get? b = some o → s.heap.get? b = some o ∧ H b = none := fun b o e =>
  ⟨I.base.keep b o (I.ok.bs b o e).1 (I.ok.bs b o e).2 (I.ok.nofr e) (I.ok.noex b o e), I.base.free b o (I.ok.bs b o e).1 (I.ok.bs b o e).2 (I.ok.noex b o e)⟩
theorem Inv.bk (I : Inv X pins σ H s) : ∀ b o, X.base.get? b = some o → s.heap.get? b = some o := fun b o e => (I.bs b o e).1
theorem Inv.mod (I : Inv X pins σ H s) : Mod X.K X.mg X.base := I.ok.mod
theorem Inv.kIn (I : Inv X pins σ H s) : X.K.In s.heap := I.ok.mod.kin.keeps I.bk
theorem Inv.lt (I : Inv X pins σ H s) : X.env.locals < s.heap.objs.size := let ⟨_, hn, _⟩ := I.loc; hn.lt
theorem Inv.sz (I : Inv X pins σ H s) : X.s₀.heap.objs.size ≤ s.heap.objs.size := Nat.le_trans I.ok.above (Nat.le_of_lt I.lt)
theorem Inv.nofs (I : Inv X pins σ H s) {a : Addr} (h : s.heap.objs.size ≤ a) : a ∉ X.fs := fun hb => by
  obtain ⟨_, o, ho, _⟩ := I.ok.funs.mem hb
  exact absurd (Nat.lt_of_lt_of_le (Heap.lt_size ho) (Nat.le_trans I.sz h)) (Nat.lt_irrefl _)
theorem Inv.cne (I : Inv X pins σ H s) : ∀ x c, X.env.cells.lookup x = some c → c ≠ X.env.locals := fun x c e z => by
  obtain ⟨v, o, ho, hd⟩ := I.cell x c e
  obtain ⟨m, ⟨o', es, ep, ho', hd', _⟩, _⟩ := I.loc
  rw [z, ho'] at ho; cases ho; rw [hd'] at hd; cases hd
theorem Inv.funs (I : Inv X pins σ H s) : s.heap.FunFrames X.base X.outer := by
  have all : ∀ (l : List Env), (∀ b ∈ frs l, b ∈ X.fs) → X.s₀.heap.FunFrames X.base l → s.heap.FunFrames X.base l := by
    intro l
    induction l with
    | nil => intro _ _; trivial
    | cons env r ih =>
      intro hs hl
      obtain ⟨hk, ⟨L, o, hf, hn, ho, hd⟩, hr⟩ := hl
      have hL : L ∈ X.fs := hs L (by unfold frs; rw [List.filterMap_cons, hf]; exact List.mem_cons_self)
      obtain ⟨sl, e⟩ := I.base.slot L o ho (I.ok.frf L hL) hL fun z => I.ok.exfs L z hL
      exact ⟨hk, ⟨L, _, hf, hn, e, hd⟩, ih (fun b hb => hs b (by unfold frs; rw [List.filterMap_cons, hf]; exact List.mem_cons_of_mem _ hb)) hr⟩
  exact all X.outer (fun _ hb => hb) I.ok.funs

/-- the frames that run, for a call -/
theorem Inv.stack (I : Inv X pins σ H s) : s.heap.FunFrames X.base X.stack := by
  rcases I.ok.stk with e | ⟨e, hf⟩
  · rw [e]; exact I.funs
  · rw [e]
    obtain ⟨m, hn, _⟩ := I.loc
    refine .cons (by rw [I.ok.kind]; decide) hf hn ?_ I.funs
    exact Heap.get?_none_of_le (Nat.le_trans I.ok.bsz I.ok.above)
theorem Inv.stkSub (I : Inv X pins σ H s) : ∀ b ∈ frs X.stack, b ∈ X.env.locals :: X.fs := fun b hb => by
  rcases I.ok.stk with e | ⟨e, hf⟩
  · rw [e] at hb; exact List.mem_cons_of_mem _ hb
  · rw [e] at hb
    unfold frs at hb
    rw [List.filterMap_cons, hf] at hb
    exact hb
theorem Inv.stkFree (I : Inv X pins σ H s) : ∀ b ∈ frs X.stack, H b = none := fun b hb => by
  rcases List.mem_cons.mp (I.stkSub b hb) with e | hb
  · rw [e]; exact I.free
  · obtain ⟨_, o, ho, _⟩ := I.ok.funs.mem hb
    exact I.base.free b o ho (I.ok.frf b hb) fun z => I.ok.exfs b z hb

/-- THE STEP: the untracked objects but the frame and the records at ch are kept (the callers' frames up to slots), the frame's map is kept, the new abstract heap is held -/
theorem Inv.step {g' : Array GenState} {t' : Nat} {d' : Drawn} {ch : List Addr} (I : Inv X pins σ H s)
    (hch : ∀ b ∈ ch, (b ∈ X.ex ∨ X.s₀.heap.objs.size ≤ b) ∧ b ≠ X.env.locals ∧ (∀ x c, X.env.cells.lookup x = some c → c ≠ b) ∧ ∀ p ∈ X.pn ++ pins, p.1 ≠ b)
    (keep : ∀ b o, b ≠ X.env.locals → b ∉ X.fs → b ∉ ch → s.heap.get? b = some o → H b = none → h'.get? b = some o)
    (slot : ∀ b o, b ≠ X.env.locals → b ∈ X.fs → b ∉ ch → s.heap.get? b = some o → H b = none → ∃ sl, h'.get? b = some { o with slots := sl }) (free : ∀ b o, b ∉ ch → s.heap.get? b = some o → H b = none → H' b = none)
    (there : ∀ b o, b ∉ ch → s.heap.get? b = some o → ∃ o', h'.get? b = some o')
    (tups : ∀ b xs, H b = some (.tup xs) → H' b = some (.tup xs)) (frzs : ∀ b o u, H b = some (.frz o u) → H' b = some (.frz o u)) (tbls : ∀ b ps, H b = some (.tbl ps) → ∃ more, H' b = some (.tbl (ps ++ more)))
    (ns : ∀ m, s.heap.Ns X.env.locals m → h'.Ns X.env.locals m) (hok : HOk X.prog X.w H' h') (hg : AllBare g') :
    Inv X pins σ H' { s with heap := h', gens := g', drawn := d', toks := t' } := by
  have neL : ∀ b o, X.s₀.heap.get? b = some o → b ≠ X.env.locals := fun b o e => Nat.ne_of_lt (Nat.lt_of_lt_of_le (Heap.lt_size e) I.ok.above)
  have neC : ∀ b o, X.s₀.heap.get? b = some o → b ∉ X.ex → b ∉ ch := fun b o e hx hb => by
    rcases (hch b hb).1 with z | z
    · exact hx z
    · exact absurd (Nat.lt_of_lt_of_le (Heap.lt_size e) z) (Nat.lt_irrefl _)
  have cellK : ∀ x c, X.env.cells.lookup x = some c → ∀ v, s.heap.IsCell c v → h'.IsCell c v := fun x c e v ⟨o, ho, hd⟩ => by
    have nch : c ∉ ch := fun z => (hch c z).2.2.1 x c e rfl
    by_cases hc : c ∈ X.fs
    · obtain ⟨sl, q⟩ := slot c o (I.cne x c e) hc nch ho (I.freeC x c e)
      exact ⟨_, q, hd⟩
    · exact ⟨o, keep c o (I.cne x c e) hc nch ho (I.freeC x c e), hd⟩
  refine ⟨I.ok, I.os, hg, ⟨fun b o e n hb hx => ?_, fun b o e n hb hx => ?_, fun b o e n hx => ?_, fun b o e hx => ?_, fun b xs e => tups b xs (I.base.tups b xs e), fun b o xs e => frzs b o xs (I.base.frzs b o xs e), fun b ps e => ?_⟩, ?_, fun x c e => ?_, ?_, fun x c e => ?_, fun p hp => ?_, hok, I.len⟩
  · exact keep b o (neL b o e) hb (neC b o e hx) (I.base.keep b o e n hb hx) (I.base.free b o e n hx)
  · obtain ⟨sl, e1⟩ := I.base.slot b o e n hb hx
    obtain ⟨sl', e2⟩ := slot b _ (neL b o e) hb (neC b o e hx) e1 (I.base.free b o e n hx)
    exact ⟨sl', e2⟩
  · obtain ⟨o', e1⟩ := I.base.there b o e hx
    exact free b o' (neC b o e hx) e1 (I.base.free b o e n hx)
  · obtain ⟨o', e1⟩ := I.base.there b o e hx
    exact there b o' (neC b o e hx) e1
  · obtain ⟨m1, e1⟩ := I.base.tbls b ps e
    obtain ⟨m2, e2⟩ := tbls b _ e1
    exact ⟨m1 ++ m2, by rw [e2, Array.append_assoc]⟩
  · obtain ⟨m, hn, hl⟩ := I.loc
    refine ⟨m, ns m hn, fun i x v e1 e2 e3 => ?_⟩
    obtain ⟨u, r, l⟩ := hl i x v e1 e2 e3
    refine ⟨u, r, ?_⟩
    rcases l with l | ⟨k, c, e, z⟩
    · exact .inl l
    · exact .inr ⟨k, c, e, cellK x c e _ z⟩
  · obtain ⟨v, z⟩ := I.cell x c e
    exact ⟨v, cellK x c e v z⟩
  · obtain ⟨m, ⟨o, _, _, ho, _⟩, _⟩ := I.loc
    exact free _ o (fun z => (hch _ z).2.1 rfl) ho I.free
  · obtain ⟨v, o, ho, hd⟩ := I.cell x c e
    exact free c o (fun z => (hch c z).2.2.1 x c e rfl) ho (I.freeC x c e)
  · obtain ⟨e, n, ne, nf, d⟩ := I.pin p hp
    have nch : p.1 ∉ ch := fun z => (hch p.1 z).2.2.2 p hp rfl
    exact ⟨keep p.1 p.2 ne nf nch e n, free p.1 p.2 nch e n, ne, nf, d⟩
/-- .. where the frame's own object is kept too -/
theorem Inv.un {t' : Nat} (I : Inv X pins σ H s) (u : Un X.fs [] H H' s.heap h') (hok : HOk X.prog X.w H' h') : Inv X pins σ H' { s with heap := h', toks := t' } := by
  obtain ⟨m, ⟨o, es, ep, ho, r⟩, _⟩ := id I.loc
  obtain ⟨sl, hL⟩ := u.any ho I.free (by simp)
  exact I.step (g' := s.gens) (d' := s.drawn) (ch := []) (fun _ z => nomatch z) (fun b o _ hb _ e n => u.keep b o e n hb (by simp)) (fun b o _ hb _ e n => u.slot b o e n hb (by simp)) (fun b o _ e n => u.free b o e n (by simp)) (fun b o _ e => u.there b o e (by simp)) u.tups u.frzs u.tbls (fun m' hm => by
    obtain ⟨o', es', ep', ho', r'⟩ := hm
    rw [ho] at ho'; cases ho'
    exact ⟨_, es', ep', hL, r'⟩) hok I.bare
/-- behind a call (or a comprehension's block): the slots of this frame may have changed too, the records at ch may have turned -/
theorem Inv.call {g' : Array GenState} {t' : Nat} {d' : Drawn} {ch : List Addr} (I : Inv X pins σ H s) (u : Un (frs X.stack) ch H H' s.heap h') (hok : HOk X.prog X.w H' h') (hg : AllBare g')
    (hch : ∀ b ∈ ch, (b ∈ X.ex ∨ X.s₀.heap.objs.size ≤ b) ∧ b ≠ X.env.locals ∧ (∀ x c, X.env.cells.lookup x = some c → c ≠ b) ∧ ∀ p ∈ X.pn ++ pins, p.1 ≠ b) :
    Inv X pins σ H' { s with heap := h', gens := g', drawn := d', toks := t' } := by
  obtain ⟨m, ⟨o, es, ep, ho, r⟩, _⟩ := id I.loc
  obtain ⟨sl, hL⟩ := u.any ho I.free fun z => (hch _ z).2.1 rfl
  exact I.step (ch := ch) hch (fun b o hL hb hc e n => u.keep b o e n (fun z => (List.mem_cons.mp (I.stkSub b z)).elim hL hb) hc) (fun b o _ _ hc e n => u.any e n hc) (fun b o hc e n => u.free b o e n hc) (fun b o hc e => u.there b o e hc) u.tups u.frzs u.tbls (fun m' hm => by
    obtain ⟨o', es', ep', ho', r'⟩ := hm
    rw [ho] at ho'; cases ho'
    exact ⟨_, es', ep', hL, r'⟩) hok hg
/-- an untracked record of ours (an iterator) has turned -/
theorem Inv.turned {t' : Nat} {it : Addr} (I : Inv X pins σ H s) (k : ∀ b o, b ≠ it → s.heap.get? b = some o → h'.get? b = some o) (hn : H it = none) (hL : it ≠ X.env.locals)
    (h1 : it ∈ X.ex ∨ X.s₀.heap.objs.size ≤ it) (h2 : ∀ x c, X.env.cells.lookup x = some c → c ≠ it) (h3 : ∀ p ∈ X.pn ++ pins, p.1 ≠ it) : Inv X pins σ H { s with heap := h', toks := t' } := by
  have nit : ∀ b u, H b = some u → b ≠ it := fun b u e z => by rw [z, hn] at e; cases e
  refine I.step (g' := s.gens) (d' := s.drawn) (ch := [it]) (fun b hb => ?_) (fun b o _ _ hc e _ => k b o (fun z => hc (by simp [z])) e) (fun b o _ _ hc e _ => ⟨o.slots, k b o (fun z => hc (by simp [z])) e⟩) (fun _ _ _ _ n => n)
    (fun b o hc e => ⟨o, k b o (fun z => hc (by simp [z])) e⟩) (fun _ _ e => e) (fun _ _ _ e => e) (fun b ps e => ⟨#[], by rw [e]; simp⟩) (fun m hm => ?_) (fun b u e => ?_) I.bare
  · have e : b = it := by simpa using hb
    subst e
    exact ⟨h1, hL, h2, h3⟩
  · obtain ⟨o, es, ep, ho, r⟩ := hm
    exact ⟨o, es, ep, k _ o (Ne.symm hL) ho, r⟩
  · refine (I.hok b u e).stay (fun c v hc q => k c v ?_ q) (fun _ q => q) fun _ _ q => q
    rcases hc with z | z
    · rw [z]; exact nit b u e
    · exact nit c _ z
theorem Inv.tok (I : Inv X pins σ H s) (t : Nat) : Inv X pins σ H { s with toks := t } := I.un (h' := s.heap) (t' := t) Un.refl I.hok
/-- all objects kept -/
theorem Inv.kept {t' : Nat} (I : Inv X pins σ H s) (k : ∀ b u, s.heap.get? b = some u → h'.get? b = some u) : Inv X pins σ H { s with heap := h', toks := t' } := I.un (Un.kept k) (I.hok.kept k)
/-- a new object laid and tracked -/
theorem Inv.laid {a : Addr} {o : HO} {t' : Nat} (I : Inv X pins σ H s) (k : ∀ b u, s.heap.get? b = some u → h'.get? b = some u) (hp : s.heap.objs.size ≤ a) (new : ObjOk X.prog X.w (upd H a o) h' a o) :
    Inv X pins σ (upd H a o) { s with heap := h', toks := t' } := I.un (Un.laid k hp (I.hok.fresh hp)) (I.hok.laid k hp new)
/-- an object written -/
theorem Inv.write {x e : Addr} {o : HO} {t' : Nat} (I : Inv X pins σ H s) (mu : Mut (H x)) (he : e = x ∨ H e = some (.own x)) (k : ∀ b u, b ≠ e → s.heap.get? b = some u → h'.get? b = some u) (heo : ∃ u, h'.get? e = some u)
    (new : ObjOk X.prog X.w (upd H x o) h' x o) : Inv X pins σ (upd H x o) { s with heap := h', toks := t' } := I.un (Un.write mu he k heo) (I.hok.write mu he k heo new)
theorem Inv.pins_of {pins' : List (Addr × Obj)} (I : Inv X pins σ H s) (h : ∀ p ∈ pins', s.heap.get? p.1 = some p.2 ∧ H p.1 = none ∧ p.1 ≠ X.env.locals ∧ p.1 ∉ X.fs ∧ ∀ v, p.2.data ≠ .cell v) : Inv X pins' σ H s :=
  ⟨I.ok, I.os, I.bare, I.base, I.loc, I.cell, I.free, I.freeC, fun p hp => (List.mem_append.mp hp).elim (fun z => I.pin p (List.mem_append_left _ z)) (h p), I.hok, I.len⟩

theorem nodup_ix {N : List Str} (hN : N.Nodup) {i j : Nat} {x : Str} (a : N[i]? = some x) (b : N[j]? = some x) : i = j := by
  obtain ⟨h1, e1⟩ := List.getElem?_eq_some_iff.mp a
  obtain ⟨h2, e2⟩ := List.getElem?_eq_some_iff.mp b
  exact (List.getElem_inj hN).mp (e1.trans e2.symm)

/-- a name is stored; what changed -/
theorem store_ok2 {M : Model} {A : Around} {E : Value → Shared → Prop} {i : Nat} {x : Str} {v : V} {u : Value} {Q : Unit → Shared → Prop} (I : Inv X pins σ H s) (hN : X.N.Nodup) (hi : X.N[i]? = some x) (hx : Loc X.env.scope x) (r : RelV v u)
    (h : ∀ s', Inv X pins (σ.set i (some v)) H s' → (∃ a, Heap.SameBut a s.heap s'.heap ∧ (a = X.env.locals ∨ X.env.cells.lookup x = some a)) → Q () s') (hf : X.fn x = true ∨ X.env.scope.names.lookup x = some .local := by first | exact .inl rfl | exact .inr rfl | assumption) : wpAny M A (storeName X.env x u) Q E s := by
  obtain ⟨m, hn, hl⟩ := id I.loc
  have hcls : (X.env.scope.kind == .class || (X.env.scope.kind == .module && X.env.locals != X.env.globals)) = false := by rw [I.ok.kind]; rfl
  have hiσ : i < σ.length := by rw [I.len]; exact (List.getElem?_eq_some_iff.mp hi).1
  have cne := I.cne
  have tracked : ∀ {a : Addr} {h' : Heap}, (∃ o, s.heap.get? a = some o ∧ H a = none) → Heap.SameBut a s.heap h' → HOk X.prog X.w H h' := fun {a h'} ha hs b ob e => by
    obtain ⟨_, _, hfree⟩ := ha
    refine (I.hok b ob e).stay (fun c w' hc q => (hs.2 c ?_).trans q) (fun _ q => q) fun _ _ q => q
    rintro rfl
    rcases hc with rfl | hc
    · rw [hfree] at e; cases e
    · rw [hfree] at hc; cases hc
  rcases hx with hk | hk
  · refine wpAny_storeName_local hk hn (fun h' hn' hs => ?_) hcls
    obtain ⟨oL, _, _, hoL, _⟩ := id hn
    refine h _ ⟨I.ok, I.os, I.bare, ⟨fun b o e n hb hx => ?_, fun b o e n hb hx => ?_, I.base.free, fun b o e hx => ?_, I.base.tups, I.base.frzs, I.base.tbls⟩, ⟨_, hn', fun j y v' e1 e2 e3 => ?_⟩, fun y c e => ?_, I.free, I.freeC, fun p hp => ?_, tracked ⟨oL, hoL, I.free⟩ hs, by simpa using I.len⟩ ⟨_, hs, .inl rfl⟩
    · exact (hs.2 b (Nat.ne_of_lt (Nat.lt_of_lt_of_le (Heap.lt_size e) I.ok.above))).trans (I.base.keep b o e n hb hx)
    · obtain ⟨sl, e1⟩ := I.base.slot b o e n hb hx
      exact ⟨sl, (hs.2 b (Nat.ne_of_lt (Nat.lt_of_lt_of_le (Heap.lt_size e) I.ok.above))).trans e1⟩
    · obtain ⟨o', e1⟩ := I.base.there b o e hx
      exact ⟨o', (hs.2 b (Nat.ne_of_lt (Nat.lt_of_lt_of_le (Heap.lt_size e) I.ok.above))).trans e1⟩
    · by_cases hj : j = i
      · subst hj
        rw [hi] at e1; cases e1
        rw [List.getElem?_set_self hiσ] at e2
        cases e2
        exact ⟨u, r, .inl ⟨hk, by simp⟩⟩
      · rw [List.getElem?_set_ne (Ne.symm hj)] at e2
        obtain ⟨u', r', q⟩ := hl j y v' e1 e2 e3
        refine ⟨u', r', ?_⟩
        rcases q with ⟨k, e⟩ | ⟨k, c, e, z⟩
        · refine .inl ⟨k, ?_⟩
          have : y ≠ x := fun e => hj (nodup_ix hN e1 (e ▸ hi))
          simp [this, e]
        · exact .inr ⟨k, c, e, z.sameBut hs (cne y c e)⟩
    · obtain ⟨w', z⟩ := I.cell y c e
      exact ⟨w', z.sameBut hs (cne y c e)⟩
    · obtain ⟨e, n, ne, nf, d⟩ := I.pin p hp
      exact ⟨(hs.2 p.1 ne).trans e, n, ne, nf, d⟩
  · have hfn : X.fn x = true := by
      rcases hf with z | z
      · exact z
      · rw [z] at hk; cases hk
    obtain ⟨c, hc⟩ := I.ok.has x (.inl hk)
    obtain ⟨w', z⟩ := I.cell x c hc
    refine wpAny_storeName_cell I.ok.kind hk hc z (fun h' hc' hs => ?_)
    obtain ⟨oc, hoc, hocd⟩ := id z
    refine h { s with heap := h' } ⟨I.ok, I.os, I.bare, ⟨fun b o e n hb hx => ?_, fun b o e n hb hx => ?_, I.base.free, fun b o e hx => ?_, I.base.tups, I.base.frzs, I.base.tbls⟩, ⟨m, hn.sameBut hs (Ne.symm (cne x c hc)), fun j y v' e1 e2 e3 => ?_⟩, fun y c' e => ?_, I.free, I.freeC, fun p hp => ?_, tracked ⟨oc, hoc, I.freeC x c hc⟩ hs, by simpa using I.len⟩ ⟨c, hs, .inr hc⟩
    · exact (hs.2 b (Nat.ne_of_lt (Nat.lt_of_lt_of_le (Heap.lt_size e) (I.ok.cab x c hfn hc)))).trans (I.base.keep b o e n hb hx)
    · obtain ⟨sl, e1⟩ := I.base.slot b o e n hb hx
      exact ⟨sl, (hs.2 b (Nat.ne_of_lt (Nat.lt_of_lt_of_le (Heap.lt_size e) (I.ok.cab x c hfn hc)))).trans e1⟩
    · obtain ⟨o', e1⟩ := I.base.there b o e hx
      exact ⟨o', (hs.2 b (Nat.ne_of_lt (Nat.lt_of_lt_of_le (Heap.lt_size e) (I.ok.cab x c hfn hc)))).trans e1⟩
    · by_cases hj : j = i
      · subst hj
        rw [hi] at e1; cases e1
        rw [List.getElem?_set_self hiσ] at e2
        cases e2
        exact ⟨u, r, .inr ⟨.inl hk, c, hc, hc'⟩⟩
      · rw [List.getElem?_set_ne (Ne.symm hj)] at e2
        obtain ⟨u', r', q⟩ := hl j y v' e1 e2 e3
        refine ⟨u', r', ?_⟩
        rcases q with q | ⟨k, c', e, z'⟩
        · exact .inl q
        · refine .inr ⟨k, c', e, z'.sameBut hs ?_⟩
          rintro rfl
          exact hj (nodup_ix hN e1 (I.ok.inj _ _ _ e hc ▸ hi))
    · by_cases hcc : c' = c
      · subst hcc; exact ⟨_, hc'⟩
      · obtain ⟨w2, z2⟩ := I.cell y c' e
        exact ⟨w2, z2.sameBut hs hcc⟩
    · obtain ⟨e, n, ne, nf, d⟩ := I.pin p hp
      refine ⟨(hs.2 p.1 ?_).trans e, n, ne, nf, d⟩
      intro q
      rw [q, hoc] at e
      have q' : oc = p.2 := Option.some.inj e
      exact d w' (by rw [← q']; exact hocd)
theorem store_ok {M : Model} {A : Around} {E : Value → Shared → Prop} {i : Nat} {x : Str} {v : V} {u : Value} {Q : Unit → Shared → Prop} (I : Inv X pins σ H s) (hN : X.N.Nodup) (hi : X.N[i]? = some x) (hx : Loc X.env.scope x) (r : RelV v u)
    (h : ∀ s', Inv X pins (σ.set i (some v)) H s' → Q () s') (hf : X.fn x = true ∨ X.env.scope.names.lookup x = some .local := by first | exact .inl rfl | exact .inr rfl | assumption) : wpAny M A (storeName X.env x u) Q E s :=
  store_ok2 I hN hi hx r (fun s' I' _ => h s' I') hf
end

/-! ### the judgements -/
/-- an exception: its class, its own dict's address (where it has one), the abstract heap behind it -/
abbrev XK := Value → Option Addr → Hp → Prop
abbrev St := List (Option V)
abbrev VK := V → Hp → Prop
/-- an expression's reading; a test's; an argument list's -/
abbrev TE := St → Hp → VK → Prop
abbrev TT := St → Hp → (Bool → Hp → Prop) → Prop
abbrev TA := St → Hp → (List V → Hp → Prop) → Prop
/-- what is wanted behind a statement -/
structure Ends where
  nx : St → Hp → Prop
  rt : VK
  bk : St → Hp → Prop := fun _ _ => False
  ct : St → Hp → Prop := fun _ _ => False
abbrev TS := Ends → St → Hp → Prop

def EP (X : Cx) (pins : List (Addr × Obj)) (σ : St) (Q : VK) (u : Value) (s' : Shared) : Prop := ∃ v H', Inv X pins σ H' s' ∧ RelV v u ∧ Q v H'
def TP (X : Cx) (pins : List (Addr × Obj)) (σ : St) (Q : Bool → Hp → Prop) (b : Bool) (s' : Shared) : Prop := ∃ H', Inv X pins σ H' s' ∧ Q b H'
def AP (X : Cx) (pins : List (Addr × Obj)) (σ : St) (Q : List V → Hp → Prop) (us : List Value) (s' : Shared) : Prop := ∃ vs H', Inv X pins σ H' s' ∧ Vals vs us ∧ Q vs H'
def SP (X : Cx) (pins : List (Addr × Obj)) (D : Ends) (f : Flow) (s' : Shared) : Prop :=
  match f with
  | .next => ∃ σ' H', Inv X pins σ' H' s' ∧ D.nx σ' H'
  | .brk => ∃ σ' H', Inv X pins σ' H' s' ∧ D.bk σ' H'
  | .cont => ∃ σ' H', Inv X pins σ' H' s' ∧ D.ct σ' H'
  | .ret u => ∃ v σ' H', Inv X pins σ' H' s' ∧ RelV v u ∧ D.rt v H'

def PE (X : Cx) (e : Expr) (t : TE) : Prop :=
  ∀ (pins : List (Addr × Obj)) (s : Shared) (σ : St) (H : Hp) (Q : VK), Inv X pins σ H s → t σ H Q → wpAny (model X.prog X.w) X.A (eval e X.env) (EP X pins σ Q) X.xe s
def PT (X : Cx) (e : Expr) (t : TT) : Prop :=
  ∀ (pins : List (Addr × Obj)) (s : Shared) (σ : St) (H : Hp) (Q : Bool → Hp → Prop), Inv X pins σ H s → t σ H Q → wpAny (model X.prog X.w) X.A (isTrue e X.env (eval e X.env)) (TP X pins σ Q) X.xe s
/-- a test whatever its 'whole' is (and, or) -/
def PW (X : Cx) (e : Expr) (t : TT) : Prop :=
  ∀ (whole : Sem Value) (pins : List (Addr × Obj)) (s : Shared) (σ : St) (H : Hp) (Q : Bool → Hp → Prop), Inv X pins σ H s → t σ H Q → wpAny (model X.prog X.w) X.A (isTrue e X.env whole) (TP X pins σ Q) X.xe s
theorem PW.pt {X : Cx} {e : Expr} {t : TT} (h : PW X e t) : PT X e t := h _
/-- an argument list (no star), from the left -/
def PA (X : Cx) (es : List Expr) (t : TA) : Prop :=
  ∀ (pos : Pos) (pins : List (Addr × Obj)) (s : Shared) (σ : St) (H : Hp) (Q : List V → Hp → Prop), Inv X pins σ H s → t σ H Q → wpAny (model X.prog X.w) X.A (spliced (backTo pos (starEach es X.env))) (AP X pins σ Q) X.xe s
def PS (X : Cx) (st : Stmt) (t : TS) : Prop :=
  ∀ (pins : List (Addr × Obj)) (s : Shared) (σ : St) (H : Hp) (D : Ends), Inv X pins σ H s → t D σ H → wpAny (model X.prog X.w) X.A (exec st X.env) (SP X pins D) X.xe s
def PSs (X : Cx) (st : List Stmt) (t : TS) : Prop :=
  ∀ (pins : List (Addr × Obj)) (s : Shared) (σ : St) (H : Hp) (D : Ends), Inv X pins σ H s → t D σ H → wpAny (model X.prog X.w) X.A (execs st X.env) (SP X pins D) X.xe s
/-- weaken the end -/
theorem thn {α : Type} {t : Sem α} {Q Q' : α → Shared → Prop} {M : Model} {A : Around} {E : Value → Shared → Prop} {s : Shared} (h : wpAny M A t Q E s) (hQ : ∀ a s, Q a s → Q' a s) : wpAny M A t Q' E s := wpAny_mono h hQ fun _ _ x => x
end L2

namespace L2
open PySem PySem.Spec PyProof.Rows
section
variable {X : Cx}

/-! ### names and constants -/
def tVar (i : Nat) : TE := fun σ H Q => ∃ v, σ[i]? = some (some v) ∧ Q v H
def tC (v : V) : TE := fun _ H Q => Q v H
theorem pe_var {i : Nat} {x : Str} {pos : Pos} (hN : X.N[i]? = some x) (hv : Vis X.env.scope x) (hd : (x == ("__debug__" : Str)) = false := by decide) (hcd : (x == ("__classdict__" : Str)) = false := by decide) : PE X (.Name x pos) (tVar i) := by
  intro pins s σ H Q I h
  obtain ⟨v, e, h⟩ := h
  obtain ⟨m, hn, hl⟩ := I.loc
  obtain ⟨u, r, l⟩ := hl i x v hN e hv
  have fin : EP X pins σ Q u s := ⟨v, H, I, r, h⟩
  rcases l with ⟨hk, hm⟩ | ⟨hk, c, hc, hcell⟩
  · exact wpAny_Name (wpAny_loadName_local I.ok.kind hk hn hm fin) hd
  · rcases hk with hk | hk
    · exact wpAny_Name (wpAny_loadName_cell I.ok.kind hk hc hcell fin) hd
    · exact wpAny_Name (wpAny_loadName_free I.ok.kind hk hc hcell fin hcd) hd
theorem pe_int {i j pos} : PE X (.Constant (.int i) j pos) (tC (.int i)) := fun _ _ _ H _ I h => wpAny_Constant_int ⟨.int i, H, I.tok _, ⟨_, rfl⟩, h⟩
theorem pe_bl {b j pos} : PE X (.Constant (.bool b) j pos) (tC (.bl b)) := fun _ _ _ H _ I h => Constant_bool ⟨.bl b, H, I, rfl, h⟩
theorem pe_non {j pos} : PE X (.Constant .none j pos) (tC .non) := fun _ _ _ H _ I h => Constant_none ⟨.non, H, I, rfl, h⟩
theorem pe_str {x j pos} : PE X (.Constant (.str x) j pos) (tC (.str x)) := fun _ _ _ H _ I h => Calls.Constant_str ⟨.str x, H, I.tok _, ⟨_, rfl⟩, h⟩

/-- a global name of the def -/
def Gl (X : Cx) (x : Str) : Prop := X.env.kindOf x = some .globalImplicit
theorem ld_glob {E : Value → Shared → Prop} {pins : List (Addr × Obj)} {s : Shared} {σ : St} {H : Hp} {x : Str} {u : Value} {pos : Pos} {Q : Value → Shared → Prop} (I : Inv X pins σ H s) (hg : Gl X x) (hm : X.mg x = some u) (h : Q u s)
    (hd : (x == ("__debug__" : Str)) = false := by decide) : wpAny (model X.prog X.w) X.A (eval (.Name x pos) X.env) Q E s :=
  Calls.Name_function_global I.ok.kind hg (Calls.loadGlobal_global (by rw [I.ok.glob]; exact I.mod.glob.keeps I.bk) hm h) hd
theorem ld_blt {E : Value → Shared → Prop} {pins : List (Addr × Obj)} {s : Shared} {σ : St} {H : Hp} {x : Str} {u : Value} {pos : Pos} {Q : Value → Shared → Prop} (I : Inv X pins σ H s) (hg : Gl X x) (hm : X.mg x = none) (hv : bootBuiltins x = some u) (h : Q u s)
    (hn : x ≠ "__name__" := by decide) (hd : (x == ("__debug__" : Str)) = false := by decide) : wpAny (model X.prog X.w) X.A (eval (.Name x pos) X.env) Q E s := by
  obtain ⟨mb, h1, h2⟩ := I.mod.blt
  exact Calls.Name_function_global I.ok.kind hg (Calls.loadGlobal_builtin (by rw [I.ok.glob]; exact I.mod.glob.keeps I.bk) hm (by rw [I.ok.blt]; exact h1.keeps I.bk) ((h2 x hn).trans hv) h) hd
/-- a module's constant, a class, a function, as a value -/
theorem pe_glob {x : Str} {v : V} {u : Value} {pos : Pos} (hg : Gl X x) (hm : X.mg x = some u) (r : RelV v u) (hd : (x == ("__debug__" : Str)) = false := by decide) : PE X (.Name x pos) (tC v) :=
  fun _ _ _ H _ I h => ld_glob I hg hm ⟨v, H, I, r, h⟩ hd
theorem pe_bltn {x : Str} {v : V} {u : Value} {pos : Pos} (hg : Gl X x) (hm : X.mg x = none) (hv : bootBuiltins x = some u) (r : RelV v u) (hn : x ≠ "__name__" := by decide) (hd : (x == ("__debug__" : Str)) = false := by decide) : PE X (.Name x pos) (tC v) :=
  fun _ _ _ H _ I h => ld_blt I hg hm hv ⟨v, H, I, r, h⟩ hn hd

/-! ### arithmetic -/
/-- two ints -/
def t2I (ta tb : TE) (k : Int → Int → Hp → Prop) : St → Hp → Prop := fun σ H => ta σ H fun x H1 => tb σ H1 fun y H2 => ∃ i j, x = .int i ∧ y = .int j ∧ k i j H2
def tAdd (ta tb : TE) : TE := fun σ H Q => t2I ta tb (fun i j H2 => Q (.int (i + j)) H2) σ H
def tSub (ta tb : TE) : TE := fun σ H Q => t2I ta tb (fun i j H2 => Q (.int (i - j)) H2) σ H
/-- the left factor below 2^64 -/
def tMul (ta tb : TE) : TE := fun σ H Q => t2I ta tb (fun i j H2 => (-(2 ^ 64) < i ∧ i < 2 ^ 64) ∧ Q (.int (i * j)) H2) σ H
variable {a b : Expr} {ta tb : TE} {pos : Pos}
/-! ### comparisons -/
def PC (X : Cx) (op : CmpOp) (a b : Expr) (t : TE) : Prop :=
  ∀ (pins : List (Addr × Obj)) (s : Shared) (σ : St) (H : Hp) (Q : VK), Inv X pins σ H s → t σ H Q →
    wpAny (model X.prog X.w) X.A (eval a X.env) (fun v s₁ => wpAny (model X.prog X.w) X.A (eval b X.env) (fun u s₂ => wpAny (model X.prog X.w) X.A (compareOp op v u) (EP X pins σ Q) X.xe s₂) X.xe s₁) X.xe s
def tCmp (p : Int → Int → Bool) (ta tb : TE) : TE := fun σ H Q => t2I ta tb (fun i j H2 => Q (.bl (p i j)) H2) σ H
abbrev tLt : TE → TE → TE := tCmp fun i j => decide (i < j)
abbrev tLe : TE → TE → TE := tCmp fun i j => decide (i ≤ j)
abbrev tGt : TE → TE → TE := tCmp fun i j => decide (j < i)
abbrev tGe : TE → TE → TE := tCmp fun i j => decide (j ≤ i)
abbrev tEqI : TE → TE → TE := tCmp fun i j => decide (i = j)
abbrev tNeI : TE → TE → TE := tCmp fun i j => !decide (i = j)
/-- is None -/
def tIsN (ta : TE) : TE := fun σ H Q => ta σ H fun x H1 => Q (.bl (decide (x = .non))) H1
def tNotN (ta : TE) : TE := fun σ H Q => ta σ H fun x H1 => Q (.bl (!decide (x = .non))) H1
/-- a comparison as a value, as a test -/
def tB (t : TE) : TT := fun σ H Q => t σ H fun x H1 => ∃ c, x = .bl c ∧ Q c H1
theorem pt_cmp {op : CmpOp} {t : TE} (h : PC X op a b t) (h1 : behindInMarks op b = false := by first | exact nobehind _ (by decide) (by decide) | rfl) : PT X (.Compare a [op] [b] pos) (tB t) := by
  intro pins s σ H Q I hw
  refine wpAny_isTrue_Compare1 (thn (h pins s σ H _ I hw) fun v s1 h1 => thn h1 fun u s2 h2 => thn h2 fun c s3 ⟨x, H1, I1, r1, q1⟩ => ?_) h1
  obtain ⟨d, rfl, q⟩ := q1
  cases r1
  exact wpAny_truthy_bool ⟨H1, I1, q⟩
/-- an expression whose value is a bool, as a test -/
theorem pt_val {e : Expr} {t : TE} (h : PE X e t) (he : ∀ whole, isTrue e X.env whole = (do let v ← whole; standAt e.pos; holding [v] (truthy v)) := by intro _; rfl) : PT X e (tB t) := by
  intro pins s σ H Q I hw
  refine isTrue_plain (thn (h pins s σ H _ I hw) fun v s1 ⟨x, H1, I1, r1, q1⟩ => ?_) (he _)
  obtain ⟨d, rfl, q⟩ := q1
  cases r1
  exact wpAny_truthy_bool ⟨H1, I1, q⟩

/-! ### and, or, not -/
variable {tA tB' : TT} {rest : List Expr}
def tAnd (t u : TT) : TT := fun σ H Q => t σ H fun c H1 => if c = true then u σ H1 Q else Q false H1
def tOr (t u : TT) : TT := fun σ H Q => t σ H fun c H1 => if c = true then Q true H1 else u σ H1 Q
def tNot (t : TT) : TT := fun σ H Q => t σ H fun c H1 => Q (!c) H1
theorem pw_and1 (ha : PT X a tA) : PW X (.BoolOp .And [a] pos) tA := by
  intro wh pins s σ H Q I h
  refine isTrue_and (thn (ha pins s σ H Q I h) fun c s1 e => ?_)
  cases c with
  | true => exact isTrue_and_nil e
  | false => exact e
theorem pw_or1 (ha : PT X a tA) : PW X (.BoolOp .Or [a] pos) tA := by
  intro wh pins s σ H Q I h
  refine isTrue_or (thn (ha pins s σ H Q I h) fun c s1 e => ?_)
  cases c with
  | false => exact isTrue_or_nil e
  | true => exact e
theorem pw_and (ha : PT X a tA) (hb : PW X (.BoolOp .And (b :: rest) pos) tB') : PW X (.BoolOp .And (a :: b :: rest) pos) (tAnd tA tB') := by
  intro wh pins s σ H Q I h
  refine isTrue_and (thn (ha pins s σ H _ I h) fun c s1 ⟨H1, I1, q1⟩ => ?_)
  cases c with
  | true => exact hb wh pins s1 σ H1 Q I1 q1
  | false => exact ⟨H1, I1, q1⟩
theorem pw_or (ha : PT X a tA) (hb : PW X (.BoolOp .Or (b :: rest) pos) tB') : PW X (.BoolOp .Or (a :: b :: rest) pos) (tOr tA tB') := by
  intro wh pins s σ H Q I h
  refine isTrue_or (thn (ha pins s σ H _ I h) fun c s1 ⟨H1, I1, q1⟩ => ?_)
  cases c with
  | true => exact ⟨H1, I1, q1⟩
  | false => exact hb wh pins s1 σ H1 Q I1 q1
theorem pt_not (ha : PT X a tA) : PT X (.UnaryOp .Not a pos) (tNot tA) := by
  intro pins s σ H Q I h
  exact isTrue_not (ha pins s σ H (fun c H1 => Q (!c) H1) I h)
/-- .. as values (bools) -/
def tAndV (ta tb : TE) : TE := fun σ H Q => ta σ H fun x H1 => ∃ c, x = .bl c ∧ if c = true then tb σ H1 Q else Q (.bl false) H1
def tOrV (ta tb : TE) : TE := fun σ H Q => ta σ H fun x H1 => ∃ c, x = .bl c ∧ if c = true then Q (.bl true) H1 else tb σ H1 Q
def tNotV (ta : TE) : TE := fun σ H Q => ta σ H fun x H1 => ∃ c, x = .bl c ∧ Q (.bl (!c)) H1
theorem pe_one {op} {t : TE} (h : PE X a t) : PE X (.BoolOp op [a] pos) t := fun pins s σ H Q I hw => BoolOp_one (h pins s σ H Q I hw)
theorem pe_and (ha : PE X a ta) (hb : PE X (.BoolOp .And (b :: rest) pos) tb) : PE X (.BoolOp .And (a :: b :: rest) pos) (tAndV ta tb) := by
  intro pins s σ H Q I h
  refine BoolOp_and (thn (ha pins s σ H _ I h) fun v s1 ⟨x, H1, I1, r1, q1⟩ => ?_)
  obtain ⟨c, rfl, q1⟩ := q1
  cases r1
  refine wpAny_truthy_bool ?_
  cases c with
  | true => exact hb pins s1 σ H1 Q I1 q1
  | false => exact ⟨.bl false, H1, I1, rfl, q1⟩
theorem pe_not (ha : PE X a ta) : PE X (.UnaryOp .Not a pos) (tNotV ta) := by
  intro pins s σ H Q I h
  refine UnaryOp_ (thn (ha pins s σ H _ I h) fun v s1 ⟨x, H1, I1, r1, q1⟩ => ?_)
  obtain ⟨c, rfl, q1⟩ := q1
  cases r1
  exact not_of (wpAny_truthy_bool ⟨.bl (!c), H1, I1, rfl, q1⟩)
/-- a if t else b -/
def tIf (t : TT) (ta tb : TE) : TE := fun σ H Q => t σ H fun c H1 => if c = true then ta σ H1 Q else tb σ H1 Q
end
end L2

namespace L2
open PySem PySem.Spec PyProof.Rows

/-! ### a list, a tuple that is read: tracked, frozen, or an object of the module -/
def SqL (K : PySem.W.Frag) (H : Hp) (a : Addr) (xs : List V) : Prop :=
  Rd H a (.lst xs) ∨
    ∃ (o : Obj) (its : Array Value) (n : Nat), K.lookup a = some o ∧ o.cls = .type "list" ∧ o.dict = none ∧ o.data = .seq its n ∧ its.size ≤ sizeLine ∧ Vals xs its.toList
def SqT (K : PySem.W.Frag) (H : Hp) (a : Addr) (xs : List V) : Prop :=
  Rd H a (.tup xs) ∨
    ∃ (o : Obj) (its : Array Value) (n : Nat), K.lookup a = some o ∧ o.cls = .type "tuple" ∧ o.data = .seq its n ∧ its.size ≤ sizeLine ∧ Vals xs its.toList
def absV : Value → Option V
  | .none => some .non
  | .bool b => some (.bl b)
  | .int i _ => some (.int i)
  | .str x _ => some (.str x)
  | .bytes b _ => some (.byt b)
  | .float b _ => some (.flt b)
  | .ref a => some (.ref a)
  | .type n => some (.ty n)
  | _ => none
theorem RelV.abs {x : V} {u : Value} (r : RelV x u) : absV u = some x := by
  cases x with
  | non => cases r; rfl
  | bl _ => cases r; rfl
  | int _ => obtain ⟨t, rfl⟩ := r; rfl
  | str _ => obtain ⟨t, rfl⟩ := r; rfl
  | byt _ => obtain ⟨t, rfl⟩ := r; rfl
  | flt _ => obtain ⟨t, rfl⟩ := r; rfl
  | ref _ => cases r; rfl
  | ty _ => cases r; rfl
theorem RelV.inj {x y : V} {u : Value} (r : RelV x u) (q : RelV y u) : x = y := Option.some.inj (r.abs.symm.trans q.abs)
theorem Vals.inj : ∀ {xs ys : List V} {us : List Value}, Vals xs us → Vals ys us → xs = ys
  | _, _, _, .nil, .nil => rfl
  | _, _, _, .cons r t, .cons r' t' => by rw [r.inj r', Vals.inj t t']
section
variable {X : Cx} {pins : List (Addr × Obj)} {σ : St} {H : Hp} {s : Shared} {a : Addr} {xs ys : List V}
theorem SqL.of {K : PySem.W.Frag} (h : H a = some (.lst xs)) : SqL K H a xs := .inl (.inl h)
theorem SqT.of {K : PySem.W.Frag} (h : H a = some (.tup xs)) : SqT K H a xs := .inl (.inl h)
theorem Inv.list (I : Inv X pins σ H s) (h : SqL X.K H a xs) : ∃ its : List Value, Vals xs its ∧ PlainL s.heap a its.toArray ∧ xs.length ≤ sizeLine := by
  rcases h with h | ⟨o, its, n, hk, hc, hd, hs, hz, r⟩
  · obtain ⟨z, its, n, r, e⟩ := h.ok I.hok
    exact ⟨its, r, ⟨_, n, e, rfl, rfl, rfl⟩, z⟩
  · refine ⟨its.toList, r, ⟨o, n, I.kIn a o hk, hc, hd, by simpa using hs⟩, ?_⟩
    have e := r.length
    simp only [Array.length_toList] at e
    omega
theorem Inv.tuple (I : Inv X pins σ H s) (h : SqT X.K H a xs) : ∃ its : List Value, Vals xs its ∧ IsTup s.heap a its.toArray ∧ xs.length ≤ sizeLine := by
  rcases h with h | ⟨o, its, n, hk, hc, hs, hz, r⟩
  · obtain ⟨z, its, r, p⟩ := h.ok I.hok
    exact ⟨its, r, p, z⟩
  · refine ⟨its.toList, r, ⟨o, I.kIn a o hk, hc, n, by simpa using hs⟩, ?_⟩
    have e := r.length
    simp only [Array.length_toList] at e
    omega
theorem Inv.list_inj (I : Inv X pins σ H s) (h : SqL X.K H a xs) (h' : SqL X.K H a ys) : xs = ys := by
  obtain ⟨its, r, ⟨o, n, e, _, _, d⟩, _⟩ := I.list h
  obtain ⟨its', r', ⟨o', n', e', _, _, d'⟩, _⟩ := I.list h'
  rw [e] at e'; cases e'
  rw [d] at d'
  injection d' with d1 _
  have : its = its' := by simpa using congrArg Array.toList d1
  subst this
  exact r.inj r'
theorem Inv.tuple_inj (I : Inv X pins σ H s) (h : SqT X.K H a xs) (h' : SqT X.K H a ys) : xs = ys := by
  obtain ⟨its, r, ⟨o, e, _, n, d⟩, _⟩ := I.tuple h
  obtain ⟨its', r', ⟨o', e', _, n', d'⟩, _⟩ := I.tuple h'
  rw [e] at e'; cases e'
  rw [d] at d'
  injection d' with d1 _
  have : its = its' := by simpa using congrArg Array.toList d1
  subst this
  exact r.inj r'
end

/-! ### another wish about exceptions -/
abbrev Cx.wish (X : Cx) (E : Value → Shared → Prop) : Cx := { X with xe := E }
/-- no exception leaves -/
abbrev Cx.nox (X : Cx) : Cx := X.wish fun _ _ => False
theorem Cx.Ok.wish {X : Cx} (ok : X.Ok) (E : Value → Shared → Prop) : (X.wish E).Ok :=
  ⟨ok.mod, ok.kind, ok.glob, ok.blt, ok.above, ok.inj, ok.has, ok.cab, ok.hd, ok.frames, ok.stk, ok.exf, ok.bs, ok.bsz, ok.noex, ok.exfs, ok.funs, ok.frf⟩
theorem Cx.Ok.unwish {X : Cx} {E : Value → Shared → Prop} (ok : (X.wish E).Ok) : X.Ok :=
  ⟨ok.mod, ok.kind, ok.glob, ok.blt, ok.above, ok.inj, ok.has, ok.cab, ok.hd, ok.frames, ok.stk, ok.exf, ok.bs, ok.bsz, ok.noex, ok.exfs, ok.funs, ok.frf⟩
section
variable {X : Cx} {pins : List (Addr × Obj)} {σ : St} {H : Hp} {s : Shared} {E : Value → Shared → Prop}
theorem Inv.wish (I : Inv X pins σ H s) (E : Value → Shared → Prop) : Inv (X.wish E) pins σ H s := ⟨I.ok.wish E, I.os, I.bare, I.base, I.loc, I.cell, I.free, I.freeC, I.pin, I.hok, I.len⟩
theorem Inv.unwish (I : Inv (X.wish E) pins σ H s) : Inv X pins σ H s := ⟨I.ok.unwish, I.os, I.bare, I.base, I.loc, I.cell, I.free, I.freeC, I.pin, I.hok, I.len⟩
theorem SP.unwish {D : Ends} {f : Flow} {s' : Shared} (h : SP (X.wish E) pins D f s') : SP X pins D f s' := by
  cases f with
  | next => obtain ⟨σ', H', I, q⟩ := h; exact ⟨σ', H', I.unwish, q⟩
  | brk => obtain ⟨σ', H', I, q⟩ := h; exact ⟨σ', H', I.unwish, q⟩
  | cont => obtain ⟨σ', H', I, q⟩ := h; exact ⟨σ', H', I.unwish, q⟩
  | ret u => obtain ⟨v, σ', H', I, r, q⟩ := h; exact ⟨v, σ', H', I.unwish, r, q⟩
theorem PSs.nox {st : List Stmt} {t : TS} (h : PSs X.nox st t) : PSs X st t := fun pins s σ H D I hw =>
  wpAny_mono (h pins s σ H D (I.wish _) hw) (fun _ _ q => q.unwish) fun _ _ z => False.elim z
end

/-! ### blocks and small statements -/
section
variable {X : Cx} {st : Stmt} {rest : List Stmt} {t u : TS} {e : Expr} {te : TE} {pos : Pos}
def tNext : TS := fun D σ H => D.nx σ H
def tSeq (t u : TS) : TS := fun D σ H => t { D with nx := u D } σ H
theorem pss_nil : PSs X [] tNext := fun _ _ σ H _ I h => wpAny_execs_nil ⟨σ, H, I, h⟩
theorem pss_cons (h1 : PS X st t) (h2 : PSs X rest u) : PSs X (st :: rest) (tSeq t u) := by
  intro pins s σ H D I h
  refine wpAny_execs_cons (thn (h1 pins s σ H { D with nx := u D } I h) fun f s1 q => ?_)
  cases f with
  | next =>
    obtain ⟨σ', H', I', q⟩ := q
    exact h2 pins s1 σ' H' D I' q
  | ret v => exact q
  | brk => exact q
  | cont => exact q
theorem pss_one (h1 : PS X st t) : PSs X [st] t := by
  intro pins s σ H D I h
  refine wpAny_execs_cons (thn (h1 pins s σ H D I h) fun f s1 q => ?_)
  cases f with
  | next => exact wpAny_execs_nil q
  | ret v => exact q
  | brk => exact q
  | cont => exact q
def tBreak : TS := fun D σ H => D.bk σ H
def tCont : TS := fun D σ H => D.ct σ H
/-- in a def's body nothing is shown -/
theorem Inv.quiet {pins : List (Addr × Obj)} {σ : St} {H : Hp} {s : Shared} (I : Inv X pins σ H s) : interactive X.env = false := by simp [interactive, I.ok.kind]
/-- an expression whose value is dropped -/
def tDrop (te : TE) : TS := fun D σ H => te σ H fun _ H1 => D.nx σ H1
theorem ps_expr (he : PE X e te) (hs : swapsWith e none pos.line X.env = pure false := by rfl) : PS X (.Expr e pos) (tDrop te) := by
  intro pins s σ H D I h
  exact wpAny_Expr_any (thn (he pins s σ H _ I h) fun v s1 ⟨x, H1, I1, r1, q1⟩ => ⟨σ, H1, I1, q1⟩) I.quiet hs
def tRet (te : TE) : TS := fun D σ H => te σ H D.rt
theorem ps_ret (he : PE X e te) : PS X (.Return (some e) pos) (tRet te) := by
  intro pins s σ H D I h
  exact wpAny_Return_some (thn (he pins s σ H _ I h) fun v s1 ⟨x, H1, I1, r1, q1⟩ => ⟨x, σ, H1, I1, r1, q1⟩)
def tRetN : TS := fun D _ H => D.rt .non H
def tIfS (c : TT) (t u : TS) : TS := fun D σ H => c σ H fun b H1 => if b = true then t D σ H1 else u D σ H1
theorem ps_if {c : Expr} {a b : List Stmt} {tc : TT} (hc : PT X c tc) (ha : PSs X a t) (hb : PSs X b u) : PS X (.If c a b pos) (tIfS tc t u) := by
  intro pins s σ H D I h
  refine wpAny_If (thn (hc pins s σ H _ I h) fun d s1 ⟨H1, I1, q1⟩ => ?_)
  cases d with
  | true => exact ha pins s1 σ H1 D I1 q1
  | false => exact hb pins s1 σ H1 D I1 q1
/-- code that the proof never comes to -/
def tNever : TS := fun _ _ _ => False
end

/-! ### targets -/
abbrev TG := V → St → Hp → (St → Hp → Prop) → Prop
abbrev TGs := List V → St → Hp → (St → Hp → Prop) → Prop
def PG (X : Cx) (target : Expr) (t : TG) : Prop :=
  ∀ (pins : List (Addr × Obj)) (s : Shared) (σ : St) (H : Hp) (v : V) (u : Value) (Q : St → Hp → Prop), Inv X pins σ H s → RelV v u → t v σ H Q →
    wpAny (model X.prog X.w) X.A (assign target X.env u) (fun _ s' => ∃ σ' H', Inv X pins σ' H' s' ∧ Q σ' H') X.xe s
/-- several targets, one after another -/
def PGs (X : Cx) (ts : List Expr) (t : TGs) : Prop :=
  ∀ (pins : List (Addr × Obj)) (s : Shared) (σ : St) (H : Hp) (vs : List V) (us : List Value) (Q : St → Hp → Prop), Inv X pins σ H s → Vals vs us → t vs σ H Q →
    wpAny (model X.prog X.w) X.A (assignInOrder ((assignEach ts X.env).map (·.2)) us) (fun _ s' => ∃ σ' H', Inv X pins σ' H' s' ∧ Q σ' H') X.xe s
/-- o[i] = v, by values -/
abbrev TSet := V → V → V → Hp → (Hp → Prop) → Prop
def PSet (X : Cx) (t : TSet) : Prop :=
  ∀ (pins : List (Addr × Obj)) (s : Shared) (σ : St) (H : Hp) (o i v : V) (ov iv u : Value) (Q : Hp → Prop), Inv X pins σ H s → RelV o ov → RelV i iv → RelV v u → t o i v H Q →
    wpAny (model X.prog X.w) X.A (setItem ov iv u) (fun _ s' => ∃ H', Inv X pins σ H' s' ∧ Q H') X.xe s
/-- a op= b, by values -/
abbrev TIp := V → V → Hp → VK → Prop
def PIp (X : Cx) (op : Operator) (t : TIp) : Prop :=
  ∀ (pins : List (Addr × Obj)) (s : Shared) (σ : St) (H : Hp) (x y : V) (v u : Value) (Q : VK), Inv X pins σ H s → RelV x v → RelV y u → t x y H Q →
    wpAny (model X.prog X.w) X.A (inplaceOp op v u) (EP X pins σ Q) X.xe s
section
variable {X : Cx} {pos : Pos}
def gName (i : Nat) : TG := fun v σ H Q => Q (σ.set i (some v)) H
theorem pg_name {i : Nat} {x : Str} (hN : X.N.Nodup) (hi : X.N[i]? = some x) (hx : Loc X.env.scope x) (hf : X.fn x = true ∨ X.env.scope.names.lookup x = some .local := by first | exact .inl rfl | exact .inr rfl | assumption) : PG X (.Name x pos) (gName i) := by
  intro pins s σ H v u Q I r h
  exact wpAny_assign_Name (store_ok I hN hi hx r (fun s' I' => ⟨_, H, I', h⟩) hf)
def gNil : TGs := fun vs σ H Q => vs = [] ∧ Q σ H
def gCons (t : TG) (u : TGs) : TGs := fun vs σ H Q => ∃ v r, vs = v :: r ∧ t v σ H fun σ' H' => u r σ' H' Q
theorem pgs_nil : PGs X [] gNil := by
  intro pins s σ H vs us Q I r h
  obtain ⟨e, h⟩ := h
  subst e
  cases r
  exact assignInOrder_nil ⟨σ, H, I, h⟩
theorem pgs_cons {e : Expr} {es : List Expr} {t : TG} {u : TGs} (h1 : PG X e t) (h2 : PGs X es u)
    (hs : (assignEach (e :: es) X.env).map (·.2) = assign e X.env :: (assignEach es X.env).map (·.2) := by rfl) : PGs X (e :: es) (gCons t u) := by
  intro pins s σ H vs us Q I r h
  obtain ⟨v, vr, e1, h⟩ := h
  subst e1
  cases r with
  | cons r rr =>
    rw [hs]
    refine assignInOrder_cons (thn (h1 pins s σ H _ _ _ I r h) fun _ s1 ⟨σ1, H1, I1, q1⟩ => ?_)
    exact h2 pins s1 σ1 H1 _ _ Q I1 rr q1
/-- (a, b, ..) = a tuple of that length -/
def gTup (K : PySem.W.Frag) (n : Nat) (t : TGs) : TG := fun v σ H Q => ∃ a xs, v = .ref a ∧ SqT K H a xs ∧ xs.length = n ∧ t xs σ H Q
theorem pg_tup {es : List Expr} {k : Nat} {t : TGs} {n : Nat} (hc : X.calm = true) (h : PGs X es t)
    (hn : (assignEach es X.env).length = n := by rfl) (hst : (assignEach es X.env).findIdx? (·.1) = none := by rfl) : PG X (.Tuple es k pos) (gTup X.K n t) := by
  intro pins s σ H v u Q I r hw
  obtain ⟨a, xs, e1, hq, hl, hw⟩ := hw
  subst e1
  cases r
  obtain ⟨its, rv, ht, hz⟩ := I.tuple hq
  refine assign_Tuple_tuple (I.ok.hd hc) ht (by simp [hn, ← hl, rv.length]) hst fun h' hx => ?_
  have I1 : Inv X pins σ H { s with heap := h' } := I.kept (t' := s.toks) fun b o e => hx b o (Nat.ne_of_lt (Heap.lt_size e)) e
  exact h pins _ σ H xs _ Q I1 (by simpa using rv) hw
/-- o[i] = .. -/
def gSub (to ti : TE) (t : TSet) : TG := fun v σ H Q => to σ H fun o H1 => ti σ H1 fun i H2 => t o i v H2 fun H3 => Q σ H3
theorem pg_sub {o i : Expr} {to ti : TE} {t : TSet} (ho : PE X o to) (hi : PE X i ti) (hs : PSet X t)
    (ha : ∀ v, assign (.Subscript o i pos) X.env v = (do
      let ov ← holding [v] (eval o X.env)
      let iv ← holding [v, ov] (eval i X.env)
      standAt pos
      holding [v, ov, iv] (setItem ov iv v)
      release [v, ov, iv] []) := by intro _; rfl) : PG X (.Subscript o i pos) (gSub to ti t) := by
  intro pins s σ H v u Q I r h
  rw [ha]
  refine wpAny_bind (wpAny_holding (thn (ho pins s σ H _ I h) fun ov s1 ⟨x, H1, I1, r1, q1⟩ => ?_))
  refine wpAny_bind (wpAny_holding (thn (hi pins s1 σ H1 _ I1 q1) fun iv s2 ⟨y, H2, I2, r2, q2⟩ => ?_))
  refine wpAny_bind (wpAny_standAt (wpAny_bind (wpAny_holding (thn (hs pins s2 σ H2 x y v ov iv u _ I2 r1 r2 r q2) fun _ s3 ⟨H3, I3, q3⟩ => ?_))))
  exact wpAny_release ⟨σ, H3, I3, q3⟩
/-- target = value -/
def tAsg (te : TE) (g : TG) : TS := fun D σ H => te σ H fun x H1 => g x σ H1 D.nx
theorem ps_asg {tg e : Expr} {te : TE} {g : TG} (he : PE X e te) (hg : PG X tg g) (hs : swapsWithSole [tg] e pos.line X.env = pure false := by rfl) (hw : swappedStores [tg] e X.env = pure none := by rfl)
    (h1 : (assignEach [tg] X.env).map (·.2) = [assign tg X.env] := by rfl) : PS X (.Assign [tg] e pos) (tAsg te g) := by
  intro pins s σ H D I h
  refine wpAny_Assign_stores (thn (he pins s σ H _ I h) fun v s1 ⟨x, H1, I1, r1, q1⟩ => ?_) hs hw
  rw [h1]
  exact thn (hg pins s1 σ H1 x v _ I1 r1 q1) fun _ s2 q => q
/-- name = value -/
theorem ps_set {i : Nat} {x : Str} {e : Expr} {te : TE} {pos' : Pos} (hN : X.N.Nodup) (hi : X.N[i]? = some x) (hx : Loc X.env.scope x) (he : PE X e te) (hs : swapsWith e (some (.Name x pos')) pos.line X.env = pure false := by rfl) (hf : X.fn x = true ∨ X.env.scope.names.lookup x = some .local := by first | exact .inl rfl | exact .inr rfl | assumption) :
    PS X (.Assign [.Name x pos'] e pos) (tAsg te (gName i)) := by
  intro pins s σ H D I h
  refine wpAny_Assign_Name (thn (he pins s σ H _ I h) fun v s1 ⟨y, H1, I1, r1, q1⟩ => ?_) hs
  exact store_ok I1 hN hi hx r1 (fun s2 I2 => ⟨_, H1, I2, q1⟩) hf
/-- a, b = x, y with plain local names: stored from the right; the pair itself is not tracked (the opening rows as in PyProof/Rows/TupAssign.lean:23) -/
def tPar (i j : Nat) (ta : TA) : TS := fun D σ H => ta σ H fun vs H1 => ∃ v w, vs = [v, w] ∧ D.nx ((σ.set i (some v)).set j (some w)) H1
/-- name op= e -/
def tAug (i : Nat) (te : TE) (ti : TIp) : TS := fun D σ H => ∃ x, σ[i]? = some (some x) ∧ te σ H fun y H1 => ti x y H1 fun z H2 => D.nx (σ.set i (some z)) H2
/-- o[i] op= e -/
def tAugS (to ti te : TE) (tget : V → V → Hp → VK → Prop) (tip : TIp) (tset : TSet) : TS := fun D σ H => to σ H fun o H1 => ti σ H1 fun i H2 => tget o i H2 fun x H3 => te σ H3 fun y H4 => tip x y H4 fun z H5 => tset o i z H5 fun H6 => D.nx σ H6
/-- o[i], by values -/
def PGet (X : Cx) (t : V → V → Hp → VK → Prop) : Prop :=
  ∀ (pins : List (Addr × Obj)) (s : Shared) (σ : St) (H : Hp) (o i : V) (ov iv : Value) (Q : VK), Inv X pins σ H s → RelV o ov → RelV i iv → t o i H Q →
    wpAny (model X.prog X.w) X.A (getItem ov iv) (EP X pins σ Q) X.xe s
/-- ints -/
def ipI (f : Int → Int → Int) : TIp := fun x y H Q => ∃ i j, x = .int i ∧ y = .int j ∧ Q (.int (f i j)) H
end

/-! ### while -/
section
variable {X : Cx} {pos : Pos}
/-- the invariant W with its measure -/
def tWhile (c : TT) (tb : TS) : TS := fun D σ H => ∃ W : Nat → St → Hp → Prop, (∃ m, W m σ H) ∧ ∀ m σ H, W m σ H →
  c σ H fun b H1 => if b = true then ∃ N : St → Hp → Prop, (∀ σ' H', N σ' H' → ∃ m', m' < m ∧ W m' σ' H') ∧ tb { D with nx := N, ct := N, bk := D.nx } σ H1 else D.nx σ H1
end

/-! ### what a loop or a comprehension walks -/
/-- at turn i: it yields x (the heap may grow), or it stops -/
structure It where
  go : Nat → Hp → Prop
  yld : Nat → Hp → V → Hp → Prop
  stop : Nat → Hp → Prop
/-- the iterator's own objects may turn: they are not the frame's, not pinned, younger than the entry (or a comprehension's own) -/
def FpOk (X : Cx) (pins : List (Addr × Obj)) (H : Hp) (b : Addr) : Prop :=
  H b = none ∧ b ≠ X.env.locals ∧ b ∉ X.fs ∧ (b ∈ X.ex ∨ X.s₀.heap.objs.size ≤ b) ∧ (∀ x c, X.env.cells.lookup x = some c → c ≠ b) ∧ ∀ p ∈ X.pn ++ pins, p.1 ≠ b
theorem Inv.fpOk {X : Cx} {pins : List (Addr × Obj)} {σ : St} {H H' : Hp} {s : Shared} {b : Addr} (I : Inv X pins σ H s) (hb : s.heap.objs.size ≤ b) (hn : H' b = none) : FpOk X pins H' b := by
  refine ⟨hn, Nat.ne_of_gt (Nat.lt_of_lt_of_le I.lt hb), I.nofs hb, .inr (Nat.le_trans I.sz hb), fun x c e z => ?_, fun p hp z => ?_⟩
  · obtain ⟨v, q⟩ := I.cell x c e
    exact absurd (Nat.lt_of_lt_of_le q.lt (by rw [z]; exact hb)) (Nat.lt_irrefl _)
  · exact absurd (Nat.lt_of_lt_of_le (Heap.lt_size (I.pin p hp).1) (by rw [z]; exact hb)) (Nat.lt_irrefl _)
structure Turn (P : Program) (w : World) (K : PySem.W.Frag) (tg : Expr) (J : It) (fp : List Addr) (it : Addr) (tn : Nat → Heap → Prop) : Prop where
  mem : it ∈ fp
  obj : ∀ i h, tn i h → ∀ b ∈ fp, ∃ o, h.get? b = some o ∧ ∀ v, o.data ≠ .cell v
  keep : ∀ i h h', tn i h → (∀ b ∈ fp, ∀ o, h.get? b = some o → h'.get? b = some o) → tn i h'
  item : ∀ (X : Cx), X.prog = P → X.w = w → X.K = K → X.calm = true → ∀ (i : Nat) (pins : List (Addr × Obj)) (s : Shared) (σ : St) (H : Hp) (E : Value → Shared → Prop), Inv X pins σ H s → (∀ b ∈ fp, FpOk X pins H b) → tn i s.heap → J.go i H →
    wpAny (model P w) X.A (pyNext (.ref it)) (fun r s1 => ∃ u, r = some u ∧
      wpAny (model P w) X.A (letOwnedTupleGo tg (.ref it) u) (fun _ s2 => ∃ x H', Inv X pins σ H' s2 ∧ RelV x u ∧ J.yld i H x H' ∧ tn (i + 1) s2.heap ∧ ∀ b ∈ fp, H' b = none) E s1) E s
  done : ∀ (X : Cx), X.prog = P → X.w = w → X.K = K → X.calm = true → ∀ (i : Nat) (pins : List (Addr × Obj)) (s : Shared) (σ : St) (H : Hp) (E : Value → Shared → Prop), Inv X pins σ H s → (∀ b ∈ fp, FpOk X pins H b) → tn i s.heap → J.stop i H →
    wpAny (model P w) X.A (pyNext (.ref it)) (fun r s1 => r = none ∧ Inv X pins σ H s1) E s
  self : ∀ (A : Around) (i : Nat) (s : Shared) (Q : Value → Shared → Prop) (E : Value → Shared → Prop), tn i s.heap → Q (.ref it) s → wpAny (model P w) A (pyIter (.ref it)) Q E s
abbrev TI := St → Hp → (It → Hp → Prop) → Prop
/-- an iterator has come -/
def PIE (X : Cx) (pins : List (Addr × Obj)) (σ : St) (tg : Expr) (R : It → Hp → Prop) (itv : Value) (s2 : Shared) : Prop :=
  ∃ (it : Addr) (fp : List Addr) (tn : Nat → Heap → Prop) (J : It) (H' : Hp), itv = .ref it ∧ Inv X pins σ H' s2 ∧ Turn X.prog X.w X.K tg J fp it tn ∧ tn 0 s2.heap ∧ (∀ b ∈ fp, FpOk X pins H' b) ∧ R J H'
def PI (X : Cx) (tg iter : Expr) (wi : TI) : Prop :=
  ∀ (pins : List (Addr × Obj)) (s : Shared) (σ : St) (H : Hp) (R : It → Hp → Prop), Inv X pins σ H s → wi σ H R →
    wpAny (model X.prog X.w) X.A (eval iter X.env) (fun v s1 => wpAny (model X.prog X.w) X.A (pyIter v) (PIE X pins σ tg R) X.xe s1) X.xe s

/-- the step ahead of the store is nothing for an iterator that keeps no tuple -/
theorem go_of {M : Model} {A : Around} {E : Value → Shared → Prop} {s : Shared} {tg : Expr} {it : Addr} {u : Value} {o : Obj} {n : String} {vs : Array Value} {Q : Unit → Shared → Prop} (ho : s.heap.get? it = some o) (hc : o.cls = .type n) (hd : o.data = .fields vs)
    (hn : ["enumerate", "zip", "dict_itemiterator", "dict_reverseitemiterator", "odict_iterator", "itertools.zip_longest", "itertools.pairwise"].contains n = false) (hQ : Q () s) : wpAny M A (letOwnedTupleGo tg (.ref it) u) Q E s := by
  unfold letOwnedTupleGo
  cases tg <;> first
    | exact wpAny_pure hQ
    | (cases u <;> first
        | exact wpAny_pure hQ
        | (refine wpAny_bind (wpAny_load ho ?_)
           rw [hc, hd]
           show wpAny M A (if (["enumerate", "zip", "dict_itemiterator", "dict_reverseitemiterator", "odict_iterator", "itertools.zip_longest", "itertools.pairwise"].contains n && vs[0]? == some (rawInt _)) = true then _ else _) Q E s
           rw [if_neg (by intro h; rw [hn, Bool.false_and] at h; cases h)]
           exact wpAny_pure hQ))

/-- the list at a, as it stands at each turn (a loop may append to it) -/
def Itl (K : PySem.W.Frag) (a : Addr) : It :=
  ⟨fun i H => ∃ xs x, SqL K H a xs ∧ xs[i]? = some x, fun i H x H' => H' = H ∧ ∀ xs, SqL K H a xs → xs[i]? = some x, fun i H => ∃ xs, SqL K H a xs ∧ xs.length ≤ i⟩
def Itt (K : PySem.W.Frag) (a : Addr) : It :=
  ⟨fun i H => ∃ xs x, SqT K H a xs ∧ xs[i]? = some x, fun i H x H' => H' = H ∧ ∀ xs, SqT K H a xs → xs[i]? = some x, fun i H => ∃ xs, SqT K H a xs ∧ xs.length ≤ i⟩
/-- lo, lo + 1, .. (n of them) -/
def Itr (lo : Int) (n : Nat) : It := ⟨fun i _ => i < n, fun i H x H' => H' = H ∧ x = .int (lo + i), fun i _ => n ≤ i⟩
theorem turn_list {P : Program} {w : World} {K : PySem.W.Frag} {tg : Expr} (a it : Addr) : Turn P w K tg (Itl K a) [it] it (fun i h => h.IsListIter it a i) where
  mem := by simp
  obj := fun i h st b hb => by
    have e : b = it := by simpa using hb
    subst e
    obtain ⟨o, e, c, d⟩ := st
    exact ⟨o, e, fun v z => by rw [d] at z; cases z⟩
  keep := fun i h h' st k => st.at fun o e => k it (by simp) o e
  item := by
    intro X hP hw hK hc i pins s σ H E I hf st hg
    subst hP hw hK
    obtain ⟨xs, x, hq, hx⟩ := hg
    obtain ⟨its, rv, p, hz⟩ := I.list hq
    obtain ⟨u, hu, ru⟩ := rv.get hx
    obtain ⟨f0, f1, f2, f3, f4, f5⟩ := hf it (by simp)
    refine wpAny_pyNext_list_item st p.isList (x := u) (by simpa using hu) fun h' st' sb => ?_
    have I1 : Inv X pins σ H { s with heap := h' } := I.turned (t' := s.toks) (fun b o hb e => (sb.2 b hb).trans e) f0 f1 f3 f4 f5
    obtain ⟨o, e, c, d⟩ := id st'
    exact ⟨u, rfl, go_of (s := { s with heap := h' }) e c d (by decide) ⟨x, H, I1, ru, ⟨rfl, fun ys hy => by rw [I.list_inj hy hq]; exact hx⟩, st', fun b hb => (hf b hb).1⟩⟩
  done := by
    intro X hP hw hK hc i pins s σ H E I hf st hg
    subst hP hw hK
    obtain ⟨xs, hq, hx⟩ := hg
    obtain ⟨its, rv, p, hz⟩ := I.list hq
    obtain ⟨f0, f1, f2, f3, f4, f5⟩ := hf it (by simp)
    have hl := rv.length
    exact wpAny_pyNext_list_end (I.ok.hd hc) st p.isList (by simp; omega) fun h' eb => ⟨rfl, I.turned (t' := s.toks) (fun b o hb e => eb b o hb e) f0 f1 f3 f4 f5⟩
  self := fun _ _ _ _ _ st h => wpAny_pyIter_listiter st h
theorem turn_tuple {P : Program} {w : World} {K : PySem.W.Frag} {tg : Expr} (a it : Addr) : Turn P w K tg (Itt K a) [it] it (fun i h => h.IsTupleIter it a i) where
  mem := by simp
  obj := fun i h st b hb => by
    have e : b = it := by simpa using hb
    subst e
    obtain ⟨o, e, c, d⟩ := st
    exact ⟨o, e, fun v z => by rw [d] at z; cases z⟩
  keep := fun i h h' st k => st.at fun o e => k it (by simp) o e
  item := by
    intro X hP hw hK hc i pins s σ H E I hf st hg
    subst hP hw hK
    obtain ⟨xs, x, hq, hx⟩ := hg
    obtain ⟨its, rv, p, hz⟩ := I.tuple hq
    obtain ⟨u, hu, ru⟩ := rv.get hx
    obtain ⟨f0, f1, f2, f3, f4, f5⟩ := hf it (by simp)
    refine wpAny_pyNext_tuple_item st (show s.heap.IsTuple a its.toArray from p) (x := u) (by simpa using hu) fun h' st' sb => ?_
    have I1 : Inv X pins σ H { s with heap := h' } := I.turned (t' := s.toks) (fun b o hb e => (sb.2 b hb).trans e) f0 f1 f3 f4 f5
    obtain ⟨o, e, c, d⟩ := id st'
    exact ⟨u, rfl, go_of (s := { s with heap := h' }) e c d (by decide) ⟨x, H, I1, ru, ⟨rfl, fun ys hy => by rw [I.tuple_inj hy hq]; exact hx⟩, st', fun b hb => (hf b hb).1⟩⟩
  done := by
    intro X hP hw hK hc i pins s σ H E I hf st hg
    subst hP hw hK
    obtain ⟨xs, hq, hx⟩ := hg
    obtain ⟨its, rv, p, hz⟩ := I.tuple hq
    obtain ⟨f0, f1, f2, f3, f4, f5⟩ := hf it (by simp)
    have hl := rv.length
    exact wpAny_pyNext_tuple_end (I.ok.hd hc) st (show s.heap.IsTuple a its.toArray from p) (by simp; omega) fun h' eb => ⟨rfl, I.turned (t' := s.toks) (fun b o hb e => eb b o hb e) f0 f1 f3 f4 f5⟩
  self := fun _ _ _ _ _ st h => wpAny_pyIter_tupleiter st h
theorem turn_range {P : Program} {w : World} {K : PySem.W.Frag} {tg : Expr} (it : Addr) (lo : Int) (n : Nat) : Turn P w K tg (Itr lo n) [it] it (fun i h => IsRangeIter h it (lo + (i : Nat) * 1) ((n : Int) - (i : Nat)) 1) where
  mem := by simp
  obj := fun i h st b hb => by
    have e : b = it := by simpa using hb
    subst e
    exact ⟨_, st, fun v z => by
      have z' : Data.fields _ = Data.cell v := z
      cases z'⟩
  keep := fun i h h' st k => k it (by simp) _ st
  item := by
    intro X hP hw hK hc i pins s σ H E I hf st hg
    subst hP hw hK
    obtain ⟨f0, f1, f2, f3, f4, f5⟩ := hf it (by simp)
    have W := Walks.range (prog := X.prog) (w := X.w) (I.ok.hd hc) it lo 1 n
    refine W.item i s _ _ hg st fun v h' tk hv st' kk => ?_
    obtain ⟨t, rfl⟩ := hv
    have I1 : Inv X pins σ H { s with heap := h', toks := tk } := I.turned (fun b o hb e => kk b o (by simpa using hb) e) f0 f1 f3 f4 f5
    refine ⟨_, rfl, go_of (s := { s with heap := h', toks := tk }) (n := "range_iterator") st' rfl rfl (by decide) ⟨.int (lo + i), H, I1, ⟨t, ?_⟩, ⟨rfl, rfl⟩, st', fun b hb => (hf b hb).1⟩⟩
    rw [Int.mul_one]
  done := by
    intro X hP hw hK hc i pins s σ H E I hf st hg
    subst hP hw hK
    obtain ⟨f0, f1, f2, f3, f4, f5⟩ := hf it (by simp)
    exact wpAny_pyNext_range_end (I.ok.hd hc) st (by have : n ≤ i := hg; omega) fun h' eb => ⟨rfl, I.turned (t' := s.toks) (fun b o hb e => eb b o hb e) f0 f1 f3 f4 f5⟩
  self := fun _ _ _ _ _ st h => wpAny_pyIter_rangeiter st h
end L2

namespace L2
open PySem PySem.Spec PyProof.Rows
section
variable {X : Cx} {tg : Expr}
def iList (K : PySem.W.Frag) (tl : TE) : TI := fun σ H R => tl σ H fun x H1 => ∃ a, x = .ref a ∧ (∃ xs, SqL K H1 a xs) ∧ R (Itl K a) H1
def iTup (K : PySem.W.Frag) (tl : TE) : TI := fun σ H R => tl σ H fun x H1 => ∃ a, x = .ref a ∧ (∃ xs, SqT K H1 a xs) ∧ R (Itt K a) H1
theorem pi_list {l : Expr} {tl : TE} (hl : PE X l tl) : PI X tg l (iList X.K tl) := by
  intro pins s σ H R I h
  refine thn (hl pins s σ H _ I h) fun v s1 ⟨x, H1, I1, r1, q1⟩ => ?_
  obtain ⟨a, e, ⟨xs, hq⟩, q⟩ := q1
  subst e
  cases r1
  obtain ⟨its, rv, p, hz⟩ := I1.list hq
  refine wpAny_pyIter_list p.isList ?_
  refine ⟨s1.heap.objs.size, [s1.heap.objs.size], _, _, H1, rfl, I1.kept (t' := s1.toks) fun b o e => Heap.get?_push_of_some _ e, turn_list a _, ⟨_, Heap.get?_push_size _ rfl, rfl, rfl⟩, fun b hb => ?_, q⟩
  have e : b = s1.heap.objs.size := by simpa using hb
  subst e
  exact I1.fpOk (Nat.le_refl _) (I1.hok.fresh (Nat.le_refl _))
theorem pi_tup {l : Expr} {tl : TE} (hl : PE X l tl) : PI X tg l (iTup X.K tl) := by
  intro pins s σ H R I h
  refine thn (hl pins s σ H _ I h) fun v s1 ⟨x, H1, I1, r1, q1⟩ => ?_
  obtain ⟨a, e, ⟨xs, hq⟩, q⟩ := q1
  subst e
  cases r1
  obtain ⟨its, rv, p, hz⟩ := I1.tuple hq
  refine wpAny_pyIter_tuple (show s1.heap.IsTuple a its.toArray from p) ?_
  refine ⟨s1.heap.objs.size, [s1.heap.objs.size], _, _, H1, rfl, I1.kept (t' := s1.toks) fun b o e => Heap.get?_push_of_some _ e, turn_tuple a _, ⟨_, Heap.get?_push_size _ rfl, rfl, rfl⟩, fun b hb => ?_, q⟩
  have e : b = s1.heap.objs.size := by simpa using hb
  subst e
  exact I1.fpOk (Nat.le_refl _) (I1.hok.fresh (Nat.le_refl _))
/-- a range object just made, walked -/
theorem range_it {pins : List (Addr × Obj)} {σ : St} {H : Hp} {s : Shared} {R : It → Hp → Prop} {E : Value → Shared → Prop} {lo hi : Int} {t u v : Tok} {tk : Nat} (I : Inv X pins σ H s) (h1 : -(2 ^ 62) ≤ lo) (h2 : lo < 2 ^ 62) (h3 : -(2 ^ 62) ≤ hi) (h4 : hi < 2 ^ 62)
    (q : R (Itr lo (hi - lo).toNat) H) : wpAny (model X.prog X.w) X.A (pyIter (.ref s.heap.objs.size)) (PIE X pins σ tg R) E { s with heap := s.heap.push { cls := .type "range", data := .fields #[.int lo t, .int hi u, .int 1 v] }, toks := tk } := by
  refine wpAny_pyIter_range (IsRange.new ..) (small_one h1 h2 h3 h4) ?_
  have I1 : Inv X pins σ H { s with heap := s.heap.push { cls := .type "range", data := .fields #[.int lo t, .int hi u, .int 1 v] }, toks := tk } := I.kept fun b o e => Heap.get?_push_of_some _ e
  refine ⟨(s.heap.push { cls := .type "range", data := .fields #[.int lo t, .int hi u, .int 1 v] }).objs.size, [(s.heap.push { cls := .type "range", data := .fields #[.int lo t, .int hi u, .int 1 v] }).objs.size], _, _, H, rfl,
    I1.kept (t' := tk) fun b o e => Heap.get?_push_of_some _ e, turn_range _ lo (hi - lo).toNat, ?_, fun b hb => ?_, q⟩
  · have e1 : lo + ((0 : Nat) : Int) * 1 = lo := by simp
    have e2 : (((hi - lo).toNat : Nat) : Int) - ((0 : Nat) : Int) = Builtin.Range.rangeSize lo hi 1 := by rw [rangeSize_one]; split <;> omega
    show IsRangeIter _ _ (lo + ((0 : Nat) : Int) * 1) ((((hi - lo).toNat : Nat) : Int) - ((0 : Nat) : Int)) 1
    rw [e1, e2]
    exact Heap.get?_push_size _ rfl
  · have e : b = (s.heap.push { cls := .type "range", data := .fields #[.int lo t, .int hi u, .int 1 v] }).objs.size := by simpa using hb
    subst e
    exact I1.fpOk (Nat.le_refl _) (I1.hok.fresh (Nat.le_refl _))
def iRng1 (ta : TA) : TI := fun σ H R => ta σ H fun vs H1 => ∃ j : Int, vs = [.int j] ∧ -(2 ^ 62) ≤ j ∧ j < 2 ^ 62 ∧ R (Itr 0 j.toNat) H1
def iRng2 (ta : TA) : TI := fun σ H R => ta σ H fun vs H1 => ∃ i j : Int, vs = [.int i, .int j] ∧ (-(2 ^ 62) ≤ i ∧ i < 2 ^ 62 ∧ -(2 ^ 62) ≤ j ∧ j < 2 ^ 62) ∧ R (Itr i (j - i).toNat) H1
theorem pi_range1 {a : Expr} {ta : TA} {p pos : Pos} (hg : Gl X "range") (hm : X.mg "range" = none) (ha : PA X [a] ta) (hs : starEach [a] X.env = [(false, eval a X.env)] := by rfl) : PI X tg (.Call (.Name "range" p) [a] [] pos) (iRng1 ta) := by
  intro pins s σ H R I h
  refine Call_ (ld_blt I hg hm boot_range (PyProof.Rows.callWith_type1 (thn (ha pos pins s σ H _ I h) fun us s1 ⟨vs, H1, I1, r1, q1⟩ => ?_) hs rfl))
  obtain ⟨j, e, q1, q2, q⟩ := q1
  subst e
  cases r1 with
  | cons r rr =>
    cases rr
    obtain ⟨t, rfl⟩ := r
    exact call_range_1 (range_it I1 (by omega) (by omega) q1 q2 (by simpa using q))
/-! ### for -/
/-- W: the invariant by the turn and a measure; N: what the body is to reach -/
def tFor (wi : TI) (g : TG) (tb : TS) : TS := fun D σ H => wi σ H fun J H1 => ∃ W : Nat → Nat → St → Hp → Prop, (∃ m, W 0 m σ H1) ∧ ∀ i m σ H, W i m σ H →
  (J.stop i H ∧ D.nx σ H) ∨ (J.go i H ∧ ∃ N : St → Hp → Prop, (∀ σ' H', N σ' H' → ∃ m', m' < m ∧ W (i + 1) m' σ' H') ∧ ∀ x H', J.yld i H x H' → g x σ H' fun σ2 H2 => tb { D with nx := N, ct := N, bk := D.nx } σ2 H2)
/-- the records at fp as they stand -/
def pinsAt (fp : List Addr) (h : Heap) : List (Addr × Obj) := fp.filterMap fun b => (h.get? b).map fun o => (b, o)
theorem mem_pinsAt {fp : List Addr} {h : Heap} {b : Addr} {o : Obj} (hb : b ∈ fp) (e : h.get? b = some o) : (b, o) ∈ pinsAt fp h := List.mem_filterMap.mpr ⟨b, hb, by rw [e]; rfl⟩
theorem of_pinsAt {fp : List Addr} {h : Heap} {p : Addr × Obj} (hp : p ∈ pinsAt fp h) : p.1 ∈ fp ∧ h.get? p.1 = some p.2 := by
  obtain ⟨b, hb, e⟩ := List.mem_filterMap.mp hp
  cases q : h.get? b with
  | none => rw [q] at e; cases e
  | some o =>
    rw [q] at e
    have e' : (b, o) = p := Option.some.inj e
    subst e'
    exact ⟨hb, q⟩
theorem Inv.pinned {pins : List (Addr × Obj)} {σ : St} {H : Hp} {s : Shared} {fp : List Addr} (I : Inv X pins σ H s) (hf : ∀ b ∈ fp, FpOk X pins H b) (ho : ∀ b ∈ fp, ∃ o, s.heap.get? b = some o ∧ ∀ v, o.data ≠ .cell v) : Inv X (pins ++ pinsAt fp s.heap) σ H s :=
  I.pins_of fun p hp => (List.mem_append.mp hp).elim (fun z => I.pin p (List.mem_append_right _ z)) fun z => by
    obtain ⟨hb, e⟩ := of_pinsAt z
    obtain ⟨f0, f1, f2, _⟩ := hf p.1 hb
    obtain ⟨o, e', d⟩ := ho p.1 hb
    rw [e] at e'; cases e'
    exact ⟨e, f0, f1, f2, d⟩
theorem Inv.unpinned {pins pl : List (Addr × Obj)} {σ : St} {H : Hp} {s : Shared} (I : Inv X (pins ++ pl) σ H s) : Inv X pins σ H s := I.pins_of fun p hp => I.pin p (List.mem_append_right _ (List.mem_append_left _ hp))
theorem ps_for {iter : Expr} {body : List Stmt} {wi : TI} {g : TG} {tb : TS} {pos : Pos} (hp : PassesOwn (model X.prog X.w) X.A X.env X.xe) (hc : X.calm = true) (hi : PI X tg iter wi) (hg : PG X tg g) (hb : PSs X body tb)
    (hs : ∀ x, foldedSetIterable iter X.env x = pure x := by intro _; rfl) : PS X (.For tg iter body [] pos) (tFor wi g tb) := by
  intro pins s σ H D I h
  refine wpAny_For (thn (hi pins s σ H _ I h) fun v s1 h1 => thn h1 fun itv s2 h2 => ?_) hs
  obtain ⟨it, fp, tn, J, H2, e, I2, T, st2, f2, W, ⟨m0, w0⟩, turn⟩ := h2
  subst e
  -- what stays true of the iterator's objects through the loop
  have stat : ∀ {H' : Hp}, (∀ b ∈ fp, H' b = none) → ∀ b ∈ fp, FpOk X pins H' b := fun hn b hb => ⟨hn b hb, (f2 b hb).2⟩
  refine codeAny_forLoop_any (fun n s' => ∃ i σ' H', Inv X pins σ' H' s' ∧ tn i s'.heap ∧ (∀ b ∈ fp, H' b = none) ∧ W i n σ' H') ?_ m0 ⟨0, σ, H2, I2, st2, fun b hb => (f2 b hb).1, w0⟩
  rintro n s3 ⟨i, σ3, H3, I3, st3, fr3, w3⟩
  rcases turn i n σ3 H3 w3 with ⟨stop, qn⟩ | ⟨go, N, hN, step⟩
  · refine wpAny_passesOwn hp (thn (T.done X rfl rfl rfl hc i pins s3 σ3 H3 X.xe I3 (stat fr3) st3 stop) fun r s4 ⟨hr, I4⟩ => ?_)
    subst hr
    exact wpAny_execs_nil ⟨σ3, H3, I4, qn⟩
  · refine wpAny_passesOwn hp (thn (T.item X rfl rfl rfl hc i pins s3 σ3 H3 X.xe I3 (stat fr3) st3 go) fun r s4 ⟨u, hr, h4⟩ => ?_)
    subst hr
    refine wpAny_passesOwn hp (thn h4 fun _ s5 ⟨x, H5, I5, r5, y5, st5, fr5⟩ => ?_)
    have I5' := I5.pinned (stat fr5) (T.obj _ _ st5)
    refine wpAny_passesOwn hp (thn (hg _ s5 σ3 H5 x u _ I5' r5 (step x H5 y5)) fun _ s6 ⟨σ6, H6, I6, q6⟩ => ?_)
    refine wpAny_passesOwn hp (thn (hb _ s6 σ6 H6 _ I6 q6) fun f s7 q7 => ?_)
    have again : ∀ {σ7 : St} {H7 : Hp}, Inv X (pins ++ pinsAt fp s5.heap) σ7 H7 s7 → N σ7 H7 → ∃ m, m < n ∧ ∃ i σ' H', Inv X pins σ' H' s7 ∧ tn i s7.heap ∧ (∀ b ∈ fp, H' b = none) ∧ W i m σ' H' := fun {σ7 H7} I7 n7 => by
      obtain ⟨m', hm, w7⟩ := hN σ7 H7 n7
      refine ⟨m', hm, i + 1, σ7, H7, I7.unpinned, T.keep _ _ _ st5 fun b hb o e => (I7.pin (b, o) (List.mem_append_right _ (List.mem_append_right _ (mem_pinsAt hb e)))).1, fun b hb => ?_, w7⟩
      obtain ⟨o, e, d⟩ := T.obj _ _ st5 b hb
      exact (I7.pin (b, o) (List.mem_append_right _ (List.mem_append_right _ (mem_pinsAt hb e)))).2.1
    cases f with
    | next => obtain ⟨σ7, H7, I7, n7⟩ := q7; exact again I7 n7
    | cont => obtain ⟨σ7, H7, I7, n7⟩ := q7; exact again I7 n7
    | brk => obtain ⟨σ7, H7, I7, q7⟩ := q7; exact ⟨σ7, H7, I7.unpinned, q7⟩
    | ret v => obtain ⟨x7, σ7, H7, I7, r7, q7⟩ := q7; exact ⟨x7, σ7, H7, I7.unpinned, r7, q7⟩
end

/-! ### the forms one uses -/
/-- over a list that the body leaves as it is -/
theorem for_list {K : PySem.W.Frag} {a : Addr} {xs : List V} {g : TG} {tb : TS} {D : Ends} {σ : St} {H : Hp} (Pv : Nat → St → Hp → Prop) (h0 : Pv 0 σ H) (hl : ∀ i σ H, i ≤ xs.length → Pv i σ H → SqL K H a xs)
    (hs : ∀ i x σ H, xs[i]? = some x → Pv i σ H → g x σ H fun σ2 H2 => tb { D with nx := Pv (i + 1), ct := Pv (i + 1), bk := D.nx } σ2 H2) (hd : ∀ σ H, Pv xs.length σ H → D.nx σ H) :
    ∃ W : Nat → Nat → St → Hp → Prop, (∃ m, W 0 m σ H) ∧ ∀ i m σ H, W i m σ H →
      ((Itl K a).stop i H ∧ D.nx σ H) ∨ ((Itl K a).go i H ∧ ∃ N : St → Hp → Prop, (∀ σ' H', N σ' H' → ∃ m', m' < m ∧ W (i + 1) m' σ' H') ∧ ∀ x H', (Itl K a).yld i H x H' → g x σ H' fun σ2 H2 => tb { D with nx := N, ct := N, bk := D.nx } σ2 H2) := by
  refine ⟨fun i m σ H => m = xs.length - i ∧ i ≤ xs.length ∧ Pv i σ H, ⟨xs.length, by simp, Nat.zero_le _, h0⟩, ?_⟩
  rintro i m σ H ⟨rfl, hi, p⟩
  have q := hl i σ H hi p
  by_cases hlt : i < xs.length
  · refine .inr ⟨⟨xs, xs[i], q, by simp [hlt]⟩, Pv (i + 1), fun σ' H' p' => ⟨xs.length - (i + 1), by omega, rfl, hlt, p'⟩, fun x H' y => ?_⟩
    obtain ⟨e, y⟩ := y
    subst e
    exact hs i x σ _ (y xs q) p
  · have e : i = xs.length := by omega
    subst e
    exact .inl ⟨⟨xs, q, Nat.le_refl _⟩, hd σ H p⟩
theorem for_range {lo : Int} {n : Nat} {g : TG} {tb : TS} {D : Ends} {σ : St} {H : Hp} (Pv : Nat → St → Hp → Prop) (h0 : Pv 0 σ H)
    (hs : ∀ i σ H, i < n → Pv i σ H → g (.int (lo + i)) σ H fun σ2 H2 => tb { D with nx := Pv (i + 1), ct := Pv (i + 1), bk := D.nx } σ2 H2) (hd : ∀ σ H, Pv n σ H → D.nx σ H) :
    ∃ W : Nat → Nat → St → Hp → Prop, (∃ m, W 0 m σ H) ∧ ∀ i m σ H, W i m σ H →
      ((Itr lo n).stop i H ∧ D.nx σ H) ∨ ((Itr lo n).go i H ∧ ∃ N : St → Hp → Prop, (∀ σ' H', N σ' H' → ∃ m', m' < m ∧ W (i + 1) m' σ' H') ∧ ∀ x H', (Itr lo n).yld i H x H' → g x σ H' fun σ2 H2 => tb { D with nx := N, ct := N, bk := D.nx } σ2 H2) := by
  refine ⟨fun i m σ H => m = n - i ∧ i ≤ n ∧ Pv i σ H, ⟨n, by simp, Nat.zero_le _, h0⟩, ?_⟩
  rintro i m σ H ⟨rfl, hi, p⟩
  by_cases hlt : i < n
  · refine .inr ⟨hlt, Pv (i + 1), fun σ' H' p' => ⟨n - (i + 1), by omega, rfl, hlt, p'⟩, fun x H' y => ?_⟩
    obtain ⟨e, y⟩ := y
    subst e y
    exact hs i σ _ hlt p
  · have e : i = n := by omega
    subst e
    exact .inl ⟨Nat.le_refl _, hd σ H p⟩
end L2

namespace L2
open PySem PySem.Spec PyProof.Rows

abbrev R2 := V → V → Hp → VK → Prop
/-- a two-place operation on values: f is binaryOp op, inplaceOp op or compareOp op -/
def OpR (X : Cx) (f : Value → Value → Sem Value) (r : R2) : Prop :=
  ∀ (pins : List (Addr × Obj)) (s : Shared) (σ : St) (H : Hp) (x y : V) (v u : Value) (Q : VK), Inv X pins σ H s → RelV x v → RelV y u → r x y H Q →
    wpAny (model X.prog X.w) X.A (f v u) (EP X pins σ Q) X.xe s
/-- a one-place operation -/
def UnR (X : Cx) (f : Value → Sem Value) (r : V → Hp → VK → Prop) : Prop :=
  ∀ (pins : List (Addr × Obj)) (s : Shared) (σ : St) (H : Hp) (x : V) (v : Value) (Q : VK), Inv X pins σ H s → RelV x v → r x H Q →
    wpAny (model X.prog X.w) X.A (f v) (EP X pins σ Q) X.xe s
/-- a call of a value that is known (a builtin, a type) with values -/
def CallR (X : Cx) (f : Value) (r : List V → Hp → VK → Prop) : Prop :=
  ∀ (pins : List (Addr × Obj)) (s : Shared) (σ : St) (H : Hp) (xs : List V) (us : List Value) (Q : VK), Inv X pins σ H s → Vals xs us → r xs H Q →
    wpAny (model X.prog X.w) X.A (call f us) (EP X pins σ Q) X.xe s
/-- a value's truth -/
def TruR (X : Cx) (r : V → Hp → (Bool → Hp → Prop) → Prop) : Prop :=
  ∀ (pins : List (Addr × Obj)) (s : Shared) (σ : St) (H : Hp) (x : V) (v : Value) (Q : Bool → Hp → Prop), Inv X pins σ H s → RelV x v → r x H Q →
    wpAny (model X.prog X.w) X.A (truthy v) (TP X pins σ Q) X.xe s

def tOp (r : R2) (ta tb : TE) : TE := fun σ H Q => ta σ H fun x H1 => tb σ H1 fun y H2 => r x y H2 Q
def tUn (r : V → Hp → VK → Prop) (ta : TE) : TE := fun σ H Q => ta σ H fun x H1 => r x H1 Q
/-- ints in, under C, and a value out -/
def rI (C : Int → Int → Prop) (g : Int → Int → V) : R2 := fun x y H Q => ∃ i j, x = .int i ∧ y = .int j ∧ C i j ∧ Q (g i j) H
def rI0 (g : Int → Int → V) : R2 := fun x y H Q => ∃ i j, x = .int i ∧ y = .int j ∧ Q (g i j) H
def rU (g : Int → V) : V → Hp → VK → Prop := fun x H Q => ∃ i, x = .int i ∧ Q (g i) H

section
variable {X : Cx} {a b c : Expr} {ta tb tc : TE} {pos : Pos}

theorem binT (ha : PE X a ta) (hb : PE X b tb) {pins : List (Addr × Obj)} {s : Shared} {σ : St} {H : Hp} {R : V → V → Hp → Prop} (I : Inv X pins σ H s)
    (h : ta σ H fun x H1 => tb σ H1 fun y H2 => R x y H2) {Q : Value → Shared → Prop} {f : Value → Value → Sem Value}
    (hf : ∀ v u s2 x y H2, Inv X pins σ H2 s2 → RelV x v → RelV y u → R x y H2 → wpAny (model X.prog X.w) X.A (f v u) Q X.xe s2) :
    wpAny (model X.prog X.w) X.A (eval a X.env) (fun v s₁ => wpAny (model X.prog X.w) X.A (eval b X.env) (fun u s₂ => wpAny (model X.prog X.w) X.A (f v u) Q X.xe s₂) X.xe s₁) X.xe s := by
  refine thn (ha pins s σ H _ I h) fun v s1 ⟨x, H1, I1, r1, q1⟩ => ?_
  refine thn (hb pins s1 σ H1 _ I1 q1) fun u s2 ⟨y, H2, I2, r2, q2⟩ => ?_
  exact hf v u s2 x y H2 I2 r1 r2 q2

theorem pe_op {op : Operator} {r : R2} (ho : OpR X (binaryOp op) r) (ha : PE X a ta) (hb : PE X b tb) : PE X (.BinOp a op b pos) (tOp r ta tb) := by
  intro pins s σ H Q I h
  exact wpAny_BinOp (binT ha hb I h fun v u s2 x y H2 I2 rx ry q => ho pins s2 σ H2 x y v u Q I2 rx ry q)
theorem pe_un {op : UnaryOp} {r : V → Hp → VK → Prop} (ho : UnR X (unaryOp op) r) (ha : PE X a ta) : PE X (.UnaryOp op a pos) (tUn r ta) := by
  intro pins s σ H Q I h
  exact UnaryOp_ (thn (ha pins s σ H _ I h) fun v s1 ⟨x, H1, I1, r1, q1⟩ => ho pins s1 σ H1 x v Q I1 r1 q1)
/-! ### ints -/
theorem opI {f : Value → Value → Sem Value} {C : Int → Int → Prop} {g : Int → Int → Int}
    (rule : ∀ (i j : Int) (t u : Tok) (s : Shared) (Q : Value → Shared → Prop) (E : Value → Shared → Prop), C i j → Q (.int (g i j) s.toks) { s with toks := s.toks + 1 } → wpAny (model X.prog X.w) X.A (f (.int i t) (.int j u)) Q E s) :
    OpR X f (rI C fun i j => .int (g i j)) := by
  intro pins s σ H x y v u Q I rx ry h
  obtain ⟨i, j, rfl, rfl, hc, q⟩ := h
  obtain ⟨t, rfl⟩ := rx
  obtain ⟨t', rfl⟩ := ry
  exact rule i j t t' s _ _ hc ⟨.int (g i j), H, I.tok _, ⟨_, rfl⟩, q⟩
theorem opI0 {f : Value → Value → Sem Value} {g : Int → Int → Int}
    (rule : ∀ (i j : Int) (t u : Tok) (s : Shared) (Q : Value → Shared → Prop) (E : Value → Shared → Prop), Q (.int (g i j) s.toks) { s with toks := s.toks + 1 } → wpAny (model X.prog X.w) X.A (f (.int i t) (.int j u)) Q E s) :
    OpR X f (rI0 fun i j => .int (g i j)) := by
  intro pins s σ H x y v u Q I rx ry h
  obtain ⟨i, j, rfl, rfl, q⟩ := h
  obtain ⟨t, rfl⟩ := rx
  obtain ⟨t', rfl⟩ := ry
  exact rule i j t t' s _ _ ⟨.int (g i j), H, I.tok _, ⟨_, rfl⟩, q⟩
theorem opB0 {f : Value → Value → Sem Value} {g : Int → Int → Bool}
    (rule : ∀ (i j : Int) (t u : Tok) (s : Shared) (Q : Value → Shared → Prop) (E : Value → Shared → Prop), Q (.bool (g i j)) s → wpAny (model X.prog X.w) X.A (f (.int i t) (.int j u)) Q E s) :
    OpR X f (rI0 fun i j => .bl (g i j)) := by
  intro pins s σ H x y v u Q I rx ry h
  obtain ⟨i, j, rfl, rfl, q⟩ := h
  obtain ⟨t, rfl⟩ := rx
  obtain ⟨t', rfl⟩ := ry
  exact rule i j t t' s _ _ ⟨.bl (g i j), H, I, rfl, q⟩

def CDiv (i j : Int) : Prop := 0 < j ∧ j < 1073741824
def CDivN (i j : Int) : Prop := j ≠ 0 ∧ j.natAbs < 1073741824
def CPow (i j : Int) : Prop := 0 ≤ j ∧ j ≤ 1000000 ∧ i.natAbs < 2 ^ 64
def CMul (i j : Int) : Prop := (-(2 ^ 64) < i ∧ i < 2 ^ 64) ∨ (-(2 ^ 64) < j ∧ j < 2 ^ 64)
theorem CMul.ok {i j : Int} (h : CMul i j) : IntMulOk i j := by
  rcases h with ⟨h1, h2⟩ | ⟨h1, h2⟩
  · exact .of_left (intBits_le_64 h1 h2)
  · exact .of_right (intBits_le_64 h1 h2)
theorem op_add : OpR X (binaryOp .Add) (rI0 fun i j => .int (i + j)) := opI0 fun _ _ _ _ _ _ _ q => add_int q
theorem op_sub : OpR X (binaryOp .Sub) (rI0 fun i j => .int (i - j)) := opI0 fun _ _ _ _ _ _ _ q => sub_int q
theorem op_mul : OpR X (binaryOp .Mult) (rI CMul fun i j => .int (i * j)) := opI fun _ _ _ _ _ _ _ hc q => mul_int q hc.ok
/-- // by a positive divisor -/
theorem op_fdiv : OpR X (binaryOp .FloorDiv) (rI CDiv fun i j => .int (i / j)) := opI fun i j _ _ _ _ _ hc q => by
  have h1 : (0 : Int) < j := hc.1
  have h2 : j < 1073741824 := hc.2
  exact floordiv_int (by omega) (by rw [Int.fdiv_eq_ediv_of_nonneg i (by omega)]; exact q) (.inl (PyProof.noPylong_small (by omega)))
/-- % by a positive divisor of any size -/
theorem op_mod : OpR X (binaryOp .Mod) (rI (fun _ j => 0 < j) fun i j => .int (i % j)) := opI fun i j _ _ _ _ _ hc q => by
  have h1 : (0 : Int) < j := hc
  exact mod_int' (by omega) (by rw [Int.fmod_eq_emod_of_nonneg i (by omega)]; exact q)
theorem op_pow : OpR X (binaryOp .Pow) (rI CPow fun i j => .int (i ^ j.toNat)) := opI fun _ _ _ _ _ _ _ hc q => pow_int_small hc.1 hc.2.1 hc.2.2 q
theorem unI {f : Value → Sem Value} {g : Int → Int}
    (rule : ∀ (i : Int) (t : Tok) (s : Shared) (Q : Value → Shared → Prop) (E : Value → Shared → Prop), Q (.int (g i) s.toks) { s with toks := s.toks + 1 } → wpAny (model X.prog X.w) X.A (f (.int i t)) Q E s) :
    UnR X f (rU fun i => .int (g i)) := by
  intro pins s σ H x v Q I rx h
  obtain ⟨i, rfl, q⟩ := h
  obtain ⟨t, rfl⟩ := rx
  exact rule i t s _ _ ⟨.int (g i), H, I.tok _, ⟨_, rfl⟩, q⟩
theorem un_neg : UnR X (unaryOp .USub) (rU fun i => .int (-i)) := unI fun _ _ _ _ _ q => neg_int q
/-! ### bools among ints: n += (a < b) -/
end

/-! ### comparisons -/
/-- the scalars that == tells apart as data does -/
def scal : V → V → Bool
  | .non, .non => true | .non, .int _ => true | .int _, .non => true | .non, .bl _ => true | .bl _, .non => true | .non, .str _ => true | .str _, .non => true
  | .int _, .int _ => true | .bl _, .bl _ => true | .str _, .str _ => true | .byt _, .byt _ => true
  | .int _, .str _ => true | .str _, .int _ => true | .bl _, .str _ => true | .str _, .bl _ => true
  | _, _ => false
def rEq : R2 := fun x y H Q => scal x y = true ∧ Q (.bl (decide (x = y))) H
def rNe : R2 := fun x y H Q => scal x y = true ∧ Q (.bl (!decide (x = y))) H

theorem dec_int {i j : Int} : decide (V.int i = V.int j) = (i == j) := by
  rw [Bool.eq_iff_iff]
  simp
theorem dec_bl {i j : Bool} : decide (V.bl i = V.bl j) = (i == j) := by
  rw [Bool.eq_iff_iff]
  simp
theorem dec_str {i j : Str} : decide (V.str i = V.str j) = (i == j) := by
  rw [Bool.eq_iff_iff]
  simp
theorem dec_byt {i j : Array UInt8} : decide (V.byt i = V.byt j) = (i.toList == j.toList) := by
  rw [Bool.eq_iff_iff]
  cases i
  cases j
  simp

section
variable {X : Cx} {a b c : Expr} {ta tb tc : TE} {pos : Pos}
theorem fin_bl {pins : List (Addr × Obj)} {σ : St} {H : Hp} {s : Shared} {Q : VK} {k k' : Bool} (I : Inv X pins σ H s) (q : Q (.bl k) H) (e : k = k') : EP X pins σ Q (.bool k') s := by
  subst e
  exact ⟨.bl k, H, I, rfl, q⟩
theorem op_eq : OpR X (compareOp .Eq) rEq := by
  intro pins s σ H x y v u Q I rx ry h
  obtain ⟨hs, q⟩ := h
  cases x with
  | non =>
    cases rx
    cases y with
    | non => cases ry; exact PySem.EqNone.eq_none_none (fin_bl I q (by simp))
    | bl j => cases ry; exact PySem.EqNone.eq_none_bool (fin_bl I q (by simp))
    | int j => obtain ⟨t', rfl⟩ := ry; exact PySem.EqNone.eq_none_int (fin_bl I q (by simp))
    | str j => obtain ⟨t', rfl⟩ := ry; exact PySem.EqNone.eq_none_str (fin_bl I q (by simp))
    | _ => exact absurd (show false = true from hs) Bool.false_ne_true
  | bl i =>
    cases rx
    cases y with
    | non => cases ry; exact PySem.EqNone.eq_bool_none (fin_bl I q (by simp))
    | bl j => cases ry; exact eq_bool (fin_bl I q dec_bl)
    | str j => obtain ⟨t', rfl⟩ := ry; exact PySem.EqMixed.eq_bool_str (fin_bl I q (by simp))
    | _ => exact absurd (show false = true from hs) Bool.false_ne_true
  | int i =>
    obtain ⟨t, rfl⟩ := rx
    cases y with
    | non => cases ry; exact PySem.EqNone.eq_int_none (fin_bl I q (by simp))
    | int j => obtain ⟨t', rfl⟩ := ry; exact eq_int (fin_bl I q dec_int)
    | str j => obtain ⟨t', rfl⟩ := ry; exact PySem.EqMixed.eq_int_str (fin_bl I q (by simp))
    | _ => exact absurd (show false = true from hs) Bool.false_ne_true
  | str i =>
    obtain ⟨t, rfl⟩ := rx
    cases y with
    | non => cases ry; exact PySem.EqNone.eq_str_none (fin_bl I q (by simp))
    | bl j => cases ry; exact PySem.EqMixed.eq_str_bool (fin_bl I q (by simp))
    | int j => obtain ⟨t', rfl⟩ := ry; exact PySem.EqMixed.eq_str_int (fin_bl I q (by simp))
    | str j => obtain ⟨t', rfl⟩ := ry; exact eq_str (fin_bl I q dec_str)
    | _ => exact absurd (show false = true from hs) Bool.false_ne_true
  | byt i =>
    obtain ⟨t, rfl⟩ := rx
    cases y with
    | byt j => obtain ⟨t', rfl⟩ := ry; exact PySem.W.eq_bytes (fin_bl I q dec_byt)
    | _ => exact absurd (show false = true from hs) Bool.false_ne_true
  | _ => cases y <;> exact absurd (show false = true from hs) Bool.false_ne_true
theorem op_ne : OpR X (compareOp .NotEq) rNe := by
  intro pins s σ H x y v u Q I rx ry h
  obtain ⟨hs, q⟩ := h
  cases x with
  | non =>
    cases rx
    cases y with
    | non => cases ry; exact PySem.EqNone.ne_none_none (fin_bl I q (by simp))
    | bl j => cases ry; exact PySem.EqNone.ne_none_bool (fin_bl I q (by simp))
    | int j => obtain ⟨t', rfl⟩ := ry; exact PySem.EqNone.ne_none_int (fin_bl I q (by simp))
    | str j => obtain ⟨t', rfl⟩ := ry; exact PySem.EqNone.ne_none_str (fin_bl I q (by simp))
    | _ => exact absurd (show false = true from hs) Bool.false_ne_true
  | bl i =>
    cases rx
    cases y with
    | non => cases ry; exact PySem.EqNone.ne_bool_none (fin_bl I q (by simp))
    | bl j => cases ry; exact ne_bool (fin_bl I q (congrArg not dec_bl))
    | str j => obtain ⟨t', rfl⟩ := ry; exact PySem.EqMixed.ne_bool_str (fin_bl I q (by simp))
    | _ => exact absurd (show false = true from hs) Bool.false_ne_true
  | int i =>
    obtain ⟨t, rfl⟩ := rx
    cases y with
    | non => cases ry; exact PySem.EqNone.ne_int_none (fin_bl I q (by simp))
    | int j => obtain ⟨t', rfl⟩ := ry; exact ne_int (fin_bl I q (congrArg not dec_int))
    | str j => obtain ⟨t', rfl⟩ := ry; exact PySem.EqMixed.ne_int_str (fin_bl I q (by simp))
    | _ => exact absurd (show false = true from hs) Bool.false_ne_true
  | str i =>
    obtain ⟨t, rfl⟩ := rx
    cases y with
    | non => cases ry; exact PySem.EqNone.ne_str_none (fin_bl I q (by simp))
    | bl j => cases ry; exact PySem.EqMixed.ne_str_bool (fin_bl I q (by simp))
    | int j => obtain ⟨t', rfl⟩ := ry; exact PySem.EqMixed.ne_str_int (fin_bl I q (by simp))
    | str j => obtain ⟨t', rfl⟩ := ry; exact ne_str (fin_bl I q (congrArg not dec_str))
    | _ => exact absurd (show false = true from hs) Bool.false_ne_true
  | byt i =>
    obtain ⟨t, rfl⟩ := rx
    cases y with
    | byt j => obtain ⟨t', rfl⟩ := ry; exact PySem.W.ne_bytes (fin_bl I q (congrArg not dec_byt))
    | _ => exact absurd (show false = true from hs) Bool.false_ne_true
  | _ => cases y <;> exact absurd (show false = true from hs) Bool.false_ne_true

theorem op_lt : OpR X (compareOp .Lt) (rI0 fun i j => .bl (decide (i < j))) := opB0 fun _ _ _ _ _ _ _ q => lt_int q
theorem op_le : OpR X (compareOp .LtE) (rI0 fun i j => .bl (decide (i ≤ j))) := opB0 fun _ _ _ _ _ _ _ q => le_int q
theorem op_gt : OpR X (compareOp .Gt) (rI0 fun i j => .bl (decide (j < i))) := opB0 fun _ _ _ _ _ _ _ q => gt_int q
theorem op_ge : OpR X (compareOp .GtE) (rI0 fun i j => .bl (decide (j ≤ i))) := opB0 fun _ _ _ _ _ _ _ q => ge_int q
theorem op_notN : OpR X (compareOp .IsNot) (fun x y H Q => y = .non ∧ Q (.bl (!decide (x = .non))) H) := by
  intro pins s σ H x y v u Q I rx ry h
  obtain ⟨rfl, q⟩ := h
  cases ry
  refine isnot_none_gen (fin_bl I q ?_)
  cases x <;> first
    | (cases rx; rfl)
    | (obtain ⟨t, rfl⟩ := rx; rfl)

/-- is, is not of two objects that are tracked lists or instances -/
def isObj : HO → Bool
  | .lst _ => true
  | .ins _ _ _ => true
  | _ => false
theorem nomark (b : Expr) {op : CmpOp} (h : op ≠ .In := by decide) (h2 : op ≠ .NotIn := by decide) : behindInMarks op b = false := by
  have e1 : (op == CmpOp.In) = false := by cases op <;> first | rfl | exact absurd rfl h
  have e2 : (op == CmpOp.NotIn) = false := by cases op <;> first | rfl | exact absurd rfl h2
  cases b <;> simp [behindInMarks, e1, e2]
/-- a comparison as a value; hm: nomark b, or (for in, not in) by with_unfolding_all rfl -/
theorem pe_cmpR {op : CmpOp} {r : R2} (ho : OpR X (compareOp op) r) (ha : PE X a ta) (hb : PE X b tb) (hm : behindInMarks op b = false) : PE X (.Compare a [op] [b] pos) (tOp r ta tb) := by
  intro pins s σ H Q I h
  exact wpAny_Compare1 (binT ha hb I h fun v u s2 x y H2 I2 rx ry q => ho pins s2 σ H2 x y v u Q I2 rx ry q) hm
/-- a reading of a value as a test -/
def tTest (t : TE) : TT := fun σ H Q => t σ H fun x H' => ∃ k, x = .bl k ∧ Q k H'
theorem pt_cmpR {op : CmpOp} {r : R2} (ho : OpR X (compareOp op) r) (ha : PE X a ta) (hb : PE X b tb) (hm : behindInMarks op b = false) : PT X (.Compare a [op] [b] pos) (tTest (tOp r ta tb)) := by
  intro pins s σ H Q I h
  refine wpAny_isTrue_Compare1 (thn (ha pins s σ H _ I h) fun v s1 ⟨x, H1, I1, r1, q1⟩ => thn (hb pins s1 σ H1 _ I1 q1) fun u s2 ⟨y, H2, I2, r2, q2⟩ =>
    thn (ho pins s2 σ H2 x y v u _ I2 r1 r2 q2) fun c s3 ⟨z, H3, I3, r3, k, e, q3⟩ => ?_) hm
  subst e
  cases r3
  exact wpAny_truthy_bool ⟨H3, I3, q3⟩
/-- a op1 b op2 c -/
def tChain (r r' : R2) (ta tb tc : TE) : TE := fun σ H Q => ta σ H fun x H1 => tb σ H1 fun y H2 => r x y H2 fun z H3 => ∃ k, z = .bl k ∧
  (if k = true then tc σ H3 fun w' H4 => r' y w' H4 Q else Q (.bl false) H3)
theorem pe_chain {op op' : CmpOp} {r r' : R2} (ho : OpR X (compareOp op) r) (ho' : OpR X (compareOp op') r') (ha : PE X a ta) (hb : PE X b tb) (hc : PE X c tc)
    (hm : lastMarks [op, op'] [b, c] = false := by with_unfolding_all rfl) : PE X (.Compare a [op, op'] [b, c] pos) (tChain r r' ta tb tc) := by
  intro pins s σ H Q I h
  refine Compare_chain (thn (ha pins s σ H _ I h) fun v s1 ⟨x, H1, I1, r1, q1⟩ => chain_link (thn (hb pins s1 σ H1 _ I1 q1) fun u s2 ⟨y, H2, I2, r2, q2⟩ =>
    thn (ho pins s2 σ H2 x y v u _ I2 r1 r2 q2) fun d s3 ⟨z, H3, I3, r3, k, e, q3⟩ => ?_)) hm
  subst e
  cases r3
  refine wpAny_truthy_bool ?_
  cases k with
  | false => exact ite_ff ⟨.bl false, H3, I3, rfl, q3⟩
  | true => exact ite_tt (chain_last (thn (hc pins s3 σ H3 _ I3 q3) fun w' s4 ⟨z', H4, I4, r4, q4⟩ => ho' pins s4 σ H4 y z' u w' Q I4 r2 r4 q4))
/-! ### truth -/
/-- a value's truth by the abstract heap -/
def TruV (K : PySem.W.Frag) (x : V) (H : Hp) (k : Bool) : Prop :=
  match x with
  | .non => k = false
  | .bl b => k = b
  | .int i => k = (i != 0)
  | .str y => y.length ≤ sizeLine ∧ k = ((y.length : Int) != 0)
  | .byt y => y.size ≤ sizeLine ∧ k = ((y.size : Int) != 0)
  | .ref p => (∃ xs, SqL K H p xs ∧ k = !xs.isEmpty) ∨ (∃ xs, SqT K H p xs ∧ k = !xs.isEmpty) ∨ ∃ kvs, H p = some (.dK kvs) ∧ k = !kvs.isEmpty
  | _ => False
theorem line63 : (sizeLine : Nat) < 2 ^ 63 := by rw [sizeLine_eq]; decide
/-! ### strs and bytes -/
def PlainIxT (b : Expr) : Prop := ∀ o i, subscripted b false o i = operate [o, i] (getItem o i)
/-! ### scalar builtins, by CallR -/
theorem vals1 {x : V} {us : List Value} (r : Vals [x] us) : ∃ u, us = [u] ∧ RelV x u := by
  cases r with
  | cons r1 r2 => cases r2; exact ⟨_, rfl, r1⟩
theorem vals2 {x y : V} {us : List Value} (r : Vals [x, y] us) : ∃ u w', us = [u, w'] ∧ RelV x u ∧ RelV y w' := by
  cases r with
  | cons r1 r2 =>
    cases r2 with
    | cons r3 r4 => cases r4; exact ⟨_, _, rfl, r1, r3⟩
theorem call_min2 (hc : X.calm = true) : CallR X (.builtin "min") (fun xs H Q => ∃ i j, xs = [.int i, .int j] ∧ Q (.int (if j < i then j else i)) H) := by
  intro pins s σ H xs us Q I r h
  obtain ⟨i, j, rfl, q⟩ := h
  obtain ⟨u, w', rfl, ⟨t, rfl⟩, ⟨t', rfl⟩⟩ := vals2 r
  refine min_two_ints (I.ok.hd hc) fun h' tk k => ⟨_, H, I.kept k, ?_, q⟩
  by_cases hj : j < i
  · rw [if_pos hj, if_pos hj]; exact ⟨_, rfl⟩
  · rw [if_neg hj, if_neg hj]; exact ⟨_, rfl⟩
theorem call_int1 : CallR X (.type "int") (fun xs H Q => (∃ i, xs = [.int i] ∧ Q (.int i) H) ∨ ∃ k, xs = [.bl k] ∧ Q (.int (if k then 1 else 0)) H) := by
  intro pins s σ H xs us Q I r h
  rcases h with ⟨i, rfl, q⟩ | ⟨k, rfl, q⟩
  · obtain ⟨u, rfl, t, rfl⟩ := vals1 r
    exact call_int_int ⟨.int i, H, I, ⟨_, rfl⟩, q⟩
  · obtain ⟨u, rfl, r1⟩ := vals1 r
    cases r1
    exact call_int_bool ⟨.int (if k then 1 else 0), H, I.tok _, ⟨_, rfl⟩, q⟩
theorem call_str_int : CallR X (.type "str") (fun xs H Q => ∃ i, xs = [.int i] ∧ i.natAbs.log2 < 1920 ∧ Q (.str (toString i)) H) := by
  intro pins s σ H xs us Q I r h
  obtain ⟨i, rfl, hz, q⟩ := h
  obtain ⟨u, rfl, t, rfl⟩ := vals1 r
  exact PySem.P.str_of_int hz ⟨.str _, H, I.tok _, ⟨_, rfl⟩, q⟩
/-- len of a str, a bytes, a list, a tuple -/
def LenV (K : PySem.W.Frag) (x : V) (H : Hp) (n : Nat) : Prop :=
  match x with
  | .str y => y.length ≤ sizeLine ∧ n = y.length
  | .byt y => y.size ≤ sizeLine ∧ n = y.size
  | .ref p => (∃ xs, SqL K H p xs ∧ n = xs.length) ∨ ∃ xs, SqT K H p xs ∧ n = xs.length
  | _ => False
end
end L2

namespace L2
open PySem PySem.Spec PyProof.Rows

/-! ### an instance, its attributes a map -/
structure ObjM (h : Heap) (x dx C : Addr) (mA : Str → Option Value) : Prop where
  obj : h.get? x = some (PySem.W.instObj C dx)
  ns : h.Ns1 dx mA
  ne : dx ≠ x

section
variable {prog : Program} {w : World} {A : Around} {E : Value → Shared → Prop} {s : Shared} {K : PySem.W.Frag} {x dx C f : Addr} {mA : Str → Option Value} {name : Str} {v : Value}

end

/-! ### the attributes as a list of pairs -/
def putF (f : Str) (v : V) : List (Str × V) → List (Str × V)
  | [] => [(f, v)]
  | (g, x) :: r => if g = f then (g, v) :: r else (g, x) :: putF f v r
theorem RelO.some_of {v : V} {o : Option Value} (r : RelO (some v) o) : ∃ u, o = some u ∧ RelV v u := by
  cases o with
  | none => exact (show False from r).elim
  | some u => exact ⟨u, rfl, r⟩
section
variable {P : Program} {w : World} {H H' : Hp} {h h' : Heap} {a C dx : Addr} {fs fs' : List (Str × V)}
end

/-! ### what of the text a class must have -/
structure Cls (K : PySem.W.Frag) (C : Addr) : Prop where
  pg : PySem.W.plainGet K C Str.empty = true
  hd : PySem.W.hasDictIn K C = true
  po : PySem.W.plainOver K C = true
  sa : PySem.W.findIn K (.ref C) "__setattr__" = some (some (.builtin "object.__setattr__"))
/-- no class of it has the name -/
def NoAttr (K : PySem.W.Frag) (C : Addr) (f : Str) : Prop := PySem.W.findIn K (.ref C) f = some none
/-- a constant of the class -/
structure Con (K : PySem.W.Frag) (C : Addr) (f : Str) (v : V) (u : Value) : Prop where
  at_ : PySem.W.findIn K (.ref C) f = some (some u)
  rel : RelV v u
  get : PySem.W.specialIn K u "__get__" = some none
  cp : PySem.W.copiedNames.contains f = false
/-- a method: a plain def of the class or of one above it -/
structure Meth (K : PySem.W.Frag) (C : Addr) (m : Str) (f : Addr) : Prop where
  at_ : PySem.W.findIn K (.ref C) m = some (some (.ref f))
  fn : PySem.W.isFn K (.ref f) = true
  kp : PySem.W.keepIn K (.ref f) = true

section
variable {X : Cx} {pins : List (Addr × Obj)} {σ : St} {H : Hp} {s : Shared} {a C dx : Addr} {fs : List (Str × V)} {f : Str} {v : V} {A : Around} {E : Value → Shared → Prop}

/-- e.f where nothing but the object is asked: through attributeBase (super) and the last hold -/
theorem attr_of {prog : Program} {w : World} {env : Env} {e : Expr} {f : Str} {pos : Pos} {s : Shared} {Q : Value → Shared → Prop} (hb : attributeBase e f env (eval e env) = eval e env)
    (h : wpAny (model prog w) A (eval e env) (fun o s₁ => wpAny (model prog w) A (getAttr o f true) Q E s₁) E s) : wpAny (model prog w) A (eval (.Attribute e f pos) env) Q E s :=
  Attribute_any_ h (by rw [arm_eval_Attribute, hb])
end

/-! ### readings and rules -/
/-- e.f, an attribute of the instance -/
def tFld (K : PySem.W.Frag) (ta : TE) (f : Str) : TE := fun σ H Q => ta σ H fun x H1 => ∃ a C dx fs v, x = .ref a ∧ H1 a = some (.ins C dx fs) ∧ Cls K C ∧ NoAttr K C f ∧ fs.lookup f = some v ∧ Q v H1
/-- e.f, a constant of the class -/
def tCon (K : PySem.W.Frag) (ta : TE) (f : Str) : TE := fun σ H Q => ta σ H fun x H1 => ∃ a C dx fs v u, x = .ref a ∧ H1 a = some (.ins C dx fs) ∧ Cls K C ∧ Con K C f v u ∧ fs.lookup f = none ∧ Q v H1
/-- e.f = value -/
def sFld (K : PySem.W.Frag) (ta tv : TE) (f : Str) : TS := fun D σ H => tv σ H fun y H1 => ta σ H1 fun x H2 => ∃ a C dx fs, x = .ref a ∧ H2 a = some (.ins C dx fs) ∧ Cls K C ∧ NoAttr K C f ∧ fs.length < 1000 ∧
  D.nx σ (upd H2 a (.ins C dx (putF f y fs)))
/-- an augmented operator on two values -/
def InOp (X : Cx) (op : Operator) (rd : V → V → Hp → VK → Prop) : Prop :=
  ∀ (pins : List (Addr × Obj)) (s : Shared) (σ : St) (H : Hp) (x y : V) (u v : Value) (Q : VK), Inv X pins σ H s → RelV x u → RelV y v → rd x y H Q → wpAny (model X.prog X.w) X.A (inplaceOp op u v) (EP X pins σ Q) X.xe s
/-- e.f op= value -/
def sFldAug (K : PySem.W.Frag) (ta tv : TE) (rd : V → V → Hp → VK → Prop) (f : Str) : TS := fun D σ H => ta σ H fun x H1 => ∃ a C dx fs v, x = .ref a ∧ H1 a = some (.ins C dx fs) ∧ Cls K C ∧ NoAttr K C f ∧ fs.lookup f = some v ∧
  tv σ H1 fun y H2 => rd v y H2 fun z H3 => ∃ dx' fs', H3 a = some (.ins C dx' fs') ∧ fs'.length < 1000 ∧ D.nx σ (upd H3 a (.ins C dx' (putF f z fs')))

section
variable {X : Cx} {o e value : Expr} {f : Str} {pos pos' tpos : Pos} {ta tv : TE}
def rAdd : V → V → Hp → VK → Prop := fun x y H Q => ∃ i j, x = .int i ∧ y = .int j ∧ Q (.int (i + j)) H
def rSub : V → V → Hp → VK → Prop := fun x y H Q => ∃ i j, x = .int i ∧ y = .int j ∧ Q (.int (i - j)) H
end

/-! ### isinstance -/
section
variable {X : Cx} {pins : List (Addr × Obj)} {σ : St} {H : Hp} {s : Shared} {A : Around} {E : Value → Shared → Prop} {Q : Value → Shared → Prop} {c : Value} {b : Bool}
/-- the type of a value, as the fragment's deciders take it; for an instance its class -/
inductive TyOf (K : PySem.W.Frag) (H : Hp) : V → Value → Prop where
  | non : TyOf K H .non (.type "NoneType")
  | bl (x : Bool) : TyOf K H (.bl x) (.type "bool")
  | int (i : Int) : TyOf K H (.int i) (.type "int")
  | str (x : Str) : TyOf K H (.str x) (.type "str")
  | flt (x : UInt64) : TyOf K H (.flt x) (.type "float")
  | lst {a : Addr} {xs : List V} (e : H a = some (.lst xs)) : TyOf K H (.ref a) (.type "list")
  | frz {a : Addr} {o : Obj} {xs : List V} (e : H a = some (.frz o (.lst xs))) : TyOf K H (.ref a) (.type "list")
  | tup {a : Addr} {xs : List V} (e : H a = some (.tup xs)) : TyOf K H (.ref a) (.type "tuple")
  | dK {a : Addr} {kvs : List (Key × V)} (e : H a = some (.dK kvs)) : TyOf K H (.ref a) (.type "dict")
  | dT {a : Addr} {kvs : List (List Key × V)} (e : H a = some (.dT kvs)) : TyOf K H (.ref a) (.type "dict")
  | ins {a C dx : Addr} {fs : List (Str × V)} (e : H a = some (.ins C dx fs)) (cl : Cls K C) (ha : PySem.W.findIn K (.ref C) "__class__" = some (some (.builtin "object.__class__")))
      (hn : PySem.W.specialIn K (.builtin "object.__class__") "__get__" = some (some (.builtin "getset_descriptor.__get__"))) (htk : PySem.W.takesIn K (.builtin "object.__class__") = some true)
      (hm : PySem.W.mroIn K C (.type "object") = some true) : TyOf K H (.ref a) (.ref C)
end
end L2

namespace L2
open PySem PySem.Spec PyProof.Rows

/-! ### room -/
structure Room (k : Nat) (A : Around) : Prop where
  hd : A.handled = none
  dp : A.depth + 3 * k + 5 < recursionLimit
  un : A.units + 16 * k + 200 < cLine
  gd : A.guards = some []
theorem Room.mono {j k : Nat} {A : Around} (r : Room k A) (h : j ≤ k) : Room j A := ⟨r.hd, by have := r.dp; omega, by have := r.un; omega, r.gd⟩
theorem Room.deeper {k : Nat} {A : Around} (r : Room (k + 1) A) (env : Env) : Room k (A.deeper env) :=
  ⟨r.hd, by have := r.dp; show A.depth + 1 + 3 * k + 5 < _; omega, by have := r.un; show A.units + 3 + 16 * k + 200 < _; omega, r.gd⟩
theorem make_depth {A : Around} {C : Addr} {us : List Value} {kw : List (Str × Value)} : (A.under (.builtin "type.__call__" ⟨.ref C :: us, kw⟩)).depth = A.depth + 1 := by
  first | rfl | simp [Around.under, Code.weight, Code.isCreation, Code.isGuard, Code.isCaller, Code.frames, Code.isFrame, guardIds]
theorem make_units {A : Around} {C : Addr} {us : List Value} {kw : List (Str × Value)} : (A.under (.builtin "type.__call__" ⟨.ref C :: us, kw⟩)).units = A.units + 1 := by
  first | rfl | simp [Around.under, Code.cUnits, Code.frames, Code.isFrame]
theorem make_guards {A : Around} {C : Addr} {us : List Value} {kw : List (Str × Value)} (h : A.guards = some []) : (A.under (.builtin "type.__call__" ⟨.ref C :: us, kw⟩)).guards = some [] := by
  first | exact h | (simpa [Around.under, Code.weight, Code.isCreation, Code.isGuard, Code.isCaller, Code.frames, Code.isFrame, guardIds] using h)
theorem Room.make {k : Nat} {A : Around} (r : Room (k + 1) A) (C : Addr) (us : List Value) (kw : List (Str × Value)) : Room k (A.under (.builtin "type.__call__" ⟨.ref C :: us, kw⟩)) :=
  ⟨r.hd, by have := r.dp; rw [make_depth]; omega, by have := r.un; rw [make_units]; omega, make_guards r.gd⟩
theorem Room.depth {k : Nat} {A : Around} (r : Room k A) : A.depth < recursionLimit := by have := r.dp; omega
theorem Room.units {k : Nat} {A : Around} (r : Room k A) : A.units + 64 < cLine := by have := r.un; omega
/-! ### argument lists and displays -/
def tNil : TA := fun _ H Q => Q [] H
def tCons (ta : TE) (tr : TA) : TA := fun σ H Q => ta σ H fun x H1 => tr σ H1 fun xs H2 => Q (x :: xs) H2
section
variable {X : Cx} {e : Expr} {es : List Expr} {te : TE} {t : TA} {pos : Pos}
theorem pa_nil : PA X [] tNil := fun _ _ _ _ H Q I h => Calls.spliced_nil ⟨[], H, I, .nil, h⟩
theorem pa_cons (ha : PE X e te) (hr : PA X es t) (hs : starEach (e :: es) X.env = (false, eval e X.env) :: starEach es X.env := by rfl) : PA X (e :: es) (tCons te t) := by
  intro pos pins s σ H Q I h
  rw [hs]
  show wpAny _ _ (spliced ((false, eval e X.env) :: backTo pos (starEach es X.env))) _ _ s
  refine Calls.spliced_cons (thn (ha pins s σ H _ I h) fun u s1 ⟨x, H1, I1, r1, q1⟩ => ?_)
  exact thn (hr pos pins s1 σ H1 _ I1 q1) fun us s2 ⟨xs, H2, I2, r2, q2⟩ => ⟨x :: xs, H2, I2, .cons r1 r2, q2⟩

/-- a tuple, a list of written items -/
def tTup (t : TA) : TE := fun σ H Q => t σ H fun xs H1 => xs.length ≤ sizeLine ∧ ∀ p, H1 p = none → Q (.ref p) (upd H1 p (.tup xs))
def tLst (t : TA) : TE := fun σ H Q => t σ H fun xs H1 => xs.length ≤ sizeLine ∧ ∀ p, H1 p = none → Q (.ref p) (upd H1 p (.lst xs))
theorem pe_tup {x1} (h : PA X es t) : PE X (.Tuple es x1 pos) (tTup t) := by
  intro pins s σ H Q I hq
  refine wpAny_Tuple_spliced (thn (h pos pins s σ H _ I hq) fun us s1 ⟨xs, H1, I1, r, z, q⟩ => ⟨by rw [← r.length]; exact z, ?_⟩)
  have hf : H1 s1.heap.objs.size = none := I1.hok.fresh (Nat.le_refl _)
  refine ⟨.ref s1.heap.objs.size, upd H1 s1.heap.objs.size (.tup xs), I1.laid (t' := s1.toks) (fun b u e => Heap.get?_push_of_some _ e) (Nat.le_refl _) ?_, rfl, q _ hf⟩
  exact ⟨z, us, r, ⟨_, Heap.get?_push_size _ rfl, rfl, _, rfl⟩⟩
theorem pe_lst (h : PA X es t) : PE X (.List es pos) (tLst t) := by
  intro pins s σ H Q I hq
  refine wpAny_List_spliced (thn (h pos pins s σ H _ I hq) fun us s1 ⟨xs, H1, I1, r, z, q⟩ => ⟨by rw [← r.length]; exact z, ?_⟩)
  have hf : H1 s1.heap.objs.size = none := I1.hok.fresh (Nat.le_refl _)
  refine ⟨.ref s1.heap.objs.size, upd H1 s1.heap.objs.size (.lst xs), I1.laid (t' := s1.toks) (fun b u e => Heap.get?_push_of_some _ e) (Nat.le_refl _) ?_, rfl, q _ hf⟩
  exact ⟨z, us, 0, r, Heap.get?_push_size _ rfl⟩
end

/-! ### what a def promises -/
/-- a def's promise: the bound arguments in the parameters' order, the heap, the wanted end, the wanted exception -/
abbrev Sp := List V → Hp → VK → XK → Prop
/-- how an exception lies behind a call (file 08 gives it): the callers' frames, abstract heap and state ahead of the call, the wish, the exception, the state -/
abbrev CXT := List Env → Hp → Shared → XK → Value → Shared → Prop

/-- the state at a call -/
structure Env0 (P : Program) (w : World) (K : PySem.W.Frag) (mg : Str → Option Value) (base : Heap) (A : Around) (outer : List Env) (s : Shared) (H : Hp) : Prop where
  frames : A.frames = some outer
  mod : Mod K mg base
  bs : ∀ b o, base.get? b = some o → s.heap.get? b = some o ∧ H b = none
  bsz : base.objs.size ≤ s.heap.objs.size
  funs : s.heap.FunFrames base outer
  frf : ∀ b ∈ frs outer, H b = none
  hok : HOk P w H s.heap
  bare : AllBare s.gens
/-- a call's end -/
def CE (outer : List Env) (P : Program) (w : World) (H : Hp) (s : Shared) (Q : VK) (u : Value) (s' : Shared) : Prop :=
  ∃ v H', s'.os = s.os ∧ AllBare s'.gens ∧ Un (frs outer) [] H H' s.heap s'.heap ∧ HOk P w H' s'.heap ∧ RelV v u ∧ Q v H'
def CR (CX : CXT) (outer : List Env) (P : Program) (w : World) (H : Hp) (s : Shared) (Q : VK) (E : XK) (r : Result) (s' : Shared) : Prop :=
  match r with
  | .ok (.ret u) => CE outer P w H s Q u s'
  | .ok _ => False
  | .error e => CX outer H s E e s'
structure FnOk (P : Program) (w : World) (K : PySem.W.Frag) (mg : Str → Option Value) (base : Heap) (CX : CXT) (k : Nat) (f : Addr) (fd : FuncData) (ps : List Str) (sp : Sp) : Prop where
  len : ∀ vs H Q E, sp vs H Q E → vs.length = ps.length
  run : ∀ (A : Around) (outer : List Env) (s : Shared) (H : Hp) (args : Args) (us : List Value) (vs : List V) (Q : VK) (E : XK), Room k A → Env0 P w K mg base A outer s H → BindsTo s fd args (ps.zip us) → Vals vs us → sp vs H Q E →
    codeAny (model P w) A (.call (.ref f) args) (CR CX outer P w H s Q E) s
section
variable {X : Cx} {pins : List (Addr × Obj)} {σ : St} {H : Hp} {s s' : Shared}
/-- from a body: what a callee wants -/
theorem Inv.env0 (I : Inv X pins σ H s) : Env0 X.prog X.w X.K X.mg X.base X.A X.stack s H :=
  ⟨I.ok.frames, I.ok.mod, I.bs, Nat.le_trans I.ok.bsz I.sz, I.stack, I.stkFree, I.hok, I.bare⟩
/-- behind a call -/
theorem Inv.after {Q : VK} {u : Value} (I : Inv X pins σ H s) (h : CE X.stack X.prog X.w H s Q u s') : EP X pins σ Q u s' := by
  obtain ⟨v, H', os, bare, un, hok, r, q⟩ := h
  obtain ⟨hh, g, d, t, os'⟩ := s'
  obtain rfl : os' = s.os := os
  exact ⟨v, H', I.call (h' := hh) (g' := g) (d' := d) (t' := t) (ch := []) un hok bare (fun b z => absurd z (by simp)), r, q⟩
end

/-! ### calls -/
/-- f(..): the written arguments, then the defaults dvs; E: what is wanted of an exception -/
def tCall (sp : Sp) (dvs : List V) (E : XK) (t : TA) : TE := fun σ H Q => t σ H fun vs H1 => sp (vs ++ dvs) H1 Q E
/-- o.m(..) of an instance of the class at C -/
def tMeth (C : Addr) (m : Str) (sp : Sp) (dvs : List V) (E : XK) (ta : TE) (t : TA) : TE := fun σ H Q => ta σ H fun x H1 => ∃ a dx fs, x = .ref a ∧ H1 a = some (.ins C dx fs) ∧ fs.lookup m = none ∧
  t σ H1 fun vs H2 => sp (x :: (vs ++ dvs)) H2 Q E
/-- C(..): a new instance and its dict, then __init__ -/
def tMake (C : Addr) (sp : Sp) (dvs : List V) (E : XK) (t : TA) : TE := fun σ H Q => t σ H fun vs H1 => ∀ x dx, H1 x = none → H1 dx = none → dx ≠ x →
  sp (.ref x :: (vs ++ dvs)) (upd (upd H1 dx (.own x)) x (.ins C dx [])) (fun v H2 => v = .non ∧ Q (.ref x) H2) E

/-- how the parameters are bound: us the positional arguments, kw the keywords' values by name, ds the defaults that fill up -/
def Binds (K : PySem.W.Frag) (fd : FuncData) (ps : List Str) (ds : List Value) : Prop :=
  ∀ (s : Shared) (us : List Value), K.In s.heap → (us ++ ds).length = ps.length → BindsTo s fd ⟨us, []⟩ (ps.zip (us ++ ds))
/-- every parameter is given -/
theorem Binds.all {K : PySem.W.Frag} {fd : FuncData} {ps : List Str} (h : ∀ us : List Value, us.length = ps.length → bindArgs fd ⟨us, []⟩ = pure (ps.zip us)) : Binds K fd ps [] := fun s us _ hl => by
  rw [List.append_nil] at hl ⊢
  exact .of_eq (h us hl)

/-- an exception of a callee reaches what this body wants of exceptions -/
def Passes (CX : CXT) (X : Cx) (E : XK) : Prop := ∀ (pins : List (Addr × Obj)) (σ : St) (H : Hp) (s : Shared) (e : Value) (s' : Shared), Inv X pins σ H s → CX X.stack H s E e s' → X.xe e s'

section
variable {X : Cx} {CX : CXT} {k : Nat} {f C : Addr} {fd : FuncData} {ps : List Str} {sp : Sp} {dvs : List V} {ds : List Value} {E : XK} {x m : Str} {p pos apos : Pos} {e o : Expr} {es : List Expr} {ta : TE} {t : TA}

/-- the callee runs -/
theorem run_fn {pins : List (Addr × Obj)} {σ : St} {H : Hp} {s : Shared} {Q : VK} {us : List Value} {vs : List V} (F : FnOk X.prog X.w X.K X.mg X.base CX k f fd ps sp) (hr : Room k X.A) (hb : Binds X.K fd ps ds) (hd : Vals dvs ds) (hx : Passes CX X E)
    (I : Inv X pins σ H s) (r : Vals vs us) (h : sp (vs ++ dvs) H Q E) : wpAny (model X.prog X.w) X.A (call (.ref f) us) (EP X pins σ Q) X.xe s := by
  have r2 : Vals (vs ++ dvs) (us ++ ds) := r.append hd
  have hl : (us ++ ds).length = ps.length := by rw [← r2.length]; exact F.len _ _ _ _ h
  refine wpAny_call (codeAny_mono (F.run X.A X.stack s H ⟨us, []⟩ (us ++ ds) (vs ++ dvs) Q E hr I.env0 (hb s us I.kIn hl) r2 h) fun r s' hq => ?_)
  cases r with
  | error e => exact hx pins σ H s e s' I hq
  | ok fl =>
    cases fl with
    | ret u => exact I.after hq
    | next => exact False.elim hq
    | brk => exact False.elim hq
    | cont => exact False.elim hq

theorem pe_call (F : FnOk X.prog X.w X.K X.mg X.base CX k f fd ps sp) (hr : Room k X.A) (hg : Gl X x) (hm : X.mg x = some (.ref f)) (hk : PySem.W.keepIn X.K (.ref f) = true) (hb : Binds X.K fd ps ds) (hd : Vals dvs ds) (hx : Passes CX X E)
    (ha : PA X (e :: es) t) (hdb : (x == ("__debug__" : Str)) = false := by decide) (he : starEach (e :: es) X.env = (false, eval e X.env) :: starEach es X.env := by rfl) (hpl : (backTo pos (starEach es X.env)).any (·.1) = false := by rfl) :
    PE X (.Call (.Name x p) (e :: es) [] pos) (tCall sp dvs E t) := by
  intro pins s σ H Q I h
  refine wpAny_Call_Name_kw (ld_glob I hg hm ?_ hdb)
  refine PySem.W.callWith_K (h₀ := X.base) I.ok.mod.kin hk (thn (ha pos pins s σ H _ I h) fun us s1 ⟨vs, H1, I1, r, q⟩ => ⟨I1.kIn, ?_⟩) he hpl
  exact run_fn F hr hb hd hx I1 r q
/-- what a class must have to be made -/
structure Mk (K : PySem.W.Frag) (C f : Addr) : Prop where
  makes : PySem.W.makesIn K C = true
  init : PySem.W.findIn K (.ref C) "__init__" = some (some (.ref f))
  fn : PySem.W.isFn K (.ref f) = true
  kp : PySem.W.keepIn K (.ref C) = true

end

/-! ### keywords -/
/-- the values of the keywords, from the left -/
def PK (X : Cx) (kws : List Keyword) (t : TA) : Prop :=
  ∀ (pos : Pos) (pins : List (Addr × Obj)) (s : Shared) (σ : St) (H : Hp) (Q : List V → Hp → Prop), Inv X pins σ H s → t σ H Q → wpAny (model X.prog X.w) X.A (evalAll ((backToKw pos (keywordEach kws X.env)).map (·.2))) (AP X pins σ Q) X.xe s
section
variable {X : Cx} {CX : CXT} {k : Nat} {f C : Addr} {fd : FuncData} {ps ks : List Str} {sp : Sp} {E : XK} {x m : Str} {p pos apos kpos : Pos} {e o : Expr} {es : List Expr} {kws : List Keyword} {te ta : TE} {t tk : TA} {nm : Option Str}
/-- how a call with keywords binds: g puts the positional values us and the keywords' values ws (names ks) in the parameters' order, defaults among them -/
structure KBinds (K : PySem.W.Frag) (fd : FuncData) (ps ks : List Str) (g : List Value → List Value → List Value) (gV : List V → List V → List V) : Prop where
  to : ∀ (s : Shared) (us ws : List Value), K.In s.heap → (g us ws).length = ps.length → BindsTo s fd ⟨us, ks.zip ws⟩ (ps.zip (g us ws))
  rel : ∀ {vs : List V} {us : List Value} {zs : List V} {ws : List Value}, Vals vs us → Vals zs ws → Vals (gV vs zs) (g us ws)
def tCallK (sp : Sp) (gV : List V → List V → List V) (E : XK) (t tk : TA) : TE := fun σ H Q => t σ H fun vs H1 => tk σ H1 fun zs H2 => sp (gV vs zs) H2 Q E
variable {g : List Value → List Value → List Value} {gV : List V → List V → List V}
end

/-! ### a def's body keeps its promise -/
/-- names: the parameters first -/
structure FnScope (N P : List Str) (sc : Scope) : Prop where
  kind : sc.kind = .function
  co : sc.isCoroutine = false
  gen : sc.isGenerator = false
  nd : N.Nodup
  pre : N.take P.length = P
  par : ∀ x ∈ P, sc.names.lookup x = some .local ∨ sc.names.lookup x = some .cell
  nofree : ∀ y ∈ sc.names, y.2 ≠ .free

theorem bindL_out {kindOf : Str → Option NameKind} {x : Str} : ∀ {binds : List (Str × Value)} {m : Str → Option Value}, (∀ v, (x, v) ∉ binds) → bindL kindOf binds m x = m x
  | [], _, _ => rfl
  | (n, v) :: r, m, h => by
    unfold bindL
    rw [bindL_out fun w hw => h w (List.mem_cons_of_mem _ hw)]
    split
    · have : x ≠ n := by rintro rfl; exact h v List.mem_cons_self
      simp [this]
    · rfl
theorem bindC_out {kindOf : Str → Option NameKind} {x : Str} : ∀ {binds : List (Str × Value)} {m : Str → Option Value}, (∀ v, (x, v) ∉ binds) → bindC kindOf binds m x = m x
  | [], _, _ => rfl
  | (n, v) :: r, m, h => by
    unfold bindC
    rw [bindC_out fun w hw => h w (List.mem_cons_of_mem _ hw)]
    split
    · rfl
    · have : x ≠ n := by rintro rfl; exact h v List.mem_cons_self
      simp [this]
theorem bindL_get {kindOf : Str → Option NameKind} {x : Str} {v : Value} : ∀ {P : List Str} {vs : List Value} {i : Nat} {m : Str → Option Value}, P.Nodup → P[i]? = some x → vs[i]? = some v → kindOf x = some .local →
    bindL kindOf (P.zip vs) m x = some v
  | [], _, _, _, _, h, _, _ => by simp at h
  | _ :: _, [], _, _, _, _, h, _ => by simp at h
  | p :: P, w :: vs, 0, m, nd, h1, h2, hk => by
    simp at h1 h2; subst h1; subst h2
    show bindL kindOf ((p, w) :: P.zip vs) m p = _
    unfold bindL
    rw [bindL_out fun v hv => (List.nodup_cons.mp nd).1 (List.of_mem_zip hv).1, if_pos hk]
    simp
  | p :: P, w :: vs, i + 1, m, nd, h1, h2, hk => by
    show bindL kindOf ((p, w) :: P.zip vs) m x = _
    unfold bindL
    exact bindL_get (i := i) (List.nodup_cons.mp nd).2 (by simpa using h1) (by simpa using h2) hk
theorem bindC_get {kindOf : Str → Option NameKind} {x : Str} {v : Value} : ∀ {P : List Str} {vs : List Value} {i : Nat} {m : Str → Option Value}, P.Nodup → P[i]? = some x → vs[i]? = some v → kindOf x ≠ some .local →
    bindC kindOf (P.zip vs) m x = some v
  | [], _, _, _, _, h, _, _ => by simp at h
  | _ :: _, [], _, _, _, _, h, _ => by simp at h
  | p :: P, w :: vs, 0, m, nd, h1, h2, hk => by
    simp at h1 h2; subst h1; subst h2
    show bindC kindOf ((p, w) :: P.zip vs) m p = _
    unfold bindC
    rw [bindC_out fun v hv => (List.nodup_cons.mp nd).1 (List.of_mem_zip hv).1, if_neg hk]
    simp
  | p :: P, w :: vs, i + 1, m, nd, h1, h2, hk => by
    show bindC kindOf ((p, w) :: P.zip vs) m x = _
    unfold bindC
    exact bindC_get (i := i) (List.nodup_cons.mp nd).2 (by simpa using h1) (by simpa using h2) hk

/-- the names' values at the entry -/
def start (N : List Str) (vs : List V) : St := vs.map some ++ List.replicate (N.length - vs.length) none

/-- the context of a def's body, at its entry; an exception leaves the frame, then lies as CX says -/
def cxOf (CX : CXT) (P : Program) (w : World) (K : PySem.W.Frag) (mg : Str → Option Value) (base : Heap) (N : List Str) (qual : Str) (scope : Scope) (f : Addr) (cd : Value) (A : Around) (outer : List Env) (s : Shared) (H : Hp) (E : XK) : Cx where
  prog := P
  w := w
  K := K
  mg := mg
  base := base
  A := A.deeper (envOfC qual scope s.heap.objs.size f cd)
  N := N
  s₀ := s
  H₀ := H
  env := envOfC qual scope s.heap.objs.size f cd
  outer := outer
  stack := envOfC qual scope s.heap.objs.size f cd :: outer
  ex := []
  calm := true
  fn := fun _ => true
  pn := []
  xe := fun e s' => wpAny (model P w) (A.deeper (envOfC qual scope s.heap.objs.size f cd)) (leaving (envOfC qual scope s.heap.objs.size f cd) e) (fun _ s'' => CX outer H s E e s'') (fun e' s'' => CX outer H s E e' s'') s'

theorem cell_has {sc : Scope} {n : Nat} {x : Str} (h : sc.names.lookup x = some .cell) : ∃ c, (cellsFrom n sc.names []).lookup x = some c := by
  have q := PySem.W.cellsFrom_some sc.names n [] (.inl h)
  exact Option.isSome_iff_exists.mp q

theorem inv_start {CX : CXT} {P : Program} {w : World} {K : PySem.W.Frag} {mg : Str → Option Value} {base : Heap} {N ps : List Str} {qual : Str} {scope : Scope} {f : Addr} {cd : Value} {A : Around} {outer : List Env} {s s1 : Shared} {H : Hp} {E : XK} {us : List Value} {vs : List V}
    (S : FnScope N ps scope) (hd : A.handled = none) (e0 : Env0 P w K mg base A outer s H) (hl : vs.length = ps.length) (r : Vals vs us)
    (x : InCallC s s.heap.objs.size (bindL (envOfC qual scope s.heap.objs.size f cd).kindOf (ps.zip us) fun _ => none) (cellsFrom (s.heap.objs.size + 1) scope.names []) (bindC (envOfC qual scope s.heap.objs.size f cd).kindOf (ps.zip us) fun _ => none) s1) :
    Inv (cxOf CX P w K mg base N qual scope f cd A outer s H E) [] (start N vs) H s1 := by
  have hpl : ps.length ≤ N.length := by have := congrArg List.length S.pre; rw [List.length_take] at this; omega
  obtain ⟨h1, tk, rfl, hk⟩ := x.done
  have noA : ∀ b : Addr, b ∉ (cxOf CX P w K mg base N qual scope f cd A outer s H E).ex := fun b z => absurd (show b ∈ ([] : List Addr) from z) (by simp)
  refine ⟨⟨e0.mod, S.kind, rfl, rfl, Nat.le_refl _, fun y z c h1 h2 => ?_, fun y hy => ?_, fun y c _ h => ?_, fun _ => hd, Around.frames_deeper e0.frames, .inr ⟨rfl, rfl⟩, fun b z => absurd z (noA b), e0.bs, e0.bsz, fun b _ _ => noA b, fun b z => absurd z (noA b), e0.funs, e0.frf⟩,
    rfl, e0.bare, Un.kept hk, ⟨_, x.toInCall.ns, fun i y v h1 h2 h3 => ?_⟩, fun y c h => ⟨_, x.cell y c h⟩, e0.hok.fresh (Nat.le_refl _), fun y c h => ?_, fun p hp => absurd (show p ∈ ([] : List (Addr × Obj)) from hp) (by simp), e0.hok.kept hk, ?_⟩
  · exact name_of_addr x.apart (PySem.mem_of_lookup h1) (PySem.mem_of_lookup h2)
  · have hy : scope.names.lookup y = some .cell ∨ scope.names.lookup y = some .free := hy
    rcases hy with hy | hy
    · exact cell_has hy
    · exact absurd rfl (S.nofree _ (PySem.mem_of_lookup hy))
  · exact Nat.le_of_lt (x.above y c (PySem.mem_of_lookup h))
  · have hi : i < vs.length := by
      unfold start at h2
      by_cases hi : i < vs.length
      · exact hi
      · rw [List.getElem?_append_right (by simpa using hi)] at h2
        rw [List.getElem?_replicate] at h2
        split at h2 <;> cases h2
    have ha : vs[i]? = some v := by
      unfold start at h2
      rw [List.getElem?_append_left (by simpa using hi), List.getElem?_map] at h2
      cases e : vs[i]? with
      | none => rw [e] at h2; cases h2
      | some a => rw [e] at h2; cases h2; rfl
    obtain ⟨u, hu, rv⟩ := r.get ha
    have hp : ps[i]? = some y := by
      rw [← S.pre, List.getElem?_take_of_lt (by omega)]; exact h1
    have ndP : ps.Nodup := by rw [← S.pre]; exact S.nd.sublist (List.take_sublist _ _)
    refine ⟨u, rv, ?_⟩
    rcases S.par y (List.mem_of_getElem? hp) with k | k
    · exact .inl ⟨k, bindL_get ndP hp hu k⟩
    · obtain ⟨c, e⟩ := cell_has (n := s.heap.objs.size + 1) k
      refine .inr ⟨.inl k, c, e, ?_⟩
      have q := x.cell y c e
      rw [bindC_get ndP hp hu (by show scope.names.lookup y ≠ _; rw [k]; decide)] at q
      exact q
  · exact e0.hok.fresh (Nat.le_of_lt (x.above y c (PySem.mem_of_lookup h)))
  · unfold start
    show _ = N.length
    rw [List.length_append, List.length_map, List.length_replicate]
    omega

/-- THE RULE: a def (or a method) of the text, by its body. The body's reading t is chosen for each entry; it is run at the parameters' values -/
theorem fn_of {CX : CXT} {P : Program} {w : World} {K : PySem.W.Frag} {mg : Str → Option Value} {base : Heap} {k : Nat} {f : Addr} {name qual : Str} {params : Arguments} {body : List Stmt} {scope : Scope} {dV kV doc pm cdv ct oc : Value} {an od : Option Addr}
    {osl : Array (Option Value)} {N ps : List Str} {sp : Sp} (lk : K.lookup f = some ⟨oc, od, .func (PySem.W.fnOf name qual params body scope dV kV doc pm an cdv ct), osl⟩) (hcd : PySem.W.codeIn K cdv qual = true) (S : FnScope N ps scope)
    (len : ∀ vs H Q E, sp vs H Q E → vs.length = ps.length)
    (hbody : ∀ (A : Around) (outer : List Env) (s : Shared) (H : Hp) (vs : List V) (Q : VK) (E : XK), Room k (A.deeper (envOfC qual scope s.heap.objs.size f cdv)) → sp vs H Q E →
      ∃ t, PSs (cxOf CX P w K mg base N qual scope f cdv A outer s H E) body t ∧ t { nx := fun _ H' => Q .non H', rt := Q } (start N vs) H) :
    FnOk P w K mg base CX (k + 1) f (PySem.W.fnOf name qual params body scope dV kV doc pm an cdv ct) ps sp := by
  refine ⟨len, fun A outer s H args us vs Q E hr e0 hb r hsp => ?_⟩
  have hl := len _ _ _ _ hsp
  have KX : K.In s.heap := e0.mod.kin.keeps fun b o e => (e0.bs b o e).1
  have lim : s.heap.NoLimit := e0.mod.nolimit.keeps fun b o e => (e0.bs b o e).1
  have hkind : ∀ y ∈ ps.zip us, scope.names.lookup y.1 = some .local ∨ (scope.names.lookup y.1 = some .cell ∧ ((cellsFrom (s.heap.objs.size + 1) scope.names []).lookup y.1).isSome = true) := fun ⟨n, v⟩ hy => by
    rcases S.par n (List.of_mem_zip hy).1 with q | q
    · exact .inl q
    · exact .inr ⟨q, PySem.W.cellsFrom_some _ _ _ (.inl q)⟩
  refine codeAny_call_function hr.depth (KX _ _ lk) rfl S.co S.gen rfl (PySem.W.codeRec_of KX hcd) (hb _ _ _ _ ?_)
  refine wpAny_newFunctionEnv_cells S.kind hkind fun env he s1 x => ?_
  subst he
  refine ⟨lim.keeps x.toInCall.keep, codeAny_func ?_⟩
  obtain ⟨t, ht, hq⟩ := hbody A outer s H vs Q E (hr.deeper _) hsp
  have I : Inv (cxOf CX P w K mg base N qual scope f cdv A outer s H E) [] (start N vs) H s1 := inv_start S hr.hd e0 hl r x
  refine wpAny_mono (ht [] s1 (start N vs) H _ I hq) (fun fl s' hs => ?_) fun e s' hs => hs
  have fin : ∀ {σ' : St} {H' : Hp} {v : V} {u : Value}, Inv (cxOf CX P w K mg base N qual scope f cdv A outer s H E) [] σ' H' s' → RelV v u → Q v H' → CE outer P w H s Q u s' :=
    fun {σ' H' v u} J rv q => ⟨v, H', J.os, J.bare, J.base, J.hok, rv, q⟩
  cases fl with
  | ret u =>
    obtain ⟨v, σ', H', J, rv, q⟩ := hs
    exact fin J rv q
  | next =>
    obtain ⟨σ', H', J, q⟩ := hs
    exact fin (v := V.non) (u := Value.none) J rfl q
  | brk =>
    obtain ⟨_, _, _, q⟩ := hs
    exact False.elim q
  | cont =>
    obtain ⟨_, _, _, q⟩ := hs
    exact False.elim q
end L2

namespace L2
open PySem PySem.Spec PyProof.Rows
section
variable {X : Cx} {x : Str} {p pos : Pos} {e : Expr} {es : List Expr} {t : TA} {id T : String} {r : List V → Hp → VK → Prop}

def tCB (r : List V → Hp → VK → Prop) (t : TA) : TE := fun σ H Q => t σ H fun vs H1 => r vs H1 Q
/-- f(e, ..), f a built-in function -/
theorem pe_callB (hc : CallR X (.builtin id) r) (hg : Gl X x) (hm : X.mg x = none) (hv : bootBuiltins x = some (.builtin id)) (ha : PA X (e :: es) t) (hn : x ≠ "__name__" := by decide) (hdb : (x == ("__debug__" : Str)) = false := by decide)
    (he : starEach (e :: es) X.env = (false, eval e X.env) :: starEach es X.env := by rfl) (hpl : (backTo pos (starEach es X.env)).any (·.1) = false := by rfl) : PE X (.Call (.Name x p) (e :: es) [] pos) (tCB r t) := by
  intro pins s σ H Q I h
  refine wpAny_Call_Name_kw (ld_blt I hg hm hv ?_ hn hdb)
  exact PyProof.Rows.callWith_builtin1 (thn (ha pos pins s σ H _ I h) fun us s1 ⟨vs, H1, I1, r1, q1⟩ => hc pins s1 σ H1 vs us Q I1 r1 q1) he hpl
/-- T(e, ..), T a built-in type -/
theorem pe_callTy (hc : CallR X (.type T) r) (hg : Gl X x) (hm : X.mg x = none) (hv : bootBuiltins x = some (.type T)) (ha : PA X (e :: es) t) (hn : x ≠ "__name__" := by decide) (hdb : (x == ("__debug__" : Str)) = false := by decide)
    (he : starEach (e :: es) X.env = (false, eval e X.env) :: starEach es X.env := by rfl) (hpl : (backTo pos (starEach es X.env)).any (·.1) = false := by rfl) : PE X (.Call (.Name x p) (e :: es) [] pos) (tCB r t) := by
  intro pins s σ H Q I h
  refine wpAny_Call_Name_kw (ld_blt I hg hm hv ?_ hn hdb)
  exact PyProof.Rows.callWith_type1 (thn (ha pos pins s σ H _ I h) fun us s1 ⟨vs, H1, I1, r1, q1⟩ => hc pins s1 σ H1 vs us Q I1 r1 q1) he hpl
end
end L2

namespace HT
open PySem PyProof.Rows

/-- t < u of tuples of ints -/
def lexLt : List Int → List Int → Bool
  | [], [] => false
  | [], _ :: _ => true
  | _ :: _, [] => false
  | x :: xs, y :: ys => if x = y then lexLt xs ys else decide (x < y)
section
open PySem.SeqAt
open PySem.AutoSeq1 (wpAny_loadPart')
open PySem.MeetsSeq PySem.MeetsSeq2 PySem.MeetsSeq3

end

section
variable {prog : Program} {w : World} {A : Around} {E : Value → Shared → Prop} {s : Shared}

/-- t + u, t not empty -/
theorem cat_tup {t b : Addr} {vs ws : List Value} {Q : Value → Shared → Prop} (ht : IsTup s.heap t vs.toArray) (hb : IsTup s.heap b ws.toArray) (hv : vs ≠ [])
    (h1 : ws = [] → Q (.ref t) s) (h2 : ws ≠ [] → Q (.ref s.heap.objs.size) { s with heap := s.heap.push { cls := .type "tuple", data := .seq (vs ++ ws).toArray } })
    (hsz : vs.length + ws.length ≤ sizeLine) : wpAny (model prog w) A (binaryOp .Add (.ref t) (.ref b)) Q E s := by
  obtain ⟨⟨cls, dd, data, sl⟩, ho, hc, n, hd⟩ := id ht
  obtain ⟨⟨cls2, dd2, data2, sl2⟩, ho2, hc2, n2, hd2⟩ := id hb
  simp only at hc hd hc2 hd2
  subst hc hd hc2 hd2
  have e : vs.toArray ++ ws.toArray = (vs ++ ws).toArray := by simp
  by_cases hw : ws = []
  · exact concat_meets ⟨_, ho, rfl⟩ ⟨_, ho2, rfl⟩ noFill_tuple_add seq_tuple_add PySem.F.slot_tuple_add PySem.F.entry_tuple_add (PySem.F.args_tuple_add_2 _ _)
      (tuple_addW1 t b vs.toArray ws.toArray n n2 dd dd2 sl sl2 (by simpa using hv) (by simp [hw])) ⟨ho, ho2, h1 hw⟩
  · refine concat_meets ⟨_, ho, rfl⟩ ⟨_, ho2, rfl⟩ noFill_tuple_add seq_tuple_add PySem.F.slot_tuple_add PySem.F.entry_tuple_add (PySem.F.args_tuple_add_2 _ _)
      (tuple_addW2 t b vs.toArray ws.toArray n n2 dd dd2 sl sl2 (by simpa using hv) (by simpa using hw) (by rw [List.size_toArray, List.size_toArray]; exact hsz)) ⟨ho, ho2, ?_⟩
    rw [e]
    exact h2 hw

/-! ### t[a:b], not the whole -/
/-- a slice's bound as a place among n (d where it is left out) -/
def sIx (n d : Nat) : Option Int → Nat
  | none => d
  | some v => if v < 0 then (v + (n : Int)).toNat else min v.toNat n
theorem sIx_none (n d : Nat) : sIx n d none = d := rfl
theorem sIx_nat (n d k : Nat) : sIx n d (some (k : Int)) = min k n := by
  show (if (k : Int) < 0 then ((k : Int) + (n : Int)).toNat else min (k : Int).toNat n) = min k n
  rw [if_neg (by omega), Int.toNat_natCast]
theorem sIx_le (n d : Nat) (hd : d ≤ n) (o : Option Int) : sIx n d o ≤ n := by
  cases o with
  | none => exact hd
  | some v =>
    show (if v < 0 then (v + (n : Int)).toNat else min v.toNat n) ≤ n
    by_cases hv : v < 0
    · rw [if_pos hv]; omega
    · rw [if_neg hv]; exact Nat.min_le_right _ _
theorem clip_eq (v : Int) (n d : Nat) : (if v < 0 then max (v + (n : Int)) 0 else min v (n : Int)) = ((sIx n d (some v) : Nat) : Int) := by
  show (if v < 0 then max (v + (n : Int)) 0 else min v (n : Int)) = (((if v < 0 then (v + (n : Int)).toNat else min v.toNat n) : Nat) : Int)
  by_cases hv : v < 0
  · simp only [if_pos hv]; omega
  · simp only [if_neg hv]; omega
theorem adjust_gen (lo hi : Option Int) (n : Nat) : Builtin.Slice.sliceAdjust lo hi 1 (n : Int) = (((sIx n 0 lo : Nat) : Int), ((sIx n n hi : Nat) : Int)) := by
  have h1 : ¬ ((1 : Int) < 0) := by omega
  unfold Builtin.Slice.sliceAdjust
  simp only [h1, if_false]
  refine Prod.ext ?_ ?_
  · cases lo with
    | none => rfl
    | some v => exact clip_eq v n 0
  · cases hi with
    | none => rfl
    | some v => exact clip_eq v n n
theorem places_gen (i j : Nat) : Builtin.Slice.slicePlaces (i : Int) (j : Int) 1 = j - i := by
  unfold Builtin.Slice.slicePlaces
  have h1 : (1 : Int) > 0 := by omega
  simp only [h1, if_true, Int.ediv_one]
  split <;> omega
theorem slicePart_ {v : Value} {o : Option Int} {Q : Option Int → Shared → Prop} (p : IsPart v o) (h : Q o s) : wpAny (model prog w) A (Builtin.Slice.slicePartIndex v) Q E s := by
  cases p with
  | none => exact slicePart_none h
  | int i t => exact slicePart_int h
theorem sliceApplied_gen {sl : Addr} {vl vu : Value} {lo hi : Option Int} {n : Nat} {Q : Int × Int × Nat → Shared → Prop} (hs : s.heap.IsSliceOf sl vl vu .none) (pl : IsPart vl lo) (pu : IsPart vu hi)
    (h : Q (((sIx n 0 lo : Nat) : Int), 1, sIx n n hi - sIx n 0 lo) s) : wpAny (model prog w) A (Builtin.Slice.sliceApplied (.ref sl) (pure (n : Int))) Q E s := by
  obtain ⟨os, hos, hcs, hds⟩ := id hs
  unfold Builtin.Slice.sliceApplied Builtin.Slice.sliceFields
  refine wpAny_bind (wpAny_bind (wpAny_field hos hds (x := vl) rfl (wpAny_bind (wpAny_field hos hds (x := vu) rfl (wpAny_bind (wpAny_field hos hds (x := .none) rfl (wpAny_pure ?_)))))))
  refine wpAny_bind (slicePart_none ?_)
  show wpAny _ _ (if ((1 : Int) == 0) = true then _ else _) _ _ s
  rw [if_neg (by decide)]
  refine wpAny_bind (slicePart_ pl (wpAny_bind (slicePart_ pu (wpAny_bind (wpAny_pure ?_)))))
  show wpAny _ _ (match Builtin.Slice.sliceAdjust lo hi 1 (n : Int) with | (lo, hi) => pure (lo, (1 : Int), Builtin.Slice.slicePlaces lo hi 1)) _ _ s
  rw [adjust_gen lo hi n]
  show wpAny _ _ (pure (((sIx n 0 lo : Nat) : Int), (1 : Int), Builtin.Slice.slicePlaces ((sIx n 0 lo : Nat) : Int) ((sIx n n hi : Nat) : Int) 1)) _ _ s
  rw [places_gen]
  exact wpAny_pure h
theorem pick_gen (xs : Array Value) (i k : Nat) : ((List.range k).filterMap fun (m : Nat) => xs[((i : Int) + (m : Int) * 1).toNat]?).toArray = ((xs.toList.drop i).take k).toArray := by
  have e : (fun (m : Nat) => xs[((i : Int) + (m : Int) * 1).toNat]?) = fun m => xs[i + m]? := by
    funext m
    have : ((i : Int) + (m : Int) * 1).toNat = i + m := by omega
    rw [this]
  rw [e]
  have := pick_run xs i k
  rw [List.filterMap_map] at this
  have e2 : ((fun x => xs[x]?) ∘ fun x => i + x) = fun m => xs[i + m]? := rfl
  rw [e2] at this
  rw [this]

theorem getItem_tuple_cut {t sl : Addr} {items : Array Value} {vl vu : Value} {lo hi : Option Int} {Q : Value → Shared → Prop} (ht : IsTup s.heap t items) (hs : s.heap.IsSliceOf sl vl vu .none) (pl : IsPart vl lo) (pu : IsPart vu hi)
    (hw : ¬ (sIx items.size 0 lo = 0 ∧ sIx items.size items.size hi = items.size))
    (h : Q (.ref s.heap.objs.size) { s with heap := s.heap.push { cls := .type "tuple", data := .seq ((items.toList.drop (sIx items.size 0 lo)).take (sIx items.size items.size hi - sIx items.size 0 lo)).toArray } })
    (hsz : items.size ≤ sizeLine) : wpAny (model prog w) A (getItem (.ref t) (.ref sl)) Q E s := by
  have htake : sizeOk (.seq ((items.toList.drop (sIx items.size 0 lo)).take (sIx items.size items.size hi - sIx items.size 0 lo)).toArray) := by
    show ((items.toList.drop (sIx items.size 0 lo)).take (sIx items.size items.size hi - sIx items.size 0 lo)).toArray.size ≤ sizeLine
    rw [List.size_toArray, List.length_take, List.length_drop, Array.length_toList]
    omega
  have hj : sIx items.size items.size hi ≤ items.size := sIx_le _ _ (Nat.le_refl _) hi
  obtain ⟨os, hos, hcs, hds⟩ := id hs
  have hTs : s.TypeIs (.ref sl) "slice" := ⟨os, hos, hcs⟩
  unfold getItem
  try with_reducible refine wpAny_holding ?_
  first | refine wpAny_bind (wpAny_pure ?_) | skip
  refine wpAny_bind (wpAny_sequenceKey ht.typeIs (by decide) ?_)
  refine wpAny_bind (wpAny_callSpecial?_slot (name := Str.ofString "__getitem__") ht.typeIs PyProof.Rows.slot_tuple_getitem
    (wpAny_call_entry PyProof.Rows.slot_tuple_getitem ht.typeIs entry_tuple_getitem ?_ (args_tuple_getitem _ _)))
  show wpAny _ _ (Builtin.Tuple.tupleItemsOf (.ref t) >>= _) _ _ s
  refine wpAny_bind (tupleItemsOf_ ht ?_)
  refine wpAny_bind (wpAny_typeOf hTs ?_)
  rw [if_pos (by decide)]
  refine wpAny_bind (sliceApplied_gen hs pl pu ?_)
  have hno : ¬ ((((sIx items.size 0 lo : Nat) : Int) == 0 && (1 : Int) == 1 && (sIx items.size items.size hi - sIx items.size 0 lo) == items.size) = true) := by
    intro q
    rw [Bool.and_eq_true, Bool.and_eq_true] at q
    have q1 : ((sIx items.size 0 lo : Nat) : Int) = 0 := eq_of_beq q.1.1
    have q2 : sIx items.size items.size hi - sIx items.size 0 lo = items.size := eq_of_beq q.2
    exact hw ⟨by omega, by omega⟩
  show wpAny _ _ (if (((sIx items.size 0 lo : Nat) : Int) == 0 && (1 : Int) == 1 && (sIx items.size items.size hi - sIx items.size 0 lo) == items.size) = true then _ else _) _ _ s
  rw [if_neg hno, pick_gen]
  first
    | exact wpAny_bind (m := Builtin.Tuple.tupleExact _) (wpAny_newObj_type (wpAny_pure ⟨_, rfl, wpAny_pure h⟩) htake)
    | exact wpAny_bind (m := Builtin.Tuple.tupleExact _) (wpAny_newObj_type (wpAny_bind (wpAny_pure (wpAny_pure ⟨_, rfl, wpAny_pure h⟩))) htake)
    | exact wpAny_bind (wpAny_bind (m := Builtin.Tuple.tupleExact _) (wpAny_newObj_type (wpAny_pure (wpAny_pure ⟨_, rfl, wpAny_pure h⟩)) htake))
    | exact wpAny_bind (wpAny_bind (m := Builtin.Tuple.tupleExact _) (wpAny_newObj_type (wpAny_pure ⟨_, rfl, wpAny_pure h⟩) htake))
end
end HT

namespace L2
open PySem PySem.Spec PyProof.Rows

/-! ### the parts of a slice -/
abbrev TO := St → Hp → (Option Int → Hp → Prop) → Prop
/-- a slice's part (left out, or an int) -/
def PO (X : Cx) (e : Option Expr) (t : TO) : Prop :=
  ∀ (pins : List (Addr × Obj)) (s : Shared) (σ : St) (H : Hp) (Q : Option Int → Hp → Prop), Inv X pins σ H s → t σ H Q →
    wpAny (model X.prog X.w) X.A (evalPart e X.env) (fun u s' => ∃ o H', Inv X pins σ H' s' ∧ IsPart u o ∧ Q o H') X.xe s
def tNoPart : TO := fun _ H Q => Q none H
def tPart (t : TE) : TO := fun σ H Q => t σ H fun x H1 => ∃ i, x = .int i ∧ Q (some i) H1

section
variable {X : Cx} {e : Expr} {te : TE} {lo hi : Option Expr} {tl th : TO} {pos p2 : Pos}

theorem po_none : PO X none tNoPart := by
  intro pins s σ H Q I h
  rw [evalPart_none]
  exact wpAny_pure ⟨none, H, I, .none, h⟩
theorem po_some (h : PE X e te) : PO X (some e) (tPart te) := by
  intro pins s σ H Q I hw
  rw [evalPart_some]
  refine thn (h pins s σ H _ I hw) fun u s1 ⟨x, H1, I1, r1, q1⟩ => ?_
  obtain ⟨i, rfl, q⟩ := q1
  obtain ⟨t, rfl⟩ := r1
  exact ⟨some i, H1, I1, .int i t, q⟩

/-- what a slice of a value is, by values: the slice object stands at sl -/
def SlR (X : Cx) (r : V → Option Int → Option Int → Hp → VK → Prop) : Prop :=
  ∀ (pins : List (Addr × Obj)) (s : Shared) (σ : St) (H : Hp) (x : V) (v vl vu : Value) (lo hi : Option Int) (sl : Addr) (Q : VK), Inv X pins σ H s → RelV x v → s.heap.IsSliceOf sl vl vu .none → IsPart vl lo → IsPart vu hi → r x lo hi H Q →
    ∃ T id, typeLookup (.type T) "__getitem__" = pure (some (.builtin id)) ∧ s.TypeIs v T ∧ wpAny (model X.prog X.w) X.A (getItem v (.ref sl)) (EP X pins σ Q) X.xe s
def tSl (r : V → Option Int → Option Int → Hp → VK → Prop) (te : TE) (tl th : TO) : TE := fun σ H Q => te σ H fun x H1 => tl σ H1 fun l H2 => th σ H2 fun u H3 => r x l u H3 Q
/-- a[lo:hi], any a -/
theorem pe_slice {r : V → Option Int → Option Int → Hp → VK → Prop} (hr : SlR X r) (he : PE X e te) (hl : PO X lo tl) (hu : PO X hi th) : PE X (.Subscript e (.Slice lo hi none p2) pos) (tSl r te tl th) := by
  intro pins s σ H Q I h
  refine Subscript_ (thn (he pins s σ H _ I h) fun v s1 ⟨x, H1, I1, r1, q1⟩ => ?_)
  refine wpAny_Slice (thn (hl pins s1 σ H1 _ I1 q1) fun vl s2 ⟨l, H2, I2, pl, q2⟩ => thn (hu pins s2 σ H2 _ I2 q2) fun vu s3 ⟨u, H3, I3, pu, q3⟩ => ?_)
  rw [evalPart_none]
  refine wpAny_pure ?_
  have I4 : Inv X pins σ H3 { s3 with heap := s3.heap.push { cls := .type "slice", data := .fields #[vl, vu, .none] } } := I3.kept (t' := s3.toks) fun b ob q => Heap.get?_push_of_some _ q
  obtain ⟨T, id, hT, ht, hg⟩ := hr pins { s3 with heap := s3.heap.push { cls := .type "slice", data := .fields #[vl, vu, .none] } } σ H3 x v vl vu l u s3.heap.objs.size Q I4 r1 (Heap.IsSliceOf.new ..) pl pu q3
  show wpAny (model X.prog X.w) X.A (subscriptTail e (.Slice lo hi none p2) v (.ref s3.heap.objs.size)) (EP X pins σ Q) X.xe { s3 with heap := s3.heap.push { cls := .type "slice", data := .fields #[vl, vu, .none] } }
  exact tail_any (ops := [.ref s3.heap.objs.size, v]) ht hT hg (by with_unfolding_all rfl)

/-- the items of xs[lo:hi] -/
def cutV (xs : List V) (lo hi : Option Int) : List V := (xs.drop (HT.sIx xs.length 0 lo)).take (HT.sIx xs.length xs.length hi - HT.sIx xs.length 0 lo)
theorem cutV_length (xs : List V) (lo hi : Option Int) : (cutV xs lo hi).length ≤ xs.length := by
  unfold cutV
  rw [List.length_take, List.length_drop]
  omega
/-- t[lo:hi], not the whole of it (the whole would be t itself) -/
def rSlT (K : PySem.W.Frag) : V → Option Int → Option Int → Hp → VK → Prop := fun x lo hi H Q => ∃ a xs, x = .ref a ∧ SqT K H a xs ∧
  ¬ (HT.sIx xs.length 0 lo = 0 ∧ HT.sIx xs.length xs.length hi = xs.length) ∧ ∀ p, H p = none → Q (.ref p) (upd H p (.tup (cutV xs lo hi)))
theorem sl_tup : SlR X (rSlT X.K) := by
  intro pins s σ H x v vl vu lo hi sl Q I rx hs pl pu h
  obtain ⟨a, xs, rfl, hx, hw, q⟩ := h
  cases rx
  obtain ⟨its, r, ht, hz⟩ := I.tuple hx
  have hlen : its.toArray.size = xs.length := by rw [List.size_toArray]; exact r.length.symm
  refine ⟨"tuple", _, PyProof.Rows.slot_tuple_getitem.lookup, ht.typeIs, ?_⟩
  refine HT.getItem_tuple_cut ht hs pl pu (by rw [hlen]; exact hw) ?_ (by rw [hlen]; exact hz)
  rw [hlen]
  refine ⟨.ref s.heap.objs.size, _, I.laid (t' := s.toks) (o := .tup (cutV xs lo hi)) (fun b ob q => Heap.get?_push_of_some _ q) (Nat.le_refl _) ?_, rfl, q _ (I.hok.fresh (Nat.le_refl _))⟩
  exact ⟨Nat.le_trans (cutV_length xs lo hi) hz, _, (r.drop (HT.sIx xs.length 0 lo)).take (HT.sIx xs.length xs.length hi - HT.sIx xs.length 0 lo), IsTup.new _ _⟩

/-! ### t < u, t + u -/
def rLtT (K : PySem.W.Frag) : R2 := fun x y H Q => ∃ a b ns ms, x = .ref a ∧ y = .ref b ∧ SqT K H a (ns.map V.int) ∧ SqT K H b (ms.map V.int) ∧ Q (.bl (HT.lexLt ns ms)) H
/-- t + u, t not empty: u empty gives t itself -/
def rCatT (K : PySem.W.Frag) : R2 := fun x y H Q => ∃ a b xs ys, x = .ref a ∧ y = .ref b ∧ SqT K H a xs ∧ SqT K H b ys ∧ xs ≠ [] ∧ xs.length + ys.length ≤ sizeLine ∧
  (ys = [] → Q (.ref a) H) ∧ (ys ≠ [] → ∀ p, H p = none → Q (.ref p) (upd H p (.tup (xs ++ ys))))
theorem Vals.nil_iff {xs : List V} {us : List Value} (r : Vals xs us) : us = [] ↔ xs = [] := by
  cases r with
  | nil => simp
  | cons _ _ => simp
theorem op_catT : OpR X (binaryOp .Add) (rCatT X.K) := by
  intro pins s σ H x y v u Q I rx ry h
  obtain ⟨a, b, xs, ys, rfl, rfl, ha, hb, hx, hz, q1, q2⟩ := h
  cases rx
  cases ry
  obtain ⟨its, r1, p1, _⟩ := I.tuple ha
  obtain ⟨its2, r2, p2, _⟩ := I.tuple hb
  refine HT.cat_tup p1 p2 (fun z => hx (r1.nil_iff.mp z)) (fun z => ⟨.ref a, H, I, rfl, q1 (r2.nil_iff.mp z)⟩) (fun z => ?_) (by rw [← r1.length, ← r2.length]; exact hz)
  refine ⟨.ref s.heap.objs.size, _, I.laid (t' := s.toks) (o := .tup (xs ++ ys)) (fun b ob q => Heap.get?_push_of_some _ q) (Nat.le_refl _) ?_, rfl, q2 (fun w => z (r2.nil_iff.mpr w)) _ (I.hok.fresh (Nat.le_refl _))⟩
  exact ⟨by rw [List.length_append]; exact hz, _, r1.append r2, IsTup.new _ _⟩
end
end L2

namespace L2
open PySem PySem.Spec PyProof.Rows

/-! ### places -/
/-- the place that an index of any sign means -/
def ixN (n : Nat) (i : Int) : Option Nat := if 0 ≤ i then (if i < n then some i.toNat else none) else if -(n : Int) ≤ i then some (i + n).toNat else none
def atI {α : Type} (xs : List α) (i : Int) : Option α := (ixN xs.length i).bind fun j => xs[j]?
theorem ixN_seq {n : Nat} {i : Int} {j : Nat} (h : ixN n i = some j) : seqIndex? i n = some j ∧ j < n ∧ -(n : Int) ≤ i ∧ i < n := by
  unfold ixN at h
  by_cases h0 : 0 ≤ i
  · rw [if_pos h0] at h
    by_cases h1 : i < n
    · rw [if_pos h1] at h
      have e : i.toNat = j := Option.some.inj h
      exact ⟨by rw [seqIndex_of h0 h1, e], by omega, by omega, h1⟩
    · rw [if_neg h1] at h; cases h
  · rw [if_neg h0] at h
    by_cases h1 : -(n : Int) ≤ i
    · rw [if_pos h1] at h
      have e : (i + n).toNat = j := Option.some.inj h
      exact ⟨by rw [seqIndex_neg (by omega) h1, e], by omega, h1, by omega⟩
    · rw [if_neg h1] at h; cases h
theorem atI_get {α : Type} {xs : List α} {i : Int} {v : α} (h : atI xs i = some v) : ∃ j, seqIndex? i xs.length = some j ∧ xs[j]? = some v ∧ j < xs.length ∧ -(xs.length : Int) ≤ i ∧ i < xs.length := by
  unfold atI at h
  cases e : ixN xs.length i with
  | none => rw [e] at h; cases h
  | some j =>
    rw [e] at h
    obtain ⟨h1, h2, h3, h4⟩ := ixN_seq e
    exact ⟨j, h1, h, h2, h3, h4⟩
theorem atI_nat {α : Type} {xs : List α} {j : Nat} {v : α} (h : xs[j]? = some v) : atI xs (j : Int) = some v := by
  have hj : j < xs.length := (List.getElem?_eq_some_iff.mp h).1
  have e : ixN xs.length (j : Int) = some j := by
    unfold ixN
    rw [if_pos (by omega), if_pos (by omega)]; simp
  unfold atI; rw [e]; exact h
/-! ### what may be subscripted -/
/-- what stands as an index of a plain subscript -/
def PlainIx (b : Expr) : Prop := ∀ o i, subscripted b false o i = operate [o, i] (getItem o i)
/-- a subscript by values -/
def IxR (X : Cx) (r : R2) : Prop :=
  ∀ (value slice : Expr) (pins : List (Addr × Obj)) (s : Shared) (σ : St) (H : Hp) (x y : V) (v u : Value) (Q : VK), Inv X pins σ H s → RelV x v → RelV y u → r x y H Q →
    subscripted slice false v u = operate [v, u] (getItem v u) → wpAny (model X.prog X.w) X.A (subscriptTail value slice v u) (EP X pins σ Q) X.xe s
/-- a call of a builtin's method by values: the receiver, the arguments -/
def MtR (X : Cx) (id : String) (r : V → List V → Hp → VK → Prop) : Prop :=
  ∀ (pins : List (Addr × Obj)) (s : Shared) (σ : St) (H : Hp) (x : V) (xs : List V) (v : Value) (us : List Value) (Q : VK), Inv X pins σ H s → RelV x v → Vals xs us → r x xs H Q →
    wpAny (model X.prog X.w) X.A (call (.builtin id) (v :: us)) (EP X pins σ Q) X.xe s
section
variable {X : Cx} {a b : Expr} {ta tb : TE} {pos : Pos}
/-- a[b] -/
theorem pe_ix {r : R2} (hr : IxR X r) (ha : PE X a ta) (hb : PE X b tb) (hs : PlainIx b) : PE X (.Subscript a b pos) (tOp r ta tb) := by
  intro pins s σ H Q I h
  exact Subscript_ (binT ha hb I h fun v u s2 x y H2 I2 rx ry q => hr a b pins s2 σ H2 x y v u Q I2 rx ry q (hs _ _))

def rIxL (K : PySem.W.Frag) : R2 := fun x y H Q => ∃ p xs i v, x = .ref p ∧ y = .int i ∧ SqL K H p xs ∧ atI xs i = some v ∧ Q v H
def rIxT (K : PySem.W.Frag) : R2 := fun x y H Q => ∃ p xs i v, x = .ref p ∧ y = .int i ∧ SqT K H p xs ∧ atI xs i = some v ∧ Q v H
def rIxS : R2 := fun x y H Q => ∃ z i c, x = .str z ∧ y = .int i ∧ z.length ≤ sizeLine ∧ atI z.cps.toList i = some c ∧ Q (.str ⟨#[c]⟩) H
theorem ix_list : IxR X (rIxL X.K) := by
  intro value slice pins s σ H x y v u Q I rx ry h hs
  obtain ⟨p, xs, i, z, rfl, rfl, hq, he, q⟩ := h
  cases rx
  obtain ⟨t, rfl⟩ := ry
  obtain ⟨its, r, pl, hz⟩ := I.list hq
  obtain ⟨j, h1, h2, h3, h4, h5⟩ := atI_get he
  obtain ⟨w, ew, rw'⟩ := r.get h2
  have hl := r.length
  have hn := line63
  have fin : EP X pins σ Q w s := ⟨z, H, I, rw', q⟩
  by_cases h0 : 0 ≤ i
  · have hj : i.toNat = j := by
      rw [seqIndex_of h0 h5] at h1
      exact Option.some.inj h1
    exact item_listR pl.isList h0 (by omega) (by rw [hj]; simpa using ew) fin hs
  · have hj : (i + (its.toArray.size : Int)).toNat = j := by
      rw [seqIndex_neg (by omega) h4] at h1
      rw [List.size_toArray, ← hl]
      exact Option.some.inj h1
    exact subscriptTail_builtinR (x := w) pl.isList.typeIs slot_list_getitem.lookup
      (wpAny_getItem_list_neg (Q := fun r s' => r = w ∧ EP X pins σ Q r s') pl.isList (by omega) (by rw [List.size_toArray] <;> omega) (by omega) (by rw [hj]; simpa using ew) ⟨rfl, fin⟩) hs
theorem ix_tup : IxR X (rIxT X.K) := by
  intro value slice pins s σ H x y v u Q I rx ry h hs
  obtain ⟨p, xs, i, z, rfl, rfl, hq, he, q⟩ := h
  cases rx
  obtain ⟨t, rfl⟩ := ry
  obtain ⟨its, r, pl, hz⟩ := I.tuple hq
  obtain ⟨j, h1, h2, h3, h4, h5⟩ := atI_get he
  obtain ⟨w, ew, rw'⟩ := r.get h2
  have hl := r.length
  have hn := line63
  have fin : EP X pins σ Q w s := ⟨z, H, I, rw', q⟩
  exact subscriptTail_builtinR (x := w) pl.typeIs slot_tuple_getitem.lookup
    (getItem_tuple (j := j) (Q := fun r s' => r = w ∧ EP X pins σ Q r s') pl (by omega) (by omega) (by rw [List.size_toArray, ← hl]; exact h1) (by simpa using ew) ⟨rfl, fin⟩) hs
/-- list, tuple or str -/
def rIx (K : PySem.W.Frag) : R2 := fun x y H Q => rIxL K x y H Q ∨ rIxT K x y H Q ∨ rIxS x y H Q
/-! ### xs[i] = v, any sign -/
/-- the list's object behind a store -/
theorem mapSeq_set (its : List Value) (n j : Nat) (u : Value) : Obj.mapSeq (·.setIfInBounds j u) { cls := .type "list", data := .seq its.toArray n } = { cls := .type "list", data := .seq (its.set j u).toArray n } := by
  simp [Obj.mapSeq]
theorem Inv.lst {pins : List (Addr × Obj)} {σ : St} {H : Hp} {s : Shared} {p : Addr} {xs : List V} (I : Inv X pins σ H s) (h : H p = some (.lst xs)) :
    ∃ (its : List Value) (n : Nat), Vals xs its ∧ s.heap.get? p = some { cls := .type "list", data := .seq its.toArray n } ∧ xs.length ≤ sizeLine := by
  obtain ⟨z, its, n, r, e⟩ := I.hok p _ h
  exact ⟨its, n, r, e, z⟩
/-- the list at p is written by an update of its object -/
theorem Inv.lstUpd {pins : List (Addr × Obj)} {σ : St} {H : Hp} {s : Shared} {p : Addr} {xs ys : List V} {its its' : List Value} {n n' : Nat} {f : Obj → Obj} (I : Inv X pins σ H s) (h : H p = some (.lst xs))
    (ho : s.heap.get? p = some { cls := .type "list", data := .seq its.toArray n }) (hf : f { cls := .type "list", data := .seq its.toArray n } = { cls := .type "list", data := .seq its'.toArray n' }) (r : Vals ys its') (hz : ys.length ≤ sizeLine) (t : Nat) :
    Inv X pins σ (upd H p (.lst ys)) { s with heap := s.heap.update p f, toks := t } := by
  have e : (s.heap.update p f).get? p = some { cls := .type "list", data := .seq its'.toArray n' } := by
    rw [Heap.get?_update_self f ho (by rw [hf] <;> rfl), hf]
  refine I.write (x := p) (e := p) (by rw [h]; trivial) (.inl rfl) (fun b u hb q => (Heap.get?_update_other _ _ (Ne.symm hb)).trans q) ⟨_, e⟩ ?_
  exact ⟨hz, its', n', r, e⟩
def rSetL : V → V → V → Hp → (Hp → Prop) → Prop := fun o i v H Q => ∃ p xs k j, o = .ref p ∧ i = .int k ∧ H p = some (.lst xs) ∧ ixN xs.length k = some j ∧ Q (upd H p (.lst (xs.set j v)))
theorem set_list : PSet X rSetL := by
  intro pins s σ H o i v ov iv u Q I ro ri rv h
  obtain ⟨p, xs, k, j, rfl, rfl, hp, hj, q⟩ := h
  cases ro
  obtain ⟨t, rfl⟩ := ri
  obtain ⟨its, n, r, ho, hz⟩ := I.lst hp
  obtain ⟨h1, h2, h3, h4⟩ := ixN_seq hj
  have hl := r.length
  have hn := line63
  have I' : Inv X pins σ (upd H p (.lst (xs.set j v))) { s with heap := s.heap.update p (Obj.mapSeq (·.setIfInBounds j u)) } :=
    I.lstUpd hp ho (mapSeq_set its n j u) (r.set rv j) (by rw [List.length_set]; exact hz) s.toks
  by_cases h0 : 0 ≤ k
  · have hk : k.toNat = j := by
      rw [seqIndex_of h0 h4] at h1
      exact Option.some.inj h1
    exact PySem.W.ki_setAt ho h0 (by omega) (by rw [List.size_toArray, ← hl]; exact h4) (by rw [hk]; exact ⟨_, I', q⟩)
  · have hk : (k + (its.toArray.size : Int)).toNat = j := by
      rw [seqIndex_neg (by omega) h3] at h1
      rw [List.size_toArray, ← hl]
      exact Option.some.inj h1
    exact PySem.W.ki_setBack ho (by omega) (by rw [List.size_toArray, ← hl]; exact h3) (by omega) (by rw [hk]; exact ⟨_, I', q⟩)

/-! ### slices -/
theorem slice_bounds (lo hi : Option Int) (n : Nat) : (sliceBounds lo hi none n).1 = ((HT.sIx n 0 lo : Nat) : Int) ∧ (sliceBounds lo hi none n).2.1 = ((HT.sIx n n hi : Nat) : Int) ∧ (sliceBounds lo hi none n).2.2 = 1 := by
  refine ⟨?_, ?_, rfl⟩
  · cases lo with
    | none => simp [sliceBounds, HT.sIx]
    | some i =>
      simp only [sliceBounds, HT.sIx, Option.getD_none, show (1 : Int) > 0 by decide, if_true]
      by_cases h : i < 0
      · simp only [h, if_true] <;> omega
      · simp only [h, if_false] <;> omega
  · cases hi with
    | none => simp [sliceBounds, HT.sIx]
    | some i =>
      simp only [sliceBounds, HT.sIx, Option.getD_none, show (1 : Int) > 0 by decide, if_true]
      by_cases h : i < 0
      · simp only [h, if_true] <;> omega
      · simp only [h, if_false] <;> omega
theorem slicePick_cut (its : List Value) (lo hi : Option Int) : slicePick its.toArray lo hi none = ((its.drop (HT.sIx its.length 0 lo)).take (HT.sIx its.length its.length hi - HT.sIx its.length 0 lo)).toArray := by
  obtain ⟨h1, h2, h3⟩ := slice_bounds lo hi its.toArray.size
  unfold slicePick
  rw [h1, h2, h3]
  simp only [sliceRange_one, pick_run, List.size_toArray] <;> rfl
/-- xs[lo:hi] of a list: a new list -/
def rSlL (K : PySem.W.Frag) : V → Option Int → Option Int → Hp → VK → Prop := fun x lo hi H Q => ∃ a xs, x = .ref a ∧ SqL K H a xs ∧ ∀ p, H p = none → Q (.ref p) (upd H p (.lst (cutV xs lo hi)))
theorem sl_list : SlR X (rSlL X.K) := by
  intro pins s σ H x v vl vu lo hi sl Q I rx hs pl pu h
  obtain ⟨a, xs, rfl, hx, q⟩ := h
  cases rx
  obtain ⟨its, r, ht, hz⟩ := I.list hx
  have hlen := r.length
  refine ⟨"list", _, slot_list_getitem.lookup, ht.isList.typeIs, ?_⟩
  refine wpAny_getItem_list_slice ht.isList hs pl pu .none (by simp) ?_ (by rw [List.size_toArray] <;> omega)
  rw [slicePick_cut, ← hlen]
  refine ⟨.ref s.heap.objs.size, _, I.laid (t' := s.toks) (o := .lst (cutV xs lo hi)) (fun b ob q => Heap.get?_push_of_some _ q) (Nat.le_refl _) ?_, rfl, q _ (I.hok.fresh (Nat.le_refl _))⟩
  exact ⟨Nat.le_trans (cutV_length xs lo hi) hz, _, 0, (r.drop (HT.sIx xs.length 0 lo)).take (HT.sIx xs.length xs.length hi - HT.sIx xs.length 0 lo), Heap.get?_push_size _ rfl⟩

/-! ### in, not in: flat items -/
def flatV : V → Bool
  | .non => true
  | .bl _ => true
  | .int _ => true
  | .str _ => true
  | _ => false
/-- == of flat values -/
def eqV : V → V → Bool
  | .non, .non => true
  | .bl a, .bl b => a == b
  | .bl a, .int b => (if a then 1 else 0) == b
  | .int a, .bl b => a == (if b then 1 else 0)
  | .int a, .int b => a == b
  | .str a, .str b => a == b
  | _, _ => false
theorem eqAt_V {A : Around} {s : Shared} {y x : V} {u v : Value} (ry : RelV y u) (rx : RelV x v) (fy : flatV y = true) (fx : flatV x = true) : SeqAt.EqAt A s u v (eqV y x) := by
  cases y with
  | non =>
    cases ry
    cases x with
    | non => cases rx; exact SeqAt.EqAt.same _
    | bl b => cases rx; exact SeqAt.EqAt.none_bool b
    | int b => obtain ⟨t, rfl⟩ := rx; exact SeqAt.EqAt.none_int b t
    | str b => obtain ⟨t, rfl⟩ := rx; exact SeqAt.EqAt.none_str b t
    | _ => exact absurd (show false = true from fx) Bool.false_ne_true
  | bl a =>
    cases ry
    cases x with
    | non => cases rx; exact SeqAt.EqAt.bool_none a
    | bl b => cases rx; exact SeqAt.EqAt.bool_bool a b
    | int b => obtain ⟨t, rfl⟩ := rx; exact SeqAt.EqAt.bool_int a b t
    | str b => obtain ⟨t, rfl⟩ := rx; exact SeqAt.EqAt.bool_str a b t
    | _ => exact absurd (show false = true from fx) Bool.false_ne_true
  | int a =>
    obtain ⟨t', rfl⟩ := ry
    cases x with
    | non => cases rx; exact SeqAt.EqAt.int_none a t'
    | bl b => cases rx; exact SeqAt.EqAt.int_bool a t' b
    | int b => obtain ⟨t, rfl⟩ := rx; exact SeqAt.EqAt.int_int a t' b t
    | str b => obtain ⟨t, rfl⟩ := rx; exact SeqAt.EqAt.int_str a t' b t
    | _ => exact absurd (show false = true from fx) Bool.false_ne_true
  | str a =>
    obtain ⟨t', rfl⟩ := ry
    cases x with
    | non => cases rx; exact SeqAt.EqAt.str_none a t'
    | bl b => cases rx; exact SeqAt.EqAt.str_bool a t' b
    | int b => obtain ⟨t, rfl⟩ := rx; exact SeqAt.EqAt.str_int a t' b t
    | str b => obtain ⟨t, rfl⟩ := rx; exact SeqAt.EqAt.str_str a t' b t
    | _ => exact absurd (show false = true from fx) Bool.false_ne_true
  | _ => exact absurd (show false = true from fy) Bool.false_ne_true
/-- the items' answers, read off the values (a value's own answer does not lean on its token) -/
def eqU (x : V) (u : Value) : Bool := match u with
  | .none => eqV .non x
  | .bool b => eqV (.bl b) x
  | .int i _ => eqV (.int i) x
  | .str z _ => eqV (.str z) x
  | _ => false
theorem eqU_of {x y : V} {u : Value} (r : RelV y u) (f : flatV y = true) : eqU x u = eqV y x := by
  cases y with
  | non => cases r; rfl
  | bl b => cases r; rfl
  | int i => obtain ⟨t, rfl⟩ := r; rfl
  | str z => obtain ⟨t, rfl⟩ := r; rfl
  | _ => exact absurd (show false = true from f) Bool.false_ne_true
theorem any_eqU {x : V} : ∀ {xs : List V} {us : List Value}, Vals xs us → xs.all flatV = true → us.any (eqU x) = xs.any fun y => eqV y x
  | _, _, .nil, _ => rfl
  | y :: xs, u :: us, .cons r t, f => by
    rw [List.all_cons, Bool.and_eq_true] at f
    rw [List.any_cons, List.any_cons, eqU_of r f.1, any_eqU t f.2]
theorem mem_eqAt {A : Around} {s : Shared} {x : V} {v : Value} (rx : RelV x v) (fx : flatV x = true) : ∀ {xs : List V} {us : List Value}, Vals xs us → xs.all flatV = true → ∀ u ∈ us, SeqAt.EqAt A s u v (eqU x u)
  | _, _, .nil, _ => fun u hu => by cases hu
  | y :: xs, u :: us, .cons r t, f => fun u' hu => by
    rw [List.all_cons, Bool.and_eq_true] at f
    rcases List.mem_cons.mp hu with rfl | hu
    · rw [eqU_of r f.1]; exact eqAt_V r rx f.1 fx
    · exact mem_eqAt rx fx t f.2 u' hu
def inV (x : V) (xs : List V) : Bool := xs.any fun y => eqV y x
/-- x in a list or tuple of flat items -/
def rIn (K : PySem.W.Frag) (neg : Bool) : R2 := fun x y H Q => ∃ p xs, y = .ref p ∧ (SqL K H p xs ∨ SqT K H p xs) ∧ flatV x = true ∧ xs.all flatV = true ∧ Q (.bl (if neg then !inV x xs else inV x xs)) H
theorem op_notIn_seq : OpR X (compareOp .NotIn) (rIn X.K true) := by
  intro pins s σ H x y v u Q I rx ry h
  obtain ⟨p, xs, rfl, hq, fx, fs, q⟩ := h
  cases ry
  rcases hq with hq | hq
  · obtain ⟨its, r, pl, hz⟩ := I.list hq
    refine SeqAt.notIn_listAt (eqU x) pl.isList (fun w hw => mem_eqAt rx fx r fs w (by simpa using hw)) ⟨.bl _, H, I, rfl, ?_⟩
    rw [show its.toArray.any (eqU x) = its.any (eqU x) by simp, any_eqU r fs]
    exact q
  · obtain ⟨its, r, pl, hz⟩ := I.tuple hq
    refine SeqAt.notIn_tupleAt (eqU x) pl (fun w hw => mem_eqAt rx fx r fs w (by simpa using hw)) ⟨.bl _, H, I, rfl, ?_⟩
    rw [show its.toArray.any (eqU x) = its.any (eqU x) by simp, any_eqU r fs]
    exact q
/-! ### len, list(x), tuple(x) of any list or tuple that is read -/
theorem call_len_seq : CallR X (.builtin "len") (fun xs H Q => ∃ p ys, xs = [.ref p] ∧ (SqL X.K H p ys ∨ SqT X.K H p ys) ∧ Q (.int ys.length) H) := by
  intro pins s σ H xs us Q I r h
  obtain ⟨p, ys, rfl, hq, q⟩ := h
  obtain ⟨u, rfl, rx⟩ := vals1 r
  cases rx
  have hn := line63
  rcases hq with hq | hq
  · obtain ⟨its, r', pl, hz⟩ := I.list hq
    have hlen := r'.length
    exact Calls.call_len_list pl.isList (by simp only [List.size_toArray] <;> omega) ⟨.int ys.length, H, I.tok _, ⟨s.toks + 1, by rw [List.size_toArray, hlen]⟩, q⟩
  · obtain ⟨its, r', pl, hz⟩ := I.tuple hq
    have hlen := r'.length
    exact len_tuple pl (by simp only [List.size_toArray] <;> omega) ⟨.int ys.length, H, I.tok _, ⟨s.toks + 1, by rw [List.size_toArray, hlen]⟩, q⟩
theorem call_list_of : CallR X (.type "list") (fun xs H Q => ∃ p ys, xs = [.ref p] ∧ (SqL X.K H p ys ∨ SqT X.K H p ys) ∧ ∀ l, H l = none → Q (.ref l) (upd H l (.lst ys))) := by
  intro pins s σ H xs us Q I r h
  obtain ⟨p, ys, rfl, hq, q⟩ := h
  obtain ⟨u, rfl, rx⟩ := vals1 r
  cases rx
  have fin : ∀ (its : List Value), Vals ys its → ys.length ≤ sizeLine → ∀ (h' : Heap) (c' : Nat), (∀ b o', s.heap.get? b = some o' → h'.get? b = some o') →
      h'.get? s.heap.objs.size = some { cls := .type "list", dict := none, data := .seq its.toArray c', slots := #[] } → EP X pins σ Q (.ref s.heap.objs.size) { s with heap := h' } := fun its r' hz h' c' kp e =>
    ⟨.ref s.heap.objs.size, _, I.laid (t' := s.toks) kp (Nat.le_refl _) (show ObjOk X.prog X.w _ h' _ (.lst ys) from ⟨hz, its, c', r', e⟩), rfl, q _ (I.hok.fresh (Nat.le_refl _))⟩
  rcases hq with hq | hq
  · obtain ⟨its, r', pl, hz⟩ := I.list hq
    have hlen := r'.length
    obtain ⟨o, ho, hc, n, hd⟩ := pl.isList
    exact call_list_seq p (.inl rfl) ho hc hd (fun h' c' kp e => fin its r' hz h' c' kp e) (by simp only [List.size_toArray] <;> omega)
  · obtain ⟨its, r', pl, hz⟩ := I.tuple hq
    have hlen := r'.length
    obtain ⟨o, ho, hc, n, hd⟩ := pl
    exact call_list_seq p (.inr rfl) ho hc hd (fun h' c' kp e => fin its r' hz h' c' kp e) (by simp only [List.size_toArray] <;> omega)
theorem call_tuple_of : CallR X (.type "tuple") (fun xs H Q => ∃ p ys, xs = [.ref p] ∧ ((SqL X.K H p ys ∧ ∀ l, H l = none → Q (.ref l) (upd H l (.tup ys))) ∨ (SqT X.K H p ys ∧ Q (.ref p) H))) := by
  intro pins s σ H xs us Q I r h
  obtain ⟨p, ys, rfl, h⟩ := h
  obtain ⟨u, rfl, rx⟩ := vals1 r
  cases rx
  rcases h with ⟨hq, q⟩ | ⟨hq, q⟩
  · obtain ⟨its, r', pl, hz⟩ := I.list hq
    have hlen := r'.length
    refine call_tuple_list pl.isList (fun h' kp => ?_) (by simp only [List.size_toArray] <;> omega)
    have I1 : Inv X pins σ H { s with heap := h' } := I.kept (t' := s.toks) kp
    have I2 : Inv X pins σ (upd H h'.objs.size (.tup ys)) { s with heap := h'.push { cls := .type "tuple", data := .seq its.toArray } } :=
      I1.laid (t' := s.toks) (fun b o e => Heap.get?_push_of_some _ e) (Nat.le_refl _) (show ObjOk X.prog X.w _ _ _ (.tup ys) from ⟨hz, its, r', IsTup.new _ _⟩)
    exact ⟨.ref h'.objs.size, _, I2, rfl, q _ (I1.hok.fresh (Nat.le_refl _))⟩
  · obtain ⟨its, r', pl, hz⟩ := I.tuple hq
    exact call_tuple_same pl ⟨.ref p, H, I, rfl, q⟩

/-! ### the call of a builtin's method: o.m(..) -/
/-- the value is of that builtin type -/
def tyV (K : PySem.W.Frag) (T : String) (x : V) (H : Hp) : Prop := match x with
  | .str _ => T = "str"
  | .int _ => T = "int"
  | .ref p => (T = "list" ∧ ∃ xs, SqL K H p xs) ∨ (T = "tuple" ∧ ∃ o, K.lookup p = some o ∧ o.cls = .type "tuple" ∧ o.dict = none) ∨
      (T = "dict" ∧ ((∃ kvs, H p = some (.dK kvs)) ∨ ∃ kvs, H p = some (.dT kvs))) ∨ (T = "set" ∧ ∃ S n, H p = some (.set S n))
  | _ => False
theorem tyV_is {pins : List (Addr × Obj)} {σ : St} {H : Hp} {s : Shared} {T : String} {x : V} {v : Value} (I : Inv X pins σ H s) (r : RelV x v) (ty : tyV X.K T x H) :
    s.TypeIs v T ∧ ∀ a, v = .ref a → ∃ ob, s.heap.get? a = some ob ∧ ob.dict = none := by
  cases x with
  | str z =>
    obtain ⟨t, rfl⟩ := r
    cases (show T = "str" from ty)
    exact ⟨typeIs_str s z t, fun _ e => nomatch e⟩
  | int i =>
    obtain ⟨t, rfl⟩ := r
    cases (show T = "int" from ty)
    exact ⟨typeIs_int s i t, fun _ e => nomatch e⟩
  | ref p =>
    cases r
    rcases ty with ⟨rfl, xs, hq⟩ | ⟨rfl, o, hk, hc, hd⟩ | ⟨rfl, hk⟩ | ⟨rfl, S, n, hk⟩
    · obtain ⟨its, _, pl, _⟩ := I.list hq
      refine ⟨pl.isList.typeIs, fun a e => ?_⟩
      cases e
      obtain ⟨o, n, e, c, hd, _⟩ := pl
      exact ⟨o, e, hd⟩
    · refine ⟨⟨o, I.kIn p o hk, hc⟩, fun a e => ?_⟩
      cases e
      exact ⟨o, I.kIn _ o hk, hd⟩
    · have z : ∃ o, s.heap.get? p = some o ∧ o.ExactDict := by
        rcases hk with ⟨kvs, hk⟩ | ⟨kvs, hk⟩
        · obtain ⟨_, _, _, _, o, _, _, e, ex, _⟩ := I.hok p _ hk
          exact ⟨o, e, ex⟩
        · obtain ⟨_, _, _, _, o, _, _, e, ex, _⟩ := I.hok p _ hk
          exact ⟨o, e, ex⟩
      obtain ⟨o, e, ex⟩ := z
      refine ⟨⟨o, e, ex.1⟩, fun a e2 => ?_⟩
      cases e2
      exact ⟨o, e, ex.2.1⟩
    · obtain ⟨o, _, _, _, e, ex, _⟩ := I.hok p _ hk
      refine ⟨⟨o, e, ex.1⟩, fun a e2 => ?_⟩
      cases e2
      exact ⟨o, e, ex.2.1⟩
  | _ => exact False.elim ty
def tBM0 (K : PySem.W.Frag) (T : String) (r : V → List V → Hp → VK → Prop) (to : TE) : TE := fun σ H Q => to σ H fun x H1 => tyV K T x H1 ∧ r x [] H1 Q
def tBM (K : PySem.W.Frag) (T : String) (r : V → List V → Hp → VK → Prop) (to : TE) (t : TA) : TE := fun σ H Q => to σ H fun x H1 => tyV K T x H1 ∧ t σ H1 fun xs H2 => r x xs H2 Q
variable {o e : Expr} {es : List Expr} {to : TE} {t : TA} {name : Str} {apos cpos : Pos} {T id : String} {r : V → List V → Hp → VK → Prop}
theorem pe_bm (pa : PlainAttrs T) (slot : Slot T name id) (hty : typeOf (.builtin id) = pure (.type "method_descriptor")) (hm : MtR X id r) (ho : PE X o to) (ha : PA X (e :: es) t)
    (hbase : attributeBase o name X.env (eval o X.env) = eval o X.env := by rfl)
    (hfew : ((backTo cpos (starEach (e :: es) X.env)).all (fun x => !x.1) && (backToKw cpos (keywordEach [] X.env)).all (fun x => x.1.isSome)
      && decide ((e :: es).length + ([] : List Keyword).length + (if ([] : List Keyword).isEmpty then 0 else 1) < 30)) = true := by rfl)
    (hline : (apos.endLine == cpos.line) = true := by rfl) (hs : starEach (e :: es) X.env = (false, eval e X.env) :: starEach es X.env := by rfl) (hplain : (backTo cpos (starEach es X.env)).any (·.1) = false := by rfl) :
    PE X (.Call (.Attribute o name apos) (e :: es) [] cpos) (tBM X.K T r to t) := by
  intro pins s σ H Q I h
  refine wpAny_Call_method_late hbase hfew hline rfl (thn (ho pins s σ H _ I h) fun v s1 ⟨x, H1, I1, r1, ty, q1⟩ => ?_)
  obtain ⟨h1, h2⟩ := tyV_is I1 r1 ty
  refine ⟨T, id, pa, slot, hty, h1, h2, ?_⟩
  have hA := ha cpos pins s1 σ H1 _ I1 q1
  rw [hs] at hA ⊢
  refine Calls.callWith_builtin (by show (false || (backTo cpos (starEach es X.env)).any (·.1)) = false; rw [hplain] <;> rfl) (Calls.evalArgs_plain ?_)
  exact thn hA fun us s2 ⟨vs, H2, I2, r2, q2⟩ => hm pins s2 σ H2 x vs v us Q I2 r1 r2 q2
/- xs.append(e), list.index on a module's tuple .. are MtR facts of 06m -/
end
end L2

namespace L2
open PySem PySem.Spec PyProof.Rows

def MtM (X : Cx) (id : String) (r : V → List V → Hp → VK → Prop) : Prop :=
  ∀ (pins : List (Addr × Obj)) (s : Shared) (σ : St) (H : Hp) (x : V) (xs : List V) (v : Value) (us : List Value) (Q : VK), Inv X pins σ H s → RelV x v → Vals xs us → r x xs H Q →
    wpAny (model X.prog X.w) X.A (call (.builtin id) (v :: us)) (EP X pins σ Q) X.xe s

/-! ### lists of values -/
theorem Vals.one : ∀ {x : V} {us : List Value}, Vals [x] us → ∃ u, us = [u] ∧ RelV x u
  | _, _, .cons r .nil => ⟨_, rfl, r⟩
theorem Vals.rep {xs : List V} {us : List Value} (h : Vals xs us) : ∀ k : Nat, Vals (List.replicate k xs).flatten (List.replicate k us).flatten
  | 0 => .nil
  | k + 1 => by
    rw [List.replicate_succ, List.replicate_succ, List.flatten_cons, List.flatten_cons]
    exact Vals.append h (Vals.rep h k)
theorem foldl_rep (its : List Value) : ∀ (k : Nat) (acc : List Value),
    List.foldl (fun x1 x2 => x1 ++ x2) acc.toArray (List.replicate k its.toArray) = (acc ++ (List.replicate k its).flatten).toArray
  | 0, acc => by simp
  | k + 1, acc => by
    have e : acc.toArray ++ its.toArray = (acc ++ its).toArray := by simp
    have e2 : (acc ++ its) ++ (List.replicate k its).flatten = acc ++ (List.replicate (k + 1) its).flatten := by
      rw [List.replicate_succ, List.flatten_cons, List.append_assoc]
    rw [← e2, ← foldl_rep its k (acc ++ its), ← e, List.replicate_succ, List.foldl_cons]

section
variable {X : Cx} {pins : List (Addr × Obj)} {σ : St} {H : Hp} {s : Shared} {l b : Addr} {xs ys zs : List V}

/-! ### the two steps: a tracked list is rewritten, a new list is laid -/
theorem Inv.lset {its its' : List Value} {n : Nat} {f : Array Value → Array Value} {t' : Nat} (I : Inv X pins σ H s) (hH : H l = some (.lst xs))
    (e : s.heap.get? l = some { cls := .type "list", data := .seq its.toArray n }) (hf : f its.toArray = its'.toArray) (hv : Vals ys its') (hz : ys.length ≤ sizeLine) :
    Inv X pins σ (upd H l (.lst ys)) { s with heap := s.heap.update l (Obj.mapSeq f), toks := t' } := by
  have q := PySem.IsL.update e f
  rw [hf] at q
  refine I.write (x := l) (e := l) (by rw [hH]; exact trivial) (.inl rfl) (fun b' u hb hu => (Heap.get?_update_other s.heap (Obj.mapSeq f) (Ne.symm hb)).trans hu) ⟨_, q⟩ ?_
  exact ⟨hz, its', _, hv, q⟩
theorem Inv.lnew {its : List Value} {t' : Nat} (I : Inv X pins σ H s) (hv : Vals ys its) (hz : ys.length ≤ sizeLine) :
    Inv X pins σ (upd H s.heap.objs.size (.lst ys)) { s with heap := s.heap.push { cls := .type "list", data := .seq its.toArray }, toks := t' } :=
  I.laid (fun _ _ q => Heap.get?_push_of_some _ q) (Nat.le_refl _) ⟨hz, its, 0, hv, Heap.get?_push_size _ rfl⟩
theorem Inv.fresh (I : Inv X pins σ H s) : H s.heap.objs.size = none := I.hok.fresh (Nat.le_refl _)
theorem Inv.lstM (I : Inv X pins σ H s) (hH : H l = some (.lst xs)) : xs.length ≤ sizeLine ∧ ∃ (its : List Value) (n : Nat), Vals xs its ∧ xs.length = its.length ∧ s.heap.get? l = some { cls := .type "list", data := .seq its.toArray n } := by
  obtain ⟨z, its, n, r, e⟩ := I.hok l _ hH
  exact ⟨z, its, n, r, r.length, e⟩

theorem notLongL {n : Nat} (h : n ≤ sizeLine) : Builtin.List.listTooLong n = false := by
  unfold Builtin.List.listTooLong
  exact decide_eq_false (by omega)
end

section
variable {X : Cx}

/-! ### methods -/
def rAppend : V → List V → Hp → VK → Prop := fun x vs H Q => ∃ l xs y, x = .ref l ∧ vs = [y] ∧ H l = some (.lst xs) ∧ xs.length < sizeLine ∧ Q .non (upd H l (.lst (xs ++ [y])))
theorem mt_append : MtM X "list.append" rAppend := by
  intro pins s σ H x vs v us Q I rx rv h
  obtain ⟨l, xs, y, rfl, rfl, hH, hz, q⟩ := h
  cases rx
  obtain ⟨u, rfl, ru⟩ := rv.one
  obtain ⟨z, its, n, r, hl, e⟩ := I.lstM hH
  refine call_meets F.slot_list_append ⟨_, e, rfl⟩ F.entry_list_append (F.args_list_append_2 _ _) (PySem.list_append l its.toArray n u (by rw [List.size_toArray]; omega)) ⟨e, ?_⟩
  refine ⟨.non, _, I.lset (its' := its ++ [u]) hH e (by simp) (r.append (.cons ru .nil)) ?_, rfl, q⟩
  rw [List.length_append, List.length_singleton]
  omega

def rExtend : V → List V → Hp → VK → Prop := fun x vs H Q => ∃ l b xs zs, x = .ref l ∧ vs = [.ref b] ∧ H l = some (.lst xs) ∧ H b = some (.lst zs) ∧ xs.length + zs.length ≤ sizeLine ∧ Q .non (upd H l (.lst (xs ++ zs)))
def rPop : V → List V → Hp → VK → Prop := fun x vs H Q => ∃ l xs y, x = .ref l ∧ vs = [] ∧ H l = some (.lst xs) ∧ xs[xs.length - 1]? = some y ∧ Q y (upd H l (.lst xs.dropLast))
def rPopAt : V → List V → Hp → VK → Prop := fun x vs H Q => ∃ l xs i k y, x = .ref l ∧ vs = [.int i] ∧ H l = some (.lst xs) ∧ -(2 ^ 63) ≤ i ∧ i < 2 ^ 63 ∧ seqIndex? i xs.length = some k ∧ xs[k]? = some y ∧ Q y (upd H l (.lst (xs.eraseIdx k)))
def rReverse : V → List V → Hp → VK → Prop := fun x vs H Q => ∃ l xs, x = .ref l ∧ vs = [] ∧ H l = some (.lst xs) ∧ Q .non (upd H l (.lst xs.reverse))
def rClear : V → List V → Hp → VK → Prop := fun x vs H Q => ∃ l xs, x = .ref l ∧ vs = [] ∧ H l = some (.lst xs) ∧ Q .non (upd H l (.lst []))
/-! ### list + list, list += list, list * int -/
def rCat : R2 := fun x y H Q => ∃ l b xs zs, x = .ref l ∧ y = .ref b ∧ H l = some (.lst xs) ∧ H b = some (.lst zs) ∧ xs.length + zs.length ≤ sizeLine ∧ ∀ p, H p = none → Q (.ref p) (upd H p (.lst (xs ++ zs)))
theorem op_cat : OpR X (binaryOp .Add) rCat := by
  intro pins s σ H x y v u Q I rx ry h
  obtain ⟨l, b, xs, zs, rfl, rfl, hH, hB, hz, q⟩ := h
  cases rx
  cases ry
  obtain ⟨z, its, n, r, hl, e⟩ := I.lstM hH
  obtain ⟨z2, its2, n2, r2, hl2, e2⟩ := I.lstM hB
  refine PySem.P.add_list e e2 ?_ (by rw [List.size_toArray, List.size_toArray]; omega)
  have ea : its.toArray ++ its2.toArray = (its ++ its2).toArray := by simp
  rw [ea]
  exact ⟨.ref _, _, I.lnew (t' := s.toks) (r.append r2) (by rw [List.length_append]; omega), rfl, q _ I.fresh⟩
/-- a list times an int (a negative one is nothing) -/
def rRep : R2 := fun x y H Q => ∃ l k xs, x = .ref l ∧ y = .int k ∧ H l = some (.lst xs) ∧ -(2 ^ 63) ≤ k ∧ k < 2 ^ 63 ∧ xs.length * k.toNat ≤ sizeLine ∧
  ∀ p, H p = none → Q (.ref p) (upd H p (.lst (List.replicate k.toNat xs).flatten))
theorem len_rep {α : Type} (xs : List α) (k : Nat) : (List.replicate k xs).flatten.length = k * xs.length := by
  induction k with
  | zero => simp
  | succ k ih => rw [List.replicate_succ, List.flatten_cons, List.length_append, ih, Nat.succ_mul, Nat.add_comm]
theorem op_rep : OpR X (binaryOp .Mult) rRep := by
  intro pins s σ H x y v u Q I rx ry h
  obtain ⟨l, k, xs, rfl, rfl, hH, h1, h2, hz, q⟩ := h
  cases rx
  obtain ⟨t, rfl⟩ := ry
  obtain ⟨z, its, n, r, hl, e⟩ := I.lstM hH
  have hlen : its.toArray.size * k.toNat ≤ sizeLine := by rw [List.size_toArray, ← hl]; exact hz
  have hcap : ¬ its.toArray.size * k.toNat > (2 ^ 63 - 1) / 8 := by
    have : (sizeLine : Nat) ≤ (2 ^ 63 - 1) / 8 := by decide
    omega
  have hfit : ¬ (!Builtin.List.listFitsIndex k) = true := by
    rw [fitsIndex_both h1 h2]
    exact Bool.false_ne_true
  have hlong : ¬ Builtin.List.listTooLong (its.toArray.size * k.toNat) = true := by
    rw [notLongL hlen]
    exact Bool.false_ne_true
  have hnew : List.foldl (fun x1 x2 => x1 ++ x2) #[] (List.replicate (if its.toArray.isEmpty = true then 0 else k.toNat) its.toArray) = (List.replicate k.toNat its).flatten.toArray := by
    have f0 : ∀ m : Nat, List.foldl (fun x1 x2 => x1 ++ x2) #[] (List.replicate m its.toArray) = (List.replicate m its).flatten.toArray := fun m => by
      have := foldl_rep its m []
      rw [List.nil_append] at this
      exact this
    rw [f0]
    cases its with
    | nil => simp
    | cons a r' => rw [if_neg (by simp)]
  refine wpAny_binaryOp_repeat_ref (T := "list") (U := "int") (by decide) ⟨_, e, rfl⟩ (fun s' => typeIs_int s' k t) noFill_list_mul F.fills_int_mul F.slot_int_rmul repeat_list F.slot_int_index.lookup
    (call_meets F.slot_int_rmul (typeIs_int s k t) F.entry_int_rmul (F.args_int_rmul_2 _ _) (int___rmul___int_list k t l its.toArray n)
      ⟨e, rfl, ⟨_, e, rfl⟩, call_meets F.slot_list_mul ⟨_, e, rfl⟩ F.entry_list_mul (F.args_list_mul_2 _ _) (AutoListH.list___mul___list_int_3 l its.toArray n k t hfit hcap hlong) ⟨e, ?_⟩⟩)
  rw [hnew]
  exact ⟨.ref _, _, I.lnew (t' := s.toks) (r.rep k.toNat) (by rw [len_rep, Nat.mul_comm]; exact hz), rfl, q _ I.fresh⟩

/-! ### del xs[i] -/
end

/-! ### xs[a:b] = ys -/
section
variable {prog : Program} {w : World} {A : Around} {E : Value → Shared → Prop} {s : Shared}
set_option maxRecDepth 100000 in
end

section
variable {X : Cx}
end
end L2

namespace Att
open PySem PySem.W PySem.Calls PyProof.Rows

/-! ### the script -/
theorem ints_of_wellAll {P : Params} {h : Heap} : ∀ (ns : List Int) (vs : List Value), WellAll P h vs (ns.map WData.int) → IntsAre vs ns := by
  intro ns
  induction ns with
  | nil =>
    intro vs w
    rw [List.map_nil] at w
    cases w
    exact .nil
  | cons n ns ih =>
    intro vs w
    rw [List.map_cons] at w
    cases w with
    | cons a b =>
      cases a
      exact .cons _ _ (ih _ b)

theorem script_of {l : OpenLaw} {n : Nat} (hn : l.most = some n) {P : Params} {h : Heap} {args : List WData} {vals : List Value}
    (hpre : l.row.toRowW.claim.pre args = true) (hwl : WellAll P h vals args) :
    ∃ a vs ns, vals = [Value.ref a] ∧ args = [WData.list (ns.map WData.int)] ∧ h.get? a = some { cls := .type "list", data := .seq vs.toArray } ∧ IntsAre vs ns ∧ ns.length ≤ n := by
  have hsh : WShape.hasAll [] args [.list .int] = true := (pre_splitW hpre).1
  have hc : l.pre.holds [] { args := args } = true := (pre_splitW hpre).2
  obtain ⟨d, r, rfl, h1, h2⟩ := hasAllW_cons hsh
  obtain rfl := hasAllW_nil h2
  obtain ⟨xs, rfl, h3⟩ := hasW_list h1
  obtain ⟨ns, rfl⟩ := items_int h3
  have hlen : ns.length ≤ n := by
    unfold OpenLaw.pre at hc
    have h4 : (WTm.not (.lt (.lit (.int (n : Int))) (.len (.arg 0)))).holds [] { args := [.list (ns.map .int)] } = true := by
      have h4 := (holds_andW hc).1
      rw [hn] at h4
      exact h4
    have h5 := condW_of h4 (w_not (w_lt w_lit (w_len_list (w_arg rfl))))
    rw [List.length_map] at h5
    refine Nat.le_of_not_lt fun q => ?_
    have q' : (n : Int) < ((ns.length : Nat) : Int) := by omega
    first
      | (rw [decide_eq_true q'] at h5; exact absurd h5 (by decide))
      | (simp at h5; omega)
  cases hwl with
  | cons w1 w2 =>
    cases w2
    cases w1 with
    | list ho hall => exact ⟨_, _, ns, rfl, rfl, ho, ints_of_wellAll ns _ hall, hlen⟩

theorem post_true (l : OpenLaw) (args : List WData) : l.row.toRowW.claim.post args (.bool true) args = true :=
  postW_of (r := l.row.toRowW) (X := (true == true))
    (show WShape.has [] (.bool true) .bool = true by first | rfl | decide | simp [WShape.has, WShape.arms, WShape.armsAll])
    (show (WTm.eq .res (.lit (.bool true))).value [] { args := args, res := some (.bool true), after := args } = some (.bool (true == true)) from w_eq_bool (w_res rfl) w_lit) rfl

/-! ### the attachment: holds_open's last premise (the goal 'hc' behind k_head) from a wpAny of the law's body -/
/-- the same from a codeAny of the CALL (for a layer whose function contracts speak of calls) -/
theorem attach_call {l : OpenLaw} {n : Nat} {q : Program} {loose : List Str} {XP : (Str → Option Value) → Heap → Prop} {YP : World → Heap → Prop} {d : DefRec}
    (hn : l.most = some n) (hdf : d.params.defaults = [])
    (call : ∀ (w : World) (s₀ s₁ : Shared) (mg mb : Str → Option Value) (fa : Addr) (o : Obj) (pm cd doc : Value) (a : Addr) (vs : List Value) (ns : List Int),
      Ground q loose [] XP w s₀ mg mb s₁.heap → YP w s₁.heap →
      s₁.heap.get? fa = some o → o.data = .func (docDef d.name d.params d.body d.scope pm cd doc) → s₁.heap.CodeRec cd d.name → mg d.name = some (.ref fa) →
      s₁.heap.get? a = some { cls := .type "list", data := .seq vs.toArray } → IntsAre vs ns → ns.length ≤ n → s₁.gens = #[] →
      codeAny (model l.prog w) callerA (.call (.ref fa) ⟨[.ref a], []⟩) (fun r s' => r = .ok (.ret (.bool true)) ∧ OldK s₁.heap s'.heap ∧ s'.os = s₁.os ∧ AllBare s'.gens) s₁) :
    WalkO q loose XP YP l.row.toRowW d [] (fun f vs => PySem.call f vs) := by
  intro w s₀ s₁ mg mb G Y fa o pm cd doc dV kV ho hd hcd hD hmg hg args vals as hpre hlay hrd hwl hlo
  obtain rfl : dV = .none := Dflts.none hD hdf
  obtain rfl : kV = .none := Dflts.noKw hD
  obtain ⟨a, vs, ns, rfl, rfl, hobj, hints, hlen⟩ := script_of hn hpre hwl
  refine enter_call (codeAny_mono (call w s₀ s₁ mg mb fa o pm cd doc a vs ns G Y ho (fd_plain hd) hcd hmg hobj hints hlen hg) fun r s' hq => ?_)
  obtain ⟨rfl, h2, h3, h4⟩ := hq
  exact ⟨.inl ⟨.bool true, .bool true, [], rfl, fun _ => rfl, .bool true, post_true l _, fun _ => ⟨List.Pairwise.nil, fun _ hm => (nomatch hm)⟩⟩, h2, h3, h4⟩

/-! ### rules over ANY heap (no ledger) from facts about the written part K: the library's own take a ledger (News) for what they write -/
section
variable {prog : Program} {w : World} {A : Around} {E : Value → Shared → Prop} {s : Shared} {K : Frag}

/-! the whole heap as the ledger: makes every rule that writes through a ledger a rule over any heap -/
def noObjs (h : Heap) : Heap := { h with objs := #[] }
def ledger (h : Heap) (L d : Addr) : List (Addr × Obj) := (List.range h.objs.size).filterMap fun a => if a = L ∨ a = d then none else (h.get? a).map fun o => (a, o)
end
end Att

namespace L2
open PySem PySem.Spec PyProof.Rows

theorem vals_ints : ∀ {vs : List Value} {ns : List Int}, IntsAre vs ns → Vals (ns.map V.int) vs
  | _, _, .nil => .nil
  | _, _, .cons n t h => .cons ⟨t, rfl⟩ (vals_ints h)

/-- nothing is tracked but the script, known to the object (or it is an object of the module) -/
def Only (H : Hp) : Prop := ∀ b, H b = none ∨ ∃ o xs, H b = some (.frz o (.lst xs))

/-- THE HEAD: the law's promise, at the heap behind the top. F, the promise of the law's def, may use that base is part of the heap (so K.In base, base.Ns mainGlobals mg stand in Mod) -/
theorem law_call {P : Program} {w : World} {K : PySem.W.Frag} {mg mb : Str → Option Value} {CX : CXT} {k : Nat} {fa a : Addr} {fd : FuncData} {x : Str} {sp : Sp} {s₁ : Shared} {vs : List Value} {ns : List Int}
    (KX : K.In s₁.heap) (hns : s₁.heap.Ns mainGlobals mg) (hb : s₁.heap.Ns builtinsNs mb) (hbb : ∀ x : Str, x ≠ "__name__" → mb x = bootBuiltins x) (hlim : s₁.heap.NoLimit) (hg : s₁.gens = #[])
    (ha : s₁.heap.get? a = some { cls := .type "list", data := .seq vs.toArray }) (hi : IntsAre vs ns) (hl : ns.length ≤ sizeLine) (hr : Room k callerA)
    (F : ∀ base : Heap, K.In base → base.Ns mainGlobals mg → FnOk P w K mg base CX k fa fd [x] sp) (hbind : ∀ (s : Shared) (u : Value), BindsTo s fd ⟨[u], []⟩ [(x, u)])
    (hsp : ∀ H : Hp, Only H → SqL K H a (ns.map V.int) → sp [.ref a] H (fun v _ => v = .bl true) fun _ _ _ => False)
    (hCX : ∀ H e s', CX [] H s₁ (fun _ _ _ => False) e s' → False) :
    codeAny (model P w) callerA (.call (.ref fa) ⟨[.ref a], []⟩) (fun r s' => r = .ok (.ret (.bool true)) ∧ OldK s₁.heap s'.heap ∧ s'.os = s₁.os ∧ AllBare s'.gens) s₁ := by
  have rv := vals_ints hi
  have lenV := hi.length
  -- from an abstract heap in which nothing but the script may be tracked
  have core : ∀ H : Hp, Only H → SqL K H a (ns.map V.int) → HOk P w H s₁.heap → (∀ b, H b ≠ none → b = a) → (H a ≠ none → K.lookup a = none) →
      codeAny (model P w) callerA (.call (.ref fa) ⟨[.ref a], []⟩) (fun r s' => r = .ok (.ret (.bool true)) ∧ OldK s₁.heap s'.heap ∧ s'.os = s₁.os ∧ AllBare s'.gens) s₁ := by
    intro H hO hS hok hA hK
    have base_of : ∀ {b : Addr} {o : Obj}, s₁.heap.get? b = some o → H b = none → (hidT s₁.heap H).get? b = some o := fun e n => hidT_get e n
    have noA : ∀ {b : Addr} {o : Obj} {es : Array DictEntry} {ep : Nat}, s₁.heap.get? b = some o → o.data = .dict es ep → H b = none := fun {b o es ep} e d => by
      cases q : H b with
      | none => rfl
      | some u =>
        have e' : b = a := hA b (by rw [q]; simp)
        subst e'
        rw [ha] at e; cases e
        have d' : Data.seq vs.toArray _ = Data.dict es ep := d
        cases d'
    have nsK : ∀ {b : Addr} {m : Str → Option Value}, s₁.heap.Ns b m → (hidT s₁.heap H).Ns b m := fun {b m} ⟨o, es, ep, e, d, r⟩ => ⟨o, es, ep, base_of e (noA e d), d, r⟩
    have hKb : K.In (hidT s₁.heap H) := fun b o e => base_of (KX b o e) (by
      cases q : H b with
      | none => rfl
      | some u =>
        have e' : b = a := hA b (by rw [q]; simp)
        subst e'
        rw [hK (by rw [q]; simp)] at e; cases e)
    have hM : Mod K mg (hidT s₁.heap H) := ⟨hKb, nsK hns, ⟨mb, nsK hb, hbb⟩, let ⟨mc, h1, h2⟩ := hlim; ⟨mc, nsK h1, h2⟩⟩
    have e0 : Env0 P w K mg (hidT s₁.heap H) callerA [] s₁ H := ⟨rfl, hM, fun b o e => of_hidT e, Nat.le_of_eq (hidT_size _ _), trivial, fun b hb => absurd (show b ∈ ([] : List Addr) from hb) (by simp), hok, .of_eq hg⟩
    refine codeAny_mono ((F _ hKb (nsK hns)).run callerA [] s₁ H ⟨[.ref a], []⟩ [.ref a] [.ref a] _ _ hr e0 (hbind s₁ (.ref a)) (.cons rfl .nil) (hsp H hO hS)) fun r s' h => ?_
    cases r with
    | error e => exact (hCX H e s' h).elim
    | ok fl =>
      cases fl with
      | next => exact False.elim h
      | brk => exact False.elim h
      | cont => exact False.elim h
      | ret u =>
        obtain ⟨v, H', os, bare, un, hok', r', q⟩ := h
        have q' : v = .bl true := q
        subst q'
        obtain rfl : u = Value.bool true := r'
        refine ⟨rfl, OldK.of_keep fun b o e => ?_, os, bare⟩
        cases q : H b with
        | none => exact un.keep b o e q (by intro z; exact absurd (show b ∈ ([] : List Addr) from z) (by simp)) (by simp)
        | some u =>
          rcases hO b with z | ⟨ob, xs, z⟩
          · rw [q] at z; cases z
          · have z2 := un.frzs b ob _ z
            obtain ⟨e1, _⟩ := hok b _ z
            obtain ⟨e2, _⟩ := hok' b _ z2
            rw [e] at e1; cases e1
            exact e2
  cases hk : K.lookup a with
  | some o =>
    -- the script is one of the module's own objects
    have e := KX a o hk
    rw [ha] at e
    cases e
    refine core (fun _ => none) (fun _ => .inl rfl) (.inr ⟨_, vs.toArray, _, hk, rfl, rfl, rfl, by rw [List.size_toArray, lenV]; exact hl, by simpa using rv⟩) (fun b u z => by have z' : (none : Option HO) = some u := z; cases z') (fun b z => absurd rfl z) fun z => absurd rfl z
  | none =>
    refine core (fun b => if b = a then some (.frz { cls := .type "list", data := .seq vs.toArray } (.lst (ns.map V.int))) else none) (fun b => ?_) (.inl (.inr ⟨{ cls := .type "list", data := .seq vs.toArray }, if_pos rfl⟩)) (fun b u z => ?_) (fun b z => ?_) fun _ => hk
    · by_cases hb : b = a
      · exact .inr ⟨_, _, if_pos hb⟩
      · exact .inl (if_neg hb)
    · by_cases hb : b = a
      · have z' := (if_pos hb).symm.trans z
        cases z'
        subst hb
        exact ⟨ha, by rw [List.length_map]; exact hl, vs, _, rv, ha⟩
      · have z' := (if_neg hb).symm.trans z
        cases z'
    · by_cases hb : b = a
      · exact hb
      · exact absurd (if_neg hb) z
end L2

namespace L2
open PySem PySem.Spec PyProof.Rows

abbrev KOf {K : PySem.W.Frag} {h : Heap} (_ : K.In h) : PySem.W.Frag := K

/-- the goal that k_head leaves (case hc), from the law's promise. F gives the function object fd (K's own) once, then the promise over every base -/
theorem walk_of {l : PySem.W.OpenLaw} {n k : Nat} {q : Program} {loose : List Str} {XP : (Str → Option Value) → Heap → Prop} {YP : World → Heap → Prop} {d : DefRec} {K : Params → PySem.W.Frag} {CX : World → CXT} {sp : World → Sp} {x : Str}
    (hn : l.most = some n) (hn2 : n ≤ sizeLine) (hdf : d.params.defaults = []) (hr : Room k callerA)
    (hY : ∀ (w : World) (h : Heap), YP w h → (K w.params).In h)
    (F : ∀ (w : World) (mg : Str → Option Value) (fa : Addr) (h : Heap), (K w.params).In h → h.Ns mainGlobals mg → mg d.name = some (.ref fa) →
      ∃ fd : FuncData, (∀ (s : Shared) (u : Value), BindsTo s fd ⟨[u], []⟩ [(x, u)]) ∧
        ∀ base : Heap, (K w.params).In base → base.Ns mainGlobals mg → FnOk l.prog w (K w.params) mg base (CX w) k fa fd [x] (sp w))
    (hsp : ∀ (w : World) (H : Hp) (a : Addr) (ns : List Int), ns.length ≤ n → Only H → SqL (K w.params) H a (ns.map V.int) → sp w [.ref a] H (fun v _ => v = .bl true) fun _ _ _ => False)
    (hCX : ∀ (w : World) (H : Hp) (s : Shared) (e : Value) (s' : Shared), CX w [] H s (fun _ _ _ => False) e s' → False) :
    PySem.W.WalkO q loose XP YP l.row.toRowW d [] (fun f vs => PySem.call f vs) := by
  refine Att.attach_call hn hdf fun w s₀ s₁ mg mb fa o pm cd doc a vs ns G Y ho hd hcd hmg hobj hints hlen hg => ?_
  have KX := hY w _ Y
  obtain ⟨fd, hb, hF⟩ := F w mg fa _ KX G.T.g hmg
  exact law_call KX G.T.g G.T.b G.T.builtins G.T.nolimit hg hobj hints (Nat.le_trans hlen hn2) hr hF hb (fun H hO hS => hsp w H a ns hlen hO hS) fun H e s' => hCX w H s₁ e s'
/-- the same where the promise hangs on the written part alone: (sp := My.sp_law), no hole under a binder -/
theorem walk_ofK {l : PySem.W.OpenLaw} {n k : Nat} {q : Program} {loose : List Str} {XP : (Str → Option Value) → Heap → Prop} {YP : World → Heap → Prop} {d : DefRec} {K : Params → PySem.W.Frag} {CX : CXT} {sp : PySem.W.Frag → Sp} {x : Str}
    (hn : l.most = some n) (hn2 : n ≤ sizeLine) (hdf : d.params.defaults = []) (hr : Room k callerA)
    (hY : ∀ (w : World) (h : Heap), YP w h → (K w.params).In h)
    (F : ∀ (w : World) (mg : Str → Option Value) (fa : Addr) (h : Heap), (K w.params).In h → h.Ns mainGlobals mg → mg d.name = some (.ref fa) →
      ∃ fd : FuncData, (∀ (s : Shared) (u : Value), BindsTo s fd ⟨[u], []⟩ [(x, u)]) ∧
        ∀ base : Heap, (K w.params).In base → base.Ns mainGlobals mg → FnOk l.prog w (K w.params) mg base CX k fa fd [x] (sp (K w.params)))
    (hsp : ∀ (K : PySem.W.Frag) (H : Hp) (a : Addr) (ns : List Int), ns.length ≤ n → Only H → SqL K H a (ns.map V.int) → sp K [.ref a] H (fun v _ => v = .bl true) fun _ _ _ => False)
    (hCX : ∀ (H : Hp) (s : Shared) (e : Value) (s' : Shared), CX [] H s (fun _ _ _ => False) e s' → False) :
    PySem.W.WalkO q loose XP YP l.row.toRowW d [] (fun f vs => PySem.call f vs) :=
  walk_of (K := K) (CX := fun _ => CX) (sp := fun w => sp (K w.params)) hn hn2 hdf hr hY F (fun w H a ns h1 h2 h3 => hsp (K w.params) H a ns h1 h2 h3) fun _ H s e s' => hCX H s e s'
end L2



/-! SHORT WORDS over the layer: a def of the text, its body, what a loop and a test want. -/
namespace L2
open PySem PySem.Spec PyProof.Rows

/-! ### the text by places -/
/-- the j-th statement of a class's body -/
def inClass (s : Stmt) (j : Nat) : Stmt := match s with
  | .ClassDef _ _ _ body _ _ _ _ _ _ _ => body.getD j (.Pass ⟨0, 0, 0, 0⟩)
  | _ => .Pass ⟨0, 0, 0, 0⟩
def defArgs (s : Stmt) : Arguments := match s with
  | .FunctionDef _ a _ _ _ _ _ _ _ _ => a
  | _ => { posonlyargs := [], args := [], vararg := none, kwonlyargs := [], kw_defaults := [], kwarg := none, defaults := [] }
def defBody (s : Stmt) : List Stmt := match s with
  | .FunctionDef _ _ b _ _ _ _ _ _ _ => b
  | _ => []
def defScope (s : Stmt) : Scope := match s with
  | .FunctionDef _ _ _ _ _ _ sc _ _ _ => sc
  | _ => { kind := .function, names := [], isGenerator := false, isCoroutine := false }

/-! ### no exception leaves a def -/
abbrev CX0 : CXT := fun _ _ _ _ _ _ => False
abbrev E0 : XK := fun _ _ _ => False
theorem pass0 {X : Cx} : Passes CX0 X E0 := fun _ _ _ _ _ _ _ h => h.elim

/-! ### a def (or method) of the text as it stands behind the top -/
structure Fun (K : PySem.W.Frag) (x qual : Str) (st : Stmt) (f : Addr) (fd : FuncData) : Prop where
  ex : ∃ (oc : Value) (od : Option Addr) (kV doc pm : Value) (an : Option Addr) (cdv ct : Value) (osl : Array (Option Value)),
    fd = PySem.W.fnOf x qual (defArgs st) (defBody st) (defScope st) .none kV doc pm an cdv ct ∧ K.lookup f = some ⟨oc, od, .func fd, osl⟩ ∧ PySem.W.codeIn K cdv qual = true
  kp : PySem.W.keepIn K (.ref f) = true
section
variable {P : Program} {w : World} {K : PySem.W.Frag} {mg : Str → Option Value} {base : Heap}
/-- THE RULE for a def: its body as a term of rules, and the reading of that term -/
theorem Fun.ok {x qual : Str} {st : Stmt} {f : Addr} {fd : FuncData} {N ps : List Str} {k : Nat} {sp : Sp} (F : Fun K x qual st f fd) (S : FnScope N ps (defScope st)) (len : ∀ vs H Q E, sp vs H Q E → vs.length = ps.length)
    (hbody : ∀ (cdv : Value) (A : Around) (outer : List Env) (s : Shared) (H : Hp) (vs : List V) (Q : VK) (E : XK), Room k (A.deeper (envOfC qual (defScope st) s.heap.objs.size f cdv)) → sp vs H Q E →
      ∃ t, PSs (cxOf CX0 P w K mg base N qual (defScope st) f cdv A outer s H E).nox (defBody st) t ∧ t { nx := fun _ H' => Q .non H', rt := Q } (start N vs) H) : FnOk P w K mg base CX0 (k + 1) f fd ps sp := by
  obtain ⟨oc, od, kV, doc, pm, an, cdv, ct, osl, rfl, lk, hcd⟩ := F.ex
  refine fn_of lk hcd S len fun A outer s H vs Q E hr hsp => ?_
  obtain ⟨t, h, q⟩ := hbody cdv A outer s H vs Q E hr hsp
  exact ⟨t, h.nox, q⟩
/-- how its arguments bind (no defaults): h is «fun _ _ _ _ _ _ us hl => match us, hl with | [_, _], _ => rfl», one _ a parameter -/
theorem Fun.binds {x qual : Str} {st : Stmt} {f : Addr} {fd : FuncData} {ps : List Str} (F : Fun K x qual st f fd)
    (h : ∀ (kV doc pm : Value) (an : Option Addr) (cdv ct : Value) (us : List Value), us.length = ps.length → bindArgs (PySem.W.fnOf x qual (defArgs st) (defBody st) (defScope st) .none kV doc pm an cdv ct) ⟨us, []⟩ = pure (ps.zip us)) : Binds K fd ps [] := by
  obtain ⟨oc, od, kV, doc, pm, an, cdv, ct, osl, rfl, lk, hcd⟩ := F.ex
  exact .all (h kV doc pm an cdv ct)
theorem fun_mk {x qual : Str} {st : Stmt} {f : Addr} {oc : Value} {od an : Option Addr} {osl : Array (Option Value)} {kV doc pm cdv ct : Value} (l : K.lookup f = some ⟨oc, od, .func (PySem.W.fnOf x qual (defArgs st) (defBody st) (defScope st) .none kV doc pm an cdv ct), osl⟩)
    (c : PySem.W.codeIn K cdv qual = true) (k : PySem.W.keepIn K (.ref f) = true) : Fun K x qual st f (PySem.W.fnOf x qual (defArgs st) (defBody st) (defScope st) .none kV doc pm an cdv ct) := ⟨⟨oc, od, kV, doc, pm, an, cdv, ct, osl, rfl, l, c⟩, k⟩
end
theorem hu_of {A : Around} {k : Nat} (hr : Room k A) : A.units + 1 < cLine := Nat.lt_of_le_of_lt (Nat.add_le_add_left (by decide : 1 ≤ 64) _) hr.units
theorem small1000 {n : Nat} (h : n ≤ 1000) : n < sizeLine := Nat.lt_of_le_of_lt h (by decide)

/-! ### expressions in short: the name that stands in the i-th slot -/
section
variable {X : Cx}
theorem pv (i : Nat) {x : Str} {pos : Pos} (hN : X.N[i]? = some x := by rfl) (hv : Vis X.env.scope x := by first | exact Or.inl rfl | exact Or.inr (Or.inl rfl) | exact Or.inr (Or.inr rfl)) (hd : (x == ("__debug__" : Str)) = false := by decide)
    (hcd : (x == ("__classdict__" : Str)) = false := by decide) : PE X (.Name x pos) (tVar i) := pe_var hN hv hd hcd
end

/-! ### tests -/
/-! ### heaps -/
/-- all that was tracked is as it was -/
def Same (H H' : Hp) : Prop := ∀ b o, H b = some o → H' b = some o
theorem Same.refl (H : Hp) : Same H H := fun _ _ h => h
theorem Same.trans {H H1 H2 : Hp} (a : Same H H1) (b : Same H1 H2) : Same H H2 := fun c o h => b c o (a c o h)
theorem Same.free {H H' : Hp} (e : Same H H') {l : Addr} (h : H' l = Option.none) : H l = Option.none := by
  cases q : H l with
  | none => rfl
  | some o =>
    rw [e l o q] at h
    cases h
theorem Same.seq {K : PySem.W.Frag} {H H' : Hp} {a : Addr} {xs : List V} (e : Same H H') (h : SqL K H a xs) : SqL K H' a xs := by
  rcases h with (h | ⟨o, h⟩) | h
  · exact .inl (.inl (e _ _ h))
  · exact .inl (.inr ⟨o, e _ _ h⟩)
  · exact .inr h

end L2

set_option maxRecDepth 100000
namespace L2
open PySem PySem.Spec PyProof.Rows

/-! ### lists of pairs as tables -/
section
variable {κ : Type} [DecidableEq κ]
def valV (kvs : List (κ × V)) (k : κ) : Option V := (kvs.find? fun kv => decide (kv.1 = k)).map (·.2)
/-- in its place, or at the end -/
def putK (kvs : List (κ × V)) (k : κ) (v : V) : List (κ × V) :=
  if (kvs.any fun kv => decide (kv.1 = k)) = true then kvs.map (fun kv => if kv.1 = k then (kv.1, v) else kv) else kvs ++ [(k, v)]
def dropK (kvs : List (κ × V)) (k : κ) : List (κ × V) := kvs.filter fun kv => decide (kv.1 ≠ k)

theorem valV_pos {p : κ × V} {r : List (κ × V)} {k : κ} (e : p.1 = k) : valV (p :: r) k = some p.2 := by simp [valV, List.find?_cons, e]
theorem valV_neg {p : κ × V} {r : List (κ × V)} {k : κ} (e : ¬ p.1 = k) : valV (p :: r) k = valV r k := by simp [valV, List.find?_cons, e]
theorem valV_any (k : κ) : ∀ kvs : List (κ × V), (kvs.any fun kv => decide (kv.1 = k)) = (valV kvs k).isSome
  | [] => rfl
  | p :: r => by
    rw [List.any_cons]
    by_cases e : p.1 = k
    · simp only [valV_pos e, decide_eq_true e, Bool.true_or, Option.isSome_some]
    · rw [valV_neg e, decide_eq_false e, Bool.false_or]; exact valV_any k r
theorem length_putK (kvs : List (κ × V)) (k : κ) (v : V) : (putK kvs k v).length ≤ kvs.length + 1 := by
  unfold putK
  split
  · rw [List.length_map]; omega
  · rw [List.length_append, List.length_cons, List.length_nil]; omega
theorem putK_new {kvs : List (κ × V)} {k : κ} (v : V) (h : valV kvs k = none) : putK kvs k v = kvs ++ [(k, v)] := by
  unfold putK
  rw [valV_any, h]
  exact if_neg (by decide)

theorem RelO.isSome_eq {o : Option V} {u : Option Value} (r : RelO o u) : o.isSome = u.isSome := by
  cases o with
  | none => cases u with
    | none => rfl
    | some _ => exact (show False from r).elim
  | some _ => cases u with
    | none => exact (show False from r).elim
    | some _ => rfl
/-- raw tables of the same keys -/
theorem KV.val {kvs : List (κ × V)} {vs : List (κ × Value)} (r : KV kvs vs) (k : κ) : RelO (valV kvs k) (valueAt vs k) := by
  unfold KV at r
  induction r with
  | nil => exact True.intro
  | @cons p q ps qs h t ih =>
    obtain ⟨h1, h2⟩ := h
    by_cases e : p.1 = k
    · have e' : q.1 = k := h1.symm.trans e
      have b : valueAt (q :: qs) k = some q.2 := by simp [valueAt, List.find?_cons, e']
      rw [valV_pos e, b]; exact h2
    · have e' : ¬ q.1 = k := fun z => e (h1.trans z)
      have b : valueAt (q :: qs) k = valueAt qs k := by simp [valueAt, List.find?_cons, e']
      rw [valV_neg e, b]; exact ih
theorem KV.any {kvs : List (κ × V)} {vs : List (κ × Value)} (r : KV kvs vs) (k : κ) : (kvs.any fun kv => decide (kv.1 = k)) = vs.any fun kv => decide (kv.1 = k) := by
  unfold KV at r
  induction r with
  | nil => rfl
  | cons h t ih => rw [List.any_cons, List.any_cons, ih, h.1]
theorem KV.repl {kvs : List (κ × V)} {vs : List (κ × Value)} (r : KV kvs vs) (k : κ) {y : V} {u : Value} (ry : RelV y u) :
    KV (kvs.map fun kv => if kv.1 = k then (kv.1, y) else kv) (vs.map fun kv => if kv.1 = k then (kv.1, u) else kv) := by
  unfold KV at r ⊢
  induction r with
  | nil => exact .nil
  | @cons p q ps qs h t ih =>
    rw [List.map_cons, List.map_cons]
    refine .cons ?_ ih
    obtain ⟨h1, h2⟩ := h
    by_cases e : p.1 = k
    · rw [if_pos e, if_pos (h1.symm.trans e)]; exact ⟨h1, ry⟩
    · rw [if_neg e, if_neg (fun z => e (h1.trans z))]; exact ⟨h1, h2⟩
theorem KV.put {kvs : List (κ × V)} {vs : List (κ × Value)} (r : KV kvs vs) (k : κ) {y : V} {u : Value} (ry : RelV y u) : KV (putK kvs k y) (stored vs k u) := by
  unfold putK stored
  rw [r.any k]
  by_cases e : (vs.any fun kv => decide (kv.1 = k)) = true
  · rw [if_pos e, if_pos e]; exact r.repl k ry
  · rw [if_neg e, if_neg e]; exact Paired.snoc r ⟨rfl, ry⟩
theorem KV.length {kvs : List (κ × V)} {vs : List (κ × Value)} (r : KV kvs vs) : kvs.length = vs.length := Paired.length r
end


/-! ### a tracked dict, its keys ints and texts or tuples of these -/
theorem kV_is {P : Program} {w : World} {k : Key} {u : Value} (r : RelV (kV k) u) : (mixKind P w).is k u = true := by
  cases k with
  | inl i => obtain ⟨t, e⟩ := (show ∃ t, u = Value.int i t from r); subst e; exact mixKind_int P w i t
  | inr x => obtain ⟨t, e⟩ := (show ∃ t, u = Value.str x t from r); subst e; exact mixKind_str P w x t
theorem items_are {P : Program} {w : World} : ∀ {ks : List Key} {us : List Value}, Vals (ks.map kV) us → ItemsAre (mixKind P w) ks us
  | [], _, r => by rw [List.map_nil] at r; cases r; exact .nil
  | k :: ks, _, r => by
    rw [List.map_cons] at r
    cases r with
    | cons h t => exact .cons (kV_is h) (items_are t)

/-- raw entries of a dict with tuple keys -/
abbrev KT (H : Hp) : List (List Key × V) → List (List Key × Addr × Value) → Prop := Paired fun p q => p.1 = q.1 ∧ H q.2.1 = some (.tup (p.1.map kV)) ∧ RelV p.2 q.2.2
theorem KT.val {H : Hp} {kvs : List (List Key × V)} {xs : List (List Key × Addr × Value)} (r : KT H kvs xs) (k : List Key) : RelO (valV kvs k) ((atKey xs k).map (·.2)) := by
  induction r with
  | nil => exact True.intro
  | @cons p q ps qs h t ih =>
    obtain ⟨h1, _, h2⟩ := h
    by_cases e : p.1 = k
    · have e' : q.1 = k := h1.symm.trans e
      have b : atKey (q :: qs) k = some q.2 := by simp [atKey, List.find?_cons, e']
      rw [valV_pos e, b]; exact h2
    · have e' : ¬ q.1 = k := fun z => e (h1.trans z)
      have b : atKey (q :: qs) k = atKey qs k := by simp [atKey, List.find?_cons, e']
      rw [valV_neg e, b]; exact ih
theorem KT.repl {H : Hp} {kvs : List (List Key × V)} {xs : List (List Key × Addr × Value)} (r : KT H kvs xs) (k : List Key) {y : V} {u : Value} (ry : RelV y u) :
    KT H (kvs.map fun kv => if kv.1 = k then (kv.1, y) else kv) (xs.map (putAt k u)) := by
  induction r with
  | nil => exact .nil
  | @cons p q ps qs h t ih =>
    rw [List.map_cons, List.map_cons]
    refine .cons ?_ ih
    obtain ⟨h1, h2, h3⟩ := h
    unfold putAt
    by_cases e : p.1 = k
    · rw [if_pos e, if_pos (h1.symm.trans e)]; exact ⟨h1, h2, ry⟩
    · rw [if_neg e, if_neg (fun z => e (h1.trans z))]; exact ⟨h1, h2, h3⟩
theorem KT.put {H : Hp} {kvs : List (List Key × V)} {xs : List (List Key × Addr × Value)} (r : KT H kvs xs) (k : List Key) {b : Addr} {y : V} {u : Value} (hb : H b = some (.tup (k.map kV))) (ry : RelV y u) :
    KT H (putK kvs k y) (storedH xs k b u) := by
  have e : (kvs.any fun kv => decide (kv.1 = k)) = (atKey xs k).isSome := by
    rw [valV_any, (r.val k).isSome_eq, Option.isSome_map]
  unfold putK storedH
  rw [e]
  by_cases q : (atKey xs k).isSome = true
  · rw [if_pos q, if_pos q]; exact r.repl k ry
  · rw [if_neg q, if_neg q]; exact Paired.snoc r ⟨rfl, hb, ry⟩
theorem KT.keeps {H H' : Hp} {kvs : List (List Key × V)} {xs : List (List Key × Addr × Value)} (r : KT H kvs xs) (ht : ∀ b ys, H b = some (.tup ys) → H' b = some (.tup ys)) : KT H' kvs xs :=
  Paired.mapP r fun _ _ z => ⟨z.1, ht _ _ z.2.1, z.2.2⟩

section
variable {P : Program} {w : World} {H : Hp} {h : Heap} {a : Addr}
theorem rd_of {u : HO} (ok : HOk P w H h) (e : Rd H a u) : ObjOk P w H h a u := e.ok ok
theorem dk_rd {kvs : List (Key × V)} (ok : HOk P w H h) (e : Rd H a (.dK kvs)) : kvs.length ≤ sizeLine ∧ (a == sysModules) = false ∧ ∃ vs, KV kvs vs ∧ h.DictOf (mixKind P w) a vs :=
  show ObjOk P w H h a (.dK kvs) from rd_of ok e
theorem dk_of {kvs : List (Key × V)} (ok : HOk P w H h) (e : H a = some (.dK kvs)) : kvs.length ≤ sizeLine ∧ (a == sysModules) = false ∧ ∃ vs, KV kvs vs ∧ h.DictOf (mixKind P w) a vs := dk_rd ok (.inl e)
/-- a tracked tuple of ints and texts is a key -/
theorem key_of {ks : List Key} (ok : HOk P w H h) (e : H a = some (.tup (ks.map kV))) : (tupleKind (mixKind P w)).is h ks a := by
  obtain ⟨_, its, r, o, h1, h2, n, h3⟩ := (show ObjOk P w H h a (.tup (ks.map kV)) from ok a _ e)
  exact ⟨o, its.toArray, n, h1, h2, h3, by simpa using items_are r⟩
theorem dt_rd {kvs : List (List Key × V)} (ok : HOk P w H h) (e : Rd H a (.dT kvs)) : kvs.length ≤ sizeLine ∧ (a == sysModules) = false ∧
    ∃ xs, KT H kvs xs ∧ h.DictOfH (tupleKind (mixKind P w)) a xs := by
  obtain ⟨z, y, xs, r, o, es, ep, h1, h2, h3, h4, h5⟩ := (show ObjOk P w H h a (.dT kvs) from rd_of ok e)
  refine ⟨z, y, xs, r, o, es, ep, h1, h2, h3, h4, fun x hx => ?_, h5⟩
  have all : ∀ {l : List (List Key × V)} {m : List (List Key × Addr × Value)}, KT H l m → ∀ x ∈ m, (tupleKind (mixKind P w)).is h x.1 x.2.1 := by
    intro l m q
    induction q with
    | nil => intro x hx; exact nomatch hx
    | @cons p q ps qs hq t ih =>
      intro x hx
      rcases List.mem_cons.mp hx with e | hx
      · subst e
        exact key_of ok (by rw [← hq.1]; exact hq.2.1)
      · exact ih x hx
  exact all r x hx
theorem dt_of {kvs : List (List Key × V)} (ok : HOk P w H h) (e : H a = some (.dT kvs)) : kvs.length ≤ sizeLine ∧ (a == sysModules) = false ∧
    ∃ xs, KT H kvs xs ∧ h.DictOfH (tupleKind (mixKind P w)) a xs := dt_rd ok (.inl e)
end

/-- what the dict at a holds at the key y -/
def DGet (H : Hp) (a : Addr) (y : V) (r : Option V) : Prop :=
  (∃ kvs k, Rd H a (.dK kvs) ∧ y = kV k ∧ r = valV kvs k) ∨ ∃ kvs k b, Rd H a (.dT kvs) ∧ y = .ref b ∧ H b = some (.tup (k.map kV)) ∧ r = valV kvs k
/-- the heap behind a[y] = v -/
def DPut (H : Hp) (a : Addr) (y v : V) (H' : Hp) : Prop :=
  (∃ kvs k, H a = some (.dK kvs) ∧ y = kV k ∧ kvs.length < sizeLine ∧ H' = upd H a (.dK (putK kvs k v))) ∨
  ∃ kvs k b, H a = some (.dT kvs) ∧ y = .ref b ∧ H b = some (.tup (k.map kV)) ∧ kvs.length < sizeLine ∧ H' = upd H a (.dT (putK kvs k v))
theorem DGet.k {H : Hp} {a : Addr} {kvs : List (Key × V)} {k : Key} (e : H a = some (.dK kvs)) : DGet H a (kV k) (valV kvs k) := .inl ⟨kvs, k, .inl e, rfl, rfl⟩
theorem DPut.k {H : Hp} {a : Addr} {kvs : List (Key × V)} {k : Key} {v : V} (e : H a = some (.dK kvs)) (hl : kvs.length < sizeLine) : DPut H a (kV k) v (upd H a (.dK (putK kvs k v))) := .inl ⟨kvs, k, e, rfl, hl, rfl⟩
section
variable {X : Cx} {pins : List (Addr × Obj)} {σ : St} {H : Hp} {s : Shared} {a : Addr} {y v : V} {u r : Value} {o : Option V} {A : Around} {E : Value → Shared → Prop}

theorem Inv.big (I : Inv X pins σ H s) : sysModules < s.heap.objs.size := by
  have h : mainGlobals < s.heap.objs.size := (I.mod.glob.keeps I.bk).lt
  exact Nat.lt_trans (by decide) h

/-- d[y], there -/
theorem d_getItem {Q : Value → Shared → Prop} (hu : A.units + 1 < cLine) (I : Inv X pins σ H s) (g : DGet H a y (some v)) (ry : RelV y u) (h : ∀ w' s', Inv X pins σ H s' → RelV v w' → Q w' s') :
    wpAny (model X.prog X.w) A (getItem (.ref a) u) Q E s := by
  rcases g with ⟨kvs, k, e, ey, l⟩ | ⟨kvs, k, b, e, ey, eb, l⟩
  · subst ey
    obtain ⟨z, hd, vs, rel, dd⟩ := dk_rd I.hok e
    obtain ⟨w', hw, rw'⟩ := RelO.some_of (v := v) (o := valueAt vs k) (by rw [l]; exact rel.val k)
    exact wpAny_getItem_of (kV_is ry) dd.mapOf hw (h w' _ (I.tok _) rw')
  · subst ey
    cases (show u = Value.ref b from ry)
    obtain ⟨z, hd, xs, rel, dd⟩ := dt_rd I.hok e
    obtain ⟨w', hw, rw'⟩ := RelO.some_of (v := v) (o := (atKey xs k).map (·.2)) (by rw [l]; exact rel.val k)
    obtain ⟨p, hp, hp2⟩ := Option.map_eq_some_iff.mp hw
    refine wpAny_getItem_heap (tupleKind_room_in1 hu) (key_of I.hok eb) dd hp ?_
    rw [hp2]
    exact h w' _ (I.tok _) rw'
/-- y in d -/
theorem d_in {Q : Value → Shared → Prop} (hu : A.units + 1 < cLine) (I : Inv X pins σ H s) (g : DGet H a y o) (ry : RelV y u) (h : ∀ s', Inv X pins σ H s' → Q (.bool o.isSome) s') :
    wpAny (model X.prog X.w) A (compareOp .In u (.ref a)) Q E s := by
  rcases g with ⟨kvs, k, e, ey, l⟩ | ⟨kvs, k, b, e, ey, eb, l⟩
  · subst ey
    obtain ⟨z, hd, vs, rel, dd⟩ := dk_rd I.hok e
    refine wpAny_in_of (kV_is ry) hd dd.mapOf ?_
    rw [← (rel.val k).isSome_eq, ← l]
    exact h _ (I.tok _)
  · subst ey
    cases (show u = Value.ref b from ry)
    obtain ⟨z, hd, xs, rel, dd⟩ := dt_rd I.hok e
    refine wpAny_in_heap (tupleKind_room_in1 hu) (key_of I.hok eb) hd dd ?_
    have q := (rel.val k).isSome_eq
    rw [Option.isSome_map] at q
    rw [← q, ← l]
    exact h _ (I.tok _)
theorem d_notIn {Q : Value → Shared → Prop} (hu : A.units + 1 < cLine) (I : Inv X pins σ H s) (g : DGet H a y o) (ry : RelV y u) (h : ∀ s', Inv X pins σ H s' → Q (.bool (!o.isSome)) s') :
    wpAny (model X.prog X.w) A (compareOp .NotIn u (.ref a)) Q E s := by
  rcases g with ⟨kvs, k, e, ey, l⟩ | ⟨kvs, k, b, e, ey, eb, l⟩
  · subst ey
    obtain ⟨z, hd, vs, rel, dd⟩ := dk_rd I.hok e
    refine wpAny_notIn_of (kV_is ry) hd dd.mapOf ?_
    rw [← (rel.val k).isSome_eq, ← l]
    exact h _ (I.tok _)
  · subst ey
    cases (show u = Value.ref b from ry)
    obtain ⟨z, hd, xs, rel, dd⟩ := dt_rd I.hok e
    refine wpAny_notIn_heap (tupleKind_room_in1 hu) (key_of I.hok eb) hd dd ?_
    have q := (rel.val k).isSome_eq
    rw [Option.isSome_map] at q
    rw [← q, ← l]
    exact h _ (I.tok _)
/-- a dict's object is replaced -/
theorem d_write {h' : Heap} {t' : Nat} {ob : HO} (I : Inv X pins σ H s) (mu : Mut (H a)) (hs : Heap.SameBut a s.heap h') (he : ∃ q, h'.get? a = some q) (new : ObjOk X.prog X.w (upd H a ob) h' a ob) :
    Inv X pins σ (upd H a ob) { s with heap := h', toks := t' } :=
  I.write (x := a) (e := a) mu (.inl rfl) (fun b q hb z => (hs.2 b hb).trans z) he new
theorem dk_new {P : Program} {w : World} {H' : Hp} {h' : Heap} {kvs : List (Key × V)} {vs : List (Key × Value)} (z : kvs.length ≤ sizeLine) (hd : (a == sysModules) = false) (rel : KV kvs vs) (dd : h'.DictOf (mixKind P w) a vs) :
    ObjOk P w H' h' a (.dK kvs) := ⟨z, hd, vs, rel, dd⟩
/-- d[y] = v -/
theorem d_setItem {H' : Hp} {Q : Unit → Shared → Prop} (hu : A.units + 1 < cLine) (I : Inv X pins σ H s) (g : DPut H a y v H') (ry : RelV y u) (rv : RelV v r) (h : ∀ s', Inv X pins σ H' s' → Q () s') :
    wpAny (model X.prog X.w) A (setItem (.ref a) u r) Q E s := by
  rcases g with ⟨kvs, k, e, ey, l, eH⟩ | ⟨kvs, k, b, e, ey, eb, l, eH⟩
  · subst ey eH
    obtain ⟨z, hd, vs, rel, dd⟩ := dk_of I.hok e
    have hz : vs.length ≤ sizeLine := by rw [← rel.length]; exact z
    have hl : (putK kvs k v).length ≤ sizeLine := by have := length_putK kvs k v; omega
    refine wpAny_setItem_pairs (hsz := hz) (kV_is ry) dd fun h' dd' hs => h _ ?_
    have he : ∃ q, h'.get? a = some q := let ⟨q, _, _, hq, _⟩ := dd'; ⟨q, hq⟩
    exact d_write I (by rw [e]; exact True.intro) hs he (dk_new hl hd (rel.put k rv) dd')
  · subst ey eH
    cases (show u = Value.ref b from ry)
    obtain ⟨z, hd, xs, rel, dd⟩ := dt_of I.hok e
    have hz : xs.length ≤ sizeLine := by rw [← Paired.length rel]; exact z
    have hl : (putK kvs k v).length ≤ sizeLine := by have := length_putK kvs k v; omega
    refine wpAny_setItem_heap (hsz := hz) (tupleKind_room_in1 hu) (key_of I.hok eb) dd fun h' dd' hs => h _ ?_
    obtain ⟨q, es, ep, hq, h2, h3, h4, _, h5⟩ := dd'
    refine d_write I (by rw [e]; exact True.intro) hs ⟨q, hq⟩ ⟨hl, hd, _, (rel.put k eb rv).keeps fun c ys ec => ?_, q, es, ep, hq, h2, h3, h4, h5⟩
    rw [upd_ne (ne_of ec e (fun z => nomatch z))]
    exact ec
end

section
variable {X : Cx} {pins : List (Addr × Obj)} {σ : St} {H : Hp} {s : Shared} {a : Addr} {kvs : List (Key × V)} {k : Key} {u : Value} {A : Around} {E : Value → Shared → Prop}
end


/-! ### readings and rules -/
/-- the element of a subscription, not a slice -/
def NoSl (i : Expr) : Prop := ∀ ov iv, subscripted i false ov iv = operate [ov, iv] (getItem ov iv)
theorem subD_of {prog : Program} {w : World} {A : Around} {E : Value → Shared → Prop} {s : Shared} {env : Env} {value slice : Expr} {pos : Pos} {T id : String} {Q : Value → Shared → Prop}
    (hl : typeLookup (.type T) "__getitem__" = pure (some (.builtin id))) (hs : NoSl slice)
    (h : wpAny (model prog w) A (eval value env) (fun o s₁ => wpAny (model prog w) A (eval slice env) (fun i s₂ => s₂.TypeIs o T ∧ wpAny (model prog w) A (getItem o i) Q E s₂) E s₁) E s) :
    wpAny (model prog w) A (eval (.Subscript value slice pos) env) Q E s := by
  refine Subscript_ (wpAny_mono h (fun o s₁ h₁ => wpAny_mono h₁ (fun i s₂ h₂ => ?_) fun _ _ x => x) fun _ _ x => x)
  obtain ⟨hT, h₂⟩ := h₂
  unfold subscriptTail
  refine wpAny_bind ?_
  rw [getitemInPython_of_ne hT.not_modules]
  refine wpAny_bind (wpAny_specialOf hT hl ?_)
  have fin : wpAny (model prog w) A (subscripted slice false o i) (fun r s₃ => wpAny (model prog w) A (letTemporaryGo value o r >>= fun _ => pure r) Q E s₃) E s₂ := by
    rw [hs o i]
    exact wpAny_operating (wpAny_mono h₂ (fun r s₃ h₃ => wpAny_bind (wpAny_letTemporaryGo (wpAny_pure h₃))) fun _ _ x => x)
  first
    | exact wpAny_pure (wpAny_bind fin)
    | exact wpAny_bind (wpAny_pure (wpAny_bind fin))
    | exact wpAny_bind fin

theorem dict_typeIs {X : Cx} {pins : List (Addr × Obj)} {σ : St} {H : Hp} {s : Shared} {a : Addr} {y : V} {o : Option V} (I : Inv X pins σ H s) (g : DGet H a y o) : s.TypeIs (.ref a) "dict" := by
  rcases g with ⟨kvs, k, e, _, _⟩ | ⟨kvs, k, b, e, _, _, _⟩
  · obtain ⟨_, _, vs, _, dd⟩ := dk_rd I.hok e
    exact dd.typeIs
  · obtain ⟨_, _, xs, _, dd⟩ := dt_rd I.hok e
    exact dd.typeIs
/-- d[y] -/
def tDGet (td ty : TE) : TE := fun σ H Q => td σ H fun x H1 => ty σ H1 fun y H2 => ∃ a v, x = .ref a ∧ DGet H2 a y (some v) ∧ Q v H2
/-- y in d, y not in d -/
def tDIn (ty td : TE) : TE := fun σ H Q => ty σ H fun y H1 => td σ H1 fun x H2 => ∃ a o, x = .ref a ∧ DGet H2 a y o ∧ Q (.bl o.isSome) H2
def tDNotIn (ty td : TE) : TE := fun σ H Q => ty σ H fun y H1 => td σ H1 fun x H2 => ∃ a o, x = .ref a ∧ DGet H2 a y o ∧ Q (.bl (!o.isSome)) H2
/-- d[y] = v -/
def sDPut (td ty tv : TE) : TS := fun D σ H => tv σ H fun v H1 => td σ H1 fun x H2 => ty σ H2 fun y H3 => ∃ a H4, x = .ref a ∧ DPut H3 a y v H4 ∧ D.nx σ H4
/-- d[y] op= v -/
def sDAug (td ty tv : TE) (rd : V → V → Hp → VK → Prop) : TS := fun D σ H => td σ H fun x H1 => ty σ H1 fun y H2 => ∃ a v, x = .ref a ∧ DGet H2 a y (some v) ∧
  tv σ H2 fun y2 H3 => rd v y2 H3 fun z H4 => ∃ H5, DPut H4 a y z H5 ∧ D.nx σ H5
/-- del d[y] -/
def sDDel (td ty : TE) : TS := fun D σ H => td σ H fun x H1 => ty σ H1 fun y H2 => ∃ a kvs k, x = .ref a ∧ H2 a = some (.dK kvs) ∧ y = kV k ∧ (valV kvs k).isSome = true ∧ D.nx σ (upd H2 a (.dK (dropK kvs k)))

section
variable {X : Cx} {o i e value : Expr} {pos pos' tpos : Pos} {td ty tv : TE}
theorem pe_dget (hu : X.A.units + 1 < cLine) (ho : PE X o td) (hi : PE X i ty) (hs : NoSl i) : PE X (.Subscript o i pos) (tDGet td ty) := by
  intro pins s σ H Q I h
  refine subD_of PySem.F.slot_dict_getitem.lookup hs (thn (ho pins s σ H _ I h) fun u s1 ⟨x, H1, I1, rx, q1⟩ => thn (hi pins s1 σ H1 _ I1 q1) fun iv s2 ⟨y, H2, I2, ry, a, v, ex, g, q2⟩ => ?_)
  subst ex
  obtain rfl : u = Value.ref a := rx
  exact ⟨dict_typeIs I2 g, d_getItem hu I2 g ry fun w' s3 I3 rw' => ⟨v, H2, I3, rw', q2⟩⟩
theorem pc_din (hu : X.A.units + 1 < cLine) (hi : PE X i ty) (ho : PE X o td) : PC X .In i o (tDIn ty td) := by
  intro pins s σ H Q I h
  refine thn (hi pins s σ H _ I h) fun iv s1 ⟨y, H1, I1, ry, q1⟩ => thn (ho pins s1 σ H1 _ I1 q1) fun u s2 ⟨x, H2, I2, rx, a, ov, ex, g, q2⟩ => ?_
  subst ex
  obtain rfl : u = Value.ref a := rx
  exact d_in hu I2 g ry fun s3 I3 => ⟨.bl ov.isSome, H2, I3, rfl, q2⟩
theorem pc_dnotin (hu : X.A.units + 1 < cLine) (hi : PE X i ty) (ho : PE X o td) : PC X .NotIn i o (tDNotIn ty td) := by
  intro pins s σ H Q I h
  refine thn (hi pins s σ H _ I h) fun iv s1 ⟨y, H1, I1, ry, q1⟩ => thn (ho pins s1 σ H1 _ I1 q1) fun u s2 ⟨x, H2, I2, rx, a, ov, ex, g, q2⟩ => ?_
  subst ex
  obtain rfl : u = Value.ref a := rx
  exact d_notIn hu I2 g ry fun s3 I3 => ⟨.bl (!ov.isSome), H2, I3, rfl, q2⟩
theorem ps_dput (hu : X.A.units + 1 < cLine) (ho : PE X o td) (hi : PE X i ty) (hv : PE X value tv) (hs : swapsWith value (some (.Subscript o i pos')) pos.line X.env = pure false) :
    PS X (.Assign [.Subscript o i pos'] value pos) (sDPut td ty tv) := by
  intro pins s σ H D I h
  refine wpAny_Assign_Subscript (thn (hv pins s σ H _ I h) fun r s1 ⟨v, H1, I1, rv, q1⟩ => thn (ho pins s1 σ H1 _ I1 q1) fun u s2 ⟨x, H2, I2, rx, q2⟩ => thn (hi pins s2 σ H2 _ I2 q2) fun iv s3 ⟨y, H3, I3, ry, a, H4, ex, g, q3⟩ => ?_) hs
  subst ex
  obtain rfl : u = Value.ref a := rx
  exact d_setItem hu I3 g ry rv fun s4 I4 => ⟨σ, H4, I4, q3⟩
end


/-! ### displays -/
theorem dk_empty {P : Program} {w : World} {H : Hp} (h : Heap) (hb : sysModules < h.objs.size) : ObjOk P w H (h.push { cls := .type "dict", data := .dict #[] }) h.objs.size (.dK []) :=
  ⟨Nat.zero_le _, beq_eq_false_iff_ne.mpr (Ne.symm (Nat.ne_of_lt hb)), [], .nil, Heap.DictOf.new h⟩
/-- {}, to be a dict of the kind that is wanted -/
def tDNewK : TE := fun _ H Q => ∀ p, H p = none → Q (.ref p) (upd H p (.dK []))
def tDNewT : TE := fun _ H Q => ∀ p, H p = none → Q (.ref p) (upd H p (.dT []))
section
variable {X : Cx} {pos : Pos}
theorem pe_dnewK : PE X (.Dict [] [] pos) tDNewK := fun pins s σ H Q I h =>
  wpAny_Dict_empty ⟨.ref s.heap.objs.size, _, I.laid (a := s.heap.objs.size) (o := .dK []) (t' := s.toks) (fun _ _ q => Heap.get?_push_of_some _ q) (Nat.le_refl _) (dk_empty s.heap I.big), rfl, h _ (I.hok.fresh (Nat.le_refl _))⟩
end

/-- the pairs of a display, from the left -/
def tPairs : List (TE × TE) → St → Hp → (List (V × V) → Hp → Prop) → Prop
  | [], _, H, Q => Q [] H
  | (tk, tv) :: r, σ, H, Q => tk σ H fun x H1 => tv σ H1 fun y H2 => tPairs r σ H2 fun ps H3 => Q ((x, y) :: ps) H3
abbrev VV : List (V × V) → List (Value × Value) → Prop := Paired fun p q => RelV p.1 q.1 ∧ RelV p.2 q.2
def PPs (X : Cx) (pos : Pos) (keys : List (Option Expr)) (values : List Expr) (trs : List (TE × TE)) : Prop :=
  ∀ (pins : List (Addr × Obj)) (s : Shared) (σ : St) (H : Hp) (Q : List (V × V) → Hp → Prop), Inv X pins σ H s → tPairs trs σ H Q →
    wpAny (model X.prog X.w) X.A (evalPairs (pairTrees keys values X.env pos)) (fun vs s' => ∃ ps H', Inv X pins σ H' s' ∧ VV ps vs ∧ Q ps H') X.xe s
def mergeK (kvs more : List (Key × V)) : List (Key × V) := more.foldl (fun acc kv => putK acc kv.1 kv.2) kvs
/-- {k: v, ..} with keys ints and texts; the new dict stands empty while the pairs are made -/
def tDisp (trs : List (TE × TE)) : TE := fun σ H Q => ∀ p, H p = none → tPairs trs σ (upd H p (.dK [])) fun ps H2 => H2 p = some (.dK []) ∧ ∃ kvs : List (Key × V), ps = kvs.map (fun kv => (kV kv.1, kv.2)) ∧ kvs.length ≤ 15 ∧ Q (.ref p) (upd H2 p (.dK (mergeK [] kvs)))
/-! ### methods -/
/-- a method call o.m(e) of a built-in, with one argument: what must be seen of the text -/
structure M1 (X : Cx) (o : Expr) (m : Str) (apos : Pos) (e : Expr) (cpos : Pos) : Prop where
  base : attributeBase o m X.env (eval o X.env) = eval o X.env
  few : ((backTo cpos (starEach [e] X.env)).all (fun x => !x.1) && (backToKw cpos (keywordEach [] X.env)).all (fun x => x.1.isSome)
    && decide (([e] : List Expr).length + ([] : List Keyword).length + (if ([] : List Keyword).isEmpty then 0 else 1) < 30)) = true
  line : (apos.endLine == cpos.line) = true
  trees : backTo cpos (starEach [e] X.env) = [(false, eval e X.env)]
structure M2 (X : Cx) (o : Expr) (m : Str) (apos : Pos) (e f : Expr) (cpos : Pos) : Prop where
  base : attributeBase o m X.env (eval o X.env) = eval o X.env
  few : ((backTo cpos (starEach [e, f] X.env)).all (fun x => !x.1) && (backToKw cpos (keywordEach [] X.env)).all (fun x => x.1.isSome)
    && decide (([e, f] : List Expr).length + ([] : List Keyword).length + (if ([] : List Keyword).isEmpty then 0 else 1) < 30)) = true
  line : (apos.endLine == cpos.line) = true
  trees : backTo cpos (starEach [e, f] X.env) = [(false, eval e X.env), (false, eval f X.env)]

/-- a is a dict, whatever its keys -/
def IsD (H : Hp) (a : Addr) : Prop := (∃ kvs, Rd H a (.dK kvs)) ∨ ∃ kvs, Rd H a (.dT kvs)
section
variable {X : Cx} {pins : List (Addr × Obj)} {σ : St} {H : Hp} {s : Shared} {a : Addr} {y d : V} {u r : Value} {o : Option V} {A : Around} {E : Value → Shared → Prop}
end

def tDGet1 (td ty : TE) : TE := fun σ H Q => td σ H fun x H1 => ∃ a, x = .ref a ∧ IsD H1 a ∧ ty σ H1 fun y H2 => ∃ o, DGet H2 a y o ∧ Q (o.getD .non) H2
def tDGet2 (td ty tx : TE) : TE := fun σ H Q => td σ H fun x H1 => ∃ a, x = .ref a ∧ IsD H1 a ∧ ty σ H1 fun y H2 => tx σ H2 fun z H3 => ∃ o, DGet H3 a y o ∧ Q (o.getD z) H3
/-- d.pop(k): there; d.pop(k, x): there or not -/
def tDPop1 (td ty : TE) : TE := fun σ H Q => td σ H fun x H1 => ∃ a, x = .ref a ∧ IsD H1 a ∧ ty σ H1 fun y H2 => ∃ kvs k v, H2 a = some (.dK kvs) ∧ y = kV k ∧ valV kvs k = some v ∧ Q v (upd H2 a (.dK (dropK kvs k)))
def tDPop2 (td ty tx : TE) : TE := fun σ H Q => td σ H fun x H1 => ∃ a, x = .ref a ∧ IsD H1 a ∧ ty σ H1 fun y H2 => tx σ H2 fun z H3 => ∃ kvs k, H3 a = some (.dK kvs) ∧ y = kV k ∧
  (∀ v, valV kvs k = some v → Q v (upd H3 a (.dK (dropK kvs k)))) ∧ (valV kvs k = none → Q z H3)
section
variable {X : Cx} {o e f : Expr} {apos cpos : Pos} {td ty tx : TE}
end

/-! ### dict(d): a copy -/
section
variable {X : Cx} {pins : List (Addr × Obj)} {σ : St} {H : Hp} {s : Shared} {a : Addr} {kvs : List (Key × V)} {A : Around} {E : Value → Shared → Prop}
end


section
variable {X : Cx} {pins : List (Addr × Obj)} {σ : St} {H : Hp} {s : Shared} {a : Addr} {y : V} {u : Value} {A : Around} {E : Value → Shared → Prop}
end
end L2
namespace L2
open PySem PySem.Spec PyProof.Rows
section
variable {X : Cx}
end
/-! ### a dict's pairs: keys that differ -/
section
variable {κ : Type} [DecidableEq κ]
end
end L2

set_option maxRecDepth 100000
namespace Zt
open PySem PySem.Spec

/-- what an iterator at i yields: its k-th item -/
structure Src (i : Addr) (fp : List Addr) (S : Nat → Heap → Prop) (nth : Nat → Option Value) : Prop where
  mem : i ∈ fp
  stay : ∀ k h h', S k h → (∀ b ∈ fp, ∀ o, h.get? b = some o → h'.get? b = some o) → S k h'
  obj : ∀ k h, S k h → ∃ o, h.get? i = some o ∧ ∀ v, o.data ≠ .cell v
  item : ∀ {prog : Program} {w : World} {A : Around} {E : Value → Shared → Prop} {s : Shared} {Q : Value → Shared → Prop} {k : Nat} {x : Value}, S k s.heap → nth k = some x →
    (∀ h', S (k + 1) h' → Heap.SameBut i s.heap h' → Q x { s with heap := h' }) → wpAny (model prog w) A (Builtin.SmallTypes.nextOf (.ref i)) Q E s
  fin : ∀ {prog : Program} {w : World} {A : Around} {E : Value → Shared → Prop} {s : Shared} {Q : Value → Shared → Prop} {k : Nat}, A.handled = none → S k s.heap → nth k = none →
    (∀ h' e, Heap.ExtBut i s.heap h' → (∃ o, h'.get? e = some o ∧ o.cls = .type "StopIteration") → E (.ref e) { s with heap := h' }) → wpAny (model prog w) A (Builtin.SmallTypes.nextOf (.ref i)) Q E s

/-- the addresses of a zip's own things lie apart -/
structure Apart (z TI TO i1 i2 : Addr) (f1 f2 : List Addr) : Prop where
  TIz : TI ≠ z
  TOz : TO ≠ z
  i1z : i1 ≠ z
  i2z : i2 ≠ z
  TITO : TI ≠ TO
  TIi1 : TI ≠ i1
  TIi2 : TI ≠ i2
  TOi1 : TO ≠ i1
  TOi2 : TO ≠ i2
  i12 : i1 ≠ i2
  z1 : z ∉ f1
  z2 : z ∉ f2
  o1 : TO ∉ f1
  o2 : TO ∉ f2
  c12 : i1 ∉ f2
  c21 : i2 ∉ f1

section
variable {prog : Program} {w : World} {A : Around} {E : Value → Shared → Prop} {s : Shared} {z TI TO i1 i2 : Addr} {f1 f2 : List Addr} {S1 S2 : Nat → Heap → Prop} {n1 n2 : Nat → Option Value} {k1 k2 : Nat} {a b : Value}
end

/-! a zip of two tuples is made -/
abbrev g1 (h : Heap) (l1 : Addr) : Heap := h.push { cls := .type "tuple_iterator", data := .fields #[.ref l1, .int 0 0] }
abbrev g2 (h : Heap) (l1 l2 : Addr) : Heap := (g1 h l1).push { cls := .type "tuple_iterator", data := .fields #[.ref l2, .int 0 0] }
abbrev g3 (h : Heap) (l1 l2 : Addr) : Heap := (g2 h l1 l2).push { cls := .type "tuple", data := .seq #[.ref h.objs.size, .ref (g1 h l1).objs.size] }
abbrev g4 (h : Heap) (l1 l2 : Addr) : Heap := (g3 h l1 l2).push { cls := .type "tuple", data := .seq #[.none, .none] }
abbrev g5 (h : Heap) (l1 l2 : Addr) : Heap := (g4 h l1 l2).push { cls := .type "zip", data := .fields #[.none, .bool false, .bool false, .ref (g2 h l1 l2).objs.size, .ref (g3 h l1 l2).objs.size] }

end Zt

namespace L2
open PySem PySem.Spec PyProof.Rows
/-- the iterator's own objects have turned, others are kept -/
theorem Inv.spun {X : Cx} {pins : List (Addr × Obj)} {σ : St} {H : Hp} {s : Shared} {h' : Heap} {t' : Nat} {ch : List Addr} (I : Inv X pins σ H s) (hch : ∀ b ∈ ch, FpOk X pins H b)
    (k : ∀ b o, b ∉ ch → s.heap.get? b = some o → h'.get? b = some o) : Inv X pins σ H { s with heap := h', toks := t' } := by
  have nit : ∀ b u, H b = some u → b ∉ ch := fun b u e z => by rw [(hch b z).1] at e; cases e
  refine I.step (g' := s.gens) (d' := s.drawn) (ch := ch) (fun b hb => ?_) (fun b o _ _ hc e _ => k b o hc e) (fun b o _ _ hc e _ => ⟨o.slots, k b o hc e⟩) (fun _ _ _ _ n => n)
    (fun b o hc e => ⟨o, k b o hc e⟩) (fun _ _ e => e) (fun _ _ _ e => e) (fun b ps e => ⟨#[], by rw [e]; simp⟩) (fun m hm => ?_) (fun b u e => ?_) I.bare
  · obtain ⟨f0, f1, f2, f3, f4, f5⟩ := hch b hb
    exact ⟨f3, f1, f4, f5⟩
  · obtain ⟨o, es, ep, ho, r⟩ := hm
    exact ⟨o, es, ep, k _ o (fun z => (hch _ z).2.1 rfl) ho, r⟩
  · refine (I.hok b u e).stay (fun c v hc q => k c v ?_ q) (fun _ q => q) fun _ _ q => q
    rcases hc with z | z
    · rw [z]; exact nit b u e
    · exact nit c _ z
/-- zip of the tuples at a and b: each turn lays a new pair -/
def Itz (K : PySem.W.Frag) (a b : Addr) : It :=
  ⟨fun i H => ∃ xs ys x y, SqT K H a xs ∧ SqT K H b ys ∧ xs[i]? = some x ∧ ys[i]? = some y,
   fun i H v H' => ∃ p x y, H p = none ∧ (∀ xs, SqT K H a xs → xs[i]? = some x) ∧ (∀ ys, SqT K H b ys → ys[i]? = some y) ∧ v = .ref p ∧ H' = upd H p (.tup [x, y]),
   fun i H => ∃ xs ys, SqT K H a xs ∧ SqT K H b ys ∧ (xs.length ≤ i ∨ ys.length ≤ i)⟩
/-- for a, b in zip(t, u), two tuples -/
def iZip (K : PySem.W.Frag) (ta : TA) : TI := fun σ H R => ta σ H fun vs H1 => ∃ a b, vs = [.ref a, .ref b] ∧ (∃ xs, SqT K H1 a xs) ∧ (∃ ys, SqT K H1 b ys) ∧ R (Itz K a b) H1
end L2

set_option maxRecDepth 100000
namespace L2
open PySem PySem.Spec PyProof.Rows

/-! ### a list comprehension -/
/-- the cells that a block takes over -/
def clsOf (cells : List (Str × Addr)) : List (Str × NameKind) → List (Str × Addr) → Option (List (Str × Addr))
  | [], acc => some acc
  | (n, k) :: r, acc => if (k == .free) = true then (match cells.lookup n with | some a => clsOf cells r ((n, a) :: acc) | none => none) else clsOf cells r acc

theorem clsOf_loop {env : Env} : ∀ (ns : List (Str × NameKind)) (acc cl : List (Str × Addr)), clsOf env.cells ns acc = some cl →
    (forIn ns acc fun (x : Str × NameKind) (cs : List (Str × Addr)) => (if (x.2 == .free) = true then (do let a ← cellOf env x.1; pure (ForInStep.yield ((x.1, a) :: cs))) else pure (ForInStep.yield cs) : Sem _)) = pure cl
  | [], acc, cl, h => by
    simp only [clsOf, Option.some.injEq] at h
    subst h; rfl
  | (n, k) :: r, acc, cl, h => by
    rw [List.forIn_cons]
    unfold clsOf at h
    by_cases hk : (k == NameKind.free) = true
    · rw [if_pos hk] at h
      simp only [hk, if_true]
      cases e : env.cells.lookup n with
      | none => rw [e] at h; cases h
      | some a =>
        rw [e] at h
        have ih := clsOf_loop r ((n, a) :: acc) cl h
        simp only [cellOf, e, pure_bind]
        exact ih
    · rw [if_neg hk] at h
      simp only [hk, if_false, pure_bind]
      exact clsOf_loop r acc cl h
theorem closure_of {env : Env} {sc : Scope} {cl : List (Str × Addr)} (h : clsOf env.cells sc.names [] = some cl) : closureFor sc env = pure cl := by
  have e := clsOf_loop (env := env) sc.names [] cl h
  unfold closureFor
  have e2 := congrArg (fun m : Sem (List (Str × Addr)) => m >>= fun r => (pure r : Sem (List (Str × Addr)))) e
  simp only [pure_bind] at e2
  refine Eq.trans ?_ e2
  rfl
theorem clsOf_sub {cells : List (Str × Addr)} : ∀ (ns : List (Str × NameKind)) (acc cl : List (Str × Addr)), clsOf cells ns acc = some cl → (∀ x c, acc.lookup x = some c → cells.lookup x = some c) → ∀ x c, cl.lookup x = some c → cells.lookup x = some c
  | [], acc, cl, h, ha => by
    simp only [clsOf, Option.some.injEq] at h
    subst h; exact ha
  | (n, k) :: r, acc, cl, h, ha => by
    unfold clsOf at h
    by_cases hk : (k == NameKind.free) = true
    · rw [if_pos hk] at h
      cases e : cells.lookup n with
      | none => rw [e] at h; cases h
      | some a =>
        rw [e] at h
        refine clsOf_sub r ((n, a) :: acc) cl h fun x c q => ?_
        rw [List.lookup_cons] at q
        cases hx : x == n with
        | true =>
          rw [hx] at q
          have e' : x = n := by simpa using hx
          subst e'
          cases q; exact e
        | false => rw [hx] at q; exact ha x c q
    · rw [if_neg hk] at h
      exact clsOf_sub r acc cl h ha
theorem clsOf_has {cells : List (Str × Addr)} : ∀ (ns : List (Str × NameKind)) (acc cl : List (Str × Addr)), clsOf cells ns acc = some cl → (∀ x, (∃ c, acc.lookup x = some c) → ∃ c, cl.lookup x = some c) ∧ ∀ y ∈ ns, y.2 = .free → ∃ c, cl.lookup y.1 = some c
  | [], acc, cl, h => by
    simp only [clsOf, Option.some.injEq] at h
    subst h; exact ⟨fun x q => q, fun y hy => by simp at hy⟩
  | (n, k) :: r, acc, cl, h => by
    unfold clsOf at h
    by_cases hk : (k == NameKind.free) = true
    · rw [if_pos hk] at h
      cases e : cells.lookup n with
      | none => rw [e] at h; cases h
      | some a =>
        rw [e] at h
        obtain ⟨h1, h2⟩ := clsOf_has r ((n, a) :: acc) cl h
        have up : ∀ x, (∃ c, acc.lookup x = some c) → ∃ c, ((n, a) :: acc).lookup x = some c := fun x ⟨c, q⟩ => by
          rw [List.lookup_cons]
          cases hx : x == n with
          | true => exact ⟨a, rfl⟩
          | false => exact ⟨c, q⟩
        refine ⟨fun x q => h1 x (up x q), fun y hy hf => ?_⟩
        rcases List.mem_cons.mp hy with rfl | hy
        · exact h1 n ⟨a, by simp [List.lookup_cons]⟩
        · exact h2 y hy hf
    · rw [if_neg hk] at h
      obtain ⟨h1, h2⟩ := clsOf_has r acc cl h
      refine ⟨h1, fun y hy hf => ?_⟩
      rcases List.mem_cons.mp hy with rfl | hy
      · exact absurd (show (k == NameKind.free) = true by have : k = .free := hf; subst this; rfl) hk
      · exact h2 y hy hf

theorem relabel_free {env : Env} : ∀ {names : List (Str × NameKind)} {x : Str}, names.lookup x = some .free →
    (names.map fun (n, k) => if (k == NameKind.free && env.scope.kind == .function && env.kindOf n == some .cell) then (n, NameKind.cell) else (n, k)).lookup x = some .cell ∨
    (names.map fun (n, k) => if (k == NameKind.free && env.scope.kind == .function && env.kindOf n == some .cell) then (n, NameKind.cell) else (n, k)).lookup x = some .free
  | [], _, h => by simp at h
  | (n, k) :: r, x, h => by
    have ih := @relabel_free env r x
    rw [List.map_cons]
    dsimp only
    cases hx : x == n with
    | true =>
      simp only [List.lookup_cons, hx] at h
      cases h
      by_cases hc : (NameKind.free == NameKind.free && env.scope.kind == .function && env.kindOf n == some .cell) = true
      · refine .inl ?_
        rw [if_pos hc, List.lookup_cons, hx]
      · refine .inr ?_
        rw [if_neg hc, List.lookup_cons, hx]
    | false =>
      simp only [List.lookup_cons, hx] at h
      by_cases hc : (k == NameKind.free && env.scope.kind == .function && env.kindOf n == some .cell) = true
      · rw [if_pos hc]; simp only [List.lookup_cons, hx]; exact ih h
      · rw [if_neg hc]; simp only [List.lookup_cons, hx]; exact ih h
theorem relabel_back {env : Env} : ∀ {names : List (Str × NameKind)} {x : Str} {kd : NameKind}, (kd = .cell ∨ kd = .free) →
    (names.map fun (n, k) => if (k == NameKind.free && env.scope.kind == .function && env.kindOf n == some .cell) then (n, NameKind.cell) else (n, k)).lookup x = some kd → ∃ y ∈ names, y.1 = x ∧ (y.2 = .free ∨ y.2 = .cell)
  | [], _, _, _, h => by simp at h
  | (n, k) :: r, x, kd, hkd, h => by
    have ih := @relabel_back env r x kd hkd
    rw [List.map_cons] at h
    dsimp only at h
    cases hx : x == n with
    | true =>
      have e : x = n := by simpa using hx
      subst e
      refine ⟨(x, k), by simp, rfl, ?_⟩
      by_cases hc : (k == NameKind.free && env.scope.kind == .function && env.kindOf x == some .cell) = true
      · refine .inl ?_
        simp only [Bool.and_eq_true] at hc
        simpa using hc.1.1
      · rw [if_neg hc] at h
        simp only [List.lookup_cons, beq_self_eq_true, Option.some.injEq] at h
        subst h
        exact hkd.symm
    | false =>
      have h' : (r.map fun (n, k) => if (k == NameKind.free && env.scope.kind == .function && env.kindOf n == some .cell) then (n, NameKind.cell) else (n, k)).lookup x = some kd := by
        by_cases hc : (k == NameKind.free && env.scope.kind == .function && env.kindOf n == some .cell) = true
        · rw [if_pos hc] at h; simp only [List.lookup_cons, hx] at h; exact h
        · rw [if_neg hc] at h; simp only [List.lookup_cons, hx] at h; exact h
      obtain ⟨y, hy, q⟩ := ih h'
      exact ⟨y, List.mem_cons_of_mem _ hy, q⟩

/-- the context of the block: made where the frame is about to be laid; nothing may be raised in it -/
def cxC (X : Cx) (sc : Scope) (cl : List (Str × Addr)) (NC : List Str) (fp : List Addr) (s : Shared) (H : Hp) : Cx where
  prog := X.prog
  w := X.w
  K := X.K
  mg := X.mg
  base := X.base
  A := X.A
  N := NC
  s₀ := s
  H₀ := H
  env := compEnvC sc cl s.heap.objs.size X.env
  outer := X.stack
  stack := X.stack
  ex := fp
  fn := fun _ => false
  calm := X.calm
  pn := []
  xe := fun _ _ => False
/-- the names of a block that are the outer frame's -/
def OutOk (X : Cx) (sc : Scope) : List Str → List (Option Nat) → Prop
  | x :: xs, o :: os => (match o with | none => True | some j => X.N[j]? = some x ∧ sc.names.lookup x = some .free ∧ (X.env.scope.names.lookup x = some .cell ∨ X.env.scope.names.lookup x = some .free)) ∧ OutOk X sc xs os
  | _, _ => True
theorem OutOk.at {X : Cx} {sc : Scope} : ∀ {NC : List Str} {fr : List (Option Nat)}, OutOk X sc NC fr → ∀ (i : Nat) (x : Str) (j : Nat), NC[i]? = some x → fr[i]? = some (some j) →
    X.N[j]? = some x ∧ sc.names.lookup x = some .free ∧ (X.env.scope.names.lookup x = some .cell ∨ X.env.scope.names.lookup x = some .free)
  | [], _, _, i, x, j, h1, _ => by simp at h1
  | _ :: _, [], _, i, x, j, _, h2 => by simp at h2
  | y :: ys, o :: os, h, 0, x, j, h1, h2 => by
    simp only [List.getElem?_cons_zero, Option.some.injEq] at h1 h2
    subst h1 h2
    exact h.1
  | y :: ys, o :: os, h, i + 1, x, j, h1, h2 => OutOk.at h.2 i x j (by simpa using h1) (by simpa using h2)
/-- what the block's names are: its own ones, and those of the outer frame, by their places -/
structure Blk (X : Cx) (sc : Scope) (cl : List (Str × Addr)) (NC : List Str) (fr : List (Option Nat)) : Prop where
  kind : sc.kind = .function
  cls : clsOf X.env.cells sc.names [] = some cl
  nocell : ∀ y ∈ sc.names, y.2 ≠ .cell
  names : ∀ y ∈ sc.names, y.2 = .local → sc.names.lookup y.1 = some .local
  len : fr.length = NC.length
  out : OutOk X sc NC fr
def stC (fr : List (Option Nat)) (σ : St) : St := fr.map fun o => o.bind fun j => (σ[j]?).join
theorem blk_start {X : Cx} {sc : Scope} {cl : List (Str × Addr)} {NC : List Str} {fr : List (Option Nat)} {pins : List (Addr × Obj)} {σ : St} {H : Hp} {s s4 : Shared} {fp : List Addr} (B : Blk X sc cl NC fr)
    (I : Inv X pins σ H s) (hf : ∀ b ∈ fp, FpOk X pins H b) (hlt : ∀ b ∈ fp, b < s.heap.objs.size) (hns : ∃ m, s4.heap.Ns s.heap.objs.size m) (hk : ∀ b o, s.heap.get? b = some o → s4.heap.get? b = some o) (hos : s4.os = s.os) (hg : s4.gens = s.gens) :
    Inv (cxC X sc cl NC fp s H) [] (stC fr σ) H s4 := by
  have sub := clsOf_sub sc.names [] cl B.cls (fun x c q => by simp at q)
  have has := (clsOf_has sc.names [] cl B.cls).2
  have nloc : ∀ x c, cl.lookup x = some c → c < s.heap.objs.size := fun x c e => by
    obtain ⟨v, o, q, _⟩ := I.cell x c (sub x c e)
    exact Heap.lt_size q
  refine ⟨⟨I.ok.mod, B.kind, I.ok.glob, I.ok.blt, Nat.le_refl _, fun x y c h1 h2 => I.ok.inj x y c (sub x c h1) (sub y c h2), fun x hx => ?_, fun x c hx _ => (nomatch hx), I.ok.hd, I.ok.frames, .inl rfl, fun b hb => ⟨?_, fun x c e => ?_⟩, I.bs, Nat.le_trans I.ok.bsz I.sz, fun b o e hb => ?_, fun b hb => ?_, I.stack, I.stkFree⟩,
    hos, by rw [hg]; exact I.bare, Un.kept hk, ?_, fun x c e => ?_, I.hok.fresh (Nat.le_refl _), fun x c e => I.freeC x c (sub x c e), fun p hp => absurd (show p ∈ ([] : List (Addr × Obj)) from hp) (by simp), I.hok.kept hk, ?_⟩
  · have h' : ∃ y ∈ sc.names, y.1 = x ∧ (y.2 = .free ∨ y.2 = .cell) := by
      rcases hx with q | q
      · exact relabel_back (.inl rfl) q
      · exact relabel_back (.inr rfl) q
    obtain ⟨y, hy, rfl, q⟩ := h'
    rcases q with q | q
    · exact has y hy q
    · exact absurd q (B.nocell y hy)
  · exact Nat.ne_of_lt (hlt b hb)
  · intro z
    obtain ⟨f0, f1, f2, f3, f4, f5⟩ := hf b hb
    exact f4 x c (sub x c e) z
  · obtain ⟨f0, f1, f2, f3, f4, f5⟩ := hf b hb
    rcases f3 with q | q
    · exact I.ok.noex b o e q
    · exact absurd (Nat.lt_of_lt_of_le (Heap.lt_size e) I.ok.bsz) (Nat.not_lt.mpr q)
  · intro z
    obtain ⟨f0, f1, f2, f3, f4, f5⟩ := hf b hb
    rcases List.mem_cons.mp (I.stkSub b z) with q | q
    · exact f1 q
    · exact f2 q
  · obtain ⟨m, hm⟩ := hns
    refine ⟨m, hm, fun i x v h1 h2 h3 => ?_⟩
    unfold stC at h2
    rw [List.getElem?_map] at h2
    cases e : fr[i]? with
    | none => rw [e] at h2; cases h2
    | some oj =>
      rw [e] at h2
      cases oj with
      | none => cases h2
      | some j =>
        have h2' : (σ[j]?).join = some v := Option.some.inj h2
        have h4 : σ[j]? = some (some v) := by
          cases q : σ[j]? with
          | none => rw [q] at h2'; cases h2'
          | some o => rw [q] at h2'; exact congrArg some h2'
        obtain ⟨n1, n2, n3⟩ := B.out.at i x j h1 e
        obtain ⟨m0, hm0, hl⟩ := I.loc
        obtain ⟨u, r, l⟩ := hl j x v n1 h4 (n3.elim (fun q => .inr (.inl q)) fun q => .inr (.inr q))
        refine ⟨u, r, .inr ⟨relabel_free n2, ?_⟩⟩
        rcases l with ⟨k1, _⟩ | ⟨_, c, c1, c2⟩
        · have k1' : X.env.scope.names.lookup x = some .local := k1
          rcases n3 with q | q <;> (rw [q] at k1'; cases k1')
        · obtain ⟨c', e'⟩ := has (x, .free) (PySem.mem_of_lookup n2) rfl
          have q := sub x c' e'
          rw [c1] at q; cases q
          obtain ⟨o, ho, hd⟩ := c2
          exact ⟨c, e', o, hk _ _ ho, hd⟩
  · obtain ⟨v, o, q, d⟩ := I.cell x c (sub x c e)
    exact ⟨v, o, hk _ _ q, d⟩
  · show (stC fr σ).length = NC.length
    unfold stC
    rw [List.length_map]; exact B.len

/-- the turns of a comprehension (its target may let an owned tuple go); nothing is raised -/
theorem comp_turns {prog : Program} {w : World} {A : Around} {R : Result → Shared → Prop} {s : Shared} {elt target iter : Expr} {ifs : List Expr} {scope : Scope} {pos : Pos} {it acc : Value} {env : Env} (J : Nat → Shared → Prop)
    (turn : ∀ n s, J n s → wpAny (model prog w) A (pyNext it) (fun r s1 => match r with
      | none => R (.ok .next) s1
      | some v => wpAny (model prog w) A (letOwnedTupleGo target it v) (fun _ s2 => wpAny (model prog w) A (assign target env v) (fun _ s3 =>
          wpAny (model prog w) A (compTests ifs env) (fun ok s4 => if ok = true then wpAny (model prog w) A (eval elt env) (fun x s5 =>
              wpAny (model prog w) A (call (.builtin "list.append") [acc, x]) (fun _ s6 => ∃ m, m < n ∧ J m s6) (fun _ _ => False) s5) (fun _ _ => False) s4
            else ∃ m, m < n ∧ J m s4) (fun _ _ => False) s3) (fun _ _ => False) s2) (fun _ _ => False) s1) (fun _ _ => False) s)
    (n : Nat) (h : J n s) : codeAny (model prog w) A (.compLoop (.ListComp elt [⟨target, iter, ifs, 0⟩] scope pos) 0 it acc env) R s := by
  refine codeAny_loop rfl J (fun n s hJ => ?_) n h
  show wpAny _ A ((compTurn (.ListComp elt [⟨target, iter, ifs, 0⟩] scope pos) 0 it acc env).onRaise (fun x => do noteFrame x env; theTreesLotGoes x)) _ _ s
  refine wpAny_noted ?_
  have wk : ∀ {α : Type} {t : Sem α} {Q Q' : α → Shared → Prop} {E : Value → Shared → Prop} {s : Shared}, wpAny (model prog w) A t Q (fun _ _ => False) s → (∀ a s, Q a s → Q' a s) → wpAny (model prog w) A t Q' E s := fun h q => wpAny_mono h q fun _ _ f => f.elim
  rw [compTurn_list]
  refine wpAny_bind (wpAny_standAt (wpAny_bind (wk (turn n s hJ) fun r s1 h1 => ?_)))
  cases r with
  | none => exact wpAny_pure h1
  | some v =>
    refine wpAny_bind (wk h1 fun _ s2 h2 => wpAny_bind (wk h2 fun _ s3 h3 => ?_))
    have h3' : wpAny (model prog w) A (forIn ifs true fun c r => if r = true then do let ok ← isTrue c env (eval c env); pure (ForInStep.yield ok) else pure (ForInStep.yield r)) (fun ok s4 => if ok = true then wpAny (model prog w) A (eval elt env) (fun x s5 =>
              wpAny (model prog w) A (call (.builtin "list.append") [acc, x]) (fun _ s6 => ∃ m, m < n ∧ J m s6) (fun _ _ => False) s5) (fun _ _ => False) s4
            else ∃ m, m < n ∧ J m s4) (fun _ _ => False) s3 := by
      have e : compTests ifs env = (forIn ifs true fun c r => if r = true then do let ok ← isTrue c env (eval c env); pure (ForInStep.yield ok) else pure (ForInStep.yield r)) >>= pure := by rfl
      rw [e, bind_pure] at h3
      exact h3
    refine wpAny_bind (wk h3' fun ok s4 h4 => ?_)
    cases ok with
    | false => exact wpAny_pure ⟨rfl, h4⟩
    | true => exact wpAny_bind (wpAny_bind (wk h4 fun x s5 h5 => wpAny_bind (wk h5 fun _ s6 h6 => wpAny_pure (wpAny_pure ⟨rfl, h6⟩))))

/-- the tests of a comprehension -/
def PF (X : Cx) (ifs : List Expr) (t : TT) : Prop :=
  ∀ (pins : List (Addr × Obj)) (s : Shared) (σ : St) (H : Hp) (Q : Bool → Hp → Prop), Inv X pins σ H s → t σ H Q → wpAny (model X.prog X.w) X.A (compTests ifs X.env) (TP X pins σ Q) X.xe s
def tYes : TT := fun _ H Q => Q true H
theorem pf_nil {X : Cx} : PF X [] tYes := fun _ _ _ H _ I h => wpAny_pure ⟨H, I, h⟩
theorem pf_one {X : Cx} {c : Expr} {t : TT} (h : PT X c t) : PF X [c] t := fun pins s σ H Q I hw => by
  have e : compTests [c] X.env = (forIn [c] true fun c r => if r = true then do let ok ← isTrue c X.env (eval c X.env); pure (ForInStep.yield ok) else pure (ForInStep.yield r)) >>= pure := by rfl
  rw [e, bind_pure]
  exact wpAny_tests_one (h pins s σ H Q I hw)

/-- [elt for target in iter if tests]: W the invariant over the turn, a measure, the block's names, the heap; the list grows at acc -/
def tComp (K : PySem.W.Frag) (fr : List (Option Nat)) (wi : TI) (g : TG) (tt : TT) (te : TE) : TE := fun σ H Q => wi σ H fun J H1 => ∀ acc, H1 acc = none → K.lookup acc = none →
  ∃ W : Nat → Nat → St → Hp → Prop, (∃ m, W 0 m (stC fr σ) (upd H1 acc (.lst []))) ∧ ∀ i m σc H, W i m σc H →
    (J.stop i H ∧ Q (.ref acc) H) ∨ (J.go i H ∧ ∃ N : St → Hp → Prop, (∀ σ' H', N σ' H' → ∃ m', m' < m ∧ W (i + 1) m' σ' H') ∧ ∀ x H', J.yld i H x H' → g x σc H' fun σ2 H2 => tt σ2 H2 fun b H3 =>
      if b = true then te σ2 H3 fun v H4 => ∃ xs, H4 acc = some (.lst xs) ∧ xs.length < sizeLine ∧ N σ2 (upd H4 acc (.lst (xs ++ [v]))) else N σ2 H3)

section
variable {X : Cx} {sc : Scope} {cl : List (Str × Addr)} {NC : List Str} {fr : List (Option Nat)} {elt target iter : Expr} {ifs : List Expr} {pos : Pos} {wi : TI} {g : TG} {tt : TT} {te : TE}
/-- the core: up to the block's end, whatever is done with the list behind it -/
theorem comp_core {pins : List (Addr × Obj)} {s : Shared} {σ : St} {H : Hp} {Q : VK} {RR : Value → Addr → Result → Shared → Prop} (B : Blk X sc cl NC fr) (hc : X.calm = true) (hi : PI X target iter wi)
    (hg : ∀ fp s H, PG (cxC X sc cl NC fp s H) target g) (ht : ∀ fp s H, PF (cxC X sc cl NC fp s H) ifs tt) (he : ∀ fp s H, PE (cxC X sc cl NC fp s H) elt te)
    (I : Inv X pins σ H s) (h : tComp X.K fr wi g tt te σ H Q)
    (hRR : ∀ acc C s' H', Q (.ref acc) H' → (∃ m, s'.heap.Ns C m) → Inv X pins σ H' s' → FpOk X pins H' C → RR (.ref acc) C (.ok .next) s') :
    wpAny (model X.prog X.w) X.A (eval iter X.env) (fun x s1 => wpAny (model X.prog X.w) X.A (pyIter x) (fun it s2 => wpAny (model X.prog X.w) X.A (newList []) (fun acc s3 =>
      wpAny (model X.prog X.w) X.A (newFunctionEnv sc X.env.globals cl [] X.env.qual none .none (some X.env)) (fun cenv s4 =>
        codeAny (model X.prog X.w) X.A (.compStart (.ListComp elt [⟨target, iter, ifs, 0⟩] sc pos) 0 it acc { cenv with scope := relabel sc X.env }) (RR acc cenv.locals) s4) X.xe s3) X.xe s2) X.xe s1) X.xe s := by
  refine thn (hi pins s σ H _ I h) fun v s1 h1 => thn h1 fun itv s2 h2 => ?_
  obtain ⟨it, fp, tn, J, H2, e, I2, T, st2, f2, K⟩ := h2
  subst e
  have nk : X.K.lookup s2.heap.objs.size = none := by
    cases q : X.K.lookup s2.heap.objs.size with
    | none => rfl
    | some o => exact absurd (Heap.lt_size (I2.kIn _ o q)) (Nat.lt_irrefl _)
  obtain ⟨W, ⟨m0, w0⟩, turn⟩ := K s2.heap.objs.size (I2.hok.fresh (Nat.le_refl _)) nk
  have I3 : Inv X pins σ (upd H2 s2.heap.objs.size (.lst [])) { s2 with heap := s2.heap.push { cls := .type "list", dict := none, data := .seq ([] : List Value).toArray } } :=
    I2.laid (t' := s2.toks) (fun b u e => Heap.get?_push_of_some _ e) (Nat.le_refl _) ⟨Nat.zero_le _, [], 0, .nil, Heap.get?_push_size _ rfl⟩
  have lt2 : ∀ b ∈ fp, b < s2.heap.objs.size := fun b hb => by
    obtain ⟨o, e, _⟩ := T.obj _ _ st2 b hb
    exact Heap.lt_size e
  have f3 : ∀ b ∈ fp, FpOk X pins (upd H2 s2.heap.objs.size (.lst [])) b := fun b hb => ⟨by rw [upd_ne (Nat.ne_of_lt (lt2 b hb))]; exact (f2 b hb).1, (f2 b hb).2⟩
  refine wpAny_newObj_type (wpAny_newFunctionEnv B.nocell (by intro y hy; simp at hy) (fun h4 hns4 hsb4 => ?_) B.kind)
  dsimp only at hns4 hsb4 ⊢
  generalize hs3 : ({ s2 with heap := s2.heap.push { cls := .type "list", dict := none, data := .seq ([] : List Value).toArray } } : Shared) = s3 at I3 ⊢
  have hh3 : s3.heap = s2.heap.push { cls := .type "list", dict := none, data := .seq ([] : List Value).toArray } := by rw [← hs3]
  have z3 : s3.heap.objs.size = s2.heap.objs.size + 1 := by rw [hh3, Heap.size_push]
  rw [← hh3] at hns4 hsb4 ⊢
  have k4 : ∀ b o, s3.heap.get? b = some o → h4.get? b = some o := fun b o e => hsb4.extBut b o (Nat.ne_of_lt (Heap.lt_size e)) (Heap.get?_push_of_some _ e)
  have lt3 : ∀ b ∈ fp, b < s3.heap.objs.size := fun b hb => by rw [z3]; exact Nat.lt_succ_of_lt (lt2 b hb)
  have start : ∀ s4 : Shared, s4 = { s2 with heap := h4, toks := s2.toks + ([] : List (Str × Value)).length } → codeAny (model X.prog X.w) X.A (.compLoop (.ListComp elt [⟨target, iter, ifs, 0⟩] sc pos) 0 (.ref it) (.ref s2.heap.objs.size) (compEnvC sc cl s3.heap.objs.size X.env)) (RR (.ref s2.heap.objs.size) s3.heap.objs.size) s4 := by
    rintro s4 rfl
    have I4 : Inv (cxC X sc cl NC fp s3 (upd H2 s2.heap.objs.size (.lst []))) [] (stC fr σ) (upd H2 s2.heap.objs.size (.lst [])) { s2 with heap := h4, toks := s2.toks + ([] : List (Str × Value)).length } :=
      blk_start B I3 f3 lt3 ⟨_, hns4⟩ k4 (by rw [← hs3]) (by rw [← hs3])
    have st4 : tn 0 h4 := T.keep _ _ _ st2 fun b hb o e => k4 b o (by rw [hh3]; exact Heap.get?_push_of_some _ e)
    have stat : ∀ {H' : Hp}, (∀ b ∈ fp, H' b = none) → ∀ b ∈ fp, FpOk (cxC X sc cl NC fp s3 (upd H2 s2.heap.objs.size (.lst []))) [] H' b := fun hn b hb =>
      ⟨hn b hb, (I4.ok.exf b hb).1, I4.ok.exfs b hb, .inl hb, (I4.ok.exf b hb).2, fun p hp => absurd (show p ∈ ([] : List (Addr × Obj)) from hp) (by simp)⟩
    refine comp_turns (fun n s' => ∃ i σ' H', Inv (cxC X sc cl NC fp s3 (upd H2 s2.heap.objs.size (.lst []))) [] σ' H' s' ∧ tn i s'.heap ∧ (∀ b ∈ fp, H' b = none) ∧ W i n σ' H') ?_ m0 ⟨0, _, _, I4, st4, fun b hb => (f3 b hb).1, w0⟩
    rintro n s5 ⟨i, σ5, H5, I5, st5, fr5, w5⟩
    rcases turn i n σ5 H5 w5 with ⟨stop, qn⟩ | ⟨go, N, hN, step⟩
    · refine thn (T.done (cxC X sc cl NC fp s3 (upd H2 s2.heap.objs.size (.lst []))) rfl rfl rfl hc i [] s5 σ5 H5 _ I5 (stat fr5) st5 stop) fun r s6 ⟨hr, I6⟩ => ?_
      subst hr
      have hC : H5 s3.heap.objs.size = none := I6.free
      refine hRR _ _ s6 H5 qn (let ⟨m, hm, _⟩ := I6.loc; ⟨m, hm⟩) ?_ (I3.fpOk (Nat.le_refl _) hC)
      have un : Un (frs X.stack) fp (upd H2 s2.heap.objs.size (.lst [])) H5 s3.heap s6.heap := I6.base
      have eo : s6.os = s3.os := I6.os
      have hb6 := I6.bare
      have hk6 : HOk X.prog X.w H5 s6.heap := I6.hok
      obtain ⟨hh6, g6, d6, t6, os6⟩ := s6
      dsimp only at eo
      subst eo
      exact I3.call (h' := hh6) (g' := g6) (d' := d6) (t' := t6) (ch := fp) un hk6 hb6 fun b hb => ⟨(f3 b hb).2.2.2.1, (f3 b hb).2.1, (f3 b hb).2.2.2.2.1, (f3 b hb).2.2.2.2.2⟩
    · refine thn (T.item (cxC X sc cl NC fp s3 (upd H2 s2.heap.objs.size (.lst []))) rfl rfl rfl hc i [] s5 σ5 H5 _ I5 (stat fr5) st5 go) fun r s6 ⟨u, hr, h6⟩ => ?_
      subst hr
      refine thn h6 fun _ s7 ⟨x, H7, I7, r7, y7, st7, fr7⟩ => ?_
      have I7' := I7.pinned (stat fr7) (T.obj _ _ st7)
      refine thn (hg fp s3 _ _ s7 σ5 H7 x u _ I7' r7 (step x H7 y7)) fun _ s8 ⟨σ8, H8, I8, q8⟩ => ?_
      refine thn (ht fp s3 _ _ s8 σ8 H8 _ I8 q8) fun b s9 ⟨H9, I9, q9⟩ => ?_
      have again : ∀ {s10 : Shared} {σ7 : St} {H10 : Hp}, Inv (cxC X sc cl NC fp s3 (upd H2 s2.heap.objs.size (.lst []))) ([] ++ pinsAt fp s7.heap) σ7 H10 s10 → N σ7 H10 →
          ∃ m, m < n ∧ ∃ i σ' H', Inv (cxC X sc cl NC fp s3 (upd H2 s2.heap.objs.size (.lst []))) [] σ' H' s10 ∧ tn i s10.heap ∧ (∀ b ∈ fp, H' b = none) ∧ W i m σ' H' := fun {s10 σ7 H10} I10 n7 => by
        obtain ⟨m', hm, w7⟩ := hN σ7 H10 n7
        refine ⟨m', hm, i + 1, σ7, H10, I10.unpinned, T.keep _ _ _ st7 fun b hb o e => (I10.pin (b, o) (List.mem_append_right _ (List.mem_append_right _ (mem_pinsAt hb e)))).1, fun b hb => ?_, w7⟩
        obtain ⟨o, e, d⟩ := T.obj _ _ st7 b hb
        exact (I10.pin (b, o) (List.mem_append_right _ (List.mem_append_right _ (mem_pinsAt hb e)))).2.1
      cases b with
      | false => exact again I9 q9
      | true =>
        refine thn (he fp s3 _ _ s9 σ8 H9 _ I9 q9) fun y s10 ⟨v, H10, I10, r10, xs, q1, q2, q3⟩ => ?_
        refine thn (mt_append (X := cxC X sc cl NC fp s3 (upd H2 s2.heap.objs.size (.lst []))) _ s10 σ8 H10 (.ref s2.heap.objs.size) [v] (.ref s2.heap.objs.size) [y] (fun z H' => N σ8 H') I10 rfl (.cons r10 .nil) ⟨_, xs, v, rfl, rfl, q1, q2, q3⟩) fun z s11 ⟨_, H11, I11, _, q11⟩ => ?_
        exact again I11 q11
  exact codeAny_compStart_list (start _ rfl) (T.self _ _ _ _ _ (T.keep _ _ _ st2 fun b hb o e => k4 b o (by rw [hh3]; exact Heap.get?_push_of_some _ e)) (start _ rfl))
theorem pe_comp (B : Blk X sc cl NC fr) (hc : X.calm = true) (hi : PI X target iter wi) (hg : ∀ fp s H, PG (cxC X sc cl NC fp s H) target g) (ht : ∀ fp s H, PF (cxC X sc cl NC fp s H) ifs tt) (he : ∀ fp s H, PE (cxC X sc cl NC fp s H) elt te)
    (hs : ∀ x, foldedSetIterable iter X.env x = pure x := by intro _; rfl) : PE X (.ListComp elt [⟨target, iter, ifs, 0⟩] sc pos) (tComp X.K fr wi g tt te) := by
  intro pins s σ H Q I h
  rw [eval_ListComp]
  refine wpAny_comprehension_free (use := none) rfl hs (closure_of B.cls) B.kind B.names ?_
  refine comp_core (RR := fun acc C => compPost (model X.prog X.w) X.A X.xe none (EP X pins σ Q) acc C) B hc hi hg ht he I h ?_
  rintro acc C s' H' q ⟨m, hn⟩ I' ⟨f0, f1, f2, f3, f4, f5⟩
  exact ⟨m, hn, fun h' sb => ⟨.ref acc, H', I'.turned (t' := s'.toks) (fun b o hb e => sb.extBut b o hb e) f0 f1 f3 f4 f5, rfl, q⟩⟩
end
end L2

set_option maxRecDepth 100000
namespace L2
open PySem PySem.Spec PyProof.Rows

theorem Same.upd {H : Hp} {p : Addr} {o : HO} (h : H p = none) : Same H (upd H p o) := fun b u e => by rw [upd_ne (ne_of_none e h)]; exact e
theorem Same.tupS {K : PySem.W.Frag} {H H' : Hp} {a : Addr} {xs : List V} (e : Same H H') (h : SqT K H a xs) : SqT K H' a xs := by
  rcases h with (h | ⟨o, h⟩) | h
  · exact .inl (.inl (e _ _ h))
  · exact .inl (.inr ⟨o, e _ _ h⟩)
  · exact .inr h

/-! ### t[lo:hi] of a tuple, whole or not -/
theorem tup_whole {prog : Program} {w : World} {A : Around} {E : Value → Shared → Prop} {s : Shared} {t sl : Addr} {items : Array Value} {vl vu : Value} {lo hi : Option Int} {Q : Value → Shared → Prop} (ht : IsTup s.heap t items) (hs : s.heap.IsSliceOf sl vl vu .none) (pl : IsPart vl lo) (pu : IsPart vu hi)
    (hw : HT.sIx items.size 0 lo = 0 ∧ HT.sIx items.size items.size hi = items.size) (h : Q (.ref t) s) : wpAny (model prog w) A (getItem (.ref t) (.ref sl)) Q E s := by
  obtain ⟨os, hos, hcs, hds⟩ := id hs
  have hTs : s.TypeIs (.ref sl) "slice" := ⟨os, hos, hcs⟩
  unfold getItem
  try with_reducible refine wpAny_holding ?_
  first | refine wpAny_bind (wpAny_pure ?_) | skip
  refine wpAny_bind (wpAny_sequenceKey ht.typeIs (by decide) ?_)
  refine wpAny_bind (wpAny_callSpecial?_slot (name := Str.ofString "__getitem__") ht.typeIs PyProof.Rows.slot_tuple_getitem (wpAny_call_entry PyProof.Rows.slot_tuple_getitem ht.typeIs entry_tuple_getitem ?_ (args_tuple_getitem _ _)))
  show wpAny _ _ (Builtin.Tuple.tupleItemsOf (.ref t) >>= _) _ _ s
  refine wpAny_bind (tupleItemsOf_ ht ?_)
  refine wpAny_bind (wpAny_typeOf hTs ?_)
  rw [if_pos (by decide)]
  refine wpAny_bind (HT.sliceApplied_gen hs pl pu ?_)
  show wpAny _ _ (if (((HT.sIx items.size 0 lo : Nat) : Int) == 0 && (1 : Int) == 1 && (HT.sIx items.size items.size hi - HT.sIx items.size 0 lo) == items.size) = true then _ else _) _ _ s
  rw [if_pos (by rw [hw.1, hw.2]; simp)]
  refine wpAny_bind ?_
  unfold Builtin.Tuple.tupleIsExact
  refine wpAny_bind (wpAny_typeOf ht.typeIs (wpAny_pure ?_))
  rw [if_pos (by decide)]
  exact wpAny_bind (wpAny_rule (wpAny_pure ⟨_, rfl, wpAny_pure h⟩))
theorem cutV_whole {xs : List V} {lo hi : Option Int} (hw : HT.sIx xs.length 0 lo = 0 ∧ HT.sIx xs.length xs.length hi = xs.length) : cutV xs lo hi = xs := by
  unfold cutV
  rw [hw.1, hw.2]; simp
def rSlG (K : PySem.W.Frag) : V → Option Int → Option Int → Hp → VK → Prop := fun x lo hi H Q => ∃ a xs, x = .ref a ∧ SqT K H a xs ∧ ∀ p H', (p = a ∨ H p = none) → Same H H' → SqT K H' p (cutV xs lo hi) → Q (.ref p) H'
section
variable {X : Cx}
theorem sl_tupG : SlR X (rSlG X.K) := by
  intro pins s σ H x v vl vu lo hi sl Q I rx hs pl pu h
  obtain ⟨a, xs, rfl, hx, q⟩ := h
  by_cases hw : HT.sIx xs.length 0 lo = 0 ∧ HT.sIx xs.length xs.length hi = xs.length
  · cases rx
    obtain ⟨its, r, ht, hz⟩ := I.tuple hx
    have hlen : its.toArray.size = xs.length := by rw [List.size_toArray]; exact r.length.symm
    refine ⟨"tuple", _, PyProof.Rows.slot_tuple_getitem.lookup, ht.typeIs, ?_⟩
    refine tup_whole ht hs pl pu (by rw [hlen]; exact hw) ⟨.ref a, H, I, rfl, q a H (.inl rfl) (Same.refl H) ?_⟩
    rw [cutV_whole hw]; exact hx
  · exact sl_tup pins s σ H _ v vl vu lo hi sl Q I rx hs pl pu ⟨a, xs, rfl, hx, hw, fun p hp => q p _ (.inr hp) (Same.upd hp) (SqT.of upd_same)⟩

/-! ### t + u, any tuples -/
def rCatG (K : PySem.W.Frag) : R2 := fun x y H Q => ∃ a b xs ys, x = .ref a ∧ y = .ref b ∧ SqT K H a xs ∧ SqT K H b ys ∧ xs.length + ys.length ≤ sizeLine ∧ ∀ p H', (p = a ∨ p = b ∨ H p = none) → Same H H' → SqT K H' p (xs ++ ys) → Q (.ref p) H'
theorem op_catG : OpR X (binaryOp .Add) (rCatG X.K) := by
  intro pins s σ H x y v u Q I rx ry h
  obtain ⟨a, b, xs, ys, rfl, rfl, ha, hb, hz, q⟩ := h
  by_cases hx : xs = []
  · subst hx
    cases rx
    cases ry
    obtain ⟨its, r1, p1, _⟩ := I.tuple ha
    obtain ⟨its2, r2, p2, _⟩ := I.tuple hb
    have e1 := r1.nil_iff.mpr rfl
    subst e1
    obtain ⟨⟨cls, dd, data, sl⟩, ho, hc, n, hd⟩ := id p1
    obtain ⟨⟨cls2, dd2, data2, sl2⟩, ho2, hc2, n2, hd2⟩ := id p2
    simp only at hc hd hc2 hd2
    subst hc hd hc2 hd2
    exact concat_meets ⟨_, ho, rfl⟩ ⟨_, ho2, rfl⟩ noFill_tuple_add seq_tuple_add PySem.F.slot_tuple_add PySem.F.entry_tuple_add (PySem.F.args_tuple_add_2 _ _)
      (tuple_addW0 a b _ _ n n2 dd dd2 sl sl2 (by simp)) ⟨ho, ho2, ⟨.ref b, H, I, rfl, q b H (.inr (.inl rfl)) (Same.refl H) hb⟩⟩
  · exact op_catT pins s σ H _ _ v u Q I rx ry ⟨a, b, xs, ys, rfl, rfl, ha, hb, hx, hz, fun e => q a H (.inl rfl) (Same.refl H) (by rw [e, List.append_nil]; exact ha), fun _ p hp => q p _ (.inr (.inr hp)) (Same.upd hp) (SqT.of upd_same)⟩

/-! ### all([..]) -/
theorem all_range_map (bs : List Bool) (f : Nat → Bool) (hf : ∀ i b, bs[i]? = some b → f i = b) : (List.range bs.length).all f = bs.all id := by
  induction bs generalizing f with
  | nil => rfl
  | cons b bs ih =>
    rw [List.length_cons, List.range_succ_eq_map, List.all_cons, List.all_map, List.all_cons, hf 0 b rfl]
    have := ih (fun i => f (i + 1)) fun i b' h => hf (i + 1) b' (by simpa using h)
    rw [← this]; rfl
theorem call_all (hc : X.calm = true) : CallR X (.builtin "all") (fun xs H Q => ∃ (p : Addr) (bs : List Bool), xs = [.ref p] ∧ SqL X.K H p (bs.map V.bl) ∧ Q (.bl (bs.all id)) H) := by
  intro pins s σ H xs us Q I r h
  obtain ⟨p, bs, rfl, hq, q⟩ := h
  obtain ⟨u, rfl, ru⟩ := vals1 r
  cases ru
  obtain ⟨its, rv, pl, hz⟩ := I.list hq
  have hl := rv.length
  rw [List.length_map] at hl
  refine call_all_walk (wpAny_pyIter_list pl.isList ?_)
  have hne : p ≠ s.heap.objs.size := by
    obtain ⟨o, n, e, _⟩ := pl
    exact Nat.ne_of_lt (Heap.lt_size e)
  refine ⟨_, _, _, _, _, _, fun i => (bs[i]?).getD true, rfl, Walks.list (A := X.A.in1) (show X.A.in1.handled = none from I.ok.hd hc) s.heap.objs.size p hne its.toArray, ⟨⟨_, Heap.get?_push_size _ rfl, rfl, rfl⟩, pl.isList.push _⟩, fun i v s' Q' E' hP hQ => ?_, fun h' tk hk => ?_⟩
  · have hb : ∃ b, bs[i]? = some b ∧ v = .bool b := by
      have hi : i < its.length := by
        have := (Array.getElem?_eq_some_iff.mp hP).1
        simpa using this
      have e1 : (bs.map V.bl)[i]? = some (.bl bs[i]) := by simp
      obtain ⟨u, hu, ru⟩ := rv.get e1
      have : its.toArray[i]? = some u := by simpa using hu
      rw [hP] at this; cases this
      exact ⟨bs[i], by simp, ru⟩
    obtain ⟨b, hb, rfl⟩ := hb
    dsimp only at hQ
    rw [hb] at hQ
    exact wpAny_truthy_bool hQ
  · have e : (List.range its.toArray.size).all (fun i => (bs[i]?).getD true) = bs.all id := by
      rw [List.size_toArray, ← hl]
      exact all_range_map bs _ fun i b h => by rw [h]; rfl
    rw [e]
    refine ⟨.bl (bs.all id), H, ?_, rfl, q⟩
    refine Inv.spun (s := s) (t' := tk) (ch := [s.heap.objs.size]) I (fun b hb => ?_) fun b o hb e => hk b o hb (Heap.get?_push_of_some _ e)
    have eb : b = s.heap.objs.size := by simpa using hb
    subst eb
    exact I.fpOk (Nat.le_refl _) (I.hok.fresh (Nat.le_refl _))

/-! ### isinstance(x, T), T a built-in type -/
def subT (T n : String) : Option Bool := if (Value.type T == Value.type n) = true then some true else if PySem.W.kitMeta n = true then (PySem.fastBuiltinMro T).map (·.contains (.type n)) else none
/-- the built-in type of a value -/
inductive TyS (K : PySem.W.Frag) (H : Hp) : V → String → Prop
  | non : TyS K H .non "NoneType"
  | bl (b : Bool) : TyS K H (.bl b) "bool"
  | int (i : Int) : TyS K H (.int i) "int"
  | str (x : Str) : TyS K H (.str x) "str"
  | lst {a : Addr} {xs : List V} (h : SqL K H a xs) : TyS K H (.ref a) "list"
  | tup {a : Addr} {xs : List V} (h : SqT K H a xs) : TyS K H (.ref a) "tuple"
  | dk {a : Addr} {kvs : List (Key × V)} (h : H a = some (.dK kvs)) : TyS K H (.ref a) "dict"
theorem call_isi : CallR X (.builtin "isinstance") (fun xs H Q => ∃ x T n b, xs = [x, .ty n] ∧ TyS X.K H x T ∧ subT T n = some b ∧ Q (.bl b) H) := by
  intro pins s σ H xs us Q I r h
  obtain ⟨x, T, n, b, rfl, ty, hs, q⟩ := h
  obtain ⟨u, w, rfl, ru, rw_⟩ := vals2 r
  cases rw_
  have e : PySem.W.kitOne X.K (.type T) (.type n) = some b := hs
  have fin : ∀ tk, EP X pins σ Q (.bool b) { s with toks := tk } := fun tk => ⟨.bl b, H, I.tok tk, rfl, q⟩
  cases ty with
  | non => cases ru; exact PySem.W.kia_one PySem.W.kitx_none I.kIn True.intro e (fun z => nomatch z) fin
  | bl y => cases ru; exact PySem.W.kia_one PySem.W.kitx_bool I.kIn True.intro e (fun z => nomatch z) fin
  | int i => obtain ⟨t, rfl⟩ := ru; exact PySem.W.kia_one PySem.W.kitx_int I.kIn True.intro e (fun z => nomatch z) fin
  | str y => obtain ⟨t, rfl⟩ := ru; exact PySem.W.kia_one PySem.W.kitx_str I.kIn True.intro e (fun z => nomatch z) fin
  | lst hq =>
    cases ru
    obtain ⟨its, _, ⟨o, nn, e1, e2, _⟩, _⟩ := I.list hq
    exact PySem.W.kia_one PySem.W.kitx_list I.kIn ⟨o, e1, e2⟩ e (fun z => nomatch z) fin
  | tup hq =>
    cases ru
    obtain ⟨its, _, ⟨o, e1, e2, _⟩, _⟩ := I.tuple hq
    exact PySem.W.kia_one PySem.W.kitx_tuple I.kIn ⟨o, e1, e2⟩ e (fun z => nomatch z) fin
  | @dk a kvs hq =>
    cases ru
    obtain ⟨_, _, vs, _, o, es, ep, h1, h2, _⟩ := (show ObjOk X.prog X.w H s.heap a (.dK kvs) from I.hok a _ hq)
    exact PySem.W.kia_one PySem.W.kitx_dict I.kIn ⟨o, h1, h2.1⟩ e (fun z => nomatch z) fin
def isB (T n : String) : Bool := T == n || (T == "bool" && n == "int")
theorem subT_tab : ∀ T ∈ ["NoneType", "bool", "int", "str", "list", "tuple", "dict"], ∀ n ∈ ["int", "bool", "str", "tuple", "list", "dict"], subT T n = some (isB T n) := by decide +kernel
end
end L2

set_option maxRecDepth 100000
namespace L2
open PySem PySem.Spec PyProof.Rows

/-- what was tracked is as it was, but for the objects at N -/
def Ext (N : List Addr) (H H' : Hp) : Prop := ∀ b o, H b = some o → b ∉ N → H' b = some o
theorem Ext.refl {N : List Addr} (H : Hp) : Ext N H H := fun _ _ h _ => h
theorem Ext.trans {N : List Addr} {H H1 H2 : Hp} (a : Ext N H H1) (b : Ext N H1 H2) : Ext N H H2 := fun c o h n => b c o (a c o h n) n
theorem Ext.same {N : List Addr} {H H' : Hp} (a : Same H H') : Ext N H H' := fun c o h _ => a c o h
theorem Ext.at {N : List Addr} {H : Hp} {p : Addr} {o : HO} (h : p ∈ N) : Ext N H (L2.upd H p o) := fun c u e n => by rw [upd_ne (show c ≠ p from fun z => n (by rw [z]; exact h))]; exact e
theorem Ext.tup {N : List Addr} {K : PySem.W.Frag} {H H' : Hp} {a : Addr} {xs : List V} (e : Ext N H H') (h : SqT K H a xs) (n : a ∉ N) : SqT K H' a xs := by
  rcases h with (h | ⟨o, h⟩) | h
  · exact .inl (.inl (e _ _ h n))
  · exact .inl (.inr ⟨o, e _ _ h n⟩)
  · exact .inr h
theorem Ext.lst {N : List Addr} {K : PySem.W.Frag} {H H' : Hp} {a : Addr} {xs : List V} (e : Ext N H H') (h : SqL K H a xs) (n : a ∉ N) : SqL K H' a xs := by
  rcases h with (h | ⟨o, h⟩) | h
  · exact .inl (.inl (e _ _ h n))
  · exact .inl (.inr ⟨o, e _ _ h n⟩)
  · exact .inr h
def kD : Key → PyData
  | .inl i => .int i
  | .inr x => .str x
mutual
/-- the value v is the datum d; none of its objects is one of those at N -/
inductive Dt (K : PySem.W.Frag) (N : List Addr) (H : Hp) : V → PyData → Prop
  | non : Dt K N H .non .none
  | bl (b : Bool) : Dt K N H (.bl b) (.bool b)
  | int (i : Int) : Dt K N H (.int i) (.int i)
  | str (x : Str) : Dt K N H (.str x) (.str x)
  | tup {a : Addr} {xs : List V} {ds : List PyData} (h : SqT K H a xs) (n : a ∉ N) (r : DtAll K N H xs ds) : Dt K N H (.ref a) (.tuple ds)
  | lst {a : Addr} {xs : List V} {ds : List PyData} (h : SqL K H a xs) (n : a ∉ N) (r : DtAll K N H xs ds) : Dt K N H (.ref a) (.list ds)
  | dk0 {a : Addr} (h : H a = some (.dK [])) (n : a ∉ N) : Dt K N H (.ref a) (.dict [])
  | dk1 {a : Addr} {k : Key} {v : V} {d : PyData} (h : H a = some (.dK [(k, v)])) (n : a ∉ N) (r : Dt K N H v d) : Dt K N H (.ref a) (.dict [(kD k, d)])
inductive DtAll (K : PySem.W.Frag) (N : List Addr) (H : Hp) : List V → List PyData → Prop
  | nil : DtAll K N H [] []
  | cons {v : V} {d : PyData} {vs : List V} {ds : List PyData} (h : Dt K N H v d) (r : DtAll K N H vs ds) : DtAll K N H (v :: vs) (d :: ds)
end
section
variable {K : PySem.W.Frag} {N : List Addr} {H H' : Hp}
mutual
theorem Dt.ext (e : Ext N H H') : ∀ {v : V} {d : PyData}, Dt K N H v d → Dt K N H' v d
  | _, _, .non => .non
  | _, _, .bl b => .bl b
  | _, _, .int i => .int i
  | _, _, .str x => .str x
  | _, _, .tup h n r => .tup (e.tup h n) n (DtAll.ext e r)
  | _, _, .lst h n r => .lst (e.lst h n) n (DtAll.ext e r)
  | _, _, .dk0 h n => .dk0 (e _ _ h n) n
  | _, _, .dk1 h n r => .dk1 (e _ _ h n) n (Dt.ext e r)
theorem DtAll.ext (e : Ext N H H') : ∀ {vs : List V} {ds : List PyData}, DtAll K N H vs ds → DtAll K N H' vs ds
  | _, _, .nil => .nil
  | _, _, .cons h r => .cons (Dt.ext e h) (DtAll.ext e r)
end
theorem DtAll.length : ∀ {vs : List V} {ds : List PyData}, DtAll K N H vs ds → vs.length = ds.length
  | _, _, .nil => rfl
  | _, _, .cons _ r => by rw [List.length_cons, List.length_cons, DtAll.length r]
theorem DtAll.get : ∀ {vs : List V} {ds : List PyData} {i : Nat} {v : V}, DtAll K N H vs ds → vs[i]? = some v → ∃ d, ds[i]? = some d ∧ Dt K N H v d
  | _, _, _, _, .nil, e => by simp at e
  | _, _, 0, _, .cons h _, e => by simp at e; subst e; exact ⟨_, rfl, h⟩
  | _, _, i + 1, v, .cons _ r, e => by
    obtain ⟨d, h1, h2⟩ := DtAll.get (i := i) (v := v) r (by simpa using e)
    exact ⟨d, by simpa using h1, h2⟩
theorem DtAll.getD : ∀ {vs : List V} {ds : List PyData} {i : Nat} {d : PyData}, DtAll K N H vs ds → ds[i]? = some d → ∃ v, vs[i]? = some v ∧ Dt K N H v d
  | _, _, _, _, .nil, e => by simp at e
  | _, _, 0, _, .cons h _, e => by simp at e; subst e; exact ⟨_, rfl, h⟩
  | _, _, i + 1, d, .cons _ r, e => by
    obtain ⟨v, h1, h2⟩ := DtAll.getD (i := i) (d := d) r (by simpa using e)
    exact ⟨v, by simpa using h1, h2⟩
theorem DtAll.append : ∀ {vs ws : List V} {ds es : List PyData}, DtAll K N H vs ds → DtAll K N H ws es → DtAll K N H (vs ++ ws) (ds ++ es)
  | _, _, _, _, .nil, s => s
  | _, _, _, _, .cons h r, s => .cons h (DtAll.append r s)
theorem DtAll.take : ∀ {vs : List V} {ds : List PyData} (n : Nat), DtAll K N H vs ds → DtAll K N H (vs.take n) (ds.take n)
  | _, _, 0, _ => .nil
  | _, _, _ + 1, .nil => .nil
  | _, _, n + 1, .cons h r => .cons h (DtAll.take n r)
theorem DtAll.drop : ∀ {vs : List V} {ds : List PyData} (n : Nat), DtAll K N H vs ds → DtAll K N H (vs.drop n) (ds.drop n)
  | _, _, 0, r => r
  | _, _, _ + 1, .nil => .nil
  | _, _, n + 1, .cons _ r => DtAll.drop n r
/-- the items of a cut datum -/
def cutD (ds : List PyData) (lo hi : Option Int) : List PyData := (ds.drop (HT.sIx ds.length 0 lo)).take (HT.sIx ds.length ds.length hi - HT.sIx ds.length 0 lo)
theorem DtAll.cut {vs : List V} {ds : List PyData} (lo hi : Option Int) (r : DtAll K N H vs ds) : DtAll K N H (cutV vs lo hi) (cutD ds lo hi) := by
  unfold cutV cutD
  rw [r.length]
  exact (r.drop _).take _
end
section
variable {X : Cx} {pins : List (Addr × Obj)} {σ : St} {H : Hp} {s : Shared} {N : List Addr}
mutual
theorem Dt.reads (I : Inv X pins σ H s) : ∀ {v : V} {d : PyData} {u : Value}, Dt X.K N H v d → RelV v u → ∃ as, Reads s.heap u d as ∧ (sysModules ∈ N ∨ d = .dict [] → sysModules ∉ as)
  | _, _, _, .non, r => by cases r; exact ⟨_, .none, fun _ => by simp⟩
  | _, _, _, .bl b, r => by cases r; exact ⟨_, .bool b, fun _ => by simp⟩
  | _, _, _, .int i, r => by obtain ⟨t, rfl⟩ := r; exact ⟨_, .int i t, fun _ => by simp⟩
  | _, _, _, .str x, r => by obtain ⟨t, rfl⟩ := r; exact ⟨_, .str x t, fun _ => by simp⟩
  | _, _, _, .tup h n q, r => by
    cases r
    obtain ⟨its, rv, ⟨o, e1, e2, m, e3⟩, _⟩ := I.tuple h
    obtain ⟨as, ra, sm⟩ := DtAll.reads I q rv
    refine ⟨as, .tuple e1 e2 e3 (by simpa using ra), fun z => ?_⟩
    rcases z with z | z
    · exact sm z
    · cases z
  | _, _, _, .lst h n q, r => by
    cases r
    obtain ⟨its, rv, ⟨o, m, e1, e2, e3, e4⟩, _⟩ := I.list h
    obtain ⟨as, ra, sm⟩ := DtAll.reads I q rv
    refine ⟨_, .list e1 e2 e4 (by simpa using ra), fun z => ?_⟩
    rcases z with z | z
    · intro y
      rcases List.mem_cons.mp y with y | y
      · exact n (y ▸ z)
      · exact sm z y
    · cases z
  | _, _, _, .dk0 (a := a) h n, r => by
    cases r
    obtain ⟨_, hsm, vs, kv, o, es, ep, e1, e2, e3, e4, e5, e6⟩ := (show ObjOk X.prog X.w H s.heap a (.dK []) from I.hok a _ h)
    have ev : vs = [] := by cases kv; rfl
    subst ev
    have ee : es.toList = [] := by
      cases q : es.toList with
      | nil => rfl
      | cons x r => rw [q] at e5; cases e5
    refine ⟨[a], ?_, fun _ => ?_⟩
    · have := Reads.dict (h := s.heap) (a := a) (o := o) (es := es) (n := ep) (kvs := []) (as := []) (bs := []) e1 e2.1 e3 (by rw [ee]; exact .nil) (by rw [ee]; exact .nil)
      simpa using this
    · intro z
      have z' : sysModules = a := by simpa using z
      rw [z'] at hsm
      simp at hsm
  | _, _, _, .dk1 (a := a) (k := k) (v := v) (d := d) h n q, r => by
    cases r
    obtain ⟨_, hsm, vs, kv, o, es, ep, e1, e2, e3, e4, e5, e6⟩ := (show ObjOk X.prog X.w H s.heap a (.dK [(k, v)]) from I.hok a _ h)
    obtain ⟨u, rfl, ru⟩ : ∃ u, vs = [(k, u)] ∧ RelV v u := by
      cases kv with
      | @cons p q ps qs h1 h2 =>
        cases h2
        obtain ⟨q1, q2⟩ := q
        obtain ⟨h3, h4⟩ := h1
        dsimp only at h3 h4
        subst h3
        exact ⟨q2, rfl, h4⟩
    obtain ⟨en, ee, ek, ev⟩ : ∃ en, es.toList = [en] ∧ keyIs k en.key = true ∧ en.val = u := by
      generalize es.toList = el at e5
      cases e5 with
      | cons h1 h2 h3 => cases h3; exact ⟨_, rfl, h1, h2⟩
    obtain ⟨as, ra, sm⟩ := Dt.reads I q ru
    obtain ⟨ks, rk, hk⟩ : ∃ ks, Reads s.heap en.key (kD k) ks ∧ ks = [] := by
      rcases keyIs_shape ek with ⟨i, t, rfl, e⟩ | ⟨x, t, rfl, e⟩
      · exact ⟨[], by rw [e]; exact .int i t, rfl⟩
      · exact ⟨[], by rw [e]; exact .str x t, rfl⟩
    subst hk
    have rv : Reads s.heap en.val d as := by rw [ev]; exact ra
    refine ⟨_, Reads.dict (h := s.heap) (a := a) (o := o) (es := es) (n := ep) (kvs := [(kD k, d)]) e1 e2.1 e3 (by rw [ee]; exact .cons rk .nil) (by rw [ee]; exact .cons rv .nil), fun z => ?_⟩
    rcases z with z | z
    · intro y
      simp only [List.append_nil, List.nil_append, List.cons_append] at y
      rcases List.mem_cons.mp y with y | y
      · rw [← y] at hsm; simp at hsm
      · exact sm (.inl z) y
    · cases z
theorem DtAll.reads (I : Inv X pins σ H s) : ∀ {vs : List V} {ds : List PyData} {us : List Value}, DtAll X.K N H vs ds → Vals vs us → ∃ as, ReadsAll s.heap us ds as ∧ (sysModules ∈ N → sysModules ∉ as)
  | _, _, _, .nil, .nil => ⟨_, .nil, fun _ => by simp⟩
  | _, _, _, .cons h q, .cons r t => by
    obtain ⟨as, ra, sa⟩ := Dt.reads I h r
    obtain ⟨bs, rb, sb⟩ := DtAll.reads I q t
    refine ⟨_, .cons ra rb, fun z y => ?_⟩
    rcases List.mem_append.mp y with y | y
    · exact sa (.inl z) y
    · exact sb z y
end
end

/-- what repr shows within the model's bounds -/
structure Shw (d : PyData) : Prop where
  sh : d.showable = true
  dp : d.depth ≤ 30
  ln : d.shown.length ≤ sizeLine
  nd : d.hasDict = false ∨ d = .dict []
section
variable {X : Cx} {N : List Addr}
theorem call_repr {k : Nat} (hr : Room k X.A) : CallR X (.builtin "repr") (fun xs H Q => ∃ x d, xs = [x] ∧ Dt X.K N H x d ∧ Shw d ∧ Q (.str d.shown) H) := by
  intro pins s σ H xs us Q I r h
  obtain ⟨x, d, rfl, hd, hs, q⟩ := h
  obtain ⟨u, rfl, ru⟩ := vals1 r
  have fin : ∀ t tk, EP X pins σ Q (.str d.shown t) { s with toks := tk } := fun t tk => ⟨.str d.shown, H, I.tok tk, ⟨t, rfl⟩, q⟩
  have big : ∀ a, u = .ref a → wpAny (model X.prog X.w) X.A (call (.builtin "repr") [u]) (EP X pins σ Q) X.xe s := fun a e => by
    subst e
    obtain ⟨as, rd, sm⟩ := hd.reads I ru
    refine repr_of_reads' rd hs.sh (fun z => ?_) hr.gd (by have := hr.units; have := hs.dp; omega) (fun _ _ e => e) (fun h' t tk kp => ⟨.str d.shown, H, I.kept (t' := tk) kp, ⟨t, rfl⟩, q⟩) hs.ln
    rcases hs.nd with y | y
    · rw [y] at z; cases z
    · exact sm (.inr y)
  cases hd with
  | non => cases ru; exact P.repr_of_none (fin _ _)
  | bl b => cases ru; exact P.repr_of_bool (fin _ _)
  | int i => obtain ⟨t, rfl⟩ := ru; exact P.repr_of_int (by have := hs.sh; simpa only [PyData.showable, decide_eq_true_eq] using this) (fin _ _)
  | str x => obtain ⟨t, rfl⟩ := ru; exact P.repr_of_str (fin _ _) (hsz := hs.ln)
  | tup h n r => cases ru; exact big _ rfl
  | lst h n r => cases ru; exact big _ rfl
  | dk0 h n => cases ru; exact big _ rfl
  | dk1 h n r => cases ru; exact big _ rfl
/-- repr of data with dicts -/
theorem call_reprD {k : Nat} (hr : Room k X.A) : CallR X (.builtin "repr") (fun xs H Q => ∃ x d, xs = [x] ∧ Dt X.K N H x d ∧ (sysModules ∈ N ∨ d.hasDict = false) ∧ d.showable = true ∧ d.depth ≤ 30 ∧ d.shown.length ≤ sizeLine ∧ Q (.str d.shown) H) := by
  intro pins s σ H xs us Q I r h
  obtain ⟨x, d, rfl, hd, hn, h1, h2, h3, q⟩ := h
  obtain ⟨u, rfl, ru⟩ := vals1 r
  have fin : ∀ t tk, EP X pins σ Q (.str d.shown t) { s with toks := tk } := fun t tk => ⟨.str d.shown, H, I.tok tk, ⟨t, rfl⟩, q⟩
  have big : ∀ a, u = .ref a → wpAny (model X.prog X.w) X.A (call (.builtin "repr") [u]) (EP X pins σ Q) X.xe s := fun a e => by
    subst e
    obtain ⟨as, rd, sm⟩ := hd.reads I ru
    refine repr_of_reads' rd h1 (fun z => ?_) hr.gd (by have := hr.units; omega) (fun _ _ e => e) (fun h' t tk kp => ⟨.str d.shown, H, I.kept (t' := tk) kp, ⟨t, rfl⟩, q⟩) h3
    rcases hn with y | y
    · exact sm (.inl y)
    · rw [y] at z; cases z
  cases hd with
  | non => cases ru; exact P.repr_of_none (fin _ _)
  | bl b => cases ru; exact P.repr_of_bool (fin _ _)
  | int i => obtain ⟨t, rfl⟩ := ru; exact P.repr_of_int (by have := h1; simpa only [PyData.showable, decide_eq_true_eq] using this) (fin _ _)
  | str x => obtain ⟨t, rfl⟩ := ru; exact P.repr_of_str (fin _ _) (hsz := h3)
  | tup h n r => cases ru; exact big _ rfl
  | lst h n r => cases ru; exact big _ rfl
  | dk0 h n => cases ru; exact big _ rfl
  | dk1 h n r => cases ru; exact big _ rfl
/-- == and != of data -/
theorem op_eqD {k : Nat} (hr : Room k X.A) : OpR X (compareOp .Eq) (fun x y H Q => ∃ d e, Dt X.K N H x d ∧ Dt X.K N H y e ∧ SeqAt.shaped d = true ∧ SeqAt.shaped e = true ∧ Q (.bl (PyData.eqv d e)) H) := by
  intro pins s σ H x y v u Q I rx ry h
  obtain ⟨d, e, hd, he, sd, se, q⟩ := h
  obtain ⟨as, ra, _⟩ := hd.reads I rx
  obtain ⟨bs, rb, _⟩ := he.reads I ry
  exact SeqAt.compareEq_shaped ra rb sd se hr.units ⟨.bl _, H, I, rfl, q⟩
theorem op_neD {k : Nat} (hr : Room k X.A) : OpR X (compareOp .NotEq) (fun x y H Q => ∃ d e, Dt X.K N H x d ∧ Dt X.K N H y e ∧ SeqAt.shaped d = true ∧ SeqAt.shaped e = true ∧ Q (.bl (!PyData.eqv d e)) H) := by
  intro pins s σ H x y v u Q I rx ry h
  obtain ⟨d, e, hd, he, sd, se, q⟩ := h
  obtain ⟨as, ra, _⟩ := hd.reads I rx
  obtain ⟨bs, rb, _⟩ := he.reads I ry
  exact SeqAt.compareNe_shaped ra rb sd se hr.units ⟨.bl _, H, I, rfl, q⟩
end
end L2

namespace L2
open PySem PySem.Spec PyProof.Rows
/-! ### readings, a step at a time -/
section
variable {D : Ends} {σ : St} {H : Hp} {t u : TS} {te ta tb tc : TE} {c tA tB' : TT} {g : TG} {gs : TGs} {Q : VK} {K : PySem.W.Frag} {i : Nat} {v : V} {vs : List V}
theorem rd_seq (h : t { D with nx := u D } σ H) : tSeq t u D σ H := h
theorem rd_if (h : c σ H fun b H1 => if b = true then t D σ H1 else u D σ H1) : tIfS c t u D σ H := h
theorem rd_asg (h : te σ H fun x H1 => g x σ H1 D.nx) : tAsg te g D σ H := h
theorem rd_drop (h : te σ H fun _ H1 => D.nx σ H1) : tDrop te D σ H := h
theorem rd_ret (h : te σ H D.rt) : tRet te D σ H := h
theorem rd_next (h : D.nx σ H) : tNext D σ H := h
theorem rd_op {r : R2} (h : ta σ H fun x H1 => tb σ H1 fun y H2 => r x y H2 Q) : tOp r ta tb σ H Q := h
theorem rd_un {r : V → Hp → VK → Prop} (h : ta σ H fun x H1 => r x H1 Q) : tUn r ta σ H Q := h
theorem rd_var (e : σ[i]? = some (some v)) (h : Q v H) : tVar i σ H Q := ⟨v, e, h⟩
theorem rd_c (h : Q v H) : tC v σ H Q := h
theorem rd_I0 {f : Int → Int → V} {i j : Int} (h : Q (f i j) H) : rI0 f (.int i) (.int j) H Q := ⟨i, j, rfl, rfl, h⟩
theorem rd_I {C : Int → Int → Prop} {f : Int → Int → V} {i j : Int} (hc : C i j) (h : Q (f i j) H) : rI C f (.int i) (.int j) H Q := ⟨i, j, rfl, rfl, hc, h⟩
theorem rd_U {f : Int → V} {i : Int} (h : Q (f i) H) : rU f (.int i) H Q := ⟨i, rfl, h⟩
theorem rd_test {Q : Bool → Hp → Prop} (h : te σ H fun x H' => ∃ k, x = .bl k ∧ Q k H') : tTest te σ H Q := h
theorem rd_tB {Q : Bool → Hp → Prop} (h : te σ H fun x H' => ∃ k, x = .bl k ∧ Q k H') : tB te σ H Q := h
theorem rd_bl' {P : Bool → Prop} {k : Bool} (h : P k) : ∃ k', V.bl k = .bl k' ∧ P k' := ⟨k, rfl, h⟩
theorem rd_eq {x y : V} (hs : scal x y = true) (h : Q (.bl (decide (x = y))) H) : rEq x y H Q := ⟨hs, h⟩
theorem rd_ne {x y : V} (hs : scal x y = true) (h : Q (.bl (!decide (x = y))) H) : rNe x y H Q := ⟨hs, h⟩
theorem rd_ixL {p : Addr} {xs : List V} {i : Int} (hq : SqL K H p xs) (ha : atI xs i = some v) (h : Q v H) : rIxL K (.ref p) (.int i) H Q := ⟨p, xs, i, v, rfl, rfl, hq, ha, h⟩
theorem rd_ixT {p : Addr} {xs : List V} {i : Int} (hq : SqT K H p xs) (ha : atI xs i = some v) (h : Q v H) : rIxT K (.ref p) (.int i) H Q := ⟨p, xs, i, v, rfl, rfl, hq, ha, h⟩
theorem rd_name {Q : St → Hp → Prop} (h : Q (σ.set i (some v)) H) : gName i v σ H Q := h
theorem rd_sub {to ti : TE} {s : TSet} {Q : St → Hp → Prop} (h : to σ H fun o H1 => ti σ H1 fun i H2 => s o i v H2 fun H3 => Q σ H3) : gSub to ti s v σ H Q := h
theorem rd_setL {p : Addr} {xs : List V} {k : Int} {j : Nat} {Q : Hp → Prop} (hp : H p = some (.lst xs)) (hi : ixN xs.length k = some j) (h : Q (upd H p (.lst (xs.set j v)))) : rSetL (.ref p) (.int k) v H Q := ⟨p, xs, k, j, rfl, rfl, hp, hi, h⟩
theorem rd_CB {r : List V → Hp → VK → Prop} {ta : TA} (h : ta σ H fun vs H1 => r vs H1 Q) : tCB r ta σ H Q := h
theorem rd_nil {Q : List V → Hp → Prop} (h : Q [] H) : tNil σ H Q := h
theorem rd_cons {tr : TA} {Q : List V → Hp → Prop} (h : ta σ H fun x H1 => tr σ H1 fun xs H2 => Q (x :: xs) H2) : tCons ta tr σ H Q := h
theorem rd_and {Q : Bool → Hp → Prop} (h : tA σ H fun c H1 => if c = true then tB' σ H1 Q else Q false H1) : tAnd tA tB' σ H Q := h
theorem rd_or {Q : Bool → Hp → Prop} (h : tA σ H fun c H1 => if c = true then Q true H1 else tB' σ H1 Q) : tOr tA tB' σ H Q := h
theorem rd_not {Q : Bool → Hp → Prop} (h : tA σ H fun c H1 => Q (!c) H1) : tNot tA σ H Q := h
theorem rd_andV (h : ta σ H fun x H1 => ∃ c, x = .bl c ∧ if c = true then tb σ H1 Q else Q (.bl false) H1) : tAndV ta tb σ H Q := h
theorem rd_notV (h : ta σ H fun x H1 => ∃ c, x = .bl c ∧ Q (.bl (!c)) H1) : tNotV ta σ H Q := h
theorem rd_call {sp : Sp} {dvs : List V} {E : XK} {ta : TA} (h : ta σ H fun vs H1 => sp (vs ++ dvs) H1 Q E) : tCall sp dvs E ta σ H Q := h
theorem rd_tup {ta : TA} (h : ta σ H fun xs H1 => xs.length ≤ sizeLine ∧ ∀ p, H1 p = none → Q (.ref p) (upd H1 p (.tup xs))) : tTup ta σ H Q := h
theorem rd_lst {ta : TA} (h : ta σ H fun xs H1 => xs.length ≤ sizeLine ∧ ∀ p, H1 p = none → Q (.ref p) (upd H1 p (.lst xs))) : tLst ta σ H Q := h
theorem rd_chain {r r' : R2} (h : ta σ H fun x H1 => tb σ H1 fun y H2 => r x y H2 fun z H3 => ∃ k, z = .bl k ∧ if k = true then tc σ H3 fun w H4 => r' y w H4 Q else Q (.bl false) H3) : tChain r r' ta tb tc σ H Q := h
theorem rd_sl {r : V → Option Int → Option Int → Hp → VK → Prop} {tl th : TO} (h : te σ H fun x H1 => tl σ H1 fun l H2 => th σ H2 fun u H3 => r x l u H3 Q) : tSl r te tl th σ H Q := h
theorem rd_nopart {Q : Option Int → Hp → Prop} (h : Q none H) : tNoPart σ H Q := h
theorem rd_part {Q : Option Int → Hp → Prop} (h : te σ H fun x H1 => ∃ i, x = .int i ∧ Q (some i) H1) : tPart te σ H Q := h
theorem rd_int {P : Int → Prop} {i : Int} (h : P i) : ∃ i', V.int i = .int i' ∧ P i' := ⟨i, rfl, h⟩
theorem rd_slL {p : Addr} {xs : List V} {lo hi : Option Int} (hq : SqL K H p xs) (h : ∀ l, H l = none → Q (.ref l) (upd H l (.lst (cutV xs lo hi)))) : rSlL K (.ref p) lo hi H Q := ⟨p, xs, rfl, hq, h⟩
theorem rd_slG {p : Addr} {xs : List V} {lo hi : Option Int} (hq : SqT K H p xs) (h : ∀ q H', (q = p ∨ H q = none) → Same H H' → SqT K H' q (cutV xs lo hi) → Q (.ref q) H') : rSlG K (.ref p) lo hi H Q := ⟨p, xs, rfl, hq, h⟩
theorem rd_tupT {t : TGs} {n : Nat} {p : Addr} {xs : List V} {Q : St → Hp → Prop} (hq : SqT K H p xs) (hl : xs.length = n) (h : t xs σ H Q) : gTup K n t (.ref p) σ H Q := ⟨p, xs, rfl, hq, hl, h⟩
theorem rd_gnil {Q : St → Hp → Prop} (h : Q σ H) : gNil [] σ H Q := ⟨rfl, h⟩
theorem rd_gcons {t : TG} {u : TGs} {v : V} {r : List V} {Q : St → Hp → Prop} (h : t v σ H fun σ' H' => u r σ' H' Q) : gCons t u (v :: r) σ H Q := ⟨v, r, rfl, h⟩
theorem rd_BM {T : String} {r : V → List V → Hp → VK → Prop} {to : TE} {t : TA} (h : to σ H fun x H1 => tyV K T x H1 ∧ t σ H1 fun xs H2 => r x xs H2 Q) : tBM K T r to t σ H Q := h
theorem rd_append {l : Addr} {xs : List V} {y : V} (h1 : H l = some (.lst xs)) (hz : xs.length < sizeLine) (h : Q .non (upd H l (.lst (xs ++ [y])))) : rAppend (.ref l) [y] H Q := ⟨l, xs, y, rfl, rfl, h1, hz, h⟩
theorem rd_rng1 {ta : TA} {R : It → Hp → Prop} (h : ta σ H fun vs H1 => ∃ j : Int, vs = [.int j] ∧ -(2 ^ 62) ≤ j ∧ j < 2 ^ 62 ∧ R (Itr 0 j.toNat) H1) : iRng1 ta σ H R := h
theorem rd_rngV {j : Int} {P : Int → Prop} (h : P j) : ∃ j' : Int, [V.int j] = [.int j'] ∧ P j' := ⟨j, rfl, h⟩
theorem rd_ilist {tl : TE} {R : It → Hp → Prop} (h : tl σ H fun x H1 => ∃ a, x = .ref a ∧ (∃ xs, SqL K H1 a xs) ∧ R (Itl K a) H1) : iList K tl σ H R := h
theorem rd_itup {tl : TE} {R : It → Hp → Prop} (h : tl σ H fun x H1 => ∃ a, x = .ref a ∧ (∃ xs, SqT K H1 a xs) ∧ R (Itt K a) H1) : iTup K tl σ H R := h
end
/-! ### the calls' readings, each with a name -/
abbrev TR := List V → Hp → VK → Prop
def rLen (K : PySem.W.Frag) : TR := fun xs H Q => ∃ p ys, xs = [.ref p] ∧ (SqL K H p ys ∨ SqT K H p ys) ∧ Q (.int ys.length) H
def rLenS : TR := fun xs H Q => ∃ z, xs = [.str z] ∧ z.length ≤ sizeLine ∧ Q (.int z.length) H
def rIsi (K : PySem.W.Frag) : TR := fun xs H Q => ∃ x T n b, xs = [x, .ty n] ∧ TyS K H x T ∧ subT T n = some b ∧ Q (.bl b) H
def rAll (K : PySem.W.Frag) : TR := fun xs H Q => ∃ (p : Addr) (bs : List Bool), xs = [.ref p] ∧ SqL K H p (bs.map V.bl) ∧ Q (.bl (bs.all id)) H
def rRepr (K : PySem.W.Frag) : TR := fun xs H Q => ∃ (N : List Addr) (x : V) (d : PyData), xs = [x] ∧ Dt K N H x d ∧ Shw d ∧ Q (.str d.shown) H
def rListOf (K : PySem.W.Frag) : TR := fun xs H Q => ∃ p ys, xs = [.ref p] ∧ (SqL K H p ys ∨ SqT K H p ys) ∧ ∀ l, H l = none → Q (.ref l) (upd H l (.lst ys))
def rTupleOf (K : PySem.W.Frag) : TR := fun xs H Q => ∃ p ys, xs = [.ref p] ∧ ((SqL K H p ys ∧ ∀ l, H l = none → Q (.ref l) (upd H l (.tup ys))) ∨ (SqT K H p ys ∧ Q (.ref p) H))
def rMin : TR := fun xs H Q => ∃ i j, xs = [.int i, .int j] ∧ Q (.int (if j < i then j else i)) H
def rMax : TR := fun xs H Q => ∃ i j, xs = [.int i, .int j] ∧ Q (.int (if j > i then j else i)) H
def rStr : TR := fun xs H Q => ∃ i, xs = [.int i] ∧ i.natAbs.log2 < 1920 ∧ Q (.str (toString i)) H
def rEqD (K : PySem.W.Frag) : R2 := fun x y H Q => ∃ (N : List Addr) (d e : PyData), Dt K N H x d ∧ Dt K N H y e ∧ SeqAt.shaped d = true ∧ SeqAt.shaped e = true ∧ Q (.bl (PyData.eqv d e)) H
def rNeD (K : PySem.W.Frag) : R2 := fun x y H Q => ∃ (N : List Addr) (d e : PyData), Dt K N H x d ∧ Dt K N H y e ∧ SeqAt.shaped d = true ∧ SeqAt.shaped e = true ∧ Q (.bl (!PyData.eqv d e)) H
def rIsN : R2 := fun x y H Q => y = .non ∧ Q (.bl (decide (x = .non))) H
def rNotN : R2 := fun x y H Q => y = .non ∧ Q (.bl (!decide (x = .non))) H
section
variable {X : Cx}
theorem cn_len : CallR X (.builtin "len") (rLen X.K) := call_len_seq
theorem cn_isi : CallR X (.builtin "isinstance") (rIsi X.K) := call_isi
theorem cn_all (hc : X.calm = true) : CallR X (.builtin "all") (rAll X.K) := call_all hc
theorem cn_list : CallR X (.type "list") (rListOf X.K) := call_list_of
theorem cn_tuple : CallR X (.type "tuple") (rTupleOf X.K) := call_tuple_of
theorem cn_min (hc : X.calm = true) : CallR X (.builtin "min") rMin := call_min2 hc
theorem cn_str : CallR X (.type "str") rStr := call_str_int
theorem on_eqD {k : Nat} (hr : Room k X.A) : OpR X (compareOp .Eq) (rEqD X.K) := fun pins s σ H x y v u Q I rx ry ⟨N, d, e, h⟩ => op_eqD (N := N) hr pins s σ H x y v u Q I rx ry ⟨d, e, h⟩
theorem on_neD {k : Nat} (hr : Room k X.A) : OpR X (compareOp .NotEq) (rNeD X.K) := fun pins s σ H x y v u Q I rx ry ⟨N, d, e, h⟩ => op_neD (N := N) hr pins s σ H x y v u Q I rx ry ⟨d, e, h⟩
theorem on_notN : OpR X (compareOp .IsNot) rNotN := op_notN
end
section
variable {H : Hp} {Q : VK} {K : PySem.W.Frag} {N : List Addr} {p : Addr} {xs : List V}
theorem rd_lenL (hq : SqL K H p xs) (h : Q (.int xs.length) H) : rLen K [.ref p] H Q := ⟨p, xs, rfl, .inl hq, h⟩
theorem rd_lenT (hq : SqT K H p xs) (h : Q (.int xs.length) H) : rLen K [.ref p] H Q := ⟨p, xs, rfl, .inr hq, h⟩
theorem rd_isi {x : V} {T n : String} {b : Bool} (ty : TyS K H x T) (hs : subT T n = some b) (h : Q (.bl b) H) : rIsi K [x, .ty n] H Q := ⟨x, T, n, b, rfl, ty, hs, h⟩
theorem rd_eqD {x y : V} {d e : PyData} (hd : Dt K N H x d) (he : Dt K N H y e) (h1 : SeqAt.shaped d = true) (h2 : SeqAt.shaped e = true) (h : Q (.bl (PyData.eqv d e)) H) : rEqD K x y H Q := ⟨N, d, e, hd, he, h1, h2, h⟩
theorem rd_neD {x y : V} {d e : PyData} (hd : Dt K N H x d) (he : Dt K N H y e) (h1 : SeqAt.shaped d = true) (h2 : SeqAt.shaped e = true) (h : Q (.bl (!PyData.eqv d e)) H) : rNeD K x y H Q := ⟨N, d, e, hd, he, h1, h2, h⟩
theorem rd_listL (hq : SqL K H p xs) (h : ∀ l, H l = none → Q (.ref l) (upd H l (.lst xs))) : rListOf K [.ref p] H Q := ⟨p, xs, rfl, .inl hq, h⟩
theorem rd_all {bs : List Bool} (hq : SqL K H p (bs.map V.bl)) (h : Q (.bl (bs.all id)) H) : rAll K [.ref p] H Q := ⟨p, bs, rfl, hq, h⟩
theorem rd_min {i j : Int} (h : Q (.int (if j < i then j else i)) H) : rMin [.int i, .int j] H Q := ⟨i, j, rfl, h⟩
theorem rd_str {i : Int} (hl : i.natAbs.log2 < 1920) (h : Q (.str (toString i)) H) : rStr [.int i] H Q := ⟨i, rfl, hl, h⟩
theorem rd_notN {x : V} (h : Q (.bl (!decide (x = .non))) H) : rNotN x .non H Q := ⟨rfl, h⟩
end
theorem atI_in {α : Type} {xs : List α} {i : Int} (h0 : 0 ≤ i) (h1 : i < xs.length) : ∃ v, atI xs i = some v ∧ xs[i.toNat]? = some v := by
  obtain ⟨n, rfl⟩ := Int.eq_ofNat_of_zero_le h0
  have hn : n < xs.length := by omega
  exact ⟨xs[n], atI_nat (by simp [hn]), by simp [hn]⟩
theorem atI_ints {ns : List Int} {i : Int} (h0 : 0 ≤ i) (h1 : i < ns.length) : ∃ n, atI (ns.map V.int) i = some (.int n) ∧ n ∈ ns := by
  obtain ⟨v, h2, h3⟩ := atI_in (xs := ns.map V.int) h0 (by simpa using h1)
  rw [List.getElem?_map] at h3
  cases e : ns[i.toNat]? with
  | none => rw [e] at h3; cases h3
  | some n => rw [e] at h3; cases h3; exact ⟨n, h2, List.mem_of_getElem? e⟩
/-- the turns of a comprehension, of a loop -/
def CompW (σ0 : St) (J : It) (H1 : Hp) (acc : Addr) (g : TG) (tt : TT) (te : TE) (Q : VK) : Prop := ∃ W : Nat → Nat → St → Hp → Prop, (∃ m, W 0 m σ0 (upd H1 acc (.lst []))) ∧ ∀ i m σc H, W i m σc H →
    (J.stop i H ∧ Q (.ref acc) H) ∨ (J.go i H ∧ ∃ N : St → Hp → Prop, (∀ σ' H', N σ' H' → ∃ m', m' < m ∧ W (i + 1) m' σ' H') ∧ ∀ x H', J.yld i H x H' → g x σc H' fun σ2 H2 => tt σ2 H2 fun b H3 =>
      if b = true then te σ2 H3 fun v H4 => ∃ xs, H4 acc = some (.lst xs) ∧ xs.length < sizeLine ∧ N σ2 (upd H4 acc (.lst (xs ++ [v]))) else N σ2 H3)
def ForW (J : It) (g : TG) (tb : TS) (D : Ends) (σ : St) (H : Hp) : Prop := ∃ W : Nat → Nat → St → Hp → Prop, (∃ m, W 0 m σ H) ∧ ∀ i m σ H, W i m σ H →
  (J.stop i H ∧ D.nx σ H) ∨ (J.go i H ∧ ∃ N : St → Hp → Prop, (∀ σ' H', N σ' H' → ∃ m', m' < m ∧ W (i + 1) m' σ' H') ∧ ∀ x H', J.yld i H x H' → g x σ H' fun σ2 H2 => tb { D with nx := N, ct := N, bk := D.nx } σ2 H2)
/-! ### a comprehension without tests, by an invariant over the list so far -/
section
variable {J : It} {H1 : Hp} {acc : Addr} {σ0 : St} {g : TG} {te : TE} {Q : VK}
theorem comp_by (n : Nat) (hn : n < sizeLine) (Pv : Nat → List V → St → Hp → Prop) (h0 : Pv 0 [] σ0 (upd H1 acc (.lst [])))
    (hgo : ∀ i vs σc H, i < n → vs.length = i → H acc = some (.lst vs) → Pv i vs σc H → J.go i H ∧ ∀ x H', J.yld i H x H' → ∀ R : St → V → Hp → Prop,
      (∀ σ2 v H4, H4 acc = some (.lst vs) → Pv (i + 1) (vs ++ [v]) σ2 (upd H4 acc (.lst (vs ++ [v]))) → R σ2 v H4) → g x σc H' fun σ2 H2 => te σ2 H2 (R σ2))
    (hst : ∀ vs σc H, vs.length = n → H acc = some (.lst vs) → Pv n vs σc H → J.stop n H ∧ Q (.ref acc) H) :
    CompW σ0 J H1 acc g tYes te Q := by
  refine ⟨fun i m σc H => m = n - i ∧ i ≤ n ∧ ∃ vs, vs.length = i ∧ H acc = some (.lst vs) ∧ Pv i vs σc H, ⟨n, by simp, Nat.zero_le _, [], rfl, upd_same, h0⟩, ?_⟩
  rintro i m σc H ⟨rfl, hi, vs, hl, ha, hp⟩
  by_cases hlt : i < n
  · obtain ⟨g1, g2⟩ := hgo i vs σc H hlt hl ha hp
    refine .inr ⟨g1, fun σ' H' => i + 1 ≤ n ∧ ∃ vs, vs.length = i + 1 ∧ H' acc = some (.lst vs) ∧ Pv (i + 1) vs σ' H', fun σ' H' q => ⟨n - (i + 1), by omega, rfl, q⟩, fun x H' y => ?_⟩
    simp only [tYes, if_true]
    exact g2 x H' y (fun σ2 v H4 => ∃ xs, H4 acc = some (.lst xs) ∧ xs.length < sizeLine ∧ (i + 1 ≤ n ∧ ∃ vs, vs.length = i + 1 ∧ (upd H4 acc (.lst (xs ++ [v]))) acc = some (.lst vs) ∧ Pv (i + 1) vs σ2 (upd H4 acc (.lst (xs ++ [v])))))
      fun σ2 v H4 q1 q2 => ⟨vs, q1, by omega, hlt, vs ++ [v], by simp [hl], upd_same, q2⟩
  · have e : i = n := by omega
    subst e
    exact .inl (hst vs σc H hl ha hp)
end
theorem rd_comp {K : PySem.W.Frag} {fr : List (Option Nat)} {wi : TI} {g : TG} {tt : TT} {te : TE} {σ : St} {H : Hp} {Q : VK} (h : wi σ H fun J H1 => ∀ acc, H1 acc = none → K.lookup acc = none → CompW (stC fr σ) J H1 acc g tt te Q) : tComp K fr wi g tt te σ H Q := h
theorem rd_for {wi : TI} {g : TG} {tb : TS} {D : Ends} {σ : St} {H : Hp} (h : wi σ H fun J H1 => ForW J g tb D σ H1) : tFor wi g tb D σ H := h
theorem for_listW {K : PySem.W.Frag} {a : Addr} {xs : List V} {g : TG} {tb : TS} {D : Ends} {σ : St} {H : Hp} (Pv : Nat → St → Hp → Prop) (h0 : Pv 0 σ H) (hl : ∀ i σ H, i ≤ xs.length → Pv i σ H → SqL K H a xs)
    (hs : ∀ i x σ H, xs[i]? = some x → Pv i σ H → g x σ H fun σ2 H2 => tb { D with nx := Pv (i + 1), ct := Pv (i + 1), bk := D.nx } σ2 H2) (hd : ∀ σ H, Pv xs.length σ H → D.nx σ H) : ForW (Itl K a) g tb D σ H := for_list Pv h0 hl hs hd
theorem for_rangeW {lo : Int} {n : Nat} {g : TG} {tb : TS} {D : Ends} {σ : St} {H : Hp} (Pv : Nat → St → Hp → Prop) (h0 : Pv 0 σ H)
    (hs : ∀ i σ H, i < n → Pv i σ H → g (.int (lo + i)) σ H fun σ2 H2 => tb { D with nx := Pv (i + 1), ct := Pv (i + 1), bk := D.nx } σ2 H2) (hd : ∀ σ H, Pv n σ H → D.nx σ H) : ForW (Itr lo n) g tb D σ H := for_range Pv h0 hs hd
theorem subT_of {T n : String} (h1 : T ∈ ["NoneType", "bool", "int", "str", "list", "tuple", "dict"]) (h2 : n ∈ ["int", "bool", "str", "tuple", "list", "dict"]) : subT T n = some (isB T n) := subT_tab T h1 n h2
def tyN : PyData → String
  | .none => "NoneType"
  | .bool _ => "bool"
  | .int _ => "int"
  | .str _ => "str"
  | .list _ => "list"
  | .tuple _ => "tuple"
  | .dict _ => "dict"
theorem tyN_in (d : PyData) : tyN d ∈ ["NoneType", "bool", "int", "str", "list", "tuple", "dict"] := by cases d <;> simp [tyN]
theorem Dt.tyn {K : PySem.W.Frag} {N : List Addr} {H : Hp} {v : V} {d : PyData} (h : Dt K N H v d) : TyS K H v (tyN d) := by
  cases h with
  | non => exact .non
  | bl b => exact .bl b
  | int i => exact .int i
  | str x => exact .str x
  | tup h n r => exact .tup h
  | lst h n r => exact .lst h
  | dk0 h n => exact .dk h
  | dk1 h n r => exact .dk h
def isTupD : PyData → Bool
  | .tuple _ => true
  | _ => false
def isIntD : PyData → Bool
  | .int _ => true
  | .bool _ => true
  | _ => false
def isBoolD : PyData → Bool
  | .bool _ => true
  | _ => false
def isStrD : PyData → Bool
  | .str _ => true
  | _ => false
def isListD : PyData → Bool
  | .list _ => true
  | _ => false
section
variable {K : PySem.W.Frag} {N : List Addr} {H : Hp} {x : V} {d : PyData} {Q : VK}
theorem rd_isiTup (hd : Dt K N H x d) (h : Q (.bl (isTupD d)) H) : rIsi K [x, .ty "tuple"] H Q := by
  refine rd_isi hd.tyn (subT_of (tyN_in d) (by simp)) ?_
  have e : isB (tyN d) "tuple" = isTupD d := by cases d <;> (dsimp only [tyN, isTupD, isIntD, isBoolD, isStrD, isListD]; decide)
  rw [e]; exact h
theorem rd_isiInt (hd : Dt K N H x d) (h : Q (.bl (isIntD d)) H) : rIsi K [x, .ty "int"] H Q := by
  refine rd_isi hd.tyn (subT_of (tyN_in d) (by simp)) ?_
  have e : isB (tyN d) "int" = isIntD d := by cases d <;> (dsimp only [tyN, isTupD, isIntD, isBoolD, isStrD, isListD]; decide)
  rw [e]; exact h
theorem rd_isiBool (hd : Dt K N H x d) (h : Q (.bl (isBoolD d)) H) : rIsi K [x, .ty "bool"] H Q := by
  refine rd_isi hd.tyn (subT_of (tyN_in d) (by simp)) ?_
  have e : isB (tyN d) "bool" = isBoolD d := by cases d <;> (dsimp only [tyN, isTupD, isIntD, isBoolD, isStrD, isListD]; decide)
  rw [e]; exact h
theorem rd_isiList (hd : Dt K N H x d) (h : Q (.bl (isListD d)) H) : rIsi K [x, .ty "list"] H Q := by
  refine rd_isi hd.tyn (subT_of (tyN_in d) (by simp)) ?_
  have e : isB (tyN d) "list" = isListD d := by cases d <;> (dsimp only [tyN, isTupD, isIntD, isBoolD, isStrD, isListD]; decide)
  rw [e]; exact h
end
theorem rd_iteT {i : Decidable (true = true)} {A B : Prop} (h : A) : @ite Prop (true = true) i A B := by rw [if_pos rfl]; exact h
theorem rd_iteF {i : Decidable (false = true)} {A B : Prop} (h : B) : @ite Prop (false = true) i A B := by rw [if_neg Bool.false_ne_true]; exact h
theorem rd_ite2 {c : Bool} {i : Decidable (c = true)} {A B : Prop} (h1 : c = true → A) (h2 : c = false → B) : @ite Prop (c = true) i A B := by
  cases c with
  | true => rw [if_pos rfl]; exact h1 rfl
  | false => rw [if_neg Bool.false_ne_true]; exact h2 rfl
theorem DtAll.at {K : PySem.W.Frag} {N : List Addr} {H : Hp} {vs : List V} {ds : List PyData} {i : Nat} (r : DtAll K N H vs ds) (h : i < ds.length) : ∃ v d, vs[i]? = some v ∧ ds[i]? = some d ∧ Dt K N H v d := by
  have e : ds[i]? = some ds[i] := by simp [h]
  obtain ⟨v, h1, h2⟩ := r.getD e
  exact ⟨v, ds[i], h1, e, h2⟩
/-! ### the rules with the written part by its own name (within a block) -/
section
variable {X : Cx} {K : PySem.W.Frag}
theorem ix_tupK (h : X.K = K) : IxR X (rIxT K) := h ▸ ix_tup
end
end L2

namespace L2
open PySem
/-- the state of the draws: cells, how many were taken, what is left of a great one, the seed -/
structure StOk (K : PySem.W.Frag) (H : Hp) (st : Addr) : Prop where
  ex : ∃ (c : Addr) (cs : List Int) (p q r : Int), H st = some (.lst [.ref c, .int p, .int q, .int r]) ∧ H c = some (.lst (cs.map V.int)) ∧ c ≠ st ∧ 1 ≤ cs.length ∧ cs.length ≤ 63 ∧ 0 ≤ p ∧ 0 ≤ q ∧ 0 ≤ r ∧ r < 2147483647
theorem sz {n : Nat} (h : n ≤ 1000) : n ≤ sizeLine := Nat.le_trans h (by decide)
end L2
namespace Mt
open PySem
/-! the mathematics of histories -/
def numD : PyData → Bool
  | .int _ => true
  | _ => false
def withinD (a b : Int) : PyData → Bool
  | .int i => decide (a ≤ i) && decide (i ≤ b)
  | _ => false
def begunD : PyData → Bool
  | .tuple [x, y] => withinD 0 1000000000 x && withinD 0 1000000 y
  | _ => false
/-- pair by pair, from the last line and fork on -/
def chk : Int → Int → List PyData → Bool
  | _, _, [] => true
  | l, f, .tuple [.int a, .int b] :: r => decide (l < a) && decide (a ≤ 1000000000) && decide (f ≤ b) && decide (b ≤ 1000000) && chk a b r
  | _, _, _ :: _ => false
def first0 : List PyData → Bool
  | .tuple [.int _, .int b] :: _ => decide (b = 0)
  | _ => false
def histD : PyData → Bool
  | .tuple ds => decide (1 ≤ ds.length) && decide (ds.length ≤ 60) && chk (-1) 0 ds && first0 ds
  | _ => false
/-- the i-th pair and the next one rise -/
def rise (ds : List PyData) (i : Nat) : Bool :=
  match ds[i]?, ds[i + 1]? with
  | some (.tuple [.int a, .int b]), some (.tuple [.int c, .int d]) => decide (a < c) && decide (b ≤ d)
  | _, _ => false
theorem numD_int {d : PyData} (h : numD d = true) : ∃ a, d = .int a := by
  cases d with
  | int a => exact ⟨a, rfl⟩
  | _ => cases h
theorem p9 : (10 : Int) ^ (9 : Int).toNat = 1000000000 := by decide
theorem p6 : (10 : Int) ^ (6 : Int).toNat = 1000000 := by decide
end Mt

set_option maxRecDepth 100000
namespace Mt
open PySem L2
/-! what may be shown: small data -/
structure Itm (w k : Nat) (d : PyData) : Prop where
  sh : d.showable = true
  lv : d.leavesShort 60 = true
  wt : d.weight ≤ w
  dp : d.depth ≤ k
  nd : d.hasDict = false
theorem Itm.mono {w w' k k' : Nat} {d : PyData} (h : Itm w k d) (h1 : w ≤ w') (h2 : k ≤ k') : Itm w' k' d := ⟨h.sh, h.lv, Nat.le_trans h.wt h1, Nat.le_trans h.dp h2, h.nd⟩
theorem Itm.shw {w k : Nat} {d : PyData} (h : Itm w k d) (hw : w ≤ 200000) (hk : k ≤ 30) : Shw d := by
  refine ⟨h.sh, Nat.le_trans h.dp hk, ?_, .inl h.nd⟩
  have e := PyData.shown_le 60 (by decide) d h.lv
  have e2 := h.wt
  rw [sizeLine_eq]
  have e3 : (60 + 2) * d.weight ≤ 62 * 200000 := Nat.mul_le_mul_left 62 (Nat.le_trans e2 hw)
  omega
theorem itm_none : Itm 0 0 .none := ⟨rfl, rfl, Nat.le_refl _, Nat.le_refl _, rfl⟩
theorem itm_bool (b : Bool) : Itm 0 0 (.bool b) := ⟨rfl, rfl, Nat.le_refl _, Nat.le_refl _, rfl⟩
theorem log2_le {n : Nat} (h : n < 10 ^ 41) : n.log2 < 140 := by
  by_cases h0 : n = 0
  · subst h0; decide
  · exact (Nat.log2_lt h0).mpr (Nat.lt_of_lt_of_le h (by decide))
theorem itm_int {i : Int} (h : i.natAbs < 10 ^ 41) : Itm 140 0 (.int i) := by
  have hl := log2_le h
  refine ⟨?_, ?_, ?_, Nat.le_refl _, rfl⟩
  · simp only [PyData.showable, decide_eq_true_eq]; omega
  · have e := int_text_length_le10 (k := 41) (by decide) h
    have e' : (PyData.shown (.int i)).length = (toString i).length := ofString_length _
    simp only [PyData.leavesShort, decide_eq_true_eq, e']; omega
  · simp only [PyData.weight]
    split <;> omega
def cpsOk (x : Str) : Prop := (x.cps.toList.all fun c => decide (c < 16 ^ 8)) = true
theorem itm_str {x : Str} (h : cpsOk x) (hl : x.length ≤ 140) : Itm 140 0 (.str x) := ⟨rfl, h, hl, Nat.le_refl _, rfl⟩
theorem all_showable {w k : Nat} : ∀ {ds : List PyData}, (∀ d ∈ ds, Itm w k d) → PyData.showableAll ds = true
  | [], _ => rfl
  | d :: r, h => by
    simp only [PyData.showableAll, Bool.and_eq_true]
    exact ⟨(h d (by simp)).sh, all_showable fun e he => h e (List.mem_cons_of_mem _ he)⟩
theorem all_leaves {w k : Nat} : ∀ {ds : List PyData}, (∀ d ∈ ds, Itm w k d) → PyData.leavesShortAll 60 ds = true
  | [], _ => rfl
  | d :: r, h => by
    simp only [PyData.leavesShortAll, Bool.and_eq_true]
    exact ⟨(h d (by simp)).lv, all_leaves fun e he => h e (List.mem_cons_of_mem _ he)⟩
theorem all_weight {w k : Nat} : ∀ {ds : List PyData}, (∀ d ∈ ds, Itm w k d) → PyData.weightAll ds ≤ ds.length * (w + 1)
  | [], _ => by simp [PyData.weightAll]
  | d :: r, h => by
    have h1 := (h d (by simp)).wt
    have h2 := all_weight (ds := r) fun e he => h e (List.mem_cons_of_mem _ he)
    simp only [PyData.weightAll, List.length_cons, Nat.add_mul, Nat.one_mul]
    omega
theorem all_depth {w k : Nat} : ∀ {ds : List PyData}, (∀ d ∈ ds, Itm w k d) → PyData.depthAll ds ≤ k
  | [], _ => by simp [PyData.depthAll]
  | d :: r, h => by
    simp only [PyData.depthAll]
    exact Nat.max_le.mpr ⟨(h d (by simp)).dp, all_depth fun e he => h e (List.mem_cons_of_mem _ he)⟩
theorem all_nodict {w k : Nat} : ∀ {ds : List PyData}, (∀ d ∈ ds, Itm w k d) → PyData.hasDictAll ds = false
  | [], _ => rfl
  | d :: r, h => by
    simp only [PyData.hasDictAll, Bool.or_eq_false_iff]
    exact ⟨(h d (by simp)).nd, all_nodict fun e he => h e (List.mem_cons_of_mem _ he)⟩
theorem itm_tuple {w k n : Nat} {ds : List PyData} (h : ∀ d ∈ ds, Itm w k d) (hn : ds.length ≤ n) : Itm (n * (w + 1)) (k + 1) (.tuple ds) :=
  ⟨all_showable h, all_leaves h, Nat.le_trans (all_weight h) (Nat.mul_le_mul_right _ hn), Nat.succ_le_succ (all_depth h), all_nodict h⟩
theorem itm_list {w k n : Nat} {ds : List PyData} (h : ∀ d ∈ ds, Itm w k d) (hn : ds.length ≤ n) : Itm (n * (w + 1)) (k + 1) (.list ds) :=
  ⟨all_showable h, all_leaves h, Nat.le_trans (all_weight h) (Nat.mul_le_mul_right _ hn), Nat.succ_le_succ (all_depth h), all_nodict h⟩
theorem shw_dict0 : Shw (.dict []) := ⟨rfl, by decide, by decide +kernel, .inr rfl⟩

/-! histories as lists of pairs -/
def pr (p : Int × Int) : PyData := .tuple [.int p.1, .int p.2]
def okP : Int → Int → List (Int × Int) → Prop
  | _, _, [] => True
  | l, f, (a, b) :: r => l < a ∧ a ≤ 1000000000 ∧ f ≤ b ∧ b ≤ 1000000 ∧ okP a b r
/-- a history: its pairs -/
structure HOK (hs : List (Int × Int)) : Prop where
  len1 : 1 ≤ hs.length
  len2 : hs.length ≤ 60
  ok : okP (-1) 0 hs
  zero : ∃ a r, hs = (a, 0) :: r
theorem itm_small {i : Int} (h1 : -100000000000 ≤ i) (h2 : i ≤ 100000000000) : Itm 140 0 (.int i) := itm_int (Nat.lt_of_le_of_lt (m := 100000000000) (by omega) (by decide))
end Mt
namespace L2
open PySem
theorem sub_not {N N' : List Addr} (h : ∀ b ∈ N', b ∈ N) {a : Addr} (n : a ∉ N) : a ∉ N' := fun z => n (h a z)
mutual
theorem Dt.weaken {K : PySem.W.Frag} {N N' : List Addr} {H : Hp} (h : ∀ b ∈ N', b ∈ N) : ∀ {v : V} {d : PyData}, Dt K N H v d → Dt K N' H v d
  | _, _, .non => .non
  | _, _, .bl b => .bl b
  | _, _, .int i => .int i
  | _, _, .str x => .str x
  | _, _, .tup q n r => .tup q (sub_not h n) (DtAll.weaken h r)
  | _, _, .lst q n r => .lst q (sub_not h n) (DtAll.weaken h r)
  | _, _, .dk0 q n => .dk0 q (sub_not h n)
  | _, _, .dk1 q n r => .dk1 q (sub_not h n) (Dt.weaken h r)
theorem DtAll.weaken {K : PySem.W.Frag} {N N' : List Addr} {H : Hp} (h : ∀ b ∈ N', b ∈ N) : ∀ {vs : List V} {ds : List PyData}, DtAll K N H vs ds → DtAll K N' H vs ds
  | _, _, .nil => .nil
  | _, _, .cons q r => .cons (Dt.weaken h q) (DtAll.weaken h r)
end
theorem rd_seqK {t u : TS} {D : Ends} {σ : St} {H : Hp} (P : St → Hp → Prop) (hu : ∀ σ' H', P σ' H' → u D σ' H') (h : (∀ σ' H', P σ' H' → u D σ' H') → t { D with nx := u D } σ H) : tSeq t u D σ H := h hu
theorem DtAll.atI {K : PySem.W.Frag} {N : List Addr} {H : Hp} {vs : List V} {ds : List PyData} {i : Int} (r : DtAll K N H vs ds) (h0 : 0 ≤ i) (h1 : i < ds.length) : ∃ v d, L2.atI vs i = some v ∧ d ∈ ds ∧ Dt K N H v d := by
  obtain ⟨n, rfl⟩ := Int.eq_ofNat_of_zero_le h0
  obtain ⟨v, d, e1, e2, e3⟩ := r.at (i := n) (by omega)
  exact ⟨v, d, atI_nat e1, List.mem_of_getElem? e2, e3⟩
theorem cps_ofString (s : String) : Mt.cpsOk (Str.ofString s) := by
  unfold Mt.cpsOk
  rw [Str.ofString_eq_toList]
  simp only [List.toList_toArray, List.all_map, List.all_eq_true]
  intro c _
  have : c.toNat < 1114112 := by
    have := c.valid
    rcases this with h | h
    · exact Nat.lt_of_lt_of_le h (by decide)
    · exact Nat.lt_of_lt_of_le h.2 (by decide)
  simp only [Function.comp, decide_eq_true_eq]
  exact Nat.lt_trans this (by decide)
/-! ### makers, the new heap by its facts -/
def tTupA (t : TA) : TE := fun σ H Q => t σ H fun xs H1 => xs.length ≤ sizeLine ∧ ∀ p H', H1 p = none → Same H1 H' → H' p = some (.tup xs) → Q (.ref p) H'
def tLstA (t : TA) : TE := fun σ H Q => t σ H fun xs H1 => xs.length ≤ sizeLine ∧ ∀ p H', H1 p = none → Same H1 H' → H' p = some (.lst xs) → Q (.ref p) H'
def tDNewA : TE := fun _ H Q => ∀ p H', H p = none → Same H H' → H' p = some (.dK []) → Q (.ref p) H'
def rCatA : R2 := fun x y H Q => ∃ l b xs zs, x = .ref l ∧ y = .ref b ∧ H l = some (.lst xs) ∧ H b = some (.lst zs) ∧ xs.length + zs.length ≤ sizeLine ∧ ∀ p H', H p = none → Same H H' → H' p = some (.lst (xs ++ zs)) → Q (.ref p) H'
def rSlA (K : PySem.W.Frag) : V → Option Int → Option Int → Hp → VK → Prop := fun x lo hi H Q => ∃ a xs, x = .ref a ∧ SqL K H a xs ∧ ∀ p H', H p = none → Same H H' → H' p = some (.lst (cutV xs lo hi)) → Q (.ref p) H'
def rListA (K : PySem.W.Frag) : TR := fun xs H Q => ∃ p ys, xs = [.ref p] ∧ (SqL K H p ys ∨ SqT K H p ys) ∧ ∀ l H', H l = none → Same H H' → H' l = some (.lst ys) → Q (.ref l) H'
def rTupleA (K : PySem.W.Frag) : TR := fun xs H Q => ∃ p ys, xs = [.ref p] ∧ (SqL K H p ys ∨ SqT K H p ys) ∧ ∀ l H', (l = p ∨ H l = none) → Same H H' → SqT K H' l ys → Q (.ref l) H'
section
open PyProof.Rows
variable {X : Cx} {es : List Expr} {t : TA} {pos : Pos} {K : PySem.W.Frag}
theorem pe_tupA {x1} (h : PA X es t) : PE X (.Tuple es x1 pos) (tTupA t) := by
  intro pins s σ H Q I hq
  refine wpAny_Tuple_spliced (thn (h pos pins s σ H _ I hq) fun us s1 ⟨xs, H1, I1, r, z, q⟩ => ⟨by rw [← r.length]; exact z, ?_⟩)
  have hf : H1 s1.heap.objs.size = none := I1.hok.fresh (Nat.le_refl _)
  exact ⟨.ref s1.heap.objs.size, upd H1 s1.heap.objs.size (.tup xs), I1.laid (t' := s1.toks) (fun b u e => Heap.get?_push_of_some _ e) (Nat.le_refl _) ⟨z, us, r, ⟨_, Heap.get?_push_size _ rfl, rfl, _, rfl⟩⟩, rfl, q _ _ hf (Same.upd hf) upd_same⟩
theorem pe_lstA (h : PA X es t) : PE X (.List es pos) (tLstA t) := by
  intro pins s σ H Q I hq
  refine wpAny_List_spliced (thn (h pos pins s σ H _ I hq) fun us s1 ⟨xs, H1, I1, r, z, q⟩ => ⟨by rw [← r.length]; exact z, ?_⟩)
  have hf : H1 s1.heap.objs.size = none := I1.hok.fresh (Nat.le_refl _)
  exact ⟨.ref s1.heap.objs.size, upd H1 s1.heap.objs.size (.lst xs), I1.laid (t' := s1.toks) (fun b u e => Heap.get?_push_of_some _ e) (Nat.le_refl _) ⟨z, us, 0, r, Heap.get?_push_size _ rfl⟩, rfl, q _ _ hf (Same.upd hf) upd_same⟩
theorem pe_dnewA : PE X (.Dict [] [] pos) tDNewA := fun pins s σ H Q I h => pe_dnewK pins s σ H Q I fun p hp => h p _ hp (Same.upd hp) upd_same
theorem op_catA : OpR X (binaryOp .Add) rCatA := fun pins s σ H x y v u Q I rx ry ⟨l, b, xs, zs, h1, h2, h3, h4, h5, h6⟩ => op_cat pins s σ H x y v u Q I rx ry ⟨l, b, xs, zs, h1, h2, h3, h4, h5, fun p hp => h6 p _ hp (Same.upd hp) upd_same⟩
theorem sl_listA (hK : X.K = K) : SlR X (rSlA K) := fun pins s σ H x v vl vu lo hi sl Q I rx hs pl pu ⟨a, xs, h1, h2, h3⟩ => sl_list pins s σ H x v vl vu lo hi sl Q I rx hs pl pu ⟨a, xs, h1, by rw [hK]; exact h2, fun p hp => h3 p _ hp (Same.upd hp) upd_same⟩
theorem cn_listA (hK : X.K = K) : CallR X (.type "list") (rListA K) := fun pins s σ H xs us Q I r ⟨p, ys, h1, h2, h3⟩ => cn_list pins s σ H xs us Q I r ⟨p, ys, h1, by rw [hK]; exact h2, fun l hl => h3 l _ hl (Same.upd hl) upd_same⟩
theorem cn_tupleA (hK : X.K = K) : CallR X (.type "tuple") (rTupleA K) := fun pins s σ H xs us Q I r ⟨p, ys, h1, h2, h3⟩ => cn_tuple pins s σ H xs us Q I r ⟨p, ys, h1, by
  rw [hK]
  rcases h2 with h2 | h2
  · exact .inl ⟨h2, fun l hl => h3 l _ (.inr hl) (Same.upd hl) (SqT.of upd_same)⟩
  · exact .inr ⟨h2, h3 p H (.inl rfl) (Same.refl H) h2⟩⟩
end
section
variable {σ : St} {H : Hp} {Q : VK} {K : PySem.W.Frag} {ta : TA} {p q : Addr} {xs ys : List V}
theorem rd_tupA (h : ta σ H fun xs H1 => xs.length ≤ sizeLine ∧ ∀ p H', H1 p = none → Same H1 H' → H' p = some (.tup xs) → Q (.ref p) H') : tTupA ta σ H Q := h
theorem rd_lstA (h : ta σ H fun xs H1 => xs.length ≤ sizeLine ∧ ∀ p H', H1 p = none → Same H1 H' → H' p = some (.lst xs) → Q (.ref p) H') : tLstA ta σ H Q := h
theorem rd_dnewA (h : ∀ p H', H p = none → Same H H' → H' p = some (.dK []) → Q (.ref p) H') : tDNewA σ H Q := h
theorem rd_catA (h1 : H p = some (.lst xs)) (h2 : H q = some (.lst ys)) (hz : xs.length + ys.length ≤ sizeLine) (h : ∀ r H', H r = none → Same H H' → H' r = some (.lst (xs ++ ys)) → Q (.ref r) H') : rCatA (.ref p) (.ref q) H Q := ⟨p, q, xs, ys, rfl, rfl, h1, h2, hz, h⟩
theorem rd_slA {lo hi : Option Int} (hq : SqL K H p xs) (h : ∀ l H', H l = none → Same H H' → H' l = some (.lst (cutV xs lo hi)) → Q (.ref l) H') : rSlA K (.ref p) lo hi H Q := ⟨p, xs, rfl, hq, h⟩
theorem rd_listAL (hq : SqL K H p xs) (h : ∀ l H', H l = none → Same H H' → H' l = some (.lst xs) → Q (.ref l) H') : rListA K [.ref p] H Q := ⟨p, xs, rfl, .inl hq, h⟩
theorem rd_listAT (hq : SqT K H p xs) (h : ∀ l H', H l = none → Same H H' → H' l = some (.lst xs) → Q (.ref l) H') : rListA K [.ref p] H Q := ⟨p, xs, rfl, .inr hq, h⟩
theorem rd_tupleAL (hq : SqL K H p xs) (h : ∀ l H', (l = p ∨ H l = none) → Same H H' → SqT K H' l xs → Q (.ref l) H') : rTupleA K [.ref p] H Q := ⟨p, xs, rfl, .inl hq, h⟩
end
theorem cutD_mem {ds : List PyData} {lo hi : Option Int} {d : PyData} (h : d ∈ cutD ds lo hi) : d ∈ ds := List.mem_of_mem_drop (List.mem_of_mem_take h)
theorem cutD_len {ds : List PyData} {lo hi : Option Int} : (cutD ds lo hi).length ≤ ds.length := by
  unfold cutD
  rw [List.length_take, List.length_drop]; omega
/-- the state of the draws, and things at N that are there (the state among them) -/
structure Trk (K : PySem.W.Frag) (N : List Addr) (H : Hp) (st : Addr) : Prop where
  so : StOk K H st
  mem : st ∈ N
  tr : ∀ b ∈ N, H b ≠ none
mutual
theorem Dt.fresh {K : PySem.W.Frag} {N : List Addr} {H : Hp} {p : Addr} (h : H p = none) (k : K.lookup p = none) : ∀ {v : V} {d : PyData}, Dt K N H v d → Dt K (p :: N) H v d
  | _, _, .non => .non
  | _, _, .bl b => .bl b
  | _, _, .int i => .int i
  | _, _, .str x => .str x
  | _, _, .tup q n r => .tup q (by
      rw [List.mem_cons, not_or]
      refine ⟨?_, n⟩
      rintro rfl
      rcases q with (q | ⟨o, q⟩) | ⟨o, its, m, q, _⟩
      · rw [h] at q; cases q
      · rw [h] at q; cases q
      · rw [k] at q; cases q) (DtAll.fresh h k r)
  | _, _, .lst q n r => .lst q (by
      rw [List.mem_cons, not_or]
      refine ⟨?_, n⟩
      rintro rfl
      rcases q with (q | ⟨o, q⟩) | ⟨o, its, m, q, _⟩
      · rw [h] at q; cases q
      · rw [h] at q; cases q
      · rw [k] at q; cases q) (DtAll.fresh h k r)
  | _, _, .dk0 q n => .dk0 q (by
      rw [List.mem_cons, not_or]
      refine ⟨?_, n⟩
      rintro rfl
      rw [h] at q; cases q)
  | _, _, .dk1 q n r => .dk1 q (by
      rw [List.mem_cons, not_or]
      refine ⟨?_, n⟩
      rintro rfl
      rw [h] at q; cases q) (Dt.fresh h k r)
theorem DtAll.fresh {K : PySem.W.Frag} {N : List Addr} {H : Hp} {p : Addr} (h : H p = none) (k : K.lookup p = none) : ∀ {vs : List V} {ds : List PyData}, DtAll K N H vs ds → DtAll K (p :: N) H vs ds
  | _, _, .nil => .nil
  | _, _, .cons q r => .cons (Dt.fresh h k q) (DtAll.fresh h k r)
end
theorem Ext.mono {N N' : List Addr} {H H' : Hp} (e : Ext N H H') (h : ∀ b ∈ N, b ∈ N') : Ext N' H H' := fun b u q n => e b u q fun z => n (h b z)
theorem ne_self {v : V} : (!decide (v = v)) = false := by simp
end L2

namespace L2
open PySem PySem.Spec PyProof.Rows
def notStar : Expr → Bool
  | .Starred .. => false
  | _ => true
def noStars : List Expr → Bool
  | [] => true
  | e :: r => notStar e && noStars r
theorem star_ne {e : Expr} {r : List Expr} {env : Env} (h : notStar e = true) : starEach (e :: r) env = (false, eval e env) :: starEach r env := by
  cases e <;> first | rfl | cases h
theorem stars_any {pos : Pos} {env : Env} : ∀ {es : List Expr}, noStars es = true → (backTo pos (starEach es env)).any (·.1) = false
  | [], _ => rfl
  | e :: r, h => by
    simp only [noStars, Bool.and_eq_true] at h
    rw [star_ne h.1]
    show (false || (backTo pos (starEach r env)).any (·.1)) = false
    rw [stars_any h.2]; rfl
section
variable {X : Cx} {e : Expr} {es : List Expr} {te : TE} {t : TA} {pos p : Pos} {CX : CXT} {k : Nat} {f : Addr} {fd : FuncData} {ps : List Str} {sp : Sp} {dvs : List V} {ds : List Value} {E : XK} {x : Str} {id Ty : String} {r : List V → Hp → VK → Prop}
theorem paN (ha : PE X e te) (hr : PA X es t) (h : notStar e = true := by rfl) : PA X (e :: es) (tCons te t) := pa_cons ha hr (star_ne h)
theorem peN_call (F : FnOk X.prog X.w X.K X.mg X.base CX k f fd ps sp) (hr : Room k X.A) (hg : Gl X x) (hm : X.mg x = some (.ref f)) (hk : PySem.W.keepIn X.K (.ref f) = true) (hb : Binds X.K fd ps ds) (hd : Vals dvs ds) (hx : Passes CX X E)
    (ha : PA X (e :: es) t) (hdb : (x == ("__debug__" : Str)) = false := by decide) (h1 : notStar e = true := by rfl) (h2 : noStars es = true := by rfl) : PE X (.Call (.Name x p) (e :: es) [] pos) (tCall sp dvs E t) :=
  pe_call F hr hg hm hk hb hd hx ha hdb (star_ne h1) (stars_any h2)
theorem peN_callB (hc : CallR X (.builtin id) r) (hg : Gl X x) (hm : X.mg x = none) (hv : bootBuiltins x = some (.builtin id)) (ha : PA X (e :: es) t) (hn : x ≠ "__name__" := by decide) (hdb : (x == ("__debug__" : Str)) = false := by decide)
    (h1 : notStar e = true := by rfl) (h2 : noStars es = true := by rfl) : PE X (.Call (.Name x p) (e :: es) [] pos) (tCB r t) := pe_callB hc hg hm hv ha hn hdb (star_ne h1) (stars_any h2)
theorem peN_callTy (hc : CallR X (.type Ty) r) (hg : Gl X x) (hm : X.mg x = none) (hv : bootBuiltins x = some (.type Ty)) (ha : PA X (e :: es) t) (hn : x ≠ "__name__" := by decide) (hdb : (x == ("__debug__" : Str)) = false := by decide)
    (h1 : notStar e = true := by rfl) (h2 : noStars es = true := by rfl) : PE X (.Call (.Name x p) (e :: es) [] pos) (tCB r t) := pe_callTy hc hg hm hv ha hn hdb (star_ne h1) (stars_any h2)
end
end L2
namespace L2
open PySem PySem.Spec PyProof.Rows
/-- an argument list, behind a wall: the elaborator does not look through it -/
structure PAs (X : Cx) (es : List Expr) (t : TA) : Prop where
  run : PA X es t
section
variable {X : Cx} {e o : Expr} {es : List Expr} {te to : TE} {t : TA} {pos p apos cpos : Pos} {CX : CXT} {k : Nat} {f : Addr} {fd : FuncData} {ps : List Str} {sp : Sp} {dvs : List V} {ds : List Value} {E : XK} {x name : Str} {id Ty T : String} {r : List V → Hp → VK → Prop} {rm : V → List V → Hp → VK → Prop}
theorem qa_nil : PAs X [] tNil := ⟨pa_nil⟩
theorem qa (ha : PE X e te) (hr : PAs X es t) (h : notStar e = true) : PAs X (e :: es) (tCons te t) := ⟨paN ha hr.run h⟩
theorem qe_tup {x1} (h : PAs X es t) : PE X (.Tuple es x1 pos) (tTup t) := pe_tup h.run
theorem qe_lst (h : PAs X es t) : PE X (.List es pos) (tLst t) := pe_lst h.run
theorem qe_tupA {x1} (h : PAs X es t) : PE X (.Tuple es x1 pos) (tTupA t) := pe_tupA h.run
theorem qe_lstA (h : PAs X es t) : PE X (.List es pos) (tLstA t) := pe_lstA h.run
theorem qe_call (F : FnOk X.prog X.w X.K X.mg X.base CX k f fd ps sp) (hr : Room k X.A) (hg : Gl X x) (hm : X.mg x = some (.ref f)) (hk : PySem.W.keepIn X.K (.ref f) = true) (hb : Binds X.K fd ps ds) (hd : Vals dvs ds) (hx : Passes CX X E)
    (ha : PAs X (e :: es) t) (hdb : (x == ("__debug__" : Str)) = false) (h1 : notStar e = true) (h2 : noStars es = true) : PE X (.Call (.Name x p) (e :: es) [] pos) (tCall sp dvs E t) := peN_call F hr hg hm hk hb hd hx ha.run hdb h1 h2
theorem qe_callB (hc : CallR X (.builtin id) r) (hg : Gl X x) (hm : X.mg x = none) (hv : bootBuiltins x = some (.builtin id)) (ha : PAs X (e :: es) t) (hn : x ≠ "__name__") (hdb : (x == ("__debug__" : Str)) = false)
    (h1 : notStar e = true) (h2 : noStars es = true) : PE X (.Call (.Name x p) (e :: es) [] pos) (tCB r t) := peN_callB hc hg hm hv ha.run hn hdb h1 h2
theorem qe_callTy (hc : CallR X (.type Ty) r) (hg : Gl X x) (hm : X.mg x = none) (hv : bootBuiltins x = some (.type Ty)) (ha : PAs X (e :: es) t) (hn : x ≠ "__name__") (hdb : (x == ("__debug__" : Str)) = false)
    (h1 : notStar e = true) (h2 : noStars es = true) : PE X (.Call (.Name x p) (e :: es) [] pos) (tCB r t) := peN_callTy hc hg hm hv ha.run hn hdb h1 h2
theorem qe_append (ho : PE X o to) (ha : PAs X (e :: es) t) (hbase : attributeBase o "append" X.env (eval o X.env) = eval o X.env) (h1 : notStar e = true) (h2 : noStars es = true)
    (hfew : ((backTo cpos (starEach (e :: es) X.env)).all (fun x => !x.1) && (backToKw cpos (keywordEach [] X.env)).all (fun x => x.1.isSome) && decide ((e :: es).length + ([] : List Keyword).length + (if ([] : List Keyword).isEmpty then 0 else 1) < 30)) = true)
    (hline : (apos.endLine == cpos.line) = true) : PE X (.Call (.Attribute o "append" apos) (e :: es) [] cpos) (tBM X.K "list" rAppend to t) :=
  pe_bm PySem.F.plainAttrs_list PySem.F.slot_list_append PySem.F.type_list_append mt_append ho ha.run hbase hfew hline (star_ne h1) (stars_any h2)
variable {tg a b : Expr} {ta : TA}
theorem qi_range1 (hg : Gl X "range") (hm : X.mg "range" = none) (ha : PAs X [a] ta) (h1 : notStar a = true) : PI X tg (.Call (.Name "range" p) [a] [] pos) (iRng1 ta) := pi_range1 hg hm ha.run (star_ne h1)
end
end L2
namespace L2
open PySem PySem.Spec PyProof.Rows
structure PSw (X : Cx) (st : Stmt) (t : TS) : Prop where
  run : PS X st t
structure PSsw (X : Cx) (sts : List Stmt) (t : TS) : Prop where
  run : PSs X sts t
section
variable {X : Cx} {st : Stmt} {rest body a b : List Stmt} {t u tb : TS} {e tg c iter elt target : Expr} {es ifs : List Expr} {te : TE} {tc tt : TT} {g : TG} {ta : TA} {wi : TI} {pos pos' spos : Pos} {i : Nat} {x : Str}
theorem qss_nil : PSsw X [] tNext := ⟨pss_nil⟩
theorem qss_one (h : PSw X st t) : PSsw X [st] t := ⟨pss_one h.run⟩
theorem qss_cons (h1 : PSw X st t) (h2 : PSsw X rest u) : PSsw X (st :: rest) (tSeq t u) := ⟨pss_cons h1.run h2.run⟩
theorem qs_ret (he : PE X e te) : PSw X (.Return (some e) pos) (tRet te) := ⟨ps_ret he⟩
theorem qs_if (hc : PT X c tc) (ha : PSsw X a t) (hb : PSsw X b u) : PSw X (.If c a b pos) (tIfS tc t u) := ⟨ps_if hc ha.run hb.run⟩
theorem qs_expr (he : PE X e te) (hs : swapsWith e none pos.line X.env = pure false) : PSw X (.Expr e pos) (tDrop te) := ⟨ps_expr he hs⟩
theorem qs_set (hN : X.N.Nodup) (hi : X.N[i]? = some x) (hx : Loc X.env.scope x) (he : PE X e te) (hs : swapsWith e (some (.Name x pos')) pos.line X.env = pure false) (hf : X.fn x = true ∨ X.env.scope.names.lookup x = some .local) :
    PSw X (.Assign [.Name x pos'] e pos) (tAsg te (gName i)) := ⟨ps_set hN hi hx he hs hf⟩
/-- name = [..] of many items -/
theorem qs_setLA (hN : X.N.Nodup) (hi : X.N[i]? = some x) (hx : Loc X.env.scope x) (h : PAs X es ta) (hf : X.fn x = true ∨ X.env.scope.names.lookup x = some .local) :
    PSw X (.Assign [.Name x pos'] (.List es spos) pos) (tAsg (tLstA ta) (gName i)) := ⟨ps_set hN hi hx (pe_lstA h.run) rfl hf⟩
theorem qs_asg (he : PE X e te) (hg : PG X tg g) (hs : swapsWithSole [tg] e pos.line X.env = pure false) (hw : swappedStores [tg] e X.env = pure none) (h1 : (assignEach [tg] X.env).map (·.2) = [assign tg X.env]) : PSw X (.Assign [tg] e pos) (tAsg te g) := ⟨ps_asg he hg hs hw h1⟩
theorem qs_for (hp : PassesOwn (model X.prog X.w) X.A X.env X.xe) (hc : X.calm = true) (hi : PI X tg iter wi) (hg : PG X tg g) (hb : PSsw X body tb) (hs : ∀ x, foldedSetIterable iter X.env x = pure x) : PSw X (.For tg iter body [] pos) (tFor wi g tb) := ⟨ps_for hp hc hi hg hb.run hs⟩
end
end L2
namespace L2
open PySem
theorem exW {X : Cx} {sts : List Stmt} {P : TS → Prop} (h : ∃ t, PSsw X sts t ∧ P t) : ∃ t, PSs X sts t ∧ P t := let ⟨t, h1, h2⟩ := h; ⟨t, h1.run, h2⟩
end L2

set_option maxRecDepth 100000
namespace HT
open PySem PyProof.Rows
section
open PySem.SeqAt
open PySem.AutoSeq1 (wpAny_loadPart')
open PySem.MeetsSeq PySem.MeetsSeq2 PySem.MeetsSeq3
end
section
variable {prog : Program} {w : World} {A : Around} {E : Value → Shared → Prop} {s : Shared}
end
end HT
namespace L2
open PySem PySem.Spec PyProof.Rows
def rGtT (K : PySem.W.Frag) : R2 := fun x y H Q => ∃ a b ns ms, x = .ref a ∧ y = .ref b ∧ SqT K H a (ns.map V.int) ∧ SqT K H b (ms.map V.int) ∧ Q (.bl (HT.lexLt ms ns)) H
def rIsnB : R2 := fun x y H Q => ∃ a b, x = .bl a ∧ y = .bl b ∧ Q (.bl (a != b)) H
def rIsB : R2 := fun x y H Q => ∃ a b, x = .bl a ∧ y = .bl b ∧ Q (.bl (a == b)) H
section
variable {X : Cx}
theorem on_isnB : OpR X (compareOp .IsNot) rIsnB := by
  intro pins s σ H x y v u Q I rx ry h
  obtain ⟨a, b, rfl, rfl, q⟩ := h
  cases rx
  cases ry
  exact isnot_bool (fin_bl I q rfl)
end
section
variable {H : Hp} {Q : VK} {K : PySem.W.Frag} {p q : Addr} {ns ms : List Int}
theorem rd_isnB {a b : Bool} (h : Q (.bl (a != b)) H) : rIsnB (.bl a) (.bl b) H Q := ⟨a, b, rfl, rfl, h⟩
end
def rListF (K : PySem.W.Frag) : TR := fun xs H Q => ∃ p ys, xs = [.ref p] ∧ (SqL K H p ys ∨ SqT K H p ys) ∧ ∀ l, H l = none → K.lookup l = none → Q (.ref l) (upd H l (.lst ys))
end L2
namespace L2
theorem rd_iteG {c A B : Prop} {i : Decidable c} (h : @ite Prop c i A B) : @ite Prop c i A B := h
end L2

set_option maxRecDepth 100000
namespace Mt
open PySem L2
/-! lines of places, standings -/
def stepL (pl : Int) (a : Int) (p : Int × Int) : Int := if p.2 < pl then p.1 else a
def line0 (hs : List (Int × Int)) : Int := match hs with | [] => 0 | p :: _ => p.1
def lineOf (hs : List (Int × Int)) (pl : Int) : Int := hs.foldl (stepL pl) (line0 hs)
def stand (hs : List (Int × Int)) (e : Int) : Int × Int := if 0 < e then (lineOf hs e, e) else (-1, 0)
/-! alike: the law's own comparison -/
mutual
def tupOnly : PyData → Bool
  | .none => true
  | .int _ => true
  | .str _ => true
  | .tuple es => tupOnlyAll es
  | _ => false
def tupOnlyAll : List PyData → Bool
  | [] => true
  | e :: es => tupOnly e && tupOnlyAll es
end
def isNoneD : PyData → Bool
  | .none => true
  | _ => false
def intEq (j : Int) : PyData → Bool
  | .int i => decide (i = j)
  | _ => false
def strEq (t : Str) : PyData → Bool
  | .str u => decide (u = t)
  | _ => false
def subs : PyData → Option (List PyData)
  | .tuple ds => some ds
  | _ => none
mutual
def alikeD : PyData → PyData → Bool
  | .none, d => isNoneD d
  | .int j, d => intEq j d
  | .str t, d => strEq t d
  | .tuple es, d => match subs d with
    | some ds => alikeAll es ds
    | none => false
  | _, _ => false
def alikeAll : List PyData → List PyData → Bool
  | [], ds => ds.isEmpty
  | e :: es, ds => match ds with
    | [] => false
    | d :: ds => alikeD e d && alikeAll es ds
end
end Mt

set_option maxRecDepth 100000
/-! exceptions: what flies, and how it passes a frame -/
namespace L2
open PySem PySem.Spec PyProof.Rows

/-- the object of an exception: its class, its dict; its record of stations is empty, or a record that is free of flight -/
def Aloft (N : Addr → Prop) (h : Heap) (e : Addr) (C : Value) (dx : Option Addr) (fl : Value) : Prop :=
  ∃ oe vs, h.get? e = some oe ∧ oe.cls = C ∧ oe.dict = dx ∧ oe.data = .fields vs ∧ 1 < vs.size ∧
    (vs[1]? = some .none ∧ fl = .none ∨ ∃ T oT ts, vs[1]? = some (.ref T) ∧ N T ∧ T ≠ e ∧ h.get? T = some oT ∧ oT.data = .fields ts ∧ ts[3]? = some fl)
theorem dict_mapF (o : Obj) (f : Array Value → Array Value) : (o.mapFields f).dict = o.dict := by
  obtain ⟨c, d, dt, sl⟩ := o
  cases dt <;> rfl
/-- what is kept where a station is noted: all but e and records that N names; the frames up to their slots -/
def Stn (N : Addr → Prop) (fs : List Addr) (e : Addr) (h h' : Heap) : Prop :=
  ∀ b o, b ≠ e → ¬ N b → h.get? b = some o → (∃ sl, h'.get? b = some { o with slots := sl }) ∧ (b ∉ fs → h'.get? b = some o)
theorem Stn.refl {N : Addr → Prop} {fs : List Addr} {e : Addr} {h : Heap} : Stn N fs e h h := fun b o _ _ q => ⟨⟨o.slots, q⟩, fun _ => q⟩
theorem Stn.trans {N : Addr → Prop} {fs : List Addr} {e : Addr} {h h1 h2 : Heap} (a : Stn N fs e h h1) (b : Stn N fs e h1 h2) : Stn N fs e h h2 := fun c o n1 n2 q => by
  obtain ⟨⟨sl, q1⟩, k1⟩ := a c o n1 n2 q
  obtain ⟨⟨sl2, q2⟩, _⟩ := b c _ n1 n2 q1
  exact ⟨⟨sl2, q2⟩, fun hc => (b c o n1 n2 (k1 hc)).2 hc⟩

section
variable {M : Model} {A : Around} {E : Value → Shared → Prop} {s : Shared} {N : Addr → Prop} {base : Heap} {env : Env} {outer : List Env} {L e : Addr} {C : Value} {dx : Option Addr}

theorem stn_turn {T : Addr} {f : Obj → Obj} {h : Heap} (hN : N T) : Stn N fs e h (h.update T f) := fun b o n1 n2 q => by
  have : T ≠ b := fun z => n2 (z ▸ hN)
  exact ⟨⟨o.slots, (Heap.get?_update_other _ _ this).trans q⟩, fun _ => (Heap.get?_update_other _ _ this).trans q⟩

/-- one more station -/
theorem mark_on {head : Value} {hadNext : Bool} {oe : Obj} {vs : Array Value} {Q : Unit → Shared → Prop} (hA : A.frames = some (env :: outer)) (hF : s.heap.FunFrames base (env :: outer)) (hL : env.frame = some L)
    (new : ∀ b, s.heap.objs.size ≤ b → N b) (nf : ∀ b ∈ frs (env :: outer), b ≠ e ∧ ¬ N b) (q0 : s.heap.get? e = some oe) (q1 : oe.cls = C) (q2 : oe.dict = dx) (q3 : oe.data = .fields vs) (q4 : 1 < vs.size)
    (k : ∀ h', Aloft N h' e C dx (rawInt L) → Stn N (frs (env :: outer)) e s.heap h' → h'.FunFrames base (env :: outer) → Q () { s with heap := h' }) :
    wpAny M A (do setField (.ref e) 1 (← EntryCells.newEntry head (← frameOf env) .none (rawInt L) .none (← entryPlaceOf L hadNext))) Q E s := by
  refine wpAny_bind (wpAny_frameOf_fun hA hF hL fun g x => ?_)
  refine wpAny_bind (wpAny_entryPlaceOf fun pl p => ?_)
  have k1 : g.get? e = some oe := (x.2.1 e fun z => (nf e z).1 rfl).trans q0
  have z1 : g.objs.size = s.heap.objs.size := x.1
  unfold EntryCells.newEntry newFields
  refine wpAny_bind (wpAny_newObj_type ?_ (p.sizeOk5 _ _ _ _ _))
  generalize hob : ({ cls := .type "traceback", dict := none, data := .fields ([head, .ref L, .none, rawInt L, .none] ++ (if pl.isEmpty then List.replicate 6 Value.none else pl)).toArray } : Obj) = ob
  have k2 := Heap.get?_push_of_some (h := g) ob k1
  have eT : g.objs.size ≠ e := Nat.ne_of_gt (Heap.lt_size k1)
  have obf : ob.isFreed = false := by rw [← hob]; rfl
  have t2 : (g.push ob).get? g.objs.size = some ob := Heap.get?_push_size g obf
  refine wpAny_setField k2 q3 q4 (k _ ?_ ?_ ?_)
  · have d3 := Obj.data_mapFields q3 (·.setIfInBounds 1 (Value.ref g.objs.size))
    refine ⟨_, _, Heap.get?_update_self _ k2 (Obj.isFreed_of_fields d3), (Obj.cls_mapFields _ _).trans q1, (dict_mapF _ _).trans q2, d3, by simpa using q4, .inr ⟨g.objs.size, ob, _, by simp [q4], new _ (by omega), eT, (Heap.get?_update_other _ _ (Ne.symm eT)).trans t2, by rw [← hob], ?_⟩⟩
    first | (simp; done) | (rcases p with rfl | ⟨_, _, _, _, _, _, _, rfl⟩ <;> simp)
  · intro b o n1 n2 q
    have nT : g.objs.size ≠ b := by rw [z1]; exact Nat.ne_of_gt (Heap.lt_size q)
    obtain ⟨sl, r⟩ := x.2.2 b o q
    exact ⟨⟨sl, (Heap.get?_update_other _ _ (Ne.symm n1)).trans (Heap.get?_push_of_some _ r)⟩, fun nb => (Heap.get?_update_other _ _ (Ne.symm n1)).trans (Heap.get?_push_of_some _ ((x.2.1 b nb).trans q))⟩
  · have hg := hF.of_slotsOnly x
    refine hg.of_keeps fun b o q nd => ?_
    by_cases hb : b = e
    · subst hb
      rw [k1] at q; cases q
      exact absurd q3 (nd vs)
    · exact ⟨o, (Heap.get?_update_other _ _ (Ne.symm hb)).trans (Heap.get?_push_of_some _ q), rfl⟩
theorem frames_turn {T : Addr} {oT : Obj} {ts : Array Value} {f : Obj → Obj} {h : Heap} (q : h.get? T = some oT) (hd : oT.data = .fields ts) (hF : h.FunFrames base l) : (h.update T f).FunFrames base l :=
  hF.of_keeps fun b o r nd => by
    have : T ≠ b := fun z => by subst z; rw [q] at r; cases r; exact nd ts hd
    exact ⟨o, (Heap.get?_update_other _ _ this).trans r, rfl⟩

theorem land {l : List Env} {fl : Value} {Q : Unit → Shared → Prop} (hF : s.heap.FunFrames base l) (a : Aloft N s.heap e C dx fl)
    (k : ∀ h', Aloft N h' e C dx .none → Stn N fs e s.heap h' → h'.FunFrames base l → Q () { s with heap := h' }) : wpAny M A (setFlight (.ref e) none) Q E s := by
  obtain ⟨oe, vs, q0, q1, q2, q3, q4, r⟩ := a
  unfold setFlight
  rcases r with ⟨r, _⟩ | ⟨T, oT, ts, r1, r2, r3, r4, r5, r6⟩
  · refine wpAny_bind (wpAny_field q0 q3 r ?_)
    rw [if_neg (by decide)]
    exact wpAny_pure (k s.heap ⟨oe, vs, q0, q1, q2, q3, q4, .inl ⟨r, rfl⟩⟩ Stn.refl hF)
  · refine wpAny_bind (wpAny_field q0 q3 r1 ?_)
    rw [if_pos (by simp)]
    have h3 : 3 < ts.size := (Array.getElem?_eq_some_iff.mp r6).1
    refine wpAny_setField r4 r5 h3 (k _ ⟨oe, vs, (Heap.get?_update_other _ _ r3).trans q0, q1, q2, q3, q4, .inr ⟨T, _, _, r1, r2, r3, Heap.get?_update_self _ r4 (Obj.isFreed_of_fields (Obj.data_mapFields r5 _)), Obj.data_mapFields r5 _, by simp [h3]⟩⟩ (stn_turn r2) (frames_turn r4 r5 hF))

theorem note_on {Q : Unit → Shared → Prop} (hA : A.frames = some (env :: outer)) (hF : s.heap.FunFrames base (env :: outer)) (hL : env.frame = some L)
    (new : ∀ b, s.heap.objs.size ≤ b → N b) (nf : ∀ b ∈ frs (env :: outer), b ≠ e ∧ ¬ N b) (a : Aloft N s.heap e C dx .none)
    (k : ∀ h', Aloft N h' e C dx (rawInt L) → Stn N (frs (env :: outer)) e s.heap h' → h'.FunFrames base (env :: outer) → Q () { s with heap := h' }) : wpAny M A (noteFrame (.ref e) env) Q E s := by
  obtain ⟨oe, vs, q0, q1, q2, q3, q4, r⟩ := a
  unfold noteFrame
  simp only [hL]
  rcases r with ⟨r, _⟩ | ⟨T, oT, ts, r1, r2, r3, r4, r5, r6⟩
  · refine wpAny_bind (wpAny_field q0 q3 r ?_)
    rw [if_neg (by decide)]
    exact mark_on hA hF hL new nf q0 q1 q2 q3 q4 k
  · refine wpAny_bind (wpAny_field q0 q3 r1 ?_)
    rw [if_pos (by simp)]
    refine wpAny_bind (wpAny_field r4 r5 r6 ?_)
    rw [if_neg (by simp [rawInt])]
    have h3 : 3 < ts.size := (Array.getElem?_eq_some_iff.mp r6).1
    refine wpAny_bind (wpAny_setField r4 r5 h3 ?_)
    refine mark_on (s := { s with heap := s.heap.update T (Obj.mapFields (·.setIfInBounds 3 Value.none)) }) hA (frames_turn r4 r5 hF) hL (fun b z => new b ?_) nf ((Heap.get?_update_other _ _ r3).trans q0) q1 q2 q3 q4 fun h' a1 a2 a3 => k h' a1 ((stn_turn r2).trans a2) a3
    simpa using z

theorem leave_on {Q : Unit → Shared → Prop} (hA : A.frames = some (env :: outer)) (hF : s.heap.FunFrames base (env :: outer)) (hL : env.frame = some L)
    (new : ∀ b, s.heap.objs.size ≤ b → N b) (nf : ∀ b ∈ frs (env :: outer), b ≠ e ∧ ¬ N b) (a : Aloft N s.heap e C dx .none)
    (k : ∀ h', Aloft N h' e C dx .none → Stn N (frs (env :: outer)) e s.heap h' → Q () { s with heap := h' }) : wpAny M A (leaving env (.ref e)) Q E s := by
  unfold leaving
  refine wpAny_bind (note_on hA hF hL new nf a fun h1 a1 a2 a3 => ?_)
  exact land (s := { s with heap := h1 }) a3 a1 fun h2 b1 b2 _ => k h2 b1 (a2.trans b2)
end
end L2

set_option maxRecDepth 100000
namespace L2
open PySem PySem.Spec PyProof.Rows

/-- made since h₀ and not tracked -/
def Since (h₀ : Heap) (H : Hp) (b : Addr) : Prop := h₀.get? b = none ∧ H b = none
/-- how an exception lies behind a call -/
def CX1 (P : Program) (w : World) : CXT := fun outer H s E e s' =>
  ∃ (a : Addr) (C : Value) (dx : Option Addr) (H' : Hp), e = .ref a ∧ s'.os = s.os ∧ AllBare s'.gens ∧ Un (frs outer) [] H H' s.heap s'.heap ∧ HOk P w H' s'.heap ∧ Since s.heap H' a ∧ Aloft (Since s.heap H') s'.heap a C dx .none ∧ E C dx H'
theorem Aloft.mono {N N' : Addr → Prop} {h : Heap} {e : Addr} {C : Value} {dx : Option Addr} {fl : Value} (a : Aloft N h e C dx fl) (k : ∀ b, N b → N' b) : Aloft N' h e C dx fl := by
  obtain ⟨oe, vs, q0, q1, q2, q3, q4, r⟩ := a
  refine ⟨oe, vs, q0, q1, q2, q3, q4, ?_⟩
  rcases r with r | ⟨T, oT, ts, r1, r2, r⟩
  · exact .inl r
  · exact .inr ⟨T, oT, ts, r1, k _ r2, r⟩
theorem since_of {P : Program} {w : World} {H H' : Hp} {h h' : Heap} {fs : List Addr} (u : Un fs [] H H' h h') (hok : HOk P w H' h') : ∀ b, h'.objs.size ≤ b → Since h H' b := fun b z => by
  refine ⟨?_, hok.fresh z⟩
  cases q : h.get? b with
  | none => rfl
  | some o =>
    obtain ⟨o', q'⟩ := u.there b o q (by simp)
    exact absurd (Nat.lt_of_lt_of_le (Heap.lt_size q') z) (Nat.lt_irrefl _)
theorem hok_stn {P : Program} {w : World} {H : Hp} {h h' : Heap} {N : Addr → Prop} {fs : List Addr} {e : Addr} (hok : HOk P w H h) (st : Stn N fs e h h') (hN : ∀ b, N b → H b = none) (he : H e = none) (hf : ∀ b ∈ fs, H b = none) : HOk P w H h' := fun a o q =>
  (hok a o q).stay (fun b u hb r => by
    have nb : H b ≠ none := by
      rcases hb with rfl | hb
      · rw [q]; simp
      · rw [hb]; simp
    exact (st b u (fun z => nb (z ▸ he)) (fun z => nb (hN b z)) r).2 fun z => nb (hf b z)) (fun _ q => q) fun _ _ q => q

section
variable {P : Program} {w : World} {X : Cx} {pins : List (Addr × Obj)} {σ : St} {H H' : Hp} {s s' : Shared} {e : Addr} {C : Value} {dx : Option Addr}
/-- what of this frame is kept where a station is noted -/
theorem Inv.stn {h' : Heap} (I : Inv X pins σ H s) (st : Stn N (frs X.stack) e s.heap h') (hN : ∀ b, N b → H b = none ∧ s₁.heap.get? b = none) (he : H e = none ∧ s₁.heap.get? e = none)
    (I₁ : Inv X pins σ H₁ s₁) (un : Un (frs X.stack) [] H₁ H s₁.heap s.heap) : Inv X pins σ H { s with heap := h' } := by
  have k : ∀ b o, s₁.heap.get? b = some o → ∀ o', s.heap.get? b = some o' → (∃ sl, h'.get? b = some { o' with slots := sl }) ∧ (b ∉ frs X.stack → h'.get? b = some o') := fun b o q o' q' =>
    st b o' (fun z => by rw [z, he.2] at q; cases q) (fun z => by rw [(hN b z).2] at q; cases q) q'
  have hu : Un (frs X.stack) [] H₁ H s₁.heap h' := by
    refine ⟨fun b o q n hb hx => ?_, fun b o q n hb hx => ?_, un.free, fun b o q hx => ?_, un.tups, un.frzs, un.tbls⟩
    · exact (k b o q o (un.keep b o q n hb hx)).2 hb
    · obtain ⟨sl, r⟩ := un.slot b o q n hb hx
      exact (k b o q _ r).1
    · obtain ⟨o', r⟩ := un.there b o q hx
      obtain ⟨sl, r2⟩ := (k b o q o' r).1
      exact ⟨_, r2⟩
  have ok : HOk X.prog X.w H h' := hok_stn I.hok st (fun b z => (hN b z).1) he.1 I.stkFree
  obtain ⟨hh, g, d, t, os⟩ := s
  have e1 : os = s₁.os := I.os.trans I₁.os.symm
  subst e1
  have fin := Inv.call (s := s₁) (h' := h') (g' := g) (t' := t) (d' := d) (ch := []) I₁ hu ok I.bare (fun b z => absurd z (by simp))
  exact fin

theorem Inv.cx1 (I : Inv X pins σ H s) (h : Un (frs X.stack) [] H H' s.heap s'.heap) (ho : s'.os = s.os) (hb : AllBare s'.gens) (hk : HOk X.prog X.w H' s'.heap) : Inv X pins σ H' s' := by
  obtain ⟨hh, g, d, t, os'⟩ := s'
  obtain rfl : os' = s.os := ho
  exact I.call (h' := hh) (g' := g) (d' := d) (t' := t) (ch := []) h hk hb (fun b z => absurd z (by simp))
/-- the frames are none of the new things -/
theorem Inv.nfr (I : Inv X pins σ H s) (he : s.heap.get? e = none) : ∀ b ∈ frs X.stack, b ≠ e ∧ ¬ Since s.heap H' b := fun b hb => by
  obtain ⟨_, o, q, _⟩ := I.stack.mem hb
  exact ⟨fun z => (by rw [z, he] at q; cases q), fun z => (by rw [z.1] at q; cases q)⟩
end

/-- an exception that leaves a def's body -/
theorem pass1 {P : Program} {w : World} {K : PySem.W.Frag} {mg : Str → Option Value} {base : Heap} {N : List Str} {qual : Str} {scope : Scope} {f : Addr} {cd : Value} {A : Around} {outer : List Env} {s₀ : Shared} {H₀ : Hp} {E : XK} :
    Passes (CX1 P w) (cxOf (CX1 P w) P w K mg base N qual scope f cd A outer s₀ H₀ E) E := by
  intro pins σ H s e s' I h
  obtain ⟨a, C, dx, H', rfl, o1, b1, un, hok, na, al, q⟩ := h
  have J := I.cx1 un o1 b1 hok
  refine leave_on (N := Since s.heap H') (base := base) (outer := outer) (L := s₀.heap.objs.size) I.ok.frames J.stack rfl (since_of un hok) (I.nfr na.1) al fun h' al' st => ?_
  have J2 : Inv (cxOf (CX1 P w) P w K mg base N qual scope f cd A outer s₀ H₀ E) pins σ H' { s' with heap := h' } := J.stn (s₁ := s) (H₁ := H) st (fun b z => ⟨z.2, z.1⟩) ⟨na.2, na.1⟩ I un
  have old : ∀ b, s.heap.get? b = none → s₀.heap.get? b = none := fun b z => by
    cases r : s₀.heap.get? b with
    | none => rfl
    | some o =>
      obtain ⟨o', r'⟩ := I.base.there b o r (by show b ∉ ([] : List Addr); simp)
      rw [z] at r'; cases r'
  exact ⟨a, C, dx, H', rfl, J2.os, J2.bare, J2.base, J2.hok, ⟨old a na.1, na.2⟩, al'.mono fun b z => ⟨old b z.1, z.2⟩, q⟩
end L2

set_option maxRecDepth 100000
namespace L2
open PySem PySem.Spec PyProof.Rows

/-- what an exception is wanted to be, by the locals where it comes up -/
def Px (X : Cx) (XR : St → XK) : Prop := ∀ (pins : List (Addr × Obj)) (σ : St) (H : Hp) (s : Shared) (e : Value) (s' : Shared), Inv X pins σ H s → CX1 X.prog X.w X.stack H s (XR σ) e s' → X.xe e s'
theorem px1 {P : Program} {w : World} {K : PySem.W.Frag} {mg : Str → Option Value} {base : Heap} {N : List Str} {qual : Str} {scope : Scope} {f : Addr} {cd : Value} {A : Around} {outer : List Env} {s₀ : Shared} {H₀ : Hp} {E : XK} :
    Px (cxOf (CX1 P w) P w K mg base N qual scope f cd A outer s₀ H₀ E) (fun _ => E) := fun pins σ H s e s' I h => pass1 pins σ H s e s' I h

def tCallX (sp : Sp) (dvs : List V) (XR : St → XK) (t : TA) : TE := fun σ H Q => t σ H fun vs H1 => sp (vs ++ dvs) H1 Q (XR σ)
section
variable {X : Cx} {e : Expr} {es : List Expr} {t : TA} {pos p : Pos} {k : Nat} {f : Addr} {fd : FuncData} {ps : List Str} {sp : Sp} {dvs : List V} {ds : List Value} {XR : St → XK} {x : Str}
theorem run_fnX {pins : List (Addr × Obj)} {σ : St} {H : Hp} {s : Shared} {Q : VK} {us : List Value} {vs : List V} (F : FnOk X.prog X.w X.K X.mg X.base (CX1 X.prog X.w) k f fd ps sp) (hr : Room k X.A) (hb : Binds X.K fd ps ds) (hd : Vals dvs ds) (hx : Px X XR)
    (I : Inv X pins σ H s) (r : Vals vs us) (h : sp (vs ++ dvs) H Q (XR σ)) : wpAny (model X.prog X.w) X.A (call (.ref f) us) (EP X pins σ Q) X.xe s := by
  have r2 : Vals (vs ++ dvs) (us ++ ds) := r.append hd
  have hl : (us ++ ds).length = ps.length := by rw [← r2.length]; exact F.len _ _ _ _ h
  refine wpAny_call (codeAny_mono (F.run X.A X.stack s H ⟨us, []⟩ (us ++ ds) (vs ++ dvs) Q (XR σ) hr I.env0 (hb s us I.kIn hl) r2 h) fun r s' hq => ?_)
  cases r with
  | error e => exact hx pins σ H s e s' I hq
  | ok fl =>
    cases fl with
    | ret u => exact I.after hq
    | next => exact False.elim hq
    | brk => exact False.elim hq
    | cont => exact False.elim hq
theorem qe_callX (F : FnOk X.prog X.w X.K X.mg X.base (CX1 X.prog X.w) k f fd ps sp) (hr : Room k X.A) (hg : Gl X x) (hm : X.mg x = some (.ref f)) (hk : PySem.W.keepIn X.K (.ref f) = true) (hb : Binds X.K fd ps ds) (hd : Vals dvs ds) (hx : Px X XR)
    (ha : PAs X (e :: es) t) (hdb : (x == ("__debug__" : Str)) = false) (h1 : notStar e = true) (h2 : noStars es = true) : PE X (.Call (.Name x p) (e :: es) [] pos) (tCallX sp dvs XR t) := by
  intro pins s σ H Q I h
  refine wpAny_Call_Name_kw (ld_glob I hg hm ?_ hdb)
  refine PySem.W.callWith_K (h₀ := X.base) I.ok.mod.kin hk (thn (ha.run pos pins s σ H _ I h) fun us s1 ⟨vs, H1, I1, r, q⟩ => ⟨I1.kIn, ?_⟩) (star_ne h1) (stars_any h2)
  exact run_fnX F hr hb hd hx I1 r q
end

/-- a def whose exceptions are told -/
theorem Fun.okX {P : Program} {w : World} {K : PySem.W.Frag} {mg : Str → Option Value} {base : Heap} {x qual : Str} {st : Stmt} {f : Addr} {fd : FuncData} {N ps : List Str} {k : Nat} {sp : Sp} (F : Fun K x qual st f fd) (S : FnScope N ps (defScope st)) (len : ∀ vs H Q E, sp vs H Q E → vs.length = ps.length)
    (hbody : ∀ (cdv : Value) (A : Around) (outer : List Env) (s : Shared) (H : Hp) (vs : List V) (Q : VK) (E : XK), Room k (A.deeper (envOfC qual (defScope st) s.heap.objs.size f cdv)) → sp vs H Q E →
      ∃ t, PSs (cxOf (CX1 P w) P w K mg base N qual (defScope st) f cdv A outer s H E) (defBody st) t ∧ t { nx := fun _ H' => Q .non H', rt := Q } (start N vs) H) : FnOk P w K mg base (CX1 P w) (k + 1) f fd ps sp := by
  obtain ⟨oc, od, kV, doc, pm, an, cdv, ct, osl, rfl, lk, hcd⟩ := F.ex
  exact fn_of lk hcd S len fun A outer s H vs Q E hr hsp => hbody cdv A outer s H vs Q E hr hsp

/-! ### try -/
/-- within a try's body -/
def Cx.tr (X : Cx) (xe' : Value → Shared → Prop) (pn' : List (Addr × Obj)) : Cx := { X with xe := xe', pn := X.pn ++ pn' }
/-- within an except suite -/
def Cx.su (X : Cx) (e : Addr) : Cx := { X with A := X.A.mark (some (.ref e)), calm := false, xe := fun _ _ => False }
section
variable {X : Cx} {pins pins' pn' : List (Addr × Obj)} {σ : St} {H : Hp} {s : Shared} {xe' : Value → Shared → Prop} {e : Addr}
theorem Cx.Ok.tr (ok : X.Ok) : (X.tr xe' pn').Ok := ⟨ok.mod, ok.kind, ok.glob, ok.blt, ok.above, ok.inj, ok.has, ok.cab, ok.hd, ok.frames, ok.stk, ok.exf, ok.bs, ok.bsz, ok.noex, ok.exfs, ok.funs, ok.frf⟩
theorem Cx.Ok.su (ok : X.Ok) : (X.su e).Ok := ⟨ok.mod, ok.kind, ok.glob, ok.blt, ok.above, ok.inj, ok.has, ok.cab, fun z => (by cases z), ok.frames, ok.stk, ok.exf, ok.bs, ok.bsz, ok.noex, ok.exfs, ok.funs, ok.frf⟩
theorem Inv.tr (I : Inv X pins σ H s) : Inv (X.tr xe' pins) [] σ H s := ⟨I.ok.tr, I.os, I.bare, I.base, I.loc, I.cell, I.free, I.freeC, fun p hp => I.pin p (by simpa [Cx.tr] using hp), I.hok, I.len⟩
theorem Inv.untr (ok : X.Ok) (I : Inv (X.tr xe' pins) pins' σ H s) : Inv X pins σ H s := ⟨ok, I.os, I.bare, I.base, I.loc, I.cell, I.free, I.freeC, fun p hp => I.pin p (List.mem_append_left _ hp), I.hok, I.len⟩
theorem Inv.su (I : Inv X pins σ H s) : Inv (X.su e) pins σ H s := ⟨I.ok.su, I.os, I.bare, I.base, I.loc, I.cell, I.free, I.freeC, I.pin, I.hok, I.len⟩
theorem Inv.unsu (ok : X.Ok) (I : Inv (X.su e) pins σ H s) : Inv X pins σ H s := ⟨ok, I.os, I.bare, I.base, I.loc, I.cell, I.free, I.freeC, I.pin, I.hok, I.len⟩
/-- a name is gone -/
theorem Inv.gone {h' : Heap} {m : Str → Option Value} {v : Option Value} {i : Nat} {x : Str} {t' : Nat} (I : Inv X pins σ H s) (hN : X.N.Nodup) (hi : X.N[i]? = some x) (hn : s.heap.Ns X.env.locals m) (hm : ∀ (i : Nat) (y : Str) (v : V), X.N[i]? = some y → σ[i]? = some (some v) → Vis X.env.scope y → ∃ u, RelV v u ∧ Look X.env s.heap m y u)
    (hn' : h'.Ns X.env.locals (fun y => if y = x then v else m y)) (sb : Heap.SameBut X.env.locals s.heap h') : Inv X pins (σ.set i none) H { s with heap := h', toks := t' } := by
  have hL : ∃ o, s.heap.get? X.env.locals = some o ∧ H X.env.locals = none := by
    obtain ⟨o, _, _, ho, _⟩ := id hn
    exact ⟨o, ho, I.free⟩
  have old : ∀ b o, X.s₀.heap.get? b = some o → b ≠ X.env.locals := fun b o z => Nat.ne_of_lt (Nat.lt_of_lt_of_le (Heap.lt_size z) I.ok.above)
  refine ⟨I.ok, I.os, I.bare, ⟨fun b o z n hb hx => (sb.2 b (old b o z)).trans (I.base.keep b o z n hb hx), fun b o z n hb hx => ?_, I.base.free, fun b o z hx => ?_, I.base.tups, I.base.frzs, I.base.tbls⟩, ⟨_, hn', fun j y v' e1 e2 e3 => ?_⟩, fun y c z => ?_, I.free, I.freeC, fun p hp => ?_, fun b ob z => ?_, by simpa using I.len⟩
  · obtain ⟨sl, q⟩ := I.base.slot b o z n hb hx
    exact ⟨sl, (sb.2 b (old b o z)).trans q⟩
  · obtain ⟨o', q⟩ := I.base.there b o z hx
    exact ⟨o', (sb.2 b (old b o z)).trans q⟩
  · by_cases hj : j = i
    · subst hj
      have hlt : j < σ.length := by rw [I.len]; exact (List.getElem?_eq_some_iff.mp hi).1
      rw [List.getElem?_set_self hlt] at e2
      cases e2
    · rw [List.getElem?_set_ne (Ne.symm hj)] at e2
      obtain ⟨u, r, l⟩ := hm j y v' e1 e2 e3
      refine ⟨u, r, ?_⟩
      rcases l with ⟨k, q⟩ | ⟨k, c, q, z⟩
      · have : y ≠ x := fun z => hj (nodup_ix hN e1 (z ▸ hi))
        exact .inl ⟨k, by simp [this, q]⟩
      · exact .inr ⟨k, c, q, z.sameBut sb (I.cne y c q)⟩
  · obtain ⟨w', q⟩ := I.cell y c z
    exact ⟨w', q.sameBut sb (I.cne y c z)⟩
  · obtain ⟨q, n, ne, nf, d⟩ := I.pin p hp
    exact ⟨(sb.2 p.1 ne).trans q, n, ne, nf, d⟩
  · refine (I.hok b ob z).stay (fun c w' hc q => (sb.2 c ?_).trans q) (fun _ q => q) fun _ _ q => q
    rintro rfl
    rcases hc with rfl | hc
    · rw [I.free] at z; cases z
    · rw [I.free] at hc; cases hc
end
end L2

set_option maxRecDepth 100000
namespace L2
open PySem PySem.Spec PyProof.Rows
/-- an exception that was caught -/
def ExcIs (a : Addr) (C : Value) (dx : Option Addr) (h : Heap) : Prop := ∃ oe vs, h.get? a = some oe ∧ oe.cls = C ∧ oe.dict = dx ∧ oe.data = .fields vs
theorem ExcIs.ok {P : Program} {w : World} {H : Hp} {h : Heap} {a : Addr} {C : Value} {dx : Option Addr} (x : ExcIs a C dx h) : ObjOk P w H h a (.ext (ExcIs a C dx)) := by
  obtain ⟨oe, vs, q, r⟩ := id x
  refine ⟨x, ⟨oe, q⟩, fun h1 h2 ⟨oe', vs', q', r'⟩ k => ⟨oe', vs', k _ q', r'⟩⟩
/-- what is wanted behind the suite: the name is gone -/
def Ends.un (D : Ends) (i : Nat) : Ends := { nx := fun σ2 H2 => D.nx (σ2.set i none) H2, rt := D.rt, bk := fun σ2 H2 => D.bk (σ2.set i none) H2, ct := fun σ2 H2 => D.ct (σ2.set i none) H2 }
def tTry (K : PySem.W.Frag) (B : Addr) (i : Nat) (tb : (St → XK) → TS) (ts : TS) : TS := fun D σ H =>
  tb (fun σ' C dx H' => PySem.W.exmOne K C (.ref B) = some true ∧ ∀ a, H' a = none → ts (D.un i) (σ'.set i (some (.ref a))) (upd H' a (.ext (ExcIs a C dx)))) D σ H

theorem looks_cls {M : Model} {h : Heap} {e : Addr} {oe : Obj} (q : h.get? e = some oe) : PySem.W.Looks M h (typeOf (.ref e)) oe.cls := by
  intro A Q E s k z
  unfold typeOf
  exact wpAny_bind (wpAny_loadPart (k _ _ q) (wpAny_pure z))
theorem aloft_is {N : Addr → Prop} {h : Heap} {e : Addr} {C : Value} {dx : Option Addr} {fl : Value} (a : Aloft N h e C dx fl) : ExcIs e C dx h := by
  obtain ⟨oe, vs, q0, q1, q2, q3, _⟩ := a
  exact ⟨oe, vs, q0, q1, q2, q3⟩
/-- an object that nobody knew is tracked -/
theorem Inv.trackE {X : Cx} {pins : List (Addr × Obj)} {σ : St} {H : Hp} {s : Shared} {a : Addr} {o : HO} (I : Inv X pins σ H s) (hn : H a = none) (n0 : X.s₀.heap.get? a = none) (n1 : a ≠ X.env.locals) (n2 : ∀ x c, X.env.cells.lookup x = some c → c ≠ a) (n3 : ∀ p ∈ X.pn ++ pins, p.1 ≠ a)
    (new : ObjOk X.prog X.w (upd H a o) s.heap a o) : Inv X pins σ (upd H a o) s := by
  have ne : ∀ b u, H b = some u → b ≠ a := fun b u q z => by rw [z, hn] at q; cases q
  refine ⟨I.ok, I.os, I.bare, ⟨I.base.keep, I.base.slot, fun b u q n hx => ?_, I.base.there, fun b xs q => ?_, fun b u xs q => ?_, fun b ps q => ?_⟩, I.loc, I.cell, ?_, fun y c q => ?_, fun p hp => ?_, fun b u q => ?_, I.len⟩
  · rw [upd_ne (fun z => by rw [z, n0] at q; cases q)]; exact I.base.free b u q n hx
  · rw [upd_ne (ne _ _ (I.base.tups b xs q))]; exact I.base.tups b xs q
  · rw [upd_ne (ne _ _ (I.base.frzs b u xs q))]; exact I.base.frzs b u xs q
  · obtain ⟨m, r⟩ := I.base.tbls b ps q
    exact ⟨m, by rw [upd_ne (ne _ _ r)]; exact r⟩
  · rw [upd_ne (Ne.symm n1)]; exact I.free
  · rw [upd_ne (n2 y c q)]; exact I.freeC y c q
  · obtain ⟨q, n, r⟩ := I.pin p hp
    exact ⟨q, by rw [upd_ne (n3 p hp)]; exact n, r⟩
  · by_cases hb : b = a
    · subst hb; rw [upd_same] at q; cases q; exact new
    · rw [upd_ne hb] at q
      exact (I.hok b u q).stay (fun c v _ r => r) (fun c r => by rw [upd_ne (ne _ _ r)]; exact r) fun c xs r => by rw [upd_ne (ne _ _ r)]; exact r
section
variable {X : Cx} {b₀ : Stmt} {body suite : List Stmt} {c x : Str} {p hp pos : Pos} {B : Addr} {i : Nat} {tb : (St → XK) → TS} {ts : TS}
theorem ps_try (hN : X.N.Nodup) (hi : X.N[i]? = some x) (hx : X.env.scope.names.lookup x = some .local) (hg : Gl X c) (hm : X.mg c = some (.ref B)) (hst : X.stack = X.env :: X.outer) (hfr : X.env.frame = some X.env.locals) (hex : X.ex = [])
    (hb : ∀ (xe' : Value → Shared → Prop) (pn' : List (Addr × Obj)) (XR : St → XK), Px (X.tr xe' pn') XR → PSs (X.tr xe' pn') body (tb XR)) (hs : ∀ e : Addr, PSs (X.su e) (b₀ :: suite) ts) (hdb : (c == ("__debug__" : Str)) = false) :
    PS X (.Try body [.ExceptHandler (some (.Name c p)) (some x) (b₀ :: suite) hp] [] [] pos) (tTry X.K B i tb ts) := by
  intro pins s σ H D I h
  refine wpAny_Try_except ?_
  refine wpAny_mono (hb _ pins _ ?_ [] s σ H D I.tr h) (fun f s1 q => ?_) (fun e s1 q => q)
  · intro pins' σ1 H1 s1 ev s2 I1 hq
    obtain ⟨a, C, dx, H2, rfl, o1, b1, un, hok, na, al, hm1, hk⟩ := hq
    have J := I1.cx1 un o1 b1 hok
    have un' : Un (frs X.stack) [] H1 H2 s1.heap s2.heap := un
    show wpAny (model X.prog X.w) X.A (noteFrame (.ref a) X.env) (fun _ s₂ => wpAny (model X.prog X.w) X.A (setFlight (.ref a) none) (fun _ s₃ => wpAny (model X.prog X.w) X.A (handleBy (.ref a) X.env [.ExceptHandler (some (.Name c p)) (some x) (b₀ :: suite) hp]) (SP X pins D) X.xe s₃) X.xe s₂) X.xe s2
    have Jst : s2.heap.FunFrames X.base (X.env :: X.outer) := by rw [← hst]; exact J.stack
    have nf : ∀ b ∈ frs (X.env :: X.outer), b ≠ a ∧ ¬ Since s1.heap H2 b := by rw [← hst]; exact I1.nfr na.1
    refine note_on (N := Since s1.heap H2) (base := X.base) (outer := X.outer) (L := X.env.locals) (by rw [← hst]; exact I.ok.frames) Jst hfr (since_of un hok) nf al fun h3 al3 st3 ff3 => ?_
    refine land (s := { s2 with heap := h3 }) (fs := frs (X.env :: X.outer)) ff3 al3 fun h4 al4 st4 ff4 => ?_
    have st34 := st3.trans st4
    -- the state ahead of the handler
    have mk : ∀ {h5 : Heap} {t5 : Nat}, Stn (Since s1.heap H2) (frs (X.env :: X.outer)) a s2.heap h5 → Inv (X.tr (X.tr X.xe []).xe pins) pins' σ1 H2 { s2 with heap := h5, toks := t5 } := fun {h5 t5} st => by
      have st' : Stn (Since s1.heap H2) (frs X.stack) a s2.heap h5 := by rw [hst]; exact st
      have z := J.stn (s₁ := s1) (H₁ := H1) (N := Since s1.heap H2) st' (fun b z => ⟨z.2, z.1⟩) ⟨na.2, na.1⟩ I1 un
      have z2 := z.tok t5
      exact ⟨I.ok.tr, z2.os, z2.bare, z2.base, z2.loc, z2.cell, z2.free, z2.freeC, z2.pin, z2.hok, z2.len⟩
    have I4 : Inv X pins σ1 H2 { s2 with heap := h4 } := (mk (t5 := s2.toks) st34).untr I.ok
    refine wpAny_handleBy_cons (codeAny_handlers_test ?_) (by intro q; cases q)
    refine ld_glob (I4.su (e := a)) hg hm ?_ hdb
    obtain ⟨oe, vs, q0, q1, q2, q3, _⟩ := id al4
    refine (PySem.W.exm_one (K := X.K) I4.kIn (by rw [← q1]; exact looks_cls q0) hm1).here ?_
    show codeAny _ _ _ _ _
    refine codeAny_handlers_suite_as ?_
    refine land (s := { s2 with heap := h4 }) (fs := frs (X.env :: X.outer)) ff4 al4 fun h5 al5 st5 ff5 => ?_
    have I5 : Inv X pins σ1 H2 { s2 with heap := h5 } := (mk (t5 := s2.toks) (st34.trans st5)).untr I.ok
    have n1 : a ≠ X.env.locals := fun z => by
      obtain ⟨m, ⟨o, _, _, ho, _⟩, _⟩ := I1.loc
      have ho' : s1.heap.get? X.env.locals = some o := ho
      rw [← z, na.1] at ho'; cases ho'
    have I6 : Inv X pins σ1 (upd H2 a (.ext (ExcIs a C dx))) { s2 with heap := h5 } := by
      refine I5.trackE na.2 ?_ n1 (fun y e hc z => ?_) (fun q hq z => ?_) (aloft_is al5).ok
      · cases r : X.s₀.heap.get? a with
        | none => rfl
        | some o =>
          obtain ⟨o', r'⟩ := I1.base.there a o r (by show a ∉ X.ex; rw [hex]; simp)
          rw [na.1] at r'; cases r'
      · obtain ⟨v, o, ho, _⟩ := I1.cell y e hc
        rw [z, na.1] at ho; cases ho
      · have r := (I1.pin q (List.mem_append_left _ hq)).1
        rw [z, na.1] at r; cases r
    refine store_ok (X := X.su a) (s := { s2 with heap := h5 }) (I6.su (e := a)) hN hi (.inl hx) (v := .ref a) rfl (fun s7 I7 => ?_) (.inr hx)
    refine wpAny_mono (hs a pins s7 _ _ (D.un i) I7 (hk a na.2)) (fun f s8 q8 => ?_) (fun _ _ z => z.elim)
    have fin : ∀ {σ8 : St} {H8 : Hp} {Q : Unit → Shared → Prop}, Inv (X.su a) pins σ8 H8 s8 → (∀ s9, Inv X pins (σ8.set i none) H8 s9 → Q () s9) → wpAny (model X.prog X.w) X.A (do bindName X.env x .none; unbindBehindTheSuite X.env x hp) Q X.xe s8 := fun {σ8 H8 Q} I8 k => by
      obtain ⟨m, hn, hl⟩ := id I8.loc
      refine wpAny_nameGoes_keeps hx hn (by rw [I.ok.kind]; rfl) fun h' v hn' sb => k _ ?_
      exact (I8.unsu I.ok).gone hN hi hn hl hn' sb
    cases f with
    | next => obtain ⟨σ8, H8, I8, q⟩ := q8; exact fin I8 fun s9 I9 => ⟨_, _, I9, q⟩
    | brk => obtain ⟨σ8, H8, I8, q⟩ := q8; exact fin I8 fun s9 I9 => ⟨_, _, I9, q⟩
    | cont => obtain ⟨σ8, H8, I8, q⟩ := q8; exact fin I8 fun s9 I9 => ⟨_, _, I9, q⟩
    | ret u => obtain ⟨v, σ8, H8, I8, r, q⟩ := q8; exact fin I8 fun s9 I9 => ⟨v, _, _, I9, r, q⟩
  · cases f with
    | next =>
      obtain ⟨σ', H', I', q⟩ := q
      exact wpAny_execs_nil ⟨σ', H', I'.untr I.ok, q⟩
    | brk => obtain ⟨σ', H', I', q⟩ := q; exact ⟨σ', H', I'.untr I.ok, q⟩
    | cont => obtain ⟨σ', H', I', q⟩ := q; exact ⟨σ', H', I'.untr I.ok, q⟩
    | ret u => obtain ⟨v, σ', H', I', r, q⟩ := q; exact ⟨v, σ', H', I'.untr I.ok, r, q⟩
end
end L2

set_option maxRecDepth 100000
namespace L2
open PySem PySem.Spec PyProof.Rows
abbrev bmV : List Value := [.type "ValueError", .type "Exception", .type "BaseException", .type "object"]
/-- an own class beneath ValueError, by way of others without __init__ -/
def xcIn (K : PySem.W.Frag) (C : Addr) (init : Option Value) : Bool := match K.lookup C with
  | some ⟨.type "type", _, .cls cd, sl⟩ => (match cd.mro, sl.toList with
    | .ref C' :: bm, [_, _, _, _, some (.builtin n), _] => C' == C && (n == "ValueError.__new__" && (!cd.hasDel && (cd.hasDict && (PySem.W.tailIn K bmV bm && (PySem.W.nsOkIn K cd.ns && PySem.W.nsIn K cd.ns "__init__" == some init)))))
    | _, _ => false)
  | _ => false
/-- .. what is known of it in a heap -/
structure XAt (h : Heap) (C : Addr) (init : Option Value) : Prop where
  out : ∃ nm q N bs bm sn sub ab col dd k0 k1 k2 k3 k5 mN, h.get? C = some (excClassObj nm q C N bs bm true sn sub ab col dd k0 k1 k2 k3 k5 "ValueError.__new__") ∧ h.Ns N mN ∧ mN "__init__" = init ∧ OwnTail h bmV bm
theorem ns_of_in {K : PySem.W.Frag} {h : Heap} {N : Addr} {mg : Str → Option Value} {n : Str} {r : Option Value} (X : K.In h) (G : h.Ns N mg) (e : PySem.W.nsIn K N n = some r) : mg n = r := by
  obtain ⟨o, es, ep, ho, hd, _, hf⟩ := G
  unfold PySem.W.nsIn at e
  split at e
  · rename_i c d es' n' sl q
    have z := X _ _ q
    rw [ho] at z
    cases z
    cases hd
    rw [← hf]
    unfold nsFind findBy
    rw [← Array.find?_toList]
    split at e
    · rename_i he
      rw [he]
      cases e
      rfl
    · rename_i he
      rw [he]
      split at e
      · cases e
      · cases e
        rfl
  · cases e
theorem xc_at {K : PySem.W.Frag} {h : Heap} {C : Addr} {init : Option Value} (X : K.In h) (q : xcIn K C init = true) : XAt h C init := by
  unfold xcIn at q
  split at q
  · rename_i dd cd sl ho
    split at q
    · rename_i C' bm k0 k1 k2 k3 n k5 hm hs
      simp only [Bool.and_eq_true, beq_iff_eq, Bool.not_eq_true'] at q
      obtain ⟨rfl, rfl, d, hd', t, o, i⟩ := q
      obtain ⟨nm, bs, mro, ns, qn, hd, sn, sub, ab, col, del⟩ := cd
      dsimp only at hm d o i hd'
      subst hm d hd'
      obtain ⟨l⟩ := sl
      simp only at hs
      subst hs
      have G : h.Ns ns (h.nsMap ns) := .of_isNs (PySem.W.isNs_of_in X o)
      exact ⟨_, _, _, _, _, _, _, _, _, _, _, _, _, _, _, _, X _ _ ho, G, ns_of_in X G i, PySem.W.tail_of_in X t⟩
    · cases q
  · cases q
section
variable {M : Model} {A : Around} {E : Value → Shared → Prop} {s : Shared} {env : Env} {C : Addr} {init : Option Value}
/-- the raise of a made one -/
theorem raise_made {x : Sem Value} {Q : Flow → Shared → Prop} (hh : A.handled = none)
    (h : wpAny M A x (fun v s₁ => ∃ e oe vs, v = .ref e ∧ XAt s₁.heap C init ∧ s₁.heap.get? e = some oe ∧ oe.cls = .ref C ∧ oe.data = .fields vs ∧ vs[1]? = some .none ∧ E (.ref e) s₁) E s) :
    wpAny M A (raiseStmt env (some x) none) Q E s := by
  unfold raiseStmt
  refine wpAny_bind (wpAny_mono h (fun v s₁ h₁ => ?_) fun _ _ x => x)
  obtain ⟨e, oe, vs, rfl, ⟨nm, q, N, bs, bm, sn, sub, ab, col, dd, k0, k1, k2, k3, k5, mN, hC, _, _, T⟩, he, hc, hd, h1, hE⟩ := h₁
  have hbm : (Value.ref C :: bm).contains (.type "BaseException") = true := by rw [List.contains_cons, T.hasType (X := "BaseException") (b := true) (by decide +kernel), Bool.or_true]
  obtain ⟨hp, g, d, tk, os⟩ := s₁
  obtain ⟨oc, od, odt, osl⟩ := oe
  dsimp only at hc hd
  subst hc hd
  have hfld : ∀ {Q' : Value → Shared → Prop} {A' : Around}, Q' .none ⟨hp, g, d, tk, os⟩ → wpAny M A' (field (.ref e) 1) Q' E ⟨hp, g, d, tk, os⟩ := fun z => wpAny_field (s := ⟨hp, g, d, tk, os⟩) he rfl h1 z
  repeat (first | with_reducible refine wpAny_loadPart_at he ?_ | with_reducible refine wpAny_loadPart_at hC ?_ | (with_reducible refine wpAny_isSubtype_exc hC ?_; rw [hbm]) | with_reducible refine hfld ?_ | wp_step)
  exact wpAny_raiseNew_none hh hE
end

theorem XAt.keeps {h h' : Heap} {C : Addr} {init : Option Value} (x : XAt h C init) (k : ∀ b o, h.get? b = some o → h'.get? b = some o) : XAt h' C init := by
  obtain ⟨nm, q, N, bs, bm, sn, sub, ab, col, dd, k0, k1, k2, k3, k5, mN, hC, hN, hi, T⟩ := x.out
  exact ⟨nm, q, N, bs, bm, sn, sub, ab, col, dd, k0, k1, k2, k3, k5, mN, k _ _ hC, hN.keeps k, hi, T.keeps k⟩

theorem ObjOk.there {P : Program} {w : World} {H : Hp} {h : Heap} {a : Addr} {o : HO} (x : ObjOk P w H h a o) : ∃ ob, h.get? a = some ob := by
  induction o with
  | lst xs => obtain ⟨_, _, _, _, e⟩ := x; exact ⟨_, e⟩
  | tup xs => obtain ⟨_, _, _, ob, e, _⟩ := x; exact ⟨_, e⟩
  | dK kvs => obtain ⟨_, _, _, _, o, _, _, e, _⟩ := x; exact ⟨_, e⟩
  | dT kvs => obtain ⟨_, _, _, _, o, _, _, e, _⟩ := x; exact ⟨_, e⟩
  | set S n => obtain ⟨o, _, _, _, e, _⟩ := x; exact ⟨_, e⟩
  | ins C dx fs => obtain ⟨_, _, _, e, _⟩ := x; exact ⟨_, e⟩
  | own y => exact x
  | xd fs => obtain ⟨_, ⟨_, _, _, e, _⟩, _⟩ := x; exact ⟨_, e⟩
  | rng lo hi => obtain ⟨_, _, _, e⟩ := x; exact ⟨_, e⟩
  | frz ob u ih => exact ⟨ob, x.1⟩
  | tbl ps => exact ⟨_, x⟩
  | met f y => exact ⟨_, x⟩
  | ext φ => exact x.2.1
theorem HOk.none {P : Program} {w : World} {H : Hp} {h : Heap} {a : Addr} (x : HOk P w H h) (e : h.get? a = none) : H a = none := by
  cases r : H a with
  | none => rfl
  | some o =>
    obtain ⟨ob, q⟩ := (x a o r).there
    rw [e] at q; cases q

/-- raise C() -/
def tRaise0 (C : Addr) (XR : St → XK) : TS := fun _ σ H => XR σ (.ref C) none H
section
variable {X : Cx} {C : Addr} {XR : St → XK} {x : Str} {np cpos pos : Pos}
end
end L2

set_option maxRecDepth 100000
namespace L2
open PySem PySem.Spec PyProof.Rows PySem.W
theorem slot_wget : Slot "wrapper_descriptor" "__get__" "wrapper_descriptor.__get__" := .of (owner := "wrapper_descriptor") (n := "__get__") (by rw [typeLookup_type, builtinLookup_eq_fast]; kernel_rfl) (by decide +kernel) (by decide +kernel) (by decide +kernel)
  (by first | exact .inl (by decide +kernel) | exact .inr (by decide +kernel)) (by rw [isSubtype_type]; kernel_rfl)
theorem entry_wget : entryFor table "wrapper_descriptor.__get__" = some Builtin.«wrapper_descriptor.__get__» := entryFor_of_tree (by kernel_rfl)
theorem args_wget (a b c : Value) : argsOk "wrapper_descriptor.__get__" ⟨[a, b, c], []⟩ := by unfold argsOk; kernel_rfl
theorem type_vinit : typeOf (.builtin "ValueError.__init__") = pure (.type "wrapper_descriptor") := by kernel_rfl
section
variable {prog : Program} {w : World} {A : Around} {E : Value → Shared → Prop} {h : Heap} {g : Array GenState} {d : Drawn} {t : Nat} {os : OsState}
/-- the wrapper of ValueError's own, bound -/
theorem run_wget {x C : Addr} {Q : Fin → Shared → Prop} (hi : Looks (model prog w) h (isInstance (.ref x) (.type "ValueError")) true)
    (hq : Q (.done (.ret (.ref h.objs.size))) ⟨h.push { cls := .type "method-wrapper", data := .fields #[.builtin "ValueError.__init__", .ref x] }, g, d, t, os⟩) :
    wpAny (model prog w) A (Builtin.«wrapper_descriptor.__get__» ⟨[.builtin "ValueError.__init__", .ref x, .ref C], []⟩) Q E ⟨h, g, d, t, os⟩ := by
  unfold Builtin.«wrapper_descriptor.__get__»
  refine wpAny_bind (wpAny_of_eq (a := (.builtin "ValueError.__init__", some (.ref x), some (.ref C))) rfl ?_)
  dsimp only
  refine wpAny_bind ?_
  refine wpAny_bind (wpAny_of_eq (a := (("__init__" : Str), Value.type "ValueError")) (by kernel_rfl) ?_)
  dsimp only
  refine wpAny_bind (hi.here ?_)
  rw [if_neg (by decide)]
  refine wpAny_pure ?_
  exact wpAny_bind (wpAny_newObj_type (wpAny_pure hq))
theorem xs_ga {so D x C : Addr} {l₀ l : List Value} {K : Frag} {tk : Tok} {Q : Fin → Shared → Prop}
    (hso : h.get? so = some { cls := .type "super", dict := none, data := .fields #[.ref D, .ref x, .ref C], slots := #[] }) (hno : Looks (model prog w) h (opaqueClassAbove (.ref C)) none)
    (hC : Looks (model prog w) h (mroOf (.ref C)) l₀) (hl : (l₀.dropWhile (· != .ref D)).drop 1 = l) (X : K.In h) (hf : alongIn K "__init__" l = some (some (.builtin "ValueError.__init__")))
    (hxC : x ≠ C) (hi : Looks (model prog w) h (isInstance (.ref x) (.type "ValueError")) true)
    (hq : Q (.done (.ret (.ref h.objs.size))) ⟨h.push { cls := .type "method-wrapper", data := .fields #[.builtin "ValueError.__init__", .ref x] }, g, d, t, os⟩) :
    wpAny (model prog w) A (Builtin.«super.__getattribute__» ⟨[.ref so, .str "__init__" tk], []⟩) Q E ⟨h, g, d, t, os⟩ := by
  have lk := slot_wget.lookup
  have ne : (Value.ref x == Value.ref C) = false := by simp [hxC]
  have dt : ({ cls := .type "super", dict := none, data := .fields #[.ref D, .ref x, .ref C], slots := #[] } : Obj).data = .fields #[.ref D, .ref x, .ref C] := rfl
  have z0 : (#[.ref D, .ref x, .ref C] : Array Value)[0]? = some (.ref D) := rfl
  have z1 : (#[.ref D, .ref x, .ref C] : Array Value)[1]? = some (.ref x) := rfl
  have z2 : (#[.ref D, .ref x, .ref C] : Array Value)[2]? = some (.ref C) := rfl
  have tv : (⟨h, g, d, t, os⟩ : Shared).TypeIs (.builtin "ValueError.__init__") "wrapper_descriptor" := type_vinit
  have nc : (("__init__" : Str) == ("__class__" : Str)) = false := by decide +kernel
  unfold Builtin.«super.__getattribute__»
  repeat (first
    | (with_reducible refine wpAny_field hso dt z0 ?_) | (with_reducible refine wpAny_field hso dt z1 ?_) | (with_reducible refine wpAny_field hso dt z2 ?_)
    | (with_reducible refine ks_wpAny_notOpaque hno ?_)
    | (with_reducible refine Looks.at hC ?_; rw [hl])
    | (refine ks_forIn_along X (fun _ _ => rfl) rfl ?_ hf)
    | (with_reducible refine wpAny_of_eq type_vinit ?_)
    | (with_reducible refine wpAny_call_entry slot_wget tv entry_wget ?_ (args_wget _ _ _))
    | (with_reducible refine run_wget hi ?_)
    | (with_reducible refine ⟨_, rfl, ?_⟩)
    | (simp only [nc, ne, Bool.or_false, Bool.false_eq_true, if_false])
    | wp_step
    | dsimp only)
  all_goals exact hq
theorem xs_getm {so D x C : Addr} {l₀ l : List Value} {K : Frag} {pl : Sem Bool} {Q : Value × List Value → Shared → Prop}
    (hso : h.get? so = some { cls := .type "super", dict := none, data := .fields #[.ref D, .ref x, .ref C], slots := #[] }) (hno : Looks (model prog w) h (opaqueClassAbove (.ref C)) none)
    (hC : Looks (model prog w) h (mroOf (.ref C)) l₀) (hl : (l₀.dropWhile (· != .ref D)).drop 1 = l) (X : K.In h) (hf : alongIn K "__init__" l = some (some (.builtin "ValueError.__init__")))
    (hxC : x ≠ C) (hi : Looks (model prog w) h (isInstance (.ref x) (.type "ValueError")) true)
    (hq : Q (.ref h.objs.size, []) ⟨h.push { cls := .type "method-wrapper", data := .fields #[.builtin "ValueError.__init__", .ref x] }, g, d, t + 1, os⟩) :
    wpAny (model prog w) A (getMethod (.ref so) "__init__" pl) Q E ⟨h, g, d, t, os⟩ := by
  have lk := F.ks_slot_super_ga.lookup
  have ty : ∀ t', (⟨h, g, d, t', os⟩ : Shared).TypeIs (.ref so) "super" := fun _ => ⟨_, hso, rfl⟩
  unfold getMethod
  refine wpAny_bind (wpAny_specialOf (ty _) lk ?_)
  show wpAny _ _ (if (Manifest.canonical "super.__getattribute__" != "object.__getattribute__") = true then _ else _) _ _ _
  rw [if_pos F.ks_canon_super_ga]
  unfold getAttr getAttrBy
  refine wpAny_bind (wpAny_bind (wpAny_mkText (wpAny_holding (wpAny_bind (wpAny_typeOf (ty _) (wpAny_bind (wpAny_of_eq lk ?_)))))))
  show wpAny _ _ (getAttrByItsOwn (.ref so) (.str "__init__" t) (.type "super") (.builtin "super.__getattribute__") true false) _ _ _
  unfold getAttrByItsOwn hookBefore callGetattribute boundAndCalled
  refine wpAny_bind (wpAny_of_eq (a := none) rfl ?_)
  refine wpAny_bind (wpAny_attempt (wpAny_holding ?_))
  refine wpAny_bind (wpAny_of_eq (F.ks_slot_super_ga.bind _) ?_)
  refine wpAny_mono (E := fun _ _ => False) (wpAny_call_entry F.ks_slot_super_ga (ty _) F.ks_entry_super_ga (xs_ga (Q := fun fin s' => ∃ v, fin = .done (.ret v) ∧ (v = .ref h.objs.size ∧ s' = ⟨h.push { cls := .type "method-wrapper", data := .fields #[.builtin "ValueError.__init__", .ref x] }, g, d, t + 1, os⟩)) hso hno hC hl X hf hxC hi ⟨_, rfl, rfl, rfl⟩) (F.ks_gaArgs_super _ _)) (fun v s' hv => ?_) fun _ _ z => z.elim
  obtain ⟨rfl, rfl⟩ := hv
  exact wpAny_pure (wpAny_pure hq)
end
end L2

set_option maxRecDepth 100000
namespace L2
open PySem PySem.Spec PyProof.Rows PySem.W
section
variable {prog : Program} {w : World} {A : Around} {E : Value → Shared → Prop} {h : Heap} {g : Array GenState} {d : Drawn} {t : Nat} {os : OsState}
theorem check_vi {M : Model} {nm q : Str} {C N : Addr} {bs bm : List Value} {hdct : Bool} {sn : List Str} {sub : List Value} {ab : Bool} {col : Option Bool} {dd : Option Addr} {k0 k1 k2 k3 k5 : Option Value} {newId : String} {x : Addr} {oe : Obj} {a : Str} {tk : Tok} {Q : Unit → Shared → Prop}
    (hC : h.get? C = some (excClassObj nm q C N bs bm hdct sn sub ab col dd k0 k1 k2 k3 k5 newId)) (he : h.get? x = some oe) (hc : oe.cls = .ref C) (hq : Q () ⟨h, g, d, t, os⟩) :
    wpAny M A (checkBoundCall "ValueError.__init__" ⟨[.ref x, .str a tk], []⟩) Q E ⟨h, g, d, t, os⟩ := by
  have F := PySem.F.excBase_ValueError
  have hshort := F.noStar
  simp only [checkBoundCall, F.initKind, F.initRow]
  rw [if_pos (by decide)]
  repeat (first | (with_reducible refine wpAny_loadPart_at he ?_; rw [hc]) | with_reducible refine wpAny_loadPart_at hC ?_ | wp_step)
  exact hq
theorem fld_at {M : Model} {e : Addr} {o : Obj} {vs : Array Value} {i : Nat} {v : Value} {Q : Value → Shared → Prop} (ho : h.get? e = some o) (hd : o.data = .fields vs) (hi : vs[i]? = some v) (hq : Q v ⟨h, g, d, t, os⟩) : wpAny M A (field (.ref e) i) Q E ⟨h, g, d, t, os⟩ := wpAny_field ho hd hi hq
theorem sfl_at {M : Model} {e : Addr} {o : Obj} {vs : Array Value} {i : Nat} {v : Value} {Q : Unit → Shared → Prop} (ho : h.get? e = some o) (hd : o.data = .fields vs) (hi : i < vs.size) (hq : Q () ⟨h.update e (Obj.mapFields (·.setIfInBounds i v)), g, d, t, os⟩) : wpAny M A (setField (.ref e) i v) Q E ⟨h, g, d, t, os⟩ := wpAny_setField (s := ⟨h, g, d, t, os⟩) ho hd hi hq
theorem xs_run {mw x t0 : Addr} {a : Str} {tk : Tok} {oe : Obj} {vs : Array Value} {Q : Value → Shared → Prop} (hmw : h.get? mw = some { cls := .type "method-wrapper", data := .fields #[.builtin "ValueError.__init__", .ref x] })
    {C : Addr} {init : Option Value} (xa : XAt h C init) (hc : oe.cls = .ref C) (hx : h.get? x = some oe) (hd : oe.data = .fields vs) (h0 : vs[0]? = some (.ref t0))
    (hq : ∀ h' T, h.objs.size ≤ T → h'.get? x = some (oe.mapFields (·.setIfInBounds 0 (.ref T))) → (∀ b o, b ≠ x → h.get? b = some o → h'.get? b = some o) → Q .none ⟨h', g, d, t, os⟩) :
    wpAny (model prog w) A (call (.ref mw) [.str a tk]) Q E ⟨h, g, d, t, os⟩ := by
  refine wpAny_call (codeAny_of_tree ?_)
  show wpAny _ _ (callAny (.ref mw) _) _ _ _
  unfold callAny
  refine wpAny_bind (wpAny_load hmw ?_)
  dsimp only
  rw [if_pos (by decide)]
  simp only [show (#[Value.builtin "ValueError.__init__", Value.ref x] : Array Value)[0]? = some (.builtin "ValueError.__init__") from rfl, show (#[Value.builtin "ValueError.__init__", Value.ref x] : Array Value)[1]? = some (.ref x) from rfl]
  rw [if_pos (by decide)]
  obtain ⟨nm, qn, N, bs, bm, sn, sub, ab, col, dd, k0, k1, k2, k3, k5, mN, hC, _, _, _⟩ := xa.out
  refine wpAny_bind (check_vi hC hx hc ?_)
  refine wpAny_pure ?_
  refine ⟨Code.quiet_builtin _ (by decide +kernel), codeAny_builtin PySem.F.excBase_ValueError.initEntry ?_⟩
  have h1 := Heap.get?_push_of_some { cls := Value.type "tuple", data := Data.seq #[Value.str a tk] } hx
  have z0 : 0 < vs.size := (Array.getElem?_eq_some_iff.mp h0).1
  unfold Builtin.«BaseException.__init__» Builtin.BaseException.bexcPut
  repeat (first | (with_reducible refine fld_at h1 hd h0 ?_) | (with_reducible refine sfl_at h1 hd z0 ?_) | wp_step)
  exact hq _ h.objs.size (Nat.le_refl _) (Heap.get?_update_self _ h1 (Obj.isFreed_of_fields (Obj.data_mapFields hd _))) fun b o nb q => (Heap.get?_update_other _ _ (Ne.symm nb)).trans (Heap.get?_push_of_some _ q)
end
end L2

set_option maxRecDepth 100000
namespace L2
open PySem PySem.Spec PyProof.Rows PySem.W
open Builtin Builtin.ObjectAttr
section
variable {prog : Program} {w : World} {A : Around} {E : Value → Shared → Prop} {h : Heap} {g : Array GenState} {d : Drawn} {t : Nat} {os : OsState}
variable {x C LE : Addr} {o : Obj} {name : Str} {v : Value} {vs : Array Value}
/-- what a class says of a name and of storing -/
structure StoreAt (M : Model) (h : Heap) (C LE : Addr) (name : Str) : Prop where
  mro : Looks M h (mroOf (.ref C)) (.ref C :: .ref LE :: bmV)
  no : Looks M h (typeLookup (.ref C) name) none
  sa : Looks M h (typeLookup (.ref C) "__setattr__") (some (.builtin "object.__setattr__"))
  ob : Looks M h (isSubtype (.ref C) (.type "object")) true
  at_ : ∃ init, XAt h C init
theorem xs_sa {tk : Tok} {Q : Fin → Shared → Prop} (S : StoreAt (model prog w) h C LE name) (hx : h.get? x = some o) (hc : o.cls = .ref C) (hn : o.dict = none) (hd : o.data = .fields vs)
    (hq : ∀ h' tk' dx, h.objs.size ≤ dx → h'.get? x = some { o with dict := some dx } → h'.Ns1 dx (fun y => if y = name then some v else none) → (∀ b u, b ≠ x → h.get? b = some u → h'.get? b = some u) → Q (.done (.ret .none)) ⟨h', g, d, tk', os⟩) :
    wpAny (model prog w) A (Builtin.«object.__setattr__» ⟨[.ref x, .str name tk, v], []⟩) Q E ⟨h, g, d, t, os⟩ := by
  have ps := PySem.F.store_ValueError.passes (.ref x)
  obtain ⟨init, xa⟩ := S.at_
  obtain ⟨nm, qn, N, bs, bm, sn, sub, ab, col, dd, k0, k1, k2, k3, k5, mN, hC, _, _, _⟩ := xa.out
  unfold Builtin.«object.__setattr__»
  repeat (first | rw [refuse_eq] | (with_reducible refine wpAny_loadPart_at hx ?_; rw [hc]) | (with_reducible refine Looks.at S.mro ?_; rw [refuseLoop_ref, refuseLoop_ref, ps]) | (with_reducible refine Looks.at S.no ?_) | (with_reducible refine wpAny_loadPart_at hC ?_) | wp_step)
  rw [hn, hd]
  dsimp only
  rw [if_neg (by simp [typeHasDict])]
  have x1 : (h.push { cls := .type "dict", data := .dict #[] }).get? x = some o := Heap.get?_push_of_some _ hx
  have nx : x ≠ h.objs.size := Nat.ne_of_lt (Heap.lt_size hx)
  have fr : ({ cls := o.cls, dict := some h.objs.size, data := o.data, slots := o.slots } : Obj).isFreed = false := by
    obtain ⟨oc, od, odt, osl⟩ := o
    dsimp only at hd
    subst hd
    rfl
  refine wpAny_bind (wpAny_alloc' (wpAny_bind (wpAny_update' x1 (wpAny_pure ?_))))
  have x2 := Heap.get?_update_self (fun o => { cls := o.cls, dict := some h.objs.size, data := o.data, slots := o.slots }) x1 fr
  have d2 : ((h.push { cls := .type "dict", data := .dict #[] }).update x fun o => { cls := o.cls, dict := some h.objs.size, data := o.data, slots := o.slots }).get? h.objs.size = some { cls := .type "dict", data := .dict #[] } :=
    (Heap.get?_update_other _ _ nx).trans (Heap.get?_push_at rfl rfl)
  generalize hg : ((h.push { cls := .type "dict", data := .dict #[] }).update x fun o => { cls := o.cls, dict := some h.objs.size, data := o.data, slots := o.slots }) = h2 at x2 d2 ⊢
  have old : ∀ b u, b ≠ x → h.get? b = some u → h2.get? b = some u := fun b u nb q => by
    rw [← hg]
    exact (Heap.get?_update_other _ _ (Ne.symm nb)).trans (Heap.get?_push_of_some _ q)
  have n2 : h2.Ns h.objs.size (fun _ => none) := ⟨_, #[], _, d2, rfl, fun e z => absurd z (by simp), fun _ => rfl⟩
  show wpAny _ _ (storeInDict h.objs.size (.str name tk) name v) _ _ _
  unfold storeInDict newKeyGuard
  refine wpAny_bind (wpAny_pure (wpAny_bind (wpAny_nsSet1 (Heap.Ns1.of_empty n2) fun h3 n3 s3 => ?_)))
  obtain ⟨oD, eD, pD, q1, q2, q3⟩ := n3.count (Within.cons name v Within.nil)
  refine wpAny_bind (wpAny_lookBehind q1 (by rw [q2]; exact pastItsLine_dict (Nat.le_trans q3 (by rw [List.length_cons, List.length_nil, sizeLine_eq]; omega))) ?_)
  wp_walk
  exact hq h3 _ h.objs.size (Nat.le_refl _) ((s3.2 x nx).trans x2) n3 fun b u nb q => (s3.2 b (Nat.ne_of_lt (Heap.lt_size q))).trans (old b u nb q)

theorem xs_chk {M : Model} {n : Value} {Q : Unit → Shared → Prop} (ob : Looks M h (isSubtype (.ref C) (.type "object")) true) (hx : h.get? x = some o) (hc : o.cls = .ref C) (hq : Q () ⟨h, g, d, t, os⟩) :
    wpAny M A (checkBuiltinCall "object.__setattr__" ⟨[.ref x, n, v], []⟩) Q E ⟨h, g, d, t, os⟩ := by
  have SF := PySem.F.store_ValueError
  simp only [checkBuiltinCall, SF.kind, SF.split]
  refine wpAny_bind ?_
  unfold isInstance
  repeat (first | (with_reducible refine wpAny_loadPart_at hx ?_; rw [hc]) | (with_reducible refine Looks.at ob ?_) | wp_step)
  exact hq
theorem xs_set {Q : Unit → Shared → Prop} (S : StoreAt (model prog w) h C LE name) (hx : h.get? x = some o) (hc : o.cls = .ref C) (hn : o.dict = none) (hd : o.data = .fields vs)
    (hq : ∀ h' tk' dx, h.objs.size ≤ dx → h'.get? x = some { o with dict := some dx } → h'.Ns1 dx (fun y => if y = name then some v else none) → (∀ b u, b ≠ x → h.get? b = some u → h'.get? b = some u) → Q () ⟨h', g, d, tk', os⟩) :
    wpAny (model prog w) A (setAttr (.ref x) name v) Q E ⟨h, g, d, t, os⟩ := by
  have SF := PySem.F.store_ValueError
  have bd := SF.slot.bind (.ref x)
  unfold setAttr callSpecial? specialOf
  repeat (any_goals (first | assumption | (with_reducible refine wpAny_loadPart_at hx ?_; rw [hc]) | (with_reducible refine Looks.at S.sa ?_) | wp_step))
  refine codeAny_call_builtin SF.slot.plain SF.entry (xs_chk (S.ob) hx hc ?_)
  refine xs_sa (t := t + 1) S hx hc hn hd fun h' tk' dx z1 z2 z3 z4 => ?_
  repeat (any_goals (first | assumption | wp_step))
  exact hq h' tk' dx z1 z2 z3 z4
end
end L2

set_option maxRecDepth 100000
namespace L2
open PySem PySem.Spec PyProof.Rows PySem.W
/-- the class facts that making and storing ask, of K alone -/
structure XK1 (K : Frag) (C LE : Addr) (fld : Str) : Prop where
  mro : (clsIn K C).map (·.mro) = some (.ref C :: .ref LE :: bmV)
  no : findIn K (.ref C) fld = some none
  sa : findIn K (.ref C) "__setattr__" = some (some (.builtin "object.__setattr__"))
  ini : alongIn K "__init__" (.ref LE :: bmV) = some (some (.builtin "ValueError.__init__"))
  opq : nsIn K cStatics "thirdparty.any" = some none
theorem XK1.subs {K : Frag} {C LE : Addr} {fld : Str} {M : Model} {h : Heap} {b : Value} (x : XK1 K C LE fld) (X : K.In h) (hb : (Value.ref C :: .ref LE :: bmV).contains b = true) : Looks M h (isSubtype (.ref C) b) true := by
  obtain ⟨cd, e, z⟩ := Option.map_eq_some_iff.mp x.mro
  refine looks_mroIn X ?_
  unfold mroIn
  rw [e]
  show (if cd.mro.isEmpty = true then none else some (cd.mro.contains b)) = some true
  rw [z, hb]; rfl
theorem XK1.mroL {K : Frag} {C LE : Addr} {fld : Str} {M : Model} {h : Heap} (x : XK1 K C LE fld) (X : K.In h) : Looks M h (mroOf (.ref C)) (.ref C :: .ref LE :: bmV) := by
  obtain ⟨cd, e, z⟩ := Option.map_eq_some_iff.mp x.mro
  rw [← z]
  exact (looks_clsIn X e).andThen .now
theorem XK1.store {K : Frag} {C LE : Addr} {fld : Str} {M : Model} {h : Heap} {init : Option Value} (x : XK1 K C LE fld) (X : K.In h) (q : xcIn K C init = true) : StoreAt M h C LE fld :=
  ⟨x.mroL X, looks_findIn X x.no, looks_findIn X x.sa, x.subs X (by simp [bmV]), init, xc_at X q⟩
section
variable {prog : Program} {w : World} {A : Around} {E : Value → Shared → Prop} {s : Shared}
/-- a call of a method-wrapper with one written text -/
theorem callWith_mw {pos : Pos} {env : Env} {mw : Addr} {fn x : Value} {msg : Str} {kd : Nat} {p4 : Pos} {Q : Value → Shared → Prop} (hmw : s.heap.get? mw = some { cls := .type "method-wrapper", data := .fields #[fn, x] })
    (k : ∀ tk, wpAny (model prog w) A (call (.ref mw) [.str msg tk]) Q E { s with toks := s.toks + 1 }) :
    wpAny (model prog w) A (callWith pos (.ref mw) [] (backTo pos (starEach [.Constant (.str msg) kd p4] env)) []) Q E s := by
  unfold callWith
  refine wpAny_bind (wpAny_holding (wpAny_mono (Q := fun (a : Args) s₁ => ∃ tk, a = ⟨[.str msg tk], []⟩ ∧ s₁ = { s with toks := s.toks + 1 }) ?_ (fun a s₁ ⟨tk, ha, hs⟩ => wpAny_bind (wpAny_standAt ?_)) fun _ _ z => z))
  · show wpAny (model prog w) A (evalArgs (.ref mw) true ((false, eval (.Constant (.str msg) kd p4) env) :: []) []) _ _ _
    refine Calls.evalArgs_plain (Calls.spliced_cons (Calls.Constant_str (k := kd) (pos := p4) ?_))
    exact Calls.spliced_nil ⟨_, rfl, rfl⟩
  · subst ha hs
    simp only [stars_any (es := [.Constant (.str msg) kd p4]) rfl, List.any_nil, Bool.or_false]
    refine wpAny_bind (m := keeperOf (.ref mw)) ?_
    unfold keeperOf
    refine wpAny_bind (wpAny_load hmw ?_)
    dsimp only
    rw [if_pos (by decide)]
    refine wpAny_pure ?_
    rw [if_pos (by decide)]
    exact wpAny_bind (wpAny_mono (k tk) (fun r s₂ z => wpAny_bind (wpAny_holding (wpAny_point (wpAny_pure z)))) fun _ _ z => z)
end
end L2

set_option maxRecDepth 100000
namespace L2
open PySem PySem.Spec PyProof.Rows PySem.W
/-- the names of an own __init__(self, par) -/
structure ISc (sc : Scope) (par : Str) : Prop where
  su : sc.names.lookup ("super" : Str) = some .globalImplicit
  cl : sc.names.lookup ("__class__" : Str) = some .free
  se : sc.names.lookup ("self" : Str) = some .local
  pa : sc.names.lookup par = some .local
  nc : ∀ x ∈ sc.names, x.2 ≠ .cell
  co : sc.isCoroutine = false
  ge : sc.isGenerator = false
  ki : sc.kind = .function
  ns : (("self" : Str) == par) = false
  db : (par == ("__debug__" : Str)) = false
section
variable {prog : Program} {w : World} {A : Around} {R : Result → Shared → Prop} {h : Heap} {g : Array GenState} {d : Drawn} {t : Nat} {os : OsState}
variable {K : Frag} {mg : Str → Option Value} {base : Heap} {f C LE e cda cc : Addr} {fld par nm qual msg file : Str} {ps : Arguments} {body : List Stmt} {sc : Scope} {kV doc pm ct oc ccl cl u : Value} {an od cdd cld : Option Addr} {osl ccs csl : Array (Option Value)} {cvs vs : Array Value} {tf : Tok} {init : Option Value} {oe : Obj} {t0 : Addr} {ar : Arg}
  {a1 a2 a3 a4 a5 a6 b1 b2 b3 b4 : Pos} {kd : Nat} {pl : Env → Sem Bool}
theorem xs_init (B : Mod K mg base) (kb : ∀ b o, base.get? b = some o → h.get? b = some o) (nb : base.get? e = none) (x1 : XK1 K C LE fld) (q : xcIn K C init = true) (hroom : A.depth < recursionLimit)
    (lk : K.lookup f = some ⟨oc, od, .func (ksFn nm qual ps body sc .none kV doc pm an (.ref cda) ct cc), osl⟩) (hcd : codeIn K (.ref cda) qual = true) (hcode : K.lookup cda = some ⟨ccl, cdd, .fields cvs, ccs⟩) (hvs : cvs[2]? = some (.str file tf)) (hfile : ((prog.main.file : Str) == file) = true)
    (hcell : K.lookup cc = some ⟨cl, cld, .cell (some (.ref C)), csl⟩) (hsu : mg "super" = none) (htop : (prog.main.scope.names.lookup ("super" : Str)).isSome = false) (hboot : bootBuiltins "super" = some (.type "super"))
    (S : ISc sc par) (hp : (ps.posonlyargs ++ ps.args).head? = some ar) (har : ar.arg = "self") (hbind : bindArgs (ksFn nm qual ps body sc .none kV doc pm an (.ref cda) ct cc) ⟨[.ref e, u], []⟩ = pure [(("self" : Str), .ref e), (par, u)])
    (hb : body = [.Expr (.Call (.Attribute (.Call (.Name "super" a1) [] [] a2) "__init__" a3) [.Constant (.str msg) kd a4] [] a5) a6, .Assign [.Attribute (.Name "self" b1) fld b2] (.Name par b3) b4])
    (hev : ∀ env, eval (.Call (.Attribute (.Call (.Name "super" a1) [] [] a2) "__init__" a3) [.Constant (.str msg) kd a4] [] a5) env = (do
      let ov ← attributeBase (.Call (.Name "super" a1) [] [] a2) "__init__" env (eval (.Call (.Name "super" a1) [] [] a2) env)
      standAt a3.atName
      let (f, first) ← holding [ov] (getMethod ov "__init__" (pl env))
      callWith a5 f first (backTo a5 (starEach [.Constant (.str msg) kd a4] env)) []))
    (he : h.get? e = some oe) (hec : oe.cls = .ref C) (hed : oe.dict = none) (hef : oe.data = .fields vs) (h0 : vs[0]? = some (.ref t0))
    (hq : ∀ h' t' dx T, h'.get? e = some { cls := .ref C, dict := some dx, data := .fields (vs.setIfInBounds 0 (.ref T)), slots := oe.slots } → h.objs.size ≤ dx → h'.Ns1 dx (fun y => if y = fld then some u else none) → (∀ b o, b ≠ e → h.get? b = some o → h'.get? b = some o) → R (.ok (.ret .none)) ⟨h', g, d, t', os⟩) :
    codeAny (model prog w) A (.call (.ref f) ⟨[.ref e, u], []⟩) R ⟨h, g, d, t, os⟩ := by
  have X : K.In h := B.kin.keeps kb
  refine ks_codeAny_call_defAt (s := ⟨h, g, d, t, os⟩) (binds := [(("self" : Str), .ref e), (par, u)]) hroom (X _ _ lk) rfl (B.nolimit.keeps kb) (codeRec_of X hcd) rfl (.of_eq hbind) S.nc (fun y hy => ?_) (fun h₀ hn k0 => ?_) S.co S.ge S.ki
  · simp only [List.mem_cons, List.mem_nil_iff, or_false] at hy
    rcases hy with rfl | rfl
    · exact S.se
    · exact S.pa
  have kb0 : ∀ b o, base.get? b = some o → h₀.get? b = some o := fun b o z => k0 _ _ (kb _ _ z)
  have X0 : K.In h₀ := B.kin.keeps kb0
  have e0 := k0 _ _ he
  have ms : (fun x => ([("self", .ref e), (par, u)] : List (Str × Value)).reverse.lookup x) ("self" : Str) = some (.ref e) := by
    show ([(par, u), ("self", .ref e)] : List (Str × Value)).lookup ("self" : Str) = _
    rw [List.lookup_cons, S.ns]; rfl
  have mp : (fun x => ([("self", .ref e), (par, u)] : List (Str × Value)).reverse.lookup x) par = some u := by
    show ([(par, u), ("self", .ref e)] : List (Str × Value)).lookup par = _
    rw [List.lookup_cons, beq_self_eq_true]
  obtain ⟨mb, hb1, hb2⟩ := B.blt
  obtain ⟨nmC, qnC, NC, bsC, bmC, snC, subC, abC, colC, ddC, k0C, k1C, k2C, k3C, k5C, mNC, hC, _, _, _⟩ := (xc_at X0 q).out
  have nfe : ∀ c, oe.data ≠ .cls c := fun c z => by rw [hef] at z; cases z
  have neC : e ≠ C := fun z => by
    subst z
    rw [e0] at hC; cases hC
    cases hef
  subst hb
  dsimp only
  generalize hE : (fun (e : Value) (s' : Shared) => wpAny (model prog w) _ (leaving _ e) (fun _ s'' => R (Except.error e) s'') (fun e' s'' => R (Except.error e') s'') s') = EX
  refine ks_wpAt_execs_cons ?_
  refine ks_wpAt_Expr_any ?_ (by show (sc.kind == .module && _) = false; rw [S.ki]; rfl) rfl
  refine ks_wpAt_MethodCall ?_ (hev _)
  refine ks_wpAt_super_base (env := ksEnv qual sc h.objs.size f (.ref cda) cc) (file := file) (tf := tf) S.su S.cl (by decide +kernel) rfl (X0 _ _ lk) rfl hp rfl (X0 _ _ hcode) rfl hvs hfile htop ?_
  refine ks_loadName_global S.ki S.su (Calls.loadGlobal_builtin (B.glob.keeps kb0) hsu (hb1.keeps kb0) ((hb2 _ (by decide +kernel)).trans hboot) ⟨rfl, ?_⟩)
  refine wpAny_loadName_free S.ki S.cl rfl ⟨_, X0 _ _ hcell, rfl⟩ ?_
  rw [har]
  refine wpAny_loadName_local S.ki S.se hn ms ?_
  refine ks_wpAny_isType_cls hC rfl ⟨rfl, ?_⟩
  refine ks_wpAny_call_super hC rfl e0 hec nfe (x1.subs X0 (by simp)) (fun h1 hso k1 => ?_)
  have kb1 : ∀ b o, base.get? b = some o → h1.get? b = some o := fun b o z => k1 _ _ (kb0 _ _ z)
  have X1 : K.In h1 := B.kin.keeps kb1
  have e1 := k1 _ _ e0
  have inst : Looks (model prog w) h1 (isInstance (.ref e) (.type "ValueError")) true := by
    unfold isInstance
    refine (looks_cls e1).andThen ?_
    rw [hec]
    exact x1.subs X1 (by simp [bmV])
  refine xs_getm (l := .ref LE :: bmV) hso (looks_opaque X1 x1.opq) (x1.mroL X1) (by simp [List.dropWhile]) X1 x1.ini neC inst ?_
  generalize hmo : ({ cls := .type "method-wrapper", data := .fields #[.builtin "ValueError.__init__", .ref e] } : Obj) = mo
  have m2 : (h1.push mo).get? h1.objs.size = some mo := Heap.get?_push_size _ (by rw [← hmo]; rfl)
  have k2 : ∀ b o, h.get? b = some o → (h1.push mo).get? b = some o := fun b o z => Heap.get?_push_of_some _ (k1 _ _ (k0 _ _ z))
  have e2 := k2 _ _ he
  have X2 : K.In (h1.push mo) := B.kin.keeps fun b o z => Heap.get?_push_of_some _ (kb1 _ _ z)
  refine callWith_mw (mw := h1.objs.size) (fn := .builtin "ValueError.__init__") (x := .ref e) (by rw [hmo]; exact m2) fun tk => ?_
  refine xs_run (by rw [hmo]; exact m2) (xc_at X2 q) hec e2 hef h0 fun h3 T zT z1 z2 => ?_
  have kb3 : ∀ b o, base.get? b = some o → h3.get? b = some o := fun b o z => z2 _ _ (fun y => by rw [y, nb] at z; cases z) (Heap.get?_push_of_some _ (kb1 _ _ z))
  have X3 : K.In h3 := B.kin.keeps kb3
  have hn3 : h3.Ns h.objs.size (fun x => ([("self", .ref e), (par, u)] : List (Str × Value)).reverse.lookup x) := by
    obtain ⟨o, es, ep, ho, r⟩ := hn
    refine ⟨o, es, ep, z2 _ _ (fun y => ?_) (Heap.get?_push_of_some _ (k1 _ _ ho)), r⟩
    have z := Heap.lt_size he
    rw [← y] at z
    exact absurd z (Nat.lt_irrefl _)
  show PySem.wpAt _ _ _ (execs [.Assign [.Attribute (.Name "self" b1) fld b2] (.Name par b3) b4] _) _ _ _
  refine ks_wpAt_execs_cons (ks_wpAt_Assign_Attr (wpAt_of_wpAny (wpAny_Name (wpAny_loadName_local S.ki S.pa hn3 mp ?_) S.db)) rfl)
  refine wpAny_Name (wpAny_loadName_local S.ki S.se hn3 ms ?_) (by decide +kernel)
  have dm := Obj.data_mapFields hef (·.setIfInBounds 0 (Value.ref T))
  refine xs_set (x1.store X3 q) z1 ((Obj.cls_mapFields _ _).trans hec) ((dict_mapF _ _).trans hed) dm fun h4 t4 dx y1 y2 y3 y4 => ?_
  refine wpAt_of_wpAny (wpAny_execs_nil ?_)
  have y2' : h4.get? e = some { cls := .ref C, dict := some dx, data := .fields (vs.setIfInBounds 0 (.ref T)), slots := oe.slots } := by
    rw [y2, Obj.cls_mapFields, hec, dm]
    obtain ⟨oc', od', odt', osl'⟩ := oe
    cases odt' <;> rfl
  exact hq h4 t4 dx T y2' (Nat.le_trans (Nat.le_of_lt hn3.lt) y1) y3 fun b o nb' z => y4 _ _ nb' (z2 _ _ nb' (k2 _ _ z))
end
end L2

set_option maxRecDepth 100000
namespace L2
open PySem PySem.Spec PyProof.Rows PySem.W
section
variable {prog : Program} {w : World} {A : Around} {E : Value → Shared → Prop} {h : Heap} {g : Array GenState} {d : Drawn} {t : Nat} {os : OsState} {C fI : Addr} {oI : Obj} {u : Value}
theorem xs_tcall {Q : Fin → Shared → Prop} (xa : XAt h C (some (.ref fI))) (hf : h.get? fI = some oI) (hfc : oI.cls = .type "function")
    (hq : ∀ h' e, Heap.MadeExcOf h h' e (.ref C) [u] → wpAny (model prog w) A (call (.ref fI) [.ref e, u]) (fun r s' => r = .none ∧ Q (.done (.ret (.ref e))) s') E ⟨h', g, d, t, os⟩) :
    wpAny (model prog w) A (Builtin.«type.__call__» ⟨[.ref C, u], []⟩) Q E ⟨h, g, d, t, os⟩ := by
  obtain ⟨nm, qn, N, bs, bm, sn, sub, ab, col, dd, k0, k1, k2, k3, k5, mN, hC, hN, hi, T⟩ := xa.out
  have F := PySem.F.excBase_ValueError
  repeat (first | with_reducible refine wpAny_loadPart_at hC ?_ | with_reducible refine wpAny_madeBy_exc hC ?_ | wp_step)
  refine codeAny_call_builtin_code (Code.quiet_builtin _ F.quiet) (wpAny_check_new_subU F (by decide +kernel) T hC ?_)
  refine codeAny_exc_new_subU (rest := [u]) F (by decide +kernel) F T hC ?_ (by show 1 ≤ sizeLine; decide)
  show wpAny _ _ _ _ _ _
  generalize hh : (h.push { cls := .type "tuple", data := .seq [u].toArray }).push { cls := .ref C, data := .fields #[.ref h.objs.size, .none, .none, .none, .bool false, .none] } = h2
  have up : ∀ b o, h.get? b = some o → h2.get? b = some o := fun b o z => by rw [← hh]; exact Heap.get?_push_of_some _ (Heap.get?_push_of_some _ z)
  have ge : h2.get? (h.objs.size + 1) = some { cls := .ref C, data := .fields #[.ref h.objs.size, .none, .none, .none, .bool false, .none] } := by rw [← hh]; heap_get
  have gt : h2.get? h.objs.size = some { cls := .type "tuple", data := .seq [u].toArray } := by rw [← hh]; exact Heap.get?_push_of_some _ (Heap.get?_push_at rfl rfl)
  have cC : (Value.ref C :: bm).contains (.ref C) = true := by simp
  have C2 := up _ _ hC
  unfold isInstance
  repeat (first | with_reducible refine wpAny_loadPart_at ge ?_ | (with_reducible refine wpAny_isSubtype_exc C2 ?_; rw [cC]) | wp_step)
  show wpAny _ _ (typeLookup (.ref C) _) _ _ _
  refine wpAny_typeLookup_tail C2 (hN.keeps up) (T.keeps up) F.mroIs F.init.lookup ?_
  rw [hi]
  refine wpAny_holding (wpAny_bind ?_)
  unfold bindSpecial
  refine wpAny_bind (wpAny_typeOf (T := "function") ⟨_, up _ _ hf, hfc⟩ ?_)
  rw [if_pos (by decide)]
  refine wpAny_pure (wpAny_bind (wpAny_mono (hq h2 (h.objs.size + 1) ⟨up, Heap.get?_none_of_le (Nat.le_succ _), h.objs.size, ge, Heap.get?_none_of_le (Nat.le_refl _), gt⟩) (fun r s' z => ?_) fun _ _ z => z))
  obtain ⟨rfl, z⟩ := z
  wp_walk
  exact z
theorem xs_call {Q : Value → Shared → Prop} (xa : XAt h C (some (.ref fI))) (hf : h.get? fI = some oI) (hfc : oI.cls = .type "function")
    (hq : ∀ h' e, Heap.MadeExcOf h h' e (.ref C) [u] → wpAny (model prog w) (A.under (.builtin "type.__call__" ⟨[.ref C, u], []⟩)) (call (.ref fI) [.ref e, u]) (fun r s' => r = .none ∧ Q (.ref e) s') E ⟨h', g, d, t, os⟩) :
    wpAny (model prog w) A (call (.ref C) [u]) Q E ⟨h, g, d, t, os⟩ := by
  obtain ⟨nm, qn, N, bs, bm, sn, sub, ab, col, dd, k0, k1, k2, k3, k5, mN, hC, _, _, _⟩ := xa.out
  have f1 := tc_lookup
  have f2 := tc_bind (.ref C)
  have ty : (⟨h, g, d, t, os⟩ : Shared).TypeIs (.ref C) "type" := ⟨_, hC, rfl⟩
  refine wpAny_call (codeAny_of_tree ?_)
  show wpAny _ _ (callAny (.ref C) _) _ _ _
  repeat (any_goals (first | assumption | with_reducible refine wpAny_loadPart_at hC ?_ | wp_step))
  refine ⟨rfl, ?_⟩
  exact codeAny_call_builtin_at (Code.quiet_builtin _ (by decide +kernel)) entry_typeCall (wpAny_check_type_call_sub hC (xs_tcall xa hf hfc fun h' e me => hq h' e me))
end
end L2

set_option maxRecDepth 100000
namespace L2
open PySem PySem.Spec PyProof.Rows PySem.W
/-- an own exception with __init__(self, par) that calls super's and stores par under fld -/
structure XIni (prog : Program) (K : Frag) (C LE fI : Addr) (fld : Str) : Prop where
  x1 : XK1 K C LE fld
  xc : xcIn K C (some (.ref fI)) = true
  kp : keepIn K (.ref C) = true
  su : nsIn K mainGlobals "super" = some none
  top : (prog.main.scope.names.lookup ("super" : Str)).isSome = false
  ex : ∃ (nm qual par msg file : Str) (ps : Arguments) (body : List Stmt) (sc : Scope) (kV doc pm ct ccl cl : Value) (an od cdd cld : Option Addr) (osl ccs csl : Array (Option Value)) (cvs : Array Value) (tf : Tok) (ar : Arg) (cda cc : Addr)
    (a1 a2 a3 a4 a5 a6 b1 b2 b3 b4 : Pos) (kd : Nat) (pl : Env → Sem Bool),
    K.lookup fI = some ⟨.type "function", od, .func (ksFn nm qual ps body sc .none kV doc pm an (.ref cda) ct cc), osl⟩ ∧ codeIn K (.ref cda) qual = true ∧ K.lookup cda = some ⟨ccl, cdd, .fields cvs, ccs⟩ ∧ cvs[2]? = some (.str file tf) ∧ ((prog.main.file : Str) == file) = true ∧
    K.lookup cc = some ⟨cl, cld, .cell (some (.ref C)), csl⟩ ∧ ISc sc par ∧ (ps.posonlyargs ++ ps.args).head? = some ar ∧ ar.arg = "self" ∧ (∀ e u : Value, bindArgs (ksFn nm qual ps body sc .none kV doc pm an (.ref cda) ct cc) ⟨[e, u], []⟩ = pure [(("self" : Str), e), (par, u)]) ∧
    body = [.Expr (.Call (.Attribute (.Call (.Name "super" a1) [] [] a2) "__init__" a3) [.Constant (.str msg) kd a4] [] a5) a6, .Assign [.Attribute (.Name "self" b1) fld b2] (.Name par b3) b4] ∧
    ∀ env, eval (.Call (.Attribute (.Call (.Name "super" a1) [] [] a2) "__init__" a3) [.Constant (.str msg) kd a4] [] a5) env = (do
      let ov ← attributeBase (.Call (.Name "super" a1) [] [] a2) "__init__" env (eval (.Call (.Name "super" a1) [] [] a2) env)
      standAt a3.atName
      let (f, first) ← holding [ov] (getMethod ov "__init__" (pl env))
      callWith a5 f first (backTo a5 (starEach [.Constant (.str msg) kd a4] env)) [])
def tRaise1 (C : Addr) (fld : Str) (XR : St → XK) (t : TA) : TS := fun _ σ H => t σ H fun vs H1 => ∃ v, vs = [v] ∧ ∀ dx, H1 dx = none → XR σ (.ref C) (some dx) (upd H1 dx (.xd [(fld, v)]))
section
variable {X : Cx} {C LE fI : Addr} {fld x : Str} {XR : St → XK} {np cpos pos : Pos} {e : Expr} {t : TA}
theorem qs_raise1 (hx : Px X XR) (hc : X.calm = true) (hr : Room 2 X.A) (hg : Gl X x) (hm : X.mg x = some (.ref C)) (Z : XIni X.prog X.K C LE fI fld) (ha : PAs X [e] t) (hst : notStar e = true) (hdb : (x == ("__debug__" : Str)) = false) :
    PSw X (.Raise (some (.Call (.Name x np) [e] [] cpos)) none pos) (tRaise1 C fld XR t) := by
  refine ⟨fun pins s σ H D I h => ?_⟩
  rw [arm_exec_Raise]
  simp only [evalOpt, Option.map]
  refine wpAny_bind (wpAny_standAt (raise_made (C := C) (init := some (.ref fI)) (I.ok.hd hc) ?_))
  refine wpAny_bind (wpAny_mono (Q := fun v s₁ => ∃ e oe vs, v = .ref e ∧ XAt s₁.heap C (some (.ref fI)) ∧ s₁.heap.get? e = some oe ∧ oe.cls = .ref C ∧ oe.data = .fields vs ∧ vs[1]? = some .none ∧ X.xe (.ref e) s₁) ?_ (fun v s₃ h₃ => wpAny_bind (wpAny_standAt (wpAny_pure h₃))) fun _ _ z => z)
  refine wpAny_Call_Name_kw (ld_glob I hg hm ?_ hdb)
  refine callWith_K (h₀ := X.base) I.ok.mod.kin Z.kp (thn (ha.run cpos pins s σ H _ I h) fun us s1 ⟨vs, H1, I1, r, v, hv, q⟩ => ⟨I1.kIn, ?_⟩) (star_ne hst) rfl
  subst hv
  obtain ⟨u, rfl, rv⟩ : ∃ u, us = [u] ∧ RelV v u := by
    cases r with
    | cons a b => cases b; exact ⟨_, rfl, a⟩
  obtain ⟨nm, qual, par, msg, file, ps, body, sc, kV, doc, pm, ct, ccl, cl, an, od, cdd, cld, osl, ccs, csl, cvs, tf, ar, cda, cc, a1, a2, a3, a4, a5, a6, b1, b2, b3, b4, kd, pl, z1, z2, z3, z4, z5, z6, z7, z8, z9, z10, z11, z12⟩ := Z.ex
  obtain ⟨hh, g, d, t1, os⟩ := s1
  have hk : ∀ b o, X.base.get? b = some o → hh.get? b = some o := I1.bk
  refine xs_call (xc_at I1.kIn Z.xc) (I1.kIn _ _ z1) rfl fun h1 e1 me => ?_
  obtain ⟨tp, q1, q2, q3⟩ := me.there
  have nb : X.base.get? e1 = none := by
    cases zz : X.base.get? e1 with
    | none => rfl
    | some o => have := hk _ _ zz; rw [me.new] at this; cases this
  have hsu : X.mg "super" = none := mg_none_of I1.ok.mod.kin I1.ok.mod.glob Z.su
  refine wpAny_call (codeAny_mono (R := fun r s' => r = .ok (.ret .none) ∧ ∃ e oe vs, Value.ref e1 = .ref e ∧ XAt s'.heap C (some (.ref fI)) ∧ s'.heap.get? e = some oe ∧ oe.cls = .ref C ∧ oe.data = .fields vs ∧ vs[1]? = some .none ∧ X.xe (.ref e) s') (xs_init (base := X.base) (par := par) (fld := fld) (LE := LE) (C := C) I1.ok.mod (fun b o z => me.keeps _ _ (hk _ _ z)) nb Z.x1 Z.xc (hr.make C [u] []).depth z1 z2 z3 z4 z5 z6 hsu Z.top (by decide +kernel) z7 z8 z9 (z10 _ _) z11 z12 q1 rfl rfl rfl rfl fun h2 t2 dx T y1 y2 y3 y4 => ⟨rfl, e1, _, _, rfl, ?_, y1, rfl, rfl, rfl, ?_⟩) ?_)
  · exact (xc_at I1.kIn Z.xc).keeps fun b o z => y4 _ _ (fun y => by rw [y] at z; rw [me.new] at z; cases z) (me.keeps _ _ z)
  · have kk : ∀ b o, hh.get? b = some o → h2.get? b = some o := fun b o z => y4 _ _ (fun y => by rw [y, me.new] at z; cases z) (me.keeps _ _ z)
    have d1 : h1.get? dx = none := Heap.get?_none_of_le y2
    have d0 : hh.get? dx = none := by
      cases zz : hh.get? dx with
      | none => rfl
      | some o => have := me.keeps _ _ zz; rw [d1] at this; cases this
    have Hd : H1 dx = none := I1.hok.none d0
    have He : H1 e1 = none := I1.hok.none me.new
    have ed : e1 ≠ dx := fun y => by rw [← y, q1] at d1; cases d1
    have ne : ∀ b o, H1 b = some o → b ≠ dx := fun b o z y => by rw [y, Hd] at z; cases z
    have hun : Un (frs X.stack) [] H1 (upd H1 dx (.xd [(fld, v)])) hh h2 := by
      refine ⟨fun b o z _ _ _ => kk b o z, fun b o z _ _ _ => ⟨o.slots, kk b o z⟩, fun b o z n _ => ?_, fun b o z _ => ⟨o, kk b o z⟩, fun b xs z => ?_, fun b o xs z => ?_, fun b ps z => ⟨#[], ?_⟩⟩
      · rw [upd_ne (fun y => by rw [y, d0] at z; cases z)]; exact n
      · rw [upd_ne (ne _ _ z)]; exact z
      · rw [upd_ne (ne _ _ z)]; exact z
      · rw [upd_ne (ne _ _ z), z]; simp
    have hho : HOk X.prog X.w (upd H1 dx (.xd [(fld, v)])) h2 := fun b o z => by
      by_cases hb : b = dx
      · subst hb
        rw [upd_same] at z
        cases z
        refine ⟨_, y3, fun f => ?_⟩
        show RelO (([(fld, v)] : List (Str × V)).lookup f) _
        rw [List.lookup_cons]
        by_cases hf : f = fld
        · subst hf; simp only [beq_self_eq_true, if_true]; exact rv
        · have : (f == fld) = false := by simpa using hf
          rw [this, if_neg hf]; exact trivial
      · rw [upd_ne hb] at z
        exact (I1.hok b o z).stay (fun c w' _ y => kk c w' y) (fun c y => by rw [upd_ne (ne _ _ y)]; exact y) fun c xs y => by rw [upd_ne (ne _ _ y)]; exact y
    exact hx pins σ H1 ⟨hh, g, d, t1, os⟩ (.ref e1) ⟨h2, g, d, t2, os⟩ I1 ⟨e1, .ref C, some dx, _, rfl, rfl, I1.bare, hun, hho, ⟨me.new, by rw [upd_ne ed]; exact He⟩, ⟨_, _, y1, rfl, rfl, rfl, by simp, .inl ⟨rfl, rfl⟩⟩, q dx Hd⟩
  · rintro _ s' ⟨rfl, z⟩
    exact ⟨rfl, z⟩
end
end L2

set_option maxRecDepth 100000
namespace L2
open PySem PySem.Spec PyProof.Rows PySem.W
section
variable {prog : Program} {w : World} {A : Around} {E : Value → Shared → Prop} {h : Heap} {g : Array GenState} {d : Drawn} {t : Nat} {os : OsState} {a C LE dx : Addr} {o : Obj} {vs : Array Value} {name : Str} {v : Value} {mA : Str → Option Value}
theorem ld_at {M : Model} {Q : Obj → Shared → Prop} (ho : h.get? a = some o) (hq : Q o ⟨h, g, d, t, os⟩) : wpAny M A (load a) Q E ⟨h, g, d, t, os⟩ := wpAny_load ho hq
theorem nsg_at {M : Model} {Q : Option Value → Shared → Prop} (hn : h.Ns1 dx mA) (hm : mA name = some v) (hq : Q (some v) ⟨h, g, d, t, os⟩) : wpAny M A (nsGet dx name) Q E ⟨h, g, d, t, os⟩ := wpAny_nsGet hn.ns (by rw [hm]; exact hq)
theorem xa_entry {init : Option Value} {tk : Tok} {Q : Fin → Shared → Prop} (xa : XAt h C init) (no : Looks (model prog w) h (typeLookup (.ref C) name) none) (hx : h.get? a = some o) (hc : o.cls = .ref C) (hd : o.data = .fields vs) (hdx : o.dict = some dx) (hn : h.Ns1 dx mA) (hm : mA name = some v)
    (hq : Q (.done (.ret v)) ⟨h, g, d, t, os⟩) : wpAny (model prog w) A (Builtin.«object.__getattribute__» ⟨[.ref a, .str name tk], []⟩) Q E ⟨h, g, d, t, os⟩ := by
  obtain ⟨oc, od, odt, osl⟩ := o
  dsimp only at hc hd hdx
  subst hc hd hdx
  obtain ⟨nm, qn, N, bs, bm, sn, sub, ab, col, dd, k0, k1, k2, k3, k5, mN, hC, _, _, _⟩ := xa.out
  repeat (any_goals (first | assumption | (with_reducible refine wpAny_loadPart_at hx ?_) | (with_reducible refine ld_at hC ?_) | (with_reducible refine nsg_at hn hm ?_) | (with_reducible refine Looks.at no ?_) | wp_step))
/-- what an own exception's class says of attributes -/
structure GetAt (M : Model) (h : Heap) (C : Addr) : Prop where
  ga : Looks M h (typeLookup (.ref C) "__getattribute__") (some (.builtin "BaseException.__getattribute__"))
  gn : Looks M h (typeLookup (.ref C) "__getattr__") none
  be : Looks M h (isSubtype (.ref C) (.type "BaseException")) true
  ob : Looks M h (isSubtype (.ref C) (.type "object")) true
  kc : Looks M h (typeLookup (.ref C) "__class__") (some (.builtin "object.__class__"))
theorem xa_chk {M : Model} {n : Value} {Q : Unit → Shared → Prop} (G : GetAt M h C) (hx : h.get? a = some o) (hc : o.cls = .ref C) (hq : Q () ⟨h, g, d, t, os⟩) : wpAny M A (checkBuiltinCall "BaseException.__getattribute__" ⟨[.ref a, n], []⟩) Q E ⟨h, g, d, t, os⟩ := by
  have kd : builtinKind "BaseException.__getattribute__" = some .slot := by decide +kernel
  have sp : splitId "BaseException.__getattribute__" = some ("BaseException", "__getattribute__") := by decide +kernel
  have be := G.be
  simp only [checkBuiltinCall, kd, sp]
  refine wpAny_bind ?_
  unfold isInstance
  repeat (first | (with_reducible refine wpAny_loadPart_at hx ?_; rw [hc]) | (with_reducible refine Looks.at be ?_) | wp_step)
  exact hq
theorem xa_by {tk : Tok} {fill expr : Bool} {Q : Value → Shared → Prop} (hv : handedOut v = pure v) (G : GetAt (model prog w) h C) (hx : h.get? a = some o) (hc : o.cls = .ref C)
    (hq : ∀ A', codeAny (model prog w) A' (.call (.builtin "BaseException.__getattribute__") ⟨[.ref a, .str name tk], []⟩) (fun r s' => r = .ok (.ret v) ∧ Q v s') ⟨h, g, d, t, os⟩) :
    wpAny (model prog w) A (getAttrBy (.ref a) (.str name tk) fill expr) Q E ⟨h, g, d, t, os⟩ := by
  have FB := PySem.F.attr_ValueError
  have f3 := FB.ga.bind (.ref a)
  have z0 : (expr && onTheHeap (Value.builtin "BaseException.__getattribute__")) = false := by cases expr <;> rfl
  have z2 : (Value.builtin "BaseException.__getattribute__" == Value.builtin "object.__getattribute__") = false := by decide +kernel
  have z1 : (onTheHeap (Value.ref C) && Value.builtin "BaseException.__getattribute__" == Value.builtin "object.__getattribute__") = false := by rw [z2]; rfl
  have ga := G.ga
  have gn := G.gn
  repeat (any_goals (first | assumption | (with_reducible refine wpAny_loadPart_at hx ?_; rw [hc]) | (with_reducible refine Looks.at ga ?_) | (with_reducible refine Looks.at gn ?_) | wp_step))
  refine codeAny_mono (hq _) fun r s' ⟨z, q⟩ => ?_
  subst z
  show wpAny _ _ (handedOut v) _ _ _
  rw [hv]
  exact wpAny_pure q
theorem xa_fld {init : Option Value} {expr : Bool} {Q : Value → Shared → Prop} (hv : handedOut v = pure v) (G : GetAt (model prog w) h C) (xa : XAt h C init) (no : Looks (model prog w) h (typeLookup (.ref C) name) none) (hx : h.get? a = some o) (hc : o.cls = .ref C) (hd : o.data = .fields vs) (hdx : o.dict = some dx) (hn : h.Ns1 dx mA) (hm : mA name = some v)
    (hq : Q v ⟨h, g, d, t + 1, os⟩) : wpAny (model prog w) A (getAttr (.ref a) name expr) Q E ⟨h, g, d, t, os⟩ := by
  unfold getAttr
  refine wpAny_bind (wpAny_mkText ?_)
  refine xa_by (v := v) hv G hx hc fun A' => ?_
  exact codeAny_call_builtin PySem.F.attr_ValueError.ga.plain PySem.F.entry_bexc_ga (xa_chk G hx hc (xa_entry xa no hx hc hd hdx hn hm ⟨rfl, hq⟩))
theorem xa_ce {tk : Tok} {Q : Fin → Shared → Prop} (G : GetAt (model prog w) h C) (hx : h.get? a = some o) (hc : o.cls = .ref C) (hd : o.data = .fields vs)
    (hq : Q (.done (.ret (.ref C))) ⟨h, g, d, t, os⟩) : wpAny (model prog w) A (Builtin.«object.__getattribute__» ⟨[.ref a, .str "__class__" tk], []⟩) Q E ⟨h, g, d, t, os⟩ := by
  have ty : (⟨h, g, d, t, os⟩ : Shared).TypeIs (.builtin "object.__class__") "getset_descriptor" := PySem.F.typeOf_object_class
  have f5 := PySem.F.typeOf_object_class
  have f6 := PySem.F.slot_gs_get.lookup
  have f7 := PySem.F.slot_gs_set.lookup
  have kc := G.kc
  repeat (any_goals (first | assumption | (with_reducible refine wpAny_loadPart_at hx ?_; rw [hc]) | (with_reducible refine Looks.at kc ?_) | wp_step))
  have ow : (".".intercalate ("object.__class__".cutAt '.').dropLast) = "object" := by kernel_rfl
  have ob := G.ob
  rw [← ow] at ob
  refine codeAny_call_builtin PySem.F.slot_gs_get.plain PySem.F.entry_gs_get (PySem.F.slot_gs_get.check _ _ _ _ _ _ _ _ ty (PySem.F.args_gs_get _ _ _) ?_)
  repeat (any_goals (first | assumption | (with_reducible refine wpAny_loadPart_at hx ?_; rw [hc]) | (with_reducible refine Looks.at ob ?_) | wp_step))
  refine ⟨Code.quiet_builtin _ (by decide +kernel), codeAny_builtin PySem.F.entry_object_class ?_⟩
  unfold Builtin.«object.__class__»
  repeat (any_goals (first | assumption | (with_reducible refine wpAny_loadPart_at hx ?_; rw [hc]) | wp_step))
theorem xa_cls {Q : Option Value → Shared → Prop} (G : GetAt (model prog w) h C) (hx : h.get? a = some o) (hc : o.cls = .ref C) (hd : o.data = .fields vs) (hq : Q (some (.ref C)) ⟨h, g, d, t + 1, os⟩) :
    wpAny (model prog w) A (getAttr? (.ref a) "__class__") Q E ⟨h, g, d, t, os⟩ := by
  unfold getAttr? getAttrBy?
  refine wpAny_bind (wpAny_mkText (wpAny_bind (wpAny_attempt ?_)))
  refine xa_by (v := .ref C) rfl G hx hc fun A' => ?_
  exact codeAny_call_builtin PySem.F.attr_ValueError.ga.plain PySem.F.entry_bexc_ga (xa_chk G hx hc (xa_ce G hx hc hd ⟨rfl, wpAny_pure hq⟩))
end
end L2

set_option maxRecDepth 100000
namespace L2
open PySem PySem.Spec PyProof.Rows PySem.W
/-- an own exception's class, as K knows it: what attributes are read by -/
structure XG (K : Frag) (C : Addr) : Prop where
  cl : ∃ cd, clsIn K C = some cd
  ga : findIn K (.ref C) "__getattribute__" = some (some (.builtin "BaseException.__getattribute__"))
  gn : findIn K (.ref C) "__getattr__" = some none
  kc : findIn K (.ref C) "__class__" = some (some (.builtin "object.__class__"))
  be : mroIn K C (.type "BaseException") = some true
  ob : mroIn K C (.type "object") = some true
theorem XG.at_ {K : Frag} {C : Addr} {M : Model} {h : Heap} (x : XG K C) (X : K.In h) : GetAt M h C := ⟨looks_findIn X x.ga, looks_findIn X x.gn, looks_mroIn X x.be, looks_mroIn X x.ob, looks_findIn X x.kc⟩
theorem kitx_exc {K : Frag} {a C : Addr} {dx : Option Addr} (x : XG K C) : KitX K (.ref a) (.ref C) (ExcIs a (.ref C) dx) where
  ty := fun M h X ⟨oe, vs, q, c, _⟩ => by rw [← c]; exact looks_cls q
  it := fun M h X _ => by
    obtain ⟨cd, e⟩ := x.cl
    unfold clsIn at e
    split at e
    · rename_i ho
      intro A' Q' E' s' k q
      unfold isType loadHead
      exact wpAny_bind (wpAny_loadPart (k _ _ (X _ _ ho)) (wpAny_pure q))
    · cases e
  ne := fun h tp dd its n sl X htp => by
    obtain ⟨cd, e⟩ := x.cl
    refine Bool.eq_false_iff.mpr fun q => ?_
    have z : C = tp := Value.ref.inj (beq_iff_eq.mp q)
    subst z
    unfold clsIn at e
    split at e
    · rename_i ho
      have z := (X _ _ ho).symm.trans htp
      cases z
    · cases e
  ca := fun {_ _ _ _ _ s} X ⟨oe, vs, q, c, _, f⟩ k => by
    obtain ⟨h, g, d, t, os⟩ := s
    exact xa_cls (x.at_ X) q c f k
/-- the type of a value, with own exceptions -/
inductive TyX (K : Frag) (H : Hp) : V → Value → Prop
  | std {x : V} {T : String} (h : TyS K H x T) : TyX K H x (.type T)
  | exc {a C : Addr} {dx : Option Addr} (h : H a = some (.ext (ExcIs a (.ref C) dx))) (g : XG K C) : TyX K H (.ref a) (.ref C)
def cV : V → Option Value
  | .ty n => some (.type n)
  | .ref C => some (.ref C)
  | _ => none
def rIsiX (K : Frag) : List V → Hp → VK → Prop := fun xs H Q => ∃ x c tv cv b, xs = [x, c] ∧ TyX K H x tv ∧ cV c = some cv ∧ kitOne K tv cv = some b ∧ Q (.bl b) H
section
variable {X : Cx}
theorem cn_isiX : CallR X (.builtin "isinstance") (rIsiX X.K) := by
  intro pins s σ H xs us Q I r h
  obtain ⟨x, c, tv, cv, b, rfl, ty, hc, e, q⟩ := h
  obtain ⟨u, w, rfl, ru, rw_⟩ := vals2 r
  obtain rfl : w = cv := by
    cases c with
    | ty n => cases hc; exact rw_
    | ref C => cases hc; exact rw_
    | _ => cases hc
  have fin : ∀ tk, EP X pins σ Q (.bool b) { s with toks := tk } := fun tk => ⟨.bl b, H, I.tok tk, rfl, q⟩
  cases ty with
  | std ty =>
    cases ty with
    | non => cases ru; exact kia_one kitx_none I.kIn True.intro e (fun z => nomatch z) fin
    | bl y => cases ru; exact kia_one kitx_bool I.kIn True.intro e (fun z => nomatch z) fin
    | int i => obtain ⟨t, rfl⟩ := ru; exact kia_one kitx_int I.kIn True.intro e (fun z => nomatch z) fin
    | str y => obtain ⟨t, rfl⟩ := ru; exact kia_one kitx_str I.kIn True.intro e (fun z => nomatch z) fin
    | lst hq =>
      cases ru
      obtain ⟨its, _, ⟨o, nn, e1, e2, _⟩, _⟩ := I.list hq
      exact kia_one kitx_list I.kIn ⟨o, e1, e2⟩ e (fun z => nomatch z) fin
    | tup hq =>
      cases ru
      obtain ⟨its, _, ⟨o, e1, e2, _⟩, _⟩ := I.tuple hq
      exact kia_one kitx_tuple I.kIn ⟨o, e1, e2⟩ e (fun z => nomatch z) fin
    | @dk a kvs hq =>
      cases ru
      obtain ⟨_, _, vs, _, o, es, ep, h1, h2, _⟩ := (show ObjOk X.prog X.w H s.heap a (.dK kvs) from I.hok a _ hq)
      exact kia_one kitx_dict I.kIn ⟨o, h1, h2.1⟩ e (fun z => nomatch z) fin
  | @exc a C dx hq g =>
    cases ru
    have z : ExcIs a (.ref C) dx s.heap := (I.hok a _ hq).1
    exact kia_one (kitx_exc g) I.kIn z e (fun z => nomatch z) fin
/-- e.f of a caught exception -/
def tXAt (K : Frag) (ta : TE) (f : Str) : TE := fun σ H Q => ta σ H fun x H1 => ∃ a C dx fs v init, x = .ref a ∧ H1 a = some (.ext (ExcIs a (.ref C) (some dx))) ∧ XG K C ∧ xcIn K C init = true ∧ findIn K (.ref C) f = some none ∧ H1 dx = some (.xd fs) ∧ fs.lookup f = some v ∧ Q v H1
variable {e : Expr} {ta : TE} {f : Str} {pos : Pos}
theorem handed_rel {v : V} {u : Value} (r : RelV v u) : handedOut u = pure u := by
  cases v with
  | non => cases r; rfl
  | bl b => cases r; rfl
  | int i => obtain ⟨t, rfl⟩ := r; rfl
  | str x => obtain ⟨t, rfl⟩ := r; rfl
  | byt b => obtain ⟨t, rfl⟩ := r; rfl
  | flt b => obtain ⟨t, rfl⟩ := r; rfl
  | ref a => cases r; rfl
  | ty n => cases r; rfl
theorem pe_xat (he : PE X e ta) (hb : attributeBase e f X.env (eval e X.env) = eval e X.env) : PE X (.Attribute e f pos) (tXAt X.K ta f) := by
  intro pins s σ H Q I h
  refine attr_of hb (thn (he pins s σ H _ I h) fun u s1 ⟨x, H1, I1, rx, a, C, dx, fs, v, init, ex, ea, g, xc, nf, ed, l, q⟩ => ?_)
  subst ex
  obtain rfl : u = Value.ref a := rx
  obtain ⟨oe, vs, q0, q1, q2, q3⟩ := (I1.hok a _ ea).1
  obtain ⟨mA, n1, rel⟩ : ∃ mA, s1.heap.Ns1 dx mA ∧ ∀ f, RelO (fs.lookup f) (mA f) := I1.hok dx _ ed
  have rf := rel f
  rw [l] at rf
  cases hm : mA f with
  | none => rw [hm] at rf; exact rf.elim
  | some uv =>
    rw [hm] at rf
    have rf' : RelV v uv := rf
    obtain ⟨hh, gg, d, t, os⟩ := s1
    exact xa_fld (handed_rel rf') (g.at_ I1.kIn) (xc_at I1.kIn xc) (looks_findIn I1.kIn nf) q0 q1 q3 q2 n1 hm ⟨v, H1, I1.tok _, rf', q⟩
end
end L2

set_option maxRecDepth 100000
namespace L2
open PySem PySem.Spec PyProof.Rows PySem.W
/-- the facts over K as truths -/
def xgIn (K : Frag) (C : Addr) : Bool := (clsIn K C).isSome && (findIn K (.ref C) "__getattribute__" == some (some (.builtin "BaseException.__getattribute__")) && (findIn K (.ref C) "__getattr__" == some none && (findIn K (.ref C) "__class__" == some (some (.builtin "object.__class__")) && (mroIn K C (.type "BaseException") == some true && mroIn K C (.type "object") == some true))))
theorem xg_of {K : Frag} {C : Addr} (h : xgIn K C = true) : XG K C := by
  unfold xgIn at h
  simp only [Bool.and_eq_true, beq_iff_eq] at h
  obtain ⟨a, b, c, d, e, f⟩ := h
  exact ⟨Option.isSome_iff_exists.mp a, b, c, d, e, f⟩
def xk1In (K : Frag) (C LE : Addr) (fld : Str) : Bool := (clsIn K C).map (·.mro) == some (.ref C :: .ref LE :: bmV) && (findIn K (.ref C) fld == some none && (findIn K (.ref C) "__setattr__" == some (some (.builtin "object.__setattr__")) && (alongIn K "__init__" (.ref LE :: bmV) == some (some (.builtin "ValueError.__init__")) && nsIn K cStatics "thirdparty.any" == some none)))
theorem xk1_of {K : Frag} {C LE : Addr} {fld : Str} (h : xk1In K C LE fld = true) : XK1 K C LE fld := by
  unfold xk1In at h
  simp only [Bool.and_eq_true, beq_iff_eq] at h
  obtain ⟨a, b, c, d, e⟩ := h
  exact ⟨a, b, c, d, e⟩
/-- the text of an own __init__ -/
structure IBody (st : Stmt) (fld par : Str) : Prop where
  sc : ISc (defScope st) par
  se : ∃ ar, ((defArgs st).posonlyargs ++ (defArgs st).args).head? = some ar ∧ ar.arg = "self"
  bd : ∀ (nm qual : Str) (kV doc pm : Value) (an : Option Addr) (cda : Value) (ct : Value) (cc : Addr) (e u : Value), bindArgs (ksFn nm qual (defArgs st) (defBody st) (defScope st) .none kV doc pm an cda ct cc) ⟨[e, u], []⟩ = pure [(("self" : Str), e), (par, u)]
  tx : ∃ (msg : Str) (a1 a2 a3 a4 a5 a6 b1 b2 b3 b4 : Pos) (kd : Nat) (pl : Env → Sem Bool), defBody st = [.Expr (.Call (.Attribute (.Call (.Name "super" a1) [] [] a2) "__init__" a3) [.Constant (.str msg) kd a4] [] a5) a6, .Assign [.Attribute (.Name "self" b1) fld b2] (.Name par b3) b4] ∧
    ∀ env, eval (.Call (.Attribute (.Call (.Name "super" a1) [] [] a2) "__init__" a3) [.Constant (.str msg) kd a4] [] a5) env = (do
      let ov ← attributeBase (.Call (.Name "super" a1) [] [] a2) "__init__" env (eval (.Call (.Name "super" a1) [] [] a2) env)
      standAt a3.atName
      let (f, first) ← holding [ov] (getMethod ov "__init__" (pl env))
      callWith a5 f first (backTo a5 (starEach [.Constant (.str msg) kd a4] env)) [])
theorem xini_mk {prog : Program} {K : Frag} {C LE fI cda cc : Addr} {fld par nm qual file : Str} {st : Stmt} {kV doc pm ct ccl cl : Value} {an od cdd cld : Option Addr} {osl ccs csl : Array (Option Value)} {cvs : Array Value} {tf : Tok}
    (T : IBody st fld par) (x1 : xk1In K C LE fld = true) (xc : xcIn K C (some (.ref fI)) = true) (kp : keepIn K (.ref C) = true) (su : nsIn K mainGlobals "super" = some none) (top : (prog.main.scope.names.lookup ("super" : Str)).isSome = false)
    (lk : K.lookup fI = some ⟨.type "function", od, .func (ksFn nm qual (defArgs st) (defBody st) (defScope st) .none kV doc pm an (.ref cda) ct cc), osl⟩) (cd : codeIn K (.ref cda) qual = true) (hcode : K.lookup cda = some ⟨ccl, cdd, .fields cvs, ccs⟩) (hvs : cvs[2]? = some (.str file tf)) (hfile : ((prog.main.file : Str) == file) = true)
    (hcell : K.lookup cc = some ⟨cl, cld, .cell (some (.ref C)), csl⟩) : XIni prog K C LE fI fld := by
  obtain ⟨ar, s1, s2⟩ := T.se
  obtain ⟨msg, a1, a2, a3, a4, a5, a6, b1, b2, b3, b4, kd, pl, t1, t2⟩ := T.tx
  exact ⟨xk1_of x1, xc, kp, su, top, nm, qual, par, msg, file, _, _, _, kV, doc, pm, ct, ccl, cl, an, od, cdd, cld, osl, ccs, csl, cvs, tf, ar, cda, cc, a1, a2, a3, a4, a5, a6, b1, b2, b3, b4, kd, pl, lk, cd, hcode, hvs, hfile, hcell, T.sc, s1, s2, T.bd nm qual kV doc pm an (.ref cda) ct cc, t1, t2⟩
/-! ### the words of the generator -/
theorem px0 {X : Cx} : Px X (fun _ => E0) := fun _ _ _ _ _ _ _ h => by
  obtain ⟨a, C, dx, H', _, _, _, _, _, _, _, q⟩ := h
  exact q.elim
section
variable {X : Cx} {b₀ : Stmt} {body suite : List Stmt} {c x : Str} {p hp pos : Pos} {B : Addr} {i : Nat} {tb : (St → XK) → TS} {ts : TS}
theorem qs_try (hN : X.N.Nodup) (hi : X.N[i]? = some x) (hx : X.env.scope.names.lookup x = some .local) (hg : Gl X c) (hm : X.mg c = some (.ref B)) (hst : X.stack = X.env :: X.outer) (hfr : X.env.frame = some X.env.locals) (hex : X.ex = [])
    (hb : ∀ (xe' : Value → Shared → Prop) (pn' : List (Addr × Obj)) (XR : St → XK), Px (X.tr xe' pn') XR → PSsw (X.tr xe' pn') body (tb XR)) (hs : ∀ e : Addr, PSsw (X.su e) (b₀ :: suite) ts) (hdb : (c == ("__debug__" : Str)) = false) :
    PSw X (.Try body [.ExceptHandler (some (.Name c p)) (some x) (b₀ :: suite) hp] [] [] pos) (tTry X.K B i tb ts) := ⟨ps_try hN hi hx hg hm hst hfr hex (fun xe' pn' XR h => (hb xe' pn' XR h).run) (fun e => (hs e).run) hdb⟩
end
/-! ### readings -/
section
variable {σ : St} {H : Hp} {D : Ends} {Q : VK}
theorem rd_callX {sp : Sp} {dvs : List V} {XR : St → XK} {t : TA} (h : t σ H fun vs H1 => sp (vs ++ dvs) H1 Q (XR σ)) : tCallX sp dvs XR t σ H Q := h
theorem rd_raise1 {C : Addr} {fld : Str} {XR : St → XK} {t : TA} (h : t σ H fun vs H1 => ∃ v, vs = [v] ∧ ∀ dx, H1 dx = none → XR σ (.ref C) (some dx) (upd H1 dx (.xd [(fld, v)]))) : tRaise1 C fld XR t D σ H := h
theorem rd_try {K : Frag} {B : Addr} {i : Nat} {tb : (St → XK) → TS} {ts : TS}
    (h : tb (fun σ' C dx H' => exmOne K C (.ref B) = some true ∧ ∀ a, H' a = none → ts (D.un i) (σ'.set i (some (.ref a))) (upd H' a (.ext (ExcIs a C dx)))) D σ H) : tTry K B i tb ts D σ H := h
theorem rd_unx {i : Nat} (h : D.nx (σ.set i none) H) : (D.un i).nx σ H := h
theorem rd_xat {K : Frag} {ta : TE} {f : Str} (h : ta σ H fun x H1 => ∃ a C dx fs v init, x = .ref a ∧ H1 a = some (.ext (ExcIs a (.ref C) (some dx))) ∧ XG K C ∧ xcIn K C init = true ∧ findIn K (.ref C) f = some none ∧ H1 dx = some (.xd fs) ∧ fs.lookup f = some v ∧ Q v H1) : tXAt K ta f σ H Q := h
theorem rd_isiX {K : Frag} {x c : V} {tv cv : Value} {b : Bool} (ty : TyX K H x tv) (hc : cV c = some cv) (e : kitOne K tv cv = some b) (h : Q (.bl b) H) : rIsiX K [x, c] H Q := ⟨x, c, tv, cv, b, rfl, ty, hc, e, h⟩
end
end L2

set_option maxRecDepth 100000
namespace L2
open PySem PySem.Spec PyProof.Rows PySem.W
/-- the names of an own __init__(self) -/
structure ISc0 (sc : Scope) : Prop where
  su : sc.names.lookup ("super" : Str) = some .globalImplicit
  cl : sc.names.lookup ("__class__" : Str) = some .free
  se : sc.names.lookup ("self" : Str) = some .local
  nc : ∀ x ∈ sc.names, x.2 ≠ .cell
  co : sc.isCoroutine = false
  ge : sc.isGenerator = false
  ki : sc.kind = .function
section
variable {prog : Program} {w : World} {A : Around} {R : Result → Shared → Prop} {h : Heap} {g : Array GenState} {d : Drawn} {t : Nat} {os : OsState}
variable {K : Frag} {mg : Str → Option Value} {base : Heap} {f C LE e cda cc : Addr} {fld nm qual msg file : Str} {ps : Arguments} {body : List Stmt} {sc : Scope} {kV doc pm ct oc ccl cl : Value} {an od cdd cld : Option Addr} {osl ccs csl : Array (Option Value)} {cvs vs : Array Value} {tf : Tok} {init : Option Value} {oe : Obj} {t0 : Addr} {ar : Arg}
  {a1 a2 a3 a4 a5 a6 : Pos} {kd : Nat} {pl : Env → Sem Bool}
end
section
variable {prog : Program} {w : World} {A : Around} {E : Value → Shared → Prop} {h : Heap} {g : Array GenState} {d : Drawn} {t : Nat} {os : OsState} {C fI : Addr} {oI : Obj}
end
/-- an own exception with __init__(self) that only calls super's -/
structure XIni0 (prog : Program) (K : Frag) (C LE fI : Addr) (fld : Str) : Prop where
  x1 : XK1 K C LE fld
  xc : xcIn K C (some (.ref fI)) = true
  kp : keepIn K (.ref C) = true
  su : nsIn K mainGlobals "super" = some none
  top : (prog.main.scope.names.lookup ("super" : Str)).isSome = false
  ex : ∃ (nm qual msg file : Str) (ps : Arguments) (body : List Stmt) (sc : Scope) (kV doc pm ct ccl cl : Value) (an od cdd cld : Option Addr) (osl ccs csl : Array (Option Value)) (cvs : Array Value) (tf : Tok) (ar : Arg) (cda cc : Addr)
    (a1 a2 a3 a4 a5 a6 : Pos) (kd : Nat) (pl : Env → Sem Bool),
    K.lookup fI = some ⟨.type "function", od, .func (ksFn nm qual ps body sc .none kV doc pm an (.ref cda) ct cc), osl⟩ ∧ codeIn K (.ref cda) qual = true ∧ K.lookup cda = some ⟨ccl, cdd, .fields cvs, ccs⟩ ∧ cvs[2]? = some (.str file tf) ∧ ((prog.main.file : Str) == file) = true ∧
    K.lookup cc = some ⟨cl, cld, .cell (some (.ref C)), csl⟩ ∧ ISc0 sc ∧ (ps.posonlyargs ++ ps.args).head? = some ar ∧ ar.arg = "self" ∧ (∀ e : Value, bindArgs (ksFn nm qual ps body sc .none kV doc pm an (.ref cda) ct cc) ⟨[e], []⟩ = pure [(("self" : Str), e)]) ∧
    body = [.Expr (.Call (.Attribute (.Call (.Name "super" a1) [] [] a2) "__init__" a3) [.Constant (.str msg) kd a4] [] a5) a6] ∧
    ∀ env, eval (.Call (.Attribute (.Call (.Name "super" a1) [] [] a2) "__init__" a3) [.Constant (.str msg) kd a4] [] a5) env = (do
      let ov ← attributeBase (.Call (.Name "super" a1) [] [] a2) "__init__" env (eval (.Call (.Name "super" a1) [] [] a2) env)
      standAt a3.atName
      let (f, first) ← holding [ov] (getMethod ov "__init__" (pl env))
      callWith a5 f first (backTo a5 (starEach [.Constant (.str msg) kd a4] env)) [])
section
variable {X : Cx} {C LE fI : Addr} {fld x : Str} {XR : St → XK} {np cpos pos : Pos}
end
/-- the text of an own __init__(self) -/
structure IBody0 (st : Stmt) : Prop where
  sc : ISc0 (defScope st)
  se : ∃ ar, ((defArgs st).posonlyargs ++ (defArgs st).args).head? = some ar ∧ ar.arg = "self"
  bd : ∀ (nm qual : Str) (kV doc pm : Value) (an : Option Addr) (cda : Value) (ct : Value) (cc : Addr) (e : Value), bindArgs (ksFn nm qual (defArgs st) (defBody st) (defScope st) .none kV doc pm an cda ct cc) ⟨[e], []⟩ = pure [(("self" : Str), e)]
  tx : ∃ (msg : Str) (a1 a2 a3 a4 a5 a6 : Pos) (kd : Nat) (pl : Env → Sem Bool), defBody st = [.Expr (.Call (.Attribute (.Call (.Name "super" a1) [] [] a2) "__init__" a3) [.Constant (.str msg) kd a4] [] a5) a6] ∧
    ∀ env, eval (.Call (.Attribute (.Call (.Name "super" a1) [] [] a2) "__init__" a3) [.Constant (.str msg) kd a4] [] a5) env = (do
      let ov ← attributeBase (.Call (.Name "super" a1) [] [] a2) "__init__" env (eval (.Call (.Name "super" a1) [] [] a2) env)
      standAt a3.atName
      let (f, first) ← holding [ov] (getMethod ov "__init__" (pl env))
      callWith a5 f first (backTo a5 (starEach [.Constant (.str msg) kd a4] env)) [])
end L2

set_option maxRecDepth 100000
namespace Zt
open PySem PySem.Spec
section
variable {prog : Program} {w : World} {A : Around} {E : Value → Shared → Prop} {s : Shared}
end
end Zt
namespace L2
open PySem PySem.Spec PyProof.Rows
/-- enumerate of the tuple at a: each turn lays a new pair -/
def Ite (K : PySem.W.Frag) (a : Addr) : It :=
  ⟨fun i H => ∃ xs x, SqT K H a xs ∧ xs[i]? = some x,
   fun i H v H' => ∃ p x, H p = none ∧ (∀ xs, SqT K H a xs → xs[i]? = some x) ∧ v = .ref p ∧ H' = upd H p (.tup [.int i, x]),
   fun i H => ∃ xs, SqT K H a xs ∧ xs.length ≤ i⟩
/-- for i, x in enumerate(t), a tuple -/
def iEnum (K : PySem.W.Frag) (ta : TA) : TI := fun σ H R => ta σ H fun vs H1 => ∃ a, vs = [.ref a] ∧ (∃ xs, SqT K H1 a xs) ∧ R (Ite K a) H1
end L2

namespace Mt
open PySem L2
end Mt
namespace Mt
open PySem L2
end Mt

set_option maxRecDepth 100000
namespace Zt
open PySem PySem.Spec
abbrev gl1 (h : Heap) (l1 : Addr) : Heap := h.push { cls := .type "list_iterator", data := .fields #[.ref l1, .int 0 0] }
abbrev gl2 (h : Heap) (l1 l2 : Addr) : Heap := (gl1 h l1).push { cls := .type "list_iterator", data := .fields #[.ref l2, .int 0 0] }
abbrev gl3 (h : Heap) (l1 l2 : Addr) : Heap := (gl2 h l1 l2).push { cls := .type "tuple", data := .seq #[.ref h.objs.size, .ref (gl1 h l1).objs.size] }
abbrev gl4 (h : Heap) (l1 l2 : Addr) : Heap := (gl3 h l1 l2).push { cls := .type "tuple", data := .seq #[.none, .none] }
abbrev gl5 (h : Heap) (l1 l2 : Addr) : Heap := (gl4 h l1 l2).push { cls := .type "zip", data := .fields #[.none, .bool false, .bool false, .ref (gl2 h l1 l2).objs.size, .ref (gl3 h l1 l2).objs.size] }

end Zt


namespace L2
open PySem PySem.Spec PyProof.Rows
/-- zip of the tuples at a and b: each turn lays a new pair -/
def ItzL (K : PySem.W.Frag) (a b : Addr) : It :=
  ⟨fun i H => ∃ xs ys x y, SqL K H a xs ∧ SqL K H b ys ∧ xs[i]? = some x ∧ ys[i]? = some y,
   fun i H v H' => ∃ p x y, H p = none ∧ (∀ xs, SqL K H a xs → xs[i]? = some x) ∧ (∀ ys, SqL K H b ys → ys[i]? = some y) ∧ v = .ref p ∧ H' = upd H p (.tup [x, y]),
   fun i H => ∃ xs ys, SqL K H a xs ∧ SqL K H b ys ∧ (xs.length ≤ i ∨ ys.length ≤ i)⟩
/-- for a, b in zip(t, u), two tuples -/
def iZipL (K : PySem.W.Frag) (ta : TA) : TI := fun σ H R => ta σ H fun vs H1 => ∃ a b, vs = [.ref a, .ref b] ∧ (∃ xs, SqL K H1 a xs) ∧ (∃ ys, SqL K H1 b ys) ∧ R (ItzL K a b) H1
end L2

set_option maxRecDepth 100000
namespace L2
open PySem PySem.Spec PyProof.Rows PySem.W
/-- a call by a name of the def's own that holds a def -/
def tCallV (i : Nat) (f : Addr) (sp : Sp) (dvs : List V) (XR : St → XK) (t : TA) : TE := fun σ H Q => σ[i]? = some (some (.ref f)) ∧ t σ H fun vs H1 => sp (vs ++ dvs) H1 Q (XR σ)
/-- (*e, ..) -/
def tStar (K : Frag) (te : TE) (t : TA) : TA := fun σ H Q => te σ H fun v H1 => ∃ a xs, v = .ref a ∧ SqT K H1 a xs ∧ t σ H1 fun vs H2 => Q (xs ++ vs) H2
section
variable {X : Cx} {e : Expr} {es : List Expr} {te : TE} {t : TA} {pos p : Pos} {k i : Nat} {f : Addr} {fd : FuncData} {ps : List Str} {sp : Sp} {dvs : List V} {ds : List Value} {XR : St → XK} {x : Str}
variable {tg a b : Expr} {ta : TA}
end
section
variable {σ : St} {H : Hp} {Q : VK}
end
/-- a comprehension with a test, by an invariant over the list so far -/
theorem comp_byF {J : It} {H1 : Hp} {acc : Addr} {σ0 : St} {g : TG} {tt : TT} {te : TE} {Q : VK} (n : Nat) (hn : n < sizeLine) (Pv : Nat → List V → St → Hp → Prop) (h0 : Pv 0 [] σ0 (upd H1 acc (.lst [])))
    (hgo : ∀ i vs σc H, i < n → vs.length ≤ i → H acc = some (.lst vs) → Pv i vs σc H → J.go i H ∧ ∀ x H', J.yld i H x H' → ∀ (R : St → V → Hp → Prop) (S : St → Hp → Prop),
      (∀ σ2 v H4, H4 acc = some (.lst vs) → Pv (i + 1) (vs ++ [v]) σ2 (upd H4 acc (.lst (vs ++ [v]))) → R σ2 v H4) → (∀ σ2 H4, H4 acc = some (.lst vs) → Pv (i + 1) vs σ2 H4 → S σ2 H4) →
      g x σc H' fun σ2 H2 => tt σ2 H2 fun b H3 => if b = true then te σ2 H3 (R σ2) else S σ2 H3)
    (hst : ∀ vs σc H, vs.length ≤ n → H acc = some (.lst vs) → Pv n vs σc H → J.stop n H ∧ Q (.ref acc) H) : CompW σ0 J H1 acc g tt te Q := by
  refine ⟨fun i m σc H => m = n - i ∧ i ≤ n ∧ ∃ vs, vs.length ≤ i ∧ H acc = some (.lst vs) ∧ Pv i vs σc H, ⟨n, by simp, Nat.zero_le _, [], Nat.le_refl _, upd_same, h0⟩, ?_⟩
  rintro i m σc H ⟨rfl, hi, vs, hl, ha, hp⟩
  by_cases hlt : i < n
  · obtain ⟨g1, g2⟩ := hgo i vs σc H hlt hl ha hp
    refine .inr ⟨g1, fun σ' H' => i + 1 ≤ n ∧ ∃ vs, vs.length ≤ i + 1 ∧ H' acc = some (.lst vs) ∧ Pv (i + 1) vs σ' H', fun σ' H' q => ⟨n - (i + 1), by omega, rfl, q⟩, fun x H' y => ?_⟩
    exact g2 x H' y (fun σ2 v H4 => ∃ xs, H4 acc = some (.lst xs) ∧ xs.length < sizeLine ∧ (i + 1 ≤ n ∧ ∃ vs, vs.length ≤ i + 1 ∧ (upd H4 acc (.lst (xs ++ [v]))) acc = some (.lst vs) ∧ Pv (i + 1) vs σ2 (upd H4 acc (.lst (xs ++ [v])))))
      (fun σ2 H4 => i + 1 ≤ n ∧ ∃ vs, vs.length ≤ i + 1 ∧ H4 acc = some (.lst vs) ∧ Pv (i + 1) vs σ2 H4)
      (fun σ2 v H4 q1 q2 => ⟨vs, q1, by omega, hlt, vs ++ [v], by simp; omega, upd_same, q2⟩) fun σ2 H4 q1 q2 => ⟨hlt, vs, by omega, q1, q2⟩
  · have e : i = n := by omega
    subst e
    exact .inl (hst vs σc H hl ha hp)
end L2

set_option maxRecDepth 100000
namespace L2
open PySem PySem.Spec PyProof.Rows
/-! ### a list unpacked -/
def gLst (K : PySem.W.Frag) (n : Nat) (t : TGs) : TG := fun v σ H Q => ∃ a xs, v = .ref a ∧ SqL K H a xs ∧ xs.length = n ∧ t xs σ H Q
theorem pg_lst {X : Cx} {es : List Expr} {k : Nat} {pos : Pos} {t : TGs} {n : Nat} (hc : X.calm = true) (h : PGs X es t)
    (hn : (assignEach es X.env).length = n) (hst : (assignEach es X.env).findIdx? (·.1) = none) : PG X (.Tuple es k pos) (gLst X.K n t) := by
  intro pins s σ H v u Q I r hw
  obtain ⟨a, xs, rfl, hq, hl, hw⟩ := hw
  cases r
  obtain ⟨its, rv, pl, hz⟩ := I.list hq
  rw [assign_Tuple]
  refine wpAny_bind (wpAny_standAt ?_)
  unfold unpack
  rw [hst]
  have e : (assignEach es X.env).length = its.toArray.size := by simp [hn, ← hl, rv.length]
  rw [e]
  refine wpAny_bind (wpAny_holding (PySem.W.kun_itemsOf (I.ok.hd hc) pl.isList fun h' hx => ?_))
  have I1 : Inv X pins σ H { s with heap := h' } := I.kept (t' := s.toks) fun b o e => hx b o (Nat.ne_of_lt (Heap.lt_size e)) e
  exact h pins _ σ H xs _ Q I1 (by simpa using rv) hw
theorem rd_glst {K : PySem.W.Frag} {n : Nat} {t : TGs} {σ : St} {H : Hp} {a : Addr} {xs : List V} {Q : St → Hp → Prop} (hq : SqL K H a xs) (hl : xs.length = n) (h : t xs σ H Q) : gLst K n t (.ref a) σ H Q := ⟨a, xs, rfl, hq, hl, h⟩
/-! ### range as a value, list of it -/
def tRange (ta : TA) : TE := fun σ H Q => ta σ H fun vs H1 => ∃ j : Int, vs = [.int j] ∧ -(2 ^ 62) ≤ j ∧ j < 2 ^ 62 ∧ ∀ p, H1 p = none → Q (.ref p) (upd H1 p (.rng 0 j))
section
variable {X : Cx} {a e o : Expr} {es : List Expr} {ta t tk : TA} {p pos apos cpos : Pos}
def rListR : TR := fun xs H Q => ∃ p j, xs = [.ref p] ∧ H p = some (.rng 0 j) ∧ -(2 ^ 62) ≤ j ∧ j ≤ 1000 ∧ ∀ l, H l = none → Q (.ref l) (upd H l (.lst ((List.range j.toNat).map fun (i : Nat) => V.int (i : Int))))
/-! ### int of a truth or a number -/
def rInt1 : TR := fun xs H Q => (∃ i, xs = [.int i] ∧ Q (.int i) H) ∨ ∃ k, xs = [.bl k] ∧ Q (.int (if k then 1 else 0)) H
theorem cn_int : CallR X (.type "int") rInt1 := call_int1
/-! ### l.pop(i) -/
/-! ### keywords -/
structure PKs (X : Cx) (kws : List Keyword) (t : TA) : Prop where
  run : PK X kws t
def kg2 {α : Type} : List α → List α → List α
  | [a], [b] => [a, b]
  | _, _ => []
end
section
variable {σ : St} {H : Hp} {Q : VK} {K : PySem.W.Frag}
theorem rd_intB {k : Bool} (h : Q (.int (if k then 1 else 0)) H) : rInt1 [.bl k] H Q := .inr ⟨k, rfl, h⟩
end
/-! ### in and not in -/
section
variable {X : Cx} {K : PySem.W.Frag}
theorem on_notIn : OpR X (compareOp .NotIn) (rIn X.K true) := op_notIn_seq
def rInD (K : PySem.W.Frag) (neg : Bool) : R2 := fun x y H Q => ∃ N d xs, Dt K N H x d ∧ Dt K N H y (.list xs) ∧ PyData.canLayAll0 xs = true ∧ d.canLay0 = true ∧ d.depth ≤ 30 ∧ Q (.bl (if neg then !xs.any (fun y => PyData.eqv y d) else xs.any (fun y => PyData.eqv y d))) H
end
section
variable {H : Hp} {Q : VK} {K : PySem.W.Frag} {p : Addr} {xs : List V} {x : V}
theorem rd_notInL (hq : SqL K H p xs) (fx : flatV x = true) (fs : xs.all flatV = true) (h : Q (.bl (!inV x xs)) H) : rIn K true x (.ref p) H Q := ⟨p, xs, rfl, .inl hq, fx, fs, h⟩
end
theorem flat_ints (ns : List Int) : (ns.map V.int).all flatV = true := by induction ns with
  | nil => rfl
  | cons n ns ih => rw [List.map_cons, List.all_cons, ih]; rfl
theorem inV_ints (n : Int) (ns : List Int) : inV (.int n) (ns.map V.int) = decide (n ∈ ns) := by
  unfold inV
  induction ns with
  | nil => simp
  | cons m ns ih =>
    rw [List.map_cons, List.any_cons, ih]
    have e : eqV (.int m) (.int n) = decide (m = n) := by
      show (m == n) = _
      exact (Bool.eq_iff_iff.mpr (by simp))
    rw [e]
    by_cases h : m = n
    · subst h; simp
    · have : n ≠ m := fun z => h z.symm
      simp [h, this]
/-! ### the deck of a law -/
/-- a deck at p: cells at c, how many were taken (at most m), rests at r -/
structure Dk (H : Hp) (p c r : Addr) (m : Nat) : Prop where
  ex : ∃ (cs rs : List Int) (n : Int), H p = some (.lst [.ref c, .int n, .ref r]) ∧ H c = some (.lst (cs.map V.int)) ∧ H r = some (.lst (rs.map V.int)) ∧ c ≠ p ∧ c ≠ r ∧ r ≠ p ∧ 1 ≤ cs.length ∧ cs.length ≤ 63 ∧ rs.length = cs.length ∧ 0 ≤ n ∧ n ≤ m
theorem Dk.mono {H : Hp} {p c r : Addr} {m m' : Nat} (h : Dk H p c r m) (e : m ≤ m') : Dk H p c r m' := by
  obtain ⟨cs, rs, n, a1, a2, a3, a4, a5, a6, a7, a8, a9, a10, a11⟩ := h.ex
  exact ⟨cs, rs, n, a1, a2, a3, a4, a5, a6, a7, a8, a9, a10, by omega⟩
theorem Dk.same {H H' : Hp} {p c r : Addr} {m : Nat} (h : Dk H p c r m) (e : Same H H') : Dk H' p c r m := by
  obtain ⟨cs, rs, n, a1, a2, a3, a4, a5, a6, a7, a8, a9, a10, a11⟩ := h.ex
  exact ⟨cs, rs, n, e _ _ a1, e _ _ a2, e _ _ a3, a4, a5, a6, a7, a8, a9, a10, a11⟩
theorem Dk.new {H : Hp} {p c r : Addr} {m : Nat} (h : Dk H p c r m) {q : Addr} (n : H q = none) : q ∉ [p, c, r] := by
  obtain ⟨cs, rs, _, a1, a2, a3, _⟩ := h.ex
  intro z
  simp only [List.mem_cons, List.not_mem_nil, or_false] at z
  rcases z with rfl | rfl | rfl
  · rw [a1] at n; cases n
  · rw [a2] at n; cases n
  · rw [a3] at n; cases n
/-- kept where another thing is written that is none of the deck's -/
theorem Dk.upd {H : Hp} {p c r q : Addr} {m : Nat} {o : HO} (h : Dk H p c r m) (n : q ∉ [p, c, r]) : Dk (upd H q o) p c r m := by
  obtain ⟨cs, rs, k, a1, a2, a3, a4, a5, a6, a7, a8, a9, a10, a11⟩ := h.ex
  simp only [List.mem_cons, List.not_mem_nil, or_false, not_or] at n
  exact ⟨cs, rs, k, by rw [upd_ne (Ne.symm n.1)]; exact a1, by rw [upd_ne (Ne.symm n.2.1)]; exact a2, by rw [upd_ne (Ne.symm n.2.2)]; exact a3, a4, a5, a6, a7, a8, a9, a10, a11⟩
theorem nin_pr {p c r q : Addr} (h : q ∉ [p, c, r]) : q ∉ [p, r] := by
  simp only [List.mem_cons, List.not_mem_nil, or_false, not_or] at h ⊢
  exact ⟨h.1, h.2.2⟩
end L2

open PySem L2
namespace Mt
/-! ### rules -/
def cruleD : List PyData → Bool
  | [a, b] => withinD 1 7 b && (strEq "held" a || strEq "applied" a)
  | _ => false
def ruleD : PyData → Bool
  | .tuple [a] => strEq "written" a
  | .tuple ds => cruleD ds
  | _ => false
def needD : PyData → Int
  | .tuple [_, .int k] => k + 1
  | _ => 1
/-! ### houses that were not asked -/
def freeL (h : Nat) (as : List Int) : List Int := ((List.range h).map fun (k : Nat) => (k : Int)).filter fun a => !decide (a ∈ as)
/-- unlike houses below h -/
structure AsOk (h : Int) (as : List Int) : Prop where
  nd : as.Nodup
  rg : ∀ a ∈ as, 0 ≤ a ∧ a < h
end Mt
namespace L2
theorem ixN_nat {n j : Nat} (h : j < n) : ixN n (j : Int) = some j := by
  unfold ixN
  rw [if_pos (by omega), if_pos (by omega)]; simp
theorem cutV_take (xs : List V) (n : Nat) : cutV xs none (some (n : Int)) = xs.take n := by
  unfold cutV
  have e : HT.sIx xs.length xs.length (some (n : Int)) = min n xs.length := HT.sIx_nat _ _ n
  rw [e, HT.sIx_none, List.drop_zero, Nat.sub_zero]
  rcases Nat.le_total n xs.length with h | h
  · rw [Nat.min_eq_left h]
  · rw [Nat.min_eq_right h, List.take_length, List.take_of_length_le h]
end L2
namespace Mt
/-! ### all sets of so many -/
def rangeI (n : Nat) : List Int := (List.range n).map fun (k : Nat) => (k : Int)
def setsL (s : Nat) : Nat → List (List Int)
  | 0 => [[]]
  | n + 1 => setsL s n ++ ((setsL s n).filter fun xs => decide (xs.length < s)).map fun xs => xs ++ [(n : Int)]
def setsOf (s n : Nat) : List (List Int) := (setsL s n).filter fun xs => decide (xs.length = s)
def lstI (xs : List Int) : PyData := .list (xs.map PyData.int)
/-- lists of numbers, none of them at N -/
def LsAll (N : List Addr) (H : Hp) : List V → List (List Int) → Prop
  | [], [] => True
  | v :: vs, xs :: xss => (∃ l, v = .ref l ∧ l ∉ N ∧ H l = some (.lst (xs.map V.int))) ∧ LsAll N H vs xss
  | _, _ => False
theorem dtInts {K : PySem.W.Frag} {N : List Addr} {H : Hp} : ∀ xs : List Int, DtAll K N H (xs.map V.int) (xs.map PyData.int)
  | [] => .nil
  | x :: xs => .cons (.int x) (dtInts xs)
end Mt
namespace L2
mutual
theorem Dt.sub {K : PySem.W.Frag} {N N' : List Addr} {H : Hp} (s : ∀ b ∈ N', b ∈ N) : ∀ {v : V} {d : PyData}, Dt K N H v d → Dt K N' H v d
  | _, _, .non => .non
  | _, _, .bl b => .bl b
  | _, _, .int i => .int i
  | _, _, .str x => .str x
  | _, _, .tup h n r => .tup h (fun z => n (s _ z)) (DtAll.sub s r)
  | _, _, .lst h n r => .lst h (fun z => n (s _ z)) (DtAll.sub s r)
  | _, _, .dk0 h n => .dk0 h (fun z => n (s _ z))
  | _, _, .dk1 h n r => .dk1 h (fun z => n (s _ z)) (Dt.sub s r)
theorem DtAll.sub {K : PySem.W.Frag} {N N' : List Addr} {H : Hp} (s : ∀ b ∈ N', b ∈ N) : ∀ {vs : List V} {ds : List PyData}, DtAll K N H vs ds → DtAll K N' H vs ds
  | _, _, .nil => .nil
  | _, _, .cons h r => .cons (Dt.sub s h) (DtAll.sub s r)
end
theorem Dt.nil {K : PySem.W.Frag} {N : List Addr} {H : Hp} {v : V} {d : PyData} (h : Dt K N H v d) : Dt K [] H v d := h.sub (fun _ z => by cases z)
end L2
namespace L2
open PySem
theorem eqv_empty (ds : List PyData) : PyData.eqv (.list ds) (.list []) = ds.isEmpty := by cases ds <;> rfl
theorem dtL {K : PySem.W.Frag} {N : List Addr} {H : Hp} {a : Addr} {xs : List Int} (h : H a = some (.lst (xs.map V.int))) (n : a ∉ N) : Dt K N H (.ref a) (Mt.lstI xs) := .lst (SqL.of h) n (Mt.dtInts xs)
theorem canL : ∀ xs : List Int, PyData.canLayAll0 (xs.map PyData.int) = true
  | [] => rfl
  | x :: xs => by simp only [List.map_cons, PyData.canLayAll0, PyData.canLay0, canL xs, Bool.true_and]
theorem depthL : ∀ xs : List Int, PyData.depthAll (xs.map PyData.int) = 0
  | [] => rfl
  | x :: xs => by simp only [List.map_cons, PyData.depthAll, PyData.depth, depthL xs]; rfl
theorem shapedL (xs : List Int) : SeqAt.shaped (Mt.lstI xs) = true := by
  unfold SeqAt.shaped Mt.lstI
  simp only [PyData.canLay0, canL, PyData.depth, depthL]; rfl
/-- tuples that are rules, none of them at N -/
def RuT (H : Hp) (t : Addr) : Prop := H t = some (.tup [.str "written"]) ∨ ∃ w k, H t = some (.tup [.str w, .int k]) ∧ (w = "held" ∨ w = "applied") ∧ 1 ≤ k ∧ k ≤ 7
def RuAll (N : List Addr) (H : Hp) (vs : List V) : Prop := ∀ v ∈ vs, ∃ t, v = .ref t ∧ t ∉ N ∧ RuT H t
end L2

set_option maxRecDepth 100000
namespace L2
open PySem PySem.Spec PyProof.Rows PySem.W
/-- isinstance(x, (C, D, ..)), own classes -/
def rIsiT (K : Frag) : List V → Hp → VK → Prop := fun xs H Q => ∃ (x : V) (tp : Addr) (tv : Value) (cs : List Addr) (b : Bool), xs = [x, .ref tp] ∧ TyX K H x tv ∧ SqT K H tp (cs.map V.ref) ∧ kitAny K tv (cs.map Value.ref) = some b ∧ Q (.bl b) H
theorem refs_vals : ∀ {cs : List Addr} {us : List Value}, Vals (cs.map V.ref) us → us = cs.map Value.ref
  | [], _, .nil => rfl
  | c :: cs, u :: us, .cons r t => by
    have e : u = .ref c := r
    rw [e, refs_vals t, List.map_cons]
section
variable {X : Cx}
theorem cn_isiT : CallR X (.builtin "isinstance") (rIsiT X.K) := by
  intro pins s σ H xs us Q I r h
  obtain ⟨x, tp, tv, cs, b, rfl, ty, hq, e, q⟩ := h
  obtain ⟨u, w, rfl, ru, rw_⟩ := vals2 r
  cases rw_
  obtain ⟨its, rv, ⟨o, e1, e2, n, e3⟩, _⟩ := I.tuple hq
  obtain rfl := refs_vals rv
  obtain ⟨oc, od, odt, osl⟩ := o
  dsimp only at e2 e3
  subst e2 e3
  have fin : ∀ tk, EP X pins σ Q (.bool b) { s with toks := tk } := fun tk => ⟨.bl b, H, I.tok tk, rfl, q⟩
  cases ty with
  | std ty =>
    cases ty with
    | non => cases ru; exact kia_tup kitx_none I.kIn True.intro e1 e (fun z => nomatch z) fin
    | bl y => cases ru; exact kia_tup kitx_bool I.kIn True.intro e1 e (fun z => nomatch z) fin
    | int i => obtain ⟨t, rfl⟩ := ru; exact kia_tup kitx_int I.kIn True.intro e1 e (fun z => nomatch z) fin
    | str y => obtain ⟨t, rfl⟩ := ru; exact kia_tup kitx_str I.kIn True.intro e1 e (fun z => nomatch z) fin
    | lst hq =>
      cases ru
      obtain ⟨its, _, ⟨o, nn, f1, f2, _⟩, _⟩ := I.list hq
      exact kia_tup kitx_list I.kIn ⟨o, f1, f2⟩ e1 e (fun z => nomatch z) fin
    | tup hq =>
      cases ru
      obtain ⟨its, _, ⟨o, f1, f2, _⟩, _⟩ := I.tuple hq
      exact kia_tup kitx_tuple I.kIn ⟨o, f1, f2⟩ e1 e (fun z => nomatch z) fin
    | @dk a kvs hq =>
      cases ru
      obtain ⟨_, _, vs, _, o, es, ep, h1, h2, _⟩ := (show ObjOk X.prog X.w H s.heap a (.dK kvs) from I.hok a _ hq)
      exact kia_tup kitx_dict I.kIn ⟨o, h1, h2.1⟩ e1 e (fun z => nomatch z) fin
  | @exc a C dx hq g =>
    cases ru
    have z : ExcIs a (.ref C) dx s.heap := (I.hok a _ hq).1
    exact kia_tup (kitx_exc g) I.kIn z e1 e (fun z => nomatch z) fin
/-- f(e, k = v) whose exceptions are told -/
def tCallKX (sp : Sp) (gV : List V → List V → List V) (XR : St → XK) (t tk : TA) : TE := fun σ H Q => t σ H fun vs H1 => tk σ H1 fun zs H2 => sp (gV vs zs) H2 Q (XR σ)
end
section
variable {X : Cx} {e : Expr} {es : List Expr} {t tk : TA} {pos p : Pos} {k : Nat} {f : Addr} {fd : FuncData} {ps ks : List Str} {sp : Sp} {XR : St → XK} {x : Str} {kws : List Keyword}
end
theorem kitAny0 {K : Frag} {t : Value} : kitAny K t [] = some false := rfl
theorem kitAnyF {K : Frag} {t c : Value} {r : List Value} (h : kitOne K t c = some false) (h2 : kitAny K t r = some false) : kitAny K t (c :: r) = some false := by
  unfold kitAny; rw [h]; exact h2
theorem rd_isiT {K : Frag} {H : Hp} {Q : VK} {x : V} {tp : Addr} {tv : Value} {cs : List Addr} {b : Bool} (ty : TyX K H x tv) (hq : SqT K H tp (cs.map V.ref)) (e : kitAny K tv (cs.map Value.ref) = some b) (h : Q (.bl b) H) : rIsiT K [x, .ref tp] H Q := ⟨x, tp, tv, cs, b, rfl, ty, hq, e, h⟩
end L2
namespace L2
open PySem
theorem cutV_drop (xs : List V) (n : Nat) : cutV xs (some (n : Int)) none = xs.drop n := by
  unfold cutV
  have e : HT.sIx xs.length 0 (some (n : Int)) = min n xs.length := HT.sIx_nat _ _ n
  rw [e, HT.sIx_none]
  rcases Nat.le_total n xs.length with h | h
  · rw [Nat.min_eq_left h]
    exact List.take_of_length_le (by rw [List.length_drop]; exact Nat.le_refl _)
  · rw [Nat.min_eq_right h, List.drop_of_length_le (Nat.le_refl _), List.drop_of_length_le h, List.take_nil]
theorem Ext.up3 {p c r : Addr} {H H' : Hp} (e : Ext [p, r] H H') : Ext [p, c, r] H H' := e.mono fun b hb => by
  simp only [List.mem_cons, List.not_mem_nil, or_false] at hb ⊢
  rcases hb with h | h
  · exact .inl h
  · exact .inr (.inr h)
end L2
namespace Mt
open PySem
mutual
/-- no lists, no dicts -/
def tupB : PyData → Bool
  | .none => true
  | .bool _ => true
  | .int _ => true
  | .str _ => true
  | .tuple es => tupBAll es
  | _ => false
def tupBAll : List PyData → Bool
  | [] => true
  | e :: es => tupB e && tupBAll es
end
end Mt
namespace Mt
end Mt

set_option maxRecDepth 100000
namespace L2
open PySem PySem.Spec PyProof.Rows
/-! ### new things that are none of the system's -/
def tTupS (t : TA) : TE := fun σ H Q => t σ H fun xs H1 => xs.length ≤ sizeLine ∧ ∀ p H', H1 p = none → p ≠ sysModules → Same H1 H' → H' p = some (.tup xs) → Q (.ref p) H'
def tLstS (t : TA) : TE := fun σ H Q => t σ H fun xs H1 => xs.length ≤ sizeLine ∧ ∀ p H', H1 p = none → p ≠ sysModules → Same H1 H' → H' p = some (.lst xs) → Q (.ref p) H'
def tDisp1 (tk tv : TE) : TE := fun σ H Q => ∀ p, H p = none → p ≠ sysModules → tk σ (upd H p (.dK [])) fun x H1 => tv σ H1 fun y H2 => H2 p = some (.dK []) ∧ ∃ k : Key, x = kV k ∧ Q (.ref p) (upd H2 p (.dK [(k, y)]))
section
variable {X : Cx} {es : List Expr} {t : TA} {pos p : Pos} {K : PySem.W.Frag} {k v a b tg : Expr} {tk tv : TE} {ta : TA} {x : Str}
theorem pe_disp1 (hk : PE X k tk) (hv : PE X v tv) : PE X (.Dict [some k] [v] pos) (tDisp1 tk tv) := by
  intro pins s σ H Q I q
  have hn := I.hok.fresh (Nat.le_refl s.heap.objs.size)
  have hb := I.big
  have I1 := I.laid (a := s.heap.objs.size) (o := .dK []) (h' := s.heap.push { cls := .type "dict", data := .dict #[] }) (t' := s.toks) (fun _ _ q => Heap.get?_push_of_some _ q) (Nat.le_refl _) (dk_empty s.heap I.big)
  refine wpAny_Dict_walk (knd := mixKind X.prog X.w) rfl rfl (by simp) (by show (1 : Nat) ≤ 15; decide) (pairTrees_cons_walk (thn (hk pins _ σ _ _ I1 (q _ hn (Nat.ne_of_gt hb))) fun u s1 ⟨x, H1, I1', rx, q1⟩ => thn (hv pins s1 σ H1 _ I1' q1) fun w2 s2 ⟨y, H2, I2, ry, e, kk, ex, q2⟩ => pairTrees_nil_walk ?_))
  subst ex
  obtain ⟨z, hd, vs0, r0, dd⟩ := dk_of I2.hok e
  cases r0
  refine ⟨[(kk, w2)], ⟨kV_is rx, rfl, True.intro⟩, dd, fun h' dd' hs => ⟨.ref s.heap.objs.size, _, ?_, rfl, q2⟩⟩
  have he : ∃ q, h'.get? s.heap.objs.size = some q := let ⟨q, _, _, hq, _⟩ := dd'; ⟨q, hq⟩
  exact d_write I2 (by rw [e]; exact True.intro) hs he (dk_new (by show (1 : Nat) ≤ sizeLine; decide) hd (.cons ⟨rfl, ry⟩ .nil) dd')
def rReprD (K : PySem.W.Frag) : TR := fun xs H Q => ∃ N x d, xs = [x] ∧ Dt K N H x d ∧ (sysModules ∈ N ∨ d.hasDict = false ∨ d = .dict []) ∧ d.showable = true ∧ d.depth ≤ 30 ∧ d.shown.length ≤ sizeLine ∧ Q (.str d.shown) H
theorem cn_reprD {k : Nat} (hr : Room k X.A) : CallR X (.builtin "repr") (rReprD X.K) := fun pins s σ H xs us Q I r ⟨N, x, d, h0, h1, h2, h3, h4, h5, h6⟩ => by
  rcases h2 with h2 | h2 | h2
  · exact call_reprD (N := N) hr pins s σ H xs us Q I r ⟨x, d, h0, h1, .inl h2, h3, h4, h5, h6⟩
  · exact call_reprD (N := N) hr pins s σ H xs us Q I r ⟨x, d, h0, h1, .inr h2, h3, h4, h5, h6⟩
  · exact call_repr (N := N) hr pins s σ H xs us Q I r ⟨x, d, h0, h1, ⟨h3, h4, h5, .inr h2⟩, h6⟩
end
section
variable {σ : St} {H : Hp} {Q : VK} {K : PySem.W.Frag}
theorem rd_disp1 {tk tv : TE} (h : ∀ p, H p = none → p ≠ sysModules → tk σ (upd H p (.dK [])) fun x H1 => tv σ H1 fun y H2 => H2 p = some (.dK []) ∧ ∃ k : Key, x = kV k ∧ Q (.ref p) (upd H2 p (.dK [(k, y)]))) : tDisp1 tk tv σ H Q := h
theorem rd_reprD {N : List Addr} {x : V} {d : PyData} (hd : Dt K N H x d) (hn : sysModules ∈ N ∨ d.hasDict = false ∨ d = .dict []) (h1 : d.showable = true) (h2 : d.depth ≤ 30) (h3 : d.shown.length ≤ sizeLine) (h : Q (.str d.shown) H) : rReprD K [x] H Q := ⟨N, x, d, rfl, hd, hn, h1, h2, h3, h⟩
end
end L2
namespace L2
open PySem
/-- a thing that can be shown, none of whose objects is one of those at M -/
def OkV (K : PySem.W.Frag) (M : List Addr) (H : Hp) (v : V) : Prop := ∃ N d, (∀ b ∈ M, b ∈ N) ∧ Dt K N H v d ∧ (sysModules ∈ N ∨ d.hasDict = false ∨ d = .dict []) ∧ d.showable = true ∧ d.depth ≤ 30 ∧ d.shown.length ≤ sizeLine
end L2
namespace Mt
open PySem
/-- what the law's deep things are -/
def deepD : Nat → PyData
  | 0 => .tuple []
  | k + 1 => if k % 3 = 0 then .tuple [deepD k] else if k % 3 = 1 then .list [deepD k] else .dict [(.int k, deepD k)]
end Mt
namespace Mt
open PySem L2
end Mt
namespace L2
open PySem Mt
end L2

set_option maxRecDepth 100000
namespace L2
open PySem PySem.Spec PyProof.Rows PySem.W
/-! ### sorted of fewer than 64 numbers, min of numbers, stars of lists -/
def rSort (K : Frag) : TR := fun xs H Q => ∃ (p : Addr) (ns : List Int), xs = [.ref p] ∧ SqL K H p (ns.map V.int) ∧ ns.length < 64 ∧ ∀ (l : Addr) (ns' : List Int), H l = none → ns'.Perm ns → ns'.Pairwise (· ≤ ·) → Q (.ref l) (upd H l (.lst (ns'.map V.int)))
def rMinL (K : Frag) : TR := fun xs H Q => ∃ (p : Addr) (ns : List Int), xs = [.ref p] ∧ SqL K H p (ns.map V.int) ∧ 0 < ns.length ∧ ∀ m, m ∈ ns → (∀ a ∈ ns, m ≤ a) → Q (.int m) H
def tStarL (K : Frag) (te : TE) (t : TA) : TA := fun σ H Q => te σ H fun v H1 => ∃ a xs, v = .ref a ∧ SqL K H1 a xs ∧ t σ H1 fun vs H2 => Q (xs ++ vs) H2
section
variable {X : Cx} {e : Expr} {es : List Expr} {te : TE} {t : TA} {p : Pos}
end
end L2

set_option maxRecDepth 100000
namespace L2
open PySem PySem.Spec PyProof.Rows PySem.W
/-! ### tuple(reversed(a tuple)) -/
def rvObj (t : Addr) (i : Int) : Obj := { cls := .type "reversed", data := .fields #[.ref t, rawInt i] }
def RvAt (h : Heap) (a t : Addr) (i : Int) : Prop := ∃ o, h.get? a = some o ∧ o.cls = .type "reversed" ∧ o.data = .fields #[.ref t, rawInt i]
section
variable {prog : Program} {w : World} {A : Around} {E : Value → Shared → Prop} {s : Shared}
end
end L2

set_option maxRecDepth 100000
namespace L2
open PySem PySem.Spec PyProof.Rows PySem.W
section
variable {prog : Program} {w : World} {A : Around} {E : Value → Shared → Prop} {s : Shared}
end
end L2

set_option maxRecDepth 100000
namespace L2
open PySem PySem.Spec PyProof.Rows PySem.W
section
variable {prog : Program} {w : World} {A : Around} {E : Value → Shared → Prop} {s : Shared}
end
def tTupRev (K : Frag) (ta : TA) : TE := fun σ H Q => ta σ H fun vs H1 => ∃ t xs, vs = [.ref t] ∧ SqT K H1 t xs ∧ xs.length ≤ 1000 ∧ ∀ l H', H1 l = none → Same H1 H' → SqT K H' l xs.reverse → Q (.ref l) H'
section
variable {X : Cx} {a : Expr} {ta : TA} {p p2 pos pos2 : Pos}
end
section
variable {K : Frag} {σ : St} {H : Hp} {Q : VK} {p : Addr}
end
end L2

set_option maxRecDepth 100000
namespace L2
open PySem PySem.Spec PyProof.Rows
/-- zip of two tuples or of two lists -/
def iZipM (K : PySem.W.Frag) (ta : TA) : TI := fun σ H R => ta σ H fun vs H1 => ∃ a b, vs = [.ref a, .ref b] ∧ (((∃ xs, SqT K H1 a xs) ∧ (∃ ys, SqT K H1 b ys) ∧ R (Itz K a b) H1) ∨ ((∃ xs, SqL K H1 a xs) ∧ (∃ ys, SqL K H1 b ys) ∧ R (ItzL K a b) H1))
end L2

set_option maxRecDepth 100000
namespace L2
open PySem PySem.Spec PyProof.Rows PySem.W
/-! ### slots: pairs of a house and a place -/
section
variable {σ : St} {H : Hp}
end
def pairD (p : Int × Int) : PyData := .tuple [.int p.1, .int p.2]
def brokL (room en : Int) (ps : List (Int × Int)) : List Int := (ps.filter fun p => decide (p.2 + room < en)).map (·.1)
def leftL (room en : Int) (ps : List (Int × Int)) : List Int := (ps.filter fun p => decide (p.2 + room ≥ en)).map (·.2)
structure IsCut (room en app : Int) (ps : List (Int × Int)) (m : Int) (ns : List Int) : Prop where
  mem : m ∈ leftL room en ps ++ [app]
  le : ∀ a ∈ leftL room en ps ++ [app], m ≤ a
  perm : ns.Perm (brokL room en ps)
  srt : ns.Pairwise (· ≤ ·)
def slotD (m : Int) (ns : List Int) : PyData := .tuple [.int m, .tuple (ns.map PyData.int)]
theorem at2D {v : Int} (h0 : 0 ≤ v) (h1 : v < 2) (x y : V) : ∃ z, atI [x, y] v = some z ∧ (z = x ∨ z = y) := by
  obtain ⟨j, rfl⟩ := Int.eq_ofNat_of_zero_le h0
  have hj : j < 2 := by omega
  match j, hj with
  | 0, _ => exact ⟨x, rfl, .inl rfl⟩
  | 1, _ => exact ⟨y, rfl, .inr rfl⟩
end L2

set_option maxRecDepth 100000
namespace L2
open PySem PySem.Spec PyProof.Rows PySem.W
/-! ### xs[::-1] of a list -/
theorem fm_congr {α β : Type} {f g : α → Option β} : ∀ {l : List α}, (∀ k ∈ l, f k = g k) → l.filterMap f = l.filterMap g
  | [], _ => rfl
  | x :: l, h => by rw [List.filterMap_cons, List.filterMap_cons, h x (.head _), fm_congr fun k hk => h k (.tail _ hk)]
theorem vals_rev {xs : List V} {us : List Value} (r : Vals xs us) : Vals xs.reverse us.reverse := by
  induction r with
  | nil => exact .nil
  | cons r1 _ ih => rw [List.reverse_cons, List.reverse_cons]; exact ih.append (.cons r1 .nil)
theorem pick_rev (its : List Value) : slicePick its.toArray none none (some (-1)) = its.reverse.toArray := by
  unfold slicePick
  have b : sliceBounds none none (some (-1)) its.toArray.size = ((its.length : Int) - 1, -1, -1) := by
    unfold sliceBounds; simp
  rw [b]
  dsimp only
  congr 1
  have c : (if ((-1 : Int)) > 0 then (if (its.length : Int) - 1 < -1 then (-1 - ((its.length : Int) - 1) + -1 - 1) / -1 else 0) else (if (its.length : Int) - 1 > -1 then ((its.length : Int) - 1 - -1 - -1 - 1) / (-(-1)) else 0)) = (its.length : Int) := by
    rw [if_neg (by decide), show (-(-1) : Int) = 1 from rfl, Int.ediv_one]
    split <;> omega
  unfold sliceRange
  dsimp only
  rw [c, Int.toNat_natCast, List.filterMap_map]
  have e : ∀ k ∈ List.range its.length, ((fun x => its.toArray[x]?) ∘ fun (k : Nat) => ((its.length : Int) - 1 + -1 * (k : Int)).toNat) k = its.reverse[k]? := by
    intro k hk
    have hk := List.mem_range.mp hk
    have : ((its.length : Int) - 1 + -1 * (k : Int)).toNat = its.length - 1 - k := by omega
    simp only [Function.comp, this]
    rw [List.getElem?_reverse hk]; simp
  have f : (List.range its.length).filterMap ((fun x => its.toArray[x]?) ∘ fun (k : Nat) => ((its.length : Int) - 1 + -1 * (k : Int)).toNat) = (List.range its.length).filterMap (fun k => its.reverse[k]?) := fm_congr e
  rw [f]
  have g : ∀ xs : List Value, (List.range xs.length).filterMap (fun k => xs[k]?) = xs := by
    intro xs
    induction xs with
    | nil => rfl
    | cons x xs ih => rw [List.length_cons, List.range_succ_eq_map, List.filterMap_cons]; simp [List.filterMap_map, Function.comp_def, ih]
  have := g its.reverse
  rw [List.length_reverse] at this
  exact this
def tSlRev (K : Frag) (te ts : TE) : TE := fun σ H Q => te σ H fun x H1 => ∃ a xs, x = .ref a ∧ ts σ H1 fun y H2 => y = .int (-1) ∧ SqL K H2 a xs ∧ ∀ p, H2 p = none → Q (.ref p) (upd H2 p (.lst xs.reverse))
theorem pe_sliceRev {X : Cx} {e st : Expr} {te ts : TE} {p2 pos : Pos} (he : PE X e te) (hs : PE X st ts) : PE X (.Subscript e (.Slice none none (some st) p2) pos) (tSlRev X.K te ts) := by
  intro pins s σ H Q I h
  refine Subscript_ (thn (he pins s σ H _ I h) fun v s1 ⟨x, H1, I1, r1, a, xs, ex, q1⟩ => ?_)
  subst ex
  obtain rfl : v = Value.ref a := r1
  refine wpAny_Slice ?_
  rw [evalPart_none]
  refine wpAny_pure ?_
  refine wpAny_pure ?_
  show wpAny _ _ (eval st X.env) _ _ _
  refine thn (hs pins s1 σ H1 _ I1 q1) fun vs s3 ⟨y, H3, I3, ry, ey, hx, q⟩ => ?_
  subst ey
  obtain ⟨tk, rfl⟩ := ry
  have I4 : Inv X pins σ H3 { s3 with heap := s3.heap.push { cls := .type "slice", data := .fields #[.none, .none, .int (-1) tk] } } := I3.kept (t' := s3.toks) fun b ob q => Heap.get?_push_of_some _ q
  obtain ⟨its, r, ht, hz⟩ := I4.list hx
  have hlen := r.length
  show wpAny (model X.prog X.w) X.A (subscriptTail e (.Slice none none (some st) p2) (.ref a) (.ref s3.heap.objs.size)) (EP X pins σ Q) X.xe _
  refine tail_any (ops := [.ref a, .ref s3.heap.objs.size]) ht.isList.typeIs slot_list_getitem.lookup ?_ (by with_unfolding_all rfl)
  refine wpAny_getItem_list_slice ht.isList (Heap.IsSliceOf.new ..) .none .none (.int _ _) (by decide) ?_ (by rw [List.size_toArray] <;> omega)
  rw [pick_rev]
  refine ⟨.ref _, _, I4.laid (t' := s3.toks) (o := .lst xs.reverse) (fun b ob q => Heap.get?_push_of_some _ q) (Nat.le_refl _) ?_, rfl, q _ (I4.hok.fresh (Nat.le_refl _))⟩
  exact ⟨by rw [List.length_reverse]; exact hz, _, 0, vals_rev r, Heap.get?_push_size _ rfl⟩
theorem rd_slRev {K : Frag} {te ts : TE} {σ : St} {H : Hp} {Q : VK} (h : te σ H fun x H1 => ∃ a xs, x = .ref a ∧ ts σ H1 fun y H2 => y = .int (-1) ∧ SqL K H2 a xs ∧ ∀ p, H2 p = none → Q (.ref p) (upd H2 p (.lst xs.reverse))) : tSlRev K te ts σ H Q := h
/-! ### x, y, z = (a, b, c), three local names -/
def tPar3 (i j l : Nat) (ta : TA) : TS := fun D σ H => ta σ H fun vs H1 => ∃ v w u, vs = [v, w, u] ∧ D.nx (((σ.set i (some v)).set j (some w)).set l (some u)) H1
theorem ps_par3 {X : Cx} {i j l : Nat} {x y z : Str} {a b c : Expr} {ta : TA} {px py pz pt pos : Pos} {kt k2 pt2} (hc : X.calm = true) (hN : X.N.Nodup) (hi : X.N[i]? = some x) (hj : X.N[j]? = some y) (hl : X.N[l]? = some z) (hij : i ≠ j) (hil : i ≠ l) (hjl : j ≠ l)
    (hx : X.env.scope.names.lookup x = some .local) (hy : X.env.scope.names.lookup y = some .local) (hz : X.env.scope.names.lookup z = some .local) (ha : PAs X [a, b, c] ta)
    (hw : swappedStores [.Tuple [.Name x px, .Name y py, .Name z pz] kt pt] (.Tuple [a, b, c] k2 pt2) X.env = pure (some [x, y, z]))
    (hs : swapsWithSole [.Tuple [.Name x px, .Name y py, .Name z pz] kt pt] (.Tuple [a, b, c] k2 pt2) pos.line X.env = pure false) :
    PSw X (.Assign [.Tuple [.Name x px, .Name y py, .Name z pz] kt pt] (.Tuple [a, b, c] k2 pt2) pos) (tPar3 i j l ta) := by
  refine ⟨?_⟩
  intro pins s σ H D I h
  rw [exec_Assign_arm]
  refine wpAny_bind (wpAny_standAt ?_)
  rw [hs]
  refine wpAny_bind (wpAny_pure ?_)
  rw [if_neg (by decide)]
  refine wpAny_bind (Tuple_ (thn (ha.run _ pins s σ H _ I h) fun us s1 ⟨vs, H1, I1, r1, q1⟩ => ?_))
  obtain ⟨v, w, t, e1, q1⟩ := q1
  subst e1
  obtain ⟨u1, u2, u3, rfl, rv, rw', rt⟩ : ∃ u1 u2 u3, us = [u1, u2, u3] ∧ RelV v u1 ∧ RelV w u2 ∧ RelV t u3 := by
    cases r1 with
    | cons p q =>
      cases q with
      | cons p' q' =>
        cases q' with
        | cons p'' q'' =>
          cases q''
          exact ⟨_, _, _, rfl, p, p', p''⟩
  refine wpAny_newObj_type ?_ (by show 3 ≤ sizeLine; decide)
  have I2 : Inv X pins σ H1 { s1 with heap := s1.heap.push { cls := .type "tuple", data := .seq [u1, u2, u3].toArray } } := I1.kept (t' := s1.toks) fun b o e => Heap.get?_push_of_some _ e
  rw [hw]
  refine wpAny_bind (wpAny_pure ?_)
  show wpAny (model X.prog X.w) X.A (do rule "assign.swapped-stores"; let items ← unpackItems (.ref s1.heap.objs.size) 3 none; assignInOrder [fun v => bindName X.env z v, fun v => bindName X.env y v, fun v => bindName X.env x v] items.reverse; pure Flow.next) _ _ _
  refine wpAny_bind (wpAny_rule (wpAny_bind (unpackItems_tuple (items := #[u1, u2, u3]) (I.ok.hd hc) (IsTup.new s1.heap _) fun h' hx' => ?_)))
  have I3 := I2.kept (h' := h') (t' := s1.toks) fun b o e => hx' b o (Nat.ne_of_lt (Heap.lt_size e)) e
  show wpAny _ _ (assignInOrder [fun v => bindName X.env z v, fun v => bindName X.env y v, fun v => bindName X.env x v] [u3, u2, u1] >>= fun _ => pure Flow.next) _ _ _
  refine wpAny_bind (assignInOrder_cons (wpAny_bindName (store_ok I3 hN hl (.inl hz) rt (fun s2 I4 => ?_) (.inr hz))))
  refine assignInOrder_cons (wpAny_bindName (store_ok I4 hN hj (.inl hy) rw' (fun s3 I5 => ?_) (.inr hy)))
  refine assignInOrder_cons (wpAny_bindName (store_ok I5 hN hi (.inl hx) rv (fun s4 I6 => assignInOrder_nil (wpAny_pure ?_)) (.inr hx)))
  have e : ((σ.set l (some t)).set j (some w)).set i (some v) = ((σ.set i (some v)).set j (some w)).set l (some t) := by
    rw [List.set_comm _ _ (Ne.symm hij), List.set_comm _ _ (Ne.symm hil), List.set_comm _ _ (Ne.symm hjl)]
  rw [e] at I6
  exact ⟨_, H1, I6, q1⟩
theorem rd_par3 {i j l : Nat} {ta : TA} {D : Ends} {σ : St} {H : Hp} (h : ta σ H fun vs H1 => ∃ v w u, vs = [v, w, u] ∧ D.nx (((σ.set i (some v)).set j (some w)).set l (some u)) H1) : tPar3 i j l ta D σ H := h
end L2

set_option maxRecDepth 100000
namespace L2
open PySem PySem.Spec PyProof.Rows PySem.W
/-! ### dicts of numbers -/
theorem qs_dput {X : Cx} {o i value : Expr} {pos pos' : Pos} {td ty tv : TE} (hu : X.A.units + 1 < cLine) (ho : PE X o td) (hi : PE X i ty) (hv : PE X value tv) (hs : swapsWith value (some (.Subscript o i pos')) pos.line X.env = pure false) : PSw X (.Assign [.Subscript o i pos'] value pos) (sDPut td ty tv) := ⟨ps_dput hu ho hi hv hs⟩
section
variable {σ : St} {H : Hp} {Q : VK} {td ty tv : TE} {D : Ends}
theorem rd_din (h : ty σ H fun y H1 => td σ H1 fun x H2 => ∃ a o, x = .ref a ∧ DGet H2 a y o ∧ Q (.bl o.isSome) H2) : tDIn ty td σ H Q := h
theorem rd_dnotin (h : ty σ H fun y H1 => td σ H1 fun x H2 => ∃ a o, x = .ref a ∧ DGet H2 a y o ∧ Q (.bl (!o.isSome)) H2) : tDNotIn ty td σ H Q := h
theorem rd_dget (h : td σ H fun x H1 => ty σ H1 fun y H2 => ∃ a v, x = .ref a ∧ DGet H2 a y (some v) ∧ Q v H2) : tDGet td ty σ H Q := h
theorem rd_dput (h : tv σ H fun v H1 => td σ H1 fun x H2 => ty σ H2 fun y H3 => ∃ a H4, x = .ref a ∧ DPut H3 a y v H4 ∧ D.nx σ H4) : sDPut td ty tv D σ H := h
end
/-- a dict of numbers by numbers -/
def FK (fs : List (Int × Int)) : List (Key × V) := fs.map fun p => (.inl p.1, .int p.2)
def lookI : List (Int × Int) → Int → Option Int
  | [], _ => none
  | p :: r, k => if p.1 = k then some p.2 else lookI r k
theorem val_FK (k : Int) : ∀ fs : List (Int × Int), valV (FK fs) (.inl k) = (lookI fs k).map V.int
  | [] => rfl
  | p :: r => by
    unfold FK lookI
    rw [List.map_cons]
    by_cases h : p.1 = k
    · rw [valV_pos (by simpa using h), if_pos h]; rfl
    · rw [valV_neg (by simpa using h), if_neg h]; exact val_FK k r
theorem dget_FK {H : Hp} {a : Addr} {fs : List (Int × Int)} (h : H a = some (.dK (FK fs))) (k : Int) : DGet H a (.int k) ((lookI fs k).map V.int) := by
  rw [← val_FK]; exact DGet.k (k := .inl k) h
theorem dput_FK {H : Hp} {a : Addr} {fs : List (Int × Int)} {k v : Int} (h : H a = some (.dK (FK fs))) (hn : lookI fs k = none) (hl : fs.length < 1000) : DPut H a (.int k) (.int v) (upd H a (.dK (FK (fs ++ [(k, v)])))) := by
  have e : putK (FK fs) (.inl k) (.int v) = FK (fs ++ [(k, v)]) := by
    rw [putK_new _ (by rw [val_FK, hn]; rfl)]; simp [FK]
  rw [← e]
  exact DPut.k (k := .inl k) h (by simp only [FK, List.length_map]; exact Nat.lt_of_lt_of_le hl (by decide))
end L2
namespace Mt
open PySem L2
/-! ### told lines -/
def lineD (m : Int) : PyData → Option (Int × Int × Int)
  | .tuple [.int l, .int h, .int p, .int f, .bool _] => if (0 ≤ l ∧ l ≤ 1000000000) ∧ l % m = h ∧ (0 ≤ p ∧ p ≤ 1000000000) ∧ (0 ≤ f ∧ f ≤ 1000000) then some (l, p, f) else none
  | _ => none
def stepF (m : Int) (fs : List (Int × Int)) (d : PyData) : Option (List (Int × Int)) :=
  match lineD m d with
  | none => none
  | some (l, p, f) => match lookI fs l, lookI fs p with
    | none, some g => if p < l ∧ g ≤ f then some (fs ++ [(l, f)]) else none
    | _, _ => none
def runF (m : Int) : List (Int × Int) → List PyData → Option (List (Int × Int))
  | fs, [] => some fs
  | fs, d :: ds => (stepF m fs d).bind fun gs => runF m gs ds
def firstD : PyData → Bool
  | .tuple [.int a, .int b, .none, .int c, .bool false] => decide (a = 0) && decide (b = 0) && decide (c = 0)
  | _ => false
def rightD (m : Int) : PyData → Bool
  | .list (d :: ds) => firstD d && (runF m [(0, 0)] ds).isSome
  | _ => false
theorem runF_snoc (m : Int) : ∀ (ds : List PyData) (fs : List (Int × Int)) (d : PyData), runF m fs (ds ++ [d]) = (runF m fs ds).bind fun gs => stepF m gs d
  | [], fs, d => by simp [runF]
  | e :: ds, fs, d => by
    simp only [List.cons_append, runF]
    cases stepF m fs e with
    | none => rfl
    | some gs => exact runF_snoc m ds gs d
theorem runF_take {m : Int} {ds : List PyData} {fs gs : List (Int × Int)} {i : Nat} {d : PyData} (h : runF m fs (ds.take i) = some gs) (e : ds[i]? = some d) : runF m fs (ds.take (i + 1)) = stepF m gs d := by
  rw [List.take_add_one, e, Option.toList_some, runF_snoc, h]; rfl
theorem runF_app (m : Int) : ∀ (ds : List PyData) (fs : List (Int × Int)) (es : List PyData), runF m fs (ds ++ es) = (runF m fs ds).bind fun gs => runF m gs es
  | [], fs, es => by simp [runF]
  | e :: ds, fs, es => by
    simp only [List.cons_append, runF]
    cases stepF m fs e with
    | none => rfl
    | some gs => exact runF_app m ds gs es
theorem runF_none {m : Int} {ds : List PyData} {fs : List (Int × Int)} (i : Nat) (h : runF m fs (ds.take i) = none) : runF m fs ds = none := by
  rw [← List.take_append_drop i ds, runF_app, h]; rfl
theorem stepF_len {m : Int} {fs gs : List (Int × Int)} {d : PyData} (h : stepF m fs d = some gs) : gs.length = fs.length + 1 := by
  unfold stepF at h
  split at h
  · cases h
  · split at h
    · split at h
      · cases h; simp
      · cases h
    · cases h
theorem runF_len {m : Int} : ∀ {ds : List PyData} {fs gs : List (Int × Int)}, runF m fs ds = some gs → gs.length = fs.length + ds.length
  | [], fs, gs, h => by simp only [runF] at h; cases h; simp
  | d :: ds, fs, gs, h => by
    simp only [runF] at h
    cases e : stepF m fs d with
    | none => rw [e] at h; cases h
    | some hs =>
      rw [e] at h
      have := runF_len (ds := ds) h
      have := stepF_len e
      simp; omega
end Mt
namespace Mt
open PySem L2
theorem dt5 {K : PySem.W.Frag} {N : List Addr} {H : Hp} {xs : List V} {d0 d1 d2 d3 d4 : PyData} (h : DtAll K N H xs [d0, d1, d2, d3, d4]) : ∃ x0 x1 x2 x3 x4, xs = [x0, x1, x2, x3, x4] ∧ Dt K N H x0 d0 ∧ Dt K N H x1 d1 ∧ Dt K N H x2 d2 ∧ Dt K N H x3 d3 ∧ Dt K N H x4 d4 := by
  cases h with
  | cons q0 h => cases h with
    | cons q1 h => cases h with
      | cons q2 h => cases h with
        | cons q3 h => cases h with
          | cons q4 h => cases h; exact ⟨_, _, _, _, _, rfl, q0, q1, q2, q3, q4⟩
theorem within_int {a b : Int} {d : PyData} (h : withinD a b d = true) : ∃ i, d = .int i ∧ a ≤ i ∧ i ≤ b := by
  cases d with
  | int i => simp only [withinD, Bool.and_eq_true, decide_eq_true_eq] at h; exact ⟨i, rfl, h.1, h.2⟩
  | _ => cases h
theorem first_len {ds : List PyData} (h : ds.length ≠ 5) : firstD (.tuple ds) = false := by
  unfold firstD; split
  · rename_i heq; cases heq; simp at h
  · rfl
theorem first_no2 {d0 d1 d2 d3 d4 : PyData} (h : d2 ≠ .none) : firstD (.tuple [d0, d1, d2, d3, d4]) = false := by
  unfold firstD; split
  · rename_i heq; cases heq; simp at h
  · rfl
theorem first_no4 {d0 d1 d2 d3 d4 : PyData} (h : d4 ≠ .bool false) : firstD (.tuple [d0, d1, d2, d3, d4]) = false := by
  unfold firstD; split
  · rename_i heq; cases heq; simp at h
  · rfl
theorem first_num0 {d0 d1 d2 d3 d4 : PyData} (h : numD d0 = false) : firstD (.tuple [d0, d1, d2, d3, d4]) = false := by
  unfold firstD; split
  · rename_i heq; cases heq; simp [numD] at h
  · rfl
theorem first_num1 {d0 d1 d2 d3 d4 : PyData} (h : numD d1 = false) : firstD (.tuple [d0, d1, d2, d3, d4]) = false := by
  unfold firstD; split
  · rename_i heq; cases heq; simp [numD] at h
  · rfl
theorem first_num3 {d0 d1 d2 d3 d4 : PyData} (h : numD d3 = false) : firstD (.tuple [d0, d1, d2, d3, d4]) = false := by
  unfold firstD; split
  · rename_i heq; cases heq; simp [numD] at h
  · rfl
theorem first_eqv (a b c : Int) : PyData.eqv (.tuple [.int a, .int b, .none, .int c, .bool false]) (.tuple [.int 0, .int 0, .none, .int 0, .bool false]) = firstD (.tuple [.int a, .int b, .none, .int c, .bool false]) := by
  simp only [PyData.eqv, PyData.eqvAll, firstD, Bool.and_assoc, Bool.and_true, Bool.true_and, beq_self_eq_true]
  rfl
theorem shaped5 (a b c : Int) : SeqAt.shaped (.tuple [.int a, .int b, .none, .int c, .bool false]) = true := by
  simp [SeqAt.shaped, PyData.canLay0, PyData.canLayAll0, PyData.depth, PyData.depthAll]
theorem line_len {m : Int} {ds : List PyData} (h : ds.length ≠ 5) : lineD m (.tuple ds) = none := by
  unfold lineD; split
  · rename_i heq; cases heq; simp at h
  · rfl
section
variable {m : Int} {d0 d1 d2 d3 d4 : PyData}
theorem line_no0 (h : withinD 0 1000000000 d0 = false) : lineD m (.tuple [d0, d1, d2, d3, d4]) = none := by
  unfold lineD; split
  · rename_i heq; cases heq
    refine if_neg fun z => ?_
    simp [withinD] at h
    omega
  · rfl
theorem line_no1 (h : numD d1 = false) : lineD m (.tuple [d0, d1, d2, d3, d4]) = none := by
  unfold lineD; split
  · rename_i heq; cases heq; simp [numD] at h
  · rfl
theorem line_no2 (h : withinD 0 1000000000 d2 = false) : lineD m (.tuple [d0, d1, d2, d3, d4]) = none := by
  unfold lineD; split
  · rename_i heq; cases heq
    refine if_neg fun z => ?_
    simp [withinD] at h
    omega
  · rfl
theorem line_no3 (h : withinD 0 1000000 d3 = false) : lineD m (.tuple [d0, d1, d2, d3, d4]) = none := by
  unfold lineD; split
  · rename_i heq; cases heq
    refine if_neg fun z => ?_
    simp [withinD] at h
    omega
  · rfl
theorem line_no4 (h : isBoolD d4 = false) : lineD m (.tuple [d0, d1, d2, d3, d4]) = none := by
  unfold lineD; split
  · rename_i heq; cases heq; simp [isBoolD] at h
  · rfl
theorem line_noM {l h : Int} (e : ¬ l % m = h) : lineD m (.tuple [.int l, .int h, d2, d3, d4]) = none := by
  unfold lineD; split
  · rename_i heq; cases heq
    exact if_neg fun z => e z.2.1
  · rfl
theorem line_yes {l h : Int} (h0 : withinD 0 1000000000 (.int l) = true) (e : l % m = h) (h2 : withinD 0 1000000000 d2 = true) (h3 : withinD 0 1000000 d3 = true) : (lineD m (.tuple [.int l, .int h, d2, d3, d4])).isSome = isBoolD d4 := by
  obtain ⟨p, rfl, p0, p1⟩ := within_int h2
  obtain ⟨f, rfl, f0, f1⟩ := within_int h3
  obtain ⟨_, z, l0, l1⟩ := within_int h0
  cases z
  cases d4 with
  | bool b => simp only [lineD]; rw [if_pos ⟨⟨l0, l1⟩, e, ⟨p0, p1⟩, f0, f1⟩]; rfl
  | _ => rfl
theorem line_some {d : PyData} {l p f : Int} (h : lineD m d = some (l, p, f)) : ∃ b, d = .tuple [.int l, .int (l % m), .int p, .int f, .bool b] ∧ 0 ≤ l ∧ l ≤ 1000000000 ∧ 0 ≤ p ∧ p ≤ 1000000000 ∧ 0 ≤ f ∧ f ≤ 1000000 := by
  unfold lineD at h; split at h
  · split at h
    · rename_i b c
      obtain ⟨⟨c1, c2⟩, c3, ⟨c4, c5⟩, c6, c7⟩ := c
      cases h
      exact ⟨b, by rw [c3], c1, c2, c4, c5, c6, c7⟩
    · cases h
  · cases h
end
end Mt
namespace L2
open PySem PySem.Spec PyProof.Rows
/-! ### x is False, whatever x is -/
def rIsnA : R2 := fun x y H Q => ∃ b, y = .bl b ∧ Q (.bl (!decide (x = .bl b))) H
def rIsA : R2 := fun x y H Q => ∃ b, y = .bl b ∧ Q (.bl (decide (x = .bl b))) H
theorem rel_isB {x : V} {v : Value} (b : Bool) (r : RelV x v) : plainIs v (.bool b) = true ∧ (v == Value.bool b) = decide (x = .bl b) := by
  cases x with
  | bl c => cases r; exact ⟨rfl, by cases b <;> cases c <;> rfl⟩
  | non => cases r; exact ⟨rfl, rfl⟩
  | ref a => cases r; exact ⟨rfl, rfl⟩
  | ty n => cases r; exact ⟨rfl, rfl⟩
  | int i => obtain ⟨t, rfl⟩ := r; exact ⟨rfl, rfl⟩
  | str i => obtain ⟨t, rfl⟩ := r; exact ⟨rfl, rfl⟩
  | byt i => obtain ⟨t, rfl⟩ := r; exact ⟨rfl, rfl⟩
  | flt i => obtain ⟨t, rfl⟩ := r; exact ⟨rfl, rfl⟩
theorem on_isnA {X : Cx} : OpR X (compareOp .IsNot) rIsnA := by
  intro pins s σ H x y v u Q I rx ry h
  obtain ⟨b, rfl, q⟩ := h
  cases ry
  obtain ⟨h1, h2⟩ := rel_isB b rx
  exact wpAny_isNot_plain h1 (fin_bl I q (by rw [h2]))
theorem rd_isnA {x : V} {b : Bool} {H : Hp} {Q : VK} (h : Q (.bl (!decide (x = .bl b))) H) : rIsnA x (.bl b) H Q := ⟨b, rfl, h⟩
end L2
namespace PySem
/-- how many items a list has -/
def PyData.width : PyData → Nat
  | .list ds => ds.length
  | _ => 0
end PySem
namespace Mt
open PySem L2
theorem dtLine {K : PySem.W.Frag} {N : List Addr} {H : Hp} {x : V} {l h p f : Int} {b : Bool} (hd : Dt K N H x (.tuple [.int l, .int h, .int p, .int f, .bool b])) : ∃ t, x = .ref t ∧ SqT K H t [.int l, .int h, .int p, .int f, .bl b] := by
  cases hd with
  | tup hq hn hr =>
    obtain ⟨x0, x1, x2, x3, x4, rfl, q0, q1, q2, q3, q4⟩ := dt5 hr
    cases q0; cases q1; cases q2; cases q3; cases q4
    exact ⟨_, rfl, hq⟩
end Mt
namespace Mt
open PySem L2
theorem line_noW {m : Int} {l : Int} {d1 d2 d3 d4 : PyData} (hm : 0 < m) (h : withinD 0 (m - 1) d1 = false) : lineD m (.tuple [.int l, d1, d2, d3, d4]) = none := by
  unfold lineD; split
  · rename_i heq; cases heq
    refine if_neg fun z => ?_
    obtain ⟨_, z, _⟩ := z
    have := Int.emod_nonneg l (b := m) (by omega)
    have := Int.emod_lt_of_pos l hm
    simp [withinD] at h
    omega
  · rfl
theorem step_some {m : Int} {fs gs : List (Int × Int)} {d : PyData} (h : stepF m fs d = some gs) : ∃ l q g b, d = .tuple [.int l, .int (l % m), .int q, .int g, .bool b] ∧ gs = fs ++ [(l, g)] ∧ lookI fs l = none := by
  unfold stepF at h
  split at h
  · cases h
  · rename_i l q g heq
    obtain ⟨b, e, _⟩ := line_some heq
    split at h
    · rename_i hL hP
      split at h
      · cases h; exact ⟨l, q, g, b, e, rfl, hL⟩
      · cases h
    · cases h
theorem w00 (d : PyData) : withinD 0 0 d = (match d with | .int i => decide (i = 0) | _ => false) := by
  cases d with
  | int i =>
    simp only [withinD]
    by_cases h : i = 0
    · subst h; rfl
    · rw [decide_eq_false h]
      by_cases h2 : 0 ≤ i
      · rw [decide_eq_true h2, decide_eq_false (by omega)]; rfl
      · rw [decide_eq_false h2]; rfl
  | _ => rfl
theorem first_filter {d0 d1 d3 : PyData} : (((([d0, d1, d3].filter fun d => !withinD 0 0 d).map fun _ => (1 : Int)).map PyData.int).isEmpty) = firstD (.tuple [d0, d1, .none, d3, .bool false]) := by
  have key : firstD (.tuple [d0, d1, .none, d3, .bool false]) = (withinD 0 0 d0 && withinD 0 0 d1 && withinD 0 0 d3) := by
    cases d0 with
    | int a => cases d1 with
      | int b => cases d3 with
        | int c => simp only [firstD, w00]
        | _ => simp [firstD, withinD]
      | _ => simp [firstD, withinD]
    | _ => simp [firstD, withinD]
  rw [key]
  cases h0 : withinD 0 0 d0 <;> cases h1 : withinD 0 0 d1 <;> cases h3 : withinD 0 0 d3 <;> simp [h0, h1, h3]
end Mt

set_option maxRecDepth 100000
namespace Mt
open PySem L2
structure Ln where
  l : Int
  h : Int
  p : Option Int
  f : Int
  b : Bool
def optD : Option Int → PyData
  | none => .none
  | some i => .int i
def optV : Option Int → V
  | none => .non
  | some i => .int i
def lnD (x : Ln) : PyData := .tuple [.int x.l, .int x.h, optD x.p, .int x.f, .bool x.b]
def lnV (x : Ln) : List V := [.int x.l, .int x.h, optV x.p, .int x.f, .bl x.b]
def ln0 : Ln := ⟨0, 0, none, 0, false⟩
theorem dtLn {K : PySem.W.Frag} {N : List Addr} {H : Hp} {v : V} {x : Ln} (hd : Dt K N H v (lnD x)) : ∃ t, v = .ref t ∧ t ∉ N ∧ SqT K H t (lnV x) ∧ DtAll K N H (lnV x) [.int x.l, .int x.h, optD x.p, .int x.f, .bool x.b] := by
  obtain ⟨l, h, p, f, b⟩ := x
  cases hd with
  | tup hq hn hr =>
    have hr' := hr
    obtain ⟨x0, x1, x2, x3, x4, rfl, q0, q1, q2, q3, q4⟩ := dt5 hr
    cases q0; cases q1; cases q3; cases q4
    have e : x2 = optV p := by cases p with
      | none => cases q2; rfl
      | some i => cases q2; rfl
    subst e
    exact ⟨_, rfl, hn, hq, hr'⟩
structure LnOk (m : Int) (n : Nat) (lns : List Ln) : Prop where
  ex : ∃ rest fs, lns = ln0 :: rest ∧ runF m [(0, 0)] (rest.map lnD) = some fs ∧ (∀ x ∈ lns, lookI fs x.l = some x.f) ∧ ∀ k, (∀ x ∈ lns, x.l ≠ k) → lookI fs k = none
  bd : ∀ x ∈ lns, 0 ≤ x.l ∧ x.l ≤ 10 * n ∧ 0 ≤ x.h ∧ x.h ≤ 7 ∧ 0 ≤ x.f ∧ x.f ≤ 1000000 ∧ ∀ q, x.p = some q → 0 ≤ q ∧ q ≤ 10 * n
  len : lns.length ≤ n + 1
  ge : 1 ≤ lns.length
theorem lookI_app (k v : Int) : ∀ (fs : List (Int × Int)) (j : Int), lookI (fs ++ [(k, v)]) j = match lookI fs j with | some w => some w | none => if k = j then some v else none
  | [], j => by simp [lookI]
  | p :: r, j => by
    simp only [List.cons_append, lookI]
    by_cases h : p.1 = j
    · simp [h]
    · simp only [if_neg h]; exact lookI_app k v r j
theorem LnOk.start (m : Int) : LnOk m 0 [ln0] := by
  refine ⟨⟨[], [(0, 0)], rfl, rfl, fun x hx => ?_, fun k hk => ?_⟩, fun x hx => ?_, by simp, by simp⟩
  · simp at hx; subst hx; rfl
  · have := hk ln0 (by simp)
    simp only [lookI]
    exact if_neg (by simpa [ln0] using this)
  · simp at hx; subst hx; simp [ln0]
theorem LnOk.snoc {m : Int} {n : Nat} {lns : List Ln} {x : Ln} {t f : Int} (b : Bool) (o : LnOk m n lns) (hn : n ≤ 100) (m1 : 1 ≤ m) (m8 : m ≤ 8) (hx : x ∈ lns) (t0 : 0 ≤ t) (t9 : t < 9) (hne : ∀ y ∈ lns, y.l ≠ x.l + 1 + t) (f0 : x.f ≤ f) (f1 : f ≤ 1000000) :
    LnOk m (n + 1) (lns ++ [⟨x.l + 1 + t, (x.l + 1 + t) % m, some x.l, f, b⟩]) := by
  obtain ⟨rest, fs, e, hr, h1, h2⟩ := o.ex
  obtain ⟨b1, b2, b3, b4, b5, b6, b7⟩ := o.bd x hx
  have e1 := Int.emod_nonneg (x.l + 1 + t) (b := m) (by omega)
  have e2 := Int.emod_lt_of_pos (x.l + 1 + t) (b := m) (by omega)
  have hL : lookI fs (x.l + 1 + t) = none := h2 _ hne
  have hP := h1 x hx
  have hl : lineD m (lnD ⟨x.l + 1 + t, (x.l + 1 + t) % m, some x.l, f, b⟩) = some (x.l + 1 + t, x.l, f) := by
    simp only [lnD, optD, lineD]
    exact if_pos ⟨⟨by omega, by omega⟩, trivial, ⟨by omega, by omega⟩, by omega, by omega⟩
  refine ⟨⟨rest ++ [⟨x.l + 1 + t, (x.l + 1 + t) % m, some x.l, f, b⟩], fs ++ [(x.l + 1 + t, f)], by rw [e]; rfl, ?_, fun y hy => ?_, fun k hk => ?_⟩, fun y hy => ?_, ?_, ?_⟩
  · rw [List.map_append]
    show runF m [(0, 0)] (rest.map lnD ++ [lnD ⟨x.l + 1 + t, (x.l + 1 + t) % m, some x.l, f, b⟩]) = _
    rw [runF_snoc, hr]
    simp only [Option.bind_some, stepF, hl, hL, hP]
    exact if_pos ⟨by omega, f0⟩
  · rw [lookI_app]
    rcases List.mem_append.mp hy with h | h
    · rw [h1 y h]
    · simp at h; subst h
      dsimp only
      rw [hL]; simp
  · rw [lookI_app, h2 k fun y hy => hk y (List.mem_append.mpr (.inl hy))]
    exact if_neg fun z => hk ⟨x.l + 1 + t, (x.l + 1 + t) % m, some x.l, f, b⟩ (List.mem_append.mpr (.inr (List.mem_singleton.mpr rfl))) z
  · rcases List.mem_append.mp hy with h | h
    · obtain ⟨c1, c2, c3, c4, c5, c6, c7⟩ := o.bd y h
      exact ⟨c1, by omega, c3, c4, c5, c6, fun q hq => by have := c7 q hq; omega⟩
    · simp at h; subst h
      refine ⟨by dsimp only; omega, by dsimp only; omega, e1, by dsimp only; omega, by dsimp only; omega, f1, fun q hq => ?_⟩
      cases hq; omega
  · rw [List.length_append]; have := o.len; simp; omega
  · rw [List.length_append]; simp
theorem LnOk.mono {m : Int} {n n' : Nat} {lns : List Ln} (o : LnOk m n lns) (h : n ≤ n') : LnOk m n' lns := ⟨o.ex, fun x hx => by
  obtain ⟨c1, c2, c3, c4, c5, c6, c7⟩ := o.bd x hx
  exact ⟨c1, by omega, c3, c4, c5, c6, fun q hq => by have := c7 q hq; omega⟩, Nat.le_trans o.len (by omega), o.ge⟩
theorem LnOk.right {m : Int} {n : Nat} {lns : List Ln} (o : LnOk m n lns) : rightD m (.list (lns.map lnD)) = true := by
  obtain ⟨rest, fs, e, hr, _⟩ := o.ex
  subst e
  simp only [List.map_cons, rightD, hr, Option.isSome_some, Bool.and_true]
  rfl
theorem LnOk.itm {m : Int} {n : Nat} {lns : List Ln} (o : LnOk m n lns) (hn : n ≤ 100) : ∀ d ∈ lns.map lnD, Itm 705 1 d := fun d hd => by
  obtain ⟨x, hx, rfl⟩ := List.mem_map.mp hd
  obtain ⟨b1, b2, b3, b4, b5, b6, b7⟩ := o.bd x hx
  refine (itm_tuple (w := 140) (k := 0) (n := 5) (fun d hd => ?_) (by simp)).mono (by decide) (by decide)
  simp only [List.mem_cons, List.not_mem_nil, or_false] at hd
  rcases hd with rfl | rfl | rfl | rfl | rfl
  · exact itm_small (by omega) (by omega)
  · exact itm_small (by omega) (by omega)
  · cases hp : x.p with
    | none => exact itm_none.mono (by decide) (by decide)
    | some q => have := b7 q hp; exact itm_small (by omega) (by omega)
  · exact itm_small (by omega) (by omega)
  · exact (itm_bool _).mono (by decide) (by decide)
end Mt
namespace L2
open PySem Mt
/-- a thing that the law hands on: it can be shown, none of its objects is at M -/
def OkW (K : PySem.W.Frag) (M : List Addr) (H : Hp) (v : V) : Prop := ∃ d, Dt K M H v d ∧ ((∃ w k, Itm w k d ∧ w ≤ 200000 ∧ k ≤ 30) ∨ d = .dict []) ∧ d.width < 500
theorem OkW.ext {K : PySem.W.Frag} {M : List Addr} {H H' : Hp} {v : V} (h : OkW K M H v) (e : Ext M H H') : OkW K M H' v := by
  obtain ⟨d, h1, h2⟩ := h
  exact ⟨d, h1.ext e, h2⟩
theorem OkW.lst {K : PySem.W.Frag} {M : List Addr} {H : Hp} {q : Addr} {vs : List V} {ds : List PyData} (hq : SqL K H q vs) (nq : q ∉ M) (hd : DtAll K M H vs ds) (hi : ∀ d ∈ ds, Itm 2000 3 d) (hl : ds.length ≤ 90) : OkW K M H (.ref q) :=
  ⟨.list ds, .lst hq nq hd, .inl ⟨_, _, itm_list hi hl, by decide, by decide⟩, by simp only [PyData.width]; omega⟩
theorem OkW.tup {K : PySem.W.Frag} {M : List Addr} {H : Hp} {q : Addr} {vs : List V} {ds : List PyData} (hq : SqT K H q vs) (nq : q ∉ M) (hd : DtAll K M H vs ds) (hi : ∀ d ∈ ds, Itm 2000 3 d) (hl : ds.length ≤ 90) : OkW K M H (.ref q) :=
  ⟨.tuple ds, .tup hq nq hd, .inl ⟨_, _, itm_tuple hi hl, by decide, by decide⟩, by simp only [PyData.width]; omega⟩
theorem OkW.none {K : PySem.W.Frag} {M : List Addr} {H : Hp} : OkW K M H .non := ⟨.none, .non, .inl ⟨_, _, itm_none, by decide, by decide⟩, by decide⟩
theorem DtAll.set {K : PySem.W.Frag} {N : List Addr} {H : Hp} {v : V} {d : PyData} (h : Dt K N H v d) : ∀ {vs : List V} {ds : List PyData} (i : Nat), DtAll K N H vs ds → DtAll K N H (vs.set i v) (ds.set i d)
  | _, _, _, .nil => .nil
  | _, _, 0, .cons _ r => .cons h r
  | _, _, i + 1, .cons q r => .cons q (DtAll.set h i r)
theorem DtAll.rev' {K : PySem.W.Frag} {N : List Addr} {H : Hp} : ∀ {vs : List V} {ds : List PyData}, DtAll K N H vs ds → DtAll K N H vs.reverse ds.reverse
  | _, _, .nil => .nil
  | _, _, .cons q r => by rw [List.reverse_cons, List.reverse_cons]; exact (DtAll.rev' r).append (.cons q .nil)
/-- the lines and one of them, as they lie -/
structure BC (K : PySem.W.Frag) (M : List Addr) (H : Hp) (l : Addr) (vs : List V) (D : List PyData) : Prop where
  g : H l = some (.lst vs)
  n : l ∉ M
  d : DtAll K M H vs D
theorem BC.ext {K : PySem.W.Frag} {M : List Addr} {H H' : Hp} {l : Addr} {vs : List V} {D : List PyData} (b : BC K M H l vs D) (e : Ext M H H') : BC K M H' l vs D := ⟨e _ _ b.g b.n, b.n, b.d.ext e⟩
end L2
namespace L2
open PySem Mt
/-- what is carried along while a law makes things out of a list of lines -/
structure BX (K : PySem.W.Frag) (st c r : Addr) (m : Nat) (l : Addr) (vs : List V) (D : List PyData) (t t2 : Addr) (xs ys : List V) (ds es : List PyData) (L : List V) (H : Hp) : Prop where
  S : Dk H st c r m
  B : BC K [st, c, r] H l vs D
  ok : ∀ u ∈ L, OkW K [st, c, r] H u
  T : SqT K H t xs
  nT : t ∉ [st, c, r]
  dT : DtAll K [st, c, r] H xs ds
  T2 : SqT K H t2 ys
  nT2 : t2 ∉ [st, c, r]
  dT2 : DtAll K [st, c, r] H ys es
section
variable {K : PySem.W.Frag} {st c r : Addr} {m m' : Nat} {l : Addr} {vs : List V} {D : List PyData} {t t2 : Addr} {xs ys : List V} {ds es : List PyData} {L : List V} {H H' : Hp} {v : V}
theorem BX.same (b : BX K st c r m l vs D t t2 xs ys ds es L H) (s : Same H H') : BX K st c r m l vs D t t2 xs ys ds es L H' :=
  ⟨b.S.same s, b.B.ext (Ext.same s), fun u hu => (b.ok u hu).ext (Ext.same s), s.tupS b.T, b.nT, b.dT.ext (Ext.same s), s.tupS b.T2, b.nT2, b.dT2.ext (Ext.same s)⟩
theorem BX.take (b : BX K st c r m l vs D t t2 xs ys ds es L H) (x : Ext [st, r] H H') (S' : Dk H' st c r m') : BX K st c r m' l vs D t t2 xs ys ds es L H' :=
  ⟨S', b.B.ext x.up3, fun u hu => (b.ok u hu).ext x.up3, x.tup b.T (nin_pr b.nT), b.nT, b.dT.ext x.up3, x.tup b.T2 (nin_pr b.nT2), b.nT2, b.dT2.ext x.up3⟩
theorem BX.add (b : BX K st c r m l vs D t t2 xs ys ds es L H) (h : OkW K [st, c, r] H v) : BX K st c r m l vs D t t2 xs ys ds es (v :: L) H :=
  ⟨b.S, b.B, fun u hu => by rcases List.mem_cons.mp hu with rfl | hu; exact h; exact b.ok u hu, b.T, b.nT, b.dT, b.T2, b.nT2, b.dT2⟩
theorem BX.new (b : BX K st c r m l vs D t t2 xs ys ds es L H) {p : Addr} (n : H p = none) : p ∉ [st, c, r] := b.S.new n
end
theorem Ext.one {p : Addr} {o : HO} {H : Hp} {b : Addr} {u : HO} (h : H b = some u) (n : b ≠ p) : upd H p o b = some u := by rw [upd_ne n]; exact h
end L2
namespace L2
open PySem Mt
theorem cut_around {vs : List V} {j : Nat} (h : j < vs.length) : cutV vs none (some (j : Int)) ++ cutV vs (some ((j : Int) + 1)) none = vs.eraseIdx j := by
  rw [show ((j : Int) + 1) = ((j + 1 : Nat) : Int) from rfl, cutV_drop, cutV_take, List.eraseIdx_eq_take_drop_succ]
end L2
namespace Mt
open PySem L2
theorem ln_itm {m : Int} {n : Nat} {lns : List Ln} {x : Ln} (o : LnOk m n lns) (hx : lnD x ∈ lns.map lnD) (hn : n ≤ 100 := by decide) : ∀ d ∈ [PyData.int x.l, .int x.h, optD x.p, .int x.f, .bool x.b], Itm 140 0 d := fun d hd => by
  have hx' : x ∈ lns := by
    obtain ⟨y, hy, e⟩ := List.mem_map.mp hx
    have : y = x := by
      obtain ⟨l, h, p, f, b⟩ := y
      obtain ⟨l', h', p', f', b'⟩ := x
      simp only [lnD, PyData.tuple.injEq, List.cons.injEq, PyData.int.injEq, PyData.bool.injEq, and_true] at e
      obtain ⟨rfl, rfl, e, rfl, rfl⟩ := e
      cases p with
      | none => cases p' with
        | none => rfl
        | some _ => cases e
      | some _ => cases p' with
        | none => cases e
        | some _ => cases e; rfl
    exact this ▸ hy
  obtain ⟨b1, b2, b3, b4, b5, b6, b7⟩ := o.bd x hx'
  simp only [List.mem_cons, List.not_mem_nil, or_false] at hd
  rcases hd with rfl | rfl | rfl | rfl | rfl
  · exact itm_small (by omega) (by omega)
  · exact itm_small (by omega) (by omega)
  · cases hp : x.p with
    | none => exact itm_none.mono (by decide) (by decide)
    | some q => have := b7 q hp; exact itm_small (by omega) (by omega)
  · exact itm_small (by omega) (by omega)
  · exact (itm_bool _).mono (by decide) (by decide)
end Mt
namespace Mt
open PySem L2
theorem weight_app : ∀ as bs : List PyData, PyData.weightAll (as ++ bs) = PyData.weightAll as + PyData.weightAll bs
  | [], bs => by simp [PyData.weightAll]
  | a :: as, bs => by simp only [List.cons_append, PyData.weightAll, weight_app as bs]; omega
theorem itm_mix {as bs : List PyData} {e : PyData} (la : as.length ≤ 61) (lb : bs.length ≤ 61) (ha : ∀ d ∈ as, Itm 705 1 d) (hb : ∀ d ∈ bs, Itm 705 1 d) (he : Itm 11011 3 e) : Itm 100000 4 (.list ((as ++ [e]) ++ bs)) := by
  have all : ∀ d ∈ (as ++ [e]) ++ bs, Itm 11011 3 d := fun d hd => by
    rcases List.mem_append.mp hd with hd | hd
    · rcases List.mem_append.mp hd with hd | hd
      · exact (ha d hd).mono (by decide) (by decide)
      · simp at hd; subst hd; exact he
    · exact (hb d hd).mono (by decide) (by decide)
  refine ⟨all_showable all, all_leaves all, ?_, Nat.succ_le_succ (all_depth all), all_nodict all⟩
  show PyData.weightAll ((as ++ [e]) ++ bs) ≤ _
  rw [weight_app, weight_app]
  have h1 := all_weight ha
  have h2 := all_weight hb
  have h3 := all_weight (w := 11011) (k := 3) (ds := [e]) (fun d hd => by simp at hd; subst hd; exact he)
  simp only [List.length_singleton] at h3
  have h4 : as.length * (705 + 1) ≤ 61 * 706 := Nat.mul_le_mul_right _ la
  have h5 : bs.length * (705 + 1) ≤ 61 * 706 := Nat.mul_le_mul_right _ lb
  omega
end Mt

set_option maxRecDepth 100000
set_option maxHeartbeats 1000000
local macro_rules | `(tactic| walk_at "vis") => `(tactic| first | exact Or.inl rfl | exact Or.inr (Or.inl rfl) | exact Or.inr (Or.inr rfl))
local macro_rules | `(tactic| walk_at "cond") => `(tactic| first | assumption | decide | omega | (simp only [L2.CDiv, L2.CMul, L2.CPow]; first | decide | omega))
local macro_rules | `(tactic| walk_at "sq") => `(tactic| first | assumption | exact L2.SqL.of (by assumption) | exact L2.SqT.of (by assumption) | exact L2.SqL.of L2.upd_same | exact L2.SqT.of L2.upd_same)
local macro_rules | `(tactic| walk_at "lk") => `(tactic| first | assumption | exact L2.upd_same)
local macro_rules | `(tactic| walk_at "ty") => `(tactic| first | assumption | exact L2.TyS.non | exact L2.TyS.bl _ | exact L2.TyS.int _ | exact L2.TyS.str _ | exact L2.TyS.tup (by assumption) | exact L2.TyS.lst (by assumption))
local macro_rules | `(tactic| walk_at "rs") => `(tactic| repeat (first
  | with_reducible refine L2.rd_if ?_ | with_reducible refine L2.rd_asg ?_ | with_reducible refine L2.rd_drop ?_ | with_reducible refine L2.rd_ret ?_ | with_reducible refine L2.rd_next ?_
  | with_reducible refine L2.rd_op ?_ | with_reducible refine L2.rd_un ?_ | ((with_reducible apply L2.rd_var); (case e => exact rfl)) | with_reducible refine L2.rd_c ?_
  | with_reducible refine L2.rd_I0 ?_ | ((with_reducible apply L2.rd_I); (case hc => walk_at "cond")) | with_reducible refine L2.rd_U ?_
  | with_reducible refine L2.rd_test ?_ | with_reducible refine L2.rd_tB ?_ | with_reducible refine L2.rd_bl' ?_ | ((with_reducible apply L2.rd_eq); (case hs => exact rfl)) | ((with_reducible apply L2.rd_ne); (case hs => exact rfl))
  | ((with_reducible apply L2.rd_ixL); (case hq => walk_at "sq"); (case ha => exact rfl)) | ((with_reducible apply L2.rd_ixT); (case hq => walk_at "sq"); (case ha => exact rfl))
  | with_reducible refine L2.rd_name ?_ | with_reducible refine L2.rd_sub ?_ | ((with_reducible apply L2.rd_setL); (case hp => walk_at "lk"); (case hi => exact rfl))
  | with_reducible refine L2.rd_CB ?_ | with_reducible refine L2.rd_nil ?_ | with_reducible refine L2.rd_cons ?_ | with_reducible refine L2.rd_and ?_ | with_reducible refine L2.rd_or ?_ | with_reducible refine L2.rd_not ?_
  | with_reducible refine L2.rd_andV ?_ | with_reducible refine L2.rd_orV ?_ | with_reducible refine L2.rd_notV ?_ | with_reducible refine L2.rd_ifE ?_ | with_reducible refine L2.rd_call ?_ | with_reducible refine L2.rd_callX ?_ | with_reducible refine L2.rd_raise0 ?_ | with_reducible refine L2.rd_raise1 ?_ | with_reducible refine L2.rd_try ?_ | with_reducible refine L2.rd_xat ?_ | with_reducible refine L2.rd_unx ?_ | with_reducible refine L2.rd_star ?_ | with_reducible refine L2.rd_par3 ?_ | with_reducible refine L2.rd_slRev ?_ | with_reducible refine L2.rd_din ?_ | with_reducible refine L2.rd_dnotin ?_ | with_reducible refine L2.rd_dget ?_ | with_reducible refine L2.rd_dput ?_ | with_reducible refine L2.rd_disp1 ?_ | with_reducible refine L2.rd_tupS ?_ | with_reducible refine L2.rd_lstS ?_ | with_reducible refine L2.rd_rng2 ?_ | with_reducible refine L2.rd_starL ?_ | with_reducible refine L2.rd_tupRev ?_ | with_reducible refine L2.rd_izipL ?_ | with_reducible refine L2.rd_izipM ?_ | ((with_reducible apply L2.rd_glst); (case hq => walk_at "sq"); (case hl => exact rfl)) | with_reducible refine L2.rd_range ?_ | with_reducible refine L2.rd_callK ?_ | with_reducible refine L2.rd_callKX ?_ | with_reducible refine L2.rd_ienum ?_ | with_reducible refine L2.rd_intB ?_ | with_reducible refine L2.rd_intI ?_ | ((with_reducible apply L2.rd_callV); (case hi => exact rfl))
  | with_reducible refine L2.rd_tup ?_ | with_reducible refine L2.rd_tupA ?_ | with_reducible refine L2.rd_lstA ?_ | with_reducible refine L2.rd_dnewA ?_ | with_reducible refine L2.rd_lst ?_ | with_reducible refine L2.rd_chain ?_ | with_reducible refine L2.rd_sl ?_ | with_reducible refine L2.rd_nopart ?_ | with_reducible refine L2.rd_part ?_ | with_reducible refine L2.rd_int ?_
  | ((with_reducible apply L2.rd_slL); (case hq => walk_at "sq")) | ((with_reducible apply L2.rd_slG); (case hq => walk_at "sq"))
  | with_reducible refine L2.rd_gnil ?_ | with_reducible refine L2.rd_gcons ?_ | ((with_reducible apply L2.rd_tupT); (case hq => walk_at "sq"); (case hl => exact rfl)) | with_reducible refine L2.rd_BM ?_ | with_reducible refine L2.rd_for ?_ | with_reducible refine L2.rd_rng1 ?_ | with_reducible refine L2.rd_rngV ?_ | with_reducible refine L2.rd_ilist ?_ | with_reducible refine L2.rd_itup ?_ | with_reducible refine L2.rd_comp ?_ | with_reducible refine L2.rd_izip ?_
  | ((with_reducible apply L2.rd_slA); (case hq => walk_at "sq")) | ((with_reducible apply L2.rd_listAL); (case hq => walk_at "sq")) | ((with_reducible apply L2.rd_listAT); (case hq => walk_at "sq")) | ((with_reducible apply L2.rd_tupleAL); (case hq => walk_at "sq")) | ((with_reducible apply L2.rd_lenL); (case hq => walk_at "sq")) | ((with_reducible apply L2.rd_lenT); (case hq => walk_at "sq")) | ((with_reducible apply L2.rd_listFT); (case hq => walk_at "sq")) | ((with_reducible apply L2.rd_listFL); (case hq => walk_at "sq")) | ((with_reducible apply L2.rd_listL); (case hq => walk_at "sq")) | ((with_reducible apply L2.rd_listT); (case hq => walk_at "sq"))
  | ((with_reducible apply L2.rd_tupleL); (case hq => walk_at "sq")) | ((with_reducible apply L2.rd_isiTup); (case hd => assumption)) | ((with_reducible apply L2.rd_isiInt); (case hd => assumption)) | ((with_reducible apply L2.rd_isiBool); (case hd => assumption)) | ((with_reducible apply L2.rd_isiStr); (case hd => assumption)) | ((with_reducible apply L2.rd_isiList); (case hd => assumption)) | with_reducible refine L2.rd_min ?_ | with_reducible refine L2.rd_max ?_ | refine L2.rd_iteT ?_ | refine L2.rd_iteF ?_ | with_reducible refine L2.rd_isN ?_ | with_reducible refine L2.rd_isnB ?_ | with_reducible refine L2.rd_isnA ?_ | with_reducible refine L2.rd_isA ?_ | with_reducible refine L2.rd_isB ?_ | with_reducible refine L2.rd_notN ?_ | ((with_reducible apply L2.rd_str); (case hl => walk_at "cond")) | dsimp only))
local macro_rules | `(tactic| walk_at "rd") => `(tactic| repeat (first
  | with_reducible refine L2.rd_seq ?_ | with_reducible refine L2.rd_if ?_ | with_reducible refine L2.rd_asg ?_ | with_reducible refine L2.rd_drop ?_ | with_reducible refine L2.rd_ret ?_ | with_reducible refine L2.rd_next ?_
  | with_reducible refine L2.rd_op ?_ | with_reducible refine L2.rd_un ?_ | ((with_reducible apply L2.rd_var); (case e => exact rfl)) | with_reducible refine L2.rd_c ?_
  | with_reducible refine L2.rd_I0 ?_ | ((with_reducible apply L2.rd_I); (case hc => walk_at "cond")) | with_reducible refine L2.rd_U ?_
  | with_reducible refine L2.rd_test ?_ | with_reducible refine L2.rd_tB ?_ | with_reducible refine L2.rd_bl' ?_ | ((with_reducible apply L2.rd_eq); (case hs => exact rfl)) | ((with_reducible apply L2.rd_ne); (case hs => exact rfl))
  | ((with_reducible apply L2.rd_ixL); (case hq => walk_at "sq"); (case ha => exact rfl)) | ((with_reducible apply L2.rd_ixT); (case hq => walk_at "sq"); (case ha => exact rfl))
  | with_reducible refine L2.rd_name ?_ | with_reducible refine L2.rd_sub ?_ | ((with_reducible apply L2.rd_setL); (case hp => walk_at "lk"); (case hi => exact rfl))
  | with_reducible refine L2.rd_CB ?_ | with_reducible refine L2.rd_nil ?_ | with_reducible refine L2.rd_cons ?_ | with_reducible refine L2.rd_and ?_ | with_reducible refine L2.rd_or ?_ | with_reducible refine L2.rd_not ?_
  | with_reducible refine L2.rd_andV ?_ | with_reducible refine L2.rd_orV ?_ | with_reducible refine L2.rd_notV ?_ | with_reducible refine L2.rd_ifE ?_ | with_reducible refine L2.rd_call ?_ | with_reducible refine L2.rd_callX ?_ | with_reducible refine L2.rd_raise0 ?_ | with_reducible refine L2.rd_raise1 ?_ | with_reducible refine L2.rd_try ?_ | with_reducible refine L2.rd_xat ?_ | with_reducible refine L2.rd_unx ?_ | with_reducible refine L2.rd_star ?_ | with_reducible refine L2.rd_par3 ?_ | with_reducible refine L2.rd_slRev ?_ | with_reducible refine L2.rd_din ?_ | with_reducible refine L2.rd_dnotin ?_ | with_reducible refine L2.rd_dget ?_ | with_reducible refine L2.rd_dput ?_ | with_reducible refine L2.rd_disp1 ?_ | with_reducible refine L2.rd_tupS ?_ | with_reducible refine L2.rd_lstS ?_ | with_reducible refine L2.rd_rng2 ?_ | with_reducible refine L2.rd_starL ?_ | with_reducible refine L2.rd_tupRev ?_ | with_reducible refine L2.rd_izipL ?_ | with_reducible refine L2.rd_izipM ?_ | ((with_reducible apply L2.rd_glst); (case hq => walk_at "sq"); (case hl => exact rfl)) | with_reducible refine L2.rd_range ?_ | with_reducible refine L2.rd_callK ?_ | with_reducible refine L2.rd_callKX ?_ | with_reducible refine L2.rd_ienum ?_ | with_reducible refine L2.rd_intB ?_ | with_reducible refine L2.rd_intI ?_ | ((with_reducible apply L2.rd_callV); (case hi => exact rfl))
  | with_reducible refine L2.rd_tup ?_ | with_reducible refine L2.rd_tupA ?_ | with_reducible refine L2.rd_lstA ?_ | with_reducible refine L2.rd_dnewA ?_ | with_reducible refine L2.rd_lst ?_ | with_reducible refine L2.rd_chain ?_ | with_reducible refine L2.rd_sl ?_ | with_reducible refine L2.rd_nopart ?_ | with_reducible refine L2.rd_part ?_ | with_reducible refine L2.rd_int ?_
  | ((with_reducible apply L2.rd_slL); (case hq => walk_at "sq")) | ((with_reducible apply L2.rd_slG); (case hq => walk_at "sq"))
  | with_reducible refine L2.rd_gnil ?_ | with_reducible refine L2.rd_gcons ?_ | ((with_reducible apply L2.rd_tupT); (case hq => walk_at "sq"); (case hl => exact rfl)) | with_reducible refine L2.rd_BM ?_ | with_reducible refine L2.rd_for ?_ | with_reducible refine L2.rd_rng1 ?_ | with_reducible refine L2.rd_rngV ?_ | with_reducible refine L2.rd_ilist ?_ | with_reducible refine L2.rd_itup ?_ | with_reducible refine L2.rd_comp ?_ | with_reducible refine L2.rd_izip ?_
  | ((with_reducible apply L2.rd_slA); (case hq => walk_at "sq")) | ((with_reducible apply L2.rd_listAL); (case hq => walk_at "sq")) | ((with_reducible apply L2.rd_listAT); (case hq => walk_at "sq")) | ((with_reducible apply L2.rd_tupleAL); (case hq => walk_at "sq")) | ((with_reducible apply L2.rd_lenL); (case hq => walk_at "sq")) | ((with_reducible apply L2.rd_lenT); (case hq => walk_at "sq")) | ((with_reducible apply L2.rd_listFT); (case hq => walk_at "sq")) | ((with_reducible apply L2.rd_listFL); (case hq => walk_at "sq")) | ((with_reducible apply L2.rd_listL); (case hq => walk_at "sq")) | ((with_reducible apply L2.rd_listT); (case hq => walk_at "sq"))
  | ((with_reducible apply L2.rd_tupleL); (case hq => walk_at "sq")) | ((with_reducible apply L2.rd_isiTup); (case hd => assumption)) | ((with_reducible apply L2.rd_isiInt); (case hd => assumption)) | ((with_reducible apply L2.rd_isiBool); (case hd => assumption)) | ((with_reducible apply L2.rd_isiStr); (case hd => assumption)) | ((with_reducible apply L2.rd_isiList); (case hd => assumption)) | with_reducible refine L2.rd_min ?_ | with_reducible refine L2.rd_max ?_ | refine L2.rd_iteT ?_ | refine L2.rd_iteF ?_ | with_reducible refine L2.rd_isN ?_ | with_reducible refine L2.rd_isnB ?_ | with_reducible refine L2.rd_isnA ?_ | with_reducible refine L2.rd_isA ?_ | with_reducible refine L2.rd_isB ?_ | with_reducible refine L2.rd_notN ?_ | ((with_reducible apply L2.rd_str); (case hl => walk_at "cond")) | dsimp only))
local macro_rules | `(tactic| walk_at "rq") => `(tactic| repeat (first
  | with_reducible refine L2.rd_seq ?_ | with_reducible refine L2.rd_if ?_ | with_reducible refine L2.rd_asg ?_ | with_reducible refine L2.rd_drop ?_ | with_reducible refine L2.rd_ret ?_ | with_reducible refine L2.rd_next ?_
  | with_reducible refine L2.rd_op ?_ | with_reducible refine L2.rd_un ?_ | ((with_reducible apply L2.rd_var); (case e => exact rfl)) | with_reducible refine L2.rd_c ?_
  | with_reducible refine L2.rd_I0 ?_ | ((with_reducible apply L2.rd_I); (case hc => walk_at "cond")) | with_reducible refine L2.rd_U ?_
  | with_reducible refine L2.rd_test ?_ | with_reducible refine L2.rd_tB ?_ | with_reducible refine L2.rd_bl' ?_ | ((with_reducible apply L2.rd_eq); (case hs => exact rfl)) | ((with_reducible apply L2.rd_ne); (case hs => exact rfl))
  | ((with_reducible apply L2.rd_ixL); (case hq => walk_at "sq"); (case ha => exact rfl)) | ((with_reducible apply L2.rd_ixT); (case hq => walk_at "sq"); (case ha => exact rfl))
  | with_reducible refine L2.rd_name ?_ | with_reducible refine L2.rd_sub ?_ | ((with_reducible apply L2.rd_setL); (case hp => walk_at "lk"); (case hi => exact rfl))
  | with_reducible refine L2.rd_CB ?_ | with_reducible refine L2.rd_nil ?_ | with_reducible refine L2.rd_cons ?_ | with_reducible refine L2.rd_and ?_ | with_reducible refine L2.rd_or ?_ | with_reducible refine L2.rd_not ?_
  | with_reducible refine L2.rd_andV ?_ | with_reducible refine L2.rd_orV ?_ | with_reducible refine L2.rd_notV ?_ | with_reducible refine L2.rd_ifE ?_ | with_reducible refine L2.rd_call ?_ | with_reducible refine L2.rd_callX ?_ | with_reducible refine L2.rd_raise0 ?_ | with_reducible refine L2.rd_raise1 ?_ | with_reducible refine L2.rd_try ?_ | with_reducible refine L2.rd_xat ?_ | with_reducible refine L2.rd_unx ?_ | with_reducible refine L2.rd_star ?_ | with_reducible refine L2.rd_par3 ?_ | with_reducible refine L2.rd_slRev ?_ | with_reducible refine L2.rd_din ?_ | with_reducible refine L2.rd_dnotin ?_ | with_reducible refine L2.rd_dget ?_ | with_reducible refine L2.rd_dput ?_ | with_reducible refine L2.rd_disp1 ?_ | with_reducible refine L2.rd_tupS ?_ | with_reducible refine L2.rd_lstS ?_ | with_reducible refine L2.rd_rng2 ?_ | with_reducible refine L2.rd_starL ?_ | with_reducible refine L2.rd_tupRev ?_ | with_reducible refine L2.rd_izipL ?_ | with_reducible refine L2.rd_izipM ?_ | ((with_reducible apply L2.rd_glst); (case hq => walk_at "sq"); (case hl => exact rfl)) | with_reducible refine L2.rd_range ?_ | with_reducible refine L2.rd_callK ?_ | with_reducible refine L2.rd_callKX ?_ | with_reducible refine L2.rd_ienum ?_ | with_reducible refine L2.rd_intB ?_ | with_reducible refine L2.rd_intI ?_ | ((with_reducible apply L2.rd_callV); (case hi => exact rfl))
  | with_reducible refine L2.rd_tup ?_ | with_reducible refine L2.rd_tupA ?_ | with_reducible refine L2.rd_lstA ?_ | with_reducible refine L2.rd_dnewA ?_ | with_reducible refine L2.rd_lst ?_ | with_reducible refine L2.rd_chain ?_ | with_reducible refine L2.rd_sl ?_ | with_reducible refine L2.rd_nopart ?_ | with_reducible refine L2.rd_part ?_ | with_reducible refine L2.rd_int ?_
  | ((with_reducible apply L2.rd_slL); (case hq => walk_at "sq")) | ((with_reducible apply L2.rd_slG); (case hq => walk_at "sq"))
  | with_reducible refine L2.rd_gnil ?_ | with_reducible refine L2.rd_gcons ?_ | ((with_reducible apply L2.rd_tupT); (case hq => walk_at "sq"); (case hl => exact rfl)) | with_reducible refine L2.rd_BM ?_ | with_reducible refine L2.rd_for ?_ | with_reducible refine L2.rd_rng1 ?_ | with_reducible refine L2.rd_rngV ?_ | with_reducible refine L2.rd_ilist ?_ | with_reducible refine L2.rd_itup ?_ | with_reducible refine L2.rd_comp ?_ | with_reducible refine L2.rd_izip ?_
  | ((with_reducible apply L2.rd_slA); (case hq => walk_at "sq")) | ((with_reducible apply L2.rd_listAL); (case hq => walk_at "sq")) | ((with_reducible apply L2.rd_listAT); (case hq => walk_at "sq")) | ((with_reducible apply L2.rd_tupleAL); (case hq => walk_at "sq")) | ((with_reducible apply L2.rd_lenL); (case hq => walk_at "sq")) | ((with_reducible apply L2.rd_lenT); (case hq => walk_at "sq")) | ((with_reducible apply L2.rd_listFT); (case hq => walk_at "sq")) | ((with_reducible apply L2.rd_listFL); (case hq => walk_at "sq")) | ((with_reducible apply L2.rd_listL); (case hq => walk_at "sq")) | ((with_reducible apply L2.rd_listT); (case hq => walk_at "sq"))
  | ((with_reducible apply L2.rd_tupleL); (case hq => walk_at "sq")) | ((with_reducible apply L2.rd_isiTup); (case hd => assumption)) | ((with_reducible apply L2.rd_isiInt); (case hd => assumption)) | ((with_reducible apply L2.rd_isiBool); (case hd => assumption)) | ((with_reducible apply L2.rd_isiStr); (case hd => assumption)) | ((with_reducible apply L2.rd_isiList); (case hd => assumption)) | with_reducible refine L2.rd_min ?_ | with_reducible refine L2.rd_max ?_ | ((with_reducible refine L2.rd_iteG ?_); first | refine L2.rd_iteT ?_ | refine L2.rd_iteF ?_) | with_reducible refine L2.rd_isN ?_ | with_reducible refine L2.rd_isnB ?_ | with_reducible refine L2.rd_isnA ?_ | with_reducible refine L2.rd_isA ?_ | with_reducible refine L2.rd_isB ?_ | with_reducible refine L2.rd_notN ?_ | ((with_reducible apply L2.rd_str); (case hl => walk_at "cond")) | dsimp only))
namespace My
open PySem L2
def top (i : Nat) : Stmt := PySem.Challenge.pw_laterline_k42_told_lines_judged.main.body.getD i (.Pass ⟨0, 0, 0, 0⟩)
abbrev s_is_number : Stmt := top 8
abbrev s_is_within : Stmt := top 9
abbrev s_require_within : Stmt := top 10
abbrev s_is_place : Stmt := top 11
abbrev s_is_line : Stmt := top 14
abbrev s_may_begin : Stmt := top 17
abbrev s_is_first_line : Stmt := top 20
abbrev s_is_later_line : Stmt := top 21
abbrev s_right_lines : Stmt := top 22
abbrev s_law_deck : Stmt := top 24
abbrev s_law_take : Stmt := top 25
abbrev s_law_from : Stmt := top 26
abbrev s_law_is_line : Stmt := top 27
abbrev s_law_right : Stmt := top 28
abbrev s_law_made : Stmt := top 29
abbrev s_law_odd : Stmt := top 30
abbrev s_law_bent : Stmt := top 31
abbrev s_law_says : Stmt := top 32
abbrev s_law_refused : Stmt := top 33
abbrev s_law : Stmt := top 34
theorem sc_is_number : FnScope ["thing"] ["thing"] (defScope s_is_number) := ⟨rfl, rfl, rfl, by decide +kernel, rfl, by decide +kernel, by decide +kernel⟩
theorem sc_is_within : FnScope ["thing", "least", "most"] ["thing", "least", "most"] (defScope s_is_within) := ⟨rfl, rfl, rfl, by decide +kernel, rfl, by decide +kernel, by decide +kernel⟩
theorem sc_require_within : FnScope ["thing", "least", "most", "what"] ["thing", "least", "most", "what"] (defScope s_require_within) := ⟨rfl, rfl, rfl, by decide +kernel, rfl, by decide +kernel, by decide +kernel⟩
theorem sc_is_place : FnScope ["thing"] ["thing"] (defScope s_is_place) := ⟨rfl, rfl, rfl, by decide +kernel, rfl, by decide +kernel, by decide +kernel⟩
theorem sc_is_line : FnScope ["thing"] ["thing"] (defScope s_is_line) := ⟨rfl, rfl, rfl, by decide +kernel, rfl, by decide +kernel, by decide +kernel⟩
theorem sc_may_begin : FnScope ["house", "many", "line"] ["house", "many", "line"] (defScope s_may_begin) := ⟨rfl, rfl, rfl, by decide +kernel, rfl, by decide +kernel, by decide +kernel⟩
theorem sc_is_first_line : FnScope ["thing"] ["thing"] (defScope s_is_first_line) := ⟨rfl, rfl, rfl, by decide +kernel, rfl, by decide +kernel, by decide +kernel⟩
theorem sc_is_later_line : FnScope ["thing", "houses", "line", "house", "parent", "fork", "forced"] ["thing", "houses"] (defScope s_is_later_line) := ⟨rfl, rfl, rfl, by decide +kernel, rfl, by decide +kernel, by decide +kernel⟩
theorem sc_right_lines : FnScope ["houses", "lines", "forks", "told", "line", "parent", "fork"] ["houses", "lines"] (defScope s_right_lines) := ⟨rfl, rfl, rfl, by decide +kernel, rfl, by decide +kernel, by decide +kernel⟩
theorem sc_law_deck : FnScope ["_law_script", "_law_cells"] ["_law_script"] (defScope s_law_deck) := ⟨rfl, rfl, rfl, by decide +kernel, rfl, by decide +kernel, by decide +kernel⟩
theorem sc_law_take : FnScope ["_law_deck_here", "_law_many", "_law_cells", "_law_count", "_law_rests", "_law_place", "_law_digits", "_law_mixed"] ["_law_deck_here", "_law_many"] (defScope s_law_take) := ⟨rfl, rfl, rfl, by decide +kernel, rfl, by decide +kernel, by decide +kernel⟩
theorem sc_law_from : FnScope ["_law_thing", "_law_least", "_law_most"] ["_law_thing", "_law_least", "_law_most"] (defScope s_law_from) := ⟨rfl, rfl, rfl, by decide +kernel, rfl, by decide +kernel, by decide +kernel⟩
theorem sc_law_is_line : FnScope ["_law_thing", "_law_many", "_law_forks", "_law_line", "_law_one", "_law_parent", "_law_fork", "_law_forced"] ["_law_thing", "_law_many", "_law_forks"] (defScope s_law_is_line) := ⟨rfl, rfl, rfl, by decide +kernel, rfl, by decide +kernel, by decide +kernel⟩
theorem sc_law_right : FnScope ["_law_many", "_law_lines", "_law_first", "_law_forks", "_law_thing"] ["_law_many", "_law_lines"] (defScope s_law_right) := ⟨rfl, rfl, rfl, by decide +kernel, rfl, by decide +kernel, by decide +kernel⟩
theorem sc_law_made : FnScope ["_law_deck_here", "_law_many", "_law_found", "_law_count", "_law_k", "_law_parent", "_law_line", "_law_fork"] ["_law_deck_here", "_law_many"] (defScope s_law_made) := ⟨rfl, rfl, rfl, by decide +kernel, rfl, by decide +kernel, by decide +kernel⟩
theorem sc_law_odd : FnScope ["_law_deck_here", "_law_thing", "_law_told", "_law_some"] ["_law_deck_here", "_law_thing", "_law_told"] (defScope s_law_odd) := ⟨rfl, rfl, rfl, by decide +kernel, rfl, by decide +kernel, by decide +kernel⟩
theorem sc_law_bent : FnScope ["_law_deck_here", "_law_lines", "_law_place", "_law_other", "_law_held", "_law_thing", "_law_twin", "_law_spot", "_law_some", "_law_bent_here"] ["_law_deck_here", "_law_lines"] (defScope s_law_bent) := ⟨rfl, rfl, rfl, by decide +kernel, rfl, by decide +kernel, by decide +kernel⟩
theorem sc_law_says : FnScope ["_law_many", "_law_lines", "_law_was", "_law_found"] ["_law_many", "_law_lines"] (defScope s_law_says) := ⟨rfl, rfl, rfl, by decide +kernel, rfl, by decide +kernel, by decide +kernel⟩
theorem sc_law_refused : FnScope ["_law_many", "_law_lines", "_law_caught", "error"] ["_law_many", "_law_lines"] (defScope s_law_refused) := ⟨rfl, rfl, rfl, by decide +kernel, rfl, by decide +kernel, by decide +kernel⟩
theorem sc_law : FnScope ["_law_script", "_law_deck_here", "_law_many", "_law_lines", "_law_k", "_law_no_many"] ["_law_script"] (defScope s_law) := ⟨rfl, rfl, rfl, by decide +kernel, rfl, by decide +kernel, by decide +kernel⟩
abbrev t_NoCount : Stmt := inClass (top 5) 0
theorem ib_NoCount : IBody t_NoCount "what" "what" := ⟨⟨rfl, rfl, rfl, rfl, by decide +kernel, rfl, rfl, rfl, by decide +kernel, by decide +kernel⟩, ⟨_, rfl, rfl⟩, fun _ _ _ _ _ _ _ _ _ _ _ => rfl, ⟨_, _, _, _, _, _, _, _, _, _, _, _, _, rfl, fun _ => rfl⟩⟩
/-- the addresses that the top has given -/
structure Adr where
  f_is_number : Addr
  d_is_number : FuncData
  f_is_within : Addr
  d_is_within : FuncData
  f_require_within : Addr
  d_require_within : FuncData
  f_is_place : Addr
  d_is_place : FuncData
  f_is_line : Addr
  d_is_line : FuncData
  f_may_begin : Addr
  d_may_begin : FuncData
  f_is_first_line : Addr
  d_is_first_line : FuncData
  f_is_later_line : Addr
  d_is_later_line : FuncData
  f_right_lines : Addr
  d_right_lines : FuncData
  f_law_deck : Addr
  d_law_deck : FuncData
  f_law_take : Addr
  d_law_take : FuncData
  f_law_from : Addr
  d_law_from : FuncData
  f_law_is_line : Addr
  d_law_is_line : FuncData
  f_law_right : Addr
  d_law_right : FuncData
  f_law_made : Addr
  d_law_made : FuncData
  f_law_odd : Addr
  d_law_odd : FuncData
  f_law_bent : Addr
  d_law_bent : FuncData
  f_law_says : Addr
  d_law_says : FuncData
  f_law_refused : Addr
  d_law_refused : FuncData
  f_law : Addr
  d_law : FuncData
  u_FIRST_LINE : Value
  u_HOUSES : Value
  u_LAST_LINE : Value
  u_LAST_PLACE : Value
  a_FIRST_LINE : Addr
  C_LineError : Addr
  C_NoCount : Addr
  C_NoHouse : Addr
  C_NoPlace : Addr
  C_NoRule : Addr
  I_NoCount : Addr
/-- what the walk asks of the top -/
structure Txt (P : Program) (K : PySem.W.Frag) (mg : Str → Option Value) (a : Adr) : Prop where
  mC_LineError : mg "LineError" = some (.ref a.C_LineError)
  mC_NoCount : mg "NoCount" = some (.ref a.C_NoCount)
  mC_NoHouse : mg "NoHouse" = some (.ref a.C_NoHouse)
  mC_NoPlace : mg "NoPlace" = some (.ref a.C_NoPlace)
  mC_NoRule : mg "NoRule" = some (.ref a.C_NoRule)
  Z_NoCount : XIni P K a.C_NoCount a.C_LineError a.I_NoCount "what"
  xg_NoCount : XG K a.C_NoCount
  ex_NoCount_LineError : PySem.W.exmOne K (.ref a.C_NoCount) (.ref a.C_LineError) = some true
  is_NoCount_NoCount : PySem.W.kitOne K (.ref a.C_NoCount) (.ref a.C_NoCount) = some true
  is_NoCount_NoHouse : PySem.W.kitOne K (.ref a.C_NoCount) (.ref a.C_NoHouse) = some false
  is_NoCount_NoPlace : PySem.W.kitOne K (.ref a.C_NoCount) (.ref a.C_NoPlace) = some false
  is_NoCount_NoRule : PySem.W.kitOne K (.ref a.C_NoCount) (.ref a.C_NoRule) = some false
  is_NoCount_ValueError : PySem.W.kitOne K (.ref a.C_NoCount) (.type "ValueError") = some true
  c_FIRST_LINE : mg "FIRST_LINE" = some a.u_FIRST_LINE ∧ RelV (.ref a.a_FIRST_LINE) a.u_FIRST_LINE
  r_FIRST_LINE : ∀ H, SqT K H a.a_FIRST_LINE [.int 0, .int 0, .non, .int 0, .bl false]
  c_HOUSES : mg "HOUSES" = some a.u_HOUSES ∧ RelV (.int 8) a.u_HOUSES
  c_LAST_LINE : mg "LAST_LINE" = some a.u_LAST_LINE ∧ RelV (.int 1000000000) a.u_LAST_LINE
  c_LAST_PLACE : mg "LAST_PLACE" = some a.u_LAST_PLACE ∧ RelV (.int 1000000) a.u_LAST_PLACE
  b_ValueError : mg "ValueError" = none
  b_all : mg "all" = none
  b_bool : mg "bool" = none
  b_int : mg "int" = none
  b_isinstance : mg "isinstance" = none
  b_len : mg "len" = none
  b_list : mg "list" = none
  b_min : mg "min" = none
  b_range : mg "range" = none
  b_repr : mg "repr" = none
  b_str : mg "str" = none
  b_tuple : mg "tuple" = none
  F_is_number : Fun K "is_number" "is_number" s_is_number a.f_is_number a.d_is_number
  m_is_number : mg "is_number" = some (.ref a.f_is_number)
  k_is_number : PySem.W.keepIn K (.ref a.f_is_number) = true
  bd_is_number : Binds K a.d_is_number ["thing"] []
  F_is_within : Fun K "is_within" "is_within" s_is_within a.f_is_within a.d_is_within
  m_is_within : mg "is_within" = some (.ref a.f_is_within)
  k_is_within : PySem.W.keepIn K (.ref a.f_is_within) = true
  bd_is_within : Binds K a.d_is_within ["thing", "least", "most"] []
  F_require_within : Fun K "require_within" "require_within" s_require_within a.f_require_within a.d_require_within
  m_require_within : mg "require_within" = some (.ref a.f_require_within)
  k_require_within : PySem.W.keepIn K (.ref a.f_require_within) = true
  bd_require_within : Binds K a.d_require_within ["thing", "least", "most", "what"] []
  F_is_place : Fun K "is_place" "is_place" s_is_place a.f_is_place a.d_is_place
  m_is_place : mg "is_place" = some (.ref a.f_is_place)
  k_is_place : PySem.W.keepIn K (.ref a.f_is_place) = true
  bd_is_place : Binds K a.d_is_place ["thing"] []
  F_is_line : Fun K "is_line" "is_line" s_is_line a.f_is_line a.d_is_line
  m_is_line : mg "is_line" = some (.ref a.f_is_line)
  k_is_line : PySem.W.keepIn K (.ref a.f_is_line) = true
  bd_is_line : Binds K a.d_is_line ["thing"] []
  F_may_begin : Fun K "may_begin" "may_begin" s_may_begin a.f_may_begin a.d_may_begin
  m_may_begin : mg "may_begin" = some (.ref a.f_may_begin)
  k_may_begin : PySem.W.keepIn K (.ref a.f_may_begin) = true
  bd_may_begin : Binds K a.d_may_begin ["house", "many", "line"] []
  F_is_first_line : Fun K "is_first_line" "is_first_line" s_is_first_line a.f_is_first_line a.d_is_first_line
  m_is_first_line : mg "is_first_line" = some (.ref a.f_is_first_line)
  k_is_first_line : PySem.W.keepIn K (.ref a.f_is_first_line) = true
  bd_is_first_line : Binds K a.d_is_first_line ["thing"] []
  F_is_later_line : Fun K "is_later_line" "is_later_line" s_is_later_line a.f_is_later_line a.d_is_later_line
  m_is_later_line : mg "is_later_line" = some (.ref a.f_is_later_line)
  k_is_later_line : PySem.W.keepIn K (.ref a.f_is_later_line) = true
  bd_is_later_line : Binds K a.d_is_later_line ["thing", "houses"] []
  F_right_lines : Fun K "right_lines" "right_lines" s_right_lines a.f_right_lines a.d_right_lines
  m_right_lines : mg "right_lines" = some (.ref a.f_right_lines)
  k_right_lines : PySem.W.keepIn K (.ref a.f_right_lines) = true
  bd_right_lines : Binds K a.d_right_lines ["houses", "lines"] []
  F_law_deck : Fun K "_law_deck" "_law_deck" s_law_deck a.f_law_deck a.d_law_deck
  m__law_deck : mg "_law_deck" = some (.ref a.f_law_deck)
  k__law_deck : PySem.W.keepIn K (.ref a.f_law_deck) = true
  bd__law_deck : Binds K a.d_law_deck ["_law_script"] []
  F_law_take : Fun K "_law_take" "_law_take" s_law_take a.f_law_take a.d_law_take
  m__law_take : mg "_law_take" = some (.ref a.f_law_take)
  k__law_take : PySem.W.keepIn K (.ref a.f_law_take) = true
  bd__law_take : Binds K a.d_law_take ["_law_deck_here", "_law_many"] []
  F_law_from : Fun K "_law_from" "_law_from" s_law_from a.f_law_from a.d_law_from
  m__law_from : mg "_law_from" = some (.ref a.f_law_from)
  k__law_from : PySem.W.keepIn K (.ref a.f_law_from) = true
  bd__law_from : Binds K a.d_law_from ["_law_thing", "_law_least", "_law_most"] []
  F_law_is_line : Fun K "_law_is_line" "_law_is_line" s_law_is_line a.f_law_is_line a.d_law_is_line
  m__law_is_line : mg "_law_is_line" = some (.ref a.f_law_is_line)
  k__law_is_line : PySem.W.keepIn K (.ref a.f_law_is_line) = true
  bd__law_is_line : Binds K a.d_law_is_line ["_law_thing", "_law_many", "_law_forks"] []
  F_law_right : Fun K "_law_right" "_law_right" s_law_right a.f_law_right a.d_law_right
  m__law_right : mg "_law_right" = some (.ref a.f_law_right)
  k__law_right : PySem.W.keepIn K (.ref a.f_law_right) = true
  bd__law_right : Binds K a.d_law_right ["_law_many", "_law_lines"] []
  F_law_made : Fun K "_law_made" "_law_made" s_law_made a.f_law_made a.d_law_made
  m__law_made : mg "_law_made" = some (.ref a.f_law_made)
  k__law_made : PySem.W.keepIn K (.ref a.f_law_made) = true
  bd__law_made : Binds K a.d_law_made ["_law_deck_here", "_law_many"] []
  F_law_odd : Fun K "_law_odd" "_law_odd" s_law_odd a.f_law_odd a.d_law_odd
  m__law_odd : mg "_law_odd" = some (.ref a.f_law_odd)
  k__law_odd : PySem.W.keepIn K (.ref a.f_law_odd) = true
  bd__law_odd : Binds K a.d_law_odd ["_law_deck_here", "_law_thing", "_law_told"] []
  F_law_bent : Fun K "_law_bent" "_law_bent" s_law_bent a.f_law_bent a.d_law_bent
  m__law_bent : mg "_law_bent" = some (.ref a.f_law_bent)
  k__law_bent : PySem.W.keepIn K (.ref a.f_law_bent) = true
  bd__law_bent : Binds K a.d_law_bent ["_law_deck_here", "_law_lines"] []
  F_law_says : Fun K "_law_says" "_law_says" s_law_says a.f_law_says a.d_law_says
  m__law_says : mg "_law_says" = some (.ref a.f_law_says)
  k__law_says : PySem.W.keepIn K (.ref a.f_law_says) = true
  bd__law_says : Binds K a.d_law_says ["_law_many", "_law_lines"] []
  F_law_refused : Fun K "_law_refused" "_law_refused" s_law_refused a.f_law_refused a.d_law_refused
  m__law_refused : mg "_law_refused" = some (.ref a.f_law_refused)
  k__law_refused : PySem.W.keepIn K (.ref a.f_law_refused) = true
  bd__law_refused : Binds K a.d_law_refused ["_law_many", "_law_lines"] []
  F_law : Fun K "law" "law" s_law a.f_law a.d_law
  m_law : mg "law" = some (.ref a.f_law)
  k_law : PySem.W.keepIn K (.ref a.f_law) = true
  bd_law : Binds K a.d_law ["_law_script"] []
  bl_law : ∀ (s : Shared) (u : Value), BindsTo s a.d_law ⟨[u], []⟩ [("_law_script", u)]
section
variable {P : Program} {w : World} {K : PySem.W.Frag} {mg : Str → Option Value} {base : Heap} {a : Adr}
def sp_is_number (K : PySem.W.Frag) : Sp := fun vs H Q _ => ∃ (N : List Addr) (x : V) (d : PyData), vs = [x] ∧ Dt K N H x d ∧ Q (.bl (Mt.numD d)) H
theorem ok_is_number (T : Txt P K mg a)  : FnOk P w K mg base CX0 1 a.f_is_number a.d_is_number ["thing"] (sp_is_number K) := by
  refine T.F_is_number.ok sc_is_number (fun vs H Q E h => ?_) (fun cdv A outer s H vs Q E hr h => ?_)
  · obtain ⟨N, x, d, rfl, _⟩ := h; rfl
  · obtain ⟨N, x, d, rfl, hd, k⟩ := h
    refine exW ⟨_, (qss_one (qs_ret (pe_and (qe_callB cn_isi (by rfl) T.b_isinstance (by decide +kernel) (qa (pv 0 (by rfl) (by walk_at "vis") (by decide) (by decide)) (qa (pe_bltn (by rfl) T.b_int (by decide +kernel) (v := .ty "int") rfl (by decide) (by decide)) qa_nil (by rfl)) (by rfl)) (by decide) (by decide) (by rfl) (by rfl)) (pe_one (pe_not (qe_callB cn_isi (by rfl) T.b_isinstance (by decide +kernel) (qa (pv 0 (by rfl) (by walk_at "vis") (by decide) (by decide)) (qa (pe_bltn (by rfl) T.b_bool (by decide +kernel) (v := .ty "bool") rfl (by decide) (by decide)) qa_nil (by rfl)) (by rfl)) (by decide) (by decide) (by rfl) (by rfl))))))), ?_⟩
    try dsimp only [cxOf]
    walk_at "rd"
    cases d with
    | int i => dsimp only [isIntD]; walk_at "rd"; dsimp only [isBoolD]; walk_at "rd"; exact k
    | bool b => dsimp only [isIntD]; walk_at "rd"; dsimp only [isBoolD]; walk_at "rd"; exact k
    | _ => dsimp only [isIntD]; walk_at "rd"; exact k

def sp_is_within (K : PySem.W.Frag) : Sp := fun vs H Q _ => ∃ (N : List Addr) (x : V) (d : PyData) (lo hi : Int), vs = [x, .int lo, .int hi] ∧ Dt K N H x d ∧ Q (.bl (Mt.withinD lo hi d)) H
theorem ok_is_within (T : Txt P K mg a) (G_is_number : FnOk P w K mg base CX0 1 a.f_is_number a.d_is_number ["thing"] (sp_is_number K)) : FnOk P w K mg base CX0 2 a.f_is_within a.d_is_within ["thing", "least", "most"] (sp_is_within K) := by
  refine T.F_is_within.ok sc_is_within (fun vs H Q E h => ?_) (fun cdv A outer s H vs Q E hr h => ?_)
  · obtain ⟨N, x, d, lo, hi, rfl, _⟩ := h; rfl
  · obtain ⟨N, x, d, lo, hi, rfl, hd, k⟩ := h
    refine exW ⟨_, (qss_one (qs_ret (pe_and (qe_call G_is_number (hr.mono (by decide)) (by rfl) T.m_is_number T.k_is_number T.bd_is_number .nil pass0 (qa (pv 0 (by rfl) (by walk_at "vis") (by decide) (by decide)) qa_nil (by rfl)) (by decide) (by rfl) (by rfl)) (pe_one (pe_chain op_le op_le (pv 1 (by rfl) (by walk_at "vis") (by decide) (by decide)) (pv 0 (by rfl) (by walk_at "vis") (by decide) (by decide)) (pv 2 (by rfl) (by walk_at "vis") (by decide) (by decide)) (by with_unfolding_all rfl)))))), ?_⟩
    try dsimp only [cxOf]
    walk_at "rd"
    refine ⟨N, x, d, rfl, hd, rd_bl' ?_⟩
    cases hd with
    | int i =>
      dsimp only [Mt.numD]
      walk_at "rd"
      refine rd_ite2 (fun hc => ?_) (fun hc => ?_)
      · walk_at "rd"
        simpa only [Mt.withinD, hc, Bool.true_and] using k
      · simpa only [Mt.withinD, hc, Bool.false_and] using k
    | _ => dsimp only [Mt.numD]; walk_at "rd"; exact k

def sp_require_within (K : PySem.W.Frag) (a : Adr) : Sp := fun vs H Q E => ∃ (N : List Addr) (x : V) (d : PyData) (lo hi : Int) (w : Str), vs = [x, .int lo, .int hi, .str w] ∧ Dt K N H x d ∧ (Mt.withinD lo hi d = true → Q .non H) ∧ (Mt.withinD lo hi d = false → ∀ dx, H dx = none → E (.ref a.C_NoCount) (some dx) (upd H dx (.xd [("what", .str w)])))
theorem ok_require_within (T : Txt P K mg a) (G_is_within : FnOk P w K mg base CX0 2 a.f_is_within a.d_is_within ["thing", "least", "most"] (sp_is_within K)) : FnOk P w K mg base (CX1 P w) 3 a.f_require_within a.d_require_within ["thing", "least", "most", "what"] (sp_require_within K a) := by
  refine T.F_require_within.okX sc_require_within (fun vs H Q E h => ?_) (fun cdv A outer s H vs Q E hr h => ?_)
  · obtain ⟨N, x, d, lo, hi, w, rfl, _⟩ := h; rfl
  · obtain ⟨N, x, d, lo, hi, w, rfl, hd, k1, k2⟩ := h
    refine exW ⟨_, (qss_one (qs_if (pt_not (pt_val (qe_call G_is_within (hr.mono (by decide)) (by rfl) T.m_is_within T.k_is_within T.bd_is_within .nil pass0 (qa (pv 0 (by rfl) (by walk_at "vis") (by decide) (by decide)) (qa (pv 1 (by rfl) (by walk_at "vis") (by decide) (by decide)) (qa (pv 2 (by rfl) (by walk_at "vis") (by decide) (by decide)) qa_nil (by rfl)) (by rfl)) (by rfl)) (by decide) (by rfl) (by rfl)) (by intro _; rfl)))
        (qss_one (qs_raise1 px1 (by rfl) (hr.mono (by decide)) (by rfl) T.mC_NoCount T.Z_NoCount (qa (pv 3 (by rfl) (by walk_at "vis") (by decide) (by decide)) qa_nil (by rfl)) (by rfl) (by decide)))
        qss_nil)), ?_⟩
    try dsimp only [cxOf]
    walk_at "rd"
    refine ⟨N, x, d, lo, hi, rfl, hd, ?_⟩
    cases hh : Mt.withinD lo hi d with
    | true =>
      walk_at "rd"
      exact k1 hh
    | false =>
      walk_at "rd"
      exact ⟨_, rfl, k2 hh⟩

def sp_is_place (K : PySem.W.Frag) : Sp := fun vs H Q _ => ∃ (N : List Addr) (x : V) (d : PyData), vs = [x] ∧ Dt K N H x d ∧ Q (.bl (Mt.withinD 0 1000000 d)) H
theorem ok_is_place (T : Txt P K mg a) (G_is_within : FnOk P w K mg base CX0 2 a.f_is_within a.d_is_within ["thing", "least", "most"] (sp_is_within K)) : FnOk P w K mg base CX0 3 a.f_is_place a.d_is_place ["thing"] (sp_is_place K) := by
  refine T.F_is_place.ok sc_is_place (fun vs H Q E h => ?_) (fun cdv A outer s H vs Q E hr h => ?_)
  · obtain ⟨N, x, d, rfl, _⟩ := h; rfl
  · obtain ⟨N, x, d, rfl, hd, k⟩ := h
    refine exW ⟨_, (qss_one (qs_ret (qe_call G_is_within (hr.mono (by decide)) (by rfl) T.m_is_within T.k_is_within T.bd_is_within .nil pass0 (qa (pv 0 (by rfl) (by walk_at "vis") (by decide) (by decide)) (qa pe_int (qa (pe_glob (by rfl) T.c_LAST_PLACE.1 T.c_LAST_PLACE.2 (by decide)) qa_nil (by rfl)) (by rfl)) (by rfl)) (by decide) (by rfl) (by rfl)))), ?_⟩
    try dsimp only [cxOf]
    walk_at "rd"
    exact ⟨N, x, d, 0, 1000000, rfl, hd, k⟩

def sp_is_line (K : PySem.W.Frag) : Sp := fun vs H Q _ => ∃ (N : List Addr) (x : V) (d : PyData), vs = [x] ∧ Dt K N H x d ∧ Q (.bl (Mt.withinD 0 1000000000 d)) H
theorem ok_is_line (T : Txt P K mg a) (G_is_within : FnOk P w K mg base CX0 2 a.f_is_within a.d_is_within ["thing", "least", "most"] (sp_is_within K)) : FnOk P w K mg base CX0 3 a.f_is_line a.d_is_line ["thing"] (sp_is_line K) := by
  refine T.F_is_line.ok sc_is_line (fun vs H Q E h => ?_) (fun cdv A outer s H vs Q E hr h => ?_)
  · obtain ⟨N, x, d, rfl, _⟩ := h; rfl
  · obtain ⟨N, x, d, rfl, hd, k⟩ := h
    refine exW ⟨_, (qss_one (qs_ret (qe_call G_is_within (hr.mono (by decide)) (by rfl) T.m_is_within T.k_is_within T.bd_is_within .nil pass0 (qa (pv 0 (by rfl) (by walk_at "vis") (by decide) (by decide)) (qa pe_int (qa (pe_glob (by rfl) T.c_LAST_LINE.1 T.c_LAST_LINE.2 (by decide)) qa_nil (by rfl)) (by rfl)) (by rfl)) (by decide) (by rfl) (by rfl)))), ?_⟩
    try dsimp only [cxOf]
    walk_at "rd"
    exact ⟨N, x, d, 0, 1000000000, rfl, hd, k⟩

def sp_may_begin (K : PySem.W.Frag) : Sp := fun vs H Q _ => ∃ (h m l : Int), vs = [.int h, .int m, .int l] ∧ 0 < m ∧ Q (.bl (decide (l % m = h))) H
theorem ok_may_begin (T : Txt P K mg a)  : FnOk P w K mg base CX0 1 a.f_may_begin a.d_may_begin ["house", "many", "line"] (sp_may_begin K) := by
  refine T.F_may_begin.ok sc_may_begin (fun vs H Q E h => ?_) (fun cdv A outer s H vs Q E hr h => ?_)
  · obtain ⟨h, m, l, rfl, _⟩ := h; rfl
  · obtain ⟨h, m, l, rfl, hm, k⟩ := h
    refine exW ⟨_, (qss_one (qs_ret (pe_cmpR op_eq (pe_op op_mod (pv 2 (by rfl) (by walk_at "vis") (by decide) (by decide)) (pv 1 (by rfl) (by walk_at "vis") (by decide) (by decide))) (pv 0 (by rfl) (by walk_at "vis") (by decide) (by decide)) (nomark _)))), ?_⟩
    try dsimp only [cxOf]
    walk_at "rd"
    rwa [show decide (V.int (l % m) = V.int h) = decide (l % m = h) from decide_eq_decide.mpr (by simp)]

def sp_is_first_line (K : PySem.W.Frag) : Sp := fun vs H Q _ => ∃ (N : List Addr) (x : V) (d : PyData), vs = [x] ∧ Dt K N H x d ∧ ∀ H', Same H H' → Q (.bl (Mt.firstD d)) H'
theorem ok_is_first_line (T : Txt P K mg a) (G_is_number : FnOk P w K mg base CX0 1 a.f_is_number a.d_is_number ["thing"] (sp_is_number K)) : FnOk P w K mg base CX0 2 a.f_is_first_line a.d_is_first_line ["thing"] (sp_is_first_line K) := by
  refine T.F_is_first_line.ok sc_is_first_line (fun vs H Q E h => ?_) (fun cdv A outer s H vs Q E hr h => ?_)
  · obtain ⟨N, x, d, rfl, _⟩ := h; rfl
  · obtain ⟨N, x, d, rfl, hd, k⟩ := h
    refine exW ⟨_, (qss_cons (qs_if (pw_or (pt_not (pt_val (qe_callB cn_isi (by rfl) T.b_isinstance (by decide +kernel) (qa (pv 0 (by rfl) (by walk_at "vis") (by decide) (by decide)) (qa (pe_bltn (by rfl) T.b_tuple (by decide +kernel) (v := .ty "tuple") rfl (by decide) (by decide)) qa_nil (by rfl)) (by rfl)) (by decide) (by decide) (by rfl) (by rfl)) (by intro _; rfl))) (pw_or (pt_cmpR op_ne (qe_callB cn_len (by rfl) T.b_len (by decide +kernel) (qa (pv 0 (by rfl) (by walk_at "vis") (by decide) (by decide)) qa_nil (by rfl)) (by decide) (by decide) (by rfl) (by rfl)) pe_int (nomark _)) (pw_or (pt_cmpR on_notN (pe_ix ix_tup (pv 0 (by rfl) (by walk_at "vis") (by decide) (by decide)) pe_int (fun _ _ => rfl)) pe_non (nomark _)) (pw_or1 (pt_cmpR on_isnA (pe_ix ix_tup (pv 0 (by rfl) (by walk_at "vis") (by decide) (by decide)) pe_int (fun _ _ => rfl)) pe_bl (nomark _)))))).pt
        (qss_one (qs_ret pe_bl))
        qss_nil)
      (qss_one (qs_ret (pe_and (qe_callB (cn_all (by rfl)) (by rfl) T.b_all (by decide +kernel) (qa (by
        refine' pe_comp (NC := ["part"]) (fr := [none]) ?B1 rfl ?hi1 ?hg1 ?ht1 ?he1 (by intro _; rfl)
        case B1 => exact ⟨rfl, rfl, by decide +kernel, by decide +kernel, rfl, ⟨trivial, trivial⟩⟩
        case hi1 => exact (pi_tup (qe_tup (qa (pe_ix ix_tup (pv 0 (by rfl) (by walk_at "vis") (by decide) (by decide)) pe_int (fun _ _ => rfl)) (qa (pe_ix ix_tup (pv 0 (by rfl) (by walk_at "vis") (by decide) (by decide)) pe_int (fun _ _ => rfl)) (qa (pe_ix ix_tup (pv 0 (by rfl) (by walk_at "vis") (by decide) (by decide)) pe_int (fun _ _ => rfl)) qa_nil (by rfl)) (by rfl)) (by rfl))))
        case hg1 => intro _ _ _; exact (pg_name (i := 0) (show (["part"] : List Str).Nodup by decide +kernel) rfl (Or.inl rfl) (by first | exact Or.inl rfl | exact Or.inr rfl))
        case ht1 => intro _ _ _; exact pf_nil
        case he1 => intro _ _ _; exact (qe_call G_is_number (hr.mono (by decide)) (by rfl) T.m_is_number T.k_is_number T.bd_is_number .nil pass0 (qa (pv 0 (by rfl) (by walk_at "vis") (by decide) (by decide)) qa_nil (by rfl)) (by decide) (by rfl) (by rfl))) qa_nil (by rfl)) (by decide) (by decide) (by rfl) (by rfl)) (pe_one (pe_cmpR (on_eqD hr) (pv 0 (by rfl) (by walk_at "vis") (by decide) (by decide)) (pe_glob (by rfl) T.c_FIRST_LINE.1 T.c_FIRST_LINE.2 (by decide)) (nomark _))))))), ?_⟩
    try dsimp only [cxOf]
    walk_at "rd"
    cases hd with
    | tup hq hn hr =>
      rename_i p xs ds
      have hlen := hr.length
      dsimp only [isTupD]
      walk_at "rd"
      by_cases e5 : ds.length = 5
      · match ds, e5 with
        | [d0, d1, d2, d3, d4], _ =>
          obtain ⟨x0, x1, x2, x3, x4, rfl, q0, q1, q2, q3, q4⟩ := Mt.dt5 hr
          rw [show decide (V.int (([x0, x1, x2, x3, x4] : List V).length : Int) = V.int 5) = true from rfl]
          walk_at "rd"
          have fin : Mt.firstD (.tuple [d0, d1, d2, d3, d4]) = false → Q (.bl false) H := fun e => by have z := k _ (Same.refl _); rwa [e] at z
          refine rd_ite2 (fun hc => ?_) (fun hc => ?_)
          · walk_at "rd"
            refine fin (Mt.first_no2 fun z => ?_)
            subst z
            cases q2
            simp at hc
          · have e2 : x2 = .non := by simpa using hc
            subst e2
            cases q2
            walk_at "rd"
            refine rd_ite2 (fun hc => ?_) (fun hc => ?_)
            · walk_at "rd"
              refine fin (Mt.first_no4 fun z => ?_)
              subst z
              cases q4
              simp at hc
            · have e4 : x4 = .bl false := by simpa using hc
              subst e4
              cases q4
              walk_at "rd"
              refine ⟨sz (by simp), fun l1 n1 => ?_⟩
              have s1 : Same H (upd H l1 (.tup [x0, x1, x3])) := Same.upd n1
              have g1 : upd H l1 (.tup [x0, x1, x3]) l1 = some (.tup [x0, x1, x3]) := upd_same
              generalize upd H l1 (.tup [x0, x1, x3]) = H1 at s1 g1 ⊢
              refine ⟨l1, rfl, ⟨_, SqT.of g1⟩, ?_⟩
              intro acc na ka
              have hall : DtAll K N H1 [x0, x1, x3] [d0, d1, d3] := .cons (q0.ext (Ext.same s1)) (.cons (q1.ext (Ext.same s1)) (.cons (q3.ext (Ext.same s1)) .nil))
              refine comp_by 3 (small1000 (by omega)) (fun i vs σc H' => Same H1 H' ∧ (∃ o, σc = [o]) ∧ vs = (([d0, d1, d3].take i).map Mt.numD).map V.bl) ?_ ?_ ?_
              · exact ⟨Same.upd na, ⟨none, rfl⟩, rfl⟩
              · rintro i vs σc H' hi hl ha ⟨sm, ⟨o, rfl⟩, rfl⟩
                have hL : SqT K H' l1 [x0, x1, x3] := SqT.of (sm _ _ g1)
                obtain ⟨v, dv, ev, ed, hv⟩ := hall.at (i := i) (by simpa using hi)
                refine ⟨⟨_, _, hL, ev⟩, ?_⟩
                rintro x H6 ⟨rfl, hx⟩ R hR
                have e2 := hx _ hL
                rw [ev] at e2; cases e2
                walk_at "rd"
                refine ⟨N, _, _, rfl, hv.ext (Ext.same sm), ?_⟩
                refine hR _ _ _ ha ⟨fun b u e => ?_, ⟨_, rfl⟩, ?_⟩
                · rw [upd_ne (ne_of_none e na)]; exact sm b u e
                · rw [List.take_add_one, ed]; simp
              · rintro vs σc H' hl ha ⟨sm, _, rfl⟩
                refine ⟨⟨_, SqT.of (sm _ _ g1), by simp⟩, ?_⟩
                walk_at "rd"
                have s2 := s1.trans sm
                refine rd_all (bs := [d0, d1, d3].map Mt.numD) (SqL.of ha) (rd_bl' ?_)
                have fin2 : Mt.firstD (.tuple [d0, d1, .none, d3, .bool false]) = false → Q (.bl false) H' := fun e => by have z := k _ s2; rwa [e] at z
                cases h0 : Mt.numD d0 with
                | false => walk_at "rd"; simp only [List.map_cons, List.all_cons, h0, id, Bool.false_and]; walk_at "rd"; exact fin2 (Mt.first_num0 h0)
                | true =>
                  cases h1 : Mt.numD d1 with
                  | false => simp only [List.map_cons, List.all_cons, h0, h1, id, Bool.false_and, Bool.true_and]; walk_at "rd"; exact fin2 (Mt.first_num1 h1)
                  | true =>
                    cases h3 : Mt.numD d3 with
                    | false => simp only [List.map_cons, List.all_cons, h0, h1, h3, id, Bool.false_and, Bool.true_and]; walk_at "rd"; exact fin2 (Mt.first_num3 h3)
                    | true =>
                      rw [show ([d0, d1, d3].map Mt.numD).all id = true by simp [h0, h1, h3]]
                      walk_at "rd"
                      obtain ⟨i0, rfl⟩ := Mt.numD_int h0
                      obtain ⟨i1, rfl⟩ := Mt.numD_int h1
                      obtain ⟨i3, rfl⟩ := Mt.numD_int h3
                      have hF : Dt K [] H' (.ref a.a_FIRST_LINE) (.tuple [.int 0, .int 0, .none, .int 0, .bool false]) := .tup (T.r_FIRST_LINE H') (by simp) (.cons (.int _) (.cons (.int _) (.cons .non (.cons (.int _) (.cons (.bl _) .nil)))))
                      refine rd_eqD (Dt.tup (s2.tupS hq) hn (hr.ext (Ext.same s2))).nil hF (Mt.shaped5 ..) (by decide +kernel) ?_
                      rw [Mt.first_eqv]
                      exact k _ s2
      · have e5' : decide (V.int (xs.length : Int) = V.int 5) = false := decide_eq_false fun z => by injection z with z; omega
        rw [e5']
        walk_at "rd"
        have z := k _ (Same.refl _)
        rwa [Mt.first_len e5] at z
    | _ => dsimp only [isTupD]; walk_at "rd"; exact k _ (Same.refl _)

def sp_is_later_line (K : PySem.W.Frag) : Sp := fun vs H Q _ => ∃ (N : List Addr) (x : V) (d : PyData) (m : Int), vs = [x, .int m] ∧ Dt K N H x d ∧ 0 < m ∧ Q (.bl (Mt.lineD m d).isSome) H
theorem ok_is_later_line (T : Txt P K mg a) (G_is_line : FnOk P w K mg base CX0 3 a.f_is_line a.d_is_line ["thing"] (sp_is_line K)) (G_is_number : FnOk P w K mg base CX0 1 a.f_is_number a.d_is_number ["thing"] (sp_is_number K)) (G_is_place : FnOk P w K mg base CX0 3 a.f_is_place a.d_is_place ["thing"] (sp_is_place K)) (G_may_begin : FnOk P w K mg base CX0 1 a.f_may_begin a.d_may_begin ["house", "many", "line"] (sp_may_begin K)) : FnOk P w K mg base CX0 4 a.f_is_later_line a.d_is_later_line ["thing", "houses"] (sp_is_later_line K) := by
  refine T.F_is_later_line.ok sc_is_later_line (fun vs H Q E h => ?_) (fun cdv A outer s H vs Q E hr h => ?_)
  · obtain ⟨N, x, d, m, rfl, _⟩ := h; rfl
  · obtain ⟨N, x, d, m, rfl, hd, hm, k⟩ := h
    refine exW ⟨_, (qss_cons (qs_if (pw_or (pt_not (pt_val (qe_callB cn_isi (by rfl) T.b_isinstance (by decide +kernel) (qa (pv 0 (by rfl) (by walk_at "vis") (by decide) (by decide)) (qa (pe_bltn (by rfl) T.b_tuple (by decide +kernel) (v := .ty "tuple") rfl (by decide) (by decide)) qa_nil (by rfl)) (by rfl)) (by decide) (by decide) (by rfl) (by rfl)) (by intro _; rfl))) (pw_or1 (pt_cmpR op_ne (qe_callB cn_len (by rfl) T.b_len (by decide +kernel) (qa (pv 0 (by rfl) (by walk_at "vis") (by decide) (by decide)) qa_nil (by rfl)) (by decide) (by decide) (by rfl) (by rfl)) pe_int (nomark _)))).pt
        (qss_one (qs_ret pe_bl))
        qss_nil)
      (qss_cons (qs_asg (pv 0 (by rfl) (by walk_at "vis") (by decide) (by decide)) (pg_tup (n := 5) rfl (pgs_cons (pg_name (i := 2) (show (["thing", "houses", "line", "house", "parent", "fork", "forced"] : List Str).Nodup by decide +kernel) rfl (Or.inl rfl) (by first | exact Or.inl rfl | exact Or.inr rfl)) (pgs_cons (pg_name (i := 3) (show (["thing", "houses", "line", "house", "parent", "fork", "forced"] : List Str).Nodup by decide +kernel) rfl (Or.inl rfl) (by first | exact Or.inl rfl | exact Or.inr rfl)) (pgs_cons (pg_name (i := 4) (show (["thing", "houses", "line", "house", "parent", "fork", "forced"] : List Str).Nodup by decide +kernel) rfl (Or.inl rfl) (by first | exact Or.inl rfl | exact Or.inr rfl)) (pgs_cons (pg_name (i := 5) (show (["thing", "houses", "line", "house", "parent", "fork", "forced"] : List Str).Nodup by decide +kernel) rfl (Or.inl rfl) (by first | exact Or.inl rfl | exact Or.inr rfl)) (pgs_cons (pg_name (i := 6) (show (["thing", "houses", "line", "house", "parent", "fork", "forced"] : List Str).Nodup by decide +kernel) rfl (Or.inl rfl) (by first | exact Or.inl rfl | exact Or.inr rfl)) pgs_nil (by rfl)) (by rfl)) (by rfl)) (by rfl)) (by rfl)) (by rfl) (by rfl)) (by rfl) (by rfl) (by rfl))
      (qss_cons (qs_if (pw_or (pt_not (pt_val (qe_call G_is_line (hr.mono (by decide)) (by rfl) T.m_is_line T.k_is_line T.bd_is_line .nil pass0 (qa (pv 2 (by rfl) (by walk_at "vis") (by decide) (by decide)) qa_nil (by rfl)) (by decide) (by rfl) (by rfl)) (by intro _; rfl))) (pw_or (pt_not (pt_val (qe_call G_is_number (hr.mono (by decide)) (by rfl) T.m_is_number T.k_is_number T.bd_is_number .nil pass0 (qa (pv 3 (by rfl) (by walk_at "vis") (by decide) (by decide)) qa_nil (by rfl)) (by decide) (by rfl) (by rfl)) (by intro _; rfl))) (pw_or1 (pt_not (pt_val (qe_call G_may_begin (hr.mono (by decide)) (by rfl) T.m_may_begin T.k_may_begin T.bd_may_begin .nil pass0 (qa (pv 3 (by rfl) (by walk_at "vis") (by decide) (by decide)) (qa (pv 1 (by rfl) (by walk_at "vis") (by decide) (by decide)) (qa (pv 2 (by rfl) (by walk_at "vis") (by decide) (by decide)) qa_nil (by rfl)) (by rfl)) (by rfl)) (by decide) (by rfl) (by rfl)) (by intro _; rfl)))))).pt
        (qss_one (qs_ret pe_bl))
        qss_nil)
      (qss_one (qs_ret (pe_and (qe_call G_is_line (hr.mono (by decide)) (by rfl) T.m_is_line T.k_is_line T.bd_is_line .nil pass0 (qa (pv 4 (by rfl) (by walk_at "vis") (by decide) (by decide)) qa_nil (by rfl)) (by decide) (by rfl) (by rfl)) (pe_and (qe_call G_is_place (hr.mono (by decide)) (by rfl) T.m_is_place T.k_is_place T.bd_is_place .nil pass0 (qa (pv 5 (by rfl) (by walk_at "vis") (by decide) (by decide)) qa_nil (by rfl)) (by decide) (by rfl) (by rfl)) (pe_one (qe_callB cn_isi (by rfl) T.b_isinstance (by decide +kernel) (qa (pv 6 (by rfl) (by walk_at "vis") (by decide) (by decide)) (qa (pe_bltn (by rfl) T.b_bool (by decide +kernel) (v := .ty "bool") rfl (by decide) (by decide)) qa_nil (by rfl)) (by rfl)) (by decide) (by decide) (by rfl) (by rfl)))))))))), ?_⟩
    try dsimp only [cxOf]
    walk_at "rd"
    cases hd with
    | tup hq hn hr =>
      rename_i p xs ds
      have hlen := hr.length
      dsimp only [isTupD]
      walk_at "rd"
      by_cases e5 : ds.length = 5
      · match ds, e5 with
        | [d0, d1, d2, d3, d4], _ =>
          obtain ⟨x0, x1, x2, x3, x4, rfl, q0, q1, q2, q3, q4⟩ := Mt.dt5 hr
          rw [show decide (V.int (([x0, x1, x2, x3, x4] : List V).length : Int) = V.int 5) = true from rfl]
          walk_at "rd"
          refine ⟨N, _, _, rfl, q0, ?_⟩
          have fin : Mt.lineD m (.tuple [d0, d1, d2, d3, d4]) = none → Q (.bl false) H := fun e => by rw [e] at k; exact k
          cases h0 : Mt.withinD 0 1000000000 d0 with
          | false => walk_at "rd"; exact fin (Mt.line_no0 h0)
          | true =>
            walk_at "rd"
            refine ⟨N, _, _, rfl, q1, ?_⟩
            cases h1 : Mt.numD d1 with
            | false => walk_at "rd"; exact fin (Mt.line_no1 h1)
            | true =>
              obtain ⟨l, rfl, l0, l1⟩ := Mt.within_int h0
              obtain ⟨h, rfl⟩ := Mt.numD_int h1
              cases q0; cases q1
              walk_at "rd"
              refine ⟨_, _, _, rfl, hm, ?_⟩
              by_cases e : l % m = h
              · rw [decide_eq_true e]
                walk_at "rd"
                refine ⟨N, _, _, rfl, q2, rd_bl' ?_⟩
                cases h2 : Mt.withinD 0 1000000000 d2 with
                | false => walk_at "rd"; exact fin (Mt.line_no2 h2)
                | true =>
                  walk_at "rd"
                  refine ⟨N, _, _, rfl, q3, rd_bl' ?_⟩
                  cases h3 : Mt.withinD 0 1000000 d3 with
                  | false => walk_at "rd"; exact fin (Mt.line_no3 h3)
                  | true =>
                    walk_at "rd"
                    rw [Mt.line_yes h0 e h2 h3] at k
                    exact k
              · rw [decide_eq_false e]
                walk_at "rd"
                exact fin (Mt.line_noM e)
      · have e5' : decide (V.int (xs.length : Int) = V.int 5) = false := decide_eq_false fun z => by injection z with z; omega
        rw [e5']
        walk_at "rd"
        rwa [Mt.line_len e5] at k
    | _ => dsimp only [isTupD]; walk_at "rd"; exact k

def sp_right_lines (K : PySem.W.Frag) (a : Adr) : Sp := fun vs H Q E => ∃ (N : List Addr) (y x : V) (dy d : PyData), vs = [y, x] ∧ Dt K N H y dy ∧ Dt K N H x d ∧
  (∀ m, dy = .int m → 1 ≤ m → m ≤ 8 → d.width < 500 ∧ ∀ H', Same H H' → Q (.bl (Mt.rightD m d)) H') ∧ (Mt.withinD 1 8 dy = false → ∀ dx, H dx = none → E (.ref a.C_NoCount) (some dx) (upd H dx (.xd [("what", .str "houses")])))
theorem ok_right_lines (T : Txt P K mg a) (G_is_first_line : FnOk P w K mg base CX0 2 a.f_is_first_line a.d_is_first_line ["thing"] (sp_is_first_line K)) (G_is_later_line : FnOk P w K mg base CX0 4 a.f_is_later_line a.d_is_later_line ["thing", "houses"] (sp_is_later_line K)) (G_require_within : FnOk P w K mg base (CX1 P w) 3 a.f_require_within a.d_require_within ["thing", "least", "most", "what"] (sp_require_within K a)) : FnOk P w K mg base (CX1 P w) 5 a.f_right_lines a.d_right_lines ["houses", "lines"] (sp_right_lines K a) := by
  refine T.F_right_lines.okX sc_right_lines (fun vs H Q E h => ?_) (fun cdv A outer s H vs Q E hr h => ?_)
  · obtain ⟨N, y, x, dy, d, rfl, _⟩ := h; rfl
  · obtain ⟨N, y, x, dy, d, rfl, hy, hd, k1, k2⟩ := h
    refine exW ⟨_, (qss_cons (qs_expr (qe_callX G_require_within (hr.mono (by decide)) (by rfl) T.m_require_within T.k_require_within T.bd_require_within .nil px1 (qa (pv 0 (by rfl) (by walk_at "vis") (by decide) (by decide)) (qa pe_int (qa (pe_glob (by rfl) T.c_HOUSES.1 T.c_HOUSES.2 (by decide)) (qa pe_str qa_nil (by rfl)) (by rfl)) (by rfl)) (by rfl)) (by decide) (by rfl) (by rfl)) (by rfl))
      (qss_cons (qs_if (pw_or (pt_not (pt_val (qe_callB cn_isi (by rfl) T.b_isinstance (by decide +kernel) (qa (pv 1 (by rfl) (by walk_at "vis") (by decide) (by decide)) (qa (pe_bltn (by rfl) T.b_list (by decide +kernel) (v := .ty "list") rfl (by decide) (by decide)) qa_nil (by rfl)) (by rfl)) (by decide) (by decide) (by rfl) (by rfl)) (by intro _; rfl))) (pw_or (pt_cmpR op_eq (qe_callB cn_len (by rfl) T.b_len (by decide +kernel) (qa (pv 1 (by rfl) (by walk_at "vis") (by decide) (by decide)) qa_nil (by rfl)) (by decide) (by decide) (by rfl) (by rfl)) pe_int (nomark _)) (pw_or1 (pt_not (pt_val (qe_call G_is_first_line (hr.mono (by decide)) (by rfl) T.m_is_first_line T.k_is_first_line T.bd_is_first_line .nil pass0 (qa (pe_ix ix_list (pv 1 (by rfl) (by walk_at "vis") (by decide) (by decide)) pe_int (fun _ _ => rfl)) qa_nil (by rfl)) (by decide) (by rfl) (by rfl)) (by intro _; rfl)))))).pt
        (qss_one (qs_ret pe_bl))
        qss_nil)
      (qss_cons (qs_set (i := 2) sc_right_lines.nd rfl (Or.inl rfl) (pe_disp1 pe_int pe_int) (by rfl) (by first | exact Or.inl rfl | exact Or.inr rfl))
      (qss_cons (qs_for PassesOwn.leaving rfl (pi_list (pe_slice sl_list (pv 1 (by rfl) (by walk_at "vis") (by decide) (by decide)) (po_some pe_int) po_none)) (pg_name (i := 3) sc_right_lines.nd rfl (Or.inl rfl) (by first | exact Or.inl rfl | exact Or.inr rfl))
        (qss_cons (qs_if (pt_not (pt_val (qe_call G_is_later_line (hr.mono (by decide)) (by rfl) T.m_is_later_line T.k_is_later_line T.bd_is_later_line .nil pass0 (qa (pv 3 (by rfl) (by walk_at "vis") (by decide) (by decide)) (qa (pv 0 (by rfl) (by walk_at "vis") (by decide) (by decide)) qa_nil (by rfl)) (by rfl)) (by decide) (by rfl) (by rfl)) (by intro _; rfl)))
          (qss_one (qs_ret pe_bl))
          qss_nil)
        (qss_cons (ps_par3 (i := 4) (j := 5) (l := 6) (by rfl) sc_right_lines.nd rfl rfl rfl (by decide) (by decide) (by decide) rfl rfl rfl (qa (pe_ix ix_tup (pv 3 (by rfl) (by walk_at "vis") (by decide) (by decide)) pe_int (fun _ _ => rfl)) (qa (pe_ix ix_tup (pv 3 (by rfl) (by walk_at "vis") (by decide) (by decide)) pe_int (fun _ _ => rfl)) (qa (pe_ix ix_tup (pv 3 (by rfl) (by walk_at "vis") (by decide) (by decide)) pe_int (fun _ _ => rfl)) qa_nil (by rfl)) (by rfl)) (by rfl)) (by rfl) (by rfl))
        (qss_cons (qs_if (pw_or (pt_cmp (pc_din (hu_of hr) (pv 4 (by rfl) (by walk_at "vis") (by decide) (by decide)) (pv 2 (by rfl) (by walk_at "vis") (by decide) (by decide))) (by with_unfolding_all rfl)) (pw_or (pt_cmp (pc_dnotin (hu_of hr) (pv 5 (by rfl) (by walk_at "vis") (by decide) (by decide)) (pv 2 (by rfl) (by walk_at "vis") (by decide) (by decide))) (by with_unfolding_all rfl)) (pw_or (pt_cmpR op_ge (pv 5 (by rfl) (by walk_at "vis") (by decide) (by decide)) (pv 4 (by rfl) (by walk_at "vis") (by decide) (by decide)) (nomark _)) (pw_or1 (pt_cmpR op_lt (pv 6 (by rfl) (by walk_at "vis") (by decide) (by decide)) (pe_dget (hu_of hr) (pv 2 (by rfl) (by walk_at "vis") (by decide) (by decide)) (pv 5 (by rfl) (by walk_at "vis") (by decide) (by decide)) (fun _ _ => rfl)) (nomark _)))))).pt
          (qss_one (qs_ret pe_bl))
          qss_nil)
        (qss_one (qs_dput (hu_of hr) (pv 2 (by rfl) (by walk_at "vis") (by decide) (by decide)) (pv 4 (by rfl) (by walk_at "vis") (by decide) (by decide)) (pv 6 (by rfl) (by walk_at "vis") (by decide) (by decide)) (by rfl)))))) (by intro _; rfl))
      (qss_one (qs_ret pe_bl)))))), ?_⟩
    try dsimp only [cxOf]
    walk_at "rq"
    refine ⟨N, y, dy, 1, 8, _, rfl, hy, fun hw => ?_, k2⟩
    obtain ⟨m, rfl, m1, m8⟩ := Mt.within_int hw
    obtain ⟨hwd, k⟩ := k1 m rfl m1 m8
    cases hy
    walk_at "rq"
    cases hd with
    | lst hq hn hr =>
      rename_i p xs ds
      have hlen := hr.length
      dsimp only [isListD]
      walk_at "rd"
      cases hr with
      | nil =>
        rw [show decide (V.int (([] : List V).length : Int) = V.int 0) = true from rfl]
        walk_at "rq"
        exact k _ (Same.refl _)
      | cons q0 hr =>
        rename_i x0 d0 xs ds
        rw [show decide (V.int ((x0 :: xs).length : Int) = V.int 0) = false from decide_eq_false fun z => by injection z with z; simp at z; omega]
        walk_at "rq"
        refine rd_ixL hq (atI_nat (j := 0) rfl) ?_
        walk_at "rq"
        refine ⟨N, _, _, rfl, q0, fun H1 s1 => ?_⟩
        cases h0 : Mt.firstD d0 with
        | false =>
          walk_at "rq"
          have z := k _ s1
          simpa only [Mt.rightD, h0, Bool.false_and] using z
        | true =>
          walk_at "rq"
          intro f nf _
          walk_at "rq"
          refine ⟨upd_same, .inl 0, rfl, ?_⟩
          have s2 : Same H1 (upd (upd H1 f (.dK [])) f (.dK [(.inl 0, .int 0)])) := by rw [upd_upd]; exact Same.upd nf
          have g2 : (upd (upd H1 f (.dK [])) f (.dK [(.inl 0, .int 0)])) f = some (.dK (FK [(0, 0)])) := upd_same
          generalize upd (upd H1 f (.dK [])) f (.dK [(.inl 0, .int 0)]) = H2 at s2 g2 ⊢
          have s02 := s1.trans s2
          have nf0 : H f = none := s1.free nf
          have hq2 : SqL K H2 p (x0 :: xs) := s02.seq hq
          walk_at "rq"
          intro l3 n3
          rw [show (some (1 : Int)) = some ((1 : Nat) : Int) from rfl, cutV_drop, List.drop_one, List.tail_cons]
          have s3 : Same H2 (upd H2 l3 (.lst xs)) := Same.upd n3
          have g3 : upd H2 l3 (.lst xs) l3 = some (.lst xs) := upd_same
          generalize upd H2 l3 (.lst xs) = H3 at s3 g3 ⊢
          have nl : l3 ≠ f := fun z => by rw [z, g2] at n3; cases n3
          have hr3 := hr.ext (Ext.same (s02.trans s3))
          have hrl := hr.length
          have g23 := s3 _ _ g2
          refine ⟨l3, rfl, ⟨_, SqL.of g3⟩, ?_⟩
          refine for_listW (xs := xs) (fun i σ' H' => ∃ (fs : List (Int × Int)) (o3 o4 o5 o6 : Option V), σ' = [some (.int m), some (.ref p), some (.ref f), o3, o4, o5, o6] ∧ Mt.runF m [(0, 0)] (ds.take i) = some fs ∧ H' f = some (.dK (FK fs)) ∧ H' l3 = some (.lst xs) ∧ Same H H') ?_ ?_ ?_ ?_
          · exact ⟨[(0, 0)], none, none, none, none, rfl, rfl, g23, g3, s02.trans s3⟩
          · rintro i σ' H' _ ⟨fs, o3, o4, o5, o6, rfl, hf, gf, gl, sm⟩
            exact SqL.of gl
          · rintro i x σ' H' hx ⟨fs, o3, o4, o5, o6, rfl, hf, gf, gl, sm⟩
            obtain ⟨d, ed, hd⟩ := hr.get hx
            have hd' := hd.ext (Ext.same sm)
            have hstep := Mt.runF_take hf ed
            have bad : Mt.stepF m fs d = none → Q (.bl false) H' := fun e => by
              have z := k _ sm
              rw [e] at hstep
              simpa only [Mt.rightD, h0, Bool.true_and, Mt.runF_none _ hstep, Option.isSome_none] using z
            walk_at "rq"
            refine ⟨N, _, _, _, rfl, hd', by omega, ?_⟩
            cases hl : Mt.lineD m d with
            | none => walk_at "rq"; exact bad (by simp only [Mt.stepF, hl])
            | some t =>
              obtain ⟨l, q, g⟩ := t
              obtain ⟨b, rfl, l0, l1, p0, p1, f0, f1⟩ := Mt.line_some hl
              obtain ⟨t, rfl, hT⟩ := Mt.dtLine hd'
              walk_at "rq"
              refine ⟨_, _, _, rfl, ?_⟩
              walk_at "rq"
              refine ⟨f, _, rfl, dget_FK gf l, ?_⟩
              cases hL : lookI fs l with
              | some _ => walk_at "rq"; exact bad (by simp only [Mt.stepF, hl, hL])
              | none =>
                dsimp only [Option.map, Option.isSome]
                walk_at "rq"
                refine ⟨f, _, rfl, dget_FK gf q, ?_⟩
                cases hP : lookI fs q with
                | none => dsimp only [Option.map, Option.isSome]; walk_at "rq"; exact bad (by simp only [Mt.stepF, hl, hL, hP])
                | some g0 =>
                  dsimp only [Option.map, Option.isSome]
                  walk_at "rq"
                  refine rd_ite2 (fun hc => ?_) (fun hc => ?_)
                  · walk_at "rq"
                    have : q ≥ l := by simpa using hc
                    exact bad (by simp only [Mt.stepF, hl, hL, hP]; exact if_neg fun z => by omega)
                  · have hc : q < l := by simpa using hc
                    walk_at "rq"
                    refine ⟨f, .int g0, rfl, by have z := dget_FK gf q; rwa [hP] at z, ?_⟩
                    walk_at "rq"
                    refine rd_ite2 (fun hd => ?_) (fun hd => ?_)
                    · walk_at "rq"
                      have : g < g0 := by simpa using hd
                      exact bad (by simp only [Mt.stepF, hl, hL, hP]; exact if_neg fun z => by omega)
                    · have hd : g0 ≤ g := by simpa using hd
                      walk_at "rq"
                      have hs : Mt.stepF m fs (.tuple [.int l, .int (l % m), .int q, .int g, .bool b]) = some (fs ++ [(l, g)]) := by simp only [Mt.stepF, hl, hL, hP]; exact if_pos ⟨hc, hd⟩
                      have hfl := Mt.runF_len hf
                      have : (ds.take i).length ≤ ds.length := List.length_take_le' _ _
                      refine ⟨f, _, rfl, dput_FK gf hL (by simp [PyData.width] at hwd; simp at hfl; omega), ?_⟩
                      walk_at "rq"
                      refine ⟨fs ++ [(l, g)], _, _, _, _, rfl, hstep.trans hs, upd_same, by rw [upd_ne nl]; exact gl, fun b u e => ?_⟩
                      rw [upd_ne (ne_of_none e nf0)]; exact sm b u e
          · rintro σ' H' ⟨fs, o3, o4, o5, o6, rfl, hf, gf, gl, sm⟩
            walk_at "rq"
            rw [hrl, List.take_length] at hf
            have z := k _ sm
            simpa only [Mt.rightD, h0, Bool.true_and, hf, Option.isSome_some] using z
    | _ => dsimp only [isListD]; walk_at "rd"; exact k _ (Same.refl _)

def sp_law_deck (K : PySem.W.Frag) : Sp := fun vs H Q _ => ∃ (p : Addr) (ns : List Int), vs = [.ref p] ∧ SqL K H p (ns.map V.int) ∧ ns.length ≤ 63 ∧ ∀ (st c r : Addr) (H' : Hp), Dk H' st c r 0 → Same H H' → H st = none → Q (.ref st) H'
theorem ok_law_deck (T : Txt P K mg a)  : FnOk P w K mg base CX0 1 a.f_law_deck a.d_law_deck ["_law_script"] (sp_law_deck K) := by
  refine T.F_law_deck.ok sc_law_deck (fun vs H Q E h => ?_) (fun cdv A outer s H vs Q E hr h => ?_)
  · obtain ⟨p, ns, rfl, _⟩ := h; rfl
  · obtain ⟨p, ns, rfl, hq, hl, k⟩ := h
    refine exW ⟨_, (qss_cons (qs_set (i := 1) sc_law_deck.nd rfl (Or.inl rfl) (pe_op op_cat (qe_callTy cn_list (by rfl) T.b_list (by decide +kernel) (qa (pe_slice sl_list (pv 0 (by rfl) (by walk_at "vis") (by decide) (by decide)) po_none (po_some pe_int)) qa_nil (by rfl)) (by decide) (by decide) (by rfl) (by rfl)) (pe_op op_rep (qe_lst (qa pe_int qa_nil (by rfl))) (qe_callTy cn_int (by rfl) T.b_int (by decide +kernel) (qa (pe_cmpR op_eq (qe_callB cn_len (by rfl) T.b_len (by decide +kernel) (qa (pv 0 (by rfl) (by walk_at "vis") (by decide) (by decide)) qa_nil (by rfl)) (by decide) (by decide) (by rfl) (by rfl)) pe_int (nomark _)) qa_nil (by rfl)) (by decide) (by decide) (by rfl) (by rfl)))) (by rfl) (by first | exact Or.inl rfl | exact Or.inr rfl))
      (qss_one (qs_ret (qe_lst (qa (pv 1 (by rfl) (by walk_at "vis") (by decide) (by decide)) (qa pe_int (qa (by
        refine' pe_comp (NC := ["_law_cell"]) (fr := [none]) ?B2 rfl ?hi2 ?hg2 ?ht2 ?he2 (by intro _; rfl)
        case B2 => exact ⟨rfl, rfl, by decide +kernel, by decide +kernel, rfl, ⟨trivial, trivial⟩⟩
        case hi2 => exact (pi_list (pv 1 (by rfl) (by walk_at "vis") (by decide) (by decide)))
        case hg2 => intro _ _ _; exact (pg_name (i := 0) (show (["_law_cell"] : List Str).Nodup by decide +kernel) rfl (Or.inl rfl) (by first | exact Or.inl rfl | exact Or.inr rfl))
        case ht2 => intro _ _ _; exact pf_nil
        case he2 => intro _ _ _; exact (pe_op op_mul (pv 0 (by rfl) (by walk_at "vis") (by decide) (by decide)) (qe_callTy cn_int (by rfl) T.b_int (by decide +kernel) (qa (pe_cmpR op_ge (pv 0 (by rfl) (by walk_at "vis") (by decide) (by decide)) (pe_op op_pow pe_int pe_int) (nomark _)) qa_nil (by rfl)) (by decide) (by decide) (by rfl) (by rfl)))) qa_nil (by rfl)) (by rfl)) (by rfl)))))), ?_⟩
    try dsimp only [cxOf]
    walk_at "rd"
    intro l1 n1
    rw [show (some (63 : Int)) = some ((63 : Nat) : Int) from rfl, cutV_take, List.take_of_length_le (by simpa using hl)]
    walk_at "rd"
    intro l2 n2
    have s2 : Same H (upd (upd H l1 (.lst (ns.map V.int))) l2 (.lst (ns.map V.int))) := (Same.upd n1).trans (Same.upd n2)
    have g2 : upd (upd H l1 (.lst (ns.map V.int))) l2 (.lst (ns.map V.int)) l2 = some (.lst (ns.map V.int)) := upd_same
    generalize (upd (upd H l1 (.lst (ns.map V.int))) l2 (.lst (ns.map V.int))) = H2 at s2 g2 ⊢
    walk_at "rd"
    refine ⟨sz (by simp), fun l3 n3 => ?_⟩
    have hq3 : SqL K (upd H2 l3 (.lst [.int 0])) p (ns.map V.int) := (Ext.same (N := []) (s2.trans (Same.upd n3))).lst hq (by simp)
    walk_at "rd"
    refine ⟨l3, _, [.int 0], rfl, rfl, upd_same, by split <;> decide, by split <;> decide, by split <;> decide, fun l4 n4 => ?_⟩
    have g4 : upd (upd H2 l3 (.lst [.int 0])) l4 (.lst (List.replicate ((if decide (V.int ((ns.map V.int).length : Int) = V.int 0) = true then (1 : Int) else 0)).toNat [V.int 0]).flatten) l2 = some (.lst (ns.map V.int)) := by
      rw [upd_ne (ne_of_none ((Same.upd n3) _ _ g2) n4), upd_ne (ne_of_none g2 n3)]; exact g2
    have s4 : Same H (upd (upd H2 l3 (.lst [.int 0])) l4 (.lst (List.replicate ((if decide (V.int ((ns.map V.int).length : Int) = V.int 0) = true then (1 : Int) else 0)).toNat [V.int 0]).flatten)) := (s2.trans (Same.upd n3)).trans (Same.upd n4)
    obtain ⟨cs, hcs, hc1, hc2⟩ : ∃ cs : List Int, ns.map V.int ++ (List.replicate ((if decide (V.int ((ns.map V.int).length : Int) = V.int 0) = true then (1 : Int) else 0)).toNat [V.int 0]).flatten = cs.map V.int ∧ 1 ≤ cs.length ∧ cs.length ≤ 63 := by
      cases ns with
      | nil => exact ⟨[0], by simp, by decide, by decide⟩
      | cons n ns =>
        have e : decide (V.int (((n :: ns).map V.int).length : Int) = V.int 0) = false := decide_eq_false fun z => by injection z with z; rw [List.length_map, List.length_cons] at z; omega
        exact ⟨n :: ns, by rw [e]; simp, by simp, hl⟩
    have z4 : upd (upd H2 l3 (.lst [.int 0])) l4 (.lst (List.replicate ((if decide (V.int ((ns.map V.int).length : Int) = V.int 0) = true then (1 : Int) else 0)).toNat [V.int 0]).flatten) l4 = some (.lst (List.replicate ((if decide (V.int ((ns.map V.int).length : Int) = V.int 0) = true then (1 : Int) else 0)).toNat [V.int 0]).flatten) := upd_same
    generalize (List.replicate ((if decide (V.int ((ns.map V.int).length : Int) = V.int 0) = true then (1 : Int) else 0)).toNat [V.int 0]).flatten = zs at hcs z4 g4 s4 ⊢
    generalize upd (upd H2 l3 (.lst [.int 0])) l4 (.lst zs) = H4 at z4 g4 s4 ⊢
    refine ⟨l2, l4, _, _, rfl, rfl, g4, z4, by rw [← List.length_append, hcs, List.length_map]; exact sz (by omega), fun l5 n5 => ?_⟩
    rw [hcs]
    have s5 := s4.trans (Same.upd (o := .lst (cs.map V.int)) n5)
    have g5 : upd H4 l5 (.lst (cs.map V.int)) l5 = some (.lst (cs.map V.int)) := upd_same
    generalize upd H4 l5 (.lst (cs.map V.int)) = H5 at s5 g5 ⊢
    walk_at "rd"
    refine ⟨l5, rfl, ⟨_, SqL.of g5⟩, ?_⟩
    intro acc na ka
    refine comp_by cs.length (small1000 (by omega)) (fun i vs σc H' => Same H5 H' ∧ (∃ o, σc = [o]) ∧ ∃ rs : List Int, vs = rs.map V.int) ?_ ?_ ?_
    · exact ⟨Same.upd na, ⟨none, rfl⟩, [], rfl⟩
    · rintro i vs σc H' hi hl ha ⟨sm, ⟨o, rfl⟩, rs, rfl⟩
      have hL : SqL K H' l5 (cs.map V.int) := SqL.of (sm _ _ g5)
      have ex : (cs.map V.int)[i]? = some (.int cs[i]) := by simp [hi]
      refine ⟨⟨_, _, hL, ex⟩, ?_⟩
      rintro x H6 ⟨rfl, hx⟩ R hR
      have e2 := hx _ hL
      rw [ex] at e2; cases e2
      walk_at "rd"
      refine hR _ _ _ ha ⟨fun b u e => ?_, ⟨_, rfl⟩, rs ++ [_], by rw [List.map_append]; rfl⟩
      rw [upd_ne (ne_of_none e na)]; exact sm b u e
    · rintro vs σc H' hl ha ⟨sm, _, rs, rfl⟩
      refine ⟨⟨_, SqL.of (sm _ _ g5), by simp⟩, ?_⟩
      walk_at "rd"
      refine ⟨sz (by simp), fun l6 n6 => ?_⟩
      have nc : l5 ≠ acc := ne_of_none g5 na
      have n65 : l5 ≠ l6 := ne_of_none (sm _ _ g5) n6
      have n6a : acc ≠ l6 := ne_of_none ha n6
      refine k l6 l5 acc _ ⟨cs, rs, 0, upd_same, by rw [upd_ne n65]; exact sm _ _ g5, by rw [upd_ne n6a]; exact ha, n65, nc, n6a, hc1, hc2, by simpa using hl, Int.le_refl _, Int.le_refl _⟩ ((s5.trans sm).trans (Same.upd n6)) (s5.free (sm.free n6))

def sp_law_take (K : PySem.W.Frag) : Sp := fun vs H Q _ => ∃ (st c r : Addr) (m : Nat) (b : Int), vs = [.ref st, .int b] ∧ Dk H st c r m ∧ m < 1000000000 ∧ 0 < b ∧ b < 1073741824 ∧
  ∀ (v : Int) (H' : Hp), 0 ≤ v → v < b → Dk H' st c r (m + 1) → Ext [st, r] H H' → Q (.int v) H'
theorem ok_law_take (T : Txt P K mg a)  : FnOk P w K mg base CX0 1 a.f_law_take a.d_law_take ["_law_deck_here", "_law_many"] (sp_law_take K) := by
  refine T.F_law_take.ok sc_law_take (fun vs H Q E h => ?_) (fun cdv A outer s H vs Q E hr h => ?_)
  · obtain ⟨st, c, r, m, b, rfl, _⟩ := h; rfl
  · obtain ⟨st, c, r, m, b, rfl, S, hm, hb0, hb1, k⟩ := h
    obtain ⟨cs, rs, n, h1, h2h, h3h, h4, h5, h6, h7, h8, h9, h10, h11⟩ := S.ex
    have h2 : SqL K H c (cs.map V.int) := SqL.of h2h
    have q1 : SqL K H st [.ref c, .int n, .ref r] := SqL.of h1
    refine exW ⟨_, (qss_cons (qs_asg (pv 0 (by rfl) (by walk_at "vis") (by decide) (by decide)) (pg_lst (n := 3) rfl (pgs_cons (pg_name (i := 2) (show (["_law_deck_here", "_law_many", "_law_cells", "_law_count", "_law_rests", "_law_place", "_law_digits", "_law_mixed"] : List Str).Nodup by decide +kernel) rfl (Or.inl rfl) (by first | exact Or.inl rfl | exact Or.inr rfl)) (pgs_cons (pg_name (i := 3) (show (["_law_deck_here", "_law_many", "_law_cells", "_law_count", "_law_rests", "_law_place", "_law_digits", "_law_mixed"] : List Str).Nodup by decide +kernel) rfl (Or.inl rfl) (by first | exact Or.inl rfl | exact Or.inr rfl)) (pgs_cons (pg_name (i := 4) (show (["_law_deck_here", "_law_many", "_law_cells", "_law_count", "_law_rests", "_law_place", "_law_digits", "_law_mixed"] : List Str).Nodup by decide +kernel) rfl (Or.inl rfl) (by first | exact Or.inl rfl | exact Or.inr rfl)) pgs_nil (by rfl)) (by rfl)) (by rfl)) (by rfl) (by rfl)) (by rfl) (by rfl) (by rfl))
      (qss_cons (qs_set (i := 5) sc_law_take.nd rfl (Or.inl rfl) (pe_op op_mod (pv 3 (by rfl) (by walk_at "vis") (by decide) (by decide)) (qe_callB cn_len (by rfl) T.b_len (by decide +kernel) (qa (pv 2 (by rfl) (by walk_at "vis") (by decide) (by decide)) qa_nil (by rfl)) (by decide) (by decide) (by rfl) (by rfl))) (by rfl) (by first | exact Or.inl rfl | exact Or.inr rfl))
      (qss_cons (qs_asg (pe_op op_add (pv 3 (by rfl) (by walk_at "vis") (by decide) (by decide)) pe_int) (pg_sub (pv 0 (by rfl) (by walk_at "vis") (by decide) (by decide)) pe_int set_list (by intro _; rfl)) (by rfl) (by rfl) (by rfl))
      (qss_cons (qs_if (pt_cmpR op_gt (pe_ix ix_list (pv 4 (by rfl) (by walk_at "vis") (by decide) (by decide)) (pv 5 (by rfl) (by walk_at "vis") (by decide) (by decide)) (fun _ _ => rfl)) pe_int (nomark _))
        (qss_cons (qs_set (i := 6) sc_law_take.nd rfl (Or.inl rfl) (pe_ix ix_list (pv 4 (by rfl) (by walk_at "vis") (by decide) (by decide)) (pv 5 (by rfl) (by walk_at "vis") (by decide) (by decide)) (fun _ _ => rfl)) (by rfl) (by first | exact Or.inl rfl | exact Or.inr rfl))
        (qss_cons (qs_asg (pe_op op_fdiv (pv 6 (by rfl) (by walk_at "vis") (by decide) (by decide)) (pv 1 (by rfl) (by walk_at "vis") (by decide) (by decide))) (pg_sub (pv 4 (by rfl) (by walk_at "vis") (by decide) (by decide)) (pv 5 (by rfl) (by walk_at "vis") (by decide) (by decide)) set_list (by intro _; rfl)) (by rfl) (by rfl) (by rfl))
        (qss_one (qs_ret (pe_op op_mod (pv 6 (by rfl) (by walk_at "vis") (by decide) (by decide)) (pv 1 (by rfl) (by walk_at "vis") (by decide) (by decide)))))))
        qss_nil)
      (qss_cons (qs_set (i := 7) sc_law_take.nd rfl (Or.inl rfl) (pe_op op_mod (pe_op op_add (pe_op op_mul (pe_op op_mod (pe_ix ix_list (pv 2 (by rfl) (by walk_at "vis") (by decide) (by decide)) (pv 5 (by rfl) (by walk_at "vis") (by decide) (by decide)) (fun _ _ => rfl)) pe_int) pe_int) (pe_op op_mul (pe_op op_mul (pe_op op_add (pv 3 (by rfl) (by walk_at "vis") (by decide) (by decide)) pe_int) (pe_op op_add (pv 3 (by rfl) (by walk_at "vis") (by decide) (by decide)) pe_int)) pe_int)) pe_int) (by rfl) (by first | exact Or.inl rfl | exact Or.inr rfl))
      (qss_cons (qs_set (i := 7) sc_law_take.nd rfl (Or.inl rfl) (pe_op op_mod (pe_op op_pow (pv 7 (by rfl) (by walk_at "vis") (by decide) (by decide)) pe_int) pe_int) (by rfl) (by first | exact Or.inl rfl | exact Or.inr rfl))
      (qss_cons (qs_set (i := 7) sc_law_take.nd rfl (Or.inl rfl) (pe_op op_mod (pe_op op_pow (pe_op op_add (pe_op op_add (pv 7 (by rfl) (by walk_at "vis") (by decide) (by decide)) (pe_op op_mul pe_int (pv 3 (by rfl) (by walk_at "vis") (by decide) (by decide)))) pe_int) pe_int) pe_int) (by rfl) (by first | exact Or.inl rfl | exact Or.inr rfl))
      (qss_one (qs_ret (pe_op op_mod (pe_op op_fdiv (pv 7 (by rfl) (by walk_at "vis") (by decide) (by decide)) pe_int) (pv 1 (by rfl) (by walk_at "vis") (by decide) (by decide)))))))))))), ?_⟩
    try dsimp only [cxOf]
    walk_at "rd"
    have hlm : ((cs.map V.int).length : Int) = cs.length := by rw [List.length_map]
    have hl0 : (0 : Int) < (cs.map V.int).length := by omega
    walk_at "rd"
    have i0 := Int.emod_nonneg n (b := ((cs.map V.int).length : Int)) (by omega)
    have i1 := Int.emod_lt_of_pos n hl0
    generalize n % ((cs.map V.int).length : Int) = i at i0 i1 ⊢
    obtain ⟨j, rfl⟩ := Int.eq_ofNat_of_zero_le i0
    have hj : j < cs.length := by omega
    obtain ⟨y, hy, _⟩ := atI_ints (ns := rs) (i := (j : Int)) i0 (by omega)
    obtain ⟨x, hx, _⟩ := atI_ints (ns := cs) (i := (j : Int)) i0 (by omega)
    have e1 : Ext [st, r] H (upd H st (.lst ([V.ref c, .int n, .ref r].set (Int.toNat 1) (.int (n + 1))))) := Ext.at (by simp)
    have h3' : upd H st (.lst ([V.ref c, .int n, .ref r].set (Int.toNat 1) (.int (n + 1)))) r = some (.lst (rs.map V.int)) := by rw [upd_ne h6]; exact h3h
    have h2' : upd H st (.lst ([V.ref c, .int n, .ref r].set (Int.toNat 1) (.int (n + 1)))) c = some (.lst (cs.map V.int)) := by rw [upd_ne h4]; exact h2h
    have h1' : upd H st (.lst ([V.ref c, .int n, .ref r].set (Int.toNat 1) (.int (n + 1)))) st = some (.lst [.ref c, .int (n + 1), .ref r]) := upd_same
    generalize upd H st (.lst ([V.ref c, .int n, .ref r].set (Int.toNat 1) (.int (n + 1)))) = H1 at e1 h3' h2' h1' ⊢
    have fin : ∀ v, 0 ≤ v → v < b → Q (.int v) H1 := fun v g1 g2 => k v H1 g1 g2 ⟨cs, rs, n + 1, h1', h2', h3', h4, h5, h6, h7, h8, h9, by omega, by omega⟩ e1
    refine rd_ixL (SqL.of h3') hy ?_
    walk_at "rd"
    refine rd_ite2 (fun hc => ?_) (fun hc => ?_)
    · walk_at "rd"
      refine rd_ixL (SqL.of h3') hy ?_
      walk_at "rd"
      refine rd_setL h3' (ixN_nat (by simp; omega)) ?_
      walk_at "rd"
      have e2 : (rs.map V.int).set j (.int (y / b)) = (rs.set j (y / b)).map V.int := by rw [List.map_set]
      rw [e2]
      refine k _ _ (Int.emod_nonneg _ (by omega)) (Int.emod_lt_of_pos _ hb0) ⟨cs, rs.set j (y / b), n + 1, ?_, ?_, upd_same, h4, h5, h6, h7, h8, by rw [List.length_set]; exact h9, by omega, by omega⟩ (e1.trans (Ext.at (by simp)))
      · rw [upd_ne (Ne.symm h6)]; exact h1'
      · rw [upd_ne h5]; exact h2'
    · walk_at "rd"
      refine rd_ixL (SqL.of h2') hx ?_
      walk_at "rd"
      exact fin _ (Int.emod_nonneg _ (by omega)) (Int.emod_lt_of_pos _ hb0)

def sp_law_from (K : PySem.W.Frag) : Sp := fun vs H Q _ => ∃ (N : List Addr) (x : V) (d : PyData) (lo hi : Int), vs = [x, .int lo, .int hi] ∧ Dt K N H x d ∧ Q (.bl (Mt.withinD lo hi d)) H
theorem ok_law_from (T : Txt P K mg a)  : FnOk P w K mg base CX0 1 a.f_law_from a.d_law_from ["_law_thing", "_law_least", "_law_most"] (sp_law_from K) := by
  refine T.F_law_from.ok sc_law_from (fun vs H Q E h => ?_) (fun cdv A outer s H vs Q E hr h => ?_)
  · obtain ⟨N, x, d, lo, hi, rfl, _⟩ := h; rfl
  · obtain ⟨N, x, d, lo, hi, rfl, hd, k⟩ := h
    refine exW ⟨_, (qss_one (qs_ret (pe_and (qe_callB cn_isi (by rfl) T.b_isinstance (by decide +kernel) (qa (pv 0 (by rfl) (by walk_at "vis") (by decide) (by decide)) (qa (pe_bltn (by rfl) T.b_int (by decide +kernel) (v := .ty "int") rfl (by decide) (by decide)) qa_nil (by rfl)) (by rfl)) (by decide) (by decide) (by rfl) (by rfl)) (pe_and (pe_not (qe_callB cn_isi (by rfl) T.b_isinstance (by decide +kernel) (qa (pv 0 (by rfl) (by walk_at "vis") (by decide) (by decide)) (qa (pe_bltn (by rfl) T.b_bool (by decide +kernel) (v := .ty "bool") rfl (by decide) (by decide)) qa_nil (by rfl)) (by rfl)) (by decide) (by decide) (by rfl) (by rfl))) (pe_and (pe_cmpR op_le (pv 1 (by rfl) (by walk_at "vis") (by decide) (by decide)) (pv 0 (by rfl) (by walk_at "vis") (by decide) (by decide)) (nomark _)) (pe_one (pe_cmpR op_le (pv 0 (by rfl) (by walk_at "vis") (by decide) (by decide)) (pv 2 (by rfl) (by walk_at "vis") (by decide) (by decide)) (nomark _)))))))), ?_⟩
    try dsimp only [cxOf]
    walk_at "rd"
    cases d with
    | int i =>
      dsimp only [isIntD]
      walk_at "rd"
      cases hd
      walk_at "rd"
      refine rd_ite2 (fun hc => ?_) (fun hc => ?_)
      · walk_at "rd"
        simpa only [Mt.withinD, hc, Bool.true_and] using k
      · simpa only [Mt.withinD, hc, Bool.false_and] using k
    | bool b => dsimp only [isIntD]; walk_at "rd"; exact k
    | _ => dsimp only [isIntD]; walk_at "rd"; exact k

def sp_law_is_line (K : PySem.W.Frag) : Sp := fun vs H Q _ => ∃ (N : List Addr) (x : V) (d : PyData) (m : Int) (f : Addr) (fs : List (Int × Int)), vs = [x, .int m, .ref f] ∧ Dt K N H x d ∧ 0 < m ∧ H f = some (.dK (FK fs)) ∧ Q (.bl (Mt.stepF m fs d).isSome) H
theorem ok_law_is_line (T : Txt P K mg a) (G__law_from : FnOk P w K mg base CX0 1 a.f_law_from a.d_law_from ["_law_thing", "_law_least", "_law_most"] (sp_law_from K)) : FnOk P w K mg base CX0 2 a.f_law_is_line a.d_law_is_line ["_law_thing", "_law_many", "_law_forks"] (sp_law_is_line K) := by
  refine T.F_law_is_line.ok sc_law_is_line (fun vs H Q E h => ?_) (fun cdv A outer s H vs Q E hr h => ?_)
  · obtain ⟨N, x, d, m, f, fs, rfl, _⟩ := h; rfl
  · obtain ⟨N, x, d, m, f, fs, rfl, hd, hm, gf, k⟩ := h
    have hbad : Mt.stepF m fs d = none → Q (.bl false) H := fun e => by rw [e] at k; exact k
    have hline : Mt.lineD m d = none → Q (.bl false) H := fun e => hbad (by simp only [Mt.stepF, e])
    refine exW ⟨_, (qss_cons (qs_if (pw_or (pt_not (pt_val (qe_callB cn_isi (by rfl) T.b_isinstance (by decide +kernel) (qa (pv 0 (by rfl) (by walk_at "vis") (by decide) (by decide)) (qa (pe_bltn (by rfl) T.b_tuple (by decide +kernel) (v := .ty "tuple") rfl (by decide) (by decide)) qa_nil (by rfl)) (by rfl)) (by decide) (by decide) (by rfl) (by rfl)) (by intro _; rfl))) (pw_or (pt_cmpR op_ne (qe_callB cn_len (by rfl) T.b_len (by decide +kernel) (qa (pv 0 (by rfl) (by walk_at "vis") (by decide) (by decide)) qa_nil (by rfl)) (by decide) (by decide) (by rfl) (by rfl)) pe_int (nomark _)) (pw_or1 (pt_not (pt_val (qe_callB cn_isi (by rfl) T.b_isinstance (by decide +kernel) (qa (pe_ix ix_tup (pv 0 (by rfl) (by walk_at "vis") (by decide) (by decide)) pe_int (fun _ _ => rfl)) (qa (pe_bltn (by rfl) T.b_bool (by decide +kernel) (v := .ty "bool") rfl (by decide) (by decide)) qa_nil (by rfl)) (by rfl)) (by decide) (by decide) (by rfl) (by rfl)) (by intro _; rfl)))))).pt
        (qss_one (qs_ret pe_bl))
        qss_nil)
      (qss_cons (qs_asg (pv 0 (by rfl) (by walk_at "vis") (by decide) (by decide)) (pg_tup (n := 5) rfl (pgs_cons (pg_name (i := 3) (show (["_law_thing", "_law_many", "_law_forks", "_law_line", "_law_one", "_law_parent", "_law_fork", "_law_forced"] : List Str).Nodup by decide +kernel) rfl (Or.inl rfl) (by first | exact Or.inl rfl | exact Or.inr rfl)) (pgs_cons (pg_name (i := 4) (show (["_law_thing", "_law_many", "_law_forks", "_law_line", "_law_one", "_law_parent", "_law_fork", "_law_forced"] : List Str).Nodup by decide +kernel) rfl (Or.inl rfl) (by first | exact Or.inl rfl | exact Or.inr rfl)) (pgs_cons (pg_name (i := 5) (show (["_law_thing", "_law_many", "_law_forks", "_law_line", "_law_one", "_law_parent", "_law_fork", "_law_forced"] : List Str).Nodup by decide +kernel) rfl (Or.inl rfl) (by first | exact Or.inl rfl | exact Or.inr rfl)) (pgs_cons (pg_name (i := 6) (show (["_law_thing", "_law_many", "_law_forks", "_law_line", "_law_one", "_law_parent", "_law_fork", "_law_forced"] : List Str).Nodup by decide +kernel) rfl (Or.inl rfl) (by first | exact Or.inl rfl | exact Or.inr rfl)) (pgs_cons (pg_name (i := 7) (show (["_law_thing", "_law_many", "_law_forks", "_law_line", "_law_one", "_law_parent", "_law_fork", "_law_forced"] : List Str).Nodup by decide +kernel) rfl (Or.inl rfl) (by first | exact Or.inl rfl | exact Or.inr rfl)) pgs_nil (by rfl)) (by rfl)) (by rfl)) (by rfl)) (by rfl)) (by rfl) (by rfl)) (by rfl) (by rfl) (by rfl))
      (qss_cons (qs_if (pw_or (pt_not (pt_val (qe_call G__law_from (hr.mono (by decide)) (by rfl) T.m__law_from T.k__law_from T.bd__law_from .nil pass0 (qa (pv 3 (by rfl) (by walk_at "vis") (by decide) (by decide)) (qa pe_int (qa (pe_op op_pow pe_int pe_int) qa_nil (by rfl)) (by rfl)) (by rfl)) (by decide) (by rfl) (by rfl)) (by intro _; rfl))) (pw_or (pt_cmp (pc_din (hu_of hr) (pv 3 (by rfl) (by walk_at "vis") (by decide) (by decide)) (pv 2 (by rfl) (by walk_at "vis") (by decide) (by decide))) (by with_unfolding_all rfl)) (pw_or (pt_not (pt_val (qe_call G__law_from (hr.mono (by decide)) (by rfl) T.m__law_from T.k__law_from T.bd__law_from .nil pass0 (qa (pv 4 (by rfl) (by walk_at "vis") (by decide) (by decide)) (qa pe_int (qa (pe_op op_sub (pv 1 (by rfl) (by walk_at "vis") (by decide) (by decide)) pe_int) qa_nil (by rfl)) (by rfl)) (by rfl)) (by decide) (by rfl) (by rfl)) (by intro _; rfl))) (pw_or1 (pt_cmpR op_ne (pe_op op_mod (pv 3 (by rfl) (by walk_at "vis") (by decide) (by decide)) (pv 1 (by rfl) (by walk_at "vis") (by decide) (by decide))) (pv 4 (by rfl) (by walk_at "vis") (by decide) (by decide)) (nomark _)))))).pt
        (qss_one (qs_ret pe_bl))
        qss_nil)
      (qss_cons (qs_if (pw_or (pt_not (pt_val (qe_call G__law_from (hr.mono (by decide)) (by rfl) T.m__law_from T.k__law_from T.bd__law_from .nil pass0 (qa (pv 5 (by rfl) (by walk_at "vis") (by decide) (by decide)) (qa pe_int (qa (pe_op op_pow pe_int pe_int) qa_nil (by rfl)) (by rfl)) (by rfl)) (by decide) (by rfl) (by rfl)) (by intro _; rfl))) (pw_or (pt_cmp (pc_dnotin (hu_of hr) (pv 5 (by rfl) (by walk_at "vis") (by decide) (by decide)) (pv 2 (by rfl) (by walk_at "vis") (by decide) (by decide))) (by with_unfolding_all rfl)) (pw_or1 (pt_cmpR op_ge (pv 5 (by rfl) (by walk_at "vis") (by decide) (by decide)) (pv 3 (by rfl) (by walk_at "vis") (by decide) (by decide)) (nomark _))))).pt
        (qss_one (qs_ret pe_bl))
        qss_nil)
      (qss_one (qs_ret (pe_and (qe_call G__law_from (hr.mono (by decide)) (by rfl) T.m__law_from T.k__law_from T.bd__law_from .nil pass0 (qa (pv 6 (by rfl) (by walk_at "vis") (by decide) (by decide)) (qa pe_int (qa (pe_op op_pow pe_int pe_int) qa_nil (by rfl)) (by rfl)) (by rfl)) (by decide) (by rfl) (by rfl)) (pe_one (pe_cmpR op_ge (pv 6 (by rfl) (by walk_at "vis") (by decide) (by decide)) (pe_dget (hu_of hr) (pv 2 (by rfl) (by walk_at "vis") (by decide) (by decide)) (pv 5 (by rfl) (by walk_at "vis") (by decide) (by decide)) (fun _ _ => rfl)) (nomark _)))))))))), ?_⟩
    try dsimp only [cxOf]
    walk_at "rq"
    cases hd with
    | tup hq hn hr =>
      rename_i p xs ds
      have hlen := hr.length
      dsimp only [isTupD]
      walk_at "rd"
      by_cases e5 : ds.length = 5
      · match ds, e5 with
        | [d0, d1, d2, d3, d4], _ =>
          obtain ⟨x0, x1, x2, x3, x4, rfl, q0, q1, q2, q3, q4⟩ := Mt.dt5 hr
          rw [show decide (V.int (([x0, x1, x2, x3, x4] : List V).length : Int) = V.int 5) = true from rfl]
          walk_at "rq"
          cases h4 : isBoolD d4 with
          | false => walk_at "rq"; exact hline (Mt.line_no4 h4)
          | true =>
            walk_at "rq"
            refine ⟨N, _, _, _, _, rfl, q0, ?_⟩
            rw [Mt.p9]
            cases h0 : Mt.withinD 0 1000000000 d0 with
            | false => walk_at "rq"; exact hline (Mt.line_no0 h0)
            | true =>
              obtain ⟨l, rfl, l0, l1⟩ := Mt.within_int h0
              cases q0
              walk_at "rq"
              refine ⟨f, _, rfl, dget_FK gf l, ?_⟩
              cases hL : lookI fs l with
              | some _ =>
                dsimp only [Option.map, Option.isSome]
                walk_at "rq"
                refine hbad ?_
                unfold Mt.stepF
                split
                · rfl
                · rename_i heq
                  obtain ⟨b, z, _⟩ := Mt.line_some heq
                  cases z
                  rw [hL]
              | none =>
                dsimp only [Option.map, Option.isSome]
                walk_at "rq"
                refine ⟨N, _, _, _, _, rfl, q1, ?_⟩
                cases h1 : Mt.withinD 0 (m - 1) d1 with
                | false => walk_at "rq"; exact hline (Mt.line_noW hm h1)
                | true =>
                  obtain ⟨h, rfl, b0, b1⟩ := Mt.within_int h1
                  cases q1
                  walk_at "rq"
                  by_cases e : l % m = h
                  · subst e
                    rw [ne_self]
                    walk_at "rq"
                    refine ⟨N, _, _, _, _, rfl, q2, ?_⟩
                    rw [Mt.p9]
                    cases h2 : Mt.withinD 0 1000000000 d2 with
                    | false => walk_at "rq"; exact hline (Mt.line_no2 h2)
                    | true =>
                      obtain ⟨q, rfl, p0, p1⟩ := Mt.within_int h2
                      cases q2
                      walk_at "rq"
                      refine ⟨f, _, rfl, dget_FK gf q, ?_⟩
                      cases hP : lookI fs q with
                      | none =>
                        dsimp only [Option.map, Option.isSome]
                        walk_at "rq"
                        refine hbad ?_
                        unfold Mt.stepF
                        split
                        · rfl
                        · rename_i heq
                          obtain ⟨b, z, _⟩ := Mt.line_some heq
                          cases z
                          rw [hL, hP]
                      | some g0 =>
                        dsimp only [Option.map, Option.isSome]
                        walk_at "rq"
                        refine rd_ite2 (fun hc => ?_) (fun hc => ?_)
                        · walk_at "rq"
                          have : q ≥ l := by simpa using hc
                          refine hbad ?_
                          unfold Mt.stepF
                          split
                          · rfl
                          · rename_i heq
                            obtain ⟨b, z, _⟩ := Mt.line_some heq
                            cases z
                            rw [hL, hP]
                            exact if_neg fun z => by omega
                        · have hc : q < l := by simpa using hc
                          walk_at "rq"
                          refine ⟨N, _, _, _, _, rfl, q3, rd_bl' ?_⟩
                          rw [Mt.p6]
                          cases h3 : Mt.withinD 0 1000000 d3 with
                          | false => walk_at "rq"; exact hline (Mt.line_no3 h3)
                          | true =>
                            obtain ⟨g, rfl, f0, f1⟩ := Mt.within_int h3
                            cases q3
                            walk_at "rq"
                            refine ⟨f, .int g0, rfl, by have z := dget_FK gf q; rwa [hP] at z, ?_⟩
                            walk_at "rq"
                            obtain ⟨b, rfl⟩ : ∃ b, d4 = .bool b := by cases d4 <;> first | exact ⟨_, rfl⟩ | cases h4
                            have hs : (Mt.stepF m fs (.tuple [.int l, .int (l % m), .int q, .int g, .bool b])).isSome = decide (g ≥ g0) := by
                              have hl : Mt.lineD m (.tuple [.int l, .int (l % m), .int q, .int g, .bool b]) = some (l, q, g) := by simp only [Mt.lineD]; exact if_pos ⟨⟨l0, l1⟩, trivial, ⟨p0, p1⟩, f0, f1⟩
                              simp only [Mt.stepF, hl, hL, hP]
                              by_cases z : g0 ≤ g
                              · rw [if_pos ⟨hc, z⟩]; exact (decide_eq_true z).symm
                              · rw [if_neg fun w => z w.2]; exact (decide_eq_false z).symm
                            rw [hs] at k
                            exact k
                  · rw [show decide (V.int (l % m) = V.int h) = false from decide_eq_false fun z => e (by injection z)]
                    walk_at "rq"
                    exact hline (Mt.line_noM e)
      · have e5' : decide (V.int (xs.length : Int) = V.int 5) = false := decide_eq_false fun z => by injection z with z; omega
        rw [e5']
        walk_at "rq"
        exact hline (Mt.line_len e5)
    | _ => dsimp only [isTupD]; walk_at "rd"; exact hline rfl

def sp_law_right (K : PySem.W.Frag) : Sp := fun vs H Q _ => ∃ (N : List Addr) (m : Int) (x : V) (d : PyData), vs = [.int m, x] ∧ Dt K N H x d ∧ 1 ≤ m ∧ m ≤ 8 ∧ d.width < 500 ∧ ∀ H', Same H H' → Q (.bl (Mt.rightD m d)) H'
theorem ok_law_right (T : Txt P K mg a) (G__law_from : FnOk P w K mg base CX0 1 a.f_law_from a.d_law_from ["_law_thing", "_law_least", "_law_most"] (sp_law_from K)) (G__law_is_line : FnOk P w K mg base CX0 2 a.f_law_is_line a.d_law_is_line ["_law_thing", "_law_many", "_law_forks"] (sp_law_is_line K)) : FnOk P w K mg base CX0 3 a.f_law_right a.d_law_right ["_law_many", "_law_lines"] (sp_law_right K) := by
  refine T.F_law_right.ok sc_law_right (fun vs H Q E h => ?_) (fun cdv A outer s H vs Q E hr h => ?_)
  · obtain ⟨N, m, x, d, rfl, _⟩ := h; rfl
  · obtain ⟨N, m, x, d, rfl, hd, m1, m8, hwd, k⟩ := h
    refine exW ⟨_, (qss_cons (qs_if (pw_or (pt_not (pt_val (qe_callB cn_isi (by rfl) T.b_isinstance (by decide +kernel) (qa (pv 1 (by rfl) (by walk_at "vis") (by decide) (by decide)) (qa (pe_bltn (by rfl) T.b_list (by decide +kernel) (v := .ty "list") rfl (by decide) (by decide)) qa_nil (by rfl)) (by rfl)) (by decide) (by decide) (by rfl) (by rfl)) (by intro _; rfl))) (pw_or1 (pt_cmpR op_eq (qe_callB cn_len (by rfl) T.b_len (by decide +kernel) (qa (pv 1 (by rfl) (by walk_at "vis") (by decide) (by decide)) qa_nil (by rfl)) (by decide) (by decide) (by rfl) (by rfl)) pe_int (nomark _)))).pt
        (qss_one (qs_ret pe_bl))
        qss_nil)
      (qss_cons (qs_set (i := 2) sc_law_right.nd rfl (Or.inr rfl) (pe_ix ix_list (pv 1 (by rfl) (by walk_at "vis") (by decide) (by decide)) pe_int (fun _ _ => rfl)) (by rfl) (by first | exact Or.inl rfl | exact Or.inr rfl))
      (qss_cons (qs_if (pw_or (pt_not (pt_val (qe_callB cn_isi (by rfl) T.b_isinstance (by decide +kernel) (qa (pv 2 (by rfl) (by walk_at "vis") (by decide) (by decide)) (qa (pe_bltn (by rfl) T.b_tuple (by decide +kernel) (v := .ty "tuple") rfl (by decide) (by decide)) qa_nil (by rfl)) (by rfl)) (by decide) (by decide) (by rfl) (by rfl)) (by intro _; rfl))) (pw_or (pt_cmpR op_ne (qe_callB cn_len (by rfl) T.b_len (by decide +kernel) (qa (pv 2 (by rfl) (by walk_at "vis") (by decide) (by decide)) qa_nil (by rfl)) (by decide) (by decide) (by rfl) (by rfl)) pe_int (nomark _)) (pw_or (pt_cmpR on_isnA (pe_ix ix_tup (pv 2 (by rfl) (by walk_at "vis") (by decide) (by decide)) pe_int (fun _ _ => rfl)) pe_bl (nomark _)) (pw_or1 (pt_cmpR on_notN (pe_ix ix_tup (pv 2 (by rfl) (by walk_at "vis") (by decide) (by decide)) pe_int (fun _ _ => rfl)) pe_non (nomark _)))))).pt
        (qss_one (qs_ret pe_bl))
        qss_nil)
      (qss_cons (qs_if (pt_cmpR (on_neD hr) (by
        refine' pe_comp (NC := ["_law_k", "_law_first"]) (fr := [none, some 2]) ?B3 rfl ?hi3 ?hg3 ?ht3 ?he3 (by intro _; rfl)
        case B3 => exact ⟨rfl, rfl, by decide +kernel, by decide +kernel, rfl, ⟨trivial, ⟨rfl, rfl, Or.inl rfl⟩, trivial⟩⟩
        case hi3 => exact (pi_tup (qe_tup (qa pe_int (qa pe_int (qa pe_int qa_nil (by rfl)) (by rfl)) (by rfl))))
        case hg3 => intro _ _ _; exact (pg_name (i := 0) (show (["_law_k", "_law_first"] : List Str).Nodup by decide +kernel) rfl (Or.inl rfl) (by first | exact Or.inl rfl | exact Or.inr rfl))
        case ht3 => intro _ _ _; exact (pf_one (pt_not (pt_val (qe_call G__law_from (hr.mono (by decide)) (by rfl) T.m__law_from T.k__law_from T.bd__law_from .nil pass0 (qa (pe_ix (ix_tupK (K := K) (by rfl)) (pv 1 (by rfl) (by walk_at "vis") (by decide) (by decide)) (pv 0 (by rfl) (by walk_at "vis") (by decide) (by decide)) (fun _ _ => rfl)) (qa pe_int (qa pe_int qa_nil (by rfl)) (by rfl)) (by rfl)) (by decide) (by rfl) (by rfl)) (by intro _; rfl))))
        case he3 => intro _ _ _; exact pe_int) (qe_lst qa_nil) (nomark _))
        (qss_one (qs_ret pe_bl))
        qss_nil)
      (qss_cons (qs_set (i := 3) sc_law_right.nd rfl (Or.inl rfl) (pe_disp1 pe_int pe_int) (by rfl) (by first | exact Or.inl rfl | exact Or.inr rfl))
      (qss_cons (qs_for PassesOwn.never rfl (pi_list (pe_slice sl_list (pv 1 (by rfl) (by walk_at "vis") (by decide) (by decide)) (po_some pe_int) po_none)) (pg_name (i := 4) sc_law_right.nd rfl (Or.inl rfl) (by first | exact Or.inl rfl | exact Or.inr rfl))
        (qss_cons (qs_if (pt_not (pt_val (qe_call G__law_is_line (hr.mono (by decide)) (by rfl) T.m__law_is_line T.k__law_is_line T.bd__law_is_line .nil pass0 (qa (pv 4 (by rfl) (by walk_at "vis") (by decide) (by decide)) (qa (pv 0 (by rfl) (by walk_at "vis") (by decide) (by decide)) (qa (pv 3 (by rfl) (by walk_at "vis") (by decide) (by decide)) qa_nil (by rfl)) (by rfl)) (by rfl)) (by decide) (by rfl) (by rfl)) (by intro _; rfl)))
          (qss_one (qs_ret pe_bl))
          qss_nil)
        (qss_one (qs_dput (hu_of hr) (pv 3 (by rfl) (by walk_at "vis") (by decide) (by decide)) (pe_ix ix_tup (pv 4 (by rfl) (by walk_at "vis") (by decide) (by decide)) pe_int (fun _ _ => rfl)) (pe_ix ix_tup (pv 4 (by rfl) (by walk_at "vis") (by decide) (by decide)) pe_int (fun _ _ => rfl)) (by rfl)))) (by intro _; rfl))
      (qss_one (qs_ret pe_bl)))))))), ?_⟩
    try dsimp only [cxOf]
    walk_at "rq"
    cases hd with
    | lst hq hn hr =>
      rename_i p xs ds
      have hlen := hr.length
      dsimp only [isListD]
      walk_at "rd"
      cases hr with
      | nil =>
        rw [show decide (V.int (([] : List V).length : Int) = V.int 0) = true from rfl]
        walk_at "rq"
        exact k _ (Same.refl _)
      | cons q0 hr =>
        rename_i x0 d0 xs ds
        rw [show decide (V.int ((x0 :: xs).length : Int) = V.int 0) = false from decide_eq_false fun z => by injection z with z; simp at z; omega]
        walk_at "rq"
        refine rd_ixL hq (atI_nat (j := 0) rfl) ?_
        walk_at "rq"
        have fin : ∀ H', Same H H' → Mt.firstD d0 = false → Q (.bl false) H' := fun H' s e => by have z := k _ s; simpa only [Mt.rightD, e, Bool.false_and] using z
        cases q0 with
        | tup hq0 hn0 hr0 =>
          rename_i t0 ys es
          have hlen0 := hr0.length
          dsimp only [isTupD]
          walk_at "rd"
          by_cases e5 : es.length = 5
          · match es, e5 with
            | [d0, d1, d2, d3, d4], _ =>
              obtain ⟨y0, y1, y2, y3, y4, rfl, r0, r1, r2, r3, r4⟩ := Mt.dt5 hr0
              rw [show decide (V.int (([y0, y1, y2, y3, y4] : List V).length : Int) = V.int 5) = true from rfl]
              walk_at "rq"
              refine rd_ite2 (fun hc => ?_) (fun hc => ?_)
              · walk_at "rq"
                refine fin _ (Same.refl _) (Mt.first_no4 fun z => ?_)
                subst z
                cases r4
                simp at hc
              · have e4 : y4 = .bl false := by simpa using hc
                subst e4
                cases r4
                walk_at "rq"
                refine rd_ite2 (fun hc => ?_) (fun hc => ?_)
                · walk_at "rq"
                  refine fin _ (Same.refl _) (Mt.first_no2 fun z => ?_)
                  subst z
                  cases r2
                  simp at hc
                · have e2 : y2 = .non := by simpa using hc
                  subst e2
                  cases r2
                  walk_at "rq"
                  refine ⟨sz (by simp), fun l1 n1 => ?_⟩
                  have s1 : Same H (upd H l1 (.tup [.int 0, .int 1, .int 3])) := Same.upd n1
                  have g1 : upd H l1 (.tup [.int 0, .int 1, .int 3]) l1 = some (.tup ([0, 1, 3].map V.int)) := upd_same
                  generalize upd H l1 (.tup [.int 0, .int 1, .int 3]) = H1 at s1 g1 ⊢
                  refine ⟨l1, rfl, ⟨_, SqT.of g1⟩, ?_⟩
                  intro acc na ka
                  have hall : ∀ i : Nat, i < 3 → ∃ (j : Int) (v : V) (dv : PyData), ([0, 1, 3].map V.int)[i]? = some (.int j) ∧ atI [y0, y1, .non, y3, .bl false] j = some v ∧ [d0, d1, d3][i]? = some dv ∧ Dt K N H v dv := fun i hi => by
                    match i, hi with
                    | 0, _ => exact ⟨0, y0, d0, rfl, rfl, rfl, r0⟩
                    | 1, _ => exact ⟨1, y1, d1, rfl, rfl, rfl, r1⟩
                    | 2, _ => exact ⟨3, y3, d3, rfl, rfl, rfl, r3⟩
                  refine comp_byF 3 (small1000 (by omega)) (fun i vs σc H' => Same H1 H' ∧ (∃ o, σc = [o, some (.ref t0)]) ∧ vs = (([d0, d1, d3].take i).filter fun d => !Mt.withinD 0 0 d).map fun _ => V.int 1) ?_ ?_ ?_
                  · exact ⟨Same.upd na, ⟨none, rfl⟩, rfl⟩
                  · rintro i vs σc H' hi hl ha ⟨sm, ⟨o, rfl⟩, rfl⟩
                    have hL : SqT K H' l1 ([0, 1, 3].map V.int) := SqT.of (sm _ _ g1)
                    obtain ⟨j, v, dv, ej, ev, ed, hv⟩ := hall i hi
                    refine ⟨⟨_, _, hL, ej⟩, ?_⟩
                    rintro x H6 ⟨rfl, hx⟩ R S hR hS
                    have e2 := hx _ hL
                    rw [ej] at e2; cases e2
                    walk_at "rq"
                    refine rd_ixT ((s1.trans sm).tupS hq0) ev ?_
                    walk_at "rq"
                    refine ⟨N, _, _, _, _, rfl, hv.ext (Ext.same (s1.trans sm)), ?_⟩
                    have tk : [d0, d1, d3].take (i + 1) = [d0, d1, d3].take i ++ [dv] := by rw [List.take_add_one, ed]; rfl
                    cases hw : Mt.withinD 0 0 dv with
                    | true =>
                      walk_at "rq"
                      exact hS _ _ ha ⟨sm, ⟨_, rfl⟩, by rw [tk, List.filter_append]; simp [hw]⟩
                    | false =>
                      walk_at "rq"
                      refine hR _ _ _ ha ⟨fun b u e => ?_, ⟨_, rfl⟩, by rw [tk, List.filter_append]; simp [hw]⟩
                      rw [upd_ne (ne_of_none e na)]; exact sm b u e
                  · rintro vs σc H' hl ha ⟨sm, _, rfl⟩
                    refine ⟨⟨_, SqT.of (sm _ _ g1), by simp⟩, ?_⟩
                    walk_at "rq"
                    refine ⟨sz (by simp), fun l2 n2 => ?_⟩
                    have s2 : Same H' (upd H' l2 (.lst [])) := Same.upd n2
                    have g2 : upd H' l2 (.lst []) l2 = some (.lst []) := upd_same
                    generalize upd H' l2 (.lst []) = H2 at s2 g2 ⊢
                    have s02 := (s1.trans sm).trans s2
                    rw [show (([d0, d1, d3].take 3).filter fun d => !Mt.withinD 0 0 d).map (fun _ => V.int 1) = ((([d0, d1, d3].filter fun d => !Mt.withinD 0 0 d).map fun _ => (1 : Int)).map V.int) by rw [List.map_map]; rfl] at ha
                    refine rd_neD (N := []) (dtL (s2 _ _ ha) (by simp)) (.lst (SqL.of g2) (by simp) .nil) (shapedL _) (by decide +kernel) ?_
                    rw [show Mt.lstI (([d0, d1, d3].filter fun d => !Mt.withinD 0 0 d).map fun _ => (1 : Int)) = .list ((([d0, d1, d3].filter fun d => !Mt.withinD 0 0 d).map fun _ => (1 : Int)).map PyData.int) from rfl, eqv_empty]
                    rw [show (List.map PyData.int (([d0, d1, d3].filter fun d => !Mt.withinD 0 0 d).map fun _ => (1 : Int))).isEmpty = Mt.firstD (.tuple [d0, d1, .none, d3, .bool false]) from Mt.first_filter]
                    cases h0 : Mt.firstD (.tuple [d0, d1, .none, d3, .bool false]) with
                    | false => walk_at "rq"; exact fin _ s02 h0
                    | true =>
                      walk_at "rq"
                      intro f nf _
                      walk_at "rq"
                      refine ⟨upd_same, .inl 0, rfl, ?_⟩
                      have s3 : Same H2 (upd (upd H2 f (.dK [])) f (.dK [(.inl 0, .int 0)])) := by rw [upd_upd]; exact Same.upd nf
                      have g3 : (upd (upd H2 f (.dK [])) f (.dK [(.inl 0, .int 0)])) f = some (.dK (FK [(0, 0)])) := upd_same
                      generalize upd (upd H2 f (.dK [])) f (.dK [(.inl 0, .int 0)]) = H3 at s3 g3 ⊢
                      have s03 := s02.trans s3
                      have nf0 : H f = none := s02.free nf
                      have hq3 : SqL K H3 p (.ref t0 :: xs) := s03.seq hq
                      walk_at "rq"
                      intro l4 n4
                      rw [show (some (1 : Int)) = some ((1 : Nat) : Int) from rfl, cutV_drop, List.drop_one, List.tail_cons]
                      have s4 : Same H3 (upd H3 l4 (.lst xs)) := Same.upd n4
                      have g4 : upd H3 l4 (.lst xs) l4 = some (.lst xs) := upd_same
                      generalize upd H3 l4 (.lst xs) = H4 at s4 g4 ⊢
                      have nl : l4 ≠ f := fun z => by rw [z, g3] at n4; cases n4
                      have hrl := hr.length
                      have g34 := s4 _ _ g3
                      refine ⟨l4, rfl, ⟨_, SqL.of g4⟩, ?_⟩
                      refine for_listW (xs := xs) (fun i σ' H' => ∃ (fs : List (Int × Int)) (o4 : Option V), σ' = [some (.int m), some (.ref p), some (.ref t0), some (.ref f), o4] ∧ Mt.runF m [(0, 0)] (ds.take i) = some fs ∧ H' f = some (.dK (FK fs)) ∧ H' l4 = some (.lst xs) ∧ Same H H') ?_ ?_ ?_ ?_
                      · exact ⟨[(0, 0)], none, rfl, rfl, g34, g4, s03.trans s4⟩
                      · rintro i σ' H' _ ⟨fs, o4, rfl, hf, gf, gl, sm⟩
                        exact SqL.of gl
                      · rintro i x σ' H' hx ⟨fs, o4, rfl, hf, gf, gl, sm⟩
                        obtain ⟨d, ed, hd⟩ := hr.get hx
                        have hd' := hd.ext (Ext.same sm)
                        have hstep := Mt.runF_take hf ed
                        walk_at "rq"
                        refine ⟨N, _, _, _, f, fs, rfl, hd', by omega, gf, ?_⟩
                        cases hs : Mt.stepF m fs d with
                        | none =>
                          walk_at "rq"
                          have z := k _ sm
                          rw [hs] at hstep
                          simpa only [Mt.rightD, h0, Bool.true_and, Mt.runF_none _ hstep, Option.isSome_none] using z
                        | some gs =>
                          walk_at "rq"
                          obtain ⟨l, q, g, b, rfl, rfl, hL⟩ := Mt.step_some hs
                          obtain ⟨t, rfl, hT⟩ := Mt.dtLine hd'
                          have hfl := Mt.runF_len hf
                          have : (ds.take i).length ≤ ds.length := List.length_take_le' _ _
                          walk_at "rq"
                          refine ⟨f, _, rfl, dput_FK gf hL (by simp [PyData.width] at hwd; simp at hfl; omega), ?_⟩
                          walk_at "rq"
                          refine ⟨fs ++ [(l, g)], _, rfl, hstep.trans hs, upd_same, by rw [upd_ne nl]; exact gl, fun b u e => ?_⟩
                          rw [upd_ne (ne_of_none e nf0)]; exact sm b u e
                      · rintro σ' H' ⟨fs, o4, rfl, hf, gf, gl, sm⟩
                        walk_at "rq"
                        rw [hrl, List.take_length] at hf
                        have z := k _ sm
                        simpa only [Mt.rightD, h0, Bool.true_and, hf, Option.isSome_some] using z
          · have e5' : decide (V.int (ys.length : Int) = V.int 5) = false := decide_eq_false fun z => by injection z with z; omega
            rw [e5']
            walk_at "rq"
            exact fin _ (Same.refl _) (Mt.first_len e5)
        | _ => dsimp only [isTupD]; walk_at "rd"; exact fin _ (Same.refl _) rfl
    | _ => dsimp only [isListD]; walk_at "rd"; exact k _ (Same.refl _)

def sp_law_made (K : PySem.W.Frag) : Sp := fun vs H Q _ => ∃ (st c r : Addr) (m : Nat) (many : Int), vs = [.ref st, .int many] ∧ Dk H st c r m ∧ m < 100000000 ∧ 1 ≤ many ∧ many ≤ 8 ∧
  ∀ (l : Addr) (vs : List V) (lns : List Mt.Ln) (H' : Hp), BC K [st, c, r] H' l vs (lns.map Mt.lnD) → Mt.LnOk many 60 lns → Dk H' st c r (m + 1000) → Q (.ref l) H'
theorem ok_law_made (T : Txt P K mg a) (G__law_take : FnOk P w K mg base CX0 1 a.f_law_take a.d_law_take ["_law_deck_here", "_law_many"] (sp_law_take K)) : FnOk P w K mg base CX0 2 a.f_law_made a.d_law_made ["_law_deck_here", "_law_many"] (sp_law_made K) := by
  refine T.F_law_made.ok sc_law_made (fun vs H Q E h => ?_) (fun cdv A outer s H vs Q E hr h => ?_)
  · obtain ⟨st, c, r, m, many, rfl, _⟩ := h; rfl
  · obtain ⟨st, c, r, m, many, rfl, S, hm, m1, m8, k⟩ := h
    refine exW ⟨_, (qss_cons (qs_set (i := 2) sc_law_made.nd rfl (Or.inl rfl) (qe_lstA (qa (qe_tupA (qa pe_int (qa pe_int (qa pe_non (qa pe_int (qa pe_bl qa_nil (by rfl)) (by rfl)) (by rfl)) (by rfl)) (by rfl))) qa_nil (by rfl))) (by rfl) (by first | exact Or.inl rfl | exact Or.inr rfl))
      (qss_cons (qs_set (i := 3) sc_law_made.nd rfl (Or.inl rfl) (qe_call G__law_take (hr.mono (by decide)) (by rfl) T.m__law_take T.k__law_take T.bd__law_take .nil pass0 (qa (pv 0 (by rfl) (by walk_at "vis") (by decide) (by decide)) (qa pe_int qa_nil (by rfl)) (by rfl)) (by decide) (by rfl) (by rfl)) (by rfl) (by first | exact Or.inl rfl | exact Or.inr rfl))
      (qss_cons (qs_if (pt_cmpR op_eq (qe_call G__law_take (hr.mono (by decide)) (by rfl) T.m__law_take T.k__law_take T.bd__law_take .nil pass0 (qa (pv 0 (by rfl) (by walk_at "vis") (by decide) (by decide)) (qa pe_int qa_nil (by rfl)) (by rfl)) (by decide) (by rfl) (by rfl)) pe_int (nomark _))
        (qss_one (qs_set (i := 3) sc_law_made.nd rfl (Or.inl rfl) (qe_call G__law_take (hr.mono (by decide)) (by rfl) T.m__law_take T.k__law_take T.bd__law_take .nil pass0 (qa (pv 0 (by rfl) (by walk_at "vis") (by decide) (by decide)) (qa pe_int qa_nil (by rfl)) (by rfl)) (by decide) (by rfl) (by rfl)) (by rfl) (by first | exact Or.inl rfl | exact Or.inr rfl)))
        qss_nil)
      (qss_cons (qs_for PassesOwn.never rfl (qi_range1 (by rfl) T.b_range (qa (pv 3 (by rfl) (by walk_at "vis") (by decide) (by decide)) qa_nil (by rfl)) (by rfl)) (pg_name (i := 4) sc_law_made.nd rfl (Or.inl rfl) (by first | exact Or.inl rfl | exact Or.inr rfl))
        (qss_cons (qs_set (i := 5) sc_law_made.nd rfl (Or.inl rfl) (pe_ix ix_list (pv 2 (by rfl) (by walk_at "vis") (by decide) (by decide)) (qe_call G__law_take (hr.mono (by decide)) (by rfl) T.m__law_take T.k__law_take T.bd__law_take .nil pass0 (qa (pv 0 (by rfl) (by walk_at "vis") (by decide) (by decide)) (qa (qe_callB cn_len (by rfl) T.b_len (by decide +kernel) (qa (pv 2 (by rfl) (by walk_at "vis") (by decide) (by decide)) qa_nil (by rfl)) (by decide) (by decide) (by rfl) (by rfl)) qa_nil (by rfl)) (by rfl)) (by decide) (by rfl) (by rfl)) (fun _ _ => rfl)) (by rfl) (by first | exact Or.inl rfl | exact Or.inr rfl))
        (qss_cons (qs_set (i := 6) sc_law_made.nd rfl (Or.inl rfl) (pe_op op_add (pe_op op_add (pe_ix ix_tup (pv 5 (by rfl) (by walk_at "vis") (by decide) (by decide)) pe_int (fun _ _ => rfl)) pe_int) (qe_call G__law_take (hr.mono (by decide)) (by rfl) T.m__law_take T.k__law_take T.bd__law_take .nil pass0 (qa (pv 0 (by rfl) (by walk_at "vis") (by decide) (by decide)) (qa pe_int qa_nil (by rfl)) (by rfl)) (by decide) (by rfl) (by rfl))) (by rfl) (by first | exact Or.inl rfl | exact Or.inr rfl))
        (qss_one (qs_if (pt_cmpR on_notIn (pv 6 (by rfl) (by walk_at "vis") (by decide) (by decide)) (by
        refine' pe_comp (NC := ["_law_told"]) (fr := [none]) ?B4 rfl ?hi4 ?hg4 ?ht4 ?he4 (by intro _; rfl)
        case B4 => exact ⟨rfl, rfl, by decide +kernel, by decide +kernel, rfl, ⟨trivial, trivial⟩⟩
        case hi4 => exact (pi_list (pv 2 (by rfl) (by walk_at "vis") (by decide) (by decide)))
        case hg4 => intro _ _ _; exact (pg_name (i := 0) (show (["_law_told"] : List Str).Nodup by decide +kernel) rfl (Or.inl rfl) (by first | exact Or.inl rfl | exact Or.inr rfl))
        case ht4 => intro _ _ _; exact pf_nil
        case he4 => intro _ _ _; exact (pe_ix (ix_tupK (K := K) (by rfl)) (pv 0 (by rfl) (by walk_at "vis") (by decide) (by decide)) pe_int (fun _ _ => rfl))) (by with_unfolding_all rfl))
          (qss_cons (qs_set (i := 7) sc_law_made.nd rfl (Or.inl rfl) (qe_callB (cn_min (by rfl)) (by rfl) T.b_min (by decide +kernel) (qa (pe_op op_pow pe_int pe_int) (qa (pe_op op_add (pe_ix ix_tup (pv 5 (by rfl) (by walk_at "vis") (by decide) (by decide)) pe_int (fun _ _ => rfl)) (pe_ix ix_list (qe_lstA (qa pe_int (qa (qe_call G__law_take (hr.mono (by decide)) (by rfl) T.m__law_take T.k__law_take T.bd__law_take .nil pass0 (qa (pv 0 (by rfl) (by walk_at "vis") (by decide) (by decide)) (qa pe_int qa_nil (by rfl)) (by rfl)) (by decide) (by rfl) (by rfl)) qa_nil (by rfl)) (by rfl))) (qe_call G__law_take (hr.mono (by decide)) (by rfl) T.m__law_take T.k__law_take T.bd__law_take .nil pass0 (qa (pv 0 (by rfl) (by walk_at "vis") (by decide) (by decide)) (qa pe_int qa_nil (by rfl)) (by rfl)) (by decide) (by rfl) (by rfl)) (fun _ _ => rfl))) qa_nil (by rfl)) (by rfl)) (by decide) (by decide) (by rfl) (by rfl)) (by rfl) (by first | exact Or.inl rfl | exact Or.inr rfl))
          (qss_one (qs_expr (qe_append (pv 2 (by rfl) (by walk_at "vis") (by decide) (by decide)) (qa (qe_tupA (qa (pv 6 (by rfl) (by walk_at "vis") (by decide) (by decide)) (qa (by exact (pe_op op_mod (pv 6 (by rfl) (by walk_at "vis") (by decide) (by decide)) (pv 1 (by rfl) (by walk_at "vis") (by decide) (by decide)))) (qa (by exact (pe_ix ix_tup (pv 5 (by rfl) (by walk_at "vis") (by decide) (by decide)) pe_int (fun _ _ => rfl))) (qa (pv 7 (by rfl) (by walk_at "vis") (by decide) (by decide)) (qa (by exact (pe_cmpR op_eq (qe_call G__law_take (hr.mono (by decide)) (by rfl) T.m__law_take T.k__law_take T.bd__law_take .nil pass0 (qa (pv 0 (by rfl) (by walk_at "vis") (by decide) (by decide)) (qa pe_int qa_nil (by rfl)) (by rfl)) (by decide) (by rfl) (by rfl)) pe_int (nomark _))) qa_nil (by rfl)) (by rfl)) (by rfl)) (by rfl)) (by rfl))) qa_nil (by rfl)) (by rfl) (by rfl) (by rfl) (by rfl) (by rfl)) (by rfl))))
          qss_nil)))) (by intro _; rfl))
      (qss_one (qs_ret (pv 2 (by rfl) (by walk_at "vis") (by decide) (by decide)))))))), ?_⟩
    try dsimp only [cxOf]
    walk_at "rs"
    walk_at "rq"
    refine ⟨sz (by simp), fun t1 H1 n1 s1 g1 => ?_⟩
    walk_at "rq"
    refine ⟨sz (by simp), fun l H2 n2 s2 g2 => ?_⟩
    have S2 := (S.same s1).same s2
    have nl : l ∉ [st, c, r] := (S.same s1).new n2
    have nt : t1 ∉ [l, st, c, r] := by
      intro z
      rcases List.mem_cons.mp z with rfl | z
      · rw [g1] at n2; cases n2
      · exact S.new n1 z
    have d2 : DtAll K [l, st, c, r] H2 [.ref t1] ([Mt.ln0].map Mt.lnD) := .cons (.tup (SqT.of (s2 _ _ g1)) nt (.cons (.int _) (.cons (.int _) (.cons .non (.cons (.int _) (.cons (.bl _) .nil)))))) .nil
    walk_at "rq"
    refine ⟨st, c, r, _, 12, rfl, S2, by omega, by decide, by decide, fun v3 H3 a3 b3 S3 x3 => ?_⟩
    have g3 := x3 _ _ g2 (nin_pr nl)
    have d3 := d2.ext (x3.mono fun b hb => by simp at hb ⊢; rcases hb with rfl | rfl <;> simp)
    walk_at "rs"
    refine rd_seqK (fun σ' H' => ∃ n : Nat, σ' = [some (.ref st), some (.int many), some (.ref l), some (.int n), none, none, none, none] ∧ n < 60 ∧ H' l = some (.lst [.ref t1]) ∧ DtAll K [l, st, c, r] H' [.ref t1] ([Mt.ln0].map Mt.lnD) ∧ Dk H' st c r (m + 3)) ?_ ?_
    · rintro σ' H4 ⟨n, rfl, hn, g4, d4, S4⟩
      walk_at "rq"
      refine ⟨by omega, by omega, ?_⟩
      refine for_rangeW (fun i σ' H' => ∃ (o4 o5 o6 o7 : Option V) (vs : List V) (lns : List Mt.Ln), σ' = [some (.ref st), some (.int many), some (.ref l), some (.int n), o4, o5, o6, o7] ∧ H' l = some (.lst vs) ∧ DtAll K [l, st, c, r] H' vs (lns.map Mt.lnD) ∧ Mt.LnOk many i lns ∧ Dk H' st c r (m + 3 + 5 * i)) ?_ ?_ ?_
      · exact ⟨none, none, none, none, _, [Mt.ln0], rfl, g4, d4, Mt.LnOk.start _, S4⟩
      · rintro i σ' H5 hi ⟨o4, o5, o6, o7, vs, lns, rfl, g5, d5, ok, S5⟩
        have hi' : i < 60 := by omega
        have hlv := d5.length
        rw [List.length_map] at hlv
        have w1 := ok.ge
        have w2 := ok.len
        walk_at "rq"
        refine ⟨st, c, r, _, _, rfl, S5, by omega, by omega, by omega, fun v6 H6 a6 b6 S6 x6 => ?_⟩
        have y6 : Ext [l, st, c, r] H5 H6 := x6.mono fun b hb => by simp at hb ⊢; rcases hb with rfl | rfl <;> simp
        have g6 := x6 _ _ g5 (nin_pr nl)
        have d6 := d5.ext y6
        obtain ⟨j, rfl⟩ := Int.eq_ofNat_of_zero_le a6
        have hj : j < lns.length := by omega
        obtain ⟨v, ev, hv⟩ := d6.getD (i := j) (d := Mt.lnD lns[j]) (by simp [hj])
        obtain ⟨t, rfl, nt, hT, -⟩ := Mt.dtLn hv
        have hx : lns[j] ∈ lns := List.getElem_mem hj
        generalize lns[j] = x at hv hT hx
        refine rd_ixL (SqL.of g6) (atI_nat ev) ?_
        unfold Mt.lnV at hT
        walk_at "rq"
        refine ⟨st, c, r, _, 9, rfl, S6, by omega, by decide, by decide, fun v7 H7 a7 b7 S7 x7 => ?_⟩
        have y7 : Ext [l, st, c, r] H6 H7 := x7.mono fun b hb => by simp at hb ⊢; rcases hb with rfl | rfl <;> simp
        have g7 := x7 _ _ g6 (nin_pr nl)
        have d7 := d6.ext y7
        have hT7 := y7.tup hT nt
        walk_at "rq"
        refine ⟨l, rfl, ⟨_, SqL.of g7⟩, fun acc na ka => ?_⟩
        refine comp_by lns.length (small1000 (by omega)) (fun i vs' σc H' => Same H7 H' ∧ (∃ o, σc = [o]) ∧ vs' = ((lns.take i).map Mt.Ln.l).map V.int) ?_ ?_ ?_
        · exact ⟨Same.upd na, ⟨none, rfl⟩, rfl⟩
        · rintro e vs' σc H' he hl ha ⟨sm, ⟨o, rfl⟩, rfl⟩
          have hL : SqL K H' l vs := SqL.of (sm _ _ g7)
          obtain ⟨u, eu, hu⟩ := d7.getD (i := e) (d := Mt.lnD lns[e]) (by simp [he])
          obtain ⟨t', rfl, nt', hT', -⟩ := Mt.dtLn hu
          refine ⟨⟨_, _, hL, eu⟩, ?_⟩
          rintro y H8 ⟨rfl, hy⟩ R hR
          have e2 := hy _ hL
          rw [eu] at e2; cases e2
          have hT8 := sm.tupS hT'
          unfold Mt.lnV at hT8
          walk_at "rq"
          refine hR _ _ _ ha ⟨fun b u e => ?_, ⟨_, rfl⟩, ?_⟩
          · rw [upd_ne (ne_of_none e na)]; exact sm b u e
          · rw [show lns.take (e + 1) = lns.take e ++ [lns[e]] by rw [List.take_add_one]; simp [he], List.map_append, List.map_append]; rfl
        · rintro vs' σc H' hl ha ⟨sm, _, rfl⟩
          refine ⟨⟨_, SqL.of (sm _ _ g7), by omega⟩, ?_⟩
          rw [List.take_length] at ha
          have g8 := sm _ _ g7
          have d8 := d7.ext (Ext.same sm)
          have hT8 := sm.tupS hT7
          have S8 := S7.same sm
          refine rd_notInL (SqL.of ha) rfl (flat_ints _) ?_
          rw [inV_ints]
          by_cases hin : x.l + 1 + v7 ∈ lns.map Mt.Ln.l
          · rw [decide_eq_true hin]
            walk_at "rq"
            exact ⟨_, _, _, _, vs, lns, rfl, g8, d8, ok.mono (by omega), S8.mono (by omega)⟩
          · rw [decide_eq_false hin]
            walk_at "rq"
            refine ⟨st, c, r, _, 9, rfl, S8, by omega, by decide, by decide, fun v9 H9 a9 b9 S9 x9 => ?_⟩
            have y9 : Ext [l, st, c, r] H' H9 := x9.mono fun b hb => by simp at hb ⊢; rcases hb with rfl | rfl <;> simp
            have g9 := x9 _ _ g8 (nin_pr nl)
            have d9 := d8.ext y9
            have hT9 := y9.tup hT8 nt
            walk_at "rq"
            refine ⟨sz (by simp), fun l10 H10 n10 s10 g10 => ?_⟩
            have S10 := S9.same s10
            walk_at "rq"
            refine ⟨st, c, r, _, 2, rfl, S10, by omega, by decide, by decide, fun v11 H11 a11 b11 S11 x11 => ?_⟩
            have y11 : Ext [l, st, c, r] H9 H11 := (Ext.same s10).trans (x11.mono fun b hb => by simp at hb ⊢; rcases hb with rfl | rfl <;> simp)
            have g11 := x11 _ _ (s10 _ _ g9) (nin_pr nl)
            have d11 := d9.ext y11
            have hT11 := y11.tup hT9 nt
            obtain ⟨z, ez, hz⟩ := at2D a11 b11 (.int 0) (.int v9)
            refine rd_ixL (SqL.of (x11 _ _ g10 (nin_pr (S9.new n10)))) ez ?_
            obtain ⟨zi, rfl, z0, z1⟩ : ∃ zi, z = .int zi ∧ 0 ≤ zi ∧ zi < 9 := by
              rcases hz with rfl | rfl
              · exact ⟨0, rfl, by decide, by decide⟩
              · exact ⟨v9, rfl, a9, b9⟩
            walk_at "rq"
            rw [Mt.p6]
            obtain ⟨c1, c2, c3, c4, c5, c6, c7⟩ := ok.bd x hx
            obtain ⟨f, hf, f0, f1⟩ : ∃ f : Int, (if x.f + zi < 1000000 then x.f + zi else 1000000) = f ∧ x.f ≤ f ∧ f ≤ 1000000 := ⟨_, rfl, by split <;> omega, by split <;> omega⟩
            rw [hf]
            walk_at "rq"
            refine ⟨.inl ⟨rfl, _, SqL.of g11⟩, ?_⟩
            walk_at "rq"
            refine ⟨st, c, r, _, 2, rfl, S11, by omega, by decide, by decide, fun v12 H12 a12 b12 S12 x12 => ?_⟩
            have y12 : Ext [l, st, c, r] H11 H12 := x12.mono fun b hb => by simp at hb ⊢; rcases hb with rfl | rfl <;> simp
            have g12 := x12 _ _ g11 (nin_pr nl)
            have d12 := d11.ext y12
            have hT12 := y12.tup hT11 nt
            walk_at "rq"
            refine ⟨sz (by simp), fun t13 H13 n13 s13 g13 => ?_⟩
            have g13l := s13 _ _ g12
            have S13 := S12.same s13
            walk_at "rq"
            have nt13 : t13 ∉ [l, st, c, r] := by
              intro z
              rcases List.mem_cons.mp z with rfl | z
              · rw [g12] at n13; cases n13
              · exact S12.new n13 z
            refine rd_append g13l (by show vs.length < sizeLine; exact Nat.lt_of_lt_of_le (show vs.length < 1000 by omega) (by decide)) ?_
            walk_at "rq"
            refine ⟨_, _, _, _, _, lns ++ [⟨x.l + 1 + v7, (x.l + 1 + v7) % many, some x.l, f, decide (V.int v12 = V.int 1)⟩], rfl, upd_same, ?_, ok.snoc _ (by omega) m1 m8 hx a7 b7 (fun y hy e => hin (e ▸ List.mem_map_of_mem hy)) f0 f1, (S13.upd nl).mono (by omega)⟩
            rw [List.map_append]
            have y13 : Ext [l, st, c, r] H13 (upd H13 l (.lst (vs ++ [.ref t13]))) := Ext.at (by simp)
            exact (d12.ext ((Ext.same s13).trans y13)).append (.cons (.tup (y13.tup (SqT.of g13) nt13) nt13 (.cons (.int _) (.cons (.int _) (.cons (.int _) (.cons (.int _) (.cons (.bl _) .nil)))))) .nil)
      · rintro σ' H5 ⟨o4, o5, o6, o7, vs, lns, rfl, g5, d5, ok, S5⟩
        walk_at "rq"
        refine k l vs lns _ ⟨g5, nl, d5.sub fun b hb => List.mem_cons_of_mem _ hb⟩ (ok.mono (by omega)) (S5.mono (by omega))
    · intro hrest
      walk_at "rs"
      refine ⟨st, c, r, _, 8, rfl, S3, by omega, by decide, by decide, fun v4 H4 a4 b4 S4 x4 => ?_⟩
      have y4 : Ext [l, st, c, r] H3 H4 := x4.mono fun b hb => by simp at hb ⊢; rcases hb with rfl | rfl <;> simp
      have g4 := x4 _ _ g3 (nin_pr nl)
      have d4 := d3.ext y4
      walk_at "rs"
      refine rd_ite2 (fun hc => ?_) (fun hc => ?_)
      · walk_at "rs"
        refine ⟨st, c, r, _, 60, rfl, S4, by omega, by decide, by decide, fun v5 H5 a5 b5 S5 x5 => ?_⟩
        have y5 : Ext [l, st, c, r] H4 H5 := x5.mono fun b hb => by simp at hb ⊢; rcases hb with rfl | rfl <;> simp
        walk_at "rs"
        obtain ⟨n, rfl⟩ := Int.eq_ofNat_of_zero_le a5
        exact hrest _ _ ⟨n, rfl, by omega, x5 _ _ g4 (nin_pr nl), d4.ext y5, S5⟩
      · walk_at "rs"
        obtain ⟨n, rfl⟩ := Int.eq_ofNat_of_zero_le a3
        exact hrest _ _ ⟨n, rfl, by omega, g4, d4, S4.mono (by omega)⟩

def sp_law_odd (K : PySem.W.Frag) : Sp := fun vs H Q _ => ∃ (st c r : Addr) (m : Nat) (x : V) (d : PyData) (t : Addr) (xs : List V) (ds : List PyData), vs = [.ref st, x, .ref t] ∧ Dk H st c r m ∧ m < 200000000 ∧ Dt K [st, c, r] H x d ∧ Mt.Itm 140 0 d ∧ SqT K H t xs ∧ t ∉ [st, c, r] ∧ DtAll K [st, c, r] H xs ds ∧ (∀ d ∈ ds, Mt.Itm 140 0 d) ∧ xs.length = 5 ∧
  ∀ (y : V) (e : PyData) (H' : Hp), Dt K [st, c, r] H' y e → Mt.Itm 1000 2 e → Dk H' st c r (m + 3) → Ext [st, r] H H' → Q y H'
theorem ok_law_odd (T : Txt P K mg a) (G__law_from : FnOk P w K mg base CX0 1 a.f_law_from a.d_law_from ["_law_thing", "_law_least", "_law_most"] (sp_law_from K)) (G__law_take : FnOk P w K mg base CX0 1 a.f_law_take a.d_law_take ["_law_deck_here", "_law_many"] (sp_law_take K)) : FnOk P w K mg base CX0 2 a.f_law_odd a.d_law_odd ["_law_deck_here", "_law_thing", "_law_told"] (sp_law_odd K) := by
  refine T.F_law_odd.ok sc_law_odd (fun vs H Q E h => ?_) (fun cdv A outer s H vs Q E hr h => ?_)
  · obtain ⟨st, c, r, m, x, d, t, xs, ds, rfl, _⟩ := h; rfl
  · obtain ⟨st, c, r, m, x, d, t, xs, ds, rfl, S, hm, hx, ix, ht, nt, hds, ids, l5, k⟩ := h
    refine exW ⟨_, (qss_cons (qs_setLA (i := 3) sc_law_odd.nd rfl (Or.inl rfl) (qa pe_non (qa pe_bl (qa pe_bl (qa (by exact (pe_un un_neg pe_int)) (qa (by exact (pe_op op_pow pe_int pe_int)) (qa (by exact (pe_op op_add (pe_op op_pow pe_int pe_int) pe_int)) (qa pe_str (qa (by exact (qe_tupA qa_nil)) (qa pe_int (qa pe_int (qa (by exact (pe_ix ix_tup (pv 2 (by rfl) (by walk_at "vis") (by decide) (by decide)) (qe_call G__law_take (hr.mono (by decide)) (by rfl) T.m__law_take T.k__law_take T.bd__law_take .nil pass0 (qa (pv 0 (by rfl) (by walk_at "vis") (by decide) (by decide)) (qa (qe_callB cn_len (by rfl) T.b_len (by decide +kernel) (qa (pv 2 (by rfl) (by walk_at "vis") (by decide) (by decide)) qa_nil (by rfl)) (by decide) (by decide) (by rfl) (by rfl)) qa_nil (by rfl)) (by rfl)) (by decide) (by rfl) (by rfl)) (fun _ _ => rfl))) qa_nil (by rfl)) (by rfl)) (by rfl)) (by rfl)) (by rfl)) (by rfl)) (by rfl)) (by rfl)) (by rfl)) (by rfl)) (by rfl)) (by first | exact Or.inl rfl | exact Or.inr rfl))
      (qss_cons (qs_if (pw_and (pt_val (qe_call G__law_from (hr.mono (by decide)) (by rfl) T.m__law_from T.k__law_from T.bd__law_from .nil pass0 (qa (pv 1 (by rfl) (by walk_at "vis") (by decide) (by decide)) (qa pe_int (qa (pe_op op_pow pe_int pe_int) qa_nil (by rfl)) (by rfl)) (by rfl)) (by decide) (by rfl) (by rfl)) (by intro _; rfl)) (pw_and1 (pt_cmpR op_gt (qe_call G__law_take (hr.mono (by decide)) (by rfl) T.m__law_take T.k__law_take T.bd__law_take .nil pass0 (qa (pv 0 (by rfl) (by walk_at "vis") (by decide) (by decide)) (qa pe_int qa_nil (by rfl)) (by rfl)) (by decide) (by rfl) (by rfl)) pe_int (nomark _)))).pt
        (qss_one (qs_ret (pe_ix ix_list (qe_lstA (qa (by exact (pe_op op_add (pv 1 (by rfl) (by walk_at "vis") (by decide) (by decide)) pe_int)) (qa (by exact (pe_op op_sub (pv 1 (by rfl) (by walk_at "vis") (by decide) (by decide)) pe_int)) (qa (by exact (pe_op op_add (pv 1 (by rfl) (by walk_at "vis") (by decide) (by decide)) pe_int)) (qa (by exact (qe_callTy cn_str (by rfl) T.b_str (by decide +kernel) (qa (pv 1 (by rfl) (by walk_at "vis") (by decide) (by decide)) qa_nil (by rfl)) (by decide) (by decide) (by rfl) (by rfl))) (qa (by exact (pe_cmpR op_eq (pv 1 (by rfl) (by walk_at "vis") (by decide) (by decide)) pe_int (nomark _))) (qa (by exact (qe_tupA (qa (pv 1 (by rfl) (by walk_at "vis") (by decide) (by decide)) qa_nil (by rfl)))) qa_nil (by rfl)) (by rfl)) (by rfl)) (by rfl)) (by rfl)) (by rfl))) (qe_call G__law_take (hr.mono (by decide)) (by rfl) T.m__law_take T.k__law_take T.bd__law_take .nil pass0 (qa (pv 0 (by rfl) (by walk_at "vis") (by decide) (by decide)) (qa pe_int qa_nil (by rfl)) (by rfl)) (by decide) (by rfl) (by rfl)) (fun _ _ => rfl))))
        qss_nil)
      (qss_one (qs_ret (pe_ix ix_list (pv 3 (by rfl) (by walk_at "vis") (by decide) (by decide)) (qe_call G__law_take (hr.mono (by decide)) (by rfl) T.m__law_take T.k__law_take T.bd__law_take .nil pass0 (qa (pv 0 (by rfl) (by walk_at "vis") (by decide) (by decide)) (qa pe_int qa_nil (by rfl)) (by rfl)) (by decide) (by rfl) (by rfl)) (fun _ _ => rfl)))))), ?_⟩
    try dsimp only [cxOf]
    have p40 : Mt.Itm 1000 2 (.int (10 ^ (40 : Int).toNat)) := (Mt.itm_int (by decide +kernel)).mono (by decide) (by decide)
    have sI : ∀ {i : Int}, -100000000000 ≤ i → i ≤ 100000000000 → Mt.Itm 1000 2 (.int i) := fun h1 h2 => (Mt.itm_small h1 h2).mono (by decide) (by decide)
    walk_at "rq"
    refine ⟨sz (by simp), fun t1 H1 n1 s1 g1 => ?_⟩
    have S1 := S.same s1
    have ht1 := s1.tupS ht
    have lds := hds.length
    walk_at "rq"
    refine ⟨st, c, r, _, _, rfl, S1, by omega, by omega, by omega, fun v2 H2 a2 b2 S2 x2 => ?_⟩
    have x02 : Ext [st, r] H H2 := (Ext.same s1).trans x2
    have ht2 := x02.tup ht (nin_pr nt)
    have hds2 := hds.ext x02.up3
    have dt1 : t1 ∉ [st, c, r] := S.new n1
    have g2 := x2 _ _ g1 (nin_pr dt1)
    obtain ⟨v, dv, ev, mv, hv⟩ := hds2.atI a2 (by omega)
    refine rd_ixT ht2 ev ?_
    walk_at "rq"
    refine ⟨sz (by simp), fun l3 H3 n3 s3 g3 => ?_⟩
    have S3 := S2.same s3
    have dl3 : l3 ∉ [st, c, r] := S2.new n3
    have x03 : Ext [st, r] H H3 := x02.trans (Ext.same s3)
    have hx3 := hx.ext x03.up3
    have hv3 := hv.ext (Ext.same s3)
    have g13 := s3 _ _ g2
    have iv : Mt.Itm 1000 2 dv := (ids dv mv).mono (by decide) (by decide)
    rw [Mt.p9] at g3
    have fin : ∀ (H4 : Hp) (m' : Nat), m' ≤ m + 3 → Dk H4 st c r m' → Ext [st, r] H3 H4 → ∀ j : Nat, j < 11 → ∃ y, atI ([.non, .bl true, .bl false, .int (-1), .int (10 ^ (40 : Int).toNat), .int (1000000000 + 1), .str "0", .ref t1, .int 0, .int 1, v] : List V) (j : Int) = some y ∧ Q y H4 := fun H4 m' hm' S4 x4 j hj => by
      have fin : ∀ {y : V} {e : PyData}, Dt K [st, c, r] H4 y e → Mt.Itm 1000 2 e → Q y H4 := fun h1 h2 => k _ _ _ h1 h2 (S4.mono hm') (x03.trans x4)
      match j, hj with
      | 0, _ => exact ⟨_, rfl, fin .non (Mt.itm_none.mono (by decide) (by decide))⟩
      | 1, _ => exact ⟨_, rfl, fin (.bl _) ((Mt.itm_bool _).mono (by decide) (by decide))⟩
      | 2, _ => exact ⟨_, rfl, fin (.bl _) ((Mt.itm_bool _).mono (by decide) (by decide))⟩
      | 3, _ => exact ⟨_, rfl, fin (.int _) (sI (by decide) (by decide))⟩
      | 4, _ => exact ⟨_, rfl, fin (.int _) p40⟩
      | 5, _ => exact ⟨_, rfl, fin (.int _) (sI (by decide) (by decide))⟩
      | 6, _ => exact ⟨_, rfl, fin (.str _) ((Mt.itm_str (by unfold Mt.cpsOk; decide +kernel) (by decide +kernel)).mono (by decide) (by decide))⟩
      | 7, _ => exact ⟨_, rfl, fin (.tup (x4.tup (SqT.of g13) (nin_pr dt1)) dt1 .nil) ((Mt.itm_tuple (w := 0) (k := 0) (n := 0) (fun d hd => by cases hd) (by simp)).mono (by decide) (by decide))⟩
      | 8, _ => exact ⟨_, rfl, fin (.int _) (sI (by decide) (by decide))⟩
      | 9, _ => exact ⟨_, rfl, fin (.int _) (sI (by decide) (by decide))⟩
      | 10, _ => exact ⟨_, rfl, fin (hv3.ext x4.up3) iv⟩
    have hrest : ∀ (H4 : Hp) (m' : Nat), m' ≤ m + 2 → Dk H4 st c r m' → Ext [st, r] H3 H4 → sp_law_take K [V.ref st, V.int 11] H4 (fun y H2 => rIxL K (V.ref l3) y H2 Q) E0 := fun H4 m' hm' S4 x4 => by
      refine ⟨st, c, r, _, 11, rfl, S4, by omega, by decide, by decide, fun v5 H5 a5 b5 S5 x5 => ?_⟩
      obtain ⟨j, rfl⟩ := Int.eq_ofNat_of_zero_le a5
      obtain ⟨y, ey, q⟩ := fin H5 (m' + 1) (by omega) S5 (x4.trans x5) j (by omega)
      exact rd_ixL (SqL.of ((x4.trans x5) _ _ g3 (nin_pr dl3))) ey q
    walk_at "rq"
    refine ⟨_, x, d, _, _, rfl, hx3, ?_⟩
    rw [Mt.p9]
    cases hw : Mt.withinD 0 1000000000 d with
    | false =>
      walk_at "rd"
      exact hrest _ _ (by omega) S3 (Ext.refl _)
    | true =>
      obtain ⟨i, rfl, i0, i1⟩ := Mt.within_int hw
      cases hx
      walk_at "rq"
      refine ⟨st, c, r, _, 3, rfl, S3, by omega, by decide, by decide, fun v4 H4 a4 b4 S4 x4 => ?_⟩
      walk_at "rq"
      refine rd_ite2 (fun hc => ?_) (fun hc => ?_)
      · walk_at "rq"
        refine rd_str (Nat.lt_trans (Mt.log2_le (Nat.lt_of_le_of_lt (m := 1000000000) (by omega) (by decide +kernel))) (by decide)) ?_
        walk_at "rq"
        refine ⟨sz (by simp), fun t5 H5 n5 s5 g5 => ?_⟩
        walk_at "rq"
        refine ⟨sz (by simp), fun l6 H6 n6 s6 g6 => ?_⟩
        have S5 := S4.same s5
        have S6 := S5.same s6
        have dt5 : t5 ∉ [st, c, r] := S4.new n5
        have dl6 : l6 ∉ [st, c, r] := S5.new n6
        walk_at "rq"
        refine ⟨st, c, r, _, 6, rfl, S6, by omega, by decide, by decide, fun v7 H7 a7 b7 S7 x7 => ?_⟩
        have x07 : Ext [st, r] H H7 := x03.trans (x4.trans ((Ext.same (s5.trans s6)).trans x7))
        have fin2 : ∀ {y : V} {e : PyData}, Dt K [st, c, r] H7 y e → Mt.Itm 1000 2 e → Q y H7 := fun h1 h2 => k _ _ _ h1 h2 (S7.mono (by omega)) x07
        have g57 := x7 _ _ (s6 _ _ g5) (nin_pr dt5)
        obtain ⟨j, rfl⟩ := Int.eq_ofNat_of_zero_le a7
        have hj : j < 6 := by omega
        obtain ⟨y, ey, q⟩ : ∃ y, atI ([.int (i + 1), .int (i - 1), .int (i + 8), .str (toString i), .bl (decide (V.int i = V.int 1)), .ref t5] : List V) (j : Int) = some y ∧ Q y H7 := by
          match j, hj with
          | 0, _ => exact ⟨_, rfl, fin2 (.int _) (sI (by omega) (by omega))⟩
          | 1, _ => exact ⟨_, rfl, fin2 (.int _) (sI (by omega) (by omega))⟩
          | 2, _ => exact ⟨_, rfl, fin2 (.int _) (sI (by omega) (by omega))⟩
          | 3, _ =>
            refine ⟨_, rfl, fin2 (.str _) ((Mt.itm_str (cps_ofString _) ?_).mono (by decide) (by decide))⟩
            have e := int_text_length_le10 (k := 41) (a := i) (by decide) (Nat.lt_of_le_of_lt (m := 1000000000) (by omega) (by decide +kernel))
            have e' : (Str.ofString (toString i)).length = (toString i).length := ofString_length _
            omega
          | 4, _ => exact ⟨_, rfl, fin2 (.bl _) ((Mt.itm_bool _).mono (by decide) (by decide))⟩
          | 5, _ => exact ⟨_, rfl, fin2 (.tup (SqT.of g57) dt5 (.cons (.int i) .nil)) ((Mt.itm_tuple (w := 140) (k := 0) (n := 1) (fun d hd => by simp only [List.mem_cons, List.not_mem_nil, or_false] at hd; subst hd; exact ix) (by simp)).mono (by decide) (by decide))⟩
        exact rd_ixL (SqL.of (x7 _ _ g6 (nin_pr dl6))) ey q
      · walk_at "rq"
        exact hrest _ _ (by omega) S4 x4

def sp_law_bent (K : PySem.W.Frag) : Sp := fun vs H Q _ => ∃ (st c r : Addr) (m : Nat) (l : Addr) (vs' : List V) (lns : List Mt.Ln) (many : Int), vs = [.ref st, .ref l] ∧ Dk H st c r m ∧ m < 100000000 ∧ BC K [st, c, r] H l vs' (lns.map Mt.lnD) ∧ Mt.LnOk many 60 lns ∧
  ∀ (x : V) (H' : Hp), OkW K [st, c, r] H' x → BC K [st, c, r] H' l vs' (lns.map Mt.lnD) → Dk H' st c r (m + 20) → Q x H'
theorem ok_law_bent (T : Txt P K mg a) (G__law_odd : FnOk P w K mg base CX0 2 a.f_law_odd a.d_law_odd ["_law_deck_here", "_law_thing", "_law_told"] (sp_law_odd K)) (G__law_take : FnOk P w K mg base CX0 1 a.f_law_take a.d_law_take ["_law_deck_here", "_law_many"] (sp_law_take K)) : FnOk P w K mg base CX0 3 a.f_law_bent a.d_law_bent ["_law_deck_here", "_law_lines"] (sp_law_bent K) := by
  refine T.F_law_bent.ok sc_law_bent (fun vs H Q E h => ?_) (fun cdv A outer s H vs Q E hr h => ?_)
  · obtain ⟨st, c, r, m, l, vs, lns, many, rfl, _⟩ := h; rfl
  · obtain ⟨st, c, r, m, l, vs, lns, many, rfl, S, hm, B, ok, k⟩ := h
    have hlv := B.d.length
    rw [List.length_map] at hlv
    have w1 := ok.ge
    have w2 := ok.len
    have hI := ok.itm (by decide)
    have hI2 : ∀ d ∈ lns.map Mt.lnD, Mt.Itm 2000 3 d := fun d hd => (hI d hd).mono (by decide) (by decide)
    have hDl : (lns.map Mt.lnD).length ≤ 61 := by rw [List.length_map]; omega
    refine exW ⟨_, (qss_cons (qs_set (i := 2) sc_law_bent.nd rfl (Or.inl rfl) (qe_call G__law_take (hr.mono (by decide)) (by rfl) T.m__law_take T.k__law_take T.bd__law_take .nil pass0 (qa (pv 0 (by rfl) (by walk_at "vis") (by decide) (by decide)) (qa (qe_callB cn_len (by rfl) T.b_len (by decide +kernel) (qa (pv 1 (by rfl) (by walk_at "vis") (by decide) (by decide)) qa_nil (by rfl)) (by decide) (by decide) (by rfl) (by rfl)) qa_nil (by rfl)) (by rfl)) (by decide) (by rfl) (by rfl)) (by rfl) (by first | exact Or.inl rfl | exact Or.inr rfl))
      (qss_cons (qs_set (i := 3) sc_law_bent.nd rfl (Or.inl rfl) (qe_call G__law_take (hr.mono (by decide)) (by rfl) T.m__law_take T.k__law_take T.bd__law_take .nil pass0 (qa (pv 0 (by rfl) (by walk_at "vis") (by decide) (by decide)) (qa (qe_callB cn_len (by rfl) T.b_len (by decide +kernel) (qa (pv 1 (by rfl) (by walk_at "vis") (by decide) (by decide)) qa_nil (by rfl)) (by decide) (by decide) (by rfl) (by rfl)) qa_nil (by rfl)) (by rfl)) (by decide) (by rfl) (by rfl)) (by rfl) (by first | exact Or.inl rfl | exact Or.inr rfl))
      (qss_cons (qs_set (i := 4) sc_law_bent.nd rfl (Or.inl rfl) (qe_callTy (cn_listA (K := K) (by rfl)) (by rfl) T.b_list (by decide +kernel) (qa (pv 1 (by rfl) (by walk_at "vis") (by decide) (by decide)) qa_nil (by rfl)) (by decide) (by decide) (by rfl) (by rfl)) (by rfl) (by first | exact Or.inl rfl | exact Or.inr rfl))
      (qss_cons (qs_asg (qe_tupA (qa (pe_ix ix_list (pv 4 (by rfl) (by walk_at "vis") (by decide) (by decide)) (pv 3 (by rfl) (by walk_at "vis") (by decide) (by decide)) (fun _ _ => rfl)) (qa (pe_ix ix_list (pv 4 (by rfl) (by walk_at "vis") (by decide) (by decide)) (pv 2 (by rfl) (by walk_at "vis") (by decide) (by decide)) (fun _ _ => rfl)) qa_nil (by rfl)) (by rfl))) (pg_tup (n := 2) rfl (pgs_cons (pg_sub (pv 4 (by rfl) (by walk_at "vis") (by decide) (by decide)) (pv 2 (by rfl) (by walk_at "vis") (by decide) (by decide)) set_list (by intro _; rfl)) (pgs_cons (pg_sub (pv 4 (by rfl) (by walk_at "vis") (by decide) (by decide)) (pv 3 (by rfl) (by walk_at "vis") (by decide) (by decide)) set_list (by intro _; rfl)) pgs_nil (by rfl)) (by rfl)) (by rfl) (by rfl)) (by rfl) (by rfl) (by rfl))
      (qss_cons (qs_set (i := 5) sc_law_bent.nd rfl (Or.inl rfl) (pe_ix ix_list (pv 1 (by rfl) (by walk_at "vis") (by decide) (by decide)) (pv 2 (by rfl) (by walk_at "vis") (by decide) (by decide)) (fun _ _ => rfl)) (by rfl) (by first | exact Or.inl rfl | exact Or.inr rfl))
      (qss_cons (qs_set (i := 6) sc_law_bent.nd rfl (Or.inl rfl) (pe_ix ix_list (pv 1 (by rfl) (by walk_at "vis") (by decide) (by decide)) (pv 3 (by rfl) (by walk_at "vis") (by decide) (by decide)) (fun _ _ => rfl)) (by rfl) (by first | exact Or.inl rfl | exact Or.inr rfl))
      (qss_cons (qs_set (i := 7) sc_law_bent.nd rfl (Or.inl rfl) (qe_call G__law_take (hr.mono (by decide)) (by rfl) T.m__law_take T.k__law_take T.bd__law_take .nil pass0 (qa (pv 0 (by rfl) (by walk_at "vis") (by decide) (by decide)) (qa pe_int qa_nil (by rfl)) (by rfl)) (by decide) (by rfl) (by rfl)) (by rfl) (by first | exact Or.inl rfl | exact Or.inr rfl))
      (qss_cons (qs_setLA (i := 8) sc_law_bent.nd rfl (Or.inl rfl) (qa (by exact (pe_op op_catA (pe_slice (sl_listA (K := K) (by rfl)) (pv 1 (by rfl) (by walk_at "vis") (by decide) (by decide)) po_none (po_some (pv 2 (by rfl) (by walk_at "vis") (by decide) (by decide)))) (pe_slice (sl_listA (K := K) (by rfl)) (pv 1 (by rfl) (by walk_at "vis") (by decide) (by decide)) (po_some (pe_op op_add (pv 2 (by rfl) (by walk_at "vis") (by decide) (by decide)) pe_int)) po_none))) (qa (by exact (pe_op op_catA (pv 1 (by rfl) (by walk_at "vis") (by decide) (by decide)) (qe_lstA (qa (pv 5 (by rfl) (by walk_at "vis") (by decide) (by decide)) qa_nil (by rfl))))) (qa (pv 4 (by rfl) (by walk_at "vis") (by decide) (by decide)) (qa (by exact (qe_callTy (cn_tupleA (K := K) (by rfl)) (by rfl) T.b_tuple (by decide +kernel) (qa (pv 1 (by rfl) (by walk_at "vis") (by decide) (by decide)) qa_nil (by rfl)) (by decide) (by decide) (by rfl) (by rfl))) (qa pe_non (qa (by exact (pe_op op_catA (pv 1 (by rfl) (by walk_at "vis") (by decide) (by decide)) (qe_lstA (qa pe_non qa_nil (by rfl))))) (qa (by exact (qe_lstA qa_nil)) (qa (pv 5 (by rfl) (by walk_at "vis") (by decide) (by decide)) qa_nil (by rfl)) (by rfl)) (by rfl)) (by rfl)) (by rfl)) (by rfl)) (by rfl)) (by rfl)) (by first | exact Or.inl rfl | exact Or.inr rfl))
      (qss_cons (qs_set (i := 8) sc_law_bent.nd rfl (Or.inl rfl) (pe_op op_catA (pv 8 (by rfl) (by walk_at "vis") (by decide) (by decide)) (qe_lstA (qa (pe_op op_catA (pv 1 (by rfl) (by walk_at "vis") (by decide) (by decide)) (qe_lstA (qa (pe_slice sl_tupG (pv 5 (by rfl) (by walk_at "vis") (by decide) (by decide)) po_none (po_some pe_int)) qa_nil (by rfl)))) (qa (pe_op op_catA (pv 1 (by rfl) (by walk_at "vis") (by decide) (by decide)) (qe_lstA (qa (qe_callTy (cn_listA (K := K) (by rfl)) (by rfl) T.b_list (by decide +kernel) (qa (pv 5 (by rfl) (by walk_at "vis") (by decide) (by decide)) qa_nil (by rfl)) (by decide) (by decide) (by rfl) (by rfl)) qa_nil (by rfl)))) (qa (qe_lstA (qa (pv 1 (by rfl) (by walk_at "vis") (by decide) (by decide)) qa_nil (by rfl))) qa_nil (by rfl)) (by rfl)) (by rfl)))) (by rfl) (by first | exact Or.inl rfl | exact Or.inr rfl))
      (qss_cons (qs_expr (qe_append (pv 8 (by rfl) (by walk_at "vis") (by decide) (by decide)) (qa (pe_op op_catA (pv 1 (by rfl) (by walk_at "vis") (by decide) (by decide)) (qe_lstA (qa (qe_tupA (qa (by exact (pe_op op_pow pe_int pe_int)) (qa (by exact (pe_op op_mod (pe_op op_pow pe_int pe_int) pe_int)) (qa pe_int (qa (by exact (pe_op op_pow pe_int pe_int)) (qa pe_bl qa_nil (by rfl)) (by rfl)) (by rfl)) (by rfl)) (by rfl))) qa_nil (by rfl)))) qa_nil (by rfl)) (by rfl) (by rfl) (by rfl) (by rfl) (by rfl)) (by rfl))
      (qss_cons (qs_set (i := 8) sc_law_bent.nd rfl (Or.inl rfl) (pe_op op_catA (pv 8 (by rfl) (by walk_at "vis") (by decide) (by decide)) (qe_lstA (qa (pe_op op_catA (pv 1 (by rfl) (by walk_at "vis") (by decide) (by decide)) (qe_lstA (qa (qe_tupA (qa (by exact (pe_op op_add (pe_ix ix_tup (pv 6 (by rfl) (by walk_at "vis") (by decide) (by decide)) pe_int (fun _ _ => rfl)) (pe_op op_mul pe_int pe_int))) (qa (by exact (pe_ix ix_tup (pv 6 (by rfl) (by walk_at "vis") (by decide) (by decide)) pe_int (fun _ _ => rfl))) (qa (by exact (pe_ix ix_tup (pv 6 (by rfl) (by walk_at "vis") (by decide) (by decide)) pe_int (fun _ _ => rfl))) (qa (by exact (pe_ix ix_tup (pv 6 (by rfl) (by walk_at "vis") (by decide) (by decide)) pe_int (fun _ _ => rfl))) (qa pe_bl qa_nil (by rfl)) (by rfl)) (by rfl)) (by rfl)) (by rfl))) qa_nil (by rfl)))) (qa (pe_sliceRev (pv 1 (by rfl) (by walk_at "vis") (by decide) (by decide)) (pe_un un_neg pe_int)) (qa pe_dnewA qa_nil (by rfl)) (by rfl)) (by rfl)))) (by rfl) (by first | exact Or.inl rfl | exact Or.inr rfl))
      (qss_cons (qs_if (pt_cmpR op_eq (qe_call G__law_take (hr.mono (by decide)) (by rfl) T.m__law_take T.k__law_take T.bd__law_take .nil pass0 (qa (pv 0 (by rfl) (by walk_at "vis") (by decide) (by decide)) (qa pe_int qa_nil (by rfl)) (by rfl)) (by decide) (by rfl) (by rfl)) pe_int (nomark _))
        (qss_one (qs_ret (pe_ix ix_list (pv 8 (by rfl) (by walk_at "vis") (by decide) (by decide)) (qe_call G__law_take (hr.mono (by decide)) (by rfl) T.m__law_take T.k__law_take T.bd__law_take .nil pass0 (qa (pv 0 (by rfl) (by walk_at "vis") (by decide) (by decide)) (qa pe_int qa_nil (by rfl)) (by rfl)) (by decide) (by rfl) (by rfl)) (fun _ _ => rfl))))
        qss_nil)
      (qss_cons (qs_set (i := 9) sc_law_bent.nd rfl (Or.inl rfl) (pe_op op_catG (pe_op op_catG (pe_slice sl_tupG (pv 5 (by rfl) (by walk_at "vis") (by decide) (by decide)) po_none (po_some (pv 7 (by rfl) (by walk_at "vis") (by decide) (by decide)))) (qe_tupA (qa (qe_call G__law_odd (hr.mono (by decide)) (by rfl) T.m__law_odd T.k__law_odd T.bd__law_odd .nil pass0 (qa (pv 0 (by rfl) (by walk_at "vis") (by decide) (by decide)) (qa (pe_ix ix_tup (pv 5 (by rfl) (by walk_at "vis") (by decide) (by decide)) (pv 7 (by rfl) (by walk_at "vis") (by decide) (by decide)) (fun _ _ => rfl)) (qa (pv 5 (by rfl) (by walk_at "vis") (by decide) (by decide)) qa_nil (by rfl)) (by rfl)) (by rfl)) (by decide) (by rfl) (by rfl)) qa_nil (by rfl)))) (pe_slice sl_tupG (pv 5 (by rfl) (by walk_at "vis") (by decide) (by decide)) (po_some (pe_op op_add (pv 7 (by rfl) (by walk_at "vis") (by decide) (by decide)) pe_int)) po_none)) (by rfl) (by first | exact Or.inl rfl | exact Or.inr rfl))
      (qss_one (qs_ret (pe_op op_catA (pe_op op_catA (pe_slice (sl_listA (K := K) (by rfl)) (pv 1 (by rfl) (by walk_at "vis") (by decide) (by decide)) po_none (po_some (pv 2 (by rfl) (by walk_at "vis") (by decide) (by decide)))) (qe_lstA (qa (pv 9 (by rfl) (by walk_at "vis") (by decide) (by decide)) qa_nil (by rfl)))) (pe_slice (sl_listA (K := K) (by rfl)) (pv 1 (by rfl) (by walk_at "vis") (by decide) (by decide)) (po_some (pe_op op_add (pv 2 (by rfl) (by walk_at "vis") (by decide) (by decide)) pe_int)) po_none))))))))))))))))), ?_⟩
    try dsimp only [cxOf]
    have g := B.g
    walk_at "rq"
    refine ⟨st, c, r, _, _, rfl, S, by omega, by omega, by omega, fun v1 H1 a1 b1 S1 x1 => ?_⟩
    have B1 := B.ext x1.up3
    have g1 := B1.g
    clear g
    walk_at "rq"
    refine ⟨st, c, r, _, _, rfl, S1, by omega, by omega, by omega, fun v2 H2 a2 b2 S2 x2 => ?_⟩
    have B2 := B1.ext x2.up3
    have g2 := B2.g
    clear g1
    walk_at "rq"
    intro h3 H3 n3 s3 g3
    have S3 := S2.same s3
    have B3 := B2.ext (Ext.same s3)
    clear g2
    obtain ⟨j1, rfl⟩ := Int.eq_ofNat_of_zero_le a1
    obtain ⟨j2, rfl⟩ := Int.eq_ofNat_of_zero_le a2
    have hj1 : j1 < lns.length := by omega
    have hj2 : j2 < lns.length := by omega
    have dh : h3 ∉ [st, c, r] := S2.new n3
    obtain ⟨y1, e1, q1⟩ := B2.d.getD (i := j1) (d := Mt.lnD lns[j1]) (by simp [hj1])
    obtain ⟨y2, e2, q2⟩ := B2.d.getD (i := j2) (d := Mt.lnD lns[j2]) (by simp [hj2])
    obtain ⟨c1, c2, c3, c4, c5, c6, c7⟩ := ok.bd lns[j2] (List.getElem_mem hj2)
    have m1 : Mt.lnD lns[j1] ∈ lns.map Mt.lnD := List.mem_map_of_mem (List.getElem_mem hj1)
    have m2 : Mt.lnD lns[j2] ∈ lns.map Mt.lnD := List.mem_map_of_mem (List.getElem_mem hj2)
    generalize lns[j1] = X1 at q1 m1
    generalize lns[j2] = X2 at q2 m2 c1 c2 c3 c4 c5 c6 c7
    obtain ⟨t, rfl, nt, hT, dT⟩ := Mt.dtLn q1
    obtain ⟨t2, rfl, nt2, hT2, dT2⟩ := Mt.dtLn q2
    walk_at "rq"
    refine rd_ixL (SqL.of g3) (atI_nat e2) ?_
    walk_at "rq"
    refine rd_ixL (SqL.of g3) (atI_nat e1) ?_
    walk_at "rq"
    refine ⟨sz (by simp), fun t4 H4 n4 s4 g4 => ?_⟩
    walk_at "rq"
    refine rd_setL (s4 _ _ g3) (ixN_nat (by omega)) ?_
    walk_at "rq"
    refine rd_setL upd_same (ixN_nat (by simp; omega)) ?_
    have s25 : Same H2 (upd (upd H4 h3 (.lst (vs.set j1 (.ref t2)))) h3 (.lst ((vs.set j1 (.ref t2)).set j2 (.ref t)))) := fun b u e => by
      rw [upd_upd, upd_ne (ne_of_none e n3)]; exact s4 _ _ (s3 _ _ e)
    have g5 : (upd (upd H4 h3 (.lst (vs.set j1 (.ref t2)))) h3 (.lst ((vs.set j1 (.ref t2)).set j2 (.ref t)))) h3 = some (.lst ((vs.set j1 (.ref t2)).set j2 (.ref t))) := upd_same
    generalize upd (upd H4 h3 (.lst (vs.set j1 (.ref t2)))) h3 (.lst ((vs.set j1 (.ref t2)).set j2 (.ref t))) = H5 at s25 g5 ⊢
    have X5 : BX K st c r _ l vs (lns.map Mt.lnD) t t2 (Mt.lnV X1) (Mt.lnV X2) _ _ [] H2 := ⟨S2, B2, (fun u hu => by cases hu), hT, nt, dT, hT2, nt2, dT2⟩
    have X5 := X5.same s25
    have X5 := X5.add (OkW.lst (SqL.of g5) dh ((X5.B.d.set (.tup X5.T2 X5.nT2 X5.dT2) j1).set (.tup X5.T X5.nT X5.dT) j2) (fun d hd => by
      rcases List.mem_or_eq_of_mem_set hd with hd | rfl
      · rcases List.mem_or_eq_of_mem_set hd with hd | rfl
        · exact hI2 d hd
        · exact hI2 _ m2
      · exact hI2 _ m1) (by rw [List.length_set, List.length_set]; omega))
    clear g3 g4 n4 s4 s3 S3 B3 s25 q1 q2 hT hT2 dT dT2 g5
    have g5 := X5.B.g
    walk_at "rq"
    refine rd_ixL (SqL.of g5) (atI_nat e1) ?_
    walk_at "rq"
    refine rd_ixL (SqL.of g5) (atI_nat e2) ?_
    walk_at "rq"
    refine ⟨st, c, r, _, _, rfl, X5.S, by omega, by decide, by decide, fun v6 H6 a6 b6 S6 x6 => ?_⟩
    have X6 := X5.take x6 S6
    have g6 := X6.B.g
    clear g5
    have cutI : ∀ {lo hi : Option Int}, ∀ d ∈ cutD (lns.map Mt.lnD) lo hi, Mt.Itm 2000 3 d := fun d hd => hI2 d (cutD_mem hd)
    have cutL : ∀ {lo hi : Option Int}, (cutD (lns.map Mt.lnD) lo hi).length ≤ 61 := Nat.le_trans cutD_len hDl
    have appI : ∀ {as bs : List PyData}, (∀ d ∈ as, Mt.Itm 2000 3 d) → (∀ d ∈ bs, Mt.Itm 2000 3 d) → ∀ d ∈ as ++ bs, Mt.Itm 2000 3 d := fun h1 h2 d hd => by
      rcases List.mem_append.mp hd with z | z
      · exact h1 d z
      · exact h2 d z
    have oneI : ∀ {d : PyData}, Mt.Itm 2000 3 d → ∀ e ∈ [d], Mt.Itm 2000 3 e := fun h e he => by simp at he; subst he; exact h
    have cvl : ∀ {lo hi : Option Int}, (cutV vs lo hi).length ≤ 61 := by
      intro lo hi
      rw [(B.d.cut lo hi).length]; exact cutL
    walk_at "rq"
    intro l7 H7 n7 s7 g7
    have X7 := X6.same s7
    have g7l := X7.B.g
    clear g6
    walk_at "rq"
    intro l8 H8 n8 s8 g8
    have X8 := X7.same s8
    refine rd_catA (s8 _ _ g7) g8 (sz (by have := cvl (lo := none) (hi := some (j1 : Int)); have := cvl (lo := some ((j1 : Int) + 1)) (hi := none); omega)) fun l9 H9 n9 s9 g9 => ?_
    have X9 := X8.same s9
    have X9 := X9.add (OkW.lst (SqL.of g9) (X8.new n9) ((X9.B.d.cut none (some (j1 : Int))).append (X9.B.d.cut (some ((j1 : Int) + 1)) none)) (appI cutI cutI) (by
      rw [← (((X9.B.d.cut none (some (j1 : Int))).append (X9.B.d.cut (some ((j1 : Int) + 1)) none))).length, cut_around (by omega)]
      rw [List.length_eraseIdx]; split <;> omega))
    clear X7 X8 n7 s7 g7 n8 s8 g8 g7l
    have g9l := X9.B.g
    walk_at "rq"
    refine ⟨sz (by simp), fun l10 H10 n10 s10 g10 => ?_⟩
    have X10 := X9.same s10
    refine rd_catA X10.B.g g10 (sz (by simp; omega)) fun l11 H11 n11 s11 g11 => ?_
    have X11 := X10.same s11
    have X11 := X11.add (OkW.lst (SqL.of g11) (X10.new n11) (X11.B.d.append (.cons (.tup X11.T X11.nT X11.dT) .nil)) (appI hI2 (oneI (hI2 _ m1))) (by rw [List.length_append]; simp at hDl ⊢; omega))
    have g11l := X11.B.g
    clear g9l
    walk_at "rq"
    intro t12 H12 p12 s12 h12
    have X12 := X11.same s12
    have n12 : t12 ∉ [st, c, r] := by
      rcases p12 with rfl | h
      · exact X11.B.n
      · exact X11.new h
    have X12 := X12.add (OkW.tup h12 n12 X12.B.d hI2 (by omega))
    have X12 := X12.add (v := .non) OkW.none
    clear g11l
    walk_at "rq"
    refine ⟨sz (by simp), fun l13 H13 n13 s13 g13 => ?_⟩
    have X13 := X12.same s13
    refine rd_catA X13.B.g g13 (sz (by simp; omega)) fun l14 H14 n14 s14 g14 => ?_
    have X14 := X13.same s14
    have X14 := X14.add (OkW.lst (SqL.of g14) (X13.new n14) (X14.B.d.append (.cons .non .nil)) (appI hI2 (oneI (Mt.itm_none.mono (by decide) (by decide)))) (by rw [List.length_append]; simp at hDl ⊢; omega))
    walk_at "rq"
    refine ⟨sz (by simp), fun l15 H15 n15 s15 g15 => ?_⟩
    have X15 := X14.same s15
    have X15 := X15.add (OkW.lst (SqL.of g15) (X14.new n15) .nil (fun d hd => by cases hd) (by simp))
    have X15 := X15.add (OkW.tup X15.T X15.nT X15.dT (fun d hd => (Mt.ln_itm ok m1 (by decide) d hd).mono (by decide) (by decide)) (by simp))
    walk_at "rq"
    refine ⟨sz (by simp), fun l16 H16 n16 s16 g16 => ?_⟩
    have X16 := X15.same s16
    have T16 := X16.T
    have tI1 : ∀ d ∈ [PyData.int X1.l, .int X1.h, Mt.optD X1.p, .int X1.f, .bool X1.b], Mt.Itm 140 0 d := Mt.ln_itm ok m1 (by decide)
    have tC : ∀ {lo hi : Option Int}, Mt.Itm 2000 3 (.tuple (cutD [PyData.int X1.l, .int X1.h, Mt.optD X1.p, .int X1.f, .bool X1.b] lo hi)) := (Mt.itm_tuple (n := 5) (fun d hd => tI1 d (cutD_mem hd)) cutD_len).mono (by decide) (by decide)
    walk_at "rq"
    intro q17 H17 p17 s17 h17
    have X17 := X16.same s17
    have n17 : q17 ∉ [st, c, r] := by
      rcases p17 with rfl | h
      · exact X16.nT
      · exact X16.new h
    clear T16
    walk_at "rq"
    refine ⟨sz (by simp), fun l18 H18 n18 s18 g18 => ?_⟩
    have X18 := X17.same s18
    refine rd_catA X18.B.g g18 (sz (by simp; omega)) fun l19 H19 n19 s19 g19 => ?_
    have X19 := X18.same s19
    have X19 := X19.add (OkW.lst (SqL.of g19) (X18.new n19) (X19.B.d.append (.cons (.tup ((s18.trans s19).tupS h17) n17 (X19.dT.cut none (some 4))) .nil)) (appI hI2 (oneI tC)) (by rw [List.length_append]; simp at hDl ⊢; omega))
    have T19 := X19.T
    walk_at "rq"
    intro l20 H20 n20 s20 g20
    have X20 := X19.same s20
    clear T19
    walk_at "rq"
    refine ⟨sz (by simp), fun l21 H21 n21 s21 g21 => ?_⟩
    have X21 := X20.same s21
    refine rd_catA X21.B.g g21 (sz (by simp; omega)) fun l22 H22 n22 s22 g22 => ?_
    have X22 := X21.same s22
    have X22 := X22.add (OkW.lst (SqL.of g22) (X21.new n22) (X22.B.d.append (.cons (.lst (SqL.of ((s21.trans s22) _ _ g20)) (X19.new n20) X22.dT) .nil)) (appI hI2 (oneI ((Mt.itm_list (n := 5) tI1 (by simp)).mono (by decide) (by decide)))) (by rw [List.length_append]; simp at hDl ⊢; omega))
    walk_at "rq"
    refine ⟨sz (by simp), fun l23 H23 n23 s23 g23 => ?_⟩
    have X23 := X22.same s23
    have X23 := X23.add (v := .ref l23) ⟨.list [.list (lns.map Mt.lnD)], .lst (SqL.of g23) (X22.new n23) (.cons (.lst (SqL.of X23.B.g) X23.B.n X23.B.d) .nil), .inl ⟨_, _, Mt.itm_list (n := 1) (fun d hd => by simp only [List.mem_cons, List.not_mem_nil, or_false] at hd; subst hd; exact Mt.itm_list (n := 61) hI2 hDl) (by simp), by decide, by decide⟩, by simp [PyData.width]⟩
    walk_at "rq"
    refine ⟨sz (by simp), fun l24 H24 n24 s24 g24 => ?_⟩
    have X24 := X23.same s24
    have g16c := (s17.trans (s18.trans (s19.trans (s20.trans (s21.trans (s22.trans (s23.trans s24))))))) _ _ g16
    refine rd_catA g16c g24 (sz (by simp)) fun l25 H25 n25 s25 g25 => ?_
    have X25 := X24.same s25
    walk_at "rq"
    refine ⟨.inl ⟨rfl, _, SqL.of g25⟩, ?_⟩
    walk_at "rq"
    refine ⟨sz (by simp), fun t26 H26 n26 s26 g26 => ?_⟩
    have X26 := X25.same s26
    walk_at "rq"
    refine ⟨sz (by simp), fun l27 H27 n27 s27 g27 => ?_⟩
    have X27 := X26.same s27
    refine rd_catA X27.B.g g27 (sz (by simp; omega)) fun l28 H28 n28 s28 g28 => ?_
    have X28 := X27.same s28
    walk_at "rq"
    have n25_28 : l25 ≠ l28 := ne_of_none ((s26.trans s27) _ _ g25) n28
    have n25_26 : l25 ≠ t26 := ne_of_none g25 n26
    refine rd_append ((s26.trans (s27.trans s28)) _ _ g25) (small1000 (by simp)) ?_
    have s29 : Same H24 (upd H28 l25 (.lst (([V.ref l9, .ref l11, .ref h3, .ref t12, .non, .ref l14, .ref l15, .ref t] ++ [.ref l19, .ref l22, .ref l23]) ++ [.ref l28]))) := fun b u e => by
      rw [upd_ne (ne_of_none e n25)]; exact (s25.trans (s26.trans (s27.trans s28))) _ _ e
    have g29 : upd H28 l25 (.lst (([V.ref l9, .ref l11, .ref h3, .ref t12, .non, .ref l14, .ref l15, .ref t] ++ [.ref l19, .ref l22, .ref l23]) ++ [.ref l28])) l25 = some (.lst (([V.ref l9, .ref l11, .ref h3, .ref t12, .non, .ref l14, .ref l15, .ref t] ++ [.ref l19, .ref l22, .ref l23]) ++ [.ref l28])) := upd_same
    have g29a := Ext.one (p := l25) (o := .lst (([V.ref l9, .ref l11, .ref h3, .ref t12, .non, .ref l14, .ref l15, .ref t] ++ [.ref l19, .ref l22, .ref l23]) ++ [.ref l28])) g28 (Ne.symm n25_28)
    have g29b := Ext.one (p := l25) (o := .lst (([V.ref l9, .ref l11, .ref h3, .ref t12, .non, .ref l14, .ref l15, .ref t] ++ [.ref l19, .ref l22, .ref l23]) ++ [.ref l28])) ((s27.trans s28) _ _ g26) (Ne.symm n25_26)
    generalize upd H28 l25 (.lst (([V.ref l9, .ref l11, .ref h3, .ref t12, .non, .ref l14, .ref l15, .ref t] ++ [.ref l19, .ref l22, .ref l23]) ++ [.ref l28])) = H29 at s29 g29 g29a g29b ⊢
    have X29 := X24.same s29
    have nI : ∀ {i : Int}, -100000000000 ≤ i → i ≤ 100000000000 → Mt.Itm 140 0 (.int i) := fun h1 h2 => Mt.itm_small h1 h2
    have X29 := X29.add (OkW.lst (SqL.of g29a) (X27.new n28) (X29.B.d.append (.cons (.tup (SqT.of g29b) (X25.new n26) (.cons (.int _) (.cons (.int _) (.cons (.int _) (.cons (.int _) (.cons (.bl _) .nil)))))) .nil)) (appI hI2 (oneI ((Mt.itm_tuple (w := 140) (k := 0) (n := 5) (fun d hd => by
      simp only [List.mem_cons, List.not_mem_nil, or_false] at hd
      rcases hd with rfl | rfl | rfl | rfl | rfl
      · exact Mt.itm_int (by decide +kernel)
      · exact Mt.itm_int (by decide +kernel)
      · exact Mt.itm_int (by decide +kernel)
      · exact Mt.itm_int (by decide +kernel)
      · exact (Mt.itm_bool _).mono (by decide) (by decide)) (by simp)).mono (by decide) (by decide)))) (by rw [List.length_append]; simp at hDl ⊢; omega))
    clear X5 X6 X9 X10 X11 X12 X13 X14 X15 X16 X17 X18 X19 X20 X21 X22 X23 X25 X26 X27 X28 g9 g10 g11 h12 g13 g14 g15 g16 h17 g18 g19 g20 g21 g22 g23 g24 g16c g25 g26 g27 g28 g29a g29b s9 s10 s11 s12 s13 s14 s15 s16 s17 s18 s19 s20 s21 s22 s23 s24 s25 s26 s27 s28
    have T29 := X29.T2
    unfold Mt.lnV at T29
    walk_at "rq"
    refine ⟨sz (by simp), fun t30 H30 n30 s30 g30 => ?_⟩
    have X30 := X29.same s30
    clear T29
    walk_at "rq"
    refine ⟨sz (by simp), fun l31 H31 n31 s31 g31 => ?_⟩
    have X31 := X30.same s31
    refine rd_catA X31.B.g g31 (sz (by simp; omega)) fun l32 H32 n32 s32 g32 => ?_
    have X32 := X31.same s32
    have X32 := X32.add (OkW.lst (SqL.of g32) (X31.new n32) (X32.B.d.append (.cons (.tup (SqT.of ((s31.trans s32) _ _ g30)) (X29.new n30) (.cons (.int _) (.cons (.int _) (.cons (.int _) (.cons (.int _) (.cons (.bl _) .nil)))))) .nil)) (appI hI2 (oneI ((Mt.itm_tuple (w := 140) (k := 0) (n := 5) (fun d hd => by
      simp only [List.mem_cons, List.not_mem_nil, or_false] at hd
      rcases hd with rfl | rfl | rfl | rfl | rfl
      · exact nI (by omega) (by omega)
      · exact nI (by omega) (by omega)
      · exact nI (by omega) (by omega)
      · exact nI (by omega) (by omega)
      · exact (Mt.itm_bool _).mono (by decide) (by decide)) (by simp)).mono (by decide) (by decide)))) (by rw [List.length_append]; simp at hDl ⊢; omega))
    walk_at "rq"
    refine ⟨l, vs, rfl, ?_⟩
    walk_at "rq"
    refine ⟨rfl, SqL.of X32.B.g, fun l33 n33 => ?_⟩
    have s33 : Same H32 (upd H32 l33 (.lst vs.reverse)) := Same.upd n33
    have g33 : upd H32 l33 (.lst vs.reverse) l33 = some (.lst vs.reverse) := upd_same
    generalize upd H32 l33 (.lst vs.reverse) = H33 at s33 g33 ⊢
    have X33 := X32.same s33
    have X33 := X33.add (OkW.lst (SqL.of g33) (X32.new n33) X33.B.d.rev' (fun d hd => hI2 d (List.mem_reverse.mp hd)) (by rw [List.length_reverse]; omega))
    walk_at "rq"
    intro d34 H34 n34 s34 g34
    have X34 := X33.same s34
    have X34 := X34.add (v := .ref d34) ⟨.dict [], .dk0 g34 (X33.new n34), .inr rfl, by decide⟩
    walk_at "rq"
    refine ⟨sz (by simp), fun l35 H35 n35 s35 g35 => ?_⟩
    have X35 := X34.same s35
    refine rd_catA ((s30.trans (s31.trans (s32.trans (s33.trans (s34.trans s35))))) _ _ g29) g35 (sz (by simp)) fun l36 H36 n36 s36 g36 => ?_
    have X36 := X35.same s36
    have n36' := X35.new n36
    walk_at "rq"
    refine ⟨st, c, r, _, 3, rfl, X36.S, by omega, by decide, by decide, fun v37 H37 a37 b37 S37 x37 => ?_⟩
    have X37 := X36.take x37 S37
    have g37 := x37 _ _ g36 (nin_pr n36')
    clear X24 X29 X30 X31 X32 X33 X34 X35 X36 g30 g31 g32 g33 g34 g35 g36 s30 s31 s32 s33 s34 s35 s36
    walk_at "rq"
    refine rd_ite2 (fun hc => ?_) (fun hc => ?_)
    · walk_at "rq"
      refine ⟨st, c, r, _, 15, rfl, S37, by omega, by decide, by decide, fun v38 H38 a38 b38 S38 x38 => ?_⟩
      have X38 := X37.take x38 S38
      obtain ⟨j, rfl⟩ := Int.eq_ofNat_of_zero_le a38
      have hj : j < 15 := by omega
      have g38 := x38 _ _ g37 (nin_pr n36')
      refine rd_ixL (SqL.of g38) (atI_nat (List.getElem?_eq_getElem (by simpa using hj))) ?_
      refine k _ _ (X38.ok _ ?_) X38.B (S38.mono (by omega))
      have hmem := List.getElem_mem (l := ([V.ref l9, .ref l11, .ref h3, .ref t12, .non, .ref l14, .ref l15, .ref t] ++ [.ref l19, .ref l22, .ref l23]) ++ [.ref l28] ++ [.ref l32, .ref l33, .ref d34]) (n := j) (by simpa using hj)
      generalize (([V.ref l9, .ref l11, .ref h3, .ref t12, .non, .ref l14, .ref l15, .ref t] ++ [.ref l19, .ref l22, .ref l23]) ++ [.ref l28] ++ [.ref l32, .ref l33, .ref d34])[j]'(by simpa using hj) = u at hmem
      simp only [List.mem_append, List.mem_cons, List.not_mem_nil, or_false] at hmem ⊢
      grind
    · have T37 := X37.T
      walk_at "rq"
      intro q39 H39 p39 s39 h39
      have X39 := X37.same s39
      have n39 : q39 ∉ [st, c, r] := by
        rcases p39 with rfl | h
        · exact X37.nT
        · exact X37.new h
      obtain ⟨yv, ydv, ev, mv, hv⟩ := X39.dT.atI a6 (by simpa using b6)
      clear T37
      walk_at "rq"
      refine rd_ixT X39.T ev ?_
      walk_at "rq"
      refine ⟨st, c, r, _, _, _, t, _, _, rfl, X39.S, by omega, hv, tI1 _ mv, X39.T, X39.nT, X39.dT, tI1, rfl, fun y e H40 hy iy S40 x40 => ?_⟩
      have X40 := X39.take x40 S40
      walk_at "rq"
      refine ⟨sz (by simp), fun t41 H41 n41 s41 g41 => ?_⟩
      have X41 := X40.same s41
      have h39' := s41.tupS (x40.tup h39 (nin_pr n39))
      have d41 := X41.dT.cut none (some v6)
      have l41 := d41.length
      have k41 : (cutD [PyData.int X1.l, .int X1.h, Mt.optD X1.p, .int X1.f, .bool X1.b] none (some v6)).length ≤ 5 := cutD_len
      refine ⟨q39, t41, _, _, rfl, rfl, h39', SqT.of g41, sz (by simp; omega), fun q42 H42 p42 s42 h42 => ?_⟩
      have X42 := X41.same s42
      have n41' := X40.new n41
      have n42 : q42 ∉ [st, c, r] := by
        rcases p42 with rfl | rfl | h
        · exact n39
        · exact n41'
        · exact X41.new h
      have T42 := X42.T
      walk_at "rq"
      intro q43 H43 p43 s43 h43
      have X43 := X42.same s43
      have n43 : q43 ∉ [st, c, r] := by
        rcases p43 with rfl | h
        · exact X42.nT
        · exact X42.new h
      have d43 := X43.dT.cut (some (v6 + 1)) none
      have l43 := d43.length
      have k43 : (cutD [PyData.int X1.l, .int X1.h, Mt.optD X1.p, .int X1.f, .bool X1.b] (some (v6 + 1)) none).length ≤ 5 := cutD_len
      refine ⟨q42, q43, _, _, rfl, rfl, s43.tupS h42, h43, sz (by simp; omega), fun q44 H44 p44 s44 h44 => ?_⟩
      have X44 := X43.same s44
      have n44 : q44 ∉ [st, c, r] := by
        rcases p44 with rfl | rfl | h
        · exact n42
        · exact n43
        · exact X43.new h
      have y44 := (hy.ext (Ext.same (s41.trans (s42.trans (s43.trans s44)))))
      have d44 : Dt K [st, c, r] H44 (.ref q44) _ := .tup h44 n44 (((X44.dT.cut none (some v6)).append (.cons y44 .nil)).append (X44.dT.cut (some (v6 + 1)) none))
      have i44 : Mt.Itm 11011 3 (.tuple ((cutD [PyData.int X1.l, .int X1.h, Mt.optD X1.p, .int X1.f, .bool X1.b] none (some v6) ++ [e]) ++ cutD [PyData.int X1.l, .int X1.h, Mt.optD X1.p, .int X1.f, .bool X1.b] (some (v6 + 1)) none)) := by
        refine (Mt.itm_tuple (w := 1000) (k := 2) (n := 11) (fun d hd => ?_) (by simp only [List.length_append, List.length_singleton]; omega)).mono (by decide) (by decide)
        rcases List.mem_append.mp hd with hd | hd
        · rcases List.mem_append.mp hd with hd | hd
          · exact (tI1 d (cutD_mem hd)).mono (by decide) (by decide)
          · simp at hd; subst hd; exact iy
        · exact (tI1 d (cutD_mem hd)).mono (by decide) (by decide)
      clear T42 h39 h39' h42 h43 h44 X39 X40 X41 X42 X43
      have g44 := X44.B.g
      walk_at "rq"
      intro l45 H45 n45 s45 g45
      have X45 := X44.same s45
      clear g44
      walk_at "rq"
      refine ⟨sz (by simp), fun l46 H46 n46 s46 g46 => ?_⟩
      have X46 := X45.same s46
      refine rd_catA (s46 _ _ g45) g46 (sz (by have := cvl (lo := none) (hi := some (j1 : Int)); simp; omega)) fun l47 H47 n47 s47 g47 => ?_
      have X47 := X46.same s47
      have g47l := X47.B.g
      walk_at "rq"
      intro l48 H48 n48 s48 g48
      have X48 := X47.same s48
      clear g47l
      refine rd_catA (s48 _ _ g47) g48 (sz (by have := cvl (lo := none) (hi := some (j1 : Int)); have := cvl (lo := some ((j1 : Int) + 1)) (hi := none); simp; omega)) fun l49 H49 n49 s49 g49 => ?_
      have X49 := X48.same s49
      have d49 := d44.ext (Ext.same (s45.trans (s46.trans (s47.trans (s48.trans s49)))))
      refine k _ _ ?_ X49.B (X49.S.mono (by omega))
      have dd := ((X49.B.d.cut none (some (j1 : Int))).append (.cons d49 .nil)).append (X49.B.d.cut (some ((j1 : Int) + 1)) none)
      refine ⟨_, .lst (SqL.of g49) (X48.new n49) dd, .inl ⟨_, _, Mt.itm_mix (cutL (lo := none) (hi := some (j1 : Int))) (cutL (lo := some ((j1 : Int) + 1)) (hi := none)) (fun d hd => hI d (cutD_mem hd)) (fun d hd => hI d (cutD_mem hd)) i44, by decide, by decide⟩, ?_⟩
      simp only [PyData.width, List.length_append, List.length_singleton]
      have := cutL (lo := none) (hi := some (j1 : Int))
      have := cutL (lo := some ((j1 : Int) + 1)) (hi := none)
      omega

def sp_law_says (K : PySem.W.Frag) (a : Adr) : Sp := fun vs H Q _ => ∃ (M : List Addr) (m : Int) (x : V), vs = [.int m, x] ∧ 1 ≤ m ∧ m ≤ 8 ∧ OkW K M H x ∧ ∀ H', Same H H' → Q (.bl true) H'
theorem ok_law_says (T : Txt P K mg a) (G__law_right : FnOk P w K mg base CX0 3 a.f_law_right a.d_law_right ["_law_many", "_law_lines"] (sp_law_right K)) (G_right_lines : FnOk P w K mg base (CX1 P w) 5 a.f_right_lines a.d_right_lines ["houses", "lines"] (sp_right_lines K a)) : FnOk P w K mg base CX0 6 a.f_law_says a.d_law_says ["_law_many", "_law_lines"] (sp_law_says K a) := by
  refine T.F_law_says.ok sc_law_says (fun vs H Q E h => ?_) (fun cdv A outer s H vs Q E hr h => ?_)
  · obtain ⟨M, m, x, rfl, _⟩ := h; rfl
  · obtain ⟨M, m, x, rfl, m1, m8, ⟨d, hd, hi, hwd⟩, k⟩ := h
    obtain ⟨r1, r2, r3, r4⟩ : (sysModules ∈ M ∨ d.hasDict = false ∨ d = .dict []) ∧ d.showable = true ∧ d.depth ≤ 30 ∧ d.shown.length ≤ sizeLine := by
      rcases hi with ⟨w, kk, hi, hw, hk⟩ | rfl
      · have s := hi.shw hw hk
        exact ⟨.inr (.inl hi.nd), s.sh, s.dp, s.ln⟩
      · exact ⟨.inr (.inr rfl), Mt.shw_dict0.sh, Mt.shw_dict0.dp, Mt.shw_dict0.ln⟩
    refine exW ⟨_, (qss_cons (qs_set (i := 2) sc_law_says.nd rfl (Or.inl rfl) (qe_callB (cn_reprD hr) (by rfl) T.b_repr (by decide +kernel) (qa (pv 1 (by rfl) (by walk_at "vis") (by decide) (by decide)) qa_nil (by rfl)) (by decide) (by decide) (by rfl) (by rfl)) (by rfl) (by first | exact Or.inl rfl | exact Or.inr rfl))
      (qss_cons (qs_set (i := 3) sc_law_says.nd rfl (Or.inl rfl) (qe_callX G_right_lines (hr.mono (by decide)) (by rfl) T.m_right_lines T.k_right_lines T.bd_right_lines .nil px0 (qa (pv 0 (by rfl) (by walk_at "vis") (by decide) (by decide)) (qa (pv 1 (by rfl) (by walk_at "vis") (by decide) (by decide)) qa_nil (by rfl)) (by rfl)) (by decide) (by rfl) (by rfl)) (by rfl) (by first | exact Or.inl rfl | exact Or.inr rfl))
      (qss_one (qs_ret (pe_and (qe_callB cn_isi (by rfl) T.b_isinstance (by decide +kernel) (qa (pv 3 (by rfl) (by walk_at "vis") (by decide) (by decide)) (qa (pe_bltn (by rfl) T.b_bool (by decide +kernel) (v := .ty "bool") rfl (by decide) (by decide)) qa_nil (by rfl)) (by rfl)) (by decide) (by decide) (by rfl) (by rfl)) (pe_and (pe_cmpR op_eq (pv 3 (by rfl) (by walk_at "vis") (by decide) (by decide)) (qe_call G__law_right (hr.mono (by decide)) (by rfl) T.m__law_right T.k__law_right T.bd__law_right .nil pass0 (qa (pv 0 (by rfl) (by walk_at "vis") (by decide) (by decide)) (qa (pv 1 (by rfl) (by walk_at "vis") (by decide) (by decide)) qa_nil (by rfl)) (by rfl)) (by decide) (by rfl) (by rfl)) (nomark _)) (pe_one (pe_cmpR op_eq (qe_callB (cn_reprD hr) (by rfl) T.b_repr (by decide +kernel) (qa (pv 1 (by rfl) (by walk_at "vis") (by decide) (by decide)) qa_nil (by rfl)) (by decide) (by decide) (by rfl) (by rfl)) (pv 2 (by rfl) (by walk_at "vis") (by decide) (by decide)) (nomark _))))))))), ?_⟩
    try dsimp only [cxOf]
    walk_at "rq"
    refine rd_reprD hd r1 r2 r3 r4 ?_
    walk_at "rq"
    refine ⟨M, _, _, .int m, d, rfl, .int m, hd, fun m' e _ _ => ⟨hwd, fun H1 s1 => ?_⟩, fun z => by simp [Mt.withinD] at z; omega⟩
    cases e
    walk_at "rq"
    refine rd_isi (.bl _) (b := true) (subT_of (by simp) (by simp)) ?_
    walk_at "rq"
    refine ⟨M, m, x, d, rfl, hd.ext (Ext.same s1), m1, m8, hwd, fun H2 s2 => ?_⟩
    walk_at "rq"
    rw [show decide (V.bl (Mt.rightD m d) = V.bl (Mt.rightD m d)) = true from decide_eq_true rfl]
    walk_at "rq"
    refine rd_reprD (hd.ext (Ext.same (s1.trans s2))) r1 r2 r3 r4 ?_
    walk_at "rq"
    rw [show decide (V.str d.shown = V.str d.shown) = true from decide_eq_true rfl]
    exact k _ (s1.trans s2)

def sp_law_refused (K : PySem.W.Frag) (a : Adr) : Sp := fun vs H Q _ => ∃ (N : List Addr) (y x : V) (dy d : PyData), vs = [y, x] ∧ Dt K N H y dy ∧ Dt K N H x d ∧ Mt.withinD 1 8 dy = false ∧ ∀ H', Same H H' → Q (.bl true) H'
theorem ok_law_refused (T : Txt P K mg a) (G_right_lines : FnOk P w K mg base (CX1 P w) 5 a.f_right_lines a.d_right_lines ["houses", "lines"] (sp_right_lines K a)) : FnOk P w K mg base CX0 6 a.f_law_refused a.d_law_refused ["_law_many", "_law_lines"] (sp_law_refused K a) := by
  refine T.F_law_refused.ok sc_law_refused (fun vs H Q E h => ?_) (fun cdv A outer s H vs Q E hr h => ?_)
  · obtain ⟨N, y, x, dy, d, rfl, _⟩ := h; rfl
  · obtain ⟨N, y, x, dy, d, rfl, hy, hd, hw, k⟩ := h
    refine exW ⟨_, (qss_cons (qs_set (i := 2) sc_law_refused.nd rfl (Or.inl rfl) pe_non (by rfl) (by first | exact Or.inl rfl | exact Or.inr rfl))
      (qss_cons (qs_try (i := 3) (c := "LineError") sc_law_refused.nd rfl rfl (by rfl) T.mC_LineError rfl rfl rfl (fun _ _ XR hx =>
        (qss_one (qs_expr (qe_callX G_right_lines (hr.mono (by decide)) (by rfl) T.m_right_lines T.k_right_lines T.bd_right_lines .nil hx (qa (pv 0 (by rfl) (by walk_at "vis") (by decide) (by decide)) (qa (pv 1 (by rfl) (by walk_at "vis") (by decide) (by decide)) qa_nil (by rfl)) (by rfl)) (by decide) (by rfl) (by rfl)) (by rfl)))) (fun _ =>
        (qss_one (qs_set (i := 2) sc_law_refused.nd rfl (Or.inl rfl) (pv 3 (by rfl) (by walk_at "vis") (by decide) (by decide)) (by rfl) (by first | exact Or.inl rfl | exact Or.inr rfl)))) (by decide))
      (qss_cons (qs_if (pw_or (pt_not (pt_val (qe_callB cn_isiX (by rfl) T.b_isinstance (by decide +kernel) (qa (pv 2 (by rfl) (by walk_at "vis") (by decide) (by decide)) (qa (pe_glob (v := .ref a.C_NoCount) (by rfl) T.mC_NoCount rfl (by decide)) qa_nil (by rfl)) (by rfl)) (by decide) (by decide) (by rfl) (by rfl)) (by intro _; rfl))) (pw_or (pt_not (pt_val (qe_callB cn_isiX (by rfl) T.b_isinstance (by decide +kernel) (qa (pv 2 (by rfl) (by walk_at "vis") (by decide) (by decide)) (qa (pe_bltn (by rfl) T.b_ValueError (by decide +kernel) (v := .ty "ValueError") rfl (by decide) (by decide)) qa_nil (by rfl)) (by rfl)) (by decide) (by decide) (by rfl) (by rfl)) (by intro _; rfl))) (pw_or1 (pt_cmpR op_ne (pe_xat (pv 2 (by rfl) (by walk_at "vis") (by decide) (by decide)) (by rfl)) pe_str (nomark _))))).pt
        (qss_one (qs_ret pe_bl))
        qss_nil)
      (qss_one (qs_ret (pe_not (qe_callB cn_isiT (by rfl) T.b_isinstance (by decide +kernel) (qa (pv 2 (by rfl) (by walk_at "vis") (by decide) (by decide)) (qa (qe_tup (qa (pe_glob (v := .ref a.C_NoHouse) (by rfl) T.mC_NoHouse rfl (by decide)) (qa (pe_glob (v := .ref a.C_NoPlace) (by rfl) T.mC_NoPlace rfl (by decide)) (qa (pe_glob (v := .ref a.C_NoRule) (by rfl) T.mC_NoRule rfl (by decide)) qa_nil (by rfl)) (by rfl)) (by rfl))) qa_nil (by rfl)) (by rfl)) (by decide) (by decide) (by rfl) (by rfl)))))))), ?_⟩
    try dsimp only [cxOf]
    walk_at "rd"
    refine ⟨N, _, _, dy, d, rfl, hy, hd, fun m e m1 m8 => by subst e; simp [Mt.withinD] at hw; omega, fun _ dx hdx => ⟨T.ex_NoCount_LineError, fun ee he0 => ?_⟩⟩
    walk_at "rd"
    have nx : dx ≠ ee := fun z => by rw [z, upd_same] at he0; cases he0
    have s2 : Same H (upd (upd H dx (.xd [("what", .str "houses")])) ee (.ext (ExcIs ee (.ref a.C_NoCount) (some dx)))) := (Same.upd hdx).trans (Same.upd he0)
    have ex : upd (upd H dx (.xd [("what", .str "houses")])) ee (.ext (ExcIs ee (.ref a.C_NoCount) (some dx))) ee = some (.ext (ExcIs ee (.ref a.C_NoCount) (some dx))) := upd_same
    have ed : upd (upd H dx (.xd [("what", .str "houses")])) ee (.ext (ExcIs ee (.ref a.C_NoCount) (some dx))) dx = some (.xd [("what", .str "houses")]) := by rw [upd_ne nx]; exact upd_same
    generalize upd (upd H dx (.xd [("what", .str "houses")])) ee (.ext (ExcIs ee (.ref a.C_NoCount) (some dx))) = H2 at s2 ex ed ⊢
    have ty : ∀ {H3 : Hp}, Same H2 H3 → TyX K H3 (.ref ee) (.ref a.C_NoCount) := fun s => .exc (s _ _ ex) T.xg_NoCount
    walk_at "rd"
    refine rd_isiX (ty (Same.refl _)) rfl T.is_NoCount_NoCount ?_
    walk_at "rd"
    refine rd_isiX (ty (Same.refl _)) rfl T.is_NoCount_ValueError ?_
    walk_at "rd"
    refine ⟨ee, _, dx, _, .str "houses", _, rfl, ex, T.xg_NoCount, T.Z_NoCount.xc, T.Z_NoCount.x1.no, ed, rfl, ?_⟩
    walk_at "rd"
    refine ⟨sz (by simp), fun t nt => ?_⟩
    walk_at "rd"
    refine rd_isiT (cs := [a.C_NoHouse, a.C_NoPlace, a.C_NoRule]) (ty (Same.upd nt)) (SqT.of upd_same) (kitAnyF T.is_NoCount_NoHouse (kitAnyF T.is_NoCount_NoPlace (kitAnyF T.is_NoCount_NoRule kitAny0))) ?_
    walk_at "rd"
    exact k _ (s2.trans (Same.upd nt))

def sp_law (K : PySem.W.Frag) : Sp := fun vs H Q _ => ∃ (p : Addr) (ns : List Int), vs = [.ref p] ∧ SqL K H p (ns.map V.int) ∧ ns.length ≤ 63 ∧ ∀ H', Q (.bl true) H'
theorem ok_law (T : Txt P K mg a) (G__law_bent : FnOk P w K mg base CX0 3 a.f_law_bent a.d_law_bent ["_law_deck_here", "_law_lines"] (sp_law_bent K)) (G__law_deck : FnOk P w K mg base CX0 1 a.f_law_deck a.d_law_deck ["_law_script"] (sp_law_deck K)) (G__law_made : FnOk P w K mg base CX0 2 a.f_law_made a.d_law_made ["_law_deck_here", "_law_many"] (sp_law_made K)) (G__law_refused : FnOk P w K mg base CX0 6 a.f_law_refused a.d_law_refused ["_law_many", "_law_lines"] (sp_law_refused K a)) (G__law_says : FnOk P w K mg base CX0 6 a.f_law_says a.d_law_says ["_law_many", "_law_lines"] (sp_law_says K a)) (G__law_take : FnOk P w K mg base CX0 1 a.f_law_take a.d_law_take ["_law_deck_here", "_law_many"] (sp_law_take K)) (G_right_lines : FnOk P w K mg base (CX1 P w) 5 a.f_right_lines a.d_right_lines ["houses", "lines"] (sp_right_lines K a)) : FnOk P w K mg base CX0 7 a.f_law a.d_law ["_law_script"] (sp_law K) := by
  refine T.F_law.ok sc_law (fun vs H Q E h => ?_) (fun cdv A outer s H vs Q E hr h => ?_)
  · obtain ⟨p, ns, rfl, _⟩ := h; rfl
  · obtain ⟨p, ns, rfl, hq, hl, k⟩ := h
    refine exW ⟨_, (qss_cons (qs_set (i := 1) sc_law.nd rfl (Or.inl rfl) (qe_call G__law_deck (hr.mono (by decide)) (by rfl) T.m__law_deck T.k__law_deck T.bd__law_deck .nil pass0 (qa (pv 0 (by rfl) (by walk_at "vis") (by decide) (by decide)) qa_nil (by rfl)) (by decide) (by rfl) (by rfl)) (by rfl) (by first | exact Or.inl rfl | exact Or.inr rfl))
      (qss_cons (qs_set (i := 2) sc_law.nd rfl (Or.inl rfl) (pe_op op_add pe_int (qe_call G__law_take (hr.mono (by decide)) (by rfl) T.m__law_take T.k__law_take T.bd__law_take .nil pass0 (qa (pv 1 (by rfl) (by walk_at "vis") (by decide) (by decide)) (qa pe_int qa_nil (by rfl)) (by rfl)) (by decide) (by rfl) (by rfl))) (by rfl) (by first | exact Or.inl rfl | exact Or.inr rfl))
      (qss_cons (qs_set (i := 3) sc_law.nd rfl (Or.inl rfl) (qe_call G__law_made (hr.mono (by decide)) (by rfl) T.m__law_made T.k__law_made T.bd__law_made .nil pass0 (qa (pv 1 (by rfl) (by walk_at "vis") (by decide) (by decide)) (qa (pv 2 (by rfl) (by walk_at "vis") (by decide) (by decide)) qa_nil (by rfl)) (by rfl)) (by decide) (by rfl) (by rfl)) (by rfl) (by first | exact Or.inl rfl | exact Or.inr rfl))
      (qss_cons (qs_if (pt_cmpR on_isnB (qe_callX G_right_lines (hr.mono (by decide)) (by rfl) T.m_right_lines T.k_right_lines T.bd_right_lines .nil px0 (qa (pv 2 (by rfl) (by walk_at "vis") (by decide) (by decide)) (qa (pv 3 (by rfl) (by walk_at "vis") (by decide) (by decide)) qa_nil (by rfl)) (by rfl)) (by decide) (by rfl) (by rfl)) pe_bl (nomark _))
        (qss_one (qs_ret pe_bl))
        qss_nil)
      (qss_cons (qs_for PassesOwn.never rfl (qi_range1 (by rfl) T.b_range (qa pe_int qa_nil (by rfl)) (by rfl)) (pg_name (i := 4) sc_law.nd rfl (Or.inl rfl) (by first | exact Or.inl rfl | exact Or.inr rfl))
        (qss_one (qs_if (pt_not (pt_val (qe_call G__law_says (hr.mono (by decide)) (by rfl) T.m__law_says T.k__law_says T.bd__law_says .nil pass0 (qa (pv 2 (by rfl) (by walk_at "vis") (by decide) (by decide)) (qa (qe_call G__law_bent (hr.mono (by decide)) (by rfl) T.m__law_bent T.k__law_bent T.bd__law_bent .nil pass0 (qa (pv 1 (by rfl) (by walk_at "vis") (by decide) (by decide)) (qa (pv 3 (by rfl) (by walk_at "vis") (by decide) (by decide)) qa_nil (by rfl)) (by rfl)) (by decide) (by rfl) (by rfl)) qa_nil (by rfl)) (by rfl)) (by decide) (by rfl) (by rfl)) (by intro _; rfl)))
          (qss_one (qs_ret pe_bl))
          qss_nil)) (by intro _; rfl))
      (qss_cons (qs_set (i := 5) sc_law.nd rfl (Or.inl rfl) (pe_ix ix_list (qe_lstA (qa pe_int (qa pe_int (qa (by exact (pe_un un_neg pe_int)) (qa (by exact (pe_op op_pow pe_int pe_int)) (qa pe_bl (qa pe_non (qa pe_str (qa (by exact (qe_tupA (qa pe_int qa_nil (by rfl)))) qa_nil (by rfl)) (by rfl)) (by rfl)) (by rfl)) (by rfl)) (by rfl)) (by rfl)) (by rfl))) (qe_call G__law_take (hr.mono (by decide)) (by rfl) T.m__law_take T.k__law_take T.bd__law_take .nil pass0 (qa (pv 1 (by rfl) (by walk_at "vis") (by decide) (by decide)) (qa pe_int qa_nil (by rfl)) (by rfl)) (by decide) (by rfl) (by rfl)) (fun _ _ => rfl)) (by rfl) (by first | exact Or.inl rfl | exact Or.inr rfl))
      (qss_cons (qs_if (pt_not (pt_val (qe_call G__law_refused (hr.mono (by decide)) (by rfl) T.m__law_refused T.k__law_refused T.bd__law_refused .nil pass0 (qa (pv 5 (by rfl) (by walk_at "vis") (by decide) (by decide)) (qa (pe_ix ix_list (qe_lstA (qa (pv 3 (by rfl) (by walk_at "vis") (by decide) (by decide)) (qa pe_non qa_nil (by rfl)) (by rfl))) (qe_call G__law_take (hr.mono (by decide)) (by rfl) T.m__law_take T.k__law_take T.bd__law_take .nil pass0 (qa (pv 1 (by rfl) (by walk_at "vis") (by decide) (by decide)) (qa pe_int qa_nil (by rfl)) (by rfl)) (by decide) (by rfl) (by rfl)) (fun _ _ => rfl)) qa_nil (by rfl)) (by rfl)) (by decide) (by rfl) (by rfl)) (by intro _; rfl)))
        (qss_one (qs_ret pe_bl))
        qss_nil)
      (qss_one (qs_ret (pe_and (qe_call G__law_says (hr.mono (by decide)) (by rfl) T.m__law_says T.k__law_says T.bd__law_says .nil pass0 (qa (pe_op op_add pe_int (qe_call G__law_take (hr.mono (by decide)) (by rfl) T.m__law_take T.k__law_take T.bd__law_take .nil pass0 (qa (pv 1 (by rfl) (by walk_at "vis") (by decide) (by decide)) (qa pe_int qa_nil (by rfl)) (by rfl)) (by decide) (by rfl) (by rfl))) (qa (pv 3 (by rfl) (by walk_at "vis") (by decide) (by decide)) qa_nil (by rfl)) (by rfl)) (by decide) (by rfl) (by rfl)) (pe_one (qe_call G__law_says (hr.mono (by decide)) (by rfl) T.m__law_says T.k__law_says T.bd__law_says .nil pass0 (qa (pv 2 (by rfl) (by walk_at "vis") (by decide) (by decide)) (qa (pv 3 (by rfl) (by walk_at "vis") (by decide) (by decide)) qa_nil (by rfl)) (by rfl)) (by decide) (by rfl) (by rfl))))))))))))), ?_⟩
    try dsimp only [cxOf]
    walk_at "rq"
    refine ⟨p, ns, rfl, hq, hl, fun st c r H1 S1 s1 n1 => ?_⟩
    walk_at "rq"
    refine ⟨st, c, r, _, 8, rfl, S1, by omega, by decide, by decide, fun v1 H2 a1 b1 S2 x2 => ?_⟩
    walk_at "rq"
    refine ⟨st, c, r, _, _, rfl, S2, by omega, by omega, by omega, fun l vs lns H3 B3 ok S3 => ?_⟩
    have w2 := ok.len
    have hI := ok.itm (by decide)
    have hI2 : ∀ d ∈ lns.map Mt.lnD, Mt.Itm 2000 3 d := fun d hd => (hI d hd).mono (by decide) (by decide)
    have hDl : (lns.map Mt.lnD).length ≤ 61 := by rw [List.length_map]; omega
    have okL : ∀ {H' : Hp}, BC K [st, c, r] H' l vs (lns.map Mt.lnD) → OkW K [st, c, r] H' (.ref l) := fun B => OkW.lst (SqL.of B.g) B.n B.d hI2 (by omega)
    walk_at "rq"
    refine ⟨[st, c, r], _, _, .int (1 + v1), .list (lns.map Mt.lnD), rfl, .int _, .lst (SqL.of B3.g) B3.n B3.d, fun m' e _ _ => ⟨by simp only [PyData.width]; omega, fun H4 s4 => ?_⟩, fun z => by simp [Mt.withinD] at z; omega⟩
    cases e
    rw [ok.right]
    have B4 := B3.ext (Ext.same s4)
    have S4 := S3.same s4
    walk_at "rq"
    refine ⟨by decide, by decide, ?_⟩
    refine for_rangeW (fun i σ' H' => ∃ o4 o5 : Option V, σ' = [some (.ref p), some (.ref st), some (.int (1 + v1)), some (.ref l), o4, o5] ∧ BC K [st, c, r] H' l vs (lns.map Mt.lnD) ∧ Dk H' st c r (2000 + 20 * i)) ?_ ?_ ?_
    · exact ⟨none, none, rfl, B4, S4.mono (by omega)⟩
    · rintro i σ' H5 hi ⟨o4, o5, rfl, B5, S5⟩
      have hi12 : i < 12 := hi
      walk_at "rq"
      refine ⟨st, c, r, _, l, vs, lns, _, rfl, S5, by omega, B5, ok, fun x H6 okx B6 S6 => ?_⟩
      walk_at "rq"
      refine ⟨[st, c, r], _, _, rfl, by omega, by omega, okx, fun H7 s7 => ?_⟩
      walk_at "rq"
      exact ⟨_, _, rfl, B6.ext (Ext.same s7), (S6.same s7).mono (by omega)⟩
    · rintro σ' H5 ⟨o4, o5, rfl, B5, S5⟩
      walk_at "rq"
      refine ⟨sz (by simp), fun t6 H6 n6 s6 g6 => ?_⟩
      have B6 := B5.ext (Ext.same s6)
      have S6 := S5.same s6
      have nt6 := S5.new n6
      walk_at "rq"
      refine ⟨sz (by simp), fun l7 H7 n7 s7 g7 => ?_⟩
      have B7 := B6.ext (Ext.same s7)
      have S7 := S6.same s7
      have nl7 := S6.new n7
      walk_at "rq"
      refine ⟨st, c, r, _, 8, rfl, S7, by omega, by decide, by decide, fun v8 H8 a8 b8 S8 x8 => ?_⟩
      have B8 := B7.ext x8.up3
      have g68 := x8 _ _ (s7 _ _ g6) (nin_pr nt6)
      obtain ⟨j, rfl⟩ := Int.eq_ofNat_of_zero_le a8
      have hj : j < 8 := by omega
      obtain ⟨y, dy, ey, hy, hw⟩ : ∃ (y : V) (dy : PyData), atI ([.int 0, .int 9, .int (-1), .int (10 ^ (40 : Int).toNat), .bl true, .non, .str "1", .ref t6] : List V) (j : Int) = some y ∧ Dt K [st, c, r] H8 y dy ∧ Mt.withinD 1 8 dy = false := by
        match j, hj with
        | 0, _ => exact ⟨_, _, rfl, .int _, rfl⟩
        | 1, _ => exact ⟨_, _, rfl, .int _, rfl⟩
        | 2, _ => exact ⟨_, _, rfl, .int _, rfl⟩
        | 3, _ => exact ⟨_, _, rfl, .int _, by decide +kernel⟩
        | 4, _ => exact ⟨_, _, rfl, .bl _, rfl⟩
        | 5, _ => exact ⟨_, _, rfl, .non, rfl⟩
        | 6, _ => exact ⟨_, _, rfl, .str _, rfl⟩
        | 7, _ => exact ⟨_, _, rfl, .tup (SqT.of g68) nt6 (.cons (.int _) .nil), rfl⟩
      refine rd_ixL (SqL.of (x8 _ _ g7 (nin_pr nl7))) ey ?_
      walk_at "rq"
      refine ⟨sz (by simp), fun l9 H9 n9 s9 g9 => ?_⟩
      have B9 := B8.ext (Ext.same s9)
      have S9 := S8.same s9
      have nl9 := S8.new n9
      walk_at "rq"
      refine ⟨st, c, r, _, 2, rfl, S9, by omega, by decide, by decide, fun v10 H10 a10 b10 S10 x10 => ?_⟩
      have B10 := B9.ext x10.up3
      obtain ⟨z, ez, hz⟩ := at2D a10 b10 (.ref l) .non
      refine rd_ixL (SqL.of (x10 _ _ g9 (nin_pr nl9))) ez ?_
      walk_at "rq"
      obtain ⟨dz, hdz⟩ : ∃ d, Dt K [st, c, r] H10 z d := by
        rcases hz with rfl | rfl
        · exact ⟨_, .lst (SqL.of B10.g) B10.n B10.d⟩
        · exact ⟨_, .non⟩
      refine ⟨[st, c, r], _, _, _, _, rfl, hy.ext ((Ext.same s9).trans x10.up3), hdz, hw, fun H11 s11 => ?_⟩
      have B11 := B10.ext (Ext.same s11)
      have S11 := S10.same s11
      walk_at "rq"
      refine ⟨st, c, r, _, 8, rfl, S11, by omega, by decide, by decide, fun v12 H12 a12 b12 S12 x12 => ?_⟩
      have B12 := B11.ext x12.up3
      walk_at "rq"
      refine ⟨[st, c, r], _, _, rfl, by omega, by omega, okL B12, fun H13 s13 => ?_⟩
      have B13 := B12.ext (Ext.same s13)
      walk_at "rq"
      exact ⟨[st, c, r], _, _, rfl, by omega, by omega, okL B13, fun H14 s14 => k _⟩

end
theorem txt_mk {P : Program} {K : PySem.W.Frag} {h : Heap} {mg : Str → Option Value} (X : K.In h) (G : h.Ns mainGlobals mg)
    {f_is_number : Addr} {od_is_number an_is_number : Option Addr} {sl_is_number : Array (Option Value)} {oc_is_number kV_is_number dc_is_number pm_is_number cd_is_number ct_is_number : Value}
    {f_is_within : Addr} {od_is_within an_is_within : Option Addr} {sl_is_within : Array (Option Value)} {oc_is_within kV_is_within dc_is_within pm_is_within cd_is_within ct_is_within : Value}
    {f_require_within : Addr} {od_require_within an_require_within : Option Addr} {sl_require_within : Array (Option Value)} {oc_require_within kV_require_within dc_require_within pm_require_within cd_require_within ct_require_within : Value}
    {f_is_place : Addr} {od_is_place an_is_place : Option Addr} {sl_is_place : Array (Option Value)} {oc_is_place kV_is_place dc_is_place pm_is_place cd_is_place ct_is_place : Value}
    {f_is_line : Addr} {od_is_line an_is_line : Option Addr} {sl_is_line : Array (Option Value)} {oc_is_line kV_is_line dc_is_line pm_is_line cd_is_line ct_is_line : Value}
    {f_may_begin : Addr} {od_may_begin an_may_begin : Option Addr} {sl_may_begin : Array (Option Value)} {oc_may_begin kV_may_begin dc_may_begin pm_may_begin cd_may_begin ct_may_begin : Value}
    {f_is_first_line : Addr} {od_is_first_line an_is_first_line : Option Addr} {sl_is_first_line : Array (Option Value)} {oc_is_first_line kV_is_first_line dc_is_first_line pm_is_first_line cd_is_first_line ct_is_first_line : Value}
    {f_is_later_line : Addr} {od_is_later_line an_is_later_line : Option Addr} {sl_is_later_line : Array (Option Value)} {oc_is_later_line kV_is_later_line dc_is_later_line pm_is_later_line cd_is_later_line ct_is_later_line : Value}
    {f_right_lines : Addr} {od_right_lines an_right_lines : Option Addr} {sl_right_lines : Array (Option Value)} {oc_right_lines kV_right_lines dc_right_lines pm_right_lines cd_right_lines ct_right_lines : Value}
    {f_law_deck : Addr} {od_law_deck an_law_deck : Option Addr} {sl_law_deck : Array (Option Value)} {oc_law_deck kV_law_deck dc_law_deck pm_law_deck cd_law_deck ct_law_deck : Value}
    {f_law_take : Addr} {od_law_take an_law_take : Option Addr} {sl_law_take : Array (Option Value)} {oc_law_take kV_law_take dc_law_take pm_law_take cd_law_take ct_law_take : Value}
    {f_law_from : Addr} {od_law_from an_law_from : Option Addr} {sl_law_from : Array (Option Value)} {oc_law_from kV_law_from dc_law_from pm_law_from cd_law_from ct_law_from : Value}
    {f_law_is_line : Addr} {od_law_is_line an_law_is_line : Option Addr} {sl_law_is_line : Array (Option Value)} {oc_law_is_line kV_law_is_line dc_law_is_line pm_law_is_line cd_law_is_line ct_law_is_line : Value}
    {f_law_right : Addr} {od_law_right an_law_right : Option Addr} {sl_law_right : Array (Option Value)} {oc_law_right kV_law_right dc_law_right pm_law_right cd_law_right ct_law_right : Value}
    {f_law_made : Addr} {od_law_made an_law_made : Option Addr} {sl_law_made : Array (Option Value)} {oc_law_made kV_law_made dc_law_made pm_law_made cd_law_made ct_law_made : Value}
    {f_law_odd : Addr} {od_law_odd an_law_odd : Option Addr} {sl_law_odd : Array (Option Value)} {oc_law_odd kV_law_odd dc_law_odd pm_law_odd cd_law_odd ct_law_odd : Value}
    {f_law_bent : Addr} {od_law_bent an_law_bent : Option Addr} {sl_law_bent : Array (Option Value)} {oc_law_bent kV_law_bent dc_law_bent pm_law_bent cd_law_bent ct_law_bent : Value}
    {f_law_says : Addr} {od_law_says an_law_says : Option Addr} {sl_law_says : Array (Option Value)} {oc_law_says kV_law_says dc_law_says pm_law_says cd_law_says ct_law_says : Value}
    {f_law_refused : Addr} {od_law_refused an_law_refused : Option Addr} {sl_law_refused : Array (Option Value)} {oc_law_refused kV_law_refused dc_law_refused pm_law_refused cd_law_refused ct_law_refused : Value}
    {f_law : Addr} {od_law an_law : Option Addr} {sl_law : Array (Option Value)} {oc_law kV_law dc_law pm_law cd_law ct_law : Value}
    {C_LineError : Addr}
    {C_NoCount : Addr}
    {C_NoHouse : Addr}
    {C_NoPlace : Addr}
    {C_NoRule : Addr}
    {I_NoCount cda_NoCount cc_NoCount : Addr} {oJ_NoCount aJ_NoCount oK_NoCount oL_NoCount : Option Addr} {sJ_NoCount sK_NoCount sL_NoCount : Array (Option Value)} {kJ_NoCount dJ_NoCount pJ_NoCount tJ_NoCount cK_NoCount cL_NoCount : Value} {vK_NoCount : Array Value} {fi_NoCount : Str} {ti_NoCount : Tok}
    {p_FIRST_LINE : Addr} {od_FIRST_LINE : Option Addr} {n_FIRST_LINE : Nat} {sl_FIRST_LINE : Array (Option Value)} {t1_FIRST_LINE t2_FIRST_LINE t4_FIRST_LINE : Tok}
    {u_HOUSES : Value}
    {u_LAST_LINE : Value}
    {u_LAST_PLACE : Value}
    (a_is_number : PySem.W.nsIn K mainGlobals "is_number" = some (some (.ref f_is_number)))
    (l_is_number : K.lookup f_is_number = some ⟨oc_is_number, od_is_number, .func (PySem.W.fnOf "is_number" "is_number" (defArgs s_is_number) (defBody s_is_number) (defScope s_is_number) .none kV_is_number dc_is_number pm_is_number an_is_number cd_is_number ct_is_number), sl_is_number⟩)
    (c_is_number : PySem.W.codeIn K cd_is_number "is_number" = true)
    (k_is_number : PySem.W.keepIn K (.ref f_is_number) = true)
    (a_is_within : PySem.W.nsIn K mainGlobals "is_within" = some (some (.ref f_is_within)))
    (l_is_within : K.lookup f_is_within = some ⟨oc_is_within, od_is_within, .func (PySem.W.fnOf "is_within" "is_within" (defArgs s_is_within) (defBody s_is_within) (defScope s_is_within) .none kV_is_within dc_is_within pm_is_within an_is_within cd_is_within ct_is_within), sl_is_within⟩)
    (c_is_within : PySem.W.codeIn K cd_is_within "is_within" = true)
    (k_is_within : PySem.W.keepIn K (.ref f_is_within) = true)
    (a_require_within : PySem.W.nsIn K mainGlobals "require_within" = some (some (.ref f_require_within)))
    (l_require_within : K.lookup f_require_within = some ⟨oc_require_within, od_require_within, .func (PySem.W.fnOf "require_within" "require_within" (defArgs s_require_within) (defBody s_require_within) (defScope s_require_within) .none kV_require_within dc_require_within pm_require_within an_require_within cd_require_within ct_require_within), sl_require_within⟩)
    (c_require_within : PySem.W.codeIn K cd_require_within "require_within" = true)
    (k_require_within : PySem.W.keepIn K (.ref f_require_within) = true)
    (a_is_place : PySem.W.nsIn K mainGlobals "is_place" = some (some (.ref f_is_place)))
    (l_is_place : K.lookup f_is_place = some ⟨oc_is_place, od_is_place, .func (PySem.W.fnOf "is_place" "is_place" (defArgs s_is_place) (defBody s_is_place) (defScope s_is_place) .none kV_is_place dc_is_place pm_is_place an_is_place cd_is_place ct_is_place), sl_is_place⟩)
    (c_is_place : PySem.W.codeIn K cd_is_place "is_place" = true)
    (k_is_place : PySem.W.keepIn K (.ref f_is_place) = true)
    (a_is_line : PySem.W.nsIn K mainGlobals "is_line" = some (some (.ref f_is_line)))
    (l_is_line : K.lookup f_is_line = some ⟨oc_is_line, od_is_line, .func (PySem.W.fnOf "is_line" "is_line" (defArgs s_is_line) (defBody s_is_line) (defScope s_is_line) .none kV_is_line dc_is_line pm_is_line an_is_line cd_is_line ct_is_line), sl_is_line⟩)
    (c_is_line : PySem.W.codeIn K cd_is_line "is_line" = true)
    (k_is_line : PySem.W.keepIn K (.ref f_is_line) = true)
    (a_may_begin : PySem.W.nsIn K mainGlobals "may_begin" = some (some (.ref f_may_begin)))
    (l_may_begin : K.lookup f_may_begin = some ⟨oc_may_begin, od_may_begin, .func (PySem.W.fnOf "may_begin" "may_begin" (defArgs s_may_begin) (defBody s_may_begin) (defScope s_may_begin) .none kV_may_begin dc_may_begin pm_may_begin an_may_begin cd_may_begin ct_may_begin), sl_may_begin⟩)
    (c_may_begin : PySem.W.codeIn K cd_may_begin "may_begin" = true)
    (k_may_begin : PySem.W.keepIn K (.ref f_may_begin) = true)
    (a_is_first_line : PySem.W.nsIn K mainGlobals "is_first_line" = some (some (.ref f_is_first_line)))
    (l_is_first_line : K.lookup f_is_first_line = some ⟨oc_is_first_line, od_is_first_line, .func (PySem.W.fnOf "is_first_line" "is_first_line" (defArgs s_is_first_line) (defBody s_is_first_line) (defScope s_is_first_line) .none kV_is_first_line dc_is_first_line pm_is_first_line an_is_first_line cd_is_first_line ct_is_first_line), sl_is_first_line⟩)
    (c_is_first_line : PySem.W.codeIn K cd_is_first_line "is_first_line" = true)
    (k_is_first_line : PySem.W.keepIn K (.ref f_is_first_line) = true)
    (a_is_later_line : PySem.W.nsIn K mainGlobals "is_later_line" = some (some (.ref f_is_later_line)))
    (l_is_later_line : K.lookup f_is_later_line = some ⟨oc_is_later_line, od_is_later_line, .func (PySem.W.fnOf "is_later_line" "is_later_line" (defArgs s_is_later_line) (defBody s_is_later_line) (defScope s_is_later_line) .none kV_is_later_line dc_is_later_line pm_is_later_line an_is_later_line cd_is_later_line ct_is_later_line), sl_is_later_line⟩)
    (c_is_later_line : PySem.W.codeIn K cd_is_later_line "is_later_line" = true)
    (k_is_later_line : PySem.W.keepIn K (.ref f_is_later_line) = true)
    (a_right_lines : PySem.W.nsIn K mainGlobals "right_lines" = some (some (.ref f_right_lines)))
    (l_right_lines : K.lookup f_right_lines = some ⟨oc_right_lines, od_right_lines, .func (PySem.W.fnOf "right_lines" "right_lines" (defArgs s_right_lines) (defBody s_right_lines) (defScope s_right_lines) .none kV_right_lines dc_right_lines pm_right_lines an_right_lines cd_right_lines ct_right_lines), sl_right_lines⟩)
    (c_right_lines : PySem.W.codeIn K cd_right_lines "right_lines" = true)
    (k_right_lines : PySem.W.keepIn K (.ref f_right_lines) = true)
    (a_law_deck : PySem.W.nsIn K mainGlobals "_law_deck" = some (some (.ref f_law_deck)))
    (l_law_deck : K.lookup f_law_deck = some ⟨oc_law_deck, od_law_deck, .func (PySem.W.fnOf "_law_deck" "_law_deck" (defArgs s_law_deck) (defBody s_law_deck) (defScope s_law_deck) .none kV_law_deck dc_law_deck pm_law_deck an_law_deck cd_law_deck ct_law_deck), sl_law_deck⟩)
    (c_law_deck : PySem.W.codeIn K cd_law_deck "_law_deck" = true)
    (k_law_deck : PySem.W.keepIn K (.ref f_law_deck) = true)
    (a_law_take : PySem.W.nsIn K mainGlobals "_law_take" = some (some (.ref f_law_take)))
    (l_law_take : K.lookup f_law_take = some ⟨oc_law_take, od_law_take, .func (PySem.W.fnOf "_law_take" "_law_take" (defArgs s_law_take) (defBody s_law_take) (defScope s_law_take) .none kV_law_take dc_law_take pm_law_take an_law_take cd_law_take ct_law_take), sl_law_take⟩)
    (c_law_take : PySem.W.codeIn K cd_law_take "_law_take" = true)
    (k_law_take : PySem.W.keepIn K (.ref f_law_take) = true)
    (a_law_from : PySem.W.nsIn K mainGlobals "_law_from" = some (some (.ref f_law_from)))
    (l_law_from : K.lookup f_law_from = some ⟨oc_law_from, od_law_from, .func (PySem.W.fnOf "_law_from" "_law_from" (defArgs s_law_from) (defBody s_law_from) (defScope s_law_from) .none kV_law_from dc_law_from pm_law_from an_law_from cd_law_from ct_law_from), sl_law_from⟩)
    (c_law_from : PySem.W.codeIn K cd_law_from "_law_from" = true)
    (k_law_from : PySem.W.keepIn K (.ref f_law_from) = true)
    (a_law_is_line : PySem.W.nsIn K mainGlobals "_law_is_line" = some (some (.ref f_law_is_line)))
    (l_law_is_line : K.lookup f_law_is_line = some ⟨oc_law_is_line, od_law_is_line, .func (PySem.W.fnOf "_law_is_line" "_law_is_line" (defArgs s_law_is_line) (defBody s_law_is_line) (defScope s_law_is_line) .none kV_law_is_line dc_law_is_line pm_law_is_line an_law_is_line cd_law_is_line ct_law_is_line), sl_law_is_line⟩)
    (c_law_is_line : PySem.W.codeIn K cd_law_is_line "_law_is_line" = true)
    (k_law_is_line : PySem.W.keepIn K (.ref f_law_is_line) = true)
    (a_law_right : PySem.W.nsIn K mainGlobals "_law_right" = some (some (.ref f_law_right)))
    (l_law_right : K.lookup f_law_right = some ⟨oc_law_right, od_law_right, .func (PySem.W.fnOf "_law_right" "_law_right" (defArgs s_law_right) (defBody s_law_right) (defScope s_law_right) .none kV_law_right dc_law_right pm_law_right an_law_right cd_law_right ct_law_right), sl_law_right⟩)
    (c_law_right : PySem.W.codeIn K cd_law_right "_law_right" = true)
    (k_law_right : PySem.W.keepIn K (.ref f_law_right) = true)
    (a_law_made : PySem.W.nsIn K mainGlobals "_law_made" = some (some (.ref f_law_made)))
    (l_law_made : K.lookup f_law_made = some ⟨oc_law_made, od_law_made, .func (PySem.W.fnOf "_law_made" "_law_made" (defArgs s_law_made) (defBody s_law_made) (defScope s_law_made) .none kV_law_made dc_law_made pm_law_made an_law_made cd_law_made ct_law_made), sl_law_made⟩)
    (c_law_made : PySem.W.codeIn K cd_law_made "_law_made" = true)
    (k_law_made : PySem.W.keepIn K (.ref f_law_made) = true)
    (a_law_odd : PySem.W.nsIn K mainGlobals "_law_odd" = some (some (.ref f_law_odd)))
    (l_law_odd : K.lookup f_law_odd = some ⟨oc_law_odd, od_law_odd, .func (PySem.W.fnOf "_law_odd" "_law_odd" (defArgs s_law_odd) (defBody s_law_odd) (defScope s_law_odd) .none kV_law_odd dc_law_odd pm_law_odd an_law_odd cd_law_odd ct_law_odd), sl_law_odd⟩)
    (c_law_odd : PySem.W.codeIn K cd_law_odd "_law_odd" = true)
    (k_law_odd : PySem.W.keepIn K (.ref f_law_odd) = true)
    (a_law_bent : PySem.W.nsIn K mainGlobals "_law_bent" = some (some (.ref f_law_bent)))
    (l_law_bent : K.lookup f_law_bent = some ⟨oc_law_bent, od_law_bent, .func (PySem.W.fnOf "_law_bent" "_law_bent" (defArgs s_law_bent) (defBody s_law_bent) (defScope s_law_bent) .none kV_law_bent dc_law_bent pm_law_bent an_law_bent cd_law_bent ct_law_bent), sl_law_bent⟩)
    (c_law_bent : PySem.W.codeIn K cd_law_bent "_law_bent" = true)
    (k_law_bent : PySem.W.keepIn K (.ref f_law_bent) = true)
    (a_law_says : PySem.W.nsIn K mainGlobals "_law_says" = some (some (.ref f_law_says)))
    (l_law_says : K.lookup f_law_says = some ⟨oc_law_says, od_law_says, .func (PySem.W.fnOf "_law_says" "_law_says" (defArgs s_law_says) (defBody s_law_says) (defScope s_law_says) .none kV_law_says dc_law_says pm_law_says an_law_says cd_law_says ct_law_says), sl_law_says⟩)
    (c_law_says : PySem.W.codeIn K cd_law_says "_law_says" = true)
    (k_law_says : PySem.W.keepIn K (.ref f_law_says) = true)
    (a_law_refused : PySem.W.nsIn K mainGlobals "_law_refused" = some (some (.ref f_law_refused)))
    (l_law_refused : K.lookup f_law_refused = some ⟨oc_law_refused, od_law_refused, .func (PySem.W.fnOf "_law_refused" "_law_refused" (defArgs s_law_refused) (defBody s_law_refused) (defScope s_law_refused) .none kV_law_refused dc_law_refused pm_law_refused an_law_refused cd_law_refused ct_law_refused), sl_law_refused⟩)
    (c_law_refused : PySem.W.codeIn K cd_law_refused "_law_refused" = true)
    (k_law_refused : PySem.W.keepIn K (.ref f_law_refused) = true)
    (a_law : PySem.W.nsIn K mainGlobals "law" = some (some (.ref f_law)))
    (l_law : K.lookup f_law = some ⟨oc_law, od_law, .func (PySem.W.fnOf "law" "law" (defArgs s_law) (defBody s_law) (defScope s_law) .none kV_law dc_law pm_law an_law cd_law ct_law), sl_law⟩)
    (c_law : PySem.W.codeIn K cd_law "law" = true)
    (k_law : PySem.W.keepIn K (.ref f_law) = true)
    (z_ValueError : PySem.W.nsIn K mainGlobals "ValueError" = some none)
    (z_all : PySem.W.nsIn K mainGlobals "all" = some none)
    (z_bool : PySem.W.nsIn K mainGlobals "bool" = some none)
    (z_int : PySem.W.nsIn K mainGlobals "int" = some none)
    (z_isinstance : PySem.W.nsIn K mainGlobals "isinstance" = some none)
    (z_len : PySem.W.nsIn K mainGlobals "len" = some none)
    (z_list : PySem.W.nsIn K mainGlobals "list" = some none)
    (z_min : PySem.W.nsIn K mainGlobals "min" = some none)
    (z_range : PySem.W.nsIn K mainGlobals "range" = some none)
    (z_repr : PySem.W.nsIn K mainGlobals "repr" = some none)
    (z_str : PySem.W.nsIn K mainGlobals "str" = some none)
    (z_tuple : PySem.W.nsIn K mainGlobals "tuple" = some none)
    (vC_LineError : PySem.W.nsIn K mainGlobals "LineError" = some (some (.ref C_LineError)))
    (vC_NoCount : PySem.W.nsIn K mainGlobals "NoCount" = some (some (.ref C_NoCount)))
    (vC_NoHouse : PySem.W.nsIn K mainGlobals "NoHouse" = some (some (.ref C_NoHouse)))
    (vC_NoPlace : PySem.W.nsIn K mainGlobals "NoPlace" = some (some (.ref C_NoPlace)))
    (vC_NoRule : PySem.W.nsIn K mainGlobals "NoRule" = some (some (.ref C_NoRule)))
    (zsu : PySem.W.nsIn K mainGlobals "super" = some none)
    (ztp : (P.main.scope.names.lookup ("super" : Str)).isSome = false)
    (fI_NoCount : PySem.W.findIn K (.ref C_NoCount) "__init__" = some (some (.ref I_NoCount)))
    (lI_NoCount : K.lookup I_NoCount = some ⟨.type "function", oJ_NoCount, .func (PySem.W.ksFn "__init__" "NoCount.__init__" (defArgs t_NoCount) (defBody t_NoCount) (defScope t_NoCount) .none kJ_NoCount dJ_NoCount pJ_NoCount aJ_NoCount (.ref cda_NoCount) tJ_NoCount cc_NoCount), sJ_NoCount⟩)
    (cI_NoCount : PySem.W.codeIn K (.ref cda_NoCount) "NoCount.__init__" = true)
    (hI_NoCount : K.lookup cda_NoCount = some ⟨cK_NoCount, oK_NoCount, .fields vK_NoCount, sK_NoCount⟩)
    (vI_NoCount : vK_NoCount[2]? = some (.str fi_NoCount ti_NoCount))
    (eI_NoCount : ((P.main.file : Str) == fi_NoCount) = true)
    (gI_NoCount : K.lookup cc_NoCount = some ⟨cL_NoCount, oL_NoCount, .cell (some (.ref C_NoCount)), sL_NoCount⟩)
    (xk_NoCount : xk1In K C_NoCount C_LineError "what" = true)
    (xi_NoCount : xcIn K C_NoCount (some (.ref I_NoCount)) = true)
    (kC_NoCount : PySem.W.keepIn K (.ref C_NoCount) = true)
    (xg_NoCount : xgIn K C_NoCount = true)
    (ex_NoCount_LineError : PySem.W.exmOne K (.ref C_NoCount) (.ref C_LineError) = some true)
    (is_NoCount_NoCount : PySem.W.kitOne K (.ref C_NoCount) (.ref C_NoCount) = some true)
    (is_NoCount_NoHouse : PySem.W.kitOne K (.ref C_NoCount) (.ref C_NoHouse) = some false)
    (is_NoCount_NoPlace : PySem.W.kitOne K (.ref C_NoCount) (.ref C_NoPlace) = some false)
    (is_NoCount_NoRule : PySem.W.kitOne K (.ref C_NoCount) (.ref C_NoRule) = some false)
    (is_NoCount_ValueError : PySem.W.kitOne K (.ref C_NoCount) (.type "ValueError") = some true)
    (v_FIRST_LINE : PySem.W.nsIn K mainGlobals "FIRST_LINE" = some (some (.ref p_FIRST_LINE)))
    (l1_FIRST_LINE : K.lookup p_FIRST_LINE = some ⟨.type "tuple", od_FIRST_LINE, .seq #[.int 0 t1_FIRST_LINE, .int 0 t2_FIRST_LINE, .none, .int 0 t4_FIRST_LINE, .bool false] n_FIRST_LINE, sl_FIRST_LINE⟩)
    (v_HOUSES : PySem.W.nsIn K mainGlobals "HOUSES" = some (some u_HOUSES))
    (r_HOUSES : RelV (.int 8) u_HOUSES)
    (v_LAST_LINE : PySem.W.nsIn K mainGlobals "LAST_LINE" = some (some u_LAST_LINE))
    (r_LAST_LINE : RelV (.int 1000000000) u_LAST_LINE)
    (v_LAST_PLACE : PySem.W.nsIn K mainGlobals "LAST_PLACE" = some (some u_LAST_PLACE))
    (r_LAST_PLACE : RelV (.int 1000000) u_LAST_PLACE) :
    ∃ a, Txt P K mg a := by
  exact ⟨⟨f_is_number, PySem.W.fnOf "is_number" "is_number" (defArgs s_is_number) (defBody s_is_number) (defScope s_is_number) .none kV_is_number dc_is_number pm_is_number an_is_number cd_is_number ct_is_number, f_is_within, PySem.W.fnOf "is_within" "is_within" (defArgs s_is_within) (defBody s_is_within) (defScope s_is_within) .none kV_is_within dc_is_within pm_is_within an_is_within cd_is_within ct_is_within, f_require_within, PySem.W.fnOf "require_within" "require_within" (defArgs s_require_within) (defBody s_require_within) (defScope s_require_within) .none kV_require_within dc_require_within pm_require_within an_require_within cd_require_within ct_require_within, f_is_place, PySem.W.fnOf "is_place" "is_place" (defArgs s_is_place) (defBody s_is_place) (defScope s_is_place) .none kV_is_place dc_is_place pm_is_place an_is_place cd_is_place ct_is_place, f_is_line, PySem.W.fnOf "is_line" "is_line" (defArgs s_is_line) (defBody s_is_line) (defScope s_is_line) .none kV_is_line dc_is_line pm_is_line an_is_line cd_is_line ct_is_line, f_may_begin, PySem.W.fnOf "may_begin" "may_begin" (defArgs s_may_begin) (defBody s_may_begin) (defScope s_may_begin) .none kV_may_begin dc_may_begin pm_may_begin an_may_begin cd_may_begin ct_may_begin, f_is_first_line, PySem.W.fnOf "is_first_line" "is_first_line" (defArgs s_is_first_line) (defBody s_is_first_line) (defScope s_is_first_line) .none kV_is_first_line dc_is_first_line pm_is_first_line an_is_first_line cd_is_first_line ct_is_first_line, f_is_later_line, PySem.W.fnOf "is_later_line" "is_later_line" (defArgs s_is_later_line) (defBody s_is_later_line) (defScope s_is_later_line) .none kV_is_later_line dc_is_later_line pm_is_later_line an_is_later_line cd_is_later_line ct_is_later_line, f_right_lines, PySem.W.fnOf "right_lines" "right_lines" (defArgs s_right_lines) (defBody s_right_lines) (defScope s_right_lines) .none kV_right_lines dc_right_lines pm_right_lines an_right_lines cd_right_lines ct_right_lines, f_law_deck, PySem.W.fnOf "_law_deck" "_law_deck" (defArgs s_law_deck) (defBody s_law_deck) (defScope s_law_deck) .none kV_law_deck dc_law_deck pm_law_deck an_law_deck cd_law_deck ct_law_deck, f_law_take, PySem.W.fnOf "_law_take" "_law_take" (defArgs s_law_take) (defBody s_law_take) (defScope s_law_take) .none kV_law_take dc_law_take pm_law_take an_law_take cd_law_take ct_law_take, f_law_from, PySem.W.fnOf "_law_from" "_law_from" (defArgs s_law_from) (defBody s_law_from) (defScope s_law_from) .none kV_law_from dc_law_from pm_law_from an_law_from cd_law_from ct_law_from, f_law_is_line, PySem.W.fnOf "_law_is_line" "_law_is_line" (defArgs s_law_is_line) (defBody s_law_is_line) (defScope s_law_is_line) .none kV_law_is_line dc_law_is_line pm_law_is_line an_law_is_line cd_law_is_line ct_law_is_line, f_law_right, PySem.W.fnOf "_law_right" "_law_right" (defArgs s_law_right) (defBody s_law_right) (defScope s_law_right) .none kV_law_right dc_law_right pm_law_right an_law_right cd_law_right ct_law_right, f_law_made, PySem.W.fnOf "_law_made" "_law_made" (defArgs s_law_made) (defBody s_law_made) (defScope s_law_made) .none kV_law_made dc_law_made pm_law_made an_law_made cd_law_made ct_law_made, f_law_odd, PySem.W.fnOf "_law_odd" "_law_odd" (defArgs s_law_odd) (defBody s_law_odd) (defScope s_law_odd) .none kV_law_odd dc_law_odd pm_law_odd an_law_odd cd_law_odd ct_law_odd, f_law_bent, PySem.W.fnOf "_law_bent" "_law_bent" (defArgs s_law_bent) (defBody s_law_bent) (defScope s_law_bent) .none kV_law_bent dc_law_bent pm_law_bent an_law_bent cd_law_bent ct_law_bent, f_law_says, PySem.W.fnOf "_law_says" "_law_says" (defArgs s_law_says) (defBody s_law_says) (defScope s_law_says) .none kV_law_says dc_law_says pm_law_says an_law_says cd_law_says ct_law_says, f_law_refused, PySem.W.fnOf "_law_refused" "_law_refused" (defArgs s_law_refused) (defBody s_law_refused) (defScope s_law_refused) .none kV_law_refused dc_law_refused pm_law_refused an_law_refused cd_law_refused ct_law_refused, f_law, PySem.W.fnOf "law" "law" (defArgs s_law) (defBody s_law) (defScope s_law) .none kV_law dc_law pm_law an_law cd_law ct_law, .ref p_FIRST_LINE, u_HOUSES, u_LAST_LINE, u_LAST_PLACE, p_FIRST_LINE, C_LineError, C_NoCount, C_NoHouse, C_NoPlace, C_NoRule, I_NoCount⟩,
    ⟨PySem.W.mg_of X G vC_LineError,
     PySem.W.mg_of X G vC_NoCount,
     PySem.W.mg_of X G vC_NoHouse,
     PySem.W.mg_of X G vC_NoPlace,
     PySem.W.mg_of X G vC_NoRule,
     xini_mk ib_NoCount xk_NoCount xi_NoCount kC_NoCount zsu ztp lI_NoCount cI_NoCount hI_NoCount vI_NoCount eI_NoCount gI_NoCount,
     xg_of xg_NoCount,
     ex_NoCount_LineError,
     is_NoCount_NoCount,
     is_NoCount_NoHouse,
     is_NoCount_NoPlace,
     is_NoCount_NoRule,
     is_NoCount_ValueError,
     ⟨PySem.W.mg_of X G v_FIRST_LINE, rfl⟩,
     fun H => .inr ⟨_, _, _, l1_FIRST_LINE, rfl, rfl, (by show (5 : Nat) ≤ sizeLine; decide), .cons ⟨_, rfl⟩ (.cons ⟨_, rfl⟩ (.cons rfl (.cons ⟨_, rfl⟩ (.cons rfl .nil))))⟩,
     ⟨PySem.W.mg_of X G v_HOUSES, r_HOUSES⟩,
     ⟨PySem.W.mg_of X G v_LAST_LINE, r_LAST_LINE⟩,
     ⟨PySem.W.mg_of X G v_LAST_PLACE, r_LAST_PLACE⟩,
     PySem.W.mg_none_of X G z_ValueError,
     PySem.W.mg_none_of X G z_all,
     PySem.W.mg_none_of X G z_bool,
     PySem.W.mg_none_of X G z_int,
     PySem.W.mg_none_of X G z_isinstance,
     PySem.W.mg_none_of X G z_len,
     PySem.W.mg_none_of X G z_list,
     PySem.W.mg_none_of X G z_min,
     PySem.W.mg_none_of X G z_range,
     PySem.W.mg_none_of X G z_repr,
     PySem.W.mg_none_of X G z_str,
     PySem.W.mg_none_of X G z_tuple,
     fun_mk (st := s_is_number) l_is_number c_is_number k_is_number,
     PySem.W.mg_of X G a_is_number,
     k_is_number,
     (fun_mk (st := s_is_number) l_is_number c_is_number k_is_number).binds (ps := ["thing"]) fun _ _ _ _ _ _ us hl => match us, hl with | [_], _ => rfl,
     fun_mk (st := s_is_within) l_is_within c_is_within k_is_within,
     PySem.W.mg_of X G a_is_within,
     k_is_within,
     (fun_mk (st := s_is_within) l_is_within c_is_within k_is_within).binds (ps := ["thing", "least", "most"]) fun _ _ _ _ _ _ us hl => match us, hl with | [_, _, _], _ => rfl,
     fun_mk (st := s_require_within) l_require_within c_require_within k_require_within,
     PySem.W.mg_of X G a_require_within,
     k_require_within,
     (fun_mk (st := s_require_within) l_require_within c_require_within k_require_within).binds (ps := ["thing", "least", "most", "what"]) fun _ _ _ _ _ _ us hl => match us, hl with | [_, _, _, _], _ => rfl,
     fun_mk (st := s_is_place) l_is_place c_is_place k_is_place,
     PySem.W.mg_of X G a_is_place,
     k_is_place,
     (fun_mk (st := s_is_place) l_is_place c_is_place k_is_place).binds (ps := ["thing"]) fun _ _ _ _ _ _ us hl => match us, hl with | [_], _ => rfl,
     fun_mk (st := s_is_line) l_is_line c_is_line k_is_line,
     PySem.W.mg_of X G a_is_line,
     k_is_line,
     (fun_mk (st := s_is_line) l_is_line c_is_line k_is_line).binds (ps := ["thing"]) fun _ _ _ _ _ _ us hl => match us, hl with | [_], _ => rfl,
     fun_mk (st := s_may_begin) l_may_begin c_may_begin k_may_begin,
     PySem.W.mg_of X G a_may_begin,
     k_may_begin,
     (fun_mk (st := s_may_begin) l_may_begin c_may_begin k_may_begin).binds (ps := ["house", "many", "line"]) fun _ _ _ _ _ _ us hl => match us, hl with | [_, _, _], _ => rfl,
     fun_mk (st := s_is_first_line) l_is_first_line c_is_first_line k_is_first_line,
     PySem.W.mg_of X G a_is_first_line,
     k_is_first_line,
     (fun_mk (st := s_is_first_line) l_is_first_line c_is_first_line k_is_first_line).binds (ps := ["thing"]) fun _ _ _ _ _ _ us hl => match us, hl with | [_], _ => rfl,
     fun_mk (st := s_is_later_line) l_is_later_line c_is_later_line k_is_later_line,
     PySem.W.mg_of X G a_is_later_line,
     k_is_later_line,
     (fun_mk (st := s_is_later_line) l_is_later_line c_is_later_line k_is_later_line).binds (ps := ["thing", "houses"]) fun _ _ _ _ _ _ us hl => match us, hl with | [_, _], _ => rfl,
     fun_mk (st := s_right_lines) l_right_lines c_right_lines k_right_lines,
     PySem.W.mg_of X G a_right_lines,
     k_right_lines,
     (fun_mk (st := s_right_lines) l_right_lines c_right_lines k_right_lines).binds (ps := ["houses", "lines"]) fun _ _ _ _ _ _ us hl => match us, hl with | [_, _], _ => rfl,
     fun_mk (st := s_law_deck) l_law_deck c_law_deck k_law_deck,
     PySem.W.mg_of X G a_law_deck,
     k_law_deck,
     (fun_mk (st := s_law_deck) l_law_deck c_law_deck k_law_deck).binds (ps := ["_law_script"]) fun _ _ _ _ _ _ us hl => match us, hl with | [_], _ => rfl,
     fun_mk (st := s_law_take) l_law_take c_law_take k_law_take,
     PySem.W.mg_of X G a_law_take,
     k_law_take,
     (fun_mk (st := s_law_take) l_law_take c_law_take k_law_take).binds (ps := ["_law_deck_here", "_law_many"]) fun _ _ _ _ _ _ us hl => match us, hl with | [_, _], _ => rfl,
     fun_mk (st := s_law_from) l_law_from c_law_from k_law_from,
     PySem.W.mg_of X G a_law_from,
     k_law_from,
     (fun_mk (st := s_law_from) l_law_from c_law_from k_law_from).binds (ps := ["_law_thing", "_law_least", "_law_most"]) fun _ _ _ _ _ _ us hl => match us, hl with | [_, _, _], _ => rfl,
     fun_mk (st := s_law_is_line) l_law_is_line c_law_is_line k_law_is_line,
     PySem.W.mg_of X G a_law_is_line,
     k_law_is_line,
     (fun_mk (st := s_law_is_line) l_law_is_line c_law_is_line k_law_is_line).binds (ps := ["_law_thing", "_law_many", "_law_forks"]) fun _ _ _ _ _ _ us hl => match us, hl with | [_, _, _], _ => rfl,
     fun_mk (st := s_law_right) l_law_right c_law_right k_law_right,
     PySem.W.mg_of X G a_law_right,
     k_law_right,
     (fun_mk (st := s_law_right) l_law_right c_law_right k_law_right).binds (ps := ["_law_many", "_law_lines"]) fun _ _ _ _ _ _ us hl => match us, hl with | [_, _], _ => rfl,
     fun_mk (st := s_law_made) l_law_made c_law_made k_law_made,
     PySem.W.mg_of X G a_law_made,
     k_law_made,
     (fun_mk (st := s_law_made) l_law_made c_law_made k_law_made).binds (ps := ["_law_deck_here", "_law_many"]) fun _ _ _ _ _ _ us hl => match us, hl with | [_, _], _ => rfl,
     fun_mk (st := s_law_odd) l_law_odd c_law_odd k_law_odd,
     PySem.W.mg_of X G a_law_odd,
     k_law_odd,
     (fun_mk (st := s_law_odd) l_law_odd c_law_odd k_law_odd).binds (ps := ["_law_deck_here", "_law_thing", "_law_told"]) fun _ _ _ _ _ _ us hl => match us, hl with | [_, _, _], _ => rfl,
     fun_mk (st := s_law_bent) l_law_bent c_law_bent k_law_bent,
     PySem.W.mg_of X G a_law_bent,
     k_law_bent,
     (fun_mk (st := s_law_bent) l_law_bent c_law_bent k_law_bent).binds (ps := ["_law_deck_here", "_law_lines"]) fun _ _ _ _ _ _ us hl => match us, hl with | [_, _], _ => rfl,
     fun_mk (st := s_law_says) l_law_says c_law_says k_law_says,
     PySem.W.mg_of X G a_law_says,
     k_law_says,
     (fun_mk (st := s_law_says) l_law_says c_law_says k_law_says).binds (ps := ["_law_many", "_law_lines"]) fun _ _ _ _ _ _ us hl => match us, hl with | [_, _], _ => rfl,
     fun_mk (st := s_law_refused) l_law_refused c_law_refused k_law_refused,
     PySem.W.mg_of X G a_law_refused,
     k_law_refused,
     (fun_mk (st := s_law_refused) l_law_refused c_law_refused k_law_refused).binds (ps := ["_law_many", "_law_lines"]) fun _ _ _ _ _ _ us hl => match us, hl with | [_, _], _ => rfl,
     fun_mk (st := s_law) l_law c_law k_law,
     PySem.W.mg_of X G a_law,
     k_law,
     (fun_mk (st := s_law) l_law c_law k_law).binds (ps := ["_law_script"]) fun _ _ _ _ _ _ us hl => match us, hl with | [_], _ => rfl,
     fun s u => .of_eq rfl⟩⟩
theorem all_ok {P : Program} {w : World} {K : PySem.W.Frag} {mg : Str → Option Value} {base : Heap} {a : Adr} (T : Txt P K mg a) : FnOk P w K mg base CX0 7 a.f_law a.d_law ["_law_script"] (sp_law K) := by
  have G_is_number : FnOk P w K mg base CX0 1 a.f_is_number a.d_is_number ["thing"] (sp_is_number K) := ok_is_number T 
  have G_may_begin : FnOk P w K mg base CX0 1 a.f_may_begin a.d_may_begin ["house", "many", "line"] (sp_may_begin K) := ok_may_begin T 
  have G__law_deck : FnOk P w K mg base CX0 1 a.f_law_deck a.d_law_deck ["_law_script"] (sp_law_deck K) := ok_law_deck T 
  have G__law_take : FnOk P w K mg base CX0 1 a.f_law_take a.d_law_take ["_law_deck_here", "_law_many"] (sp_law_take K) := ok_law_take T 
  have G__law_from : FnOk P w K mg base CX0 1 a.f_law_from a.d_law_from ["_law_thing", "_law_least", "_law_most"] (sp_law_from K) := ok_law_from T 
  have G_is_within : FnOk P w K mg base CX0 2 a.f_is_within a.d_is_within ["thing", "least", "most"] (sp_is_within K) := ok_is_within T G_is_number
  have G_is_first_line : FnOk P w K mg base CX0 2 a.f_is_first_line a.d_is_first_line ["thing"] (sp_is_first_line K) := ok_is_first_line T G_is_number
  have G__law_is_line : FnOk P w K mg base CX0 2 a.f_law_is_line a.d_law_is_line ["_law_thing", "_law_many", "_law_forks"] (sp_law_is_line K) := ok_law_is_line T G__law_from
  have G__law_made : FnOk P w K mg base CX0 2 a.f_law_made a.d_law_made ["_law_deck_here", "_law_many"] (sp_law_made K) := ok_law_made T G__law_take
  have G__law_odd : FnOk P w K mg base CX0 2 a.f_law_odd a.d_law_odd ["_law_deck_here", "_law_thing", "_law_told"] (sp_law_odd K) := ok_law_odd T G__law_from G__law_take
  have G_require_within : FnOk P w K mg base (CX1 P w) 3 a.f_require_within a.d_require_within ["thing", "least", "most", "what"] (sp_require_within K a) := ok_require_within T G_is_within
  have G_is_place : FnOk P w K mg base CX0 3 a.f_is_place a.d_is_place ["thing"] (sp_is_place K) := ok_is_place T G_is_within
  have G_is_line : FnOk P w K mg base CX0 3 a.f_is_line a.d_is_line ["thing"] (sp_is_line K) := ok_is_line T G_is_within
  have G__law_right : FnOk P w K mg base CX0 3 a.f_law_right a.d_law_right ["_law_many", "_law_lines"] (sp_law_right K) := ok_law_right T G__law_from G__law_is_line
  have G__law_bent : FnOk P w K mg base CX0 3 a.f_law_bent a.d_law_bent ["_law_deck_here", "_law_lines"] (sp_law_bent K) := ok_law_bent T G__law_odd G__law_take
  have G_is_later_line : FnOk P w K mg base CX0 4 a.f_is_later_line a.d_is_later_line ["thing", "houses"] (sp_is_later_line K) := ok_is_later_line T G_is_line G_is_number G_is_place G_may_begin
  have G_right_lines : FnOk P w K mg base (CX1 P w) 5 a.f_right_lines a.d_right_lines ["houses", "lines"] (sp_right_lines K a) := ok_right_lines T G_is_first_line G_is_later_line G_require_within
  have G__law_says : FnOk P w K mg base CX0 6 a.f_law_says a.d_law_says ["_law_many", "_law_lines"] (sp_law_says K a) := ok_law_says T G__law_right G_right_lines
  have G__law_refused : FnOk P w K mg base CX0 6 a.f_law_refused a.d_law_refused ["_law_many", "_law_lines"] (sp_law_refused K a) := ok_law_refused T G_right_lines
  have G_law : FnOk P w K mg base CX0 7 a.f_law a.d_law ["_law_script"] (sp_law K) := ok_law T G__law_bent G__law_deck G__law_made G__law_refused G__law_says G__law_take G_right_lines
  exact G_law
end My
open PySem PySem.W PyProof.Rows
set_option maxRecDepth 100000 in
set_option maxHeartbeats 0 in
theorem PySem.Challenge.cw_laterline_k42_told_lines_judged_holds : PySem.Challenge.rw_laterline_k42_told_lines_judged.Holds := by
  w_on; o_law; k_head; (case hw => w_witness2)
  k_fill
  refine L2.walk_ofK (l := PySem.Challenge.rw_laterline_k42_told_lines_judged) (n := 63) (k := 7) (x := "_law_script") (CX := L2.CX0) (sp := My.sp_law) rfl (by decide) rfl ⟨rfl, by decide, by decide, rfl⟩ (fun w h Y => PySem.W.kIn_of Y) ?F ?S ?C
  case F =>
    intro w mg fa h KX G hmg
    have T : ∃ a, My.Txt (PySem.Challenge.rw_laterline_k42_told_lines_judged).prog (L2.KOf KX) mg a := by
      dsimp only [L2.KOf]
      refine' My.txt_mk KX G ?a_is_number ?l_is_number ?c_is_number ?k_is_number ?a_is_within ?l_is_within ?c_is_within ?k_is_within ?a_require_within ?l_require_within ?c_require_within ?k_require_within ?a_is_place ?l_is_place ?c_is_place ?k_is_place ?a_is_line ?l_is_line ?c_is_line ?k_is_line ?a_may_begin ?l_may_begin ?c_may_begin ?k_may_begin ?a_is_first_line ?l_is_first_line ?c_is_first_line ?k_is_first_line ?a_is_later_line ?l_is_later_line ?c_is_later_line ?k_is_later_line ?a_right_lines ?l_right_lines ?c_right_lines ?k_right_lines ?a_law_deck ?l_law_deck ?c_law_deck ?k_law_deck ?a_law_take ?l_law_take ?c_law_take ?k_law_take ?a_law_from ?l_law_from ?c_law_from ?k_law_from ?a_law_is_line ?l_law_is_line ?c_law_is_line ?k_law_is_line ?a_law_right ?l_law_right ?c_law_right ?k_law_right ?a_law_made ?l_law_made ?c_law_made ?k_law_made ?a_law_odd ?l_law_odd ?c_law_odd ?k_law_odd ?a_law_bent ?l_law_bent ?c_law_bent ?k_law_bent ?a_law_says ?l_law_says ?c_law_says ?k_law_says ?a_law_refused ?l_law_refused ?c_law_refused ?k_law_refused ?a_law ?l_law ?c_law ?k_law ?z_ValueError ?z_all ?z_bool ?z_int ?z_isinstance ?z_len ?z_list ?z_min ?z_range ?z_repr ?z_str ?z_tuple ?vC_LineError ?vC_NoCount ?vC_NoHouse ?vC_NoPlace ?vC_NoRule ?zsu ?rr_ztp ?fI_NoCount ?lI_NoCount ?cI_NoCount ?hI_NoCount ?rf_vI_NoCount ?rr_eI_NoCount ?gI_NoCount ?rr_xk_NoCount ?rr_xi_NoCount ?kC_NoCount ?rr_xg_NoCount ?rr_ex_NoCount_LineError ?rr_is_NoCount_NoCount ?rr_is_NoCount_NoHouse ?rr_is_NoCount_NoPlace ?rr_is_NoCount_NoRule ?rr_is_NoCount_ValueError ?v_FIRST_LINE ?l1_FIRST_LINE ?v_HOUSES ?r_HOUSES ?v_LAST_LINE ?r_LAST_LINE ?v_LAST_PLACE ?r_LAST_PLACE
      (case a_is_number => k_is)
      (case l_is_number => k_is)
      (case c_is_number => k_is)
      (case k_is_number => k_is)
      (case a_is_within => k_is)
      (case l_is_within => k_is)
      (case c_is_within => k_is)
      (case k_is_within => k_is)
      (case a_require_within => k_is)
      (case l_require_within => k_is)
      (case c_require_within => k_is)
      (case k_require_within => k_is)
      (case a_is_place => k_is)
      (case l_is_place => k_is)
      (case c_is_place => k_is)
      (case k_is_place => k_is)
      (case a_is_line => k_is)
      (case l_is_line => k_is)
      (case c_is_line => k_is)
      (case k_is_line => k_is)
      (case a_may_begin => k_is)
      (case l_may_begin => k_is)
      (case c_may_begin => k_is)
      (case k_may_begin => k_is)
      (case a_is_first_line => k_is)
      (case l_is_first_line => k_is)
      (case c_is_first_line => k_is)
      (case k_is_first_line => k_is)
      (case a_is_later_line => k_is)
      (case l_is_later_line => k_is)
      (case c_is_later_line => k_is)
      (case k_is_later_line => k_is)
      (case a_right_lines => k_is)
      (case l_right_lines => k_is)
      (case c_right_lines => k_is)
      (case k_right_lines => k_is)
      (case a_law_deck => k_is)
      (case l_law_deck => k_is)
      (case c_law_deck => k_is)
      (case k_law_deck => k_is)
      (case a_law_take => k_is)
      (case l_law_take => k_is)
      (case c_law_take => k_is)
      (case k_law_take => k_is)
      (case a_law_from => k_is)
      (case l_law_from => k_is)
      (case c_law_from => k_is)
      (case k_law_from => k_is)
      (case a_law_is_line => k_is)
      (case l_law_is_line => k_is)
      (case c_law_is_line => k_is)
      (case k_law_is_line => k_is)
      (case a_law_right => k_is)
      (case l_law_right => k_is)
      (case c_law_right => k_is)
      (case k_law_right => k_is)
      (case a_law_made => k_is)
      (case l_law_made => k_is)
      (case c_law_made => k_is)
      (case k_law_made => k_is)
      (case a_law_odd => k_is)
      (case l_law_odd => k_is)
      (case c_law_odd => k_is)
      (case k_law_odd => k_is)
      (case a_law_bent => k_is)
      (case l_law_bent => k_is)
      (case c_law_bent => k_is)
      (case k_law_bent => k_is)
      (case a_law_says => k_is)
      (case l_law_says => k_is)
      (case c_law_says => k_is)
      (case k_law_says => k_is)
      (case a_law_refused => k_is)
      (case l_law_refused => k_is)
      (case c_law_refused => k_is)
      (case k_law_refused => k_is)
      (case a_law => k_is)
      (case l_law => k_is)
      (case c_law => k_is)
      (case k_law => k_is)
      (case z_ValueError => k_is)
      (case z_all => k_is)
      (case z_bool => k_is)
      (case z_int => k_is)
      (case z_isinstance => k_is)
      (case z_len => k_is)
      (case z_list => k_is)
      (case z_min => k_is)
      (case z_range => k_is)
      (case z_repr => k_is)
      (case z_str => k_is)
      (case z_tuple => k_is)
      (case vC_LineError => k_is)
      (case vC_NoCount => k_is)
      (case vC_NoHouse => k_is)
      (case vC_NoPlace => k_is)
      (case vC_NoRule => k_is)
      (case zsu => k_is)
      (case rr_ztp => kernel_rfl)
      (case fI_NoCount => k_is)
      (case lI_NoCount => k_is)
      (case cI_NoCount => k_is)
      (case hI_NoCount => k_is)
      (case rf_vI_NoCount => exact rfl)
      (case rr_eI_NoCount => kernel_rfl)
      (case gI_NoCount => k_is)
      (case rr_xk_NoCount => kernel_rfl)
      (case rr_xi_NoCount => kernel_rfl)
      (case kC_NoCount => k_is)
      (case rr_xg_NoCount => kernel_rfl)
      (case rr_ex_NoCount_LineError => kernel_rfl)
      (case rr_is_NoCount_NoCount => kernel_rfl)
      (case rr_is_NoCount_NoHouse => kernel_rfl)
      (case rr_is_NoCount_NoPlace => kernel_rfl)
      (case rr_is_NoCount_NoRule => kernel_rfl)
      (case rr_is_NoCount_ValueError => kernel_rfl)
      (case v_FIRST_LINE => k_is)
      (case l1_FIRST_LINE => k_is)
      (case v_HOUSES => k_is)
      (case r_HOUSES => exact ⟨_, rfl⟩)
      (case v_LAST_LINE => k_is)
      (case r_LAST_LINE => exact ⟨_, rfl⟩)
      (case v_LAST_PLACE => k_is)
      (case r_LAST_PLACE => exact ⟨_, rfl⟩)
    obtain ⟨a, T⟩ := T
    have e0 := hmg.symm.trans T.m_law
    cases e0
    exact ⟨_, T.bl_law, fun base kb nb => My.all_ok T⟩
  case S => exact fun K H a ns hl hO hS => ⟨a, ns, rfl, hS, hl, fun _ => rfl⟩
  case C => exact fun _ _ _ _ z => z
