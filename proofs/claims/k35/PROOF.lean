import PyProof.Rows.All
import Wide.All
import OpenK.AllK
import Wide.FinOn
import Lean
import PyProof.EqAt
import PyProof.EqKinds
import PyProof.TupleCall
import KE.KTryMore
import PyProof.NsDelKeeps
import OpenK.KOwn
import PyProof.ExcClass3
import KE.KSuper
import PyProof.InstStoreFacts
import PyProof.ExcArgsOwn
import PyProof.ExcAttrAll.ValueError
import KE.KIsAll
import PyProof.EnumFor
import PyProof.EnumStmt
import PyProof.EnumIter
import KE.KStar
import KE.KUnpack
import PyProof.ListRange
import PyProof.P3In
import PySem.Challenge.RW_laterline_k35_avoiding_told
set_option Elab.async false
set_option linter.all false
set_option maxRecDepth 100000
/-! THE HAND LAYER, for ints, bools, texts, own classes, LISTS and tuples (index, slices, in, append, pop ..), calls, loops. Paste it whole ahead of your own text; what your proof does not reach may be deleted. -/
namespace L2
open PySem PySem.Spec PyProof.Rows

/-- a key: an int or a str -/
abbrev Key := Sum Int Str
def keyIs : Key → Value → Bool
  | .inl k, v => Value.isInt k v
  | .inr x, v => Value.isStrOf x v
def keyH (w : World) : Key → Int
  | .inl k => hashInt k
  | .inr x => hashStr w x
theorem keyIs_shape : ∀ {k : Key} {v : Value}, keyIs k v = true → (∃ i t, k = Sum.inl i ∧ v = Value.int i t) ∨ (∃ x t, k = Sum.inr x ∧ v = Value.str x t)
  | .inl i, v, h => by
    obtain ⟨t, e⟩ := Value.isInt_shape (k := i) (v := v) h
    exact .inl ⟨i, t, rfl, e⟩
  | .inr x, v, h => by
    obtain ⟨t, e⟩ := Value.isStrOf_shape (x := x) (v := v) h
    exact .inr ⟨x, t, rfl, e⟩
theorem keyIs_int (i : Int) (t : Tok) : keyIs (.inl i) (.int i t) = true := by simp [keyIs, Value.isInt]
theorem keyIs_str (x : Str) (t : Tok) : keyIs (.inr x) (.str x t) = true := by simp [keyIs, Value.isStrOf]
theorem key_ll (a b : Int) : decide ((Sum.inl a : Key) = Sum.inl b) = (a == b) := by
  by_cases e : a = b
  · subst e; simp
  · have h : ¬ (Sum.inl a : Key) = Sum.inl b := fun q => e (Sum.inl.inj q)
    rw [decide_eq_false h]
    exact (beq_eq_false_iff_ne.mpr e).symm
theorem key_rr (a b : Str) : decide ((Sum.inr a : Key) = Sum.inr b) = decide (a = b) := by
  by_cases e : a = b
  · subst e; simp
  · have h : ¬ (Sum.inr a : Key) = Sum.inr b := fun q => e (Sum.inr.inj q)
    rw [decide_eq_false h, decide_eq_false e]
theorem key_lr (a : Int) (b : Str) : decide ((Sum.inl a : Key) = Sum.inr b) = false := decide_eq_false (fun q => nomatch q)
theorem key_rl (a : Str) (b : Int) : decide ((Sum.inr a : Key) = Sum.inl b) = false := decide_eq_false (fun q => nomatch q)

def mixKind (prog : Program) (w : World) : PySem.KeyKind prog w Key where
  is := keyIs
  hash := keyH w
  inj := fun v a b ha hb => by
    rcases keyIs_shape ha with ⟨i, t, rfl, rfl⟩ | ⟨x, t, rfl, rfl⟩
    · rcases keyIs_shape hb with ⟨j, u, rfl, e⟩ | ⟨y, u, rfl, e⟩
      · injection e with e1 _; rw [e1]
      · exact nomatch e
    · rcases keyIs_shape hb with ⟨j, u, rfl, e⟩ | ⟨y, u, rfl, e⟩
      · exact nomatch e
      · injection e with e1 _; rw [e1]
  byValue := fun k v h => by
    rcases keyIs_shape h with ⟨i, t, rfl, rfl⟩ | ⟨x, t, rfl, rfl⟩ <;> rfl
  pyHash := fun hv h => by
    rcases keyIs_shape hv with ⟨i, t, rfl, rfl⟩ | ⟨x, t, rfl, rfl⟩
    · exact wpAny_pyHash_int h
    · exact wpAny_pyHash_str h
  eqBool := fun hu hv h => by
    rcases keyIs_shape hu with ⟨i, t, rfl, rfl⟩ | ⟨x, t, rfl, rfl⟩
    · rcases keyIs_shape hv with ⟨j, u, rfl, rfl⟩ | ⟨y, u, rfl, rfl⟩
      · rw [key_ll] at h; exact wpAny_eqBool_int h
      · rw [key_lr] at h; exact SeqAt.EqAt.int_str i t y u _ _ _ _ h
    · rcases keyIs_shape hv with ⟨j, u, rfl, rfl⟩ | ⟨y, u, rfl, rfl⟩
      · rw [key_rl] at h; exact SeqAt.EqAt.str_int x t j u _ _ _ _ h
      · rw [key_rr] at h; exact wpAny_eqBool_str h
  «strs» := fun k x t v h => by
    rcases keyIs_shape h with ⟨i, u, rfl, e⟩ | ⟨y, u, rfl, e⟩
    · exact nomatch e
    · injection e with e1 _
      subst e1
      cases v <;> rfl

theorem mixKind_is (prog : Program) (w : World) (k : Key) (v : Value) : (mixKind prog w).is k v = keyIs k v := rfl
theorem mixKind_int (prog : Program) (w : World) (i : Int) (t : Tok) : (mixKind prog w).is (.inl i) (.int i t) = true := keyIs_int i t
theorem mixKind_str (prog : Program) (w : World) (x : Str) (t : Tok) : (mixKind prog w).is (.inr x) (.str x t) = true := keyIs_str x t
end L2

namespace L2
open PySem PySem.Spec PyProof.Rows

/-- a value, without the heap -/
inductive V where
  | non | bl (b : Bool) | int (i : Int) | str (x : Str) | byt (b : Array UInt8) | flt (b : UInt64) | ref (a : Addr) | ty (n : String)
  deriving DecidableEq

def RelV : V → Value → Prop
  | .non, u => u = Value.none
  | .bl b, u => u = Value.bool b
  | .int i, u => ∃ t, u = Value.int i t
  | .str x, u => ∃ t, u = Value.str x t
  | .byt b, u => ∃ t, u = Value.bytes b t
  | .flt b, u => ∃ t, u = Value.float b t
  | .ref a, u => u = Value.ref a
  | .ty n, u => u = Value.type n

abbrev Vals : List V → List Value → Prop := Paired RelV
theorem Vals.length {xs : List V} {us : List Value} (r : Vals xs us) : xs.length = us.length := Paired.length r
theorem Vals.get : ∀ {xs : List V} {us : List Value} {i : Nat} {x : V}, Vals xs us → xs[i]? = some x → ∃ u, us[i]? = some u ∧ RelV x u
  | _, _, _, _, .nil, e => by simp at e
  | _, _, 0, _, .cons r _, e => by simp at e; subst e; exact ⟨_, rfl, r⟩
  | _, _, i + 1, x, .cons _ t, e => by
    obtain ⟨u, h1, h2⟩ := Vals.get (i := i) (x := x) t (by simpa using e)
    exact ⟨u, by simpa using h1, h2⟩
theorem Vals.set {x : V} {u : Value} (r : RelV x u) : ∀ {xs : List V} {us : List Value} (i : Nat), Vals xs us → Vals (xs.set i x) (us.set i u)
  | _, _, _, .nil => .nil
  | _, _, 0, .cons _ t => .cons r t
  | _, _, i + 1, .cons q t => .cons q (Vals.set r i t)
theorem Vals.append : ∀ {xs ys : List V} {us ws : List Value}, Vals xs us → Vals ys ws → Vals (xs ++ ys) (us ++ ws)
  | _, _, _, _, .nil, s => s
  | _, _, _, _, .cons r t, s => .cons r (Vals.append t s)
theorem Vals.take : ∀ {xs : List V} {us : List Value} (n : Nat), Vals xs us → Vals (xs.take n) (us.take n)
  | _, _, 0, _ => .nil
  | _, _, _ + 1, .nil => .nil
  | _, _, n + 1, .cons r t => .cons r (Vals.take n t)
theorem Vals.drop : ∀ {xs : List V} {us : List Value} (n : Nat), Vals xs us → Vals (xs.drop n) (us.drop n)
  | _, _, 0, r => r
  | _, _, _ + 1, .nil => .nil
  | _, _, n + 1, .cons _ t => Vals.drop n t
theorem Vals.none_of : ∀ {xs : List V} {us : List Value} {i : Nat}, Vals xs us → xs[i]? = none → us[i]? = none := fun {xs us i} r e => by
  have h1 := r.length
  have h2 : xs.length ≤ i := List.getElem?_eq_none_iff.mp e
  exact List.getElem?_eq_none_iff.mpr (by omega)

def RelO : Option V → Option Value → Prop
  | some v, some u => RelV v u
  | none, none => True
  | _, _ => False
def KV {κ : Type} : List (κ × V) → List (κ × Value) → Prop := Paired fun (p : κ × V) (q : κ × Value) => p.1 = q.1 ∧ RelV p.2 q.2

/-- a key of a dict (00_mix): an int or a text -/
def kV : Key → V
  | .inl i => .int i
  | .inr x => .str x

/-- what stands at a tracked address -/
inductive HO where
  /-- a list -/
  | lst (xs : List V)
  /-- a tuple (never changes) -/
  | tup (xs : List V)
  /-- a dict whose keys are ints and texts; one whose keys are tuples of ints and texts (the empty one is both) -/
  | dK (kvs : List (Key × V)) | dT (kvs : List (List Key × V))
  /-- a set of ints: its members, its size -/
  | set (S : Int → Bool) (n : Nat)
  /-- an instance of the class at C, its dict at dx, its attributes -/
  | ins (C dx : Addr) (fs : List (Str × V))
  /-- the dict of the instance at x -/
  | own (x : Addr)
  /-- the dict of an exception -/
  | xd (fs : List (Str × V))
  /-- a bound method, f of x -/
  | met (f x : Addr)
  /-- a range object lo, lo + 1, .. below hi -/
  | rng (lo hi : Int)
  /-- a thing that is known to the object (the script; a dict while a loop walks it): read, never written while it is so -/
  | frz (o : Obj) (u : HO)
  /-- a code object's table -/
  | tbl (ps : Array Value)
  /-- any other thing, by what is true of its one object (a def of one's own: SetO a S n := HO.ext fun h => ..) -/
  | ext (φ : Heap → Prop)

abbrev Hp := Addr → Option HO
def upd (H : Hp) (a : Addr) (o : HO) : Hp := fun b => if b = a then some o else H b
theorem upd_same {H : Hp} {a : Addr} {o : HO} : upd H a o a = some o := by unfold upd; rw [if_pos rfl]
theorem upd_ne {H : Hp} {a b : Addr} {o : HO} (h : b ≠ a) : upd H a o b = H b := by unfold upd; rw [if_neg h]
theorem upd_upd {H : Hp} {a : Addr} {o u : HO} : upd (upd H a o) a u = upd H a u := by
  funext b; unfold upd; split <;> rfl
/-- two objects of different content stand apart -/
theorem ne_of {H : Hp} {a b : Addr} {o u : HO} (h : H a = some o) (h' : H b = some u) (d : o ≠ u) : a ≠ b := by
  intro e; subst e; rw [h] at h'; exact d (Option.some.inj h')
theorem ne_of_none {H : Hp} {a b : Addr} {o : HO} (h : H a = some o) (h' : H b = none) : a ≠ b := by
  intro e; subst e; rw [h] at h'; cases h'

section
variable (P : Program) (w : World)
def ObjOk (H : Hp) (h : Heap) (a : Addr) : HO → Prop
  | .lst xs => xs.length ≤ sizeLine ∧ ∃ (its : List Value) (n : Nat), Vals xs its ∧ h.get? a = some { cls := .type "list", data := .seq its.toArray n }
  | .tup xs => xs.length ≤ sizeLine ∧ ∃ its : List Value, Vals xs its ∧ IsTup h a its.toArray
  | .dK kvs => kvs.length ≤ sizeLine ∧ (a == sysModules) = false ∧ ∃ vs, KV kvs vs ∧ h.DictOf (mixKind P w) a vs
  | .dT kvs => kvs.length ≤ sizeLine ∧ (a == sysModules) = false ∧ ∃ xs : List (List Key × Addr × Value),
      Paired (fun (p : List Key × V) (q : List Key × Addr × Value) => p.1 = q.1 ∧ H q.2.1 = some (.tup (p.1.map kV)) ∧ RelV p.2 q.2.2) kvs xs ∧
      ∃ o es ep, h.get? a = some o ∧ o.ExactDict ∧ o.data = .dict es ep ∧ es.toList = xs.map (entryOfKey (tupleKind (mixKind P w))) ∧ (xs.map (·.1)).Nodup
  | .set S n => h.SetOf (intKind P w) a S n
  | .ins C dx fs => H dx = some (.own a) ∧ fs.length ≤ 1000 ∧ dx ≠ a ∧ h.get? a = some (PySem.W.instObj C dx) ∧
      ∃ mA, h.Ns1 dx mA ∧ (∀ f, RelO (fs.lookup f) (mA f)) ∧ PySem.Within mA (fs.map (·.1))
  | .own _ => ∃ o, h.get? a = some o
  | .xd fs => ∃ mA, h.Ns1 a mA ∧ ∀ f, RelO (fs.lookup f) (mA f)
  | .rng lo hi => ∃ t u v, h.get? a = some { cls := .type "range", data := .fields #[.int lo t, .int hi u, .int 1 v] }
  | .frz o u => h.get? a = some o ∧ ObjOk H h a u
  | .tbl ps => h.get? a = some { cls := .none, data := .fields ps }
  | .met f x => h.get? a = some (PySem.W.methodObj (.ref f) (.ref x))
  | .ext φ => φ h ∧ (∃ o, h.get? a = some o) ∧ ∀ h1 h2 : Heap, φ h1 → (∀ o, h1.get? a = some o → h2.get? a = some o) → φ h2
/-- the abstract heap is held -/
def HOk (H : Hp) (h : Heap) : Prop := ∀ a o, H a = some o → ObjOk P w H h a o
end

section
variable {P : Program} {w : World} {H H' : Hp} {h h' : Heap} {a : Addr} {o : HO}
theorem ObjOk.lt (x : ObjOk P w H h a o) : a < h.objs.size := by
  cases o with
  | lst xs => obtain ⟨_, _, _, _, e⟩ := x; exact Heap.lt_size e
  | tup xs => obtain ⟨_, _, _, p⟩ := x; exact p.lt
  | dK kvs => obtain ⟨_, _, _, _, o, _, _, e, _⟩ := x; exact Heap.lt_size e
  | dT kvs => obtain ⟨_, _, _, _, o, _, _, e, _⟩ := x; exact Heap.lt_size e
  | set S n => obtain ⟨o, _, _, _, e, _⟩ := x; exact Heap.lt_size e
  | ins C dx fs => obtain ⟨_, _, _, e, _⟩ := x; exact Heap.lt_size e
  | own y => obtain ⟨_, e⟩ := x; exact Heap.lt_size e
  | xd fs => obtain ⟨_, ⟨_, _, _, e, _⟩, _⟩ := x; exact Heap.lt_size e
  | rng lo hi => obtain ⟨_, _, _, e⟩ := x; exact Heap.lt_size e
  | frz ob u => obtain ⟨e, _⟩ := x; exact Heap.lt_size e
  | tbl ps => exact Heap.lt_size (show h.get? a = some _ from x)
  | met f y => exact Heap.lt_size (show h.get? a = some _ from x)
  | ext φ => obtain ⟨_, ⟨_, e⟩, _⟩ := x; exact Heap.lt_size e
theorem Paired.mapP {α β : Type} {F G : α → β → Prop} : ∀ {l₁ : List α} {l₂ : List β}, Paired F l₁ l₂ → (∀ a b, F a b → G a b) → Paired G l₁ l₂
  | _, _, .nil, _ => .nil
  | _, _, .cons r t, f => .cons (f _ _ r) (Paired.mapP t f)
theorem Paired.imp' {α β : Type} {F G : α → β → Prop} (f : ∀ a b, F a b → G a b) {l₁ : List α} {l₂ : List β} (r : Paired F l₁ l₂) : Paired G l₁ l₂ := Paired.mapP r f
/-- what an object's description leans on: its own object, its own dict, the tuples -/
theorem ObjOk.stay (x : ObjOk P w H h a o) (k : ∀ b u, (b = a ∨ H b = some (.own a)) → h.get? b = some u → h'.get? b = some u)
    (ho : ∀ b, H b = some (.own a) → H' b = some (.own a)) (ht : ∀ b xs, H b = some (.tup xs) → H' b = some (.tup xs)) : ObjOk P w H' h' a o := by
  induction o with
  | lst xs => obtain ⟨z, its, n, r, e⟩ := x; exact ⟨z, its, n, r, k _ _ (.inl rfl) e⟩
  | tup xs => obtain ⟨z, its, r, ob, e, c⟩ := x; exact ⟨z, its, r, ob, k _ _ (.inl rfl) e, c⟩
  | dK kvs => obtain ⟨z, y, vs, r, ob, es, ep, e, c⟩ := x; exact ⟨z, y, vs, r, ob, es, ep, k _ _ (.inl rfl) e, c⟩
  | dT kvs =>
    obtain ⟨z, y, xs, r, ob, es, ep, e, c⟩ := x
    exact ⟨z, y, xs, Paired.mapP r fun p q z => ⟨z.1, ht _ _ z.2.1, z.2.2⟩, ob, es, ep, k _ _ (.inl rfl) e, c⟩
  | set S n => obtain ⟨ob, es, ep, t, e, c⟩ := x; exact ⟨ob, es, ep, t, k _ _ (.inl rfl) e, c⟩
  | ins C dx fs =>
    obtain ⟨d, z, ne, e, mA, ⟨od, es, ep, e2, c⟩, r⟩ := x
    exact ⟨ho _ d, z, ne, k _ _ (.inl rfl) e, mA, ⟨od, es, ep, k _ _ (.inr d) e2, c⟩, r⟩
  | own y => obtain ⟨ob, e⟩ := x; exact ⟨ob, k _ _ (.inl rfl) e⟩
  | xd fs => obtain ⟨mA, ⟨od, es, ep, e, c⟩, r⟩ := x; exact ⟨mA, ⟨od, es, ep, k _ _ (.inl rfl) e, c⟩, r⟩
  | rng lo hi => obtain ⟨t, u, v, e⟩ := x; exact ⟨t, u, v, k _ _ (.inl rfl) e⟩
  | frz ob u ih => obtain ⟨e, q⟩ := x; exact ⟨k _ _ (.inl rfl) e, ih q⟩
  | tbl ps =>
    have e : h.get? a = some { cls := .none, data := .fields ps } := x
    show h'.get? a = some { cls := .none, data := .fields ps }
    exact k a _ (.inl rfl) e
  | met f y =>
    have e : h.get? a = some (PySem.W.methodObj (.ref f) (.ref y)) := x
    show h'.get? a = some (PySem.W.methodObj (.ref f) (.ref y))
    exact k a _ (.inl rfl) e
  | ext φ => obtain ⟨p, ⟨o, e⟩, st⟩ := x; exact ⟨st _ _ p fun o q => k _ _ (.inl rfl) q, ⟨o, k _ _ (.inl rfl) e⟩, st⟩
theorem HOk.lt (x : HOk P w H h) (e : H a = some o) : a < h.objs.size := (x a o e).lt
theorem HOk.fresh (x : HOk P w H h) (e : h.objs.size ≤ a) : H a = none := by
  cases q : H a with
  | none => rfl
  | some u => exact absurd (Nat.lt_of_lt_of_le (x.lt q) e) (Nat.lt_irrefl _)
/-- every object of the heap is kept -/
theorem HOk.kept (x : HOk P w H h) (k : ∀ b u, h.get? b = some u → h'.get? b = some u) : HOk P w H h' := fun a o e =>
  (x a o e).stay (fun b u _ q => k b u q) (fun _ q => q) fun _ _ q => q
/-- a new object is laid and tracked -/
theorem HOk.laid (x : HOk P w H h) (k : ∀ b u, h.get? b = some u → h'.get? b = some u) (hp : h.objs.size ≤ a) (new : ObjOk P w (upd H a o) h' a o) : HOk P w (upd H a o) h' := fun b u e => by
  have hn := x.fresh hp
  by_cases hb : b = a
  · subst hb; rw [upd_same] at e; cases e; exact new
  · rw [upd_ne hb] at e
    exact (x b u e).stay (fun c v _ q => k c v q) (fun c q => by rw [upd_ne (ne_of_none q hn)]; exact q) fun c xs q => by rw [upd_ne (ne_of_none q hn)]; exact q
end

/-- what may be read as u: it is u, or a known u -/
def Rd (H : Hp) (a : Addr) (u : HO) : Prop := H a = some u ∨ ∃ o, H a = some (.frz o u)
theorem Rd.of {H : Hp} {a : Addr} {u : HO} (h : H a = some u) : Rd H a u := .inl h
theorem Rd.ok {P : Program} {w : World} {H : Hp} {h : Heap} {a : Addr} {u : HO} (r : Rd H a u) (x : HOk P w H h) : ObjOk P w H h a u := by
  rcases r with r | ⟨o, r⟩
  · exact x a u r
  · obtain ⟨_, q⟩ := x a _ r
    exact q
/-- what may be written -/
def Mut : Option HO → Prop
  | some (.lst _) => True
  | some (.dK _) => True
  | some (.dT _) => True
  | some (.set _ _) => True
  | some (.ins _ _ _) => True
  | some (.ext _) => True
  | _ => False
section
variable {P : Program} {w : World} {H : Hp} {h h' : Heap} {x e : Addr} {o' : HO}
/-- the object at e is changed: x itself, or the dict of the instance x -/
theorem HOk.write (ok : HOk P w H h) (mu : Mut (H x)) (he : e = x ∨ H e = some (.own x)) (k : ∀ b u, b ≠ e → h.get? b = some u → h'.get? b = some u) (heo : ∃ u, h'.get? e = some u)
    (new : ObjOk P w (upd H x o') h' x o') : HOk P w (upd H x o') h' := fun b u q => by
  have nown : ∀ c y, H c = some (.own y) → c ≠ x := fun c y r z => by subst z; rw [r] at mu; exact mu
  have ntup : ∀ c xs, H c = some (.tup xs) → c ≠ x := fun c xs r z => by subst z; rw [r] at mu; exact mu
  by_cases hb : b = x
  · subst hb; rw [upd_same] at q; cases q; exact new
  · rw [upd_ne hb] at q
    by_cases hbe : b = e
    · have q' : H b = some (.own x) := by
        rcases he with z | z
        · exact absurd (hbe.trans z) hb
        · rw [hbe]; exact z
      rw [q] at q'; cases q'
      obtain ⟨v, hv⟩ := heo
      exact ⟨v, by rw [hbe]; exact hv⟩
    · refine (ok b u q).stay (fun c v hc r => k c v ?_ r) (fun c r => by rw [upd_ne (nown c b r)]; exact r) fun c xs r => by rw [upd_ne (ntup c xs r)]; exact r
      rcases hc with rfl | hc
      · exact hbe
      · rintro rfl
        rcases he with z | z
        · exact nown c b hc z
        · rw [hc] at z; cases z; exact hb rfl
end

/-! ### kept unless tracked; of the frames at fs (the callers') the slots may change (an exception that passes writes there); of the records at ex (iterators) nothing is said -/
structure Un (fs ex : List Addr) (H H' : Hp) (h h' : Heap) : Prop where
  keep : ∀ b o, h.get? b = some o → H b = none → b ∉ fs → b ∉ ex → h'.get? b = some o
  slot : ∀ b o, h.get? b = some o → H b = none → b ∈ fs → b ∉ ex → ∃ sl, h'.get? b = some { o with slots := sl }
  free : ∀ b o, h.get? b = some o → H b = none → b ∉ ex → H' b = none
  there : ∀ b o, h.get? b = some o → b ∉ ex → ∃ o', h'.get? b = some o'
  tups : ∀ b xs, H b = some (.tup xs) → H' b = some (.tup xs)
  frzs : ∀ b o u, H b = some (.frz o u) → H' b = some (.frz o u)
  tbls : ∀ b ps, H b = some (.tbl ps) → ∃ more, H' b = some (.tbl (ps ++ more))
section
variable {fs fs' ex ex' : List Addr} {H H1 H2 : Hp} {h h1 h2 h' : Heap} {a x e : Addr} {o : HO}
theorem Un.any (u : Un fs ex H H1 h h1) {b : Addr} {ob : Obj} (q : h.get? b = some ob) (n : H b = none) (hx : b ∉ ex) : ∃ sl, h1.get? b = some { ob with slots := sl } := by
  by_cases hb : b ∈ fs
  · exact u.slot b ob q n hb hx
  · exact ⟨ob.slots, u.keep b ob q n hb hx⟩
theorem Un.trans (a : Un fs ex H H1 h h1) (b : Un fs ex H1 H2 h1 h2) : Un fs ex H H2 h h2 where
  keep := fun c ob q n hc hx => b.keep c ob (a.keep c ob q n hc hx) (a.free c ob q n hx) hc hx
  slot := fun c ob q n hc hx => by
    obtain ⟨sl, e1⟩ := a.slot c ob q n hc hx
    obtain ⟨sl', e2⟩ := b.slot c _ e1 (a.free c ob q n hx) hc hx
    exact ⟨sl', e2⟩
  free := fun c ob q n hx => by
    obtain ⟨o', e1⟩ := a.there c ob q hx
    exact b.free c o' e1 (a.free c ob q n hx) hx
  there := fun c ob q hx => by
    obtain ⟨o', e1⟩ := a.there c ob q hx
    exact b.there c o' e1 hx
  tups := fun c xs q => b.tups c xs (a.tups c xs q)
  frzs := fun c ob xs q => b.frzs c ob xs (a.frzs c ob xs q)
  tbls := fun c ps q => by
    obtain ⟨m1, e1⟩ := a.tbls c ps q
    obtain ⟨m2, e2⟩ := b.tbls c _ e1
    exact ⟨m1 ++ m2, by rw [e2, Array.append_assoc]⟩
theorem Un.kept (k : ∀ b u, h.get? b = some u → h'.get? b = some u) : Un fs ex H H h h' :=
  ⟨fun b ob q _ _ _ => k b ob q, fun b ob q _ _ _ => ⟨ob.slots, k b ob q⟩, fun _ _ _ n _ => n, fun b ob q _ => ⟨ob, k b ob q⟩, fun _ _ q => q, fun _ _ _ q => q, fun _ ps q => ⟨#[], by rw [q]; simp⟩⟩
theorem Un.refl : Un fs ex H H h h := Un.kept fun _ _ q => q
theorem Un.laid (k : ∀ b u, h.get? b = some u → h'.get? b = some u) (hp : h.objs.size ≤ a) (hn : H a = none) : Un fs ex H (upd H a o) h h' where
  keep := fun b u q _ _ _ => k b u q
  slot := fun b u q _ _ _ => ⟨u.slots, k b u q⟩
  free := fun b u q n _ => by rw [upd_ne (Nat.ne_of_lt (Nat.lt_of_lt_of_le (Heap.lt_size q) hp))]; exact n
  there := fun b u q _ => ⟨u, k b u q⟩
  tups := fun b xs q => by rw [upd_ne (ne_of_none q hn)]; exact q
  frzs := fun b u xs q => by rw [upd_ne (ne_of_none q hn)]; exact q
  tbls := fun b ps q => ⟨#[], by rw [upd_ne (ne_of_none q hn), q]; simp⟩
theorem Un.write (mu : Mut (H x)) (he : e = x ∨ H e = some (.own x)) (k : ∀ b u, b ≠ e → h.get? b = some u → h'.get? b = some u) (heo : ∃ u, h'.get? e = some u) : Un fs ex H (upd H x o) h h' := by
  have hx : ∀ b, H b = none → b ≠ x := fun b n z => by subst z; rw [n] at mu; exact mu
  have hb : ∀ b, H b = none → b ≠ e := fun b n z => by
    subst z
    rcases he with r | r
    · exact hx b n r
    · rw [n] at r; cases r
  have hm : ∀ b u, H b = some u → ¬ Mut (some u) → b ≠ x := fun b u q nm z => by subst z; rw [q] at mu; exact nm mu
  refine ⟨fun b u q n _ _ => k b u (hb b n) q, fun b u q n _ _ => ⟨u.slots, k b u (hb b n) q⟩, fun b u q n _ => by rw [upd_ne (hx b n)]; exact n, fun b u q _ => ?_,
    fun b xs q => by rw [upd_ne (hm b _ q fun z => z)]; exact q, fun b u xs q => by rw [upd_ne (hm b _ q fun z => z)]; exact q, fun b ps q => ⟨#[], by rw [upd_ne (hm b _ q fun z => z), q]; simp⟩⟩
  by_cases hbe : b = e
  · subst hbe; exact heo
  · exact ⟨u, k b u hbe q⟩
theorem Un.mono (u : Un fs ex H H1 h h1) (hs : ∀ b ∈ fs, b ∈ fs') (hx : ∀ b ∈ ex, b ∈ ex') : Un fs' ex' H H1 h h1 :=
  ⟨fun b ob q n hb he => u.keep b ob q n (fun z => hb (hs b z)) fun z => he (hx b z), fun _ _ q n _ he => u.any q n fun z => he (hx _ z), fun b ob q n he => u.free b ob q n fun z => he (hx b z), fun b ob q he => u.there b ob q fun z => he (hx b z), u.tups, u.frzs, u.tbls⟩
end

/-! ### the heap without what is tracked -/
def trk (h : Heap) (H : Hp) : List Addr := (List.range h.objs.size).filter fun a => (H a).isSome
def hidT (h : Heap) (H : Hp) : Heap := PySem.W.hideAll h (trk h H)
theorem hidT_size (h : Heap) (H : Hp) : (hidT h H).objs.size = h.objs.size := PySem.W.hideAll_size _ _
theorem hidT_get {h : Heap} {H : Hp} {b : Addr} {o : Obj} (e : h.get? b = some o) (n : H b = none) : (hidT h H).get? b = some o :=
  PySem.W.hideAll_get _ e fun hm => by
    have q : (H b).isSome = true := (List.mem_filter.mp hm).2
    rw [n] at q; simp at q
theorem of_hidT {h : Heap} {H : Hp} {b : Addr} {o : Obj} (e : (hidT h H).get? b = some o) : h.get? b = some o ∧ H b = none := by
  have e' : h.get? b = some o := PySem.W.of_hideAll (trk h H) e
  refine ⟨e', ?_⟩
  cases q : H b with
  | none => rfl
  | some x =>
    have hm : b ∈ trk h H := List.mem_filter.mpr ⟨List.mem_range.mpr (Heap.lt_size e'), by simp [q]⟩
    have z : (hidT h H).get? b = none := PySem.W.hideAll_none (trk h H) hm
    rw [z] at e; cases e

/-! ### OpenK's ledger, filled with every new object but one -/
def allNews (g h : Heap) (L : Addr) : List (Addr × Obj) := (List.range h.objs.size).filterMap fun a => if a = L ∨ (g.get? a).isSome = true then none else (h.get? a).map fun o => (a, o)
theorem mem_allNews {g h : Heap} {L a : Addr} {o : Obj} (h1 : a ≠ L) (h2 : g.get? a = none) (h3 : h.get? a = some o) : (a, o) ∈ allNews g h L :=
  List.mem_filterMap.mpr ⟨a, List.mem_range.mpr (Heap.lt_size h3), by simp [h1, h2, h3]⟩
theorem of_mem_allNews {g h : Heap} {L : Addr} {p : Addr × Obj} (hp : p ∈ allNews g h L) : p.1 ≠ L ∧ g.get? p.1 = none ∧ h.get? p.1 = some p.2 := by
  obtain ⟨b, _, e⟩ := List.mem_filterMap.mp hp
  split at e
  · cases e
  · rename_i hn
    cases q : h.get? b with
    | none => rw [q] at e; simp at e
    | some u =>
      rw [q] at e
      simp only [Option.map_some, Option.some.injEq] at e
      subst e
      refine ⟨fun z => hn (.inl z), ?_, q⟩
      show g.get? b = none
      cases r : g.get? b with
      | none => rfl
      | some v => exact (hn (.inr (by simp [r]))).elim
def rest (g h : Heap) (L d : Addr) : List (Addr × Obj) := (allNews g h L).filter fun p => decide (p.1 ≠ d)
theorem rest_ne {g h : Heap} {L d : Addr} : ∀ p ∈ rest g h L d, p.1 ≠ d := fun p hp => of_decide_eq_true (List.mem_filter.mp hp).2
theorem mem_rest {g h : Heap} {L d a : Addr} {o : Obj} (h1 : a ≠ L) (h2 : g.get? a = none) (h3 : h.get? a = some o) (h4 : a ≠ d) : (a, o) ∈ rest g h L d :=
  List.mem_filter.mpr ⟨mem_allNews h1 h2 h3, decide_eq_true h4⟩
theorem news_all {g h : Heap} {L : Addr} : News g L h (allNews g h L) := fun p hp => let ⟨a, b, c⟩ := of_mem_allNews hp; ⟨c, a, b⟩
theorem news_at {g h : Heap} {L d : Addr} {o : Obj} (h1 : d ≠ L) (h2 : g.get? d = none) (h3 : h.get? d = some o) : News g L h ((d, o) :: rest g h L d) := fun p hp => by
  rcases List.mem_cons.mp hp with rfl | hp
  · exact ⟨h3, h1, h2⟩
  · exact news_all p (List.mem_filter.mp hp).1
/-- behind a rule that changed d alone: all else but the frame is kept -/
theorem kept_of_news {g h h' : Heap} {L d : Addr} {m : Str → Option Value} (k : ∀ b o, g.get? b = some o → h.get? b = some o) (F : Fr g L h' m) (N : News g L h' (rest g h L d)) :
    ∀ b o, b ≠ L → b ≠ d → h.get? b = some o → h'.get? b = some o := fun b o h1 h2 e => by
  cases q : g.get? b with
  | some u =>
    have := k b u q
    rw [e] at this; cases this
    exact F.keep b _ q
  | none => exact (N (b, o) (mem_rest h1 q e h2)).1
end L2

namespace L2
open PySem PySem.Spec PyProof.Rows

/-- the module's facts, over the base: the heap at the law's entry without what is tracked there -/
structure Mod (K : PySem.W.Frag) (mg : Str → Option Value) (base : Heap) : Prop where
  kin : K.In base
  glob : base.Ns mainGlobals mg
  blt : ∃ mb, base.Ns builtinsNs mb ∧ ∀ x : Str, x ≠ "__name__" → mb x = bootBuiltins x
  nolimit : base.NoLimit

/-- the context: a def's body (or a comprehension's block) running. base: fixed through the whole law; s₀, H₀: the entry; outer: the frames whose slots others may change (a def's callers); stack: all frames that run;
   ex: iterators that were made ahead of the entry and are walked here (a comprehension's); fn: the names whose cells were made at the entry (a def: all; a comprehension's block: its own); calm: not within an except suite; pn: pins that every state bears; xe: what is wanted of an exception that leaves the code -/
structure Cx where
  prog : Program
  w : World
  K : PySem.W.Frag
  mg : Str → Option Value
  base : Heap
  A : Around
  N : List Str
  s₀ : Shared
  H₀ : Hp
  env : Env
  outer : List Env
  stack : List Env
  ex : List Addr
  fn : Str → Bool
  calm : Bool
  pn : List (Addr × Obj)
  xe : Value → Shared → Prop
/-- the callers' frames -/
def frs (l : List Env) : List Addr := l.filterMap (·.frame)
abbrev Cx.fs (X : Cx) : List Addr := frs X.outer

def Vis (sc : Scope) (x : Str) : Prop := sc.names.lookup x = some .local ∨ sc.names.lookup x = some .cell ∨ sc.names.lookup x = some .free
def Loc (sc : Scope) (x : Str) : Prop := sc.names.lookup x = some .local ∨ sc.names.lookup x = some .cell
def Look (env : Env) (h : Heap) (m : Str → Option Value) (x : Str) (u : Value) : Prop :=
  (env.kindOf x = some .local ∧ m x = some u) ∨ ((env.kindOf x = some .cell ∨ env.kindOf x = some .free) ∧ ∃ c, env.cells.lookup x = some c ∧ h.IsCell c (some u))

structure Cx.Ok (X : Cx) : Prop where
  mod : Mod X.K X.mg X.base
  kind : X.env.scope.kind = .function
  glob : X.env.globals = mainGlobals
  blt : X.env.builtins = builtinsNs
  above : X.s₀.heap.objs.size ≤ X.env.locals
  inj : ∀ x y c, X.env.cells.lookup x = some c → X.env.cells.lookup y = some c → x = y
  has : ∀ x, (X.env.kindOf x = some .cell ∨ X.env.kindOf x = some .free) → ∃ c, X.env.cells.lookup x = some c
  cab : ∀ x c, X.fn x = true → X.env.cells.lookup x = some c → X.s₀.heap.objs.size ≤ c
  hd : X.calm = true → X.A.handled = none
  frames : X.A.frames = some X.stack
  stk : X.stack = X.outer ∨ (X.stack = X.env :: X.outer ∧ X.env.frame = some X.env.locals)
  exf : ∀ b ∈ X.ex, b ≠ X.env.locals ∧ ∀ x c, X.env.cells.lookup x = some c → c ≠ b
  bs : ∀ b o, X.base.get? b = some o → X.s₀.heap.get? b = some o ∧ X.H₀ b = none
  bsz : X.base.objs.size ≤ X.s₀.heap.objs.size
  noex : ∀ b o, X.base.get? b = some o → b ∉ X.ex
  exfs : ∀ b ∈ X.ex, b ∉ X.fs
  funs : X.s₀.heap.FunFrames X.base X.outer
  frf : ∀ b ∈ X.fs, X.H₀ b = none

structure Inv (X : Cx) (pins : List (Addr × Obj)) (σ : List (Option V)) (H : Hp) (s : Shared) : Prop where
  ok : X.Ok
  os : s.os = X.s₀.os
  bare : AllBare s.gens
  base : Un X.fs X.ex X.H₀ H X.s₀.heap s.heap
  loc : ∃ m, s.heap.Ns X.env.locals m ∧ ∀ (i : Nat) (x : Str) (v : V), X.N[i]? = some x → σ[i]? = some (some v) → Vis X.env.scope x → ∃ u, RelV v u ∧ Look X.env s.heap m x u
  cell : ∀ x c, X.env.cells.lookup x = some c → ∃ v, s.heap.IsCell c v
  free : H X.env.locals = none
  freeC : ∀ x c, X.env.cells.lookup x = some c → H c = none
  pin : ∀ p ∈ X.pn ++ pins, s.heap.get? p.1 = some p.2 ∧ H p.1 = none ∧ p.1 ≠ X.env.locals ∧ p.1 ∉ X.fs ∧ ∀ v, p.2.data ≠ .cell v
  hok : HOk X.prog X.w H s.heap
  len : σ.length = X.N.length

section
variable {X : Cx} {pins : List (Addr × Obj)} {σ : List (Option V)} {H H' : Hp} {s : Shared} {h' : Heap}

theorem Cx.Ok.nofr (ok : X.Ok) {b : Addr} {o : Obj} (e : X.base.get? b = some o) : b ∉ X.fs := fun hb => by
  have := (ok.funs.mem hb).1
  rw [e] at this; cases this
theorem Inv.bs (I : Inv X pins σ H s) : ∀ b o, X.base.get? b = some o → s.heap.get? b = some o ∧ H b = none := fun b o e =>
  ⟨I.base.keep b o (I.ok.bs b o e).1 (I.ok.bs b o e).2 (I.ok.nofr e) (I.ok.noex b o e), I.base.free b o (I.ok.bs b o e).1 (I.ok.bs b o e).2 (I.ok.noex b o e)⟩
theorem Inv.bk (I : Inv X pins σ H s) : ∀ b o, X.base.get? b = some o → s.heap.get? b = some o := fun b o e => (I.bs b o e).1
theorem Inv.mod (I : Inv X pins σ H s) : Mod X.K X.mg X.base := I.ok.mod
theorem Inv.kIn (I : Inv X pins σ H s) : X.K.In s.heap := I.ok.mod.kin.keeps I.bk
theorem Inv.nolimit (I : Inv X pins σ H s) : s.heap.NoLimit := I.ok.mod.nolimit.keeps I.bk
/-- the frame over the base: for OpenK's rules (K.In X.base is I.mod.kin) -/
theorem Inv.fr (I : Inv X pins σ H s) : ∃ m, Fr X.base X.env.locals s.heap m :=
  let ⟨m, hn, _⟩ := I.loc
  ⟨m, hn, I.bk, Nat.le_trans I.ok.bsz I.ok.above⟩
theorem Inv.lt (I : Inv X pins σ H s) : X.env.locals < s.heap.objs.size := let ⟨_, hn, _⟩ := I.loc; hn.lt
theorem Inv.sz (I : Inv X pins σ H s) : X.s₀.heap.objs.size ≤ s.heap.objs.size := Nat.le_trans I.ok.above (Nat.le_of_lt I.lt)
theorem Inv.nofs (I : Inv X pins σ H s) {a : Addr} (h : s.heap.objs.size ≤ a) : a ∉ X.fs := fun hb => by
  obtain ⟨_, o, ho, _⟩ := I.ok.funs.mem hb
  exact absurd (Nat.lt_of_lt_of_le (Heap.lt_size ho) (Nat.le_trans I.sz h)) (Nat.lt_irrefl _)
theorem Inv.cne (I : Inv X pins σ H s) : ∀ x c, X.env.cells.lookup x = some c → c ≠ X.env.locals := fun x c e z => by
  obtain ⟨v, o, ho, hd⟩ := I.cell x c e
  obtain ⟨m, ⟨o', es, ep, ho', hd', _⟩, _⟩ := I.loc
  rw [z, ho'] at ho; cases ho; rw [hd'] at hd; cases hd
theorem Inv.funs (I : Inv X pins σ H s) : s.heap.FunFrames X.base X.outer := by
  have all : ∀ (l : List Env), (∀ b ∈ frs l, b ∈ X.fs) → X.s₀.heap.FunFrames X.base l → s.heap.FunFrames X.base l := by
    intro l
    induction l with
    | nil => intro _ _; trivial
    | cons env r ih =>
      intro hs hl
      obtain ⟨hk, ⟨L, o, hf, hn, ho, hd⟩, hr⟩ := hl
      have hL : L ∈ X.fs := hs L (by unfold frs; rw [List.filterMap_cons, hf]; exact List.mem_cons_self)
      obtain ⟨sl, e⟩ := I.base.slot L o ho (I.ok.frf L hL) hL fun z => I.ok.exfs L z hL
      exact ⟨hk, ⟨L, _, hf, hn, e, hd⟩, ih (fun b hb => hs b (by unfold frs; rw [List.filterMap_cons, hf]; exact List.mem_cons_of_mem _ hb)) hr⟩
  exact all X.outer (fun _ hb => hb) I.ok.funs

/-- the frames that run, for a call -/
theorem Inv.stack (I : Inv X pins σ H s) : s.heap.FunFrames X.base X.stack := by
  rcases I.ok.stk with e | ⟨e, hf⟩
  · rw [e]; exact I.funs
  · rw [e]
    obtain ⟨m, hn, _⟩ := I.loc
    refine .cons (by rw [I.ok.kind]; decide) hf hn ?_ I.funs
    exact Heap.get?_none_of_le (Nat.le_trans I.ok.bsz I.ok.above)
theorem Inv.stkSub (I : Inv X pins σ H s) : ∀ b ∈ frs X.stack, b ∈ X.env.locals :: X.fs := fun b hb => by
  rcases I.ok.stk with e | ⟨e, hf⟩
  · rw [e] at hb; exact List.mem_cons_of_mem _ hb
  · rw [e] at hb
    unfold frs at hb
    rw [List.filterMap_cons, hf] at hb
    exact hb
theorem Inv.stkFree (I : Inv X pins σ H s) : ∀ b ∈ frs X.stack, H b = none := fun b hb => by
  rcases List.mem_cons.mp (I.stkSub b hb) with e | hb
  · rw [e]; exact I.free
  · obtain ⟨_, o, ho, _⟩ := I.ok.funs.mem hb
    exact I.base.free b o ho (I.ok.frf b hb) fun z => I.ok.exfs b z hb

/-- THE STEP: the untracked objects but the frame and the records at ch are kept (the callers' frames up to slots), the frame's map is kept, the new abstract heap is held -/
theorem Inv.step {g' : Array GenState} {t' : Nat} {d' : Drawn} {ch : List Addr} (I : Inv X pins σ H s)
    (hch : ∀ b ∈ ch, (b ∈ X.ex ∨ X.s₀.heap.objs.size ≤ b) ∧ b ≠ X.env.locals ∧ (∀ x c, X.env.cells.lookup x = some c → c ≠ b) ∧ ∀ p ∈ X.pn ++ pins, p.1 ≠ b)
    (keep : ∀ b o, b ≠ X.env.locals → b ∉ X.fs → b ∉ ch → s.heap.get? b = some o → H b = none → h'.get? b = some o)
    (slot : ∀ b o, b ≠ X.env.locals → b ∈ X.fs → b ∉ ch → s.heap.get? b = some o → H b = none → ∃ sl, h'.get? b = some { o with slots := sl }) (free : ∀ b o, b ∉ ch → s.heap.get? b = some o → H b = none → H' b = none)
    (there : ∀ b o, b ∉ ch → s.heap.get? b = some o → ∃ o', h'.get? b = some o')
    (tups : ∀ b xs, H b = some (.tup xs) → H' b = some (.tup xs)) (frzs : ∀ b o u, H b = some (.frz o u) → H' b = some (.frz o u)) (tbls : ∀ b ps, H b = some (.tbl ps) → ∃ more, H' b = some (.tbl (ps ++ more)))
    (ns : ∀ m, s.heap.Ns X.env.locals m → h'.Ns X.env.locals m) (hok : HOk X.prog X.w H' h') (hg : AllBare g') :
    Inv X pins σ H' { s with heap := h', gens := g', drawn := d', toks := t' } := by
  have neL : ∀ b o, X.s₀.heap.get? b = some o → b ≠ X.env.locals := fun b o e => Nat.ne_of_lt (Nat.lt_of_lt_of_le (Heap.lt_size e) I.ok.above)
  have neC : ∀ b o, X.s₀.heap.get? b = some o → b ∉ X.ex → b ∉ ch := fun b o e hx hb => by
    rcases (hch b hb).1 with z | z
    · exact hx z
    · exact absurd (Nat.lt_of_lt_of_le (Heap.lt_size e) z) (Nat.lt_irrefl _)
  have cellK : ∀ x c, X.env.cells.lookup x = some c → ∀ v, s.heap.IsCell c v → h'.IsCell c v := fun x c e v ⟨o, ho, hd⟩ => by
    have nch : c ∉ ch := fun z => (hch c z).2.2.1 x c e rfl
    by_cases hc : c ∈ X.fs
    · obtain ⟨sl, q⟩ := slot c o (I.cne x c e) hc nch ho (I.freeC x c e)
      exact ⟨_, q, hd⟩
    · exact ⟨o, keep c o (I.cne x c e) hc nch ho (I.freeC x c e), hd⟩
  refine ⟨I.ok, I.os, hg, ⟨fun b o e n hb hx => ?_, fun b o e n hb hx => ?_, fun b o e n hx => ?_, fun b o e hx => ?_, fun b xs e => tups b xs (I.base.tups b xs e), fun b o xs e => frzs b o xs (I.base.frzs b o xs e), fun b ps e => ?_⟩, ?_, fun x c e => ?_, ?_, fun x c e => ?_, fun p hp => ?_, hok, I.len⟩
  · exact keep b o (neL b o e) hb (neC b o e hx) (I.base.keep b o e n hb hx) (I.base.free b o e n hx)
  · obtain ⟨sl, e1⟩ := I.base.slot b o e n hb hx
    obtain ⟨sl', e2⟩ := slot b _ (neL b o e) hb (neC b o e hx) e1 (I.base.free b o e n hx)
    exact ⟨sl', e2⟩
  · obtain ⟨o', e1⟩ := I.base.there b o e hx
    exact free b o' (neC b o e hx) e1 (I.base.free b o e n hx)
  · obtain ⟨o', e1⟩ := I.base.there b o e hx
    exact there b o' (neC b o e hx) e1
  · obtain ⟨m1, e1⟩ := I.base.tbls b ps e
    obtain ⟨m2, e2⟩ := tbls b _ e1
    exact ⟨m1 ++ m2, by rw [e2, Array.append_assoc]⟩
  · obtain ⟨m, hn, hl⟩ := I.loc
    refine ⟨m, ns m hn, fun i x v e1 e2 e3 => ?_⟩
    obtain ⟨u, r, l⟩ := hl i x v e1 e2 e3
    refine ⟨u, r, ?_⟩
    rcases l with l | ⟨k, c, e, z⟩
    · exact .inl l
    · exact .inr ⟨k, c, e, cellK x c e _ z⟩
  · obtain ⟨v, z⟩ := I.cell x c e
    exact ⟨v, cellK x c e v z⟩
  · obtain ⟨m, ⟨o, _, _, ho, _⟩, _⟩ := I.loc
    exact free _ o (fun z => (hch _ z).2.1 rfl) ho I.free
  · obtain ⟨v, o, ho, hd⟩ := I.cell x c e
    exact free c o (fun z => (hch c z).2.2.1 x c e rfl) ho (I.freeC x c e)
  · obtain ⟨e, n, ne, nf, d⟩ := I.pin p hp
    have nch : p.1 ∉ ch := fun z => (hch p.1 z).2.2.2 p hp rfl
    exact ⟨keep p.1 p.2 ne nf nch e n, free p.1 p.2 nch e n, ne, nf, d⟩
/-- .. where the frame's own object is kept too -/
theorem Inv.un {t' : Nat} (I : Inv X pins σ H s) (u : Un X.fs [] H H' s.heap h') (hok : HOk X.prog X.w H' h') : Inv X pins σ H' { s with heap := h', toks := t' } := by
  obtain ⟨m, ⟨o, es, ep, ho, r⟩, _⟩ := id I.loc
  obtain ⟨sl, hL⟩ := u.any ho I.free (by simp)
  exact I.step (g' := s.gens) (d' := s.drawn) (ch := []) (fun _ z => nomatch z) (fun b o _ hb _ e n => u.keep b o e n hb (by simp)) (fun b o _ hb _ e n => u.slot b o e n hb (by simp)) (fun b o _ e n => u.free b o e n (by simp)) (fun b o _ e => u.there b o e (by simp)) u.tups u.frzs u.tbls (fun m' hm => by
    obtain ⟨o', es', ep', ho', r'⟩ := hm
    rw [ho] at ho'; cases ho'
    exact ⟨_, es', ep', hL, r'⟩) hok I.bare
/-- behind a call (or a comprehension's block): the slots of this frame may have changed too, the records at ch may have turned -/
theorem Inv.call {g' : Array GenState} {t' : Nat} {d' : Drawn} {ch : List Addr} (I : Inv X pins σ H s) (u : Un (frs X.stack) ch H H' s.heap h') (hok : HOk X.prog X.w H' h') (hg : AllBare g')
    (hch : ∀ b ∈ ch, (b ∈ X.ex ∨ X.s₀.heap.objs.size ≤ b) ∧ b ≠ X.env.locals ∧ (∀ x c, X.env.cells.lookup x = some c → c ≠ b) ∧ ∀ p ∈ X.pn ++ pins, p.1 ≠ b) :
    Inv X pins σ H' { s with heap := h', gens := g', drawn := d', toks := t' } := by
  obtain ⟨m, ⟨o, es, ep, ho, r⟩, _⟩ := id I.loc
  obtain ⟨sl, hL⟩ := u.any ho I.free fun z => (hch _ z).2.1 rfl
  exact I.step (ch := ch) hch (fun b o hL hb hc e n => u.keep b o e n (fun z => (List.mem_cons.mp (I.stkSub b z)).elim hL hb) hc) (fun b o _ _ hc e n => u.any e n hc) (fun b o hc e n => u.free b o e n hc) (fun b o hc e => u.there b o e hc) u.tups u.frzs u.tbls (fun m' hm => by
    obtain ⟨o', es', ep', ho', r'⟩ := hm
    rw [ho] at ho'; cases ho'
    exact ⟨_, es', ep', hL, r'⟩) hok hg
/-- an untracked record of ours (an iterator) has turned -/
theorem Inv.turned {t' : Nat} {it : Addr} (I : Inv X pins σ H s) (k : ∀ b o, b ≠ it → s.heap.get? b = some o → h'.get? b = some o) (hn : H it = none) (hL : it ≠ X.env.locals)
    (h1 : it ∈ X.ex ∨ X.s₀.heap.objs.size ≤ it) (h2 : ∀ x c, X.env.cells.lookup x = some c → c ≠ it) (h3 : ∀ p ∈ X.pn ++ pins, p.1 ≠ it) : Inv X pins σ H { s with heap := h', toks := t' } := by
  have nit : ∀ b u, H b = some u → b ≠ it := fun b u e z => by rw [z, hn] at e; cases e
  refine I.step (g' := s.gens) (d' := s.drawn) (ch := [it]) (fun b hb => ?_) (fun b o _ _ hc e _ => k b o (fun z => hc (by simp [z])) e) (fun b o _ _ hc e _ => ⟨o.slots, k b o (fun z => hc (by simp [z])) e⟩) (fun _ _ _ _ n => n)
    (fun b o hc e => ⟨o, k b o (fun z => hc (by simp [z])) e⟩) (fun _ _ e => e) (fun _ _ _ e => e) (fun b ps e => ⟨#[], by rw [e]; simp⟩) (fun m hm => ?_) (fun b u e => ?_) I.bare
  · have e : b = it := by simpa using hb
    subst e
    exact ⟨h1, hL, h2, h3⟩
  · obtain ⟨o, es, ep, ho, r⟩ := hm
    exact ⟨o, es, ep, k _ o (Ne.symm hL) ho, r⟩
  · refine (I.hok b u e).stay (fun c v hc q => k c v ?_ q) (fun _ q => q) fun _ _ q => q
    rcases hc with z | z
    · rw [z]; exact nit b u e
    · exact nit c _ z
theorem Inv.tok (I : Inv X pins σ H s) (t : Nat) : Inv X pins σ H { s with toks := t } := I.un (h' := s.heap) (t' := t) Un.refl I.hok
/-- all objects kept -/
theorem Inv.kept {t' : Nat} (I : Inv X pins σ H s) (k : ∀ b u, s.heap.get? b = some u → h'.get? b = some u) : Inv X pins σ H { s with heap := h', toks := t' } := I.un (Un.kept k) (I.hok.kept k)
/-- a new object laid and tracked -/
theorem Inv.laid {a : Addr} {o : HO} {t' : Nat} (I : Inv X pins σ H s) (k : ∀ b u, s.heap.get? b = some u → h'.get? b = some u) (hp : s.heap.objs.size ≤ a) (new : ObjOk X.prog X.w (upd H a o) h' a o) :
    Inv X pins σ (upd H a o) { s with heap := h', toks := t' } := I.un (Un.laid k hp (I.hok.fresh hp)) (I.hok.laid k hp new)
/-- an object written -/
theorem Inv.write {x e : Addr} {o : HO} {t' : Nat} (I : Inv X pins σ H s) (mu : Mut (H x)) (he : e = x ∨ H e = some (.own x)) (k : ∀ b u, b ≠ e → s.heap.get? b = some u → h'.get? b = some u) (heo : ∃ u, h'.get? e = some u)
    (new : ObjOk X.prog X.w (upd H x o) h' x o) : Inv X pins σ (upd H x o) { s with heap := h', toks := t' } := I.un (Un.write mu he k heo) (I.hok.write mu he k heo new)
/-- forgetting slots, pins -/
theorem Inv.weak {σ' : List (Option V)} (I : Inv X pins σ H s) (hl : σ'.length = σ.length) (w : ∀ (i : Nat) v, σ'[i]? = some (some v) → σ[i]? = some (some v)) : Inv X pins σ' H s :=
  ⟨I.ok, I.os, I.bare, I.base, let ⟨m, hn, hl'⟩ := I.loc; ⟨m, hn, fun i x v e1 e2 e3 => hl' i x v e1 (w i v e2) e3⟩, I.cell, I.free, I.freeC, I.pin, I.hok, hl.trans I.len⟩
theorem Inv.pins_of {pins' : List (Addr × Obj)} (I : Inv X pins σ H s) (h : ∀ p ∈ pins', s.heap.get? p.1 = some p.2 ∧ H p.1 = none ∧ p.1 ≠ X.env.locals ∧ p.1 ∉ X.fs ∧ ∀ v, p.2.data ≠ .cell v) : Inv X pins' σ H s :=
  ⟨I.ok, I.os, I.bare, I.base, I.loc, I.cell, I.free, I.freeC, fun p hp => (List.mem_append.mp hp).elim (fun z => I.pin p (List.mem_append_left _ z)) (h p), I.hok, I.len⟩

theorem nodup_ix {N : List Str} (hN : N.Nodup) {i j : Nat} {x : Str} (a : N[i]? = some x) (b : N[j]? = some x) : i = j := by
  obtain ⟨h1, e1⟩ := List.getElem?_eq_some_iff.mp a
  obtain ⟨h2, e2⟩ := List.getElem?_eq_some_iff.mp b
  exact (List.getElem_inj hN).mp (e1.trans e2.symm)

/-- a name is stored; what changed -/
theorem store_ok2 {M : Model} {A : Around} {E : Value → Shared → Prop} {i : Nat} {x : Str} {v : V} {u : Value} {Q : Unit → Shared → Prop} (I : Inv X pins σ H s) (hN : X.N.Nodup) (hi : X.N[i]? = some x) (hx : Loc X.env.scope x) (r : RelV v u)
    (h : ∀ s', Inv X pins (σ.set i (some v)) H s' → (∃ a, Heap.SameBut a s.heap s'.heap ∧ (a = X.env.locals ∨ X.env.cells.lookup x = some a)) → Q () s') (hf : X.fn x = true ∨ X.env.scope.names.lookup x = some .local := by first | exact .inl rfl | exact .inr rfl | assumption) : wpAny M A (storeName X.env x u) Q E s := by
  obtain ⟨m, hn, hl⟩ := id I.loc
  have hcls : (X.env.scope.kind == .class || (X.env.scope.kind == .module && X.env.locals != X.env.globals)) = false := by rw [I.ok.kind]; rfl
  have hiσ : i < σ.length := by rw [I.len]; exact (List.getElem?_eq_some_iff.mp hi).1
  have cne := I.cne
  have tracked : ∀ {a : Addr} {h' : Heap}, (∃ o, s.heap.get? a = some o ∧ H a = none) → Heap.SameBut a s.heap h' → HOk X.prog X.w H h' := fun {a h'} ha hs b ob e => by
    obtain ⟨_, _, hfree⟩ := ha
    refine (I.hok b ob e).stay (fun c w' hc q => (hs.2 c ?_).trans q) (fun _ q => q) fun _ _ q => q
    rintro rfl
    rcases hc with rfl | hc
    · rw [hfree] at e; cases e
    · rw [hfree] at hc; cases hc
  rcases hx with hk | hk
  · refine wpAny_storeName_local hk hn (fun h' hn' hs => ?_) hcls
    obtain ⟨oL, _, _, hoL, _⟩ := id hn
    refine h _ ⟨I.ok, I.os, I.bare, ⟨fun b o e n hb hx => ?_, fun b o e n hb hx => ?_, I.base.free, fun b o e hx => ?_, I.base.tups, I.base.frzs, I.base.tbls⟩, ⟨_, hn', fun j y v' e1 e2 e3 => ?_⟩, fun y c e => ?_, I.free, I.freeC, fun p hp => ?_, tracked ⟨oL, hoL, I.free⟩ hs, by simpa using I.len⟩ ⟨_, hs, .inl rfl⟩
    · exact (hs.2 b (Nat.ne_of_lt (Nat.lt_of_lt_of_le (Heap.lt_size e) I.ok.above))).trans (I.base.keep b o e n hb hx)
    · obtain ⟨sl, e1⟩ := I.base.slot b o e n hb hx
      exact ⟨sl, (hs.2 b (Nat.ne_of_lt (Nat.lt_of_lt_of_le (Heap.lt_size e) I.ok.above))).trans e1⟩
    · obtain ⟨o', e1⟩ := I.base.there b o e hx
      exact ⟨o', (hs.2 b (Nat.ne_of_lt (Nat.lt_of_lt_of_le (Heap.lt_size e) I.ok.above))).trans e1⟩
    · by_cases hj : j = i
      · subst hj
        rw [hi] at e1; cases e1
        rw [List.getElem?_set_self hiσ] at e2
        cases e2
        exact ⟨u, r, .inl ⟨hk, by simp⟩⟩
      · rw [List.getElem?_set_ne (Ne.symm hj)] at e2
        obtain ⟨u', r', q⟩ := hl j y v' e1 e2 e3
        refine ⟨u', r', ?_⟩
        rcases q with ⟨k, e⟩ | ⟨k, c, e, z⟩
        · refine .inl ⟨k, ?_⟩
          have : y ≠ x := fun e => hj (nodup_ix hN e1 (e ▸ hi))
          simp [this, e]
        · exact .inr ⟨k, c, e, z.sameBut hs (cne y c e)⟩
    · obtain ⟨w', z⟩ := I.cell y c e
      exact ⟨w', z.sameBut hs (cne y c e)⟩
    · obtain ⟨e, n, ne, nf, d⟩ := I.pin p hp
      exact ⟨(hs.2 p.1 ne).trans e, n, ne, nf, d⟩
  · have hfn : X.fn x = true := by
      rcases hf with z | z
      · exact z
      · rw [z] at hk; cases hk
    obtain ⟨c, hc⟩ := I.ok.has x (.inl hk)
    obtain ⟨w', z⟩ := I.cell x c hc
    refine wpAny_storeName_cell I.ok.kind hk hc z (fun h' hc' hs => ?_)
    obtain ⟨oc, hoc, hocd⟩ := id z
    refine h { s with heap := h' } ⟨I.ok, I.os, I.bare, ⟨fun b o e n hb hx => ?_, fun b o e n hb hx => ?_, I.base.free, fun b o e hx => ?_, I.base.tups, I.base.frzs, I.base.tbls⟩, ⟨m, hn.sameBut hs (Ne.symm (cne x c hc)), fun j y v' e1 e2 e3 => ?_⟩, fun y c' e => ?_, I.free, I.freeC, fun p hp => ?_, tracked ⟨oc, hoc, I.freeC x c hc⟩ hs, by simpa using I.len⟩ ⟨c, hs, .inr hc⟩
    · exact (hs.2 b (Nat.ne_of_lt (Nat.lt_of_lt_of_le (Heap.lt_size e) (I.ok.cab x c hfn hc)))).trans (I.base.keep b o e n hb hx)
    · obtain ⟨sl, e1⟩ := I.base.slot b o e n hb hx
      exact ⟨sl, (hs.2 b (Nat.ne_of_lt (Nat.lt_of_lt_of_le (Heap.lt_size e) (I.ok.cab x c hfn hc)))).trans e1⟩
    · obtain ⟨o', e1⟩ := I.base.there b o e hx
      exact ⟨o', (hs.2 b (Nat.ne_of_lt (Nat.lt_of_lt_of_le (Heap.lt_size e) (I.ok.cab x c hfn hc)))).trans e1⟩
    · by_cases hj : j = i
      · subst hj
        rw [hi] at e1; cases e1
        rw [List.getElem?_set_self hiσ] at e2
        cases e2
        exact ⟨u, r, .inr ⟨.inl hk, c, hc, hc'⟩⟩
      · rw [List.getElem?_set_ne (Ne.symm hj)] at e2
        obtain ⟨u', r', q⟩ := hl j y v' e1 e2 e3
        refine ⟨u', r', ?_⟩
        rcases q with q | ⟨k, c', e, z'⟩
        · exact .inl q
        · refine .inr ⟨k, c', e, z'.sameBut hs ?_⟩
          rintro rfl
          exact hj (nodup_ix hN e1 (I.ok.inj _ _ _ e hc ▸ hi))
    · by_cases hcc : c' = c
      · subst hcc; exact ⟨_, hc'⟩
      · obtain ⟨w2, z2⟩ := I.cell y c' e
        exact ⟨w2, z2.sameBut hs hcc⟩
    · obtain ⟨e, n, ne, nf, d⟩ := I.pin p hp
      refine ⟨(hs.2 p.1 ?_).trans e, n, ne, nf, d⟩
      intro q
      rw [q, hoc] at e
      have q' : oc = p.2 := Option.some.inj e
      exact d w' (by rw [← q']; exact hocd)
theorem store_ok {M : Model} {A : Around} {E : Value → Shared → Prop} {i : Nat} {x : Str} {v : V} {u : Value} {Q : Unit → Shared → Prop} (I : Inv X pins σ H s) (hN : X.N.Nodup) (hi : X.N[i]? = some x) (hx : Loc X.env.scope x) (r : RelV v u)
    (h : ∀ s', Inv X pins (σ.set i (some v)) H s' → Q () s') (hf : X.fn x = true ∨ X.env.scope.names.lookup x = some .local := by first | exact .inl rfl | exact .inr rfl | assumption) : wpAny M A (storeName X.env x u) Q E s :=
  store_ok2 I hN hi hx r (fun s' I' _ => h s' I') hf
/-- behind a call or a block, the state as it is -/
theorem Inv.call' {s' : Shared} {ch : List Addr} (I : Inv X pins σ H s) (ho : s'.os = s.os) (u : Un (frs X.stack) ch H H' s.heap s'.heap) (hok : HOk X.prog X.w H' s'.heap) (hg : AllBare s'.gens)
    (hch : ∀ b ∈ ch, (b ∈ X.ex ∨ X.s₀.heap.objs.size ≤ b) ∧ b ≠ X.env.locals ∧ (∀ x c, X.env.cells.lookup x = some c → c ≠ b) ∧ ∀ p ∈ X.pn ++ pins, p.1 ≠ b) : Inv X pins σ H' s' := by
  obtain ⟨h', g', d', t', o'⟩ := s'
  have e : o' = s.os := ho
  subst e
  exact I.call (g' := g') (t' := t') (d' := d') u hok hg hch
end

/-! ### the judgements -/
/-- an exception: its class, its own dict's address (where it has one), the abstract heap behind it -/
abbrev XK := Value → Option Addr → Hp → Prop
abbrev St := List (Option V)
abbrev VK := V → Hp → Prop
/-- an expression's reading; a test's; an argument list's -/
abbrev TE := St → Hp → VK → Prop
abbrev TT := St → Hp → (Bool → Hp → Prop) → Prop
abbrev TA := St → Hp → (List V → Hp → Prop) → Prop
/-- what is wanted behind a statement -/
structure Ends where
  nx : St → Hp → Prop
  rt : VK
  bk : St → Hp → Prop := fun _ _ => False
  ct : St → Hp → Prop := fun _ _ => False
abbrev TS := Ends → St → Hp → Prop

def EP (X : Cx) (pins : List (Addr × Obj)) (σ : St) (Q : VK) (u : Value) (s' : Shared) : Prop := ∃ v H', Inv X pins σ H' s' ∧ RelV v u ∧ Q v H'
def TP (X : Cx) (pins : List (Addr × Obj)) (σ : St) (Q : Bool → Hp → Prop) (b : Bool) (s' : Shared) : Prop := ∃ H', Inv X pins σ H' s' ∧ Q b H'
def AP (X : Cx) (pins : List (Addr × Obj)) (σ : St) (Q : List V → Hp → Prop) (us : List Value) (s' : Shared) : Prop := ∃ vs H', Inv X pins σ H' s' ∧ Vals vs us ∧ Q vs H'
def SP (X : Cx) (pins : List (Addr × Obj)) (D : Ends) (f : Flow) (s' : Shared) : Prop :=
  match f with
  | .next => ∃ σ' H', Inv X pins σ' H' s' ∧ D.nx σ' H'
  | .brk => ∃ σ' H', Inv X pins σ' H' s' ∧ D.bk σ' H'
  | .cont => ∃ σ' H', Inv X pins σ' H' s' ∧ D.ct σ' H'
  | .ret u => ∃ v σ' H', Inv X pins σ' H' s' ∧ RelV v u ∧ D.rt v H'

def PE (X : Cx) (e : Expr) (t : TE) : Prop :=
  ∀ (pins : List (Addr × Obj)) (s : Shared) (σ : St) (H : Hp) (Q : VK), Inv X pins σ H s → t σ H Q → wpAny (model X.prog X.w) X.A (eval e X.env) (EP X pins σ Q) X.xe s
def PT (X : Cx) (e : Expr) (t : TT) : Prop :=
  ∀ (pins : List (Addr × Obj)) (s : Shared) (σ : St) (H : Hp) (Q : Bool → Hp → Prop), Inv X pins σ H s → t σ H Q → wpAny (model X.prog X.w) X.A (isTrue e X.env (eval e X.env)) (TP X pins σ Q) X.xe s
/-- a test whatever its 'whole' is (and, or) -/
def PW (X : Cx) (e : Expr) (t : TT) : Prop :=
  ∀ (whole : Sem Value) (pins : List (Addr × Obj)) (s : Shared) (σ : St) (H : Hp) (Q : Bool → Hp → Prop), Inv X pins σ H s → t σ H Q → wpAny (model X.prog X.w) X.A (isTrue e X.env whole) (TP X pins σ Q) X.xe s
theorem PW.pt {X : Cx} {e : Expr} {t : TT} (h : PW X e t) : PT X e t := h _
/-- an argument list (no star), from the left -/
def PA (X : Cx) (es : List Expr) (t : TA) : Prop :=
  ∀ (pos : Pos) (pins : List (Addr × Obj)) (s : Shared) (σ : St) (H : Hp) (Q : List V → Hp → Prop), Inv X pins σ H s → t σ H Q → wpAny (model X.prog X.w) X.A (spliced (backTo pos (starEach es X.env))) (AP X pins σ Q) X.xe s
def PS (X : Cx) (st : Stmt) (t : TS) : Prop :=
  ∀ (pins : List (Addr × Obj)) (s : Shared) (σ : St) (H : Hp) (D : Ends), Inv X pins σ H s → t D σ H → wpAny (model X.prog X.w) X.A (exec st X.env) (SP X pins D) X.xe s
def PSs (X : Cx) (st : List Stmt) (t : TS) : Prop :=
  ∀ (pins : List (Addr × Obj)) (s : Shared) (σ : St) (H : Hp) (D : Ends), Inv X pins σ H s → t D σ H → wpAny (model X.prog X.w) X.A (execs st X.env) (SP X pins D) X.xe s
/-- weaken the end -/
theorem thn {α : Type} {t : Sem α} {Q Q' : α → Shared → Prop} {M : Model} {A : Around} {E : Value → Shared → Prop} {s : Shared} (h : wpAny M A t Q E s) (hQ : ∀ a s, Q a s → Q' a s) : wpAny M A t Q' E s := wpAny_mono h hQ fun _ _ x => x
end L2

namespace L2
open PySem PySem.Spec PyProof.Rows
section
variable {X : Cx}

/-- two expressions in a row -/
theorem bin {a b : Expr} {ta tb : TE} (ha : PE X a ta) (hb : PE X b tb) {pins : List (Addr × Obj)} {s : Shared} {σ : St} {H : Hp} {R : V → V → Hp → Prop} (I : Inv X pins σ H s) (h : ta σ H fun x H1 => tb σ H1 fun y H2 => R x y H2)
    {α : Type} {Q : α → Shared → Prop} {f : Value → Value → Sem α}
    (hf : ∀ v u s2 x y H2, Inv X pins σ H2 s2 → RelV x v → RelV y u → R x y H2 → wpAny (model X.prog X.w) X.A (f v u) Q X.xe s2) :
    wpAny (model X.prog X.w) X.A (eval a X.env) (fun v s₁ => wpAny (model X.prog X.w) X.A (eval b X.env) (fun u s₂ => wpAny (model X.prog X.w) X.A (f v u) Q X.xe s₂) X.xe s₁) X.xe s := by
  refine thn (ha pins s σ H _ I h) fun v s1 ⟨x, H1, I1, r1, q1⟩ => ?_
  refine thn (hb pins s1 σ H1 _ I1 q1) fun u s2 ⟨y, H2, I2, r2, q2⟩ => ?_
  exact hf v u s2 x y H2 I2 r1 r2 q2

/-! ### names and constants -/
def tVar (i : Nat) : TE := fun σ H Q => ∃ v, σ[i]? = some (some v) ∧ Q v H
def tC (v : V) : TE := fun _ H Q => Q v H
theorem pe_var {i : Nat} {x : Str} {pos : Pos} (hN : X.N[i]? = some x) (hv : Vis X.env.scope x) (hd : (x == ("__debug__" : Str)) = false := by decide) (hcd : (x == ("__classdict__" : Str)) = false := by decide) : PE X (.Name x pos) (tVar i) := by
  intro pins s σ H Q I h
  obtain ⟨v, e, h⟩ := h
  obtain ⟨m, hn, hl⟩ := I.loc
  obtain ⟨u, r, l⟩ := hl i x v hN e hv
  have fin : EP X pins σ Q u s := ⟨v, H, I, r, h⟩
  rcases l with ⟨hk, hm⟩ | ⟨hk, c, hc, hcell⟩
  · exact wpAny_Name (wpAny_loadName_local I.ok.kind hk hn hm fin) hd
  · rcases hk with hk | hk
    · exact wpAny_Name (wpAny_loadName_cell I.ok.kind hk hc hcell fin) hd
    · exact wpAny_Name (wpAny_loadName_free I.ok.kind hk hc hcell fin hcd) hd
theorem pe_int {i j pos} : PE X (.Constant (.int i) j pos) (tC (.int i)) := fun _ _ _ H _ I h => wpAny_Constant_int ⟨.int i, H, I.tok _, ⟨_, rfl⟩, h⟩
theorem pe_bl {b j pos} : PE X (.Constant (.bool b) j pos) (tC (.bl b)) := fun _ _ _ H _ I h => Constant_bool ⟨.bl b, H, I, rfl, h⟩
theorem pe_non {j pos} : PE X (.Constant .none j pos) (tC .non) := fun _ _ _ H _ I h => Constant_none ⟨.non, H, I, rfl, h⟩
theorem pe_str {x j pos} : PE X (.Constant (.str x) j pos) (tC (.str x)) := fun _ _ _ H _ I h => Calls.Constant_str ⟨.str x, H, I.tok _, ⟨_, rfl⟩, h⟩

/-- a global name of the def -/
def Gl (X : Cx) (x : Str) : Prop := X.env.kindOf x = some .globalImplicit
theorem ld_glob {E : Value → Shared → Prop} {pins : List (Addr × Obj)} {s : Shared} {σ : St} {H : Hp} {x : Str} {u : Value} {pos : Pos} {Q : Value → Shared → Prop} (I : Inv X pins σ H s) (hg : Gl X x) (hm : X.mg x = some u) (h : Q u s)
    (hd : (x == ("__debug__" : Str)) = false := by decide) : wpAny (model X.prog X.w) X.A (eval (.Name x pos) X.env) Q E s :=
  Calls.Name_function_global I.ok.kind hg (Calls.loadGlobal_global (by rw [I.ok.glob]; exact I.mod.glob.keeps I.bk) hm h) hd
theorem ld_blt {E : Value → Shared → Prop} {pins : List (Addr × Obj)} {s : Shared} {σ : St} {H : Hp} {x : Str} {u : Value} {pos : Pos} {Q : Value → Shared → Prop} (I : Inv X pins σ H s) (hg : Gl X x) (hm : X.mg x = none) (hv : bootBuiltins x = some u) (h : Q u s)
    (hn : x ≠ "__name__" := by decide) (hd : (x == ("__debug__" : Str)) = false := by decide) : wpAny (model X.prog X.w) X.A (eval (.Name x pos) X.env) Q E s := by
  obtain ⟨mb, h1, h2⟩ := I.mod.blt
  exact Calls.Name_function_global I.ok.kind hg (Calls.loadGlobal_builtin (by rw [I.ok.glob]; exact I.mod.glob.keeps I.bk) hm (by rw [I.ok.blt]; exact h1.keeps I.bk) ((h2 x hn).trans hv) h) hd
/-- a module's constant, a class, a function, as a value -/
theorem pe_glob {x : Str} {v : V} {u : Value} {pos : Pos} (hg : Gl X x) (hm : X.mg x = some u) (r : RelV v u) (hd : (x == ("__debug__" : Str)) = false := by decide) : PE X (.Name x pos) (tC v) :=
  fun _ _ _ H _ I h => ld_glob I hg hm ⟨v, H, I, r, h⟩ hd
theorem pe_bltn {x : Str} {v : V} {u : Value} {pos : Pos} (hg : Gl X x) (hm : X.mg x = none) (hv : bootBuiltins x = some u) (r : RelV v u) (hn : x ≠ "__name__" := by decide) (hd : (x == ("__debug__" : Str)) = false := by decide) : PE X (.Name x pos) (tC v) :=
  fun _ _ _ H _ I h => ld_blt I hg hm hv ⟨v, H, I, r, h⟩ hn hd

/-! ### arithmetic -/
/-- two ints -/
def t2I (ta tb : TE) (k : Int → Int → Hp → Prop) : St → Hp → Prop := fun σ H => ta σ H fun x H1 => tb σ H1 fun y H2 => ∃ i j, x = .int i ∧ y = .int j ∧ k i j H2
def tAdd (ta tb : TE) : TE := fun σ H Q => t2I ta tb (fun i j H2 => Q (.int (i + j)) H2) σ H
def tSub (ta tb : TE) : TE := fun σ H Q => t2I ta tb (fun i j H2 => Q (.int (i - j)) H2) σ H
/-- the left factor below 2^64 -/
def tMul (ta tb : TE) : TE := fun σ H Q => t2I ta tb (fun i j H2 => (-(2 ^ 64) < i ∧ i < 2 ^ 64) ∧ Q (.int (i * j)) H2) σ H
variable {a b : Expr} {ta tb : TE} {pos : Pos}
theorem pe_add (ha : PE X a ta) (hb : PE X b tb) : PE X (.BinOp a .Add b pos) (tAdd ta tb) := by
  intro pins s σ H Q I h
  refine wpAny_BinOp (bin ha hb I h fun v u s2 x y H2 I2 rx ry q => ?_)
  obtain ⟨i, j, rfl, rfl, q⟩ := q
  obtain ⟨t, rfl⟩ := rx
  obtain ⟨t', rfl⟩ := ry
  exact add_int ⟨.int _, H2, I2.tok _, ⟨_, rfl⟩, q⟩
theorem pe_sub (ha : PE X a ta) (hb : PE X b tb) : PE X (.BinOp a .Sub b pos) (tSub ta tb) := by
  intro pins s σ H Q I h
  refine wpAny_BinOp (bin ha hb I h fun v u s2 x y H2 I2 rx ry q => ?_)
  obtain ⟨i, j, rfl, rfl, q⟩ := q
  obtain ⟨t, rfl⟩ := rx
  obtain ⟨t', rfl⟩ := ry
  exact sub_int ⟨.int _, H2, I2.tok _, ⟨_, rfl⟩, q⟩
theorem pe_mul (ha : PE X a ta) (hb : PE X b tb) : PE X (.BinOp a .Mult b pos) (tMul ta tb) := by
  intro pins s σ H Q I h
  refine wpAny_BinOp (bin ha hb I h fun v u s2 x y H2 I2 rx ry q => ?_)
  obtain ⟨i, j, rfl, rfl, ⟨q1, q2⟩, q⟩ := q
  obtain ⟨t, rfl⟩ := rx
  obtain ⟨t', rfl⟩ := ry
  exact mul_int ⟨.int _, H2, I2.tok _, ⟨_, rfl⟩, q⟩ (.of_left (intBits_le_64 q1 q2))

/-! ### comparisons -/
def PC (X : Cx) (op : CmpOp) (a b : Expr) (t : TE) : Prop :=
  ∀ (pins : List (Addr × Obj)) (s : Shared) (σ : St) (H : Hp) (Q : VK), Inv X pins σ H s → t σ H Q →
    wpAny (model X.prog X.w) X.A (eval a X.env) (fun v s₁ => wpAny (model X.prog X.w) X.A (eval b X.env) (fun u s₂ => wpAny (model X.prog X.w) X.A (compareOp op v u) (EP X pins σ Q) X.xe s₂) X.xe s₁) X.xe s
theorem nobehind (b : Expr) {op : CmpOp} (h : op ≠ .In) (h2 : op ≠ .NotIn) : behindInMarks op b = false := by
  have e1 : (op == CmpOp.In) = false := by cases op <;> first | rfl | exact absurd rfl h
  have e2 : (op == CmpOp.NotIn) = false := by cases op <;> first | rfl | exact absurd rfl h2
  cases b <;> simp [behindInMarks, e1, e2]
def tCmp (p : Int → Int → Bool) (ta tb : TE) : TE := fun σ H Q => t2I ta tb (fun i j H2 => Q (.bl (p i j)) H2) σ H
abbrev tLt : TE → TE → TE := tCmp fun i j => decide (i < j)
abbrev tLe : TE → TE → TE := tCmp fun i j => decide (i ≤ j)
abbrev tGt : TE → TE → TE := tCmp fun i j => decide (j < i)
abbrev tGe : TE → TE → TE := tCmp fun i j => decide (j ≤ i)
abbrev tEqI : TE → TE → TE := tCmp fun i j => decide (i = j)
abbrev tNeI : TE → TE → TE := tCmp fun i j => !decide (i = j)
/-- a comparison of two ints, by its rule -/
theorem pc_int {op : CmpOp} {p : Int → Int → Bool} (ha : PE X a ta) (hb : PE X b tb)
    (rule : ∀ (i j : Int) (t u : Tok) (Q : Value → Shared → Prop) (s : Shared), Q (.bool (p i j)) s → wpAny (model X.prog X.w) X.A (compareOp op (.int i t) (.int j u)) Q X.xe s) : PC X op a b (tCmp p ta tb) := by
  intro pins s σ H Q I h
  refine bin ha hb I h fun v u s2 x y H2 I2 rx ry q => ?_
  obtain ⟨i, j, rfl, rfl, q⟩ := q
  obtain ⟨t, rfl⟩ := rx
  obtain ⟨t', rfl⟩ := ry
  exact rule i j t t' _ s2 ⟨.bl _, H2, I2, rfl, q⟩
theorem pc_lt (ha : PE X a ta) (hb : PE X b tb) : PC X .Lt a b (tLt ta tb) := pc_int ha hb fun _ _ _ _ _ _ h => lt_int h
theorem pc_le (ha : PE X a ta) (hb : PE X b tb) : PC X .LtE a b (tLe ta tb) := pc_int ha hb fun _ _ _ _ _ _ h => le_int h
theorem pc_gt (ha : PE X a ta) (hb : PE X b tb) : PC X .Gt a b (tGt ta tb) := pc_int ha hb fun _ _ _ _ _ _ h => gt_int h
theorem pc_ge (ha : PE X a ta) (hb : PE X b tb) : PC X .GtE a b (tGe ta tb) := pc_int ha hb fun _ _ _ _ _ _ h => ge_int h
theorem pc_eqI (ha : PE X a ta) (hb : PE X b tb) : PC X .Eq a b (tEqI ta tb) := pc_int ha hb fun _ _ _ _ _ _ h => eq_int (by rw [Bool.beq_eq_decide_eq]; exact h)
theorem pc_neI (ha : PE X a ta) (hb : PE X b tb) : PC X .NotEq a b (tNeI ta tb) := pc_int ha hb fun _ _ _ _ _ _ h => ne_int (by rw [bne, Bool.beq_eq_decide_eq]; exact h)
/-- is None -/
def tIsN (ta : TE) : TE := fun σ H Q => ta σ H fun x H1 => Q (.bl (decide (x = .non))) H1
def tNotN (ta : TE) : TE := fun σ H Q => ta σ H fun x H1 => Q (.bl (!decide (x = .non))) H1
theorem RelV.none_iff {x : V} {v : Value} (r : RelV x v) : (v == Value.none) = decide (x = .non) := by
  cases x with
  | non => cases r; rfl
  | bl _ => cases r; rfl
  | int _ => obtain ⟨t, rfl⟩ := r; rfl
  | str _ => obtain ⟨t, rfl⟩ := r; rfl
  | byt _ => obtain ⟨t, rfl⟩ := r; rfl
  | flt _ => obtain ⟨t, rfl⟩ := r; rfl
  | ref _ => cases r; rfl
  | ty _ => cases r; rfl
theorem pc_isN {j pos'} (ha : PE X a ta) : PC X .Is a (.Constant .none j pos') (tIsN ta) := by
  intro pins s σ H Q I h
  refine thn (ha pins s σ H _ I h) fun v s1 ⟨x, H1, I1, r1, q1⟩ => ?_
  exact Constant_none (is_none_gen ⟨.bl _, H1, I1, by rw [r1.none_iff]; rfl, q1⟩)
theorem pc_notN {j pos'} (ha : PE X a ta) : PC X .IsNot a (.Constant .none j pos') (tNotN ta) := by
  intro pins s σ H Q I h
  refine thn (ha pins s σ H _ I h) fun v s1 ⟨x, H1, I1, r1, q1⟩ => ?_
  exact Constant_none (isnot_none_gen ⟨.bl _, H1, I1, by rw [r1.none_iff]; rfl, q1⟩)
/-- a comparison as a value, as a test -/
def tB (t : TE) : TT := fun σ H Q => t σ H fun x H1 => ∃ c, x = .bl c ∧ Q c H1
theorem pe_cmp {op : CmpOp} {t : TE} (h : PC X op a b t) (h1 : behindInMarks op b = false := by first | exact nobehind _ (by decide) (by decide) | rfl) : PE X (.Compare a [op] [b] pos) t := fun pins s σ H Q I hw => wpAny_Compare1 (h pins s σ H Q I hw) h1
theorem pt_cmp {op : CmpOp} {t : TE} (h : PC X op a b t) (h1 : behindInMarks op b = false := by first | exact nobehind _ (by decide) (by decide) | rfl) : PT X (.Compare a [op] [b] pos) (tB t) := by
  intro pins s σ H Q I hw
  refine wpAny_isTrue_Compare1 (thn (h pins s σ H _ I hw) fun v s1 h1 => thn h1 fun u s2 h2 => thn h2 fun c s3 ⟨x, H1, I1, r1, q1⟩ => ?_) h1
  obtain ⟨d, rfl, q⟩ := q1
  cases r1
  exact wpAny_truthy_bool ⟨H1, I1, q⟩
/-- an expression whose value is a bool, as a test -/
theorem pt_val {e : Expr} {t : TE} (h : PE X e t) (he : ∀ whole, isTrue e X.env whole = (do let v ← whole; standAt e.pos; holding [v] (truthy v)) := by intro _; rfl) : PT X e (tB t) := by
  intro pins s σ H Q I hw
  refine isTrue_plain (thn (h pins s σ H _ I hw) fun v s1 ⟨x, H1, I1, r1, q1⟩ => ?_) (he _)
  obtain ⟨d, rfl, q⟩ := q1
  cases r1
  exact wpAny_truthy_bool ⟨H1, I1, q⟩

/-! ### and, or, not -/
variable {tA tB' : TT} {rest : List Expr}
def tAnd (t u : TT) : TT := fun σ H Q => t σ H fun c H1 => if c = true then u σ H1 Q else Q false H1
def tOr (t u : TT) : TT := fun σ H Q => t σ H fun c H1 => if c = true then Q true H1 else u σ H1 Q
def tNot (t : TT) : TT := fun σ H Q => t σ H fun c H1 => Q (!c) H1
theorem pw_and1 (ha : PT X a tA) : PW X (.BoolOp .And [a] pos) tA := by
  intro wh pins s σ H Q I h
  refine isTrue_and (thn (ha pins s σ H Q I h) fun c s1 e => ?_)
  cases c with
  | true => exact isTrue_and_nil e
  | false => exact e
theorem pw_or1 (ha : PT X a tA) : PW X (.BoolOp .Or [a] pos) tA := by
  intro wh pins s σ H Q I h
  refine isTrue_or (thn (ha pins s σ H Q I h) fun c s1 e => ?_)
  cases c with
  | false => exact isTrue_or_nil e
  | true => exact e
theorem pw_and (ha : PT X a tA) (hb : PW X (.BoolOp .And (b :: rest) pos) tB') : PW X (.BoolOp .And (a :: b :: rest) pos) (tAnd tA tB') := by
  intro wh pins s σ H Q I h
  refine isTrue_and (thn (ha pins s σ H _ I h) fun c s1 ⟨H1, I1, q1⟩ => ?_)
  cases c with
  | true => exact hb wh pins s1 σ H1 Q I1 q1
  | false => exact ⟨H1, I1, q1⟩
theorem pw_or (ha : PT X a tA) (hb : PW X (.BoolOp .Or (b :: rest) pos) tB') : PW X (.BoolOp .Or (a :: b :: rest) pos) (tOr tA tB') := by
  intro wh pins s σ H Q I h
  refine isTrue_or (thn (ha pins s σ H _ I h) fun c s1 ⟨H1, I1, q1⟩ => ?_)
  cases c with
  | true => exact ⟨H1, I1, q1⟩
  | false => exact hb wh pins s1 σ H1 Q I1 q1
theorem pt_not (ha : PT X a tA) : PT X (.UnaryOp .Not a pos) (tNot tA) := by
  intro pins s σ H Q I h
  exact isTrue_not (ha pins s σ H (fun c H1 => Q (!c) H1) I h)
/-- .. as values (bools) -/
def tAndV (ta tb : TE) : TE := fun σ H Q => ta σ H fun x H1 => ∃ c, x = .bl c ∧ if c = true then tb σ H1 Q else Q (.bl false) H1
def tOrV (ta tb : TE) : TE := fun σ H Q => ta σ H fun x H1 => ∃ c, x = .bl c ∧ if c = true then Q (.bl true) H1 else tb σ H1 Q
def tNotV (ta : TE) : TE := fun σ H Q => ta σ H fun x H1 => ∃ c, x = .bl c ∧ Q (.bl (!c)) H1
theorem pe_one {op} {t : TE} (h : PE X a t) : PE X (.BoolOp op [a] pos) t := fun pins s σ H Q I hw => BoolOp_one (h pins s σ H Q I hw)
theorem pe_and (ha : PE X a ta) (hb : PE X (.BoolOp .And (b :: rest) pos) tb) : PE X (.BoolOp .And (a :: b :: rest) pos) (tAndV ta tb) := by
  intro pins s σ H Q I h
  refine BoolOp_and (thn (ha pins s σ H _ I h) fun v s1 ⟨x, H1, I1, r1, q1⟩ => ?_)
  obtain ⟨c, rfl, q1⟩ := q1
  cases r1
  refine wpAny_truthy_bool ?_
  cases c with
  | true => exact hb pins s1 σ H1 Q I1 q1
  | false => exact ⟨.bl false, H1, I1, rfl, q1⟩
theorem pe_or (ha : PE X a ta) (hb : PE X (.BoolOp .Or (b :: rest) pos) tb) : PE X (.BoolOp .Or (a :: b :: rest) pos) (tOrV ta tb) := by
  intro pins s σ H Q I h
  refine BoolOp_or (thn (ha pins s σ H _ I h) fun v s1 ⟨x, H1, I1, r1, q1⟩ => ?_)
  obtain ⟨c, rfl, q1⟩ := q1
  cases r1
  refine wpAny_truthy_bool ?_
  cases c with
  | false => exact hb pins s1 σ H1 Q I1 q1
  | true => exact ⟨.bl true, H1, I1, rfl, q1⟩
theorem pe_not (ha : PE X a ta) : PE X (.UnaryOp .Not a pos) (tNotV ta) := by
  intro pins s σ H Q I h
  refine UnaryOp_ (thn (ha pins s σ H _ I h) fun v s1 ⟨x, H1, I1, r1, q1⟩ => ?_)
  obtain ⟨c, rfl, q1⟩ := q1
  cases r1
  exact not_of (wpAny_truthy_bool ⟨.bl (!c), H1, I1, rfl, q1⟩)
/-- a if t else b -/
def tIf (t : TT) (ta tb : TE) : TE := fun σ H Q => t σ H fun c H1 => if c = true then ta σ H1 Q else tb σ H1 Q
theorem pe_ifExp {c : Expr} (hc : PT X c tA) (ha : PE X a ta) (hb : PE X b tb) : PE X (.IfExp c a b pos) (tIf tA ta tb) := by
  intro pins s σ H Q I h
  refine wpAny_IfExp (thn (hc pins s σ H _ I h) fun d s1 ⟨H1, I1, q1⟩ => ?_)
  cases d with
  | true => exact ha pins s1 σ H1 Q I1 q1
  | false => exact hb pins s1 σ H1 Q I1 q1
end
end L2

namespace L2
open PySem PySem.Spec PyProof.Rows

/-! ### a list, a tuple that is read: tracked, frozen, or an object of the module -/
def SqL (K : PySem.W.Frag) (H : Hp) (a : Addr) (xs : List V) : Prop :=
  Rd H a (.lst xs) ∨
    ∃ (o : Obj) (its : Array Value) (n : Nat), K.lookup a = some o ∧ o.cls = .type "list" ∧ o.dict = none ∧ o.data = .seq its n ∧ its.size ≤ sizeLine ∧ Vals xs its.toList
def SqT (K : PySem.W.Frag) (H : Hp) (a : Addr) (xs : List V) : Prop :=
  Rd H a (.tup xs) ∨
    ∃ (o : Obj) (its : Array Value) (n : Nat), K.lookup a = some o ∧ o.cls = .type "tuple" ∧ o.data = .seq its n ∧ its.size ≤ sizeLine ∧ Vals xs its.toList
def absV : Value → Option V
  | .none => some .non
  | .bool b => some (.bl b)
  | .int i _ => some (.int i)
  | .str x _ => some (.str x)
  | .bytes b _ => some (.byt b)
  | .float b _ => some (.flt b)
  | .ref a => some (.ref a)
  | .type n => some (.ty n)
  | _ => none
theorem RelV.abs {x : V} {u : Value} (r : RelV x u) : absV u = some x := by
  cases x with
  | non => cases r; rfl
  | bl _ => cases r; rfl
  | int _ => obtain ⟨t, rfl⟩ := r; rfl
  | str _ => obtain ⟨t, rfl⟩ := r; rfl
  | byt _ => obtain ⟨t, rfl⟩ := r; rfl
  | flt _ => obtain ⟨t, rfl⟩ := r; rfl
  | ref _ => cases r; rfl
  | ty _ => cases r; rfl
theorem RelV.inj {x y : V} {u : Value} (r : RelV x u) (q : RelV y u) : x = y := Option.some.inj (r.abs.symm.trans q.abs)
theorem Vals.inj : ∀ {xs ys : List V} {us : List Value}, Vals xs us → Vals ys us → xs = ys
  | _, _, _, .nil, .nil => rfl
  | _, _, _, .cons r t, .cons r' t' => by rw [r.inj r', Vals.inj t t']
section
variable {X : Cx} {pins : List (Addr × Obj)} {σ : St} {H : Hp} {s : Shared} {a : Addr} {xs ys : List V}
theorem SqL.of {K : PySem.W.Frag} (h : H a = some (.lst xs)) : SqL K H a xs := .inl (.inl h)
theorem SqT.of {K : PySem.W.Frag} (h : H a = some (.tup xs)) : SqT K H a xs := .inl (.inl h)
theorem Inv.list (I : Inv X pins σ H s) (h : SqL X.K H a xs) : ∃ its : List Value, Vals xs its ∧ PlainL s.heap a its.toArray ∧ xs.length ≤ sizeLine := by
  rcases h with h | ⟨o, its, n, hk, hc, hd, hs, hz, r⟩
  · obtain ⟨z, its, n, r, e⟩ := h.ok I.hok
    exact ⟨its, r, ⟨_, n, e, rfl, rfl, rfl⟩, z⟩
  · refine ⟨its.toList, r, ⟨o, n, I.kIn a o hk, hc, hd, by simpa using hs⟩, ?_⟩
    have e := r.length
    simp only [Array.length_toList] at e
    omega
theorem Inv.tuple (I : Inv X pins σ H s) (h : SqT X.K H a xs) : ∃ its : List Value, Vals xs its ∧ IsTup s.heap a its.toArray ∧ xs.length ≤ sizeLine := by
  rcases h with h | ⟨o, its, n, hk, hc, hs, hz, r⟩
  · obtain ⟨z, its, r, p⟩ := h.ok I.hok
    exact ⟨its, r, p, z⟩
  · refine ⟨its.toList, r, ⟨o, I.kIn a o hk, hc, n, by simpa using hs⟩, ?_⟩
    have e := r.length
    simp only [Array.length_toList] at e
    omega
theorem Inv.list_inj (I : Inv X pins σ H s) (h : SqL X.K H a xs) (h' : SqL X.K H a ys) : xs = ys := by
  obtain ⟨its, r, ⟨o, n, e, _, _, d⟩, _⟩ := I.list h
  obtain ⟨its', r', ⟨o', n', e', _, _, d'⟩, _⟩ := I.list h'
  rw [e] at e'; cases e'
  rw [d] at d'
  injection d' with d1 _
  have : its = its' := by simpa using congrArg Array.toList d1
  subst this
  exact r.inj r'
theorem Inv.tuple_inj (I : Inv X pins σ H s) (h : SqT X.K H a xs) (h' : SqT X.K H a ys) : xs = ys := by
  obtain ⟨its, r, ⟨o, e, _, n, d⟩, _⟩ := I.tuple h
  obtain ⟨its', r', ⟨o', e', _, n', d'⟩, _⟩ := I.tuple h'
  rw [e] at e'; cases e'
  rw [d] at d'
  injection d' with d1 _
  have : its = its' := by simpa using congrArg Array.toList d1
  subst this
  exact r.inj r'
end

/-! ### another wish about exceptions -/
abbrev Cx.wish (X : Cx) (E : Value → Shared → Prop) : Cx := { X with xe := E }
/-- no exception leaves -/
abbrev Cx.nox (X : Cx) : Cx := X.wish fun _ _ => False
theorem Cx.Ok.wish {X : Cx} (ok : X.Ok) (E : Value → Shared → Prop) : (X.wish E).Ok :=
  ⟨ok.mod, ok.kind, ok.glob, ok.blt, ok.above, ok.inj, ok.has, ok.cab, ok.hd, ok.frames, ok.stk, ok.exf, ok.bs, ok.bsz, ok.noex, ok.exfs, ok.funs, ok.frf⟩
theorem Cx.Ok.unwish {X : Cx} {E : Value → Shared → Prop} (ok : (X.wish E).Ok) : X.Ok :=
  ⟨ok.mod, ok.kind, ok.glob, ok.blt, ok.above, ok.inj, ok.has, ok.cab, ok.hd, ok.frames, ok.stk, ok.exf, ok.bs, ok.bsz, ok.noex, ok.exfs, ok.funs, ok.frf⟩
section
variable {X : Cx} {pins : List (Addr × Obj)} {σ : St} {H : Hp} {s : Shared} {E : Value → Shared → Prop}
theorem Inv.wish (I : Inv X pins σ H s) (E : Value → Shared → Prop) : Inv (X.wish E) pins σ H s := ⟨I.ok.wish E, I.os, I.bare, I.base, I.loc, I.cell, I.free, I.freeC, I.pin, I.hok, I.len⟩
theorem Inv.unwish (I : Inv (X.wish E) pins σ H s) : Inv X pins σ H s := ⟨I.ok.unwish, I.os, I.bare, I.base, I.loc, I.cell, I.free, I.freeC, I.pin, I.hok, I.len⟩
theorem SP.unwish {D : Ends} {f : Flow} {s' : Shared} (h : SP (X.wish E) pins D f s') : SP X pins D f s' := by
  cases f with
  | next => obtain ⟨σ', H', I, q⟩ := h; exact ⟨σ', H', I.unwish, q⟩
  | brk => obtain ⟨σ', H', I, q⟩ := h; exact ⟨σ', H', I.unwish, q⟩
  | cont => obtain ⟨σ', H', I, q⟩ := h; exact ⟨σ', H', I.unwish, q⟩
  | ret u => obtain ⟨v, σ', H', I, r, q⟩ := h; exact ⟨v, σ', H', I.unwish, r, q⟩
theorem PE.nox {e : Expr} {t : TE} (h : PE X.nox e t) : PE X e t := fun pins s σ H Q I hw =>
  wpAny_mono (h pins s σ H Q (I.wish _) hw) (fun _ _ ⟨v, H', I', r, q⟩ => ⟨v, H', I'.unwish, r, q⟩) fun _ _ z => False.elim z
theorem PT.nox {e : Expr} {t : TT} (h : PT X.nox e t) : PT X e t := fun pins s σ H Q I hw =>
  wpAny_mono (h pins s σ H Q (I.wish _) hw) (fun _ _ ⟨H', I', q⟩ => ⟨H', I'.unwish, q⟩) fun _ _ z => False.elim z
theorem PSs.nox {st : List Stmt} {t : TS} (h : PSs X.nox st t) : PSs X st t := fun pins s σ H D I hw =>
  wpAny_mono (h pins s σ H D (I.wish _) hw) (fun _ _ q => q.unwish) fun _ _ z => False.elim z
end

/-! ### blocks and small statements -/
section
variable {X : Cx} {st : Stmt} {rest : List Stmt} {t u : TS} {e : Expr} {te : TE} {pos : Pos}
def tNext : TS := fun D σ H => D.nx σ H
def tSeq (t u : TS) : TS := fun D σ H => t { D with nx := u D } σ H
theorem pss_nil : PSs X [] tNext := fun _ _ σ H _ I h => wpAny_execs_nil ⟨σ, H, I, h⟩
theorem pss_cons (h1 : PS X st t) (h2 : PSs X rest u) : PSs X (st :: rest) (tSeq t u) := by
  intro pins s σ H D I h
  refine wpAny_execs_cons (thn (h1 pins s σ H { D with nx := u D } I h) fun f s1 q => ?_)
  cases f with
  | next =>
    obtain ⟨σ', H', I', q⟩ := q
    exact h2 pins s1 σ' H' D I' q
  | ret v => exact q
  | brk => exact q
  | cont => exact q
theorem pss_one (h1 : PS X st t) : PSs X [st] t := by
  intro pins s σ H D I h
  refine wpAny_execs_cons (thn (h1 pins s σ H D I h) fun f s1 q => ?_)
  cases f with
  | next => exact wpAny_execs_nil q
  | ret v => exact q
  | brk => exact q
  | cont => exact q
def tBreak : TS := fun D σ H => D.bk σ H
def tCont : TS := fun D σ H => D.ct σ H
theorem ps_pass : PS X (.Pass pos) tNext := fun _ _ σ H _ I h => wpAny_Pass ⟨σ, H, I, h⟩
theorem ps_break : PS X (.Break pos) tBreak := fun _ _ σ H _ I h => wpAny_Break ⟨σ, H, I, h⟩
theorem ps_continue : PS X (.Continue pos) tCont := fun _ _ σ H _ I h => wpAny_Continue ⟨σ, H, I, h⟩
/-- in a def's body nothing is shown -/
theorem Inv.quiet {pins : List (Addr × Obj)} {σ : St} {H : Hp} {s : Shared} (I : Inv X pins σ H s) : interactive X.env = false := by simp [interactive, I.ok.kind]
/-- a docstring -/
theorem ps_doc {x j pos pos'} : PS X (.Expr (.Constant (.str x) j pos) pos') tNext := fun _ s σ H _ I h => wpAny_Expr (Calls.Constant_str (show SP X _ _ .next { s with toks := s.toks + 1 } from ⟨σ, H, I.tok _, h⟩)) I.quiet
/-- an expression whose value is dropped -/
def tDrop (te : TE) : TS := fun D σ H => te σ H fun _ H1 => D.nx σ H1
theorem ps_expr (he : PE X e te) (hs : swapsWith e none pos.line X.env = pure false := by rfl) : PS X (.Expr e pos) (tDrop te) := by
  intro pins s σ H D I h
  exact wpAny_Expr_any (thn (he pins s σ H _ I h) fun v s1 ⟨x, H1, I1, r1, q1⟩ => ⟨σ, H1, I1, q1⟩) I.quiet hs
def tRet (te : TE) : TS := fun D σ H => te σ H D.rt
theorem ps_ret (he : PE X e te) : PS X (.Return (some e) pos) (tRet te) := by
  intro pins s σ H D I h
  exact wpAny_Return_some (thn (he pins s σ H _ I h) fun v s1 ⟨x, H1, I1, r1, q1⟩ => ⟨x, σ, H1, I1, r1, q1⟩)
def tRetN : TS := fun D _ H => D.rt .non H
theorem ps_retN : PS X (.Return none pos) tRetN := fun _ _ σ H _ I h => wpAny_Return_none ⟨.non, σ, H, I, rfl, h⟩
def tIfS (c : TT) (t u : TS) : TS := fun D σ H => c σ H fun b H1 => if b = true then t D σ H1 else u D σ H1
theorem ps_if {c : Expr} {a b : List Stmt} {tc : TT} (hc : PT X c tc) (ha : PSs X a t) (hb : PSs X b u) : PS X (.If c a b pos) (tIfS tc t u) := by
  intro pins s σ H D I h
  refine wpAny_If (thn (hc pins s σ H _ I h) fun d s1 ⟨H1, I1, q1⟩ => ?_)
  cases d with
  | true => exact ha pins s1 σ H1 D I1 q1
  | false => exact hb pins s1 σ H1 D I1 q1
/-- code that the proof never comes to -/
def tNever : TS := fun _ _ _ => False
theorem ps_never : PS X st tNever := fun _ _ _ _ _ _ h => h.elim
theorem pss_never {sts : List Stmt} : PSs X sts tNever := fun _ _ _ _ _ _ h => h.elim
end

/-! ### targets -/
abbrev TG := V → St → Hp → (St → Hp → Prop) → Prop
abbrev TGs := List V → St → Hp → (St → Hp → Prop) → Prop
def PG (X : Cx) (target : Expr) (t : TG) : Prop :=
  ∀ (pins : List (Addr × Obj)) (s : Shared) (σ : St) (H : Hp) (v : V) (u : Value) (Q : St → Hp → Prop), Inv X pins σ H s → RelV v u → t v σ H Q →
    wpAny (model X.prog X.w) X.A (assign target X.env u) (fun _ s' => ∃ σ' H', Inv X pins σ' H' s' ∧ Q σ' H') X.xe s
/-- several targets, one after another -/
def PGs (X : Cx) (ts : List Expr) (t : TGs) : Prop :=
  ∀ (pins : List (Addr × Obj)) (s : Shared) (σ : St) (H : Hp) (vs : List V) (us : List Value) (Q : St → Hp → Prop), Inv X pins σ H s → Vals vs us → t vs σ H Q →
    wpAny (model X.prog X.w) X.A (assignInOrder ((assignEach ts X.env).map (·.2)) us) (fun _ s' => ∃ σ' H', Inv X pins σ' H' s' ∧ Q σ' H') X.xe s
/-- o[i] = v, by values -/
abbrev TSet := V → V → V → Hp → (Hp → Prop) → Prop
def PSet (X : Cx) (t : TSet) : Prop :=
  ∀ (pins : List (Addr × Obj)) (s : Shared) (σ : St) (H : Hp) (o i v : V) (ov iv u : Value) (Q : Hp → Prop), Inv X pins σ H s → RelV o ov → RelV i iv → RelV v u → t o i v H Q →
    wpAny (model X.prog X.w) X.A (setItem ov iv u) (fun _ s' => ∃ H', Inv X pins σ H' s' ∧ Q H') X.xe s
/-- a op= b, by values -/
abbrev TIp := V → V → Hp → VK → Prop
def PIp (X : Cx) (op : Operator) (t : TIp) : Prop :=
  ∀ (pins : List (Addr × Obj)) (s : Shared) (σ : St) (H : Hp) (x y : V) (v u : Value) (Q : VK), Inv X pins σ H s → RelV x v → RelV y u → t x y H Q →
    wpAny (model X.prog X.w) X.A (inplaceOp op v u) (EP X pins σ Q) X.xe s
section
variable {X : Cx} {pos : Pos}
def gName (i : Nat) : TG := fun v σ H Q => Q (σ.set i (some v)) H
theorem pg_name {i : Nat} {x : Str} (hN : X.N.Nodup) (hi : X.N[i]? = some x) (hx : Loc X.env.scope x) (hf : X.fn x = true ∨ X.env.scope.names.lookup x = some .local := by first | exact .inl rfl | exact .inr rfl | assumption) : PG X (.Name x pos) (gName i) := by
  intro pins s σ H v u Q I r h
  exact wpAny_assign_Name (store_ok I hN hi hx r (fun s' I' => ⟨_, H, I', h⟩) hf)
def gNil : TGs := fun vs σ H Q => vs = [] ∧ Q σ H
def gCons (t : TG) (u : TGs) : TGs := fun vs σ H Q => ∃ v r, vs = v :: r ∧ t v σ H fun σ' H' => u r σ' H' Q
theorem pgs_nil : PGs X [] gNil := by
  intro pins s σ H vs us Q I r h
  obtain ⟨e, h⟩ := h
  subst e
  cases r
  exact assignInOrder_nil ⟨σ, H, I, h⟩
theorem pgs_cons {e : Expr} {es : List Expr} {t : TG} {u : TGs} (h1 : PG X e t) (h2 : PGs X es u)
    (hs : (assignEach (e :: es) X.env).map (·.2) = assign e X.env :: (assignEach es X.env).map (·.2) := by rfl) : PGs X (e :: es) (gCons t u) := by
  intro pins s σ H vs us Q I r h
  obtain ⟨v, vr, e1, h⟩ := h
  subst e1
  cases r with
  | cons r rr =>
    rw [hs]
    refine assignInOrder_cons (thn (h1 pins s σ H _ _ _ I r h) fun _ s1 ⟨σ1, H1, I1, q1⟩ => ?_)
    exact h2 pins s1 σ1 H1 _ _ Q I1 rr q1
/-- (a, b, ..) = a tuple of that length -/
def gTup (K : PySem.W.Frag) (n : Nat) (t : TGs) : TG := fun v σ H Q => ∃ a xs, v = .ref a ∧ SqT K H a xs ∧ xs.length = n ∧ t xs σ H Q
theorem pg_tup {es : List Expr} {k : Nat} {t : TGs} {n : Nat} (hc : X.calm = true) (h : PGs X es t)
    (hn : (assignEach es X.env).length = n := by rfl) (hst : (assignEach es X.env).findIdx? (·.1) = none := by rfl) : PG X (.Tuple es k pos) (gTup X.K n t) := by
  intro pins s σ H v u Q I r hw
  obtain ⟨a, xs, e1, hq, hl, hw⟩ := hw
  subst e1
  cases r
  obtain ⟨its, rv, ht, hz⟩ := I.tuple hq
  refine assign_Tuple_tuple (I.ok.hd hc) ht (by simp [hn, ← hl, rv.length]) hst fun h' hx => ?_
  have I1 : Inv X pins σ H { s with heap := h' } := I.kept (t' := s.toks) fun b o e => hx b o (Nat.ne_of_lt (Heap.lt_size e)) e
  exact h pins _ σ H xs _ Q I1 (by simpa using rv) hw
/-- o[i] = .. -/
def gSub (to ti : TE) (t : TSet) : TG := fun v σ H Q => to σ H fun o H1 => ti σ H1 fun i H2 => t o i v H2 fun H3 => Q σ H3
theorem pg_sub {o i : Expr} {to ti : TE} {t : TSet} (ho : PE X o to) (hi : PE X i ti) (hs : PSet X t)
    (ha : ∀ v, assign (.Subscript o i pos) X.env v = (do
      let ov ← holding [v] (eval o X.env)
      let iv ← holding [v, ov] (eval i X.env)
      standAt pos
      holding [v, ov, iv] (setItem ov iv v)
      release [v, ov, iv] []) := by intro _; rfl) : PG X (.Subscript o i pos) (gSub to ti t) := by
  intro pins s σ H v u Q I r h
  rw [ha]
  refine wpAny_bind (wpAny_holding (thn (ho pins s σ H _ I h) fun ov s1 ⟨x, H1, I1, r1, q1⟩ => ?_))
  refine wpAny_bind (wpAny_holding (thn (hi pins s1 σ H1 _ I1 q1) fun iv s2 ⟨y, H2, I2, r2, q2⟩ => ?_))
  refine wpAny_bind (wpAny_standAt (wpAny_bind (wpAny_holding (thn (hs pins s2 σ H2 x y v ov iv u _ I2 r1 r2 r q2) fun _ s3 ⟨H3, I3, q3⟩ => ?_))))
  exact wpAny_release ⟨σ, H3, I3, q3⟩
/-- target = value -/
def tAsg (te : TE) (g : TG) : TS := fun D σ H => te σ H fun x H1 => g x σ H1 D.nx
theorem ps_asg {tg e : Expr} {te : TE} {g : TG} (he : PE X e te) (hg : PG X tg g) (hs : swapsWithSole [tg] e pos.line X.env = pure false := by rfl) (hw : swappedStores [tg] e X.env = pure none := by rfl)
    (h1 : (assignEach [tg] X.env).map (·.2) = [assign tg X.env] := by rfl) : PS X (.Assign [tg] e pos) (tAsg te g) := by
  intro pins s σ H D I h
  refine wpAny_Assign_stores (thn (he pins s σ H _ I h) fun v s1 ⟨x, H1, I1, r1, q1⟩ => ?_) hs hw
  rw [h1]
  exact thn (hg pins s1 σ H1 x v _ I1 r1 q1) fun _ s2 q => q
/-- name = value -/
theorem ps_set {i : Nat} {x : Str} {e : Expr} {te : TE} {pos' : Pos} (hN : X.N.Nodup) (hi : X.N[i]? = some x) (hx : Loc X.env.scope x) (he : PE X e te) (hs : swapsWith e (some (.Name x pos')) pos.line X.env = pure false := by rfl) (hf : X.fn x = true ∨ X.env.scope.names.lookup x = some .local := by first | exact .inl rfl | exact .inr rfl | assumption) :
    PS X (.Assign [.Name x pos'] e pos) (tAsg te (gName i)) := by
  intro pins s σ H D I h
  refine wpAny_Assign_Name (thn (he pins s σ H _ I h) fun v s1 ⟨y, H1, I1, r1, q1⟩ => ?_) hs
  exact store_ok I1 hN hi hx r1 (fun s2 I2 => ⟨_, H1, I2, q1⟩) hf
/-- a, b = x, y with plain local names: stored from the right; the pair itself is not tracked (the opening rows as in PyProof/Rows/TupAssign.lean:23) -/
def tPar (i j : Nat) (ta : TA) : TS := fun D σ H => ta σ H fun vs H1 => ∃ v w, vs = [v, w] ∧ D.nx ((σ.set i (some v)).set j (some w)) H1
theorem ps_par {i j : Nat} {x y : Str} {a b : Expr} {ta : TA} {px py pt : Pos} {kt k2 pt2} (hc : X.calm = true) (hN : X.N.Nodup) (hi : X.N[i]? = some x) (hj : X.N[j]? = some y) (hij : i ≠ j)
    (hx : X.env.scope.names.lookup x = some .local) (hy : X.env.scope.names.lookup y = some .local) (ha : PA X [a, b] ta)
    (hw : swappedStores [.Tuple [.Name x px, .Name y py] kt pt] (.Tuple [a, b] k2 pt2) X.env = pure (some [x, y]))
    (hs : swapsWithSole [.Tuple [.Name x px, .Name y py] kt pt] (.Tuple [a, b] k2 pt2) pos.line X.env = pure false := by rfl) :
    PS X (.Assign [.Tuple [.Name x px, .Name y py] kt pt] (.Tuple [a, b] k2 pt2) pos) (tPar i j ta) := by
  intro pins s σ H D I h
  rw [exec_Assign_arm]
  refine wpAny_bind (wpAny_standAt ?_)
  rw [hs]
  refine wpAny_bind (wpAny_pure ?_)
  rw [if_neg (by decide)]
  refine wpAny_bind (Tuple_ (thn (ha _ pins s σ H _ I h) fun us s1 ⟨vs, H1, I1, r1, q1⟩ => ?_))
  obtain ⟨v, w, e1, q1⟩ := q1
  subst e1
  obtain ⟨u1, u2, rfl, rv, rw'⟩ : ∃ u1 u2, us = [u1, u2] ∧ RelV v u1 ∧ RelV w u2 := by
    cases r1 with
    | cons p q =>
      cases q with
      | cons p' q' =>
        cases q'
        exact ⟨_, _, rfl, p, p'⟩
  refine wpAny_newObj_type ?_ (by show 2 ≤ sizeLine; decide)
  have I2 : Inv X pins σ H1 { s1 with heap := s1.heap.push { cls := .type "tuple", data := .seq [u1, u2].toArray } } := I1.kept (t' := s1.toks) fun b o e => Heap.get?_push_of_some _ e
  rw [hw]
  refine wpAny_bind (wpAny_pure ?_)
  show wpAny (model X.prog X.w) X.A (do rule "assign.swapped-stores"; let items ← unpackItems (.ref s1.heap.objs.size) 2 none; assignInOrder [fun v => bindName X.env y v, fun v => bindName X.env x v] items.reverse; pure Flow.next) _ _ _
  refine wpAny_bind (wpAny_rule (wpAny_bind (unpackItems_tuple (items := #[u1, u2]) (I.ok.hd hc) (IsTup.new s1.heap _) fun h' hx' => ?_)))
  have I3 := I2.kept (h' := h') (t' := s1.toks) fun b o e => hx' b o (Nat.ne_of_lt (Heap.lt_size e)) e
  show wpAny _ _ (assignInOrder [fun v => bindName X.env y v, fun v => bindName X.env x v] [u2, u1] >>= fun _ => pure Flow.next) _ _ _
  refine wpAny_bind (assignInOrder_cons (wpAny_bindName (store_ok I3 hN hj (.inl hy) rw' (fun s2 I4 => ?_) (.inr hy))))
  refine assignInOrder_cons (wpAny_bindName (store_ok I4 hN hi (.inl hx) rv (fun s3 I5 => assignInOrder_nil (wpAny_pure ?_)) (.inr hx)))
  rw [List.set_comm _ _ (Ne.symm hij)] at I5
  exact ⟨_, H1, I5, q1⟩
/-- name op= e -/
def tAug (i : Nat) (te : TE) (ti : TIp) : TS := fun D σ H => ∃ x, σ[i]? = some (some x) ∧ te σ H fun y H1 => ti x y H1 fun z H2 => D.nx (σ.set i (some z)) H2
theorem ps_aug {i : Nat} {x : Str} {e : Expr} {te : TE} {op : Operator} {ti : TIp} {pos' : Pos} (hN : X.N.Nodup) (hi : X.N[i]? = some x) (hx : Loc X.env.scope x) (he : PE X e te) (ho : PIp X op ti) (hf : X.fn x = true ∨ X.env.scope.names.lookup x = some .local := by first | exact .inl rfl | exact .inr rfl | assumption) :
    PS X (.AugAssign (.Name x pos') op e pos) (tAug i te ti) := by
  intro pins s σ H D I h
  obtain ⟨v, e1, h⟩ := h
  obtain ⟨m, hn, hl⟩ := I.loc
  have vis : Vis X.env.scope x := by rcases hx with k | k; exact .inl k; exact .inr (.inl k)
  obtain ⟨u, r, l⟩ := hl i x v hi e1 vis
  refine wpAny_AugAssign_Name ?_
  have go : wpAny (model X.prog X.w) X.A (eval e X.env) (fun w s₂ => wpAny (model X.prog X.w) X.A (inplaceOp op u w) (fun r s₃ => wpAny (model X.prog X.w) X.A (storeName X.env x r) (fun _ => SP X pins D .next) X.xe s₃) X.xe s₂) X.xe s := by
    refine thn (he pins s σ H _ I h) fun w s1 ⟨y, H1, I1, r1, q1⟩ => ?_
    refine thn (ho pins s1 σ H1 v y u w _ I1 r r1 q1) fun z s2 ⟨zv, H2, I2, r2, q2⟩ => ?_
    exact store_ok I2 hN hi hx r2 (fun s3 I3 => ⟨_, H2, I3, q2⟩) hf
  rcases l with ⟨hk, hm⟩ | ⟨hk, c, hc, hcell⟩
  · exact wpAny_loadName_local I.ok.kind hk hn hm go
  · rcases hk with hk | hk
    · exact wpAny_loadName_cell I.ok.kind hk hc hcell go
    · rcases hx with k | k
      · have : X.env.scope.names.lookup x = some .free := hk
        rw [k] at this; cases this
      · have : X.env.scope.names.lookup x = some .free := hk
        rw [k] at this; cases this
/-- o[i] op= e -/
def tAugS (to ti te : TE) (tget : V → V → Hp → VK → Prop) (tip : TIp) (tset : TSet) : TS := fun D σ H => to σ H fun o H1 => ti σ H1 fun i H2 => tget o i H2 fun x H3 => te σ H3 fun y H4 => tip x y H4 fun z H5 => tset o i z H5 fun H6 => D.nx σ H6
/-- o[i], by values -/
def PGet (X : Cx) (t : V → V → Hp → VK → Prop) : Prop :=
  ∀ (pins : List (Addr × Obj)) (s : Shared) (σ : St) (H : Hp) (o i : V) (ov iv : Value) (Q : VK), Inv X pins σ H s → RelV o ov → RelV i iv → t o i H Q →
    wpAny (model X.prog X.w) X.A (getItem ov iv) (EP X pins σ Q) X.xe s
theorem ps_augS {o i e : Expr} {to ti te : TE} {tget : V → V → Hp → VK → Prop} {tip : TIp} {tset : TSet} {op : Operator} {tpos : Pos} (ho : PE X o to) (hi : PE X i ti) (hg : PGet X tget) (he : PE X e te) (hp : PIp X op tip) (hs : PSet X tset)
    (ha : ∀ ov iv new, augStore i ov iv new = (do holding [new, ov, iv] (setItem ov iv new); release [new, ov, iv] []; pure .next) := by intros; rfl) : PS X (.AugAssign (.Subscript o i tpos) op e pos) (tAugS to ti te tget tip tset) := by
  intro pins s σ H D I h
  refine wpAny_AugAssign_SubscriptAny (thn (ho pins s σ H _ I h) fun ov s1 ⟨x1, H1, I1, r1, q1⟩ => ?_) ha
  refine thn (hi pins s1 σ H1 _ I1 q1) fun iv s2 ⟨x2, H2, I2, r2, q2⟩ => ?_
  refine thn (hg pins s2 σ H2 x1 x2 ov iv _ I2 r1 r2 q2) fun old s3 ⟨x3, H3, I3, r3, q3⟩ => ?_
  refine thn (he pins s3 σ H3 _ I3 q3) fun v s4 ⟨x4, H4, I4, r4, q4⟩ => ?_
  refine thn (hp pins s4 σ H4 x3 x4 old v _ I4 r3 r4 q4) fun new s5 ⟨x5, H5, I5, r5, q5⟩ => ?_
  exact thn (hs pins s5 σ H5 x1 x2 x5 ov iv new _ I5 r1 r2 r5 q5) fun _ s6 ⟨H6, I6, q6⟩ => ⟨σ, H6, I6, q6⟩
/-- ints -/
def ipI (f : Int → Int → Int) : TIp := fun x y H Q => ∃ i j, x = .int i ∧ y = .int j ∧ Q (.int (f i j)) H
theorem ip_add : PIp X .Add (ipI fun i j => i + j) := by
  intro pins s σ H x y v u Q I r1 r2 h
  obtain ⟨i, j, e1, e2, q⟩ := h
  subst e1; subst e2
  obtain ⟨t, rfl⟩ := r1
  obtain ⟨t', rfl⟩ := r2
  exact iadd_int ⟨.int _, H, I.tok _, ⟨_, rfl⟩, q⟩
theorem ip_sub : PIp X .Sub (ipI fun i j => i - j) := by
  intro pins s σ H x y v u Q I r1 r2 h
  obtain ⟨i, j, e1, e2, q⟩ := h
  subst e1; subst e2
  obtain ⟨t, rfl⟩ := r1
  obtain ⟨t', rfl⟩ := r2
  exact isub_int ⟨.int _, H, I.tok _, ⟨_, rfl⟩, q⟩
end

/-! ### while -/
section
variable {X : Cx} {pos : Pos}
/-- the invariant W with its measure -/
def tWhile (c : TT) (tb : TS) : TS := fun D σ H => ∃ W : Nat → St → Hp → Prop, (∃ m, W m σ H) ∧ ∀ m σ H, W m σ H →
  c σ H fun b H1 => if b = true then ∃ N : St → Hp → Prop, (∀ σ' H', N σ' H' → ∃ m', m' < m ∧ W m' σ' H') ∧ tb { D with nx := N, ct := N, bk := D.nx } σ H1 else D.nx σ H1
theorem ps_while {c : Expr} {body : List Stmt} {tc : TT} {tb : TS} (hp : PassesOwn (model X.prog X.w) X.A X.env X.xe) (hc : PT X c tc) (hb : PSs X body tb) : PS X (.While c body [] pos) (tWhile tc tb) := by
  intro pins s σ H D I h
  obtain ⟨W, ⟨m0, w0⟩, turn⟩ := h
  refine wpAny_While (codeAny_whileLoop (fun n s' => ∃ σ' H', Inv X pins σ' H' s' ∧ W n σ' H') ?_ m0 ⟨σ, H, I, w0⟩)
  rintro n s1 ⟨σ1, H1, I1, w1⟩
  refine wpAny_passesOwn hp (thn (hc pins s1 σ1 H1 _ I1 (turn n σ1 H1 w1)) fun b s2 ⟨H2, I2, q2⟩ => ?_)
  cases b with
  | true =>
    obtain ⟨N, hN, q2⟩ := q2
    rw [if_pos rfl]
    refine wpAny_passesOwn hp (thn (hb pins s2 σ1 H2 _ I2 q2) fun f s3 q3 => ?_)
    cases f with
    | next =>
      obtain ⟨σ3, H3, I3, n3⟩ := q3
      obtain ⟨m', hm, w3⟩ := hN σ3 H3 n3
      exact ⟨m', hm, σ3, H3, I3, w3⟩
    | cont =>
      obtain ⟨σ3, H3, I3, n3⟩ := q3
      obtain ⟨m', hm, w3⟩ := hN σ3 H3 n3
      exact ⟨m', hm, σ3, H3, I3, w3⟩
    | brk => exact q3
    | ret v => exact q3
  | false =>
    rw [if_neg Bool.false_ne_true]
    exact wpAny_execs_nil ⟨σ1, H2, I2, q2⟩
end

/-! ### what a loop or a comprehension walks -/
/-- at turn i: it yields x (the heap may grow), or it stops -/
structure It where
  go : Nat → Hp → Prop
  yld : Nat → Hp → V → Hp → Prop
  stop : Nat → Hp → Prop
/-- the iterator's own objects may turn: they are not the frame's, not pinned, younger than the entry (or a comprehension's own) -/
def FpOk (X : Cx) (pins : List (Addr × Obj)) (H : Hp) (b : Addr) : Prop :=
  H b = none ∧ b ≠ X.env.locals ∧ b ∉ X.fs ∧ (b ∈ X.ex ∨ X.s₀.heap.objs.size ≤ b) ∧ (∀ x c, X.env.cells.lookup x = some c → c ≠ b) ∧ ∀ p ∈ X.pn ++ pins, p.1 ≠ b
theorem Inv.fpOk {X : Cx} {pins : List (Addr × Obj)} {σ : St} {H H' : Hp} {s : Shared} {b : Addr} (I : Inv X pins σ H s) (hb : s.heap.objs.size ≤ b) (hn : H' b = none) : FpOk X pins H' b := by
  refine ⟨hn, Nat.ne_of_gt (Nat.lt_of_lt_of_le I.lt hb), I.nofs hb, .inr (Nat.le_trans I.sz hb), fun x c e z => ?_, fun p hp z => ?_⟩
  · obtain ⟨v, q⟩ := I.cell x c e
    exact absurd (Nat.lt_of_lt_of_le q.lt (by rw [z]; exact hb)) (Nat.lt_irrefl _)
  · exact absurd (Nat.lt_of_lt_of_le (Heap.lt_size (I.pin p hp).1) (by rw [z]; exact hb)) (Nat.lt_irrefl _)
structure Turn (P : Program) (w : World) (K : PySem.W.Frag) (tg : Expr) (J : It) (fp : List Addr) (it : Addr) (tn : Nat → Heap → Prop) : Prop where
  mem : it ∈ fp
  obj : ∀ i h, tn i h → ∀ b ∈ fp, ∃ o, h.get? b = some o ∧ ∀ v, o.data ≠ .cell v
  keep : ∀ i h h', tn i h → (∀ b ∈ fp, ∀ o, h.get? b = some o → h'.get? b = some o) → tn i h'
  item : ∀ (X : Cx), X.prog = P → X.w = w → X.K = K → X.calm = true → ∀ (i : Nat) (pins : List (Addr × Obj)) (s : Shared) (σ : St) (H : Hp) (E : Value → Shared → Prop), Inv X pins σ H s → (∀ b ∈ fp, FpOk X pins H b) → tn i s.heap → J.go i H →
    wpAny (model P w) X.A (pyNext (.ref it)) (fun r s1 => ∃ u, r = some u ∧
      wpAny (model P w) X.A (letOwnedTupleGo tg (.ref it) u) (fun _ s2 => ∃ x H', Inv X pins σ H' s2 ∧ RelV x u ∧ J.yld i H x H' ∧ tn (i + 1) s2.heap ∧ ∀ b ∈ fp, H' b = none) E s1) E s
  done : ∀ (X : Cx), X.prog = P → X.w = w → X.K = K → X.calm = true → ∀ (i : Nat) (pins : List (Addr × Obj)) (s : Shared) (σ : St) (H : Hp) (E : Value → Shared → Prop), Inv X pins σ H s → (∀ b ∈ fp, FpOk X pins H b) → tn i s.heap → J.stop i H →
    wpAny (model P w) X.A (pyNext (.ref it)) (fun r s1 => r = none ∧ Inv X pins σ H s1) E s
  self : ∀ (A : Around) (i : Nat) (s : Shared) (Q : Value → Shared → Prop) (E : Value → Shared → Prop), tn i s.heap → Q (.ref it) s → wpAny (model P w) A (pyIter (.ref it)) Q E s
abbrev TI := St → Hp → (It → Hp → Prop) → Prop
/-- an iterator has come -/
def PIE (X : Cx) (pins : List (Addr × Obj)) (σ : St) (tg : Expr) (R : It → Hp → Prop) (itv : Value) (s2 : Shared) : Prop :=
  ∃ (it : Addr) (fp : List Addr) (tn : Nat → Heap → Prop) (J : It) (H' : Hp), itv = .ref it ∧ Inv X pins σ H' s2 ∧ Turn X.prog X.w X.K tg J fp it tn ∧ tn 0 s2.heap ∧ (∀ b ∈ fp, FpOk X pins H' b) ∧ R J H'
def PI (X : Cx) (tg iter : Expr) (wi : TI) : Prop :=
  ∀ (pins : List (Addr × Obj)) (s : Shared) (σ : St) (H : Hp) (R : It → Hp → Prop), Inv X pins σ H s → wi σ H R →
    wpAny (model X.prog X.w) X.A (eval iter X.env) (fun v s1 => wpAny (model X.prog X.w) X.A (pyIter v) (PIE X pins σ tg R) X.xe s1) X.xe s

/-- the step ahead of the store is nothing for an iterator that keeps no tuple -/
theorem go_of {M : Model} {A : Around} {E : Value → Shared → Prop} {s : Shared} {tg : Expr} {it : Addr} {u : Value} {o : Obj} {n : String} {vs : Array Value} {Q : Unit → Shared → Prop} (ho : s.heap.get? it = some o) (hc : o.cls = .type n) (hd : o.data = .fields vs)
    (hn : ["enumerate", "zip", "dict_itemiterator", "dict_reverseitemiterator", "odict_iterator", "itertools.zip_longest", "itertools.pairwise"].contains n = false) (hQ : Q () s) : wpAny M A (letOwnedTupleGo tg (.ref it) u) Q E s := by
  unfold letOwnedTupleGo
  cases tg <;> first
    | exact wpAny_pure hQ
    | (cases u <;> first
        | exact wpAny_pure hQ
        | (refine wpAny_bind (wpAny_load ho ?_)
           rw [hc, hd]
           show wpAny M A (if (["enumerate", "zip", "dict_itemiterator", "dict_reverseitemiterator", "odict_iterator", "itertools.zip_longest", "itertools.pairwise"].contains n && vs[0]? == some (rawInt _)) = true then _ else _) Q E s
           rw [if_neg (by intro h; rw [hn, Bool.false_and] at h; cases h)]
           exact wpAny_pure hQ))

/-- the list at a, as it stands at each turn (a loop may append to it) -/
def Itl (K : PySem.W.Frag) (a : Addr) : It :=
  ⟨fun i H => ∃ xs x, SqL K H a xs ∧ xs[i]? = some x, fun i H x H' => H' = H ∧ ∀ xs, SqL K H a xs → xs[i]? = some x, fun i H => ∃ xs, SqL K H a xs ∧ xs.length ≤ i⟩
def Itt (K : PySem.W.Frag) (a : Addr) : It :=
  ⟨fun i H => ∃ xs x, SqT K H a xs ∧ xs[i]? = some x, fun i H x H' => H' = H ∧ ∀ xs, SqT K H a xs → xs[i]? = some x, fun i H => ∃ xs, SqT K H a xs ∧ xs.length ≤ i⟩
/-- lo, lo + 1, .. (n of them) -/
def Itr (lo : Int) (n : Nat) : It := ⟨fun i _ => i < n, fun i H x H' => H' = H ∧ x = .int (lo + i), fun i _ => n ≤ i⟩
theorem turn_list {P : Program} {w : World} {K : PySem.W.Frag} {tg : Expr} (a it : Addr) : Turn P w K tg (Itl K a) [it] it (fun i h => h.IsListIter it a i) where
  mem := by simp
  obj := fun i h st b hb => by
    have e : b = it := by simpa using hb
    subst e
    obtain ⟨o, e, c, d⟩ := st
    exact ⟨o, e, fun v z => by rw [d] at z; cases z⟩
  keep := fun i h h' st k => st.at fun o e => k it (by simp) o e
  item := by
    intro X hP hw hK hc i pins s σ H E I hf st hg
    subst hP hw hK
    obtain ⟨xs, x, hq, hx⟩ := hg
    obtain ⟨its, rv, p, hz⟩ := I.list hq
    obtain ⟨u, hu, ru⟩ := rv.get hx
    obtain ⟨f0, f1, f2, f3, f4, f5⟩ := hf it (by simp)
    refine wpAny_pyNext_list_item st p.isList (x := u) (by simpa using hu) fun h' st' sb => ?_
    have I1 : Inv X pins σ H { s with heap := h' } := I.turned (t' := s.toks) (fun b o hb e => (sb.2 b hb).trans e) f0 f1 f3 f4 f5
    obtain ⟨o, e, c, d⟩ := id st'
    exact ⟨u, rfl, go_of (s := { s with heap := h' }) e c d (by decide) ⟨x, H, I1, ru, ⟨rfl, fun ys hy => by rw [I.list_inj hy hq]; exact hx⟩, st', fun b hb => (hf b hb).1⟩⟩
  done := by
    intro X hP hw hK hc i pins s σ H E I hf st hg
    subst hP hw hK
    obtain ⟨xs, hq, hx⟩ := hg
    obtain ⟨its, rv, p, hz⟩ := I.list hq
    obtain ⟨f0, f1, f2, f3, f4, f5⟩ := hf it (by simp)
    have hl := rv.length
    exact wpAny_pyNext_list_end (I.ok.hd hc) st p.isList (by simp; omega) fun h' eb => ⟨rfl, I.turned (t' := s.toks) (fun b o hb e => eb b o hb e) f0 f1 f3 f4 f5⟩
  self := fun _ _ _ _ _ st h => wpAny_pyIter_listiter st h
theorem turn_tuple {P : Program} {w : World} {K : PySem.W.Frag} {tg : Expr} (a it : Addr) : Turn P w K tg (Itt K a) [it] it (fun i h => h.IsTupleIter it a i) where
  mem := by simp
  obj := fun i h st b hb => by
    have e : b = it := by simpa using hb
    subst e
    obtain ⟨o, e, c, d⟩ := st
    exact ⟨o, e, fun v z => by rw [d] at z; cases z⟩
  keep := fun i h h' st k => st.at fun o e => k it (by simp) o e
  item := by
    intro X hP hw hK hc i pins s σ H E I hf st hg
    subst hP hw hK
    obtain ⟨xs, x, hq, hx⟩ := hg
    obtain ⟨its, rv, p, hz⟩ := I.tuple hq
    obtain ⟨u, hu, ru⟩ := rv.get hx
    obtain ⟨f0, f1, f2, f3, f4, f5⟩ := hf it (by simp)
    refine wpAny_pyNext_tuple_item st (show s.heap.IsTuple a its.toArray from p) (x := u) (by simpa using hu) fun h' st' sb => ?_
    have I1 : Inv X pins σ H { s with heap := h' } := I.turned (t' := s.toks) (fun b o hb e => (sb.2 b hb).trans e) f0 f1 f3 f4 f5
    obtain ⟨o, e, c, d⟩ := id st'
    exact ⟨u, rfl, go_of (s := { s with heap := h' }) e c d (by decide) ⟨x, H, I1, ru, ⟨rfl, fun ys hy => by rw [I.tuple_inj hy hq]; exact hx⟩, st', fun b hb => (hf b hb).1⟩⟩
  done := by
    intro X hP hw hK hc i pins s σ H E I hf st hg
    subst hP hw hK
    obtain ⟨xs, hq, hx⟩ := hg
    obtain ⟨its, rv, p, hz⟩ := I.tuple hq
    obtain ⟨f0, f1, f2, f3, f4, f5⟩ := hf it (by simp)
    have hl := rv.length
    exact wpAny_pyNext_tuple_end (I.ok.hd hc) st (show s.heap.IsTuple a its.toArray from p) (by simp; omega) fun h' eb => ⟨rfl, I.turned (t' := s.toks) (fun b o hb e => eb b o hb e) f0 f1 f3 f4 f5⟩
  self := fun _ _ _ _ _ st h => wpAny_pyIter_tupleiter st h
theorem turn_range {P : Program} {w : World} {K : PySem.W.Frag} {tg : Expr} (it : Addr) (lo : Int) (n : Nat) : Turn P w K tg (Itr lo n) [it] it (fun i h => IsRangeIter h it (lo + (i : Nat) * 1) ((n : Int) - (i : Nat)) 1) where
  mem := by simp
  obj := fun i h st b hb => by
    have e : b = it := by simpa using hb
    subst e
    exact ⟨_, st, fun v z => by
      have z' : Data.fields _ = Data.cell v := z
      cases z'⟩
  keep := fun i h h' st k => k it (by simp) _ st
  item := by
    intro X hP hw hK hc i pins s σ H E I hf st hg
    subst hP hw hK
    obtain ⟨f0, f1, f2, f3, f4, f5⟩ := hf it (by simp)
    have W := Walks.range (prog := X.prog) (w := X.w) (I.ok.hd hc) it lo 1 n
    refine W.item i s _ _ hg st fun v h' tk hv st' kk => ?_
    obtain ⟨t, rfl⟩ := hv
    have I1 : Inv X pins σ H { s with heap := h', toks := tk } := I.turned (fun b o hb e => kk b o (by simpa using hb) e) f0 f1 f3 f4 f5
    refine ⟨_, rfl, go_of (s := { s with heap := h', toks := tk }) (n := "range_iterator") st' rfl rfl (by decide) ⟨.int (lo + i), H, I1, ⟨t, ?_⟩, ⟨rfl, rfl⟩, st', fun b hb => (hf b hb).1⟩⟩
    rw [Int.mul_one]
  done := by
    intro X hP hw hK hc i pins s σ H E I hf st hg
    subst hP hw hK
    obtain ⟨f0, f1, f2, f3, f4, f5⟩ := hf it (by simp)
    exact wpAny_pyNext_range_end (I.ok.hd hc) st (by have : n ≤ i := hg; omega) fun h' eb => ⟨rfl, I.turned (t' := s.toks) (fun b o hb e => eb b o hb e) f0 f1 f3 f4 f5⟩
  self := fun _ _ _ _ _ st h => wpAny_pyIter_rangeiter st h
end L2

namespace L2
open PySem PySem.Spec PyProof.Rows
section
variable {X : Cx} {tg : Expr}
def iList (K : PySem.W.Frag) (tl : TE) : TI := fun σ H R => tl σ H fun x H1 => ∃ a, x = .ref a ∧ (∃ xs, SqL K H1 a xs) ∧ R (Itl K a) H1
def iTup (K : PySem.W.Frag) (tl : TE) : TI := fun σ H R => tl σ H fun x H1 => ∃ a, x = .ref a ∧ (∃ xs, SqT K H1 a xs) ∧ R (Itt K a) H1
theorem pi_list {l : Expr} {tl : TE} (hl : PE X l tl) : PI X tg l (iList X.K tl) := by
  intro pins s σ H R I h
  refine thn (hl pins s σ H _ I h) fun v s1 ⟨x, H1, I1, r1, q1⟩ => ?_
  obtain ⟨a, e, ⟨xs, hq⟩, q⟩ := q1
  subst e
  cases r1
  obtain ⟨its, rv, p, hz⟩ := I1.list hq
  refine wpAny_pyIter_list p.isList ?_
  refine ⟨s1.heap.objs.size, [s1.heap.objs.size], _, _, H1, rfl, I1.kept (t' := s1.toks) fun b o e => Heap.get?_push_of_some _ e, turn_list a _, ⟨_, Heap.get?_push_size _ rfl, rfl, rfl⟩, fun b hb => ?_, q⟩
  have e : b = s1.heap.objs.size := by simpa using hb
  subst e
  exact I1.fpOk (Nat.le_refl _) (I1.hok.fresh (Nat.le_refl _))
theorem pi_tup {l : Expr} {tl : TE} (hl : PE X l tl) : PI X tg l (iTup X.K tl) := by
  intro pins s σ H R I h
  refine thn (hl pins s σ H _ I h) fun v s1 ⟨x, H1, I1, r1, q1⟩ => ?_
  obtain ⟨a, e, ⟨xs, hq⟩, q⟩ := q1
  subst e
  cases r1
  obtain ⟨its, rv, p, hz⟩ := I1.tuple hq
  refine wpAny_pyIter_tuple (show s1.heap.IsTuple a its.toArray from p) ?_
  refine ⟨s1.heap.objs.size, [s1.heap.objs.size], _, _, H1, rfl, I1.kept (t' := s1.toks) fun b o e => Heap.get?_push_of_some _ e, turn_tuple a _, ⟨_, Heap.get?_push_size _ rfl, rfl, rfl⟩, fun b hb => ?_, q⟩
  have e : b = s1.heap.objs.size := by simpa using hb
  subst e
  exact I1.fpOk (Nat.le_refl _) (I1.hok.fresh (Nat.le_refl _))
/-- a range object just made, walked -/
theorem range_it {pins : List (Addr × Obj)} {σ : St} {H : Hp} {s : Shared} {R : It → Hp → Prop} {E : Value → Shared → Prop} {lo hi : Int} {t u v : Tok} {tk : Nat} (I : Inv X pins σ H s) (h1 : -(2 ^ 62) ≤ lo) (h2 : lo < 2 ^ 62) (h3 : -(2 ^ 62) ≤ hi) (h4 : hi < 2 ^ 62)
    (q : R (Itr lo (hi - lo).toNat) H) : wpAny (model X.prog X.w) X.A (pyIter (.ref s.heap.objs.size)) (PIE X pins σ tg R) E { s with heap := s.heap.push { cls := .type "range", data := .fields #[.int lo t, .int hi u, .int 1 v] }, toks := tk } := by
  refine wpAny_pyIter_range (IsRange.new ..) (small_one h1 h2 h3 h4) ?_
  have I1 : Inv X pins σ H { s with heap := s.heap.push { cls := .type "range", data := .fields #[.int lo t, .int hi u, .int 1 v] }, toks := tk } := I.kept fun b o e => Heap.get?_push_of_some _ e
  refine ⟨(s.heap.push { cls := .type "range", data := .fields #[.int lo t, .int hi u, .int 1 v] }).objs.size, [(s.heap.push { cls := .type "range", data := .fields #[.int lo t, .int hi u, .int 1 v] }).objs.size], _, _, H, rfl,
    I1.kept (t' := tk) fun b o e => Heap.get?_push_of_some _ e, turn_range _ lo (hi - lo).toNat, ?_, fun b hb => ?_, q⟩
  · have e1 : lo + ((0 : Nat) : Int) * 1 = lo := by simp
    have e2 : (((hi - lo).toNat : Nat) : Int) - ((0 : Nat) : Int) = Builtin.Range.rangeSize lo hi 1 := by rw [rangeSize_one]; split <;> omega
    show IsRangeIter _ _ (lo + ((0 : Nat) : Int) * 1) ((((hi - lo).toNat : Nat) : Int) - ((0 : Nat) : Int)) 1
    rw [e1, e2]
    exact Heap.get?_push_size _ rfl
  · have e : b = (s.heap.push { cls := .type "range", data := .fields #[.int lo t, .int hi u, .int 1 v] }).objs.size := by simpa using hb
    subst e
    exact I1.fpOk (Nat.le_refl _) (I1.hok.fresh (Nat.le_refl _))
def iRng1 (ta : TA) : TI := fun σ H R => ta σ H fun vs H1 => ∃ j : Int, vs = [.int j] ∧ -(2 ^ 62) ≤ j ∧ j < 2 ^ 62 ∧ R (Itr 0 j.toNat) H1
def iRng2 (ta : TA) : TI := fun σ H R => ta σ H fun vs H1 => ∃ i j : Int, vs = [.int i, .int j] ∧ (-(2 ^ 62) ≤ i ∧ i < 2 ^ 62 ∧ -(2 ^ 62) ≤ j ∧ j < 2 ^ 62) ∧ R (Itr i (j - i).toNat) H1
theorem pi_range1 {a : Expr} {ta : TA} {p pos : Pos} (hg : Gl X "range") (hm : X.mg "range" = none) (ha : PA X [a] ta) (hs : starEach [a] X.env = [(false, eval a X.env)] := by rfl) : PI X tg (.Call (.Name "range" p) [a] [] pos) (iRng1 ta) := by
  intro pins s σ H R I h
  refine Call_ (ld_blt I hg hm boot_range (PyProof.Rows.callWith_type1 (thn (ha pos pins s σ H _ I h) fun us s1 ⟨vs, H1, I1, r1, q1⟩ => ?_) hs rfl))
  obtain ⟨j, e, q1, q2, q⟩ := q1
  subst e
  cases r1 with
  | cons r rr =>
    cases rr
    obtain ⟨t, rfl⟩ := r
    exact call_range_1 (range_it I1 (by omega) (by omega) q1 q2 (by simpa using q))
theorem pi_range2 {a b : Expr} {ta : TA} {p pos : Pos} (hg : Gl X "range") (hm : X.mg "range" = none) (ha : PA X [a, b] ta) (hs : starEach [a, b] X.env = [(false, eval a X.env), (false, eval b X.env)] := by rfl) (hs2 : starEach [b] X.env = [(false, eval b X.env)] := by rfl) :
    PI X tg (.Call (.Name "range" p) [a, b] [] pos) (iRng2 ta) := by
  intro pins s σ H R I h
  refine Call_ (ld_blt I hg hm boot_range (PyProof.Rows.callWith_type1 (thn (ha pos pins s σ H _ I h) fun us s1 ⟨vs, H1, I1, r1, q1⟩ => ?_) (by rw [hs, hs2]) (by rw [hs2]; rfl)))
  obtain ⟨i, j, e, ⟨q1, q2, q3, q4⟩, q⟩ := q1
  subst e
  cases r1 with
  | cons r rr =>
    cases rr with
    | cons r' rr =>
      cases rr
      obtain ⟨t, rfl⟩ := r
      obtain ⟨t', rfl⟩ := r'
      exact call_range_2 (range_it I1 q1 q2 q3 q4 q)

/-! ### for -/
/-- W: the invariant by the turn and a measure; N: what the body is to reach -/
def tFor (wi : TI) (g : TG) (tb : TS) : TS := fun D σ H => wi σ H fun J H1 => ∃ W : Nat → Nat → St → Hp → Prop, (∃ m, W 0 m σ H1) ∧ ∀ i m σ H, W i m σ H →
  (J.stop i H ∧ D.nx σ H) ∨ (J.go i H ∧ ∃ N : St → Hp → Prop, (∀ σ' H', N σ' H' → ∃ m', m' < m ∧ W (i + 1) m' σ' H') ∧ ∀ x H', J.yld i H x H' → g x σ H' fun σ2 H2 => tb { D with nx := N, ct := N, bk := D.nx } σ2 H2)
/-- the records at fp as they stand -/
def pinsAt (fp : List Addr) (h : Heap) : List (Addr × Obj) := fp.filterMap fun b => (h.get? b).map fun o => (b, o)
theorem mem_pinsAt {fp : List Addr} {h : Heap} {b : Addr} {o : Obj} (hb : b ∈ fp) (e : h.get? b = some o) : (b, o) ∈ pinsAt fp h := List.mem_filterMap.mpr ⟨b, hb, by rw [e]; rfl⟩
theorem of_pinsAt {fp : List Addr} {h : Heap} {p : Addr × Obj} (hp : p ∈ pinsAt fp h) : p.1 ∈ fp ∧ h.get? p.1 = some p.2 := by
  obtain ⟨b, hb, e⟩ := List.mem_filterMap.mp hp
  cases q : h.get? b with
  | none => rw [q] at e; cases e
  | some o =>
    rw [q] at e
    have e' : (b, o) = p := Option.some.inj e
    subst e'
    exact ⟨hb, q⟩
theorem Inv.pinned {pins : List (Addr × Obj)} {σ : St} {H : Hp} {s : Shared} {fp : List Addr} (I : Inv X pins σ H s) (hf : ∀ b ∈ fp, FpOk X pins H b) (ho : ∀ b ∈ fp, ∃ o, s.heap.get? b = some o ∧ ∀ v, o.data ≠ .cell v) : Inv X (pins ++ pinsAt fp s.heap) σ H s :=
  I.pins_of fun p hp => (List.mem_append.mp hp).elim (fun z => I.pin p (List.mem_append_right _ z)) fun z => by
    obtain ⟨hb, e⟩ := of_pinsAt z
    obtain ⟨f0, f1, f2, _⟩ := hf p.1 hb
    obtain ⟨o, e', d⟩ := ho p.1 hb
    rw [e] at e'; cases e'
    exact ⟨e, f0, f1, f2, d⟩
theorem Inv.unpinned {pins pl : List (Addr × Obj)} {σ : St} {H : Hp} {s : Shared} (I : Inv X (pins ++ pl) σ H s) : Inv X pins σ H s := I.pins_of fun p hp => I.pin p (List.mem_append_right _ (List.mem_append_left _ hp))
theorem ps_for {iter : Expr} {body : List Stmt} {wi : TI} {g : TG} {tb : TS} {pos : Pos} (hp : PassesOwn (model X.prog X.w) X.A X.env X.xe) (hc : X.calm = true) (hi : PI X tg iter wi) (hg : PG X tg g) (hb : PSs X body tb)
    (hs : ∀ x, foldedSetIterable iter X.env x = pure x := by intro _; rfl) : PS X (.For tg iter body [] pos) (tFor wi g tb) := by
  intro pins s σ H D I h
  refine wpAny_For (thn (hi pins s σ H _ I h) fun v s1 h1 => thn h1 fun itv s2 h2 => ?_) hs
  obtain ⟨it, fp, tn, J, H2, e, I2, T, st2, f2, W, ⟨m0, w0⟩, turn⟩ := h2
  subst e
  -- what stays true of the iterator's objects through the loop
  have stat : ∀ {H' : Hp}, (∀ b ∈ fp, H' b = none) → ∀ b ∈ fp, FpOk X pins H' b := fun hn b hb => ⟨hn b hb, (f2 b hb).2⟩
  refine codeAny_forLoop_any (fun n s' => ∃ i σ' H', Inv X pins σ' H' s' ∧ tn i s'.heap ∧ (∀ b ∈ fp, H' b = none) ∧ W i n σ' H') ?_ m0 ⟨0, σ, H2, I2, st2, fun b hb => (f2 b hb).1, w0⟩
  rintro n s3 ⟨i, σ3, H3, I3, st3, fr3, w3⟩
  rcases turn i n σ3 H3 w3 with ⟨stop, qn⟩ | ⟨go, N, hN, step⟩
  · refine wpAny_passesOwn hp (thn (T.done X rfl rfl rfl hc i pins s3 σ3 H3 X.xe I3 (stat fr3) st3 stop) fun r s4 ⟨hr, I4⟩ => ?_)
    subst hr
    exact wpAny_execs_nil ⟨σ3, H3, I4, qn⟩
  · refine wpAny_passesOwn hp (thn (T.item X rfl rfl rfl hc i pins s3 σ3 H3 X.xe I3 (stat fr3) st3 go) fun r s4 ⟨u, hr, h4⟩ => ?_)
    subst hr
    refine wpAny_passesOwn hp (thn h4 fun _ s5 ⟨x, H5, I5, r5, y5, st5, fr5⟩ => ?_)
    have I5' := I5.pinned (stat fr5) (T.obj _ _ st5)
    refine wpAny_passesOwn hp (thn (hg _ s5 σ3 H5 x u _ I5' r5 (step x H5 y5)) fun _ s6 ⟨σ6, H6, I6, q6⟩ => ?_)
    refine wpAny_passesOwn hp (thn (hb _ s6 σ6 H6 _ I6 q6) fun f s7 q7 => ?_)
    have again : ∀ {σ7 : St} {H7 : Hp}, Inv X (pins ++ pinsAt fp s5.heap) σ7 H7 s7 → N σ7 H7 → ∃ m, m < n ∧ ∃ i σ' H', Inv X pins σ' H' s7 ∧ tn i s7.heap ∧ (∀ b ∈ fp, H' b = none) ∧ W i m σ' H' := fun {σ7 H7} I7 n7 => by
      obtain ⟨m', hm, w7⟩ := hN σ7 H7 n7
      refine ⟨m', hm, i + 1, σ7, H7, I7.unpinned, T.keep _ _ _ st5 fun b hb o e => (I7.pin (b, o) (List.mem_append_right _ (List.mem_append_right _ (mem_pinsAt hb e)))).1, fun b hb => ?_, w7⟩
      obtain ⟨o, e, d⟩ := T.obj _ _ st5 b hb
      exact (I7.pin (b, o) (List.mem_append_right _ (List.mem_append_right _ (mem_pinsAt hb e)))).2.1
    cases f with
    | next => obtain ⟨σ7, H7, I7, n7⟩ := q7; exact again I7 n7
    | cont => obtain ⟨σ7, H7, I7, n7⟩ := q7; exact again I7 n7
    | brk => obtain ⟨σ7, H7, I7, q7⟩ := q7; exact ⟨σ7, H7, I7.unpinned, q7⟩
    | ret v => obtain ⟨x7, σ7, H7, I7, r7, q7⟩ := q7; exact ⟨x7, σ7, H7, I7.unpinned, r7, q7⟩
end

/-! ### the forms one uses -/
/-- over a list that the body leaves as it is -/
theorem for_list {K : PySem.W.Frag} {a : Addr} {xs : List V} {g : TG} {tb : TS} {D : Ends} {σ : St} {H : Hp} (Pv : Nat → St → Hp → Prop) (h0 : Pv 0 σ H) (hl : ∀ i σ H, i ≤ xs.length → Pv i σ H → SqL K H a xs)
    (hs : ∀ i x σ H, xs[i]? = some x → Pv i σ H → g x σ H fun σ2 H2 => tb { D with nx := Pv (i + 1), ct := Pv (i + 1), bk := D.nx } σ2 H2) (hd : ∀ σ H, Pv xs.length σ H → D.nx σ H) :
    ∃ W : Nat → Nat → St → Hp → Prop, (∃ m, W 0 m σ H) ∧ ∀ i m σ H, W i m σ H →
      ((Itl K a).stop i H ∧ D.nx σ H) ∨ ((Itl K a).go i H ∧ ∃ N : St → Hp → Prop, (∀ σ' H', N σ' H' → ∃ m', m' < m ∧ W (i + 1) m' σ' H') ∧ ∀ x H', (Itl K a).yld i H x H' → g x σ H' fun σ2 H2 => tb { D with nx := N, ct := N, bk := D.nx } σ2 H2) := by
  refine ⟨fun i m σ H => m = xs.length - i ∧ i ≤ xs.length ∧ Pv i σ H, ⟨xs.length, by simp, Nat.zero_le _, h0⟩, ?_⟩
  rintro i m σ H ⟨rfl, hi, p⟩
  have q := hl i σ H hi p
  by_cases hlt : i < xs.length
  · refine .inr ⟨⟨xs, xs[i], q, by simp [hlt]⟩, Pv (i + 1), fun σ' H' p' => ⟨xs.length - (i + 1), by omega, rfl, hlt, p'⟩, fun x H' y => ?_⟩
    obtain ⟨e, y⟩ := y
    subst e
    exact hs i x σ _ (y xs q) p
  · have e : i = xs.length := by omega
    subst e
    exact .inl ⟨⟨xs, q, Nat.le_refl _⟩, hd σ H p⟩
theorem for_tup {K : PySem.W.Frag} {a : Addr} {xs : List V} {g : TG} {tb : TS} {D : Ends} {σ : St} {H : Hp} (Pv : Nat → St → Hp → Prop) (h0 : Pv 0 σ H) (hl : ∀ i σ H, i ≤ xs.length → Pv i σ H → SqT K H a xs)
    (hs : ∀ i x σ H, xs[i]? = some x → Pv i σ H → g x σ H fun σ2 H2 => tb { D with nx := Pv (i + 1), ct := Pv (i + 1), bk := D.nx } σ2 H2) (hd : ∀ σ H, Pv xs.length σ H → D.nx σ H) :
    ∃ W : Nat → Nat → St → Hp → Prop, (∃ m, W 0 m σ H) ∧ ∀ i m σ H, W i m σ H →
      ((Itt K a).stop i H ∧ D.nx σ H) ∨ ((Itt K a).go i H ∧ ∃ N : St → Hp → Prop, (∀ σ' H', N σ' H' → ∃ m', m' < m ∧ W (i + 1) m' σ' H') ∧ ∀ x H', (Itt K a).yld i H x H' → g x σ H' fun σ2 H2 => tb { D with nx := N, ct := N, bk := D.nx } σ2 H2) := by
  refine ⟨fun i m σ H => m = xs.length - i ∧ i ≤ xs.length ∧ Pv i σ H, ⟨xs.length, by simp, Nat.zero_le _, h0⟩, ?_⟩
  rintro i m σ H ⟨rfl, hi, p⟩
  have q := hl i σ H hi p
  by_cases hlt : i < xs.length
  · refine .inr ⟨⟨xs, xs[i], q, by simp [hlt]⟩, Pv (i + 1), fun σ' H' p' => ⟨xs.length - (i + 1), by omega, rfl, hlt, p'⟩, fun x H' y => ?_⟩
    obtain ⟨e, y⟩ := y
    subst e
    exact hs i x σ _ (y xs q) p
  · have e : i = xs.length := by omega
    subst e
    exact .inl ⟨⟨xs, q, Nat.le_refl _⟩, hd σ H p⟩
theorem for_range {lo : Int} {n : Nat} {g : TG} {tb : TS} {D : Ends} {σ : St} {H : Hp} (Pv : Nat → St → Hp → Prop) (h0 : Pv 0 σ H)
    (hs : ∀ i σ H, i < n → Pv i σ H → g (.int (lo + i)) σ H fun σ2 H2 => tb { D with nx := Pv (i + 1), ct := Pv (i + 1), bk := D.nx } σ2 H2) (hd : ∀ σ H, Pv n σ H → D.nx σ H) :
    ∃ W : Nat → Nat → St → Hp → Prop, (∃ m, W 0 m σ H) ∧ ∀ i m σ H, W i m σ H →
      ((Itr lo n).stop i H ∧ D.nx σ H) ∨ ((Itr lo n).go i H ∧ ∃ N : St → Hp → Prop, (∀ σ' H', N σ' H' → ∃ m', m' < m ∧ W (i + 1) m' σ' H') ∧ ∀ x H', (Itr lo n).yld i H x H' → g x σ H' fun σ2 H2 => tb { D with nx := N, ct := N, bk := D.nx } σ2 H2) := by
  refine ⟨fun i m σ H => m = n - i ∧ i ≤ n ∧ Pv i σ H, ⟨n, by simp, Nat.zero_le _, h0⟩, ?_⟩
  rintro i m σ H ⟨rfl, hi, p⟩
  by_cases hlt : i < n
  · refine .inr ⟨hlt, Pv (i + 1), fun σ' H' p' => ⟨n - (i + 1), by omega, rfl, hlt, p'⟩, fun x H' y => ?_⟩
    obtain ⟨e, y⟩ := y
    subst e y
    exact hs i σ _ hlt p
  · have e : i = n := by omega
    subst e
    exact .inl ⟨Nat.le_refl _, hd σ H p⟩
/-- while, by a word and a measure of the state -/
theorem while_by {c : TT} {tb : TS} {D : Ends} {σ : St} {H : Hp} (Pv : St → Hp → Prop) (μ : St → Hp → Nat) (h0 : Pv σ H)
    (hs : ∀ σ H, Pv σ H → c σ H fun b H1 => if b = true then tb { D with nx := fun σ' H' => Pv σ' H' ∧ μ σ' H' < μ σ H, ct := fun σ' H' => Pv σ' H' ∧ μ σ' H' < μ σ H, bk := D.nx } σ H1 else D.nx σ H1)
    (mono : ∀ σ H Q Q', (∀ b H1, Q b H1 → Q' b H1) → c σ H Q → c σ H Q') : tWhile c tb D σ H := by
  refine ⟨fun m σ H => m = μ σ H ∧ Pv σ H, ⟨_, rfl, h0⟩, ?_⟩
  rintro m σ H ⟨rfl, p⟩
  refine mono σ H _ _ (fun b H1 q => ?_) (hs σ H p)
  cases b with
  | true => exact ⟨_, fun σ' H' ⟨p', l⟩ => ⟨_, l, rfl, p'⟩, q⟩
  | false => exact q
end L2

namespace L2
open PySem PySem.Spec PyProof.Rows

abbrev R2 := V → V → Hp → VK → Prop
/-- a two-place operation on values: f is binaryOp op, inplaceOp op or compareOp op -/
def OpR (X : Cx) (f : Value → Value → Sem Value) (r : R2) : Prop :=
  ∀ (pins : List (Addr × Obj)) (s : Shared) (σ : St) (H : Hp) (x y : V) (v u : Value) (Q : VK), Inv X pins σ H s → RelV x v → RelV y u → r x y H Q →
    wpAny (model X.prog X.w) X.A (f v u) (EP X pins σ Q) X.xe s
/-- a one-place operation -/
def UnR (X : Cx) (f : Value → Sem Value) (r : V → Hp → VK → Prop) : Prop :=
  ∀ (pins : List (Addr × Obj)) (s : Shared) (σ : St) (H : Hp) (x : V) (v : Value) (Q : VK), Inv X pins σ H s → RelV x v → r x H Q →
    wpAny (model X.prog X.w) X.A (f v) (EP X pins σ Q) X.xe s
/-- a call of a value that is known (a builtin, a type) with values -/
def CallR (X : Cx) (f : Value) (r : List V → Hp → VK → Prop) : Prop :=
  ∀ (pins : List (Addr × Obj)) (s : Shared) (σ : St) (H : Hp) (xs : List V) (us : List Value) (Q : VK), Inv X pins σ H s → Vals xs us → r xs H Q →
    wpAny (model X.prog X.w) X.A (call f us) (EP X pins σ Q) X.xe s
/-- a value's truth -/
def TruR (X : Cx) (r : V → Hp → (Bool → Hp → Prop) → Prop) : Prop :=
  ∀ (pins : List (Addr × Obj)) (s : Shared) (σ : St) (H : Hp) (x : V) (v : Value) (Q : Bool → Hp → Prop), Inv X pins σ H s → RelV x v → r x H Q →
    wpAny (model X.prog X.w) X.A (truthy v) (TP X pins σ Q) X.xe s

def tOp (r : R2) (ta tb : TE) : TE := fun σ H Q => ta σ H fun x H1 => tb σ H1 fun y H2 => r x y H2 Q
def tUn (r : V → Hp → VK → Prop) (ta : TE) : TE := fun σ H Q => ta σ H fun x H1 => r x H1 Q
/-- ints in, under C, and a value out -/
def rI (C : Int → Int → Prop) (g : Int → Int → V) : R2 := fun x y H Q => ∃ i j, x = .int i ∧ y = .int j ∧ C i j ∧ Q (g i j) H
def rI0 (g : Int → Int → V) : R2 := fun x y H Q => ∃ i j, x = .int i ∧ y = .int j ∧ Q (g i j) H
def rU (g : Int → V) : V → Hp → VK → Prop := fun x H Q => ∃ i, x = .int i ∧ Q (g i) H

section
variable {X : Cx} {a b c : Expr} {ta tb tc : TE} {pos : Pos}

theorem binT (ha : PE X a ta) (hb : PE X b tb) {pins : List (Addr × Obj)} {s : Shared} {σ : St} {H : Hp} {R : V → V → Hp → Prop} (I : Inv X pins σ H s)
    (h : ta σ H fun x H1 => tb σ H1 fun y H2 => R x y H2) {Q : Value → Shared → Prop} {f : Value → Value → Sem Value}
    (hf : ∀ v u s2 x y H2, Inv X pins σ H2 s2 → RelV x v → RelV y u → R x y H2 → wpAny (model X.prog X.w) X.A (f v u) Q X.xe s2) :
    wpAny (model X.prog X.w) X.A (eval a X.env) (fun v s₁ => wpAny (model X.prog X.w) X.A (eval b X.env) (fun u s₂ => wpAny (model X.prog X.w) X.A (f v u) Q X.xe s₂) X.xe s₁) X.xe s := by
  refine thn (ha pins s σ H _ I h) fun v s1 ⟨x, H1, I1, r1, q1⟩ => ?_
  refine thn (hb pins s1 σ H1 _ I1 q1) fun u s2 ⟨y, H2, I2, r2, q2⟩ => ?_
  exact hf v u s2 x y H2 I2 r1 r2 q2

theorem pe_op {op : Operator} {r : R2} (ho : OpR X (binaryOp op) r) (ha : PE X a ta) (hb : PE X b tb) : PE X (.BinOp a op b pos) (tOp r ta tb) := by
  intro pins s σ H Q I h
  exact wpAny_BinOp (binT ha hb I h fun v u s2 x y H2 I2 rx ry q => ho pins s2 σ H2 x y v u Q I2 rx ry q)
theorem pe_un {op : UnaryOp} {r : V → Hp → VK → Prop} (ho : UnR X (unaryOp op) r) (ha : PE X a ta) : PE X (.UnaryOp op a pos) (tUn r ta) := by
  intro pins s σ H Q I h
  exact UnaryOp_ (thn (ha pins s σ H _ I h) fun v s1 ⟨x, H1, I1, r1, q1⟩ => ho pins s1 σ H1 x v Q I1 r1 q1)
/-- a op= e at a name: the name's slot i -/
theorem augR {op : Operator} {r : R2} (ho : OpR X (inplaceOp op) r) {pins : List (Addr × Obj)} {s : Shared} {σ : St} {H : Hp} {x y : V} {v u : Value} {Q : VK} (I : Inv X pins σ H s)
    (rx : RelV x v) (ry : RelV y u) (q : r x y H Q) : wpAny (model X.prog X.w) X.A (inplaceOp op v u) (EP X pins σ Q) X.xe s := ho pins s σ H x y v u Q I rx ry q

/-! ### ints -/
theorem opI {f : Value → Value → Sem Value} {C : Int → Int → Prop} {g : Int → Int → Int}
    (rule : ∀ (i j : Int) (t u : Tok) (s : Shared) (Q : Value → Shared → Prop) (E : Value → Shared → Prop), C i j → Q (.int (g i j) s.toks) { s with toks := s.toks + 1 } → wpAny (model X.prog X.w) X.A (f (.int i t) (.int j u)) Q E s) :
    OpR X f (rI C fun i j => .int (g i j)) := by
  intro pins s σ H x y v u Q I rx ry h
  obtain ⟨i, j, rfl, rfl, hc, q⟩ := h
  obtain ⟨t, rfl⟩ := rx
  obtain ⟨t', rfl⟩ := ry
  exact rule i j t t' s _ _ hc ⟨.int (g i j), H, I.tok _, ⟨_, rfl⟩, q⟩
theorem opI0 {f : Value → Value → Sem Value} {g : Int → Int → Int}
    (rule : ∀ (i j : Int) (t u : Tok) (s : Shared) (Q : Value → Shared → Prop) (E : Value → Shared → Prop), Q (.int (g i j) s.toks) { s with toks := s.toks + 1 } → wpAny (model X.prog X.w) X.A (f (.int i t) (.int j u)) Q E s) :
    OpR X f (rI0 fun i j => .int (g i j)) := by
  intro pins s σ H x y v u Q I rx ry h
  obtain ⟨i, j, rfl, rfl, q⟩ := h
  obtain ⟨t, rfl⟩ := rx
  obtain ⟨t', rfl⟩ := ry
  exact rule i j t t' s _ _ ⟨.int (g i j), H, I.tok _, ⟨_, rfl⟩, q⟩
theorem opB0 {f : Value → Value → Sem Value} {g : Int → Int → Bool}
    (rule : ∀ (i j : Int) (t u : Tok) (s : Shared) (Q : Value → Shared → Prop) (E : Value → Shared → Prop), Q (.bool (g i j)) s → wpAny (model X.prog X.w) X.A (f (.int i t) (.int j u)) Q E s) :
    OpR X f (rI0 fun i j => .bl (g i j)) := by
  intro pins s σ H x y v u Q I rx ry h
  obtain ⟨i, j, rfl, rfl, q⟩ := h
  obtain ⟨t, rfl⟩ := rx
  obtain ⟨t', rfl⟩ := ry
  exact rule i j t t' s _ _ ⟨.bl (g i j), H, I, rfl, q⟩

def CDiv (i j : Int) : Prop := 0 < j ∧ j < 1073741824
def CDivN (i j : Int) : Prop := j ≠ 0 ∧ j.natAbs < 1073741824
def CPow (i j : Int) : Prop := 0 ≤ j ∧ j ≤ 1000000 ∧ i.natAbs < 2 ^ 64
def CMul (i j : Int) : Prop := (-(2 ^ 64) < i ∧ i < 2 ^ 64) ∨ (-(2 ^ 64) < j ∧ j < 2 ^ 64)
theorem CMul.ok {i j : Int} (h : CMul i j) : IntMulOk i j := by
  rcases h with ⟨h1, h2⟩ | ⟨h1, h2⟩
  · exact .of_left (intBits_le_64 h1 h2)
  · exact .of_right (intBits_le_64 h1 h2)
theorem two_pow_nn (k : Nat) : (0 : Int) ≤ 2 ^ k := by
  rw [two_pow_cast]
  exact Int.natCast_nonneg _

theorem op_add : OpR X (binaryOp .Add) (rI0 fun i j => .int (i + j)) := opI0 fun _ _ _ _ _ _ _ q => add_int q
theorem op_sub : OpR X (binaryOp .Sub) (rI0 fun i j => .int (i - j)) := opI0 fun _ _ _ _ _ _ _ q => sub_int q
theorem op_mul : OpR X (binaryOp .Mult) (rI CMul fun i j => .int (i * j)) := opI fun _ _ _ _ _ _ _ hc q => mul_int q hc.ok
/-- // by a positive divisor -/
theorem op_fdiv : OpR X (binaryOp .FloorDiv) (rI CDiv fun i j => .int (i / j)) := opI fun i j _ _ _ _ _ hc q => by
  have h1 : (0 : Int) < j := hc.1
  have h2 : j < 1073741824 := hc.2
  exact floordiv_int (by omega) (by rw [Int.fdiv_eq_ediv_of_nonneg i (by omega)]; exact q) (.inl (PyProof.noPylong_small (by omega)))
theorem op_fdivN : OpR X (binaryOp .FloorDiv) (rI CDivN fun i j => .int (i.fdiv j)) := opI fun _ _ _ _ _ _ _ hc q => floordiv_int hc.1 q (.inl (PyProof.noPylong_small hc.2))
/-- % by a positive divisor of any size -/
theorem op_mod : OpR X (binaryOp .Mod) (rI (fun _ j => 0 < j) fun i j => .int (i % j)) := opI fun i j _ _ _ _ _ hc q => by
  have h1 : (0 : Int) < j := hc
  exact mod_int' (by omega) (by rw [Int.fmod_eq_emod_of_nonneg i (by omega)]; exact q)
theorem op_modN : OpR X (binaryOp .Mod) (rI (fun _ j => j ≠ 0) fun i j => .int (i.fmod j)) := opI fun _ _ _ _ _ _ _ hc q => mod_int' hc q
theorem op_pow : OpR X (binaryOp .Pow) (rI CPow fun i j => .int (i ^ j.toNat)) := opI fun _ _ _ _ _ _ _ hc q => pow_int_small hc.1 hc.2.1 hc.2.2 q
theorem op_shl : OpR X (binaryOp .LShift) (rI CPow fun i j => .int (i * 2 ^ j.toNat)) := opI fun _ _ _ _ _ _ _ hc q => lshift_int_small hc.1 hc.2.1 hc.2.2 q
theorem op_shr : OpR X (binaryOp .RShift) (rI (fun _ j => 0 ≤ j) fun i j => .int (i / 2 ^ j.toNat)) := opI fun i j _ _ _ _ _ hc q =>
  rshift_int hc (by rw [Int.fdiv_eq_ediv_of_nonneg i (two_pow_nn _)]; exact q)
theorem op_and : OpR X (binaryOp .BitAnd) (rI0 fun i j => .int (Builtin.bitAnd i j)) := opI0 fun _ _ _ _ _ _ _ q => and_int q
theorem op_or : OpR X (binaryOp .BitOr) (rI0 fun i j => .int (Builtin.bitOr i j)) := opI0 fun _ _ _ _ _ _ _ q => or_int q
theorem op_xor : OpR X (binaryOp .BitXor) (rI0 fun i j => .int (Builtin.bitXor i j)) := opI0 fun _ _ _ _ _ _ _ q => xor_int q

theorem iop_add : OpR X (inplaceOp .Add) (rI0 fun i j => .int (i + j)) := opI0 fun _ _ _ _ _ _ _ q => iadd_int q
theorem iop_sub : OpR X (inplaceOp .Sub) (rI0 fun i j => .int (i - j)) := opI0 fun _ _ _ _ _ _ _ q => isub_int q
theorem iop_mul : OpR X (inplaceOp .Mult) (rI CMul fun i j => .int (i * j)) := opI fun _ _ _ _ _ _ _ hc q => imul_int q hc.ok
theorem iop_fdiv : OpR X (inplaceOp .FloorDiv) (rI CDiv fun i j => .int (i / j)) := opI fun i j _ _ _ _ _ hc q => by
  have h1 : (0 : Int) < j := hc.1
  have h2 : j < 1073741824 := hc.2
  exact ifloordiv_int (by omega) (by rw [Int.fdiv_eq_ediv_of_nonneg i (by omega)]; exact q) (.inl (PyProof.noPylong_small (by omega)))
theorem iop_mod : OpR X (inplaceOp .Mod) (rI (fun _ j => 0 < j) fun i j => .int (i % j)) := opI fun i j _ _ _ _ _ hc q => by
  have h1 : (0 : Int) < j := hc
  exact imod_int (by omega) (by rw [Int.fmod_eq_emod_of_nonneg i (by omega)]; exact q)
theorem iop_shl : OpR X (inplaceOp .LShift) (rI CPow fun i j => .int (i * 2 ^ j.toNat)) := opI fun _ _ _ _ _ _ _ hc q => ilshift_int_small hc.1 hc.2.1 hc.2.2 q
theorem iop_shr : OpR X (inplaceOp .RShift) (rI (fun _ j => 0 ≤ j) fun i j => .int (i / 2 ^ j.toNat)) := opI fun i j _ _ _ _ _ hc q =>
  irshift_int hc (by rw [Int.fdiv_eq_ediv_of_nonneg i (two_pow_nn _)]; exact q)
theorem iop_and : OpR X (inplaceOp .BitAnd) (rI0 fun i j => .int (Builtin.bitAnd i j)) := opI0 fun _ _ _ _ _ _ _ q => iand_int q
theorem iop_or : OpR X (inplaceOp .BitOr) (rI0 fun i j => .int (Builtin.bitOr i j)) := opI0 fun _ _ _ _ _ _ _ q => ior_int q
theorem iop_xor : OpR X (inplaceOp .BitXor) (rI0 fun i j => .int (Builtin.bitXor i j)) := opI0 fun _ _ _ _ _ _ _ q => ixor_int q

theorem unI {f : Value → Sem Value} {g : Int → Int}
    (rule : ∀ (i : Int) (t : Tok) (s : Shared) (Q : Value → Shared → Prop) (E : Value → Shared → Prop), Q (.int (g i) s.toks) { s with toks := s.toks + 1 } → wpAny (model X.prog X.w) X.A (f (.int i t)) Q E s) :
    UnR X f (rU fun i => .int (g i)) := by
  intro pins s σ H x v Q I rx h
  obtain ⟨i, rfl, q⟩ := h
  obtain ⟨t, rfl⟩ := rx
  exact rule i t s _ _ ⟨.int (g i), H, I.tok _, ⟨_, rfl⟩, q⟩
theorem un_neg : UnR X (unaryOp .USub) (rU fun i => .int (-i)) := unI fun _ _ _ _ _ q => neg_int q
theorem un_inv : UnR X (unaryOp .Invert) (rU fun i => .int (Builtin.bitNot i)) := unI fun _ _ _ _ _ q => invert_int q

/-! ### bools among ints: n += (a < b) -/
theorem op_add_ib : OpR X (binaryOp .Add) (fun x y H Q => ∃ i k, x = .int i ∧ y = .bl k ∧ Q (.int (i + b2i k)) H) := by
  intro pins s σ H x y v u Q I rx ry h
  obtain ⟨i, k, rfl, rfl, q⟩ := h
  obtain ⟨t, rfl⟩ := rx
  cases ry
  exact add_int_bool ⟨.int (i + b2i k), H, I.tok _, ⟨_, rfl⟩, q⟩
end

/-! ### comparisons -/
/-- the scalars that == tells apart as data does -/
def scal : V → V → Bool
  | .non, .non => true | .non, .int _ => true | .int _, .non => true | .non, .bl _ => true | .bl _, .non => true | .non, .str _ => true | .str _, .non => true
  | .int _, .int _ => true | .bl _, .bl _ => true | .str _, .str _ => true | .byt _, .byt _ => true
  | .int _, .str _ => true | .str _, .int _ => true | .bl _, .str _ => true | .str _, .bl _ => true
  | _, _ => false
def rEq : R2 := fun x y H Q => scal x y = true ∧ Q (.bl (decide (x = y))) H
def rNe : R2 := fun x y H Q => scal x y = true ∧ Q (.bl (!decide (x = y))) H

theorem dec_int {i j : Int} : decide (V.int i = V.int j) = (i == j) := by
  rw [Bool.eq_iff_iff]
  simp
theorem dec_bl {i j : Bool} : decide (V.bl i = V.bl j) = (i == j) := by
  rw [Bool.eq_iff_iff]
  simp
theorem dec_str {i j : Str} : decide (V.str i = V.str j) = (i == j) := by
  rw [Bool.eq_iff_iff]
  simp
theorem dec_byt {i j : Array UInt8} : decide (V.byt i = V.byt j) = (i.toList == j.toList) := by
  rw [Bool.eq_iff_iff]
  cases i
  cases j
  simp

section
variable {X : Cx} {a b c : Expr} {ta tb tc : TE} {pos : Pos}
theorem fin_bl {pins : List (Addr × Obj)} {σ : St} {H : Hp} {s : Shared} {Q : VK} {k k' : Bool} (I : Inv X pins σ H s) (q : Q (.bl k) H) (e : k = k') : EP X pins σ Q (.bool k') s := by
  subst e
  exact ⟨.bl k, H, I, rfl, q⟩
theorem op_eq : OpR X (compareOp .Eq) rEq := by
  intro pins s σ H x y v u Q I rx ry h
  obtain ⟨hs, q⟩ := h
  cases x with
  | non =>
    cases rx
    cases y with
    | non => cases ry; exact PySem.EqNone.eq_none_none (fin_bl I q (by simp))
    | bl j => cases ry; exact PySem.EqNone.eq_none_bool (fin_bl I q (by simp))
    | int j => obtain ⟨t', rfl⟩ := ry; exact PySem.EqNone.eq_none_int (fin_bl I q (by simp))
    | str j => obtain ⟨t', rfl⟩ := ry; exact PySem.EqNone.eq_none_str (fin_bl I q (by simp))
    | _ => exact absurd (show false = true from hs) Bool.false_ne_true
  | bl i =>
    cases rx
    cases y with
    | non => cases ry; exact PySem.EqNone.eq_bool_none (fin_bl I q (by simp))
    | bl j => cases ry; exact eq_bool (fin_bl I q dec_bl)
    | str j => obtain ⟨t', rfl⟩ := ry; exact PySem.EqMixed.eq_bool_str (fin_bl I q (by simp))
    | _ => exact absurd (show false = true from hs) Bool.false_ne_true
  | int i =>
    obtain ⟨t, rfl⟩ := rx
    cases y with
    | non => cases ry; exact PySem.EqNone.eq_int_none (fin_bl I q (by simp))
    | int j => obtain ⟨t', rfl⟩ := ry; exact eq_int (fin_bl I q dec_int)
    | str j => obtain ⟨t', rfl⟩ := ry; exact PySem.EqMixed.eq_int_str (fin_bl I q (by simp))
    | _ => exact absurd (show false = true from hs) Bool.false_ne_true
  | str i =>
    obtain ⟨t, rfl⟩ := rx
    cases y with
    | non => cases ry; exact PySem.EqNone.eq_str_none (fin_bl I q (by simp))
    | bl j => cases ry; exact PySem.EqMixed.eq_str_bool (fin_bl I q (by simp))
    | int j => obtain ⟨t', rfl⟩ := ry; exact PySem.EqMixed.eq_str_int (fin_bl I q (by simp))
    | str j => obtain ⟨t', rfl⟩ := ry; exact eq_str (fin_bl I q dec_str)
    | _ => exact absurd (show false = true from hs) Bool.false_ne_true
  | byt i =>
    obtain ⟨t, rfl⟩ := rx
    cases y with
    | byt j => obtain ⟨t', rfl⟩ := ry; exact PySem.W.eq_bytes (fin_bl I q dec_byt)
    | _ => exact absurd (show false = true from hs) Bool.false_ne_true
  | _ => cases y <;> exact absurd (show false = true from hs) Bool.false_ne_true
theorem op_ne : OpR X (compareOp .NotEq) rNe := by
  intro pins s σ H x y v u Q I rx ry h
  obtain ⟨hs, q⟩ := h
  cases x with
  | non =>
    cases rx
    cases y with
    | non => cases ry; exact PySem.EqNone.ne_none_none (fin_bl I q (by simp))
    | bl j => cases ry; exact PySem.EqNone.ne_none_bool (fin_bl I q (by simp))
    | int j => obtain ⟨t', rfl⟩ := ry; exact PySem.EqNone.ne_none_int (fin_bl I q (by simp))
    | str j => obtain ⟨t', rfl⟩ := ry; exact PySem.EqNone.ne_none_str (fin_bl I q (by simp))
    | _ => exact absurd (show false = true from hs) Bool.false_ne_true
  | bl i =>
    cases rx
    cases y with
    | non => cases ry; exact PySem.EqNone.ne_bool_none (fin_bl I q (by simp))
    | bl j => cases ry; exact ne_bool (fin_bl I q (congrArg not dec_bl))
    | str j => obtain ⟨t', rfl⟩ := ry; exact PySem.EqMixed.ne_bool_str (fin_bl I q (by simp))
    | _ => exact absurd (show false = true from hs) Bool.false_ne_true
  | int i =>
    obtain ⟨t, rfl⟩ := rx
    cases y with
    | non => cases ry; exact PySem.EqNone.ne_int_none (fin_bl I q (by simp))
    | int j => obtain ⟨t', rfl⟩ := ry; exact ne_int (fin_bl I q (congrArg not dec_int))
    | str j => obtain ⟨t', rfl⟩ := ry; exact PySem.EqMixed.ne_int_str (fin_bl I q (by simp))
    | _ => exact absurd (show false = true from hs) Bool.false_ne_true
  | str i =>
    obtain ⟨t, rfl⟩ := rx
    cases y with
    | non => cases ry; exact PySem.EqNone.ne_str_none (fin_bl I q (by simp))
    | bl j => cases ry; exact PySem.EqMixed.ne_str_bool (fin_bl I q (by simp))
    | int j => obtain ⟨t', rfl⟩ := ry; exact PySem.EqMixed.ne_str_int (fin_bl I q (by simp))
    | str j => obtain ⟨t', rfl⟩ := ry; exact ne_str (fin_bl I q (congrArg not dec_str))
    | _ => exact absurd (show false = true from hs) Bool.false_ne_true
  | byt i =>
    obtain ⟨t, rfl⟩ := rx
    cases y with
    | byt j => obtain ⟨t', rfl⟩ := ry; exact PySem.W.ne_bytes (fin_bl I q (congrArg not dec_byt))
    | _ => exact absurd (show false = true from hs) Bool.false_ne_true
  | _ => cases y <;> exact absurd (show false = true from hs) Bool.false_ne_true

theorem op_lt : OpR X (compareOp .Lt) (rI0 fun i j => .bl (decide (i < j))) := opB0 fun _ _ _ _ _ _ _ q => lt_int q
theorem op_le : OpR X (compareOp .LtE) (rI0 fun i j => .bl (decide (i ≤ j))) := opB0 fun _ _ _ _ _ _ _ q => le_int q
theorem op_gt : OpR X (compareOp .Gt) (rI0 fun i j => .bl (decide (j < i))) := opB0 fun _ _ _ _ _ _ _ q => gt_int q
theorem op_ge : OpR X (compareOp .GtE) (rI0 fun i j => .bl (decide (j ≤ i))) := opB0 fun _ _ _ _ _ _ _ q => ge_int q
theorem op_lt_str : OpR X (compareOp .Lt) (fun x y H Q => ∃ i j, x = .str i ∧ y = .str j ∧ Q (.bl (decide (i.cps.toList < j.cps.toList))) H) := by
  intro pins s σ H x y v u Q I rx ry h
  obtain ⟨i, j, rfl, rfl, q⟩ := h
  obtain ⟨t, rfl⟩ := rx
  obtain ⟨t', rfl⟩ := ry
  exact lt_str (fin_bl I q rfl)
/-- the one string within the other -/
theorem op_in_str : OpR X (compareOp .In) (fun x y H Q => ∃ i j, x = .str i ∧ y = .str j ∧ Q (.bl (!(Builtin.Str.occurrences j i 0 j.length 1).isEmpty)) H) := by
  intro pins s σ H x y v u Q I rx ry h
  obtain ⟨i, j, rfl, rfl, q⟩ := h
  obtain ⟨t, rfl⟩ := rx
  obtain ⟨t', rfl⟩ := ry
  exact in_str (fin_bl I q rfl)

/-- is None, is not None: the right side a value none -/
theorem op_isN : OpR X (compareOp .Is) (fun x y H Q => y = .non ∧ Q (.bl (decide (x = .non))) H) := by
  intro pins s σ H x y v u Q I rx ry h
  obtain ⟨rfl, q⟩ := h
  cases ry
  refine is_none_gen (fin_bl I q ?_)
  cases x <;> first
    | (cases rx; rfl)
    | (obtain ⟨t, rfl⟩ := rx; rfl)
theorem op_notN : OpR X (compareOp .IsNot) (fun x y H Q => y = .non ∧ Q (.bl (!decide (x = .non))) H) := by
  intro pins s σ H x y v u Q I rx ry h
  obtain ⟨rfl, q⟩ := h
  cases ry
  refine isnot_none_gen (fin_bl I q ?_)
  cases x <;> first
    | (cases rx; rfl)
    | (obtain ⟨t, rfl⟩ := rx; rfl)

theorem op_notin_str : OpR X (compareOp .NotIn) (fun x y H Q => ∃ i j, x = .str i ∧ y = .str j ∧ Q (.bl (!(!(Builtin.Str.occurrences j i 0 j.length 1).isEmpty))) H) := by
  intro pins s σ H x y v u Q I rx ry h
  obtain ⟨i, j, rfl, rfl, q⟩ := h
  obtain ⟨t, rfl⟩ := rx
  obtain ⟨t', rfl⟩ := ry
  exact notIn_str (fin_bl I q rfl)
/-- is, is not of two objects that are tracked lists or instances -/
def isObj : HO → Bool
  | .lst _ => true
  | .ins _ _ _ => true
  | _ => false
theorem obj_there {pins : List (Addr × Obj)} {s : Shared} {σ : St} {H : Hp} {a : Addr} {o : HO} (I : Inv X pins σ H s) (h : H a = some o) (p : isObj o = true) : ∃ ob, s.heap.get? a = some ob ∧ ob.cls ≠ .type "tuple" := by
  cases o with
  | lst xs =>
    obtain ⟨_, its, n, _, e⟩ : xs.length ≤ sizeLine ∧ ∃ (its : List Value) (n : Nat), Vals xs its ∧ s.heap.get? a = some { cls := .type "list", data := .seq its.toArray n } := I.hok a _ h
    exact ⟨_, e, (by show Value.type "list" ≠ .type "tuple"; decide +kernel)⟩
  | ins C dx fs =>
    have x := I.hok a _ h
    obtain ⟨_, _, _, e, _⟩ := x
    exact ⟨_, e, (by show Value.ref C ≠ .type "tuple"; exact fun z => by cases z)⟩
  | _ => exact absurd (show false = true from p) Bool.false_ne_true
theorem op_is_ref : OpR X (compareOp .Is) (fun x y H Q => ∃ a b oa ob, x = .ref a ∧ y = .ref b ∧ H a = some oa ∧ isObj oa = true ∧ H b = some ob ∧ isObj ob = true ∧ Q (.bl (decide (a = b))) H) := by
  intro pins s σ H x y v u Q I rx ry h
  obtain ⟨a, b, oa, ob, rfl, rfl, ha, pa, hb, pb, q⟩ := h
  cases rx
  cases ry
  obtain ⟨o1, e1, n1⟩ := obj_there I ha pa
  obtain ⟨o2, e2, _⟩ := obj_there I hb pb
  by_cases z : a = b
  · subst z
    exact wpAny_is_ref_self (fin_bl I q (by simp))
  · exact wpAny_is_ref_other z e1 e2 n1 (fin_bl I q (by simp [z]))
theorem op_isnot_ref : OpR X (compareOp .IsNot) (fun x y H Q => ∃ a b oa ob, x = .ref a ∧ y = .ref b ∧ H a = some oa ∧ isObj oa = true ∧ H b = some ob ∧ isObj ob = true ∧ Q (.bl (!decide (a = b))) H) := by
  intro pins s σ H x y v u Q I rx ry h
  obtain ⟨a, b, oa, ob, rfl, rfl, ha, pa, hb, pb, q⟩ := h
  cases rx
  cases ry
  obtain ⟨o1, e1, n1⟩ := obj_there I ha pa
  obtain ⟨o2, e2, _⟩ := obj_there I hb pb
  by_cases z : a = b
  · subst z
    exact wpAny_isNot_ref_self (fin_bl I q (by simp))
  · exact wpAny_isNot_ref_other z e1 e2 n1 (fin_bl I q (by simp [z]))

/-- two rules for one operation: by cases -/
theorem OpR.or {f : Value → Value → Sem Value} {r r' : R2} (h : OpR X f r) (h' : OpR X f r') : OpR X f (fun x y H Q => r x y H Q ∨ r' x y H Q) := by
  intro pins s σ H x y v u Q I rx ry q
  rcases q with q | q
  · exact h pins s σ H x y v u Q I rx ry q
  · exact h' pins s σ H x y v u Q I rx ry q

theorem nomark (b : Expr) {op : CmpOp} (h : op ≠ .In := by decide) (h2 : op ≠ .NotIn := by decide) : behindInMarks op b = false := by
  have e1 : (op == CmpOp.In) = false := by cases op <;> first | rfl | exact absurd rfl h
  have e2 : (op == CmpOp.NotIn) = false := by cases op <;> first | rfl | exact absurd rfl h2
  cases b <;> simp [behindInMarks, e1, e2]
/-- a comparison as a value; hm: nomark b, or (for in, not in) by with_unfolding_all rfl -/
theorem pe_cmpR {op : CmpOp} {r : R2} (ho : OpR X (compareOp op) r) (ha : PE X a ta) (hb : PE X b tb) (hm : behindInMarks op b = false) : PE X (.Compare a [op] [b] pos) (tOp r ta tb) := by
  intro pins s σ H Q I h
  exact wpAny_Compare1 (binT ha hb I h fun v u s2 x y H2 I2 rx ry q => ho pins s2 σ H2 x y v u Q I2 rx ry q) hm
/-- a reading of a value as a test -/
def tTest (t : TE) : TT := fun σ H Q => t σ H fun x H' => ∃ k, x = .bl k ∧ Q k H'
theorem pt_cmpR {op : CmpOp} {r : R2} (ho : OpR X (compareOp op) r) (ha : PE X a ta) (hb : PE X b tb) (hm : behindInMarks op b = false) : PT X (.Compare a [op] [b] pos) (tTest (tOp r ta tb)) := by
  intro pins s σ H Q I h
  refine wpAny_isTrue_Compare1 (thn (ha pins s σ H _ I h) fun v s1 ⟨x, H1, I1, r1, q1⟩ => thn (hb pins s1 σ H1 _ I1 q1) fun u s2 ⟨y, H2, I2, r2, q2⟩ =>
    thn (ho pins s2 σ H2 x y v u _ I2 r1 r2 q2) fun c s3 ⟨z, H3, I3, r3, k, e, q3⟩ => ?_) hm
  subst e
  cases r3
  exact wpAny_truthy_bool ⟨H3, I3, q3⟩
/-- a op1 b op2 c -/
def tChain (r r' : R2) (ta tb tc : TE) : TE := fun σ H Q => ta σ H fun x H1 => tb σ H1 fun y H2 => r x y H2 fun z H3 => ∃ k, z = .bl k ∧
  (if k = true then tc σ H3 fun w' H4 => r' y w' H4 Q else Q (.bl false) H3)
theorem pe_chain {op op' : CmpOp} {r r' : R2} (ho : OpR X (compareOp op) r) (ho' : OpR X (compareOp op') r') (ha : PE X a ta) (hb : PE X b tb) (hc : PE X c tc)
    (hm : lastMarks [op, op'] [b, c] = false := by with_unfolding_all rfl) : PE X (.Compare a [op, op'] [b, c] pos) (tChain r r' ta tb tc) := by
  intro pins s σ H Q I h
  refine Compare_chain (thn (ha pins s σ H _ I h) fun v s1 ⟨x, H1, I1, r1, q1⟩ => chain_link (thn (hb pins s1 σ H1 _ I1 q1) fun u s2 ⟨y, H2, I2, r2, q2⟩ =>
    thn (ho pins s2 σ H2 x y v u _ I2 r1 r2 q2) fun d s3 ⟨z, H3, I3, r3, k, e, q3⟩ => ?_)) hm
  subst e
  cases r3
  refine wpAny_truthy_bool ?_
  cases k with
  | false => exact ite_ff ⟨.bl false, H3, I3, rfl, q3⟩
  | true => exact ite_tt (chain_last (thn (hc pins s3 σ H3 _ I3 q3) fun w' s4 ⟨z', H4, I4, r4, q4⟩ => ho' pins s4 σ H4 y z' u w' Q I4 r2 r4 q4))
theorem pt_chain {op op' : CmpOp} {r r' : R2} (ho : OpR X (compareOp op) r) (ho' : OpR X (compareOp op') r') (ha : PE X a ta) (hb : PE X b tb) (hc : PE X c tc)
    (hm : lastMarks [op, op'] [b, c] = false := by with_unfolding_all rfl) : PT X (.Compare a [op, op'] [b, c] pos) (tTest (tChain r r' ta tb tc)) := by
  intro pins s σ H Q I h
  refine isTrue_chain (thn (ha pins s σ H _ I h) fun v s1 ⟨x, H1, I1, r1, q1⟩ => test_link (thn (hb pins s1 σ H1 _ I1 q1) fun u s2 ⟨y, H2, I2, r2, q2⟩ =>
    thn (ho pins s2 σ H2 x y v u _ I2 r1 r2 q2) fun d s3 ⟨z, H3, I3, r3, k, e, q3⟩ => ?_)) hm
  subst e
  cases r3
  refine wpAny_truthy_bool ?_
  cases k with
  | false =>
    obtain ⟨k', e', q'⟩ := q3
    cases e'
    exact ite_ff ⟨H3, I3, q'⟩
  | true =>
    refine ite_tt (test_last (thn (hc pins s3 σ H3 _ I3 q3) fun w' s4 ⟨z', H4, I4, r4, q4⟩ => thn (ho' pins s4 σ H4 y z' u w' _ I4 r2 r4 q4) fun d' s5 ⟨z2, H5, I5, r5, k2, e2, q5⟩ => ?_))
    subst e2
    cases r5
    exact wpAny_truthy_bool ⟨H5, I5, q5⟩

/-! ### truth -/
/-- a value's truth by the abstract heap -/
def TruV (K : PySem.W.Frag) (x : V) (H : Hp) (k : Bool) : Prop :=
  match x with
  | .non => k = false
  | .bl b => k = b
  | .int i => k = (i != 0)
  | .str y => y.length ≤ sizeLine ∧ k = ((y.length : Int) != 0)
  | .byt y => y.size ≤ sizeLine ∧ k = ((y.size : Int) != 0)
  | .ref p => (∃ xs, SqL K H p xs ∧ k = !xs.isEmpty) ∨ (∃ xs, SqT K H p xs ∧ k = !xs.isEmpty) ∨ ∃ kvs, H p = some (.dK kvs) ∧ k = !kvs.isEmpty
  | _ => False
theorem isEmpty_kv {κ : Type} {kvs : List (κ × V)} {vs : List (κ × Value)} (r : KV kvs vs) : (!vs.isEmpty) = !kvs.isEmpty := by
  cases r <;> rfl
theorem isEmpty_of {xs : List V} {its : List Value} (r : Vals xs its) : (!its.toArray.isEmpty) = !xs.isEmpty := by
  cases r <;> simp
theorem line63 : (sizeLine : Nat) < 2 ^ 63 := by rw [sizeLine_eq]; decide
theorem tru_ok : TruR X (fun x H Q => ∃ k, TruV X.K x H k ∧ Q k H) := by
  intro pins s σ H x v Q I rx h
  obtain ⟨k, e, q⟩ := h
  have hl := line63
  have hs : sizeLine = 16777216 := sizeLine_eq
  cases x with
  | non =>
    cases rx
    have e' : k = false := e
    subst e'
    exact truthy_none ⟨H, I, q⟩
  | bl b =>
    cases rx
    have e' : k = b := e
    subst e'
    exact wpAny_truthy_bool ⟨H, I, q⟩
  | int i =>
    obtain ⟨t, rfl⟩ := rx
    have e' : k = (i != 0) := e
    subst e'
    exact PySem.P.truthy_int ⟨H, I, q⟩
  | str y =>
    obtain ⟨t, rfl⟩ := rx
    obtain ⟨hy, e'⟩ : y.length ≤ sizeLine ∧ k = ((y.length : Int) != 0) := e
    subst e'
    exact PySem.P.truthy_str (by omega) ⟨H, I.tok _, q⟩
  | byt y =>
    obtain ⟨t, rfl⟩ := rx
    obtain ⟨hy, e'⟩ : y.size ≤ sizeLine ∧ k = ((y.size : Int) != 0) := e
    subst e'
    exact PySem.W.truthy_bytes (by omega) ⟨H, I.tok _, q⟩
  | ref p =>
    cases rx
    have e' : (∃ xs, SqL X.K H p xs ∧ k = !xs.isEmpty) ∨ (∃ xs, SqT X.K H p xs ∧ k = !xs.isEmpty) ∨ ∃ kvs, H p = some (.dK kvs) ∧ k = !kvs.isEmpty := e
    rcases e' with ⟨xs, hx, e'⟩ | ⟨xs, hx, e'⟩ | ⟨kvs, hx, e'⟩
    · subst e'
      obtain ⟨its, r, pl, hz⟩ := I.list hx
      have hlen := r.length
      exact wpAny_truthy_list pl.isList (by simp only [List.size_toArray]; omega) ⟨H, I.tok _, by rw [isEmpty_of r]; exact q⟩
    · subst e'
      obtain ⟨its, r, pl, hz⟩ := I.tuple hx
      have hlen := r.length
      exact truthy_tuple pl (by simp only [List.size_toArray]; omega) ⟨H, I.tok _, by rw [isEmpty_of r]; exact q⟩
    · subst e'
      obtain ⟨hz, hS, vs, r, m⟩ : kvs.length ≤ sizeLine ∧ (p == sysModules) = false ∧ ∃ vs, KV kvs vs ∧ s.heap.DictOf (mixKind X.prog X.w) p vs := I.hok p _ hx
      have hlen : kvs.length = vs.length := Paired.length r
      exact wpAny_truthy_dict hS m (by omega) ⟨H, I.tok _, by rw [isEmpty_kv r]; exact q⟩
  | _ => exact (show False from e).elim
/-- any expression whose test is its value's truth (a name, a call, a subscript, a field ..: he by fun _ => rfl) -/
theorem pt_truth (ha : PE X a ta) (he : ∀ whole, isTrue a X.env whole = (do let v ← whole; standAt a.pos; holding [v] (truthy v))) :
    PT X a (fun σ H Q => ta σ H fun x H' => ∃ k, TruV X.K x H' k ∧ Q k H') := by
  intro pins s σ H Q I h
  exact isTrue_plain (thn (ha pins s σ H _ I h) fun v s1 ⟨x, H1, I1, r1, q1⟩ => tru_ok pins s1 σ H1 x v Q I1 r1 q1) (he _)

/-! ### strs and bytes -/
theorem pe_byt {x : List UInt8} {k : Nat} : PE X (.Constant (.bytes x) k pos) (fun _ H Q => Q (.byt x.toArray) H) := fun _ _ _ H _ I h => PySem.W.Constant_bytes ⟨.byt x.toArray, H, I.tok _, ⟨_, rfl⟩, h⟩
theorem op_add_str : OpR X (binaryOp .Add) (fun x y H Q => ∃ i j, x = .str i ∧ y = .str j ∧ i.length + j.length ≤ sizeLine ∧ Q (.str (i ++ j)) H) := by
  intro pins s σ H x y v u Q I rx ry h
  obtain ⟨i, j, rfl, rfl, hz, q⟩ := h
  obtain ⟨t, rfl⟩ := rx
  obtain ⟨t', rfl⟩ := ry
  exact add_str (fun t' tk => ⟨.str (i ++ j), H, I.tok _, ⟨_, rfl⟩, q⟩) hz
theorem iop_add_str : OpR X (inplaceOp .Add) (fun x y H Q => ∃ i j, x = .str i ∧ y = .str j ∧ i.length + j.length ≤ sizeLine ∧ Q (.str (i ++ j)) H) := by
  intro pins s σ H x y v u Q I rx ry h
  obtain ⟨i, j, rfl, rfl, hz, q⟩ := h
  obtain ⟨t, rfl⟩ := rx
  obtain ⟨t', rfl⟩ := ry
  exact iadd_str (fun t' tk => ⟨.str (i ++ j), H, I.tok _, ⟨_, rfl⟩, q⟩) hz
theorem op_add_byt : OpR X (binaryOp .Add) (fun x y H Q => ∃ i j, x = .byt i ∧ y = .byt j ∧ i.size + j.size ≤ 16777216 ∧ Q (.byt (i ++ j)) H) := by
  intro pins s σ H x y v u Q I rx ry h
  obtain ⟨i, j, rfl, rfl, hz, q⟩ := h
  obtain ⟨t, rfl⟩ := rx
  obtain ⟨t', rfl⟩ := ry
  exact PySem.W.KBy.add_bytes hz (fun t' tk => ⟨.byt (i ++ j), H, I.tok _, ⟨_, rfl⟩, q⟩)

def PlainIxT (b : Expr) : Prop := ∀ o i, subscripted b false o i = operate [o, i] (getItem o i)
/-- s[i], 0 ≤ i < len -/
theorem pe_item_str (ha : PE X a ta) (hb : PE X b tb) (hs : PlainIxT b) :
    PE X (.Subscript a b pos) (tOp (fun x y H Q => ∃ z i c, x = .str z ∧ y = .int i ∧ 0 ≤ i ∧ i < 2 ^ 63 ∧ i < z.length ∧ z.cps[i.toNat]? = some c ∧ Q (.str ⟨#[c]⟩) H) ta tb) := by
  intro pins s σ H Q I h
  refine Subscript_ (binT ha hb I h fun v u s2 x y H2 I2 rx ry q => ?_)
  obtain ⟨z, i, c, rfl, rfl, h0, h63, h1, hc, q⟩ := q
  obtain ⟨t, rfl⟩ := rx
  obtain ⟨t', rfl⟩ := ry
  have e : seqIndex? i z.length = some i.toNat := PySem.StrLaws.seqIndex_nonneg h0 h1
  exact tail_any (typeIs_str s2 z t) slot_str_getitem.lookup (getItem_str (c := c) (by
    have e1 : decide (i < -(2 ^ 63 : Int)) = false := decide_eq_false (by omega)
    have e2 : decide (i ≥ 2 ^ 63) = false := decide_eq_false (by omega)
    rw [e1, e2] <;> rfl) (by rw [e]; exact hc) ⟨.str ⟨#[c]⟩, H2, I2.tok _, ⟨_, rfl⟩, q⟩) (hs _ _)
/-- b[i], 0 ≤ i < len -/
theorem pe_item_byt (ha : PE X a ta) (hb : PE X b tb) (hs : PlainIxT b) :
    PE X (.Subscript a b pos) (tOp (fun x y H Q => ∃ (z : List UInt8) (i : Int), x = .byt z.toArray ∧ y = .int i ∧ z.length ≤ sizeLine ∧ 0 ≤ i ∧ i < z.length ∧ Q (.int ((z.getD i.toNat 0).toNat : Nat)) H) ta tb) := by
  intro pins s σ H Q I h
  refine Subscript_ (binT ha hb I h fun v u s2 x y H2 I2 rx ry q => ?_)
  obtain ⟨z, i, rfl, rfl, hz, h0, h1, q⟩ := q
  obtain ⟨t, rfl⟩ := rx
  obtain ⟨t', rfl⟩ := ry
  have hl : sizeLine = 16777216 := sizeLine_eq
  exact tail_any (PySem.W.typeIs_bytes s2 z.toArray t) PySem.W.FB.slot_bytes_getitem.lookup (PySem.W.getItem_bytes (by omega) h0 h1 ⟨.int ((z.getD i.toNat 0).toNat : Nat), H2, I2.tok _, ⟨_, rfl⟩, q⟩) (hs _ _)

/-! ### scalar builtins, by CallR -/
theorem vals1 {x : V} {us : List Value} (r : Vals [x] us) : ∃ u, us = [u] ∧ RelV x u := by
  cases r with
  | cons r1 r2 => cases r2; exact ⟨_, rfl, r1⟩
theorem vals2 {x y : V} {us : List Value} (r : Vals [x, y] us) : ∃ u w', us = [u, w'] ∧ RelV x u ∧ RelV y w' := by
  cases r with
  | cons r1 r2 =>
    cases r2 with
    | cons r3 r4 => cases r4; exact ⟨_, _, rfl, r1, r3⟩
theorem call_abs : CallR X (.builtin "abs") (fun xs H Q => ∃ i, xs = [.int i] ∧ Q (.int (if i < 0 then -i else i)) H) := by
  intro pins s σ H xs us Q I r h
  obtain ⟨i, rfl, q⟩ := h
  obtain ⟨u, rfl, t, rfl⟩ := vals1 r
  exact call_abs_int fun u tk => ⟨.int (if i < 0 then -i else i), H, I.tok _, ⟨_, rfl⟩, q⟩
theorem call_max2 (hc : X.calm = true) : CallR X (.builtin "max") (fun xs H Q => ∃ i j, xs = [.int i, .int j] ∧ Q (.int (if j > i then j else i)) H) := by
  intro pins s σ H xs us Q I r h
  obtain ⟨i, j, rfl, q⟩ := h
  obtain ⟨u, w', rfl, ⟨t, rfl⟩, ⟨t', rfl⟩⟩ := vals2 r
  refine max_two_ints (I.ok.hd hc) fun h' tk k => ⟨_, H, I.kept k, ?_, q⟩
  by_cases hj : j > i
  · rw [if_pos hj, if_pos hj]; exact ⟨_, rfl⟩
  · rw [if_neg hj, if_neg hj]; exact ⟨_, rfl⟩
theorem call_min2 (hc : X.calm = true) : CallR X (.builtin "min") (fun xs H Q => ∃ i j, xs = [.int i, .int j] ∧ Q (.int (if j < i then j else i)) H) := by
  intro pins s σ H xs us Q I r h
  obtain ⟨i, j, rfl, q⟩ := h
  obtain ⟨u, w', rfl, ⟨t, rfl⟩, ⟨t', rfl⟩⟩ := vals2 r
  refine min_two_ints (I.ok.hd hc) fun h' tk k => ⟨_, H, I.kept k, ?_, q⟩
  by_cases hj : j < i
  · rw [if_pos hj, if_pos hj]; exact ⟨_, rfl⟩
  · rw [if_neg hj, if_neg hj]; exact ⟨_, rfl⟩
theorem call_int1 : CallR X (.type "int") (fun xs H Q => (∃ i, xs = [.int i] ∧ Q (.int i) H) ∨ ∃ k, xs = [.bl k] ∧ Q (.int (if k then 1 else 0)) H) := by
  intro pins s σ H xs us Q I r h
  rcases h with ⟨i, rfl, q⟩ | ⟨k, rfl, q⟩
  · obtain ⟨u, rfl, t, rfl⟩ := vals1 r
    exact call_int_int ⟨.int i, H, I, ⟨_, rfl⟩, q⟩
  · obtain ⟨u, rfl, r1⟩ := vals1 r
    cases r1
    exact call_int_bool ⟨.int (if k then 1 else 0), H, I.tok _, ⟨_, rfl⟩, q⟩
theorem call_bool1 : CallR X (.type "bool") (fun xs H Q => (∃ i, xs = [.int i] ∧ Q (.bl (i != 0)) H) ∨ ∃ k, xs = [.bl k] ∧ Q (.bl k) H) := by
  intro pins s σ H xs us Q I r h
  rcases h with ⟨i, rfl, q⟩ | ⟨k, rfl, q⟩
  · obtain ⟨u, rfl, t, rfl⟩ := vals1 r
    exact call_bool_int ⟨.bl (i != 0), H, I, rfl, q⟩
  · obtain ⟨u, rfl, r1⟩ := vals1 r
    cases r1
    exact call_bool_bool ⟨.bl k, H, I, rfl, q⟩
theorem call_str_int : CallR X (.type "str") (fun xs H Q => ∃ i, xs = [.int i] ∧ i.natAbs.log2 < 1920 ∧ Q (.str (toString i)) H) := by
  intro pins s σ H xs us Q I r h
  obtain ⟨i, rfl, hz, q⟩ := h
  obtain ⟨u, rfl, t, rfl⟩ := vals1 r
  exact PySem.P.str_of_int hz ⟨.str _, H, I.tok _, ⟨_, rfl⟩, q⟩
theorem call_ord : CallR X (.builtin "ord") (fun xs H Q => ∃ x, xs = [.str x] ∧ x.length = 1 ∧ Q (.int (x.cps.getD 0 0 : Nat)) H) := by
  intro pins s σ H xs us Q I r h
  obtain ⟨x, rfl, hz, q⟩ := h
  obtain ⟨u, rfl, t, rfl⟩ := vals1 r
  exact ord_of_one hz ⟨.int _, H, I.tok _, ⟨_, rfl⟩, q⟩
theorem call_chr : CallR X (.builtin "chr") (fun xs H Q => ∃ i, xs = [.int i] ∧ 0 ≤ i ∧ i ≤ 1114111 ∧ Q (.str ⟨#[i.toNat]⟩) H) := by
  intro pins s σ H xs us Q I r h
  obtain ⟨i, rfl, h0, h1, q⟩ := h
  obtain ⟨u, rfl, t, rfl⟩ := vals1 r
  exact chr_of_range h0 h1 ⟨.str _, H, I.tok _, ⟨_, rfl⟩, q⟩
/-- len of a str, a bytes, a list, a tuple -/
def LenV (K : PySem.W.Frag) (x : V) (H : Hp) (n : Nat) : Prop :=
  match x with
  | .str y => y.length ≤ sizeLine ∧ n = y.length
  | .byt y => y.size ≤ sizeLine ∧ n = y.size
  | .ref p => (∃ xs, SqL K H p xs ∧ n = xs.length) ∨ ∃ xs, SqT K H p xs ∧ n = xs.length
  | _ => False
theorem call_len : CallR X (.builtin "len") (fun xs H Q => ∃ x n, xs = [x] ∧ LenV X.K x H n ∧ Q (.int n) H) := by
  intro pins s σ H xs us Q I r h
  obtain ⟨x, n, rfl, e, q⟩ := h
  obtain ⟨u, rfl, rx⟩ := vals1 r
  have hl := line63
  have hs : sizeLine = 16777216 := sizeLine_eq
  cases x with
  | str y =>
    obtain ⟨t, rfl⟩ := rx
    obtain ⟨hy, e'⟩ : y.length ≤ sizeLine ∧ n = y.length := e
    subst e'
    exact len_str (by omega) ⟨.int _, H, I.tok _, ⟨_, rfl⟩, q⟩
  | byt y =>
    obtain ⟨t, rfl⟩ := rx
    obtain ⟨hy, e'⟩ : y.size ≤ sizeLine ∧ n = y.size := e
    subst e'
    exact PySem.W.len_bytes (by omega) ⟨.int _, H, I.tok _, ⟨_, rfl⟩, q⟩
  | ref p =>
    cases rx
    have e' : (∃ xs, SqL X.K H p xs ∧ n = xs.length) ∨ ∃ xs, SqT X.K H p xs ∧ n = xs.length := e
    rcases e' with ⟨xs, hx, e'⟩ | ⟨xs, hx, e'⟩
    · subst e'
      obtain ⟨its, r', pl, hz⟩ := I.list hx
      have hlen := r'.length
      exact Calls.call_len_list pl.isList (by simp only [List.size_toArray]; omega) ⟨.int xs.length, H, I.tok _, ⟨_, by simp only [List.size_toArray]; rw [hlen]⟩, q⟩
    · subst e'
      obtain ⟨its, r', pl, hz⟩ := I.tuple hx
      have hlen := r'.length
      exact len_tuple pl (by simp only [List.size_toArray]; omega) ⟨.int xs.length, H, I.tok _, ⟨_, by simp only [List.size_toArray]; rw [hlen]⟩, q⟩
  | _ => exact (show False from e).elim
/-- divmod: a new tuple -/
theorem call_divmod : CallR X (.builtin "divmod") (fun xs H Q => ∃ i j, xs = [.int i, .int j] ∧ CDiv i j ∧ ∀ p, H p = none → Q (.ref p) (upd H p (.tup [.int (i / j), .int (i % j)]))) := by
  intro pins s σ H xs us Q I r h
  obtain ⟨i, j, rfl, ⟨h1, h2⟩, q⟩ := h
  obtain ⟨u, w', rfl, ⟨t, rfl⟩, ⟨t', rfl⟩⟩ := vals2 r
  refine divmod_int (by omega) ?_ (.inl (PyProof.noPylong_small (by omega)))
  rw [Int.fdiv_eq_ediv_of_nonneg i (by omega), Int.fmod_eq_emod_of_nonneg i (by omega)]
  have hn : H s.heap.objs.size = none := I.hok.fresh (Nat.le_refl _)
  refine ⟨.ref s.heap.objs.size, _, ?_, rfl, q _ hn⟩
  refine I.laid (fun b o e => Heap.get?_push_of_some _ e) (Nat.le_refl _) ⟨by simp only [List.length_cons, List.length_nil]; rw [sizeLine_eq]; decide, [.int (i / j) s.toks, .int (i % j) (s.toks + 1)], .cons ⟨_, rfl⟩ (.cons ⟨_, rfl⟩ .nil), ?_⟩
  exact ⟨_, Heap.get?_push_size s.heap rfl, rfl, 0, rfl⟩
end
end L2

namespace L2
open PySem PySem.Spec PyProof.Rows

/-! ### an instance, its attributes a map -/
structure ObjM (h : Heap) (x dx C : Addr) (mA : Str → Option Value) : Prop where
  obj : h.get? x = some (PySem.W.instObj C dx)
  ns : h.Ns1 dx mA
  ne : dx ≠ x

theorem lookIn_ns {h : Heap} {dx : Addr} {mA : Str → Option Value} (n : h.Ns1 dx mA) : ∃ od, h.get? dx = some od ∧ ∀ name, PySem.W.lookIn name od = some (mA name) := by
  obtain ⟨o, es, ep, ho, hd, hk, _, hm⟩ := n
  refine ⟨o, ho, fun name => ?_⟩
  have e := hm name
  unfold nsFind findBy at e
  rw [← Array.find?_toList] at e
  unfold PySem.W.lookIn
  rw [hd]
  dsimp only
  split
  · rename_i y q
    rw [q] at e
    exact congrArg some e
  · rename_i q
    rw [q] at e
    have a : es.toList.any (·.refKey) = false := by
      rw [List.any_eq_false]
      intro y hy
      obtain ⟨z, t, hkey⟩ := hk y (Array.mem_toList_iff.mp hy)
      simp [DictEntry.refKey, hkey]
    have a' : ¬ es.toList.any (·.refKey) = true := by rw [a]; exact Bool.false_ne_true
    rw [if_neg a']
    exact congrArg some e

theorem ObjM.look {h : Heap} {x dx C : Addr} {mA : Str → Option Value} (I : ObjM h x dx C mA) : ∃ od, PySem.W.InstAt h x (PySem.W.instObj C dx) C (some od) ∧ ∀ name, PySem.W.lookIn name od = some (mA name) :=
  let ⟨od, ho, hl⟩ := lookIn_ns I.ns
  ⟨od, ⟨I.obj, rfl, rfl, ho⟩, hl⟩

section
variable {prog : Program} {w : World} {A : Around} {E : Value → Shared → Prop} {s : Shared} {K : PySem.W.Frag} {x dx C f : Addr} {mA : Str → Option Value} {name : Str} {v : Value}

theorem get_map {expr : Bool} {Q : Value → Shared → Prop} (X : K.In s.heap) (I : ObjM s.heap x dx C mA) (hg : PySem.W.plainGet K C name = true) (hh : PySem.W.hasDictIn K C = true)
    (ha : PySem.W.findIn K (.ref C) name = some none) (hv : mA name = some v) (hv' : PySem.W.handedIn v = true) (h : Q v { s with toks := s.toks + 1 }) :
    wpAny (model prog w) A (getAttr (.ref x) name expr) Q E s := by
  obtain ⟨od, J, hl⟩ := I.look
  exact PySem.W.get_value X J (PySem.W.plainGet_of hg).1 (PySem.W.findObj_own hh ha rfl (by rw [hl, hv])) hv' h

theorem get_const {expr : Bool} {a : Value} {Q : Value → Shared → Prop} (X : K.In s.heap) (I : ObjM s.heap x dx C mA) (hg : PySem.W.plainGet K C name = true) (hh : PySem.W.hasDictIn K C = true)
    (ha : PySem.W.findIn K (.ref C) name = some (some a)) (hn : PySem.W.specialIn K a "__get__" = some none) (hc : PySem.W.copiedNames.contains name = false) (hv : mA name = none) (hv' : PySem.W.handedIn a = true)
    (h : Q a { s with toks := s.toks + 1 }) : wpAny (model prog w) A (getAttr (.ref x) name expr) Q E s := by
  obtain ⟨od, J, hl⟩ := I.look
  exact PySem.W.get_value X J (PySem.W.plainGet_of hg).1 (PySem.W.findObj_cls hh ha hn hv' hc (by rw [hl, hv])) hv' h

theorem get_meth {pl : Sem Bool} {Q : Value × List Value → Shared → Prop} (X : K.In s.heap) (I : ObjM s.heap x dx C mA) (hg : PySem.W.plainGet K C name = true)
    (hf : PySem.W.findIn K (.ref C) name = some (some (.ref f))) (ht : PySem.W.isFn K (.ref f) = true) (hv : mA name = none) (h : Q (.ref f, [.ref x]) s) :
    wpAny (model prog w) A (getMethod (.ref x) name pl) Q E s := by
  obtain ⟨od, J, hl⟩ := I.look
  exact PySem.W.method_fn X J (PySem.W.plainGet_of hg).1 (PySem.W.plainGet_of hg).2 hf (beq_iff_eq.mp ht) (by show (PySem.W.lookIn name od).map (·.isSome) = some false; rw [hl, hv]; rfl) h

theorem set_map {ns : List Str} {Q : Unit → Shared → Prop} (X : K.In s.heap) (I : ObjM s.heap x dx C mA)
    (hs : PySem.W.findIn K (.ref C) "__setattr__" = some (some (.builtin "object.__setattr__"))) (hp : PySem.W.plainOver K C = true) (ht : PySem.W.takerIn K C name = some none) (hh : PySem.W.hasDictIn K C = true)
    (hw : PySem.Within mA ns) (hsz : ns.length ≤ sizeLine)
    (h : ∀ h', ObjM h' x dx C (fun y => if y = name then some v else mA y) → Heap.SameBut dx s.heap h' → Q () { s with heap := h', toks := s.toks + 2 }) :
    wpAny (model prog w) A (setAttr (.ref x) name v) Q E s := by
  obtain ⟨od, J, hl⟩ := I.look
  refine PySem.W.set_plain X J hs (PySem.W.osa_open (s := { s with toks := s.toks + 1 }) (r := none) X J hp ht fun b => ?_)
  obtain ⟨cd, hc, hd'⟩ := PySem.W.any_some hh
  have hx : s.heap.get? x = some ⟨.ref C, some dx, .plain, #[]⟩ := I.obj
  refine wpAny_bind (wpAny_pure (wpAny_bind (wpAny_bind (wpAny_loadPart hx (wpAny_bind (PySem.W.Looks.here (s := { s with toks := s.toks + 1 }) (PySem.W.looks_clsIn X hc) ?_))))))
  rw [hd']
  refine wpAny_pure (a := some dx) (wpAny_bind (wpAny_pure (wpAny_bind ?_)))
  refine wpAny_nsSet1 (s := { s with toks := s.toks + 1 }) I.ns fun h' hn2 hs2 => ?_
  obtain ⟨oD, esD, epD, hoD, hdD, hcD⟩ := hn2.count (PySem.Within.cons name v hw)
  refine wpAny_bind (wpAny_lookBehind hoD (by rw [hdD]; exact pastItsLine_dict (Nat.le_trans hcD (by rw [List.length_cons]; omega))) ?_)
  exact wpAny_pure (h _ ⟨(hs2.2 _ (Ne.symm I.ne)).trans I.obj, hn2, I.ne⟩ hs2)

/-- C(..): the dict at the heap's end, the instance behind it; then its __init__ -/
theorem make_map {R : Result → Shared → Prop} {vs : List Value} {kw : List (Str × Value)} (X : K.In s.heap) (hm : PySem.W.makesIn K C = true)
    (hi : PySem.W.findIn K (.ref C) "__init__" = some (some (.ref f))) (hf : PySem.W.typeIn K (.ref f) = some (.type "function"))
    (h : codeAny (model prog w) (A.under (.builtin "type.__call__" ⟨.ref C :: vs, kw⟩)) (.call (.ref f) ⟨.ref (s.heap.objs.size + 1) :: vs, kw⟩) (PySem.W.InitBack (s.heap.objs.size + 1) R)
      { s with heap := (s.heap.push PySem.W.emptyDict).push (PySem.W.instObj C s.heap.objs.size) }) :
    codeAny (model prog w) A (.call (.ref C) ⟨vs, kw⟩) R s := by
  obtain ⟨hh, g, d, t, os⟩ := s
  exact PySem.W.make_core (PySem.W.makes_of X hm) (PySem.W.looks_findIn X hi) (fun self => PySem.W.bind_fn X self hf) (.inl rfl) h
/-- C() where there is no __init__ but object's -/
theorem make_map0 {R : Result → Shared → Prop} (X : K.In s.heap) (hm : PySem.W.makesIn K C = true)
    (hi : PySem.W.findIn K (.ref C) "__init__" = some (some (.builtin "object.__init__")))
    (hb : ∀ self, PySem.W.Looks (model prog w) s.heap (bindSpecial (.builtin "object.__init__") self) (.builtin "object.__init__", [self]))
    (h : codeAny (model prog w) (A.under (.builtin "type.__call__" ⟨[.ref C], []⟩)) (.call (.builtin "object.__init__") ⟨[.ref (s.heap.objs.size + 1)], []⟩) (PySem.W.InitBack (s.heap.objs.size + 1) R)
      { s with heap := (s.heap.push PySem.W.emptyDict).push (PySem.W.instObj C s.heap.objs.size) }) :
    codeAny (model prog w) A (.call (.ref C) ⟨[], []⟩) R s := by
  obtain ⟨hh, g, d, t, os⟩ := s
  exact PySem.W.make_core (PySem.W.makes_of X hm) (PySem.W.looks_findIn X hi) hb (.inr ⟨rfl, rfl⟩) h
end

/-! ### the attributes as a list of pairs -/
def putF (f : Str) (v : V) : List (Str × V) → List (Str × V)
  | [] => [(f, v)]
  | (g, x) :: r => if g = f then (g, v) :: r else (g, x) :: putF f v r
theorem lookup_putF (f g : Str) (v : V) : ∀ fs : List (Str × V), (putF f v fs).lookup g = if g = f then some v else fs.lookup g
  | [] => by
    show List.lookup g [(f, v)] = _
    by_cases h : g = f
    · have hb : (g == f) = true := beq_iff_eq.mpr h
      simp only [List.lookup, hb, if_pos h]
    · have hb : (g == f) = false := beq_eq_false_iff_ne.mpr h
      simp only [List.lookup, hb, if_neg h]
  | (k, x) :: r => by
    have ih := lookup_putF f g v r
    rw [show putF f v ((k, x) :: r) = (if k = f then (k, v) :: r else (k, x) :: putF f v r) from rfl]
    by_cases hk : k = f
    · rw [if_pos hk]
      by_cases h : g = k
      · have hb : (g == k) = true := beq_iff_eq.mpr h
        simp only [List.lookup, hb, if_pos (h.trans hk)]
      · have hb : (g == k) = false := beq_eq_false_iff_ne.mpr h
        simp only [List.lookup, hb, if_neg (fun e : g = f => h (e.trans hk.symm))]
    · rw [if_neg hk]
      by_cases h : g = k
      · have hb : (g == k) = true := beq_iff_eq.mpr h
        simp only [List.lookup, hb, if_neg (fun e : g = f => hk (h.symm.trans e))]
      · have hb : (g == k) = false := beq_eq_false_iff_ne.mpr h
        simp only [List.lookup, hb]
        exact ih
theorem keys_putF (f : Str) (v : V) : ∀ fs : List (Str × V), f ∈ (putF f v fs).map (·.1) ∧ ∀ g, g ∈ fs.map (·.1) → g ∈ (putF f v fs).map (·.1)
  | [] => ⟨by simp [putF], fun g h => by simp at h⟩
  | (k, x) :: r => by
    obtain ⟨i1, i2⟩ := keys_putF f v r
    rw [show putF f v ((k, x) :: r) = (if k = f then (k, v) :: r else (k, x) :: putF f v r) from rfl]
    by_cases hk : k = f
    · rw [if_pos hk]
      subst hk
      exact ⟨by simp, fun g h => by simpa using h⟩
    · rw [if_neg hk]
      refine ⟨?_, fun g h => ?_⟩
      · rw [List.map_cons]
        exact List.mem_cons_of_mem _ i1
      · rw [List.map_cons] at h ⊢
        rcases List.mem_cons.mp h with e | e
        · exact List.mem_cons.mpr (.inl e)
        · exact List.mem_cons_of_mem _ (i2 g e)
theorem length_putF (f : Str) (v : V) : ∀ fs : List (Str × V), (putF f v fs).length ≤ fs.length + 1
  | [] => by simp [putF]
  | (k, x) :: r => by
    have ih := length_putF f v r
    rw [show putF f v ((k, x) :: r) = (if k = f then (k, v) :: r else (k, x) :: putF f v r) from rfl]
    by_cases hk : k = f
    · rw [if_pos hk, List.length_cons, List.length_cons]; omega
    · rw [if_neg hk, List.length_cons, List.length_cons]; omega

theorem RelO.some_of {v : V} {o : Option Value} (r : RelO (some v) o) : ∃ u, o = some u ∧ RelV v u := by
  cases o with
  | none => exact (show False from r).elim
  | some u => exact ⟨u, rfl, r⟩
theorem RelO.none_of {o : Option Value} (r : RelO none o) : o = none := by
  cases o with
  | none => rfl
  | some u => exact (show False from r).elim
theorem handed_of {v : V} {u : Value} (r : RelV v u) : PySem.W.handedIn u = true := by
  cases v with
  | non => cases (show u = Value.none from r); rfl
  | bl b => cases (show u = Value.bool b from r); rfl
  | int i => obtain ⟨t, e⟩ := (show ∃ t, u = Value.int i t from r); cases e; rfl
  | str x => obtain ⟨t, e⟩ := (show ∃ t, u = Value.str x t from r); cases e; rfl
  | byt b => obtain ⟨t, e⟩ := (show ∃ t, u = Value.bytes b t from r); cases e; rfl
  | flt b => obtain ⟨t, e⟩ := (show ∃ t, u = Value.float b t from r); cases e; rfl
  | ref a => cases (show u = Value.ref a from r); rfl
  | ty n => cases (show u = Value.type n from r); rfl

section
variable {P : Program} {w : World} {H H' : Hp} {h h' : Heap} {a C dx : Addr} {fs fs' : List (Str × V)}
theorem ins_get (hok : HOk P w H h) (e : H a = some (.ins C dx fs)) : ∃ mA, ObjM h a dx C mA ∧ (∀ f, RelO (fs.lookup f) (mA f)) ∧ PySem.Within mA (fs.map (·.1)) ∧ fs.length ≤ 1000 ∧ H dx = some (.own a) := by
  obtain ⟨d, z, ne, ob, mA, n, r, q⟩ := (show ObjOk P w H h a (.ins C dx fs) from hok a _ e)
  exact ⟨mA, ⟨ob, n, ne⟩, r, q, z, d⟩
end

/-! ### what of the text a class must have -/
structure Cls (K : PySem.W.Frag) (C : Addr) : Prop where
  pg : PySem.W.plainGet K C Str.empty = true
  hd : PySem.W.hasDictIn K C = true
  po : PySem.W.plainOver K C = true
  sa : PySem.W.findIn K (.ref C) "__setattr__" = some (some (.builtin "object.__setattr__"))
theorem Cls.get {K : PySem.W.Frag} {C : Addr} (c : Cls K C) (f : Str) : PySem.W.plainGet K C f = true := c.pg
/-- no class of it has the name -/
def NoAttr (K : PySem.W.Frag) (C : Addr) (f : Str) : Prop := PySem.W.findIn K (.ref C) f = some none
theorem NoAttr.taker {K : PySem.W.Frag} {C : Addr} {f : Str} (n : NoAttr K C f) : PySem.W.takerIn K C f = some none := by
  unfold PySem.W.takerIn
  rw [show PySem.W.findIn K (.ref C) f = some none from n]
  rfl
/-- a constant of the class -/
structure Con (K : PySem.W.Frag) (C : Addr) (f : Str) (v : V) (u : Value) : Prop where
  at_ : PySem.W.findIn K (.ref C) f = some (some u)
  rel : RelV v u
  get : PySem.W.specialIn K u "__get__" = some none
  cp : PySem.W.copiedNames.contains f = false
/-- a method: a plain def of the class or of one above it -/
structure Meth (K : PySem.W.Frag) (C : Addr) (m : Str) (f : Addr) : Prop where
  at_ : PySem.W.findIn K (.ref C) m = some (some (.ref f))
  fn : PySem.W.isFn K (.ref f) = true
  kp : PySem.W.keepIn K (.ref f) = true

section
variable {X : Cx} {pins : List (Addr × Obj)} {σ : St} {H : Hp} {s : Shared} {a C dx : Addr} {fs : List (Str × V)} {f : Str} {v : V} {A : Around} {E : Value → Shared → Prop}

theorem getattr_ok {b : Bool} {Q : Value → Shared → Prop} (I : Inv X pins σ H s) (e : H a = some (.ins C dx fs)) (c : Cls X.K C) (n : NoAttr X.K C f) (l : fs.lookup f = some v)
    (h : ∀ u s', Inv X pins σ H s' → RelV v u → Q u s') : wpAny (model X.prog X.w) A (getAttr (.ref a) f b) Q E s := by
  obtain ⟨mA, O, r, _, _, _⟩ := ins_get I.hok e
  obtain ⟨u, hu, ru⟩ := RelO.some_of (v := v) (o := mA f) (by rw [← l]; exact r f)
  exact get_map I.kIn O (c.get f) c.hd n hu (handed_of ru) (h u _ (I.tok _) ru)

theorem getcon_ok {b : Bool} {u : Value} {Q : Value → Shared → Prop} (I : Inv X pins σ H s) (e : H a = some (.ins C dx fs)) (c : Cls X.K C) (k : Con X.K C f v u) (l : fs.lookup f = none)
    (h : ∀ s', Inv X pins σ H s' → Q u s') : wpAny (model X.prog X.w) A (getAttr (.ref a) f b) Q E s := by
  obtain ⟨mA, O, r, _, _, _⟩ := ins_get I.hok e
  have hn : mA f = none := RelO.none_of (by rw [← l]; exact r f)
  exact get_const I.kIn O (c.get f) c.hd k.at_ k.get k.cp hn (handed_of k.rel) (h _ (I.tok _))

theorem getmeth_ok {m : Str} {g : Addr} {pl : Sem Bool} {Q : Value × List Value → Shared → Prop} (I : Inv X pins σ H s) (e : H a = some (.ins C dx fs)) (c : Cls X.K C) (k : Meth X.K C m g) (l : fs.lookup m = none)
    (h : Q (.ref g, [.ref a]) s) : wpAny (model X.prog X.w) A (getMethod (.ref a) m pl) Q E s := by
  obtain ⟨mA, O, r, _, _, _⟩ := ins_get I.hok e
  have hn : mA m = none := RelO.none_of (by rw [← l]; exact r m)
  exact get_meth I.kIn O (c.get m) k.at_ k.fn hn h

theorem setattr_ok {y : V} {u : Value} {Q : Unit → Shared → Prop} (I : Inv X pins σ H s) (e : H a = some (.ins C dx fs)) (c : Cls X.K C) (n : NoAttr X.K C f) (hl : fs.length < 1000) (ry : RelV y u)
    (h : ∀ s', Inv X pins σ (upd H a (.ins C dx (putF f y fs))) s' → Q () s') : wpAny (model X.prog X.w) A (setAttr (.ref a) f u) Q E s := by
  obtain ⟨mA, O, r, wi, _, ho⟩ := ins_get I.hok e
  have hz : (fs.map (·.1)).length ≤ sizeLine := by rw [List.length_map, sizeLine_eq]; omega
  refine set_map I.kIn O c.sa c.po n.taker c.hd wi hz fun h' O' sb => h _ ?_
  have hd : ∃ o, h'.get? dx = some o := let ⟨o, _, _, e', _⟩ := O'.ns; ⟨o, e'⟩
  refine I.write (x := a) (e := dx) (by rw [e]; exact True.intro) (.inr ho) (fun b q hb z => (sb.2 b hb).trans z) hd ?_
  refine ⟨by rw [upd_ne O.ne]; exact ho, ?_, O.ne, O'.obj, _, O'.ns, fun g => ?_, fun g hg => ?_⟩
  · have := length_putF f y fs; omega
  · show RelO ((putF f y fs).lookup g) (if g = f then some u else mA g)
    rw [lookup_putF]
    by_cases q : g = f
    · rw [if_pos q, if_pos q]; exact ry
    · rw [if_neg q, if_neg q]; exact r g
  · by_cases q : g = f
    · rw [q]; exact (keys_putF f y fs).1
    · refine (keys_putF f y fs).2 g (wi g fun z => hg ?_)
      show (if g = f then some u else mA g) = none
      rw [if_neg q]; exact z

/-- a new instance, tracked, without attributes -/
theorem Inv.made (I : Inv X pins σ H s) : Inv X pins σ (upd (upd H s.heap.objs.size (.own (s.heap.objs.size + 1))) (s.heap.objs.size + 1) (.ins C s.heap.objs.size []))
    { s with heap := (s.heap.push PySem.W.emptyDict).push (PySem.W.instObj C s.heap.objs.size) } := by
  have e1 : (s.heap.push PySem.W.emptyDict).get? s.heap.objs.size = some PySem.W.emptyDict := Heap.get?_push_size s.heap rfl
  have e2 : ((s.heap.push PySem.W.emptyDict).push (PySem.W.instObj C s.heap.objs.size)).get? (s.heap.objs.size + 1) = some (PySem.W.instObj C s.heap.objs.size) := by
    have := Heap.get?_push_size (s.heap.push PySem.W.emptyDict) (o := PySem.W.instObj C s.heap.objs.size) rfl
    rwa [Heap.size_push] at this
  have e3 : (s.heap.push PySem.W.emptyDict).Ns s.heap.objs.size (fun _ => none) := ⟨PySem.W.emptyDict, #[], _, e1, rfl, (fun e he => absurd he (by simp)), fun _ => rfl⟩
  have I1 := I.laid (a := s.heap.objs.size) (o := .own (s.heap.objs.size + 1)) (h' := s.heap.push PySem.W.emptyDict) (t' := s.toks) (fun b u q => Heap.get?_push_of_some _ q) (Nat.le_refl _) ⟨_, e1⟩
  refine I1.laid (a := s.heap.objs.size + 1) (o := .ins C s.heap.objs.size []) (t' := s.toks) (fun b u q => Heap.get?_push_of_some _ q) (Nat.le_of_eq (Heap.size_push _ _)) ?_
  have ne : s.heap.objs.size ≠ s.heap.objs.size + 1 := Nat.ne_of_lt (Nat.lt_succ_self _)
  refine ⟨by rw [upd_ne ne, upd_same], Nat.zero_le _, ne, e2, fun _ => none, (Heap.Ns1.of_empty e3).at fun o q => Heap.get?_push_of_some _ q, fun _ => True.intro, fun y hy => absurd rfl hy⟩

/-- e.f where nothing but the object is asked: through attributeBase (super) and the last hold -/
theorem attr_of {prog : Program} {w : World} {env : Env} {e : Expr} {f : Str} {pos : Pos} {s : Shared} {Q : Value → Shared → Prop} (hb : attributeBase e f env (eval e env) = eval e env)
    (h : wpAny (model prog w) A (eval e env) (fun o s₁ => wpAny (model prog w) A (getAttr o f true) Q E s₁) E s) : wpAny (model prog w) A (eval (.Attribute e f pos) env) Q E s :=
  Attribute_any_ h (by rw [arm_eval_Attribute, hb])
end

/-! ### readings and rules -/
/-- e.f, an attribute of the instance -/
def tFld (K : PySem.W.Frag) (ta : TE) (f : Str) : TE := fun σ H Q => ta σ H fun x H1 => ∃ a C dx fs v, x = .ref a ∧ H1 a = some (.ins C dx fs) ∧ Cls K C ∧ NoAttr K C f ∧ fs.lookup f = some v ∧ Q v H1
/-- e.f, a constant of the class -/
def tCon (K : PySem.W.Frag) (ta : TE) (f : Str) : TE := fun σ H Q => ta σ H fun x H1 => ∃ a C dx fs v u, x = .ref a ∧ H1 a = some (.ins C dx fs) ∧ Cls K C ∧ Con K C f v u ∧ fs.lookup f = none ∧ Q v H1
/-- e.f = value -/
def sFld (K : PySem.W.Frag) (ta tv : TE) (f : Str) : TS := fun D σ H => tv σ H fun y H1 => ta σ H1 fun x H2 => ∃ a C dx fs, x = .ref a ∧ H2 a = some (.ins C dx fs) ∧ Cls K C ∧ NoAttr K C f ∧ fs.length < 1000 ∧
  D.nx σ (upd H2 a (.ins C dx (putF f y fs)))
/-- an augmented operator on two values -/
def InOp (X : Cx) (op : Operator) (rd : V → V → Hp → VK → Prop) : Prop :=
  ∀ (pins : List (Addr × Obj)) (s : Shared) (σ : St) (H : Hp) (x y : V) (u v : Value) (Q : VK), Inv X pins σ H s → RelV x u → RelV y v → rd x y H Q → wpAny (model X.prog X.w) X.A (inplaceOp op u v) (EP X pins σ Q) X.xe s
/-- e.f op= value -/
def sFldAug (K : PySem.W.Frag) (ta tv : TE) (rd : V → V → Hp → VK → Prop) (f : Str) : TS := fun D σ H => ta σ H fun x H1 => ∃ a C dx fs v, x = .ref a ∧ H1 a = some (.ins C dx fs) ∧ Cls K C ∧ NoAttr K C f ∧ fs.lookup f = some v ∧
  tv σ H1 fun y H2 => rd v y H2 fun z H3 => ∃ dx' fs', H3 a = some (.ins C dx' fs') ∧ fs'.length < 1000 ∧ D.nx σ (upd H3 a (.ins C dx' (putF f z fs')))

section
variable {X : Cx} {o e value : Expr} {f : Str} {pos pos' tpos : Pos} {ta tv : TE}
theorem pe_fld (he : PE X e ta) (hb : attributeBase e f X.env (eval e X.env) = eval e X.env) : PE X (.Attribute e f pos) (tFld X.K ta f) := by
  intro pins s σ H Q I h
  refine attr_of hb (thn (he pins s σ H _ I h) fun u s1 ⟨x, H1, I1, rx, a, C, dx, fs, v, ex, ea, c, n, l, q⟩ => ?_)
  subst ex
  obtain rfl : u = Value.ref a := rx
  exact getattr_ok I1 ea c n l fun u' s2 I2 ru => ⟨v, H1, I2, ru, q⟩
theorem pe_con (he : PE X e ta) (hb : attributeBase e f X.env (eval e X.env) = eval e X.env) : PE X (.Attribute e f pos) (tCon X.K ta f) := by
  intro pins s σ H Q I h
  refine attr_of hb (thn (he pins s σ H _ I h) fun u s1 ⟨x, H1, I1, rx, a, C, dx, fs, v, u0, ex, ea, c, k, l, q⟩ => ?_)
  subst ex
  obtain rfl : u = Value.ref a := rx
  exact getcon_ok I1 ea c k l fun s2 I2 => ⟨v, H1, I2, k.rel, q⟩
theorem ps_fld (ha : PE X o ta) (hv : PE X value tv) (hs : swapsWith value (some (.Attribute o f pos')) pos.line X.env = pure false) : PS X (.Assign [.Attribute o f pos'] value pos) (sFld X.K ta tv f) := by
  intro pins s σ H D I h
  refine plainObj_wpAny_Assign_Attribute (thn (hv pins s σ H _ I h) fun u s1 ⟨y, H1, I1, ry, q⟩ => thn (ha pins s1 σ H1 _ I1 q) fun ov s2 ⟨x, H2, I2, rx, a, C, dx, fs, ex, ea, c, n, l, q2⟩ => ?_) hs
  subst ex
  obtain rfl : ov = Value.ref a := rx
  exact setattr_ok I2 ea c n l ry fun s3 I3 => ⟨σ, _, I3, q2⟩
theorem ps_fldaug {op : Operator} {rd : V → V → Hp → VK → Prop} (ha : PE X o ta) (hv : PE X value tv) (hop : InOp X op rd) : PS X (.AugAssign (.Attribute o f tpos) op value pos) (sFldAug X.K ta tv rd f) := by
  intro pins s σ H D I h
  refine wpAny_AugAssign_AttributeAny (thn (ha pins s σ H _ I h) fun ov s1 ⟨x, H1, I1, rx, a, C, dx, fs, v, ex, ea, c, n, l, q⟩ => ?_)
  subst ex
  obtain rfl : ov = Value.ref a := rx
  refine getattr_ok I1 ea c n l fun u s2 I2 ru => thn (hv pins s2 σ H1 _ I2 q) fun w3 s3 ⟨y, H2, I3, ry, q3⟩ => thn (hop pins s3 σ H2 v y u w3 _ I3 ru ry q3) fun w4 s4 ⟨z, H3, I4, rz, dx', fs', ea', l', q4⟩ => ?_
  exact setattr_ok I4 ea' c n l' rz fun s5 I5 => ⟨σ, _, I5, q4⟩
def rAdd : V → V → Hp → VK → Prop := fun x y H Q => ∃ i j, x = .int i ∧ y = .int j ∧ Q (.int (i + j)) H
def rSub : V → V → Hp → VK → Prop := fun x y H Q => ∃ i j, x = .int i ∧ y = .int j ∧ Q (.int (i - j)) H
theorem in_add : InOp X .Add rAdd := by
  rintro pins s σ H x y u v Q I rx ry ⟨i, j, rfl, rfl, q⟩
  obtain ⟨t, rfl⟩ := (show ∃ t, u = Value.int i t from rx)
  obtain ⟨t', rfl⟩ := (show ∃ t', v = Value.int j t' from ry)
  exact PyProof.Rows.iadd_int ⟨.int (i + j), H, I.tok _, ⟨_, rfl⟩, q⟩
theorem in_sub : InOp X .Sub rSub := by
  rintro pins s σ H x y u v Q I rx ry ⟨i, j, rfl, rfl, q⟩
  obtain ⟨t, rfl⟩ := (show ∃ t, u = Value.int i t from rx)
  obtain ⟨t', rfl⟩ := (show ∃ t', v = Value.int j t' from ry)
  exact PyProof.Rows.isub_int ⟨.int (i - j), H, I.tok _, ⟨_, rfl⟩, q⟩

/-- what is between an instance and its method: the tree of a method call -/
theorem methcall_of {pl : Sem Bool} {m : Str} {apos : Pos} {args : List Expr} {pins : List (Addr × Obj)} {s : Shared} {σ : St} {H : Hp} {Q : Value → Shared → Prop} {te : TE} (he : PE X e te) (I : Inv X pins σ H s)
    (h : te σ H fun x H1 => ∃ a C dx fs g, x = .ref a ∧ H1 a = some (.ins C dx fs) ∧ Cls X.K C ∧ Meth X.K C m g ∧ fs.lookup m = none ∧
      ∀ s1, Inv X pins σ H1 s1 → wpAny (model X.prog X.w) X.A (callWith pos (.ref g) [.ref a] (backTo pos (starEach args X.env)) (backToKw pos (keywordEach [] X.env))) Q X.xe s1)
    (ht : eval (.Call (.Attribute e m apos) args [] pos) X.env = (do
      let ov ← eval e X.env
      standAt apos.atName
      let (f, first) ← holding [ov] (getMethod ov m pl)
      callWith pos f first (backTo pos (starEach args X.env)) (backToKw pos (keywordEach [] X.env)))) :
    wpAny (model X.prog X.w) X.A (eval (.Call (.Attribute e m apos) args [] pos) X.env) Q X.xe s := by
  refine PySem.W.methodCall_KW (pl := pl) (thn (he pins s σ H _ I h) fun u s1 ⟨x, H1, I1, rx, a, C, dx, fs, g, ex, ea, c, k, l, q⟩ => ?_) ht
  subst ex
  obtain rfl : u = Value.ref a := rx
  exact getmeth_ok I1 ea c k l (q s1 I1)
end

/-! ### isinstance -/
section
variable {X : Cx} {pins : List (Addr × Obj)} {σ : St} {H : Hp} {s : Shared} {A : Around} {E : Value → Shared → Prop} {Q : Value → Shared → Prop} {c : Value} {b : Bool}
/-- the type of a value, as the fragment's deciders take it; for an instance its class -/
inductive TyOf (K : PySem.W.Frag) (H : Hp) : V → Value → Prop where
  | non : TyOf K H .non (.type "NoneType")
  | bl (x : Bool) : TyOf K H (.bl x) (.type "bool")
  | int (i : Int) : TyOf K H (.int i) (.type "int")
  | str (x : Str) : TyOf K H (.str x) (.type "str")
  | flt (x : UInt64) : TyOf K H (.flt x) (.type "float")
  | lst {a : Addr} {xs : List V} (e : H a = some (.lst xs)) : TyOf K H (.ref a) (.type "list")
  | frz {a : Addr} {o : Obj} {xs : List V} (e : H a = some (.frz o (.lst xs))) : TyOf K H (.ref a) (.type "list")
  | tup {a : Addr} {xs : List V} (e : H a = some (.tup xs)) : TyOf K H (.ref a) (.type "tuple")
  | dK {a : Addr} {kvs : List (Key × V)} (e : H a = some (.dK kvs)) : TyOf K H (.ref a) (.type "dict")
  | dT {a : Addr} {kvs : List (List Key × V)} (e : H a = some (.dT kvs)) : TyOf K H (.ref a) (.type "dict")
  | ins {a C dx : Addr} {fs : List (Str × V)} (e : H a = some (.ins C dx fs)) (cl : Cls K C) (ha : PySem.W.findIn K (.ref C) "__class__" = some (some (.builtin "object.__class__")))
      (hn : PySem.W.specialIn K (.builtin "object.__class__") "__get__" = some (some (.builtin "getset_descriptor.__get__"))) (htk : PySem.W.takesIn K (.builtin "object.__class__") = some true)
      (hm : PySem.W.mroIn K C (.type "object") = some true) : TyOf K H (.ref a) (.ref C)
/-- isinstance(x, c) for one class c, a built-in or an own one: kitOne's answer -/
theorem isinst_ok {x : V} {u t : Value} (I : Inv X pins σ H s) (rx : RelV x u) (ty : TyOf X.K H x t) (e : PySem.W.kitOne X.K t c = some b) (h : ∀ tk, Q (.bool b) { s with toks := tk }) :
    wpAny (model X.prog X.w) A (call (.builtin "isinstance") [u, c]) Q E s := by
  cases ty with
  | non => cases (show u = Value.none from rx); exact PySem.W.kia_one PySem.W.kitx_none I.kIn True.intro e (fun z => nomatch z) h
  | bl y => cases (show u = Value.bool y from rx); exact PySem.W.kia_one PySem.W.kitx_bool I.kIn True.intro e (fun z => nomatch z) h
  | int i => obtain ⟨t, q⟩ := (show ∃ t, u = Value.int i t from rx); cases q; exact PySem.W.kia_one PySem.W.kitx_int I.kIn True.intro e (fun z => nomatch z) h
  | str y => obtain ⟨t, q⟩ := (show ∃ t, u = Value.str y t from rx); cases q; exact PySem.W.kia_one PySem.W.kitx_str I.kIn True.intro e (fun z => nomatch z) h
  | flt y => obtain ⟨t, q⟩ := (show ∃ t, u = Value.float y t from rx); cases q; exact PySem.W.kia_one PySem.W.kitx_float I.kIn True.intro e (fun z => nomatch z) h
  | @lst a xs ea =>
    cases (show u = Value.ref a from rx)
    obtain ⟨_, _, n, _, h1⟩ := (show ObjOk X.prog X.w H s.heap a (.lst xs) from I.hok a _ ea)
    exact PySem.W.kia_one PySem.W.kitx_list I.kIn ⟨_, h1, rfl⟩ e (fun z => nomatch z) h
  | @frz a ob xs ea =>
    cases (show u = Value.ref a from rx)
    obtain ⟨_, _, _, n, _, h1⟩ := (show ObjOk X.prog X.w H s.heap a (.frz ob (.lst xs)) from I.hok a _ ea)
    exact PySem.W.kia_one PySem.W.kitx_list I.kIn ⟨_, h1, rfl⟩ e (fun z => nomatch z) h
  | @tup a xs ea =>
    cases (show u = Value.ref a from rx)
    obtain ⟨_, _, _, p⟩ := (show ObjOk X.prog X.w H s.heap a (.tup xs) from I.hok a _ ea)
    obtain ⟨o, h1, h2, _⟩ := p
    exact PySem.W.kia_one PySem.W.kitx_tuple I.kIn ⟨o, h1, h2⟩ e (fun z => nomatch z) h
  | @dK a kvs ea =>
    cases (show u = Value.ref a from rx)
    obtain ⟨_, _, vs, _, p⟩ := (show ObjOk X.prog X.w H s.heap a (.dK kvs) from I.hok a _ ea)
    obtain ⟨o, es, ep, h1, h2, _⟩ := p
    exact PySem.W.kia_one PySem.W.kitx_dict I.kIn ⟨o, h1, h2.1⟩ e (fun z => nomatch z) h
  | @dT a kvs ea =>
    cases (show u = Value.ref a from rx)
    obtain ⟨_, _, xs, _, o, es, ep, h1, h2, _⟩ := (show ObjOk X.prog X.w H s.heap a (.dT kvs) from I.hok a _ ea)
    exact PySem.W.kia_one PySem.W.kitx_dict I.kIn ⟨o, h1, h2.1⟩ e (fun z => nomatch z) h
  | @ins a C dx fs ea cl ha hn htk hm =>
    cases (show u = Value.ref a from rx)
    obtain ⟨mA, O, _⟩ := ins_get I.hok ea
    obtain ⟨od, J, _⟩ := O.look
    exact PySem.W.kia_one (PySem.W.kitx_own (cl.get _) cl.hd ha hn htk hm) I.kIn J e (fun z => nomatch z) h
end
end L2

namespace L2
open PySem PySem.Spec PyProof.Rows

/-! ### room -/
structure Room (k : Nat) (A : Around) : Prop where
  hd : A.handled = none
  dp : A.depth + 3 * k + 5 < recursionLimit
  un : A.units + 16 * k + 200 < cLine
  gd : A.guards = some []
theorem Room.mono {j k : Nat} {A : Around} (r : Room k A) (h : j ≤ k) : Room j A := ⟨r.hd, by have := r.dp; omega, by have := r.un; omega, r.gd⟩
theorem Room.deeper {k : Nat} {A : Around} (r : Room (k + 1) A) (env : Env) : Room k (A.deeper env) :=
  ⟨r.hd, by have := r.dp; show A.depth + 1 + 3 * k + 5 < _; omega, by have := r.un; show A.units + 3 + 16 * k + 200 < _; omega, r.gd⟩
theorem Room.in1 {k : Nat} {A : Around} (r : Room (k + 1) A) : Room k A.in1 :=
  ⟨r.hd, by have := r.dp; show A.depth + 3 * k + 5 < _; omega, by have := r.un; show A.units + 1 + 16 * k + 200 < _; omega, r.gd⟩
theorem make_depth {A : Around} {C : Addr} {us : List Value} {kw : List (Str × Value)} : (A.under (.builtin "type.__call__" ⟨.ref C :: us, kw⟩)).depth = A.depth + 1 := by
  first | rfl | simp [Around.under, Code.weight, Code.isCreation, Code.isGuard, Code.isCaller, Code.frames, Code.isFrame, guardIds]
theorem make_units {A : Around} {C : Addr} {us : List Value} {kw : List (Str × Value)} : (A.under (.builtin "type.__call__" ⟨.ref C :: us, kw⟩)).units = A.units + 1 := by
  first | rfl | simp [Around.under, Code.cUnits, Code.frames, Code.isFrame]
theorem make_guards {A : Around} {C : Addr} {us : List Value} {kw : List (Str × Value)} (h : A.guards = some []) : (A.under (.builtin "type.__call__" ⟨.ref C :: us, kw⟩)).guards = some [] := by
  first | exact h | (simpa [Around.under, Code.weight, Code.isCreation, Code.isGuard, Code.isCaller, Code.frames, Code.isFrame, guardIds] using h)
theorem Room.make {k : Nat} {A : Around} (r : Room (k + 1) A) (C : Addr) (us : List Value) (kw : List (Str × Value)) : Room k (A.under (.builtin "type.__call__" ⟨.ref C :: us, kw⟩)) :=
  ⟨r.hd, by have := r.dp; rw [make_depth]; omega, by have := r.un; rw [make_units]; omega, make_guards r.gd⟩
theorem Room.depth {k : Nat} {A : Around} (r : Room k A) : A.depth < recursionLimit := by have := r.dp; omega
theorem Room.units {k : Nat} {A : Around} (r : Room k A) : A.units + 64 < cLine := by have := r.un; omega
theorem Room.units0 {k : Nat} {A : Around} (r : Room k A) : A.units < cLine := by have := r.un; omega

/-! ### argument lists and displays -/
def tNil : TA := fun _ H Q => Q [] H
def tCons (ta : TE) (tr : TA) : TA := fun σ H Q => ta σ H fun x H1 => tr σ H1 fun xs H2 => Q (x :: xs) H2
section
variable {X : Cx} {e : Expr} {es : List Expr} {te : TE} {t : TA} {pos : Pos}
theorem pa_nil : PA X [] tNil := fun _ _ _ _ H Q I h => Calls.spliced_nil ⟨[], H, I, .nil, h⟩
theorem pa_cons (ha : PE X e te) (hr : PA X es t) (hs : starEach (e :: es) X.env = (false, eval e X.env) :: starEach es X.env := by rfl) : PA X (e :: es) (tCons te t) := by
  intro pos pins s σ H Q I h
  rw [hs]
  show wpAny _ _ (spliced ((false, eval e X.env) :: backTo pos (starEach es X.env))) _ _ s
  refine Calls.spliced_cons (thn (ha pins s σ H _ I h) fun u s1 ⟨x, H1, I1, r1, q1⟩ => ?_)
  exact thn (hr pos pins s1 σ H1 _ I1 q1) fun us s2 ⟨xs, H2, I2, r2, q2⟩ => ⟨x :: xs, H2, I2, .cons r1 r2, q2⟩

/-- a tuple, a list of written items -/
def tTup (t : TA) : TE := fun σ H Q => t σ H fun xs H1 => xs.length ≤ sizeLine ∧ ∀ p, H1 p = none → Q (.ref p) (upd H1 p (.tup xs))
def tLst (t : TA) : TE := fun σ H Q => t σ H fun xs H1 => xs.length ≤ sizeLine ∧ ∀ p, H1 p = none → Q (.ref p) (upd H1 p (.lst xs))
theorem pe_tup {x1} (h : PA X es t) : PE X (.Tuple es x1 pos) (tTup t) := by
  intro pins s σ H Q I hq
  refine wpAny_Tuple_spliced (thn (h pos pins s σ H _ I hq) fun us s1 ⟨xs, H1, I1, r, z, q⟩ => ⟨by rw [← r.length]; exact z, ?_⟩)
  have hf : H1 s1.heap.objs.size = none := I1.hok.fresh (Nat.le_refl _)
  refine ⟨.ref s1.heap.objs.size, upd H1 s1.heap.objs.size (.tup xs), I1.laid (t' := s1.toks) (fun b u e => Heap.get?_push_of_some _ e) (Nat.le_refl _) ?_, rfl, q _ hf⟩
  exact ⟨z, us, r, ⟨_, Heap.get?_push_size _ rfl, rfl, _, rfl⟩⟩
theorem pe_lst (h : PA X es t) : PE X (.List es pos) (tLst t) := by
  intro pins s σ H Q I hq
  refine wpAny_List_spliced (thn (h pos pins s σ H _ I hq) fun us s1 ⟨xs, H1, I1, r, z, q⟩ => ⟨by rw [← r.length]; exact z, ?_⟩)
  have hf : H1 s1.heap.objs.size = none := I1.hok.fresh (Nat.le_refl _)
  refine ⟨.ref s1.heap.objs.size, upd H1 s1.heap.objs.size (.lst xs), I1.laid (t' := s1.toks) (fun b u e => Heap.get?_push_of_some _ e) (Nat.le_refl _) ?_, rfl, q _ hf⟩
  exact ⟨z, us, 0, r, Heap.get?_push_size _ rfl⟩
end

/-! ### what a def promises -/
/-- a def's promise: the bound arguments in the parameters' order, the heap, the wanted end, the wanted exception -/
abbrev Sp := List V → Hp → VK → XK → Prop
/-- how an exception lies behind a call (file 08 gives it): the callers' frames, abstract heap and state ahead of the call, the wish, the exception, the state -/
abbrev CXT := List Env → Hp → Shared → XK → Value → Shared → Prop

/-- the state at a call -/
structure Env0 (P : Program) (w : World) (K : PySem.W.Frag) (mg : Str → Option Value) (base : Heap) (A : Around) (outer : List Env) (s : Shared) (H : Hp) : Prop where
  frames : A.frames = some outer
  mod : Mod K mg base
  bs : ∀ b o, base.get? b = some o → s.heap.get? b = some o ∧ H b = none
  bsz : base.objs.size ≤ s.heap.objs.size
  funs : s.heap.FunFrames base outer
  frf : ∀ b ∈ frs outer, H b = none
  hok : HOk P w H s.heap
  bare : AllBare s.gens
/-- a call's end -/
def CE (outer : List Env) (P : Program) (w : World) (H : Hp) (s : Shared) (Q : VK) (u : Value) (s' : Shared) : Prop :=
  ∃ v H', s'.os = s.os ∧ AllBare s'.gens ∧ Un (frs outer) [] H H' s.heap s'.heap ∧ HOk P w H' s'.heap ∧ RelV v u ∧ Q v H'
def CR (CX : CXT) (outer : List Env) (P : Program) (w : World) (H : Hp) (s : Shared) (Q : VK) (E : XK) (r : Result) (s' : Shared) : Prop :=
  match r with
  | .ok (.ret u) => CE outer P w H s Q u s'
  | .ok _ => False
  | .error e => CX outer H s E e s'
structure FnOk (P : Program) (w : World) (K : PySem.W.Frag) (mg : Str → Option Value) (base : Heap) (CX : CXT) (k : Nat) (f : Addr) (fd : FuncData) (ps : List Str) (sp : Sp) : Prop where
  len : ∀ vs H Q E, sp vs H Q E → vs.length = ps.length
  run : ∀ (A : Around) (outer : List Env) (s : Shared) (H : Hp) (args : Args) (us : List Value) (vs : List V) (Q : VK) (E : XK), Room k A → Env0 P w K mg base A outer s H → BindsTo s fd args (ps.zip us) → Vals vs us → sp vs H Q E →
    codeAny (model P w) A (.call (.ref f) args) (CR CX outer P w H s Q E) s
theorem FnOk.mono {P : Program} {w : World} {K : PySem.W.Frag} {mg : Str → Option Value} {base : Heap} {CX : CXT} {j k : Nat} {f : Addr} {fd : FuncData} {ps : List Str} {sp : Sp} (F : FnOk P w K mg base CX j f fd ps sp) (h : j ≤ k) :
    FnOk P w K mg base CX k f fd ps sp := ⟨F.len, fun A outer s H args us vs Q E hr => F.run A outer s H args us vs Q E (hr.mono h)⟩
/-- a weaker promise -/
theorem FnOk.imp {P : Program} {w : World} {K : PySem.W.Frag} {mg : Str → Option Value} {base : Heap} {CX : CXT} {k : Nat} {f : Addr} {fd : FuncData} {ps : List Str} {sp sp' : Sp} (F : FnOk P w K mg base CX k f fd ps sp)
    (h : ∀ vs H Q E, sp' vs H Q E → sp vs H Q E) : FnOk P w K mg base CX k f fd ps sp' :=
  ⟨fun vs H Q E q => F.len vs H Q E (h _ _ _ _ q), fun A outer s H args us vs Q E hr he hb hv hs => F.run A outer s H args us vs Q E hr he hb hv (h _ _ _ _ hs)⟩

theorem Env0.make {P : Program} {w : World} {K : PySem.W.Frag} {mg : Str → Option Value} {base : Heap} {A : Around} {outer : List Env} {s : Shared} {H : Hp} (e : Env0 P w K mg base A outer s H) (C : Addr) (us : List Value) (kw : List (Str × Value)) :
    Env0 P w K mg base (A.under (.builtin "type.__call__" ⟨.ref C :: us, kw⟩)) outer s H := ⟨by first | exact e.frames | (simpa [Around.under, Code.envs, Code.isFrame, pushEnvs] using e.frames), e.mod, e.bs, e.bsz, e.funs, e.frf, e.hok, e.bare⟩
theorem Env0.in1 {P : Program} {w : World} {K : PySem.W.Frag} {mg : Str → Option Value} {base : Heap} {A : Around} {outer : List Env} {s : Shared} {H : Hp} (e : Env0 P w K mg base A outer s H) :
    Env0 P w K mg base A.in1 outer s H := ⟨e.frames, e.mod, e.bs, e.bsz, e.funs, e.frf, e.hok, e.bare⟩

section
variable {X : Cx} {pins : List (Addr × Obj)} {σ : St} {H : Hp} {s s' : Shared}
/-- from a body: what a callee wants -/
theorem Inv.env0 (I : Inv X pins σ H s) : Env0 X.prog X.w X.K X.mg X.base X.A X.stack s H :=
  ⟨I.ok.frames, I.ok.mod, I.bs, Nat.le_trans I.ok.bsz I.sz, I.stack, I.stkFree, I.hok, I.bare⟩
/-- behind a call -/
theorem Inv.after {Q : VK} {u : Value} (I : Inv X pins σ H s) (h : CE X.stack X.prog X.w H s Q u s') : EP X pins σ Q u s' := by
  obtain ⟨v, H', os, bare, un, hok, r, q⟩ := h
  obtain ⟨hh, g, d, t, os'⟩ := s'
  obtain rfl : os' = s.os := os
  exact ⟨v, H', I.call (h' := hh) (g' := g) (d' := d) (t' := t) (ch := []) un hok bare (fun b z => absurd z (by simp)), r, q⟩
end

/-! ### calls -/
/-- f(..): the written arguments, then the defaults dvs; E: what is wanted of an exception -/
def tCall (sp : Sp) (dvs : List V) (E : XK) (t : TA) : TE := fun σ H Q => t σ H fun vs H1 => sp (vs ++ dvs) H1 Q E
/-- o.m(..) of an instance of the class at C -/
def tMeth (C : Addr) (m : Str) (sp : Sp) (dvs : List V) (E : XK) (ta : TE) (t : TA) : TE := fun σ H Q => ta σ H fun x H1 => ∃ a dx fs, x = .ref a ∧ H1 a = some (.ins C dx fs) ∧ fs.lookup m = none ∧
  t σ H1 fun vs H2 => sp (x :: (vs ++ dvs)) H2 Q E
/-- C(..): a new instance and its dict, then __init__ -/
def tMake (C : Addr) (sp : Sp) (dvs : List V) (E : XK) (t : TA) : TE := fun σ H Q => t σ H fun vs H1 => ∀ x dx, H1 x = none → H1 dx = none → dx ≠ x →
  sp (.ref x :: (vs ++ dvs)) (upd (upd H1 dx (.own x)) x (.ins C dx [])) (fun v H2 => v = .non ∧ Q (.ref x) H2) E

/-- how the parameters are bound: us the positional arguments, kw the keywords' values by name, ds the defaults that fill up -/
def Binds (K : PySem.W.Frag) (fd : FuncData) (ps : List Str) (ds : List Value) : Prop :=
  ∀ (s : Shared) (us : List Value), K.In s.heap → (us ++ ds).length = ps.length → BindsTo s fd ⟨us, []⟩ (ps.zip (us ++ ds))
/-- every parameter is given -/
theorem Binds.all {K : PySem.W.Frag} {fd : FuncData} {ps : List Str} (h : ∀ us : List Value, us.length = ps.length → bindArgs fd ⟨us, []⟩ = pure (ps.zip us)) : Binds K fd ps [] := fun s us _ hl => by
  rw [List.append_nil] at hl ⊢
  exact .of_eq (h us hl)

/-- an exception of a callee reaches what this body wants of exceptions -/
def Passes (CX : CXT) (X : Cx) (E : XK) : Prop := ∀ (pins : List (Addr × Obj)) (σ : St) (H : Hp) (s : Shared) (e : Value) (s' : Shared), Inv X pins σ H s → CX X.stack H s E e s' → X.xe e s'

section
variable {X : Cx} {CX : CXT} {k : Nat} {f C : Addr} {fd : FuncData} {ps : List Str} {sp : Sp} {dvs : List V} {ds : List Value} {E : XK} {x m : Str} {p pos apos : Pos} {e o : Expr} {es : List Expr} {ta : TE} {t : TA}

/-- the callee runs -/
theorem run_fn {pins : List (Addr × Obj)} {σ : St} {H : Hp} {s : Shared} {Q : VK} {us : List Value} {vs : List V} (F : FnOk X.prog X.w X.K X.mg X.base CX k f fd ps sp) (hr : Room k X.A) (hb : Binds X.K fd ps ds) (hd : Vals dvs ds) (hx : Passes CX X E)
    (I : Inv X pins σ H s) (r : Vals vs us) (h : sp (vs ++ dvs) H Q E) : wpAny (model X.prog X.w) X.A (call (.ref f) us) (EP X pins σ Q) X.xe s := by
  have r2 : Vals (vs ++ dvs) (us ++ ds) := r.append hd
  have hl : (us ++ ds).length = ps.length := by rw [← r2.length]; exact F.len _ _ _ _ h
  refine wpAny_call (codeAny_mono (F.run X.A X.stack s H ⟨us, []⟩ (us ++ ds) (vs ++ dvs) Q E hr I.env0 (hb s us I.kIn hl) r2 h) fun r s' hq => ?_)
  cases r with
  | error e => exact hx pins σ H s e s' I hq
  | ok fl =>
    cases fl with
    | ret u => exact I.after hq
    | next => exact False.elim hq
    | brk => exact False.elim hq
    | cont => exact False.elim hq

theorem pe_call (F : FnOk X.prog X.w X.K X.mg X.base CX k f fd ps sp) (hr : Room k X.A) (hg : Gl X x) (hm : X.mg x = some (.ref f)) (hk : PySem.W.keepIn X.K (.ref f) = true) (hb : Binds X.K fd ps ds) (hd : Vals dvs ds) (hx : Passes CX X E)
    (ha : PA X (e :: es) t) (hdb : (x == ("__debug__" : Str)) = false := by decide) (he : starEach (e :: es) X.env = (false, eval e X.env) :: starEach es X.env := by rfl) (hpl : (backTo pos (starEach es X.env)).any (·.1) = false := by rfl) :
    PE X (.Call (.Name x p) (e :: es) [] pos) (tCall sp dvs E t) := by
  intro pins s σ H Q I h
  refine wpAny_Call_Name_kw (ld_glob I hg hm ?_ hdb)
  refine PySem.W.callWith_K (h₀ := X.base) I.ok.mod.kin hk (thn (ha pos pins s σ H _ I h) fun us s1 ⟨vs, H1, I1, r, q⟩ => ⟨I1.kIn, ?_⟩) he hpl
  exact run_fn F hr hb hd hx I1 r q
theorem pe_call0 (F : FnOk X.prog X.w X.K X.mg X.base CX k f fd ps sp) (hr : Room k X.A) (hg : Gl X x) (hm : X.mg x = some (.ref f)) (hk : PySem.W.keepIn X.K (.ref f) = true) (hb : Binds X.K fd ps ds) (hd : Vals dvs ds) (hx : Passes CX X E)
    (hdb : (x == ("__debug__" : Str)) = false := by decide) : PE X (.Call (.Name x p) [] [] pos) (tCall sp dvs E tNil) := by
  intro pins s σ H Q I h
  refine wpAny_Call_Name_kw (ld_glob I hg hm ?_ hdb)
  exact PySem.W.callWith_K0 I.kIn hk (run_fn (us := []) F hr hb hd hx I .nil h)

/-- o.m(e, ..) -/
theorem pe_meth {pl : Sem Bool} (he : PE X o ta) (c : Cls X.K C) (hm : Meth X.K C m f) (F : FnOk X.prog X.w X.K X.mg X.base CX k f fd ps sp) (hr : Room k X.A) (hb : Binds X.K fd ps ds) (hd : Vals dvs ds) (hx : Passes CX X E) (ha : PA X (e :: es) t)
    (hst : starEach (e :: es) X.env = (false, eval e X.env) :: starEach es X.env := by rfl) (hpl : (backTo pos (starEach es X.env)).any (·.1) = false := by rfl)
    (ht : eval (.Call (.Attribute o m apos) (e :: es) [] pos) X.env = (do
      let ov ← eval o X.env
      standAt apos.atName
      let (f, first) ← holding [ov] (getMethod ov m pl)
      callWith pos f first (backTo pos (starEach (e :: es) X.env)) (backToKw pos (keywordEach [] X.env))) := by rfl) :
    PE X (.Call (.Attribute o m apos) (e :: es) [] pos) (tMeth C m sp dvs E ta t) := by
  intro pins s σ H Q I h
  refine PySem.W.methodCall_KW (pl := pl) (thn (he pins s σ H _ I h) fun u s1 ⟨x, H1, I1, rx, a, dx, fs, ex, ea, l, q⟩ => ?_) ht
  subst ex
  obtain rfl : u = Value.ref a := rx
  refine getmeth_ok I1 ea c hm l ?_
  refine PySem.W.callWith_K (first := [.ref a]) (h₀ := X.base) I.ok.mod.kin hm.kp (thn (ha pos pins s1 σ H1 _ I1 q) fun us s2 ⟨vs, H2, I2, r, q2⟩ => ⟨I2.kIn, ?_⟩) hst hpl
  exact run_fn (us := .ref a :: us) (vs := .ref a :: vs) F hr hb hd hx I2 (.cons rfl r) q2
/-- o.m() -/
theorem pe_meth0 {pl : Sem Bool} (he : PE X o ta) (c : Cls X.K C) (hm : Meth X.K C m f) (F : FnOk X.prog X.w X.K X.mg X.base CX k f fd ps sp) (hr : Room k X.A) (hb : Binds X.K fd ps ds) (hd : Vals dvs ds) (hx : Passes CX X E)
    (ht : eval (.Call (.Attribute o m apos) [] [] pos) X.env = (do
      let ov ← eval o X.env
      standAt apos.atName
      let (f, first) ← holding [ov] (getMethod ov m pl)
      callWith pos f first (backTo pos (starEach [] X.env)) (backToKw pos (keywordEach [] X.env))) := by rfl) :
    PE X (.Call (.Attribute o m apos) [] [] pos) (tMeth C m sp dvs E ta tNil) := by
  intro pins s σ H Q I h
  refine PySem.W.methodCall_KW (pl := pl) (thn (he pins s σ H _ I h) fun u s1 ⟨x, H1, I1, rx, a, dx, fs, ex, ea, l, q⟩ => ?_) ht
  subst ex
  obtain rfl : u = Value.ref a := rx
  refine getmeth_ok I1 ea c hm l ?_
  exact PySem.W.callWith_K0 (first := [.ref a]) I1.kIn hm.kp (run_fn (us := [.ref a]) (vs := [.ref a]) F hr hb hd hx I1 (.cons rfl .nil) q)

/-- what a class must have to be made -/
structure Mk (K : PySem.W.Frag) (C f : Addr) : Prop where
  makes : PySem.W.makesIn K C = true
  init : PySem.W.findIn K (.ref C) "__init__" = some (some (.ref f))
  fn : PySem.W.isFn K (.ref f) = true
  kp : PySem.W.keepIn K (.ref C) = true

theorem run_make {pins : List (Addr × Obj)} {σ : St} {H : Hp} {s : Shared} {Q : VK} {us : List Value} {vs : List V} (M : Mk X.K C f) (F : FnOk X.prog X.w X.K X.mg X.base CX k f fd ps sp) (hr : Room (k + 1) X.A) (hb : Binds X.K fd ps ds) (hd : Vals dvs ds)
    (hx : Passes CX X E) (I : Inv X pins σ H s) (r : Vals vs us)
    (h : ∀ x dx, H x = none → H dx = none → dx ≠ x → sp (.ref x :: (vs ++ dvs)) (upd (upd H dx (.own x)) x (.ins C dx [])) (fun v H2 => v = .non ∧ Q (.ref x) H2) E) :
    wpAny (model X.prog X.w) X.A (call (.ref C) us) (EP X pins σ Q) X.xe s := by
  have hq := h (s.heap.objs.size + 1) s.heap.objs.size (I.hok.fresh (Nat.le_succ _)) (I.hok.fresh (Nat.le_refl _)) (Nat.ne_of_lt (Nat.lt_succ_self _))
  have I2 := Inv.made (C := C) I
  have r2 : Vals (V.ref (s.heap.objs.size + 1) :: (vs ++ dvs)) (Value.ref (s.heap.objs.size + 1) :: (us ++ ds)) := .cons rfl (r.append hd)
  have hl : (Value.ref (s.heap.objs.size + 1) :: us ++ ds).length = ps.length := by
    have e := r2.length
    rw [F.len _ _ _ _ hq] at e
    exact e.symm
  refine wpAny_call (make_map (f := f) I.kIn M.makes M.init (beq_iff_eq.mp M.fn) (codeAny_mono (F.run _ X.stack _ _ ⟨Value.ref (s.heap.objs.size + 1) :: us, []⟩ (Value.ref (s.heap.objs.size + 1) :: (us ++ ds)) _ _ E (hr.make C us [])
    (I2.env0.make C us []) (hb _ (Value.ref (s.heap.objs.size + 1) :: us) I2.kIn hl) r2 hq) fun r s' hq' => ?_))
  cases r with
  | error e => exact hx pins σ _ _ e s' I2 hq'
  | ok fl =>
    cases fl with
    | ret u =>
      obtain ⟨v, H', I3, rv, ev, q3⟩ := I2.after hq'
      subst ev
      exact ⟨rv, ⟨V.ref (s.heap.objs.size + 1), H', I3, rfl, q3⟩⟩
    | next => exact False.elim hq'
    | brk => exact False.elim hq'
    | cont => exact False.elim hq'
theorem pe_make (M : Mk X.K C f) (F : FnOk X.prog X.w X.K X.mg X.base CX k f fd ps sp) (hr : Room (k + 1) X.A) (hg : Gl X x) (hm : X.mg x = some (.ref C)) (hb : Binds X.K fd ps ds) (hd : Vals dvs ds) (hx : Passes CX X E)
    (ha : PA X (e :: es) t) (hdb : (x == ("__debug__" : Str)) = false := by decide) (he : starEach (e :: es) X.env = (false, eval e X.env) :: starEach es X.env := by rfl) (hpl : (backTo pos (starEach es X.env)).any (·.1) = false := by rfl) :
    PE X (.Call (.Name x p) (e :: es) [] pos) (tMake C sp dvs E t) := by
  intro pins s σ H Q I h
  refine wpAny_Call_Name_kw (ld_glob I hg hm ?_ hdb)
  refine PySem.W.callWith_K (h₀ := X.base) I.ok.mod.kin M.kp (thn (ha pos pins s σ H _ I h) fun us s1 ⟨vs, H1, I1, r, q⟩ => ⟨I1.kIn, ?_⟩) he hpl
  exact run_make M F hr hb hd hx I1 r q
theorem pe_make0 (M : Mk X.K C f) (F : FnOk X.prog X.w X.K X.mg X.base CX k f fd ps sp) (hr : Room (k + 1) X.A) (hg : Gl X x) (hm : X.mg x = some (.ref C)) (hb : Binds X.K fd ps ds) (hd : Vals dvs ds) (hx : Passes CX X E)
    (hdb : (x == ("__debug__" : Str)) = false := by decide) : PE X (.Call (.Name x p) [] [] pos) (tMake C sp dvs E tNil) := by
  intro pins s σ H Q I h
  refine wpAny_Call_Name_kw (ld_glob I hg hm ?_ hdb)
  exact PySem.W.callWith_K0 I.kIn M.kp (run_make (us := []) M F hr hb hd hx I .nil h)
end

/-! ### keywords -/
/-- the values of the keywords, from the left -/
def PK (X : Cx) (kws : List Keyword) (t : TA) : Prop :=
  ∀ (pos : Pos) (pins : List (Addr × Obj)) (s : Shared) (σ : St) (H : Hp) (Q : List V → Hp → Prop), Inv X pins σ H s → t σ H Q → wpAny (model X.prog X.w) X.A (evalAll ((backToKw pos (keywordEach kws X.env)).map (·.2))) (AP X pins σ Q) X.xe s
section
variable {X : Cx} {CX : CXT} {k : Nat} {f C : Addr} {fd : FuncData} {ps ks : List Str} {sp : Sp} {E : XK} {x m : Str} {p pos apos kpos : Pos} {e o : Expr} {es : List Expr} {kws : List Keyword} {te ta : TE} {t tk : TA} {nm : Option Str}
theorem pk_nil : PK X [] tNil := fun _ _ _ _ H Q I h => wpAny_evalAll_nil ⟨[], H, I, .nil, h⟩
theorem pk_cons (ha : PE X e te) (hr : PK X kws t) : PK X (⟨nm, e, kpos⟩ :: kws) (tCons te t) := by
  intro pos pins s σ H Q I h
  show wpAny _ _ (evalAll ((do let v ← eval e X.env; standAt pos; pure v) :: (backToKw pos (keywordEach kws X.env)).map (·.2))) _ _ s
  refine wpAny_evalAll_cons (wpAny_bind (thn (ha pins s σ H _ I h) fun u s1 ⟨x, H1, I1, r1, q1⟩ => wpAny_bind (wpAny_standAt (wpAny_pure ?_))))
  exact thn (hr pos pins s1 σ H1 _ I1 q1) fun us s2 ⟨xs, H2, I2, r2, q2⟩ => ⟨x :: xs, H2, I2, .cons r1 r2, q2⟩

/-- how a call with keywords binds: g puts the positional values us and the keywords' values ws (names ks) in the parameters' order, defaults among them -/
structure KBinds (K : PySem.W.Frag) (fd : FuncData) (ps ks : List Str) (g : List Value → List Value → List Value) (gV : List V → List V → List V) : Prop where
  to : ∀ (s : Shared) (us ws : List Value), K.In s.heap → (g us ws).length = ps.length → BindsTo s fd ⟨us, ks.zip ws⟩ (ps.zip (g us ws))
  rel : ∀ {vs : List V} {us : List Value} {zs : List V} {ws : List Value}, Vals vs us → Vals zs ws → Vals (gV vs zs) (g us ws)
def tCallK (sp : Sp) (gV : List V → List V → List V) (E : XK) (t tk : TA) : TE := fun σ H Q => t σ H fun vs H1 => tk σ H1 fun zs H2 => sp (gV vs zs) H2 Q E
variable {g : List Value → List Value → List Value} {gV : List V → List V → List V}
theorem run_fnk {pins : List (Addr × Obj)} {σ : St} {H : Hp} {s : Shared} {Q : VK} {us ws : List Value} {vs zs : List V} (F : FnOk X.prog X.w X.K X.mg X.base CX k f fd ps sp) (hr : Room k X.A) (hb : KBinds X.K fd ps ks g gV) (hx : Passes CX X E)
    (I : Inv X pins σ H s) (r : Vals vs us) (rz : Vals zs ws) (h : sp (gV vs zs) H Q E) : wpAny (model X.prog X.w) X.A (call (.ref f) us (ks.zip ws)) (EP X pins σ Q) X.xe s := by
  have r2 := hb.rel r rz
  have hl : (g us ws).length = ps.length := by rw [← r2.length]; exact F.len _ _ _ _ h
  refine wpAny_call (codeAny_mono (F.run X.A X.stack s H ⟨us, ks.zip ws⟩ (g us ws) (gV vs zs) Q E hr I.env0 (hb.to s us ws I.kIn hl) r2 h) fun r s' hq => ?_)
  cases r with
  | error e => exact hx pins σ H s e s' I hq
  | ok fl =>
    cases fl with
    | ret u => exact I.after hq
    | next => exact False.elim hq
    | brk => exact False.elim hq
    | cont => exact False.elim hq
/-- f(e, .., k = v, ..) -/
theorem pe_callK (F : FnOk X.prog X.w X.K X.mg X.base CX k f fd ps sp) (hr : Room k X.A) (hg : Gl X x) (hm : X.mg x = some (.ref f)) (hk : PySem.W.keepIn X.K (.ref f) = true) (hb : KBinds X.K fd ps ks g gV) (hx : Passes CX X E)
    (ha : PA X (e :: es) t) (hkw : PK X kws tk) (hall : (backToKw pos (keywordEach kws X.env)).all (·.1.isSome) = true := by rfl) (hks : (backToKw pos (keywordEach kws X.env)).filterMap (·.1) = ks := by rfl)
    (hdb : (x == ("__debug__" : Str)) = false := by decide) (he : starEach (e :: es) X.env = (false, eval e X.env) :: starEach es X.env := by rfl)
    (hpl : ((backTo pos (starEach (e :: es) X.env)).any (·.1) || (backToKw pos (keywordEach kws X.env)).any (·.1.isNone)) = false := by rfl) :
    PE X (.Call (.Name x p) (e :: es) kws pos) (tCallK sp gV E t tk) := by
  intro pins s σ H Q I h
  refine wpAny_Call_Name_kw (ld_glob I hg hm ?_ hdb)
  refine PySem.W.callWith_KW (h₀ := X.base) I.ok.mod.kin hk hall (thn (ha pos pins s σ H _ I h) fun us s1 ⟨vs, H1, I1, r, q⟩ => ?_) hpl he
  refine thn (hkw pos pins s1 σ H1 _ I1 q) fun ws s2 ⟨zs, H2, I2, rz, q2⟩ => ⟨I2.kIn, ?_⟩
  rw [hks]
  exact run_fnk F hr hb hx I2 r rz q2
end

/-! ### a def's body keeps its promise -/
/-- names: the parameters first -/
structure FnScope (N P : List Str) (sc : Scope) : Prop where
  kind : sc.kind = .function
  co : sc.isCoroutine = false
  gen : sc.isGenerator = false
  nd : N.Nodup
  pre : N.take P.length = P
  par : ∀ x ∈ P, sc.names.lookup x = some .local ∨ sc.names.lookup x = some .cell
  nofree : ∀ y ∈ sc.names, y.2 ≠ .free

theorem bindL_out {kindOf : Str → Option NameKind} {x : Str} : ∀ {binds : List (Str × Value)} {m : Str → Option Value}, (∀ v, (x, v) ∉ binds) → bindL kindOf binds m x = m x
  | [], _, _ => rfl
  | (n, v) :: r, m, h => by
    unfold bindL
    rw [bindL_out fun w hw => h w (List.mem_cons_of_mem _ hw)]
    split
    · have : x ≠ n := by rintro rfl; exact h v List.mem_cons_self
      simp [this]
    · rfl
theorem bindC_out {kindOf : Str → Option NameKind} {x : Str} : ∀ {binds : List (Str × Value)} {m : Str → Option Value}, (∀ v, (x, v) ∉ binds) → bindC kindOf binds m x = m x
  | [], _, _ => rfl
  | (n, v) :: r, m, h => by
    unfold bindC
    rw [bindC_out fun w hw => h w (List.mem_cons_of_mem _ hw)]
    split
    · rfl
    · have : x ≠ n := by rintro rfl; exact h v List.mem_cons_self
      simp [this]
theorem bindL_get {kindOf : Str → Option NameKind} {x : Str} {v : Value} : ∀ {P : List Str} {vs : List Value} {i : Nat} {m : Str → Option Value}, P.Nodup → P[i]? = some x → vs[i]? = some v → kindOf x = some .local →
    bindL kindOf (P.zip vs) m x = some v
  | [], _, _, _, _, h, _, _ => by simp at h
  | _ :: _, [], _, _, _, _, h, _ => by simp at h
  | p :: P, w :: vs, 0, m, nd, h1, h2, hk => by
    simp at h1 h2; subst h1; subst h2
    show bindL kindOf ((p, w) :: P.zip vs) m p = _
    unfold bindL
    rw [bindL_out fun v hv => (List.nodup_cons.mp nd).1 (List.of_mem_zip hv).1, if_pos hk]
    simp
  | p :: P, w :: vs, i + 1, m, nd, h1, h2, hk => by
    show bindL kindOf ((p, w) :: P.zip vs) m x = _
    unfold bindL
    exact bindL_get (i := i) (List.nodup_cons.mp nd).2 (by simpa using h1) (by simpa using h2) hk
theorem bindC_get {kindOf : Str → Option NameKind} {x : Str} {v : Value} : ∀ {P : List Str} {vs : List Value} {i : Nat} {m : Str → Option Value}, P.Nodup → P[i]? = some x → vs[i]? = some v → kindOf x ≠ some .local →
    bindC kindOf (P.zip vs) m x = some v
  | [], _, _, _, _, h, _, _ => by simp at h
  | _ :: _, [], _, _, _, _, h, _ => by simp at h
  | p :: P, w :: vs, 0, m, nd, h1, h2, hk => by
    simp at h1 h2; subst h1; subst h2
    show bindC kindOf ((p, w) :: P.zip vs) m p = _
    unfold bindC
    rw [bindC_out fun v hv => (List.nodup_cons.mp nd).1 (List.of_mem_zip hv).1, if_neg hk]
    simp
  | p :: P, w :: vs, i + 1, m, nd, h1, h2, hk => by
    show bindC kindOf ((p, w) :: P.zip vs) m x = _
    unfold bindC
    exact bindC_get (i := i) (List.nodup_cons.mp nd).2 (by simpa using h1) (by simpa using h2) hk

/-- the names' values at the entry -/
def start (N : List Str) (vs : List V) : St := vs.map some ++ List.replicate (N.length - vs.length) none

/-- the context of a def's body, at its entry; an exception leaves the frame, then lies as CX says -/
def cxOf (CX : CXT) (P : Program) (w : World) (K : PySem.W.Frag) (mg : Str → Option Value) (base : Heap) (N : List Str) (qual : Str) (scope : Scope) (f : Addr) (cd : Value) (A : Around) (outer : List Env) (s : Shared) (H : Hp) (E : XK) : Cx where
  prog := P
  w := w
  K := K
  mg := mg
  base := base
  A := A.deeper (envOfC qual scope s.heap.objs.size f cd)
  N := N
  s₀ := s
  H₀ := H
  env := envOfC qual scope s.heap.objs.size f cd
  outer := outer
  stack := envOfC qual scope s.heap.objs.size f cd :: outer
  ex := []
  calm := true
  fn := fun _ => true
  pn := []
  xe := fun e s' => wpAny (model P w) (A.deeper (envOfC qual scope s.heap.objs.size f cd)) (leaving (envOfC qual scope s.heap.objs.size f cd) e) (fun _ s'' => CX outer H s E e s'') (fun e' s'' => CX outer H s E e' s'') s'

theorem cell_has {sc : Scope} {n : Nat} {x : Str} (h : sc.names.lookup x = some .cell) : ∃ c, (cellsFrom n sc.names []).lookup x = some c := by
  have q := PySem.W.cellsFrom_some sc.names n [] (.inl h)
  exact Option.isSome_iff_exists.mp q

theorem inv_start {CX : CXT} {P : Program} {w : World} {K : PySem.W.Frag} {mg : Str → Option Value} {base : Heap} {N ps : List Str} {qual : Str} {scope : Scope} {f : Addr} {cd : Value} {A : Around} {outer : List Env} {s s1 : Shared} {H : Hp} {E : XK} {us : List Value} {vs : List V}
    (S : FnScope N ps scope) (hd : A.handled = none) (e0 : Env0 P w K mg base A outer s H) (hl : vs.length = ps.length) (r : Vals vs us)
    (x : InCallC s s.heap.objs.size (bindL (envOfC qual scope s.heap.objs.size f cd).kindOf (ps.zip us) fun _ => none) (cellsFrom (s.heap.objs.size + 1) scope.names []) (bindC (envOfC qual scope s.heap.objs.size f cd).kindOf (ps.zip us) fun _ => none) s1) :
    Inv (cxOf CX P w K mg base N qual scope f cd A outer s H E) [] (start N vs) H s1 := by
  have hpl : ps.length ≤ N.length := by have := congrArg List.length S.pre; rw [List.length_take] at this; omega
  obtain ⟨h1, tk, rfl, hk⟩ := x.done
  have noA : ∀ b : Addr, b ∉ (cxOf CX P w K mg base N qual scope f cd A outer s H E).ex := fun b z => absurd (show b ∈ ([] : List Addr) from z) (by simp)
  refine ⟨⟨e0.mod, S.kind, rfl, rfl, Nat.le_refl _, fun y z c h1 h2 => ?_, fun y hy => ?_, fun y c _ h => ?_, fun _ => hd, Around.frames_deeper e0.frames, .inr ⟨rfl, rfl⟩, fun b z => absurd z (noA b), e0.bs, e0.bsz, fun b _ _ => noA b, fun b z => absurd z (noA b), e0.funs, e0.frf⟩,
    rfl, e0.bare, Un.kept hk, ⟨_, x.toInCall.ns, fun i y v h1 h2 h3 => ?_⟩, fun y c h => ⟨_, x.cell y c h⟩, e0.hok.fresh (Nat.le_refl _), fun y c h => ?_, fun p hp => absurd (show p ∈ ([] : List (Addr × Obj)) from hp) (by simp), e0.hok.kept hk, ?_⟩
  · exact name_of_addr x.apart (PySem.mem_of_lookup h1) (PySem.mem_of_lookup h2)
  · have hy : scope.names.lookup y = some .cell ∨ scope.names.lookup y = some .free := hy
    rcases hy with hy | hy
    · exact cell_has hy
    · exact absurd rfl (S.nofree _ (PySem.mem_of_lookup hy))
  · exact Nat.le_of_lt (x.above y c (PySem.mem_of_lookup h))
  · have hi : i < vs.length := by
      unfold start at h2
      by_cases hi : i < vs.length
      · exact hi
      · rw [List.getElem?_append_right (by simpa using hi)] at h2
        rw [List.getElem?_replicate] at h2
        split at h2 <;> cases h2
    have ha : vs[i]? = some v := by
      unfold start at h2
      rw [List.getElem?_append_left (by simpa using hi), List.getElem?_map] at h2
      cases e : vs[i]? with
      | none => rw [e] at h2; cases h2
      | some a => rw [e] at h2; cases h2; rfl
    obtain ⟨u, hu, rv⟩ := r.get ha
    have hp : ps[i]? = some y := by
      rw [← S.pre, List.getElem?_take_of_lt (by omega)]; exact h1
    have ndP : ps.Nodup := by rw [← S.pre]; exact S.nd.sublist (List.take_sublist _ _)
    refine ⟨u, rv, ?_⟩
    rcases S.par y (List.mem_of_getElem? hp) with k | k
    · exact .inl ⟨k, bindL_get ndP hp hu k⟩
    · obtain ⟨c, e⟩ := cell_has (n := s.heap.objs.size + 1) k
      refine .inr ⟨.inl k, c, e, ?_⟩
      have q := x.cell y c e
      rw [bindC_get ndP hp hu (by show scope.names.lookup y ≠ _; rw [k]; decide)] at q
      exact q
  · exact e0.hok.fresh (Nat.le_of_lt (x.above y c (PySem.mem_of_lookup h)))
  · unfold start
    show _ = N.length
    rw [List.length_append, List.length_map, List.length_replicate]
    omega

/-- THE RULE: a def (or a method) of the text, by its body. The body's reading t is chosen for each entry; it is run at the parameters' values -/
theorem fn_of {CX : CXT} {P : Program} {w : World} {K : PySem.W.Frag} {mg : Str → Option Value} {base : Heap} {k : Nat} {f : Addr} {name qual : Str} {params : Arguments} {body : List Stmt} {scope : Scope} {dV kV doc pm cdv ct oc : Value} {an od : Option Addr}
    {osl : Array (Option Value)} {N ps : List Str} {sp : Sp} (lk : K.lookup f = some ⟨oc, od, .func (PySem.W.fnOf name qual params body scope dV kV doc pm an cdv ct), osl⟩) (hcd : PySem.W.codeIn K cdv qual = true) (S : FnScope N ps scope)
    (len : ∀ vs H Q E, sp vs H Q E → vs.length = ps.length)
    (hbody : ∀ (A : Around) (outer : List Env) (s : Shared) (H : Hp) (vs : List V) (Q : VK) (E : XK), Room k (A.deeper (envOfC qual scope s.heap.objs.size f cdv)) → sp vs H Q E →
      ∃ t, PSs (cxOf CX P w K mg base N qual scope f cdv A outer s H E) body t ∧ t { nx := fun _ H' => Q .non H', rt := Q } (start N vs) H) :
    FnOk P w K mg base CX (k + 1) f (PySem.W.fnOf name qual params body scope dV kV doc pm an cdv ct) ps sp := by
  refine ⟨len, fun A outer s H args us vs Q E hr e0 hb r hsp => ?_⟩
  have hl := len _ _ _ _ hsp
  have KX : K.In s.heap := e0.mod.kin.keeps fun b o e => (e0.bs b o e).1
  have lim : s.heap.NoLimit := e0.mod.nolimit.keeps fun b o e => (e0.bs b o e).1
  have hkind : ∀ y ∈ ps.zip us, scope.names.lookup y.1 = some .local ∨ (scope.names.lookup y.1 = some .cell ∧ ((cellsFrom (s.heap.objs.size + 1) scope.names []).lookup y.1).isSome = true) := fun ⟨n, v⟩ hy => by
    rcases S.par n (List.of_mem_zip hy).1 with q | q
    · exact .inl q
    · exact .inr ⟨q, PySem.W.cellsFrom_some _ _ _ (.inl q)⟩
  refine codeAny_call_function hr.depth (KX _ _ lk) rfl S.co S.gen rfl (PySem.W.codeRec_of KX hcd) (hb _ _ _ _ ?_)
  refine wpAny_newFunctionEnv_cells S.kind hkind fun env he s1 x => ?_
  subst he
  refine ⟨lim.keeps x.toInCall.keep, codeAny_func ?_⟩
  obtain ⟨t, ht, hq⟩ := hbody A outer s H vs Q E (hr.deeper _) hsp
  have I : Inv (cxOf CX P w K mg base N qual scope f cdv A outer s H E) [] (start N vs) H s1 := inv_start S hr.hd e0 hl r x
  refine wpAny_mono (ht [] s1 (start N vs) H _ I hq) (fun fl s' hs => ?_) fun e s' hs => hs
  have fin : ∀ {σ' : St} {H' : Hp} {v : V} {u : Value}, Inv (cxOf CX P w K mg base N qual scope f cdv A outer s H E) [] σ' H' s' → RelV v u → Q v H' → CE outer P w H s Q u s' :=
    fun {σ' H' v u} J rv q => ⟨v, H', J.os, J.bare, J.base, J.hok, rv, q⟩
  cases fl with
  | ret u =>
    obtain ⟨v, σ', H', J, rv, q⟩ := hs
    exact fin J rv q
  | next =>
    obtain ⟨σ', H', J, q⟩ := hs
    exact fin (v := V.non) (u := Value.none) J rfl q
  | brk =>
    obtain ⟨_, _, _, q⟩ := hs
    exact False.elim q
  | cont =>
    obtain ⟨_, _, _, q⟩ := hs
    exact False.elim q
end L2

namespace L2
open PySem PySem.Spec PyProof.Rows
section
variable {X : Cx} {x : Str} {p pos : Pos} {e : Expr} {es : List Expr} {t : TA} {id T : String} {r : List V → Hp → VK → Prop}

def tCB (r : List V → Hp → VK → Prop) (t : TA) : TE := fun σ H Q => t σ H fun vs H1 => r vs H1 Q
/-- f(e, ..), f a built-in function -/
theorem pe_callB (hc : CallR X (.builtin id) r) (hg : Gl X x) (hm : X.mg x = none) (hv : bootBuiltins x = some (.builtin id)) (ha : PA X (e :: es) t) (hn : x ≠ "__name__" := by decide) (hdb : (x == ("__debug__" : Str)) = false := by decide)
    (he : starEach (e :: es) X.env = (false, eval e X.env) :: starEach es X.env := by rfl) (hpl : (backTo pos (starEach es X.env)).any (·.1) = false := by rfl) : PE X (.Call (.Name x p) (e :: es) [] pos) (tCB r t) := by
  intro pins s σ H Q I h
  refine wpAny_Call_Name_kw (ld_blt I hg hm hv ?_ hn hdb)
  exact PyProof.Rows.callWith_builtin1 (thn (ha pos pins s σ H _ I h) fun us s1 ⟨vs, H1, I1, r1, q1⟩ => hc pins s1 σ H1 vs us Q I1 r1 q1) he hpl
/-- T(e, ..), T a built-in type -/
theorem pe_callTy (hc : CallR X (.type T) r) (hg : Gl X x) (hm : X.mg x = none) (hv : bootBuiltins x = some (.type T)) (ha : PA X (e :: es) t) (hn : x ≠ "__name__" := by decide) (hdb : (x == ("__debug__" : Str)) = false := by decide)
    (he : starEach (e :: es) X.env = (false, eval e X.env) :: starEach es X.env := by rfl) (hpl : (backTo pos (starEach es X.env)).any (·.1) = false := by rfl) : PE X (.Call (.Name x p) (e :: es) [] pos) (tCB r t) := by
  intro pins s σ H Q I h
  refine wpAny_Call_Name_kw (ld_blt I hg hm hv ?_ hn hdb)
  exact PyProof.Rows.callWith_type1 (thn (ha pos pins s σ H _ I h) fun us s1 ⟨vs, H1, I1, r1, q1⟩ => hc pins s1 σ H1 vs us Q I1 r1 q1) he hpl
/-- T() -/
theorem pe_callTy0 (hc : CallR X (.type T) r) (hg : Gl X x) (hm : X.mg x = none) (hv : bootBuiltins x = some (.type T)) (hn : x ≠ "__name__" := by decide) (hdb : (x == ("__debug__" : Str)) = false := by decide) :
    PE X (.Call (.Name x p) [] [] pos) (tCB r tNil) := by
  intro pins s σ H Q I h
  refine wpAny_Call_Name_kw (ld_blt I hg hm hv ?_ hn hdb)
  exact PyProof.Rows.callWith_type0 (hc pins s σ H [] [] Q I .nil h)
end
end L2

namespace HT
open PySem PyProof.Rows

/-- t < u of tuples of ints -/
def lexLt : List Int → List Int → Bool
  | [], [] => false
  | [], _ :: _ => true
  | _ :: _, [] => false
  | x :: xs, y :: ys => if x = y then lexLt xs ys else decide (x < y)
theorem lexLt_cons (x y : Int) (xs ys : List Int) : lexLt (x :: xs) (y :: ys) = if x = y then lexLt xs ys else decide (x < y) := rfl
theorem lexLt_nil_nil : lexLt [] [] = false := rfl
theorem lexLt_nil_cons (y : Int) (ys : List Int) : lexLt [] (y :: ys) = true := rfl
theorem lexLt_cons_nil (x : Int) (xs : List Int) : lexLt (x :: xs) [] = false := rfl

theorem eqAt_int (A : Around) (s : Shared) (a : Int) (t : Tok) (c : Int) (u : Tok) : ∃ e, SeqAt.EqAt A s (.int a t) (.int c u) e ∧ (e = true ↔ a = c) :=
  ⟨(a == c), SeqAt.EqAt.int_int a t c u, by simp⟩
theorem rcLt_int (A : Around) (s : Shared) (a : Int) (t : Tok) (c : Int) (u : Tok) (prog : Program) (w : World) (E : Value → Shared → Prop) (Q : Value → Shared → Prop) (h : Q (.bool (decide (a < c))) s) :
    wpAny (model prog w) A (richCompare .Lt (.int a t) (.int c u)) Q E s :=
  (PyProof.Rows.lt_int h : wpAny (model prog w) A (compareOp .Lt (.int a t) (.int c u)) Q E s)

section
open PySem.SeqAt
open PySem.AutoSeq1 (wpAny_loadPart')
open PySem.MeetsSeq PySem.MeetsSeq2 PySem.MeetsSeq3

theorem tuple_lt_ints (l b : Addr) (items items2 : Array Value) (n n2 : Nat) (dd dd2 : Option Addr) (sl sl2 : Array (Option Value)) (ns ms : List Int) (hi : IntsAre items.toList ns) (hj : IntsAre items2.toList ms) :
    Meets (Builtin.«tuple.__lt__» ⟨[.ref l, .ref b], []⟩)
      (fun _ R s => s.heap.get? l = some { cls := .type "tuple", dict := dd, data := .seq items n, slots := sl } ∧ s.heap.get? b = some { cls := .type "tuple", dict := dd2, data := .seq items2 n2, slots := sl2 } ∧
        R (.ok (.ret (.bool (lexLt ns ms)))) s) :=
  .of_wp fun prog w A R s h => by
    obtain ⟨hp, g, d, tk, os⟩ := s; obtain ⟨hl, hb, h⟩ := h
    have f2 := AutoSeq1.sub_tuple_tuple
    have z1 : items.size = ns.length := by rw [← hi.length]; simp
    have z2 : items2.size = ms.length := by rw [← hj.length]; simp
    wp_walk using wpAny_loadPart' hl, wpAny_loadPart' hb, wpAny_forIn_list _ (fun rest b s' => b.1 = none ∧ s' = ⟨hp, g, d, tk, os⟩ ∧ ∃ (vs ws : List Value) (ns' ms' : List Int), rest = vs.zip ws ∧
      IntsAre vs ns' ∧ IntsAre ws ms' ∧ ns'.length + items2.size = ms'.length + items.size ∧ R (.ok (.ret (.bool (lexLt ns' ms')))) ⟨hp, g, d, tk, os⟩) _
    case turn =>
      rintro ⟨y, x⟩ rest b s' ⟨hb', rfl, vs, ws, ns', ms', hz, hvi, hwi, hlen, hR⟩
      cases hvi with
      | nil => rw [List.zip_nil_left] at hz; cases hz
      | cons a t hvi' =>
        cases hwi with
        | nil => rw [List.zip_nil_right] at hz; cases hz
        | cons c u hwi' =>
          rw [List.zip_cons_cons] at hz
          injection hz with hyx hrest
          injection hyx with hy hx
          subst hy hx
          rw [lexLt_cons] at hR
          simp only [List.length_cons] at hlen
          obtain ⟨e, he, hiff⟩ := eqAt_int A.in1 ⟨hp, g, d, tk, os⟩ a t c u
          refine wpAny_bind (he prog w _ _ ?_)
          cases e with
          | true =>
            rw [if_pos (hiff.mp rfl)] at hR
            wp_walk
            exact ⟨rfl, rfl, _, _, _, _, hrest, hvi', hwi', by omega, hR⟩
          | false =>
            rw [if_neg (fun q => absurd (hiff.mpr q) Bool.false_ne_true)] at hR
            have hri := rcLt_int A.in1 ⟨hp, g, d, tk, os⟩ a t c u prog w
            wp_walk using hri
            exact ⟨_, rfl, by simpa using hR⟩
    case fin =>
      rintro ⟨b1, b2⟩ s' ⟨hb', rfl, vs, ws, ns', ms', hz, hvi, hwi, hlen, hR⟩
      simp only at hb'
      subst hb'
      have hv : lexLt ns' ms' = decide (items.size < items2.size) := by
        cases hvi with
        | nil =>
          cases hwi with
          | nil =>
            simp only [List.length_nil] at hlen
            rw [lexLt_nil_nil]
            exact (decide_eq_false (by omega)).symm
          | cons c u hw =>
            simp only [List.length_nil, List.length_cons] at hlen
            rw [lexLt_nil_cons]
            exact (decide_eq_true (by omega)).symm
        | cons a t hv =>
          cases hwi with
          | nil =>
            simp only [List.length_nil, List.length_cons] at hlen
            rw [lexLt_cons_nil]
            exact (decide_eq_false (by omega)).symm
          | cons c u hw =>
            rw [List.zip_cons_cons] at hz
            cases hz
      rw [hv] at hR
      wp_walk
      exact ⟨_, rfl, by simpa [Builtin.Tuple.tupleCompareSizes] using hR⟩
    case h =>
      exact ⟨rfl, rfl, items.toList, items2.toList, ns, ms, rfl, hi, hj, by omega, h⟩
end

section
variable {prog : Program} {w : World} {A : Around} {E : Value → Shared → Prop} {s : Shared}

theorem lt_tupInts {l b : Addr} {items items2 : Array Value} {ns ms : List Int} {Q : Value → Shared → Prop} (hl : IsTup s.heap l items) (hb : IsTup s.heap b items2) (hi : IntsAre items.toList ns) (hj : IntsAre items2.toList ms)
    (hu : A.units < cLine) (h : Q (.bool (lexLt ns ms)) s) : wpAny (model prog w) A (compareOp .Lt (.ref l) (.ref b)) Q E s := by
  obtain ⟨⟨cls, dd, data, sl⟩, ho, hc, n, hd⟩ := id hl
  obtain ⟨⟨cls2, dd2, data2, sl2⟩, ho2, hc2, n2, hd2⟩ := id hb
  simp only at hc hd hc2 hd2
  subst hc hd hc2 hd2
  exact richCompare_meets_room (op := .Lt) ⟨_, ho, rfl⟩ ⟨_, ho2, rfl⟩ PySem.F.slot_tuple_lt PySem.F.entry_tuple_lt (PySem.F.args_tuple_lt_2 _ _) (tuple_lt_ints l b items items2 n n2 dd dd2 sl sl2 ns ms hi hj)
    ⟨ho, ho2, show Value.bool (lexLt ns ms) ≠ Value.notImplemented ∧ Q (.bool (lexLt ns ms)) s from ⟨(fun x => nomatch x), h⟩⟩ hu

/-- t + u, t not empty -/
theorem cat_tup {t b : Addr} {vs ws : List Value} {Q : Value → Shared → Prop} (ht : IsTup s.heap t vs.toArray) (hb : IsTup s.heap b ws.toArray) (hv : vs ≠ [])
    (h1 : ws = [] → Q (.ref t) s) (h2 : ws ≠ [] → Q (.ref s.heap.objs.size) { s with heap := s.heap.push { cls := .type "tuple", data := .seq (vs ++ ws).toArray } })
    (hsz : vs.length + ws.length ≤ sizeLine) : wpAny (model prog w) A (binaryOp .Add (.ref t) (.ref b)) Q E s := by
  obtain ⟨⟨cls, dd, data, sl⟩, ho, hc, n, hd⟩ := id ht
  obtain ⟨⟨cls2, dd2, data2, sl2⟩, ho2, hc2, n2, hd2⟩ := id hb
  simp only at hc hd hc2 hd2
  subst hc hd hc2 hd2
  have e : vs.toArray ++ ws.toArray = (vs ++ ws).toArray := by simp
  by_cases hw : ws = []
  · exact concat_meets ⟨_, ho, rfl⟩ ⟨_, ho2, rfl⟩ noFill_tuple_add seq_tuple_add PySem.F.slot_tuple_add PySem.F.entry_tuple_add (PySem.F.args_tuple_add_2 _ _)
      (tuple_addW1 t b vs.toArray ws.toArray n n2 dd dd2 sl sl2 (by simpa using hv) (by simp [hw])) ⟨ho, ho2, h1 hw⟩
  · refine concat_meets ⟨_, ho, rfl⟩ ⟨_, ho2, rfl⟩ noFill_tuple_add seq_tuple_add PySem.F.slot_tuple_add PySem.F.entry_tuple_add (PySem.F.args_tuple_add_2 _ _)
      (tuple_addW2 t b vs.toArray ws.toArray n n2 dd dd2 sl sl2 (by simpa using hv) (by simpa using hw) (by rw [List.size_toArray, List.size_toArray]; exact hsz)) ⟨ho, ho2, ?_⟩
    rw [e]
    exact h2 hw

/-! ### t[a:b], not the whole -/
/-- a slice's bound as a place among n (d where it is left out) -/
def sIx (n d : Nat) : Option Int → Nat
  | none => d
  | some v => if v < 0 then (v + (n : Int)).toNat else min v.toNat n
theorem sIx_none (n d : Nat) : sIx n d none = d := rfl
theorem sIx_nat (n d k : Nat) : sIx n d (some (k : Int)) = min k n := by
  show (if (k : Int) < 0 then ((k : Int) + (n : Int)).toNat else min (k : Int).toNat n) = min k n
  rw [if_neg (by omega), Int.toNat_natCast]
theorem sIx_le (n d : Nat) (hd : d ≤ n) (o : Option Int) : sIx n d o ≤ n := by
  cases o with
  | none => exact hd
  | some v =>
    show (if v < 0 then (v + (n : Int)).toNat else min v.toNat n) ≤ n
    by_cases hv : v < 0
    · rw [if_pos hv]; omega
    · rw [if_neg hv]; exact Nat.min_le_right _ _
theorem clip_eq (v : Int) (n d : Nat) : (if v < 0 then max (v + (n : Int)) 0 else min v (n : Int)) = ((sIx n d (some v) : Nat) : Int) := by
  show (if v < 0 then max (v + (n : Int)) 0 else min v (n : Int)) = (((if v < 0 then (v + (n : Int)).toNat else min v.toNat n) : Nat) : Int)
  by_cases hv : v < 0
  · simp only [if_pos hv]; omega
  · simp only [if_neg hv]; omega
theorem adjust_gen (lo hi : Option Int) (n : Nat) : Builtin.Slice.sliceAdjust lo hi 1 (n : Int) = (((sIx n 0 lo : Nat) : Int), ((sIx n n hi : Nat) : Int)) := by
  have h1 : ¬ ((1 : Int) < 0) := by omega
  unfold Builtin.Slice.sliceAdjust
  simp only [h1, if_false]
  refine Prod.ext ?_ ?_
  · cases lo with
    | none => rfl
    | some v => exact clip_eq v n 0
  · cases hi with
    | none => rfl
    | some v => exact clip_eq v n n
theorem places_gen (i j : Nat) : Builtin.Slice.slicePlaces (i : Int) (j : Int) 1 = j - i := by
  unfold Builtin.Slice.slicePlaces
  have h1 : (1 : Int) > 0 := by omega
  simp only [h1, if_true, Int.ediv_one]
  split <;> omega
theorem slicePart_ {v : Value} {o : Option Int} {Q : Option Int → Shared → Prop} (p : IsPart v o) (h : Q o s) : wpAny (model prog w) A (Builtin.Slice.slicePartIndex v) Q E s := by
  cases p with
  | none => exact slicePart_none h
  | int i t => exact slicePart_int h
theorem sliceApplied_gen {sl : Addr} {vl vu : Value} {lo hi : Option Int} {n : Nat} {Q : Int × Int × Nat → Shared → Prop} (hs : s.heap.IsSliceOf sl vl vu .none) (pl : IsPart vl lo) (pu : IsPart vu hi)
    (h : Q (((sIx n 0 lo : Nat) : Int), 1, sIx n n hi - sIx n 0 lo) s) : wpAny (model prog w) A (Builtin.Slice.sliceApplied (.ref sl) (pure (n : Int))) Q E s := by
  obtain ⟨os, hos, hcs, hds⟩ := id hs
  unfold Builtin.Slice.sliceApplied Builtin.Slice.sliceFields
  refine wpAny_bind (wpAny_bind (wpAny_field hos hds (x := vl) rfl (wpAny_bind (wpAny_field hos hds (x := vu) rfl (wpAny_bind (wpAny_field hos hds (x := .none) rfl (wpAny_pure ?_)))))))
  refine wpAny_bind (slicePart_none ?_)
  show wpAny _ _ (if ((1 : Int) == 0) = true then _ else _) _ _ s
  rw [if_neg (by decide)]
  refine wpAny_bind (slicePart_ pl (wpAny_bind (slicePart_ pu (wpAny_bind (wpAny_pure ?_)))))
  show wpAny _ _ (match Builtin.Slice.sliceAdjust lo hi 1 (n : Int) with | (lo, hi) => pure (lo, (1 : Int), Builtin.Slice.slicePlaces lo hi 1)) _ _ s
  rw [adjust_gen lo hi n]
  show wpAny _ _ (pure (((sIx n 0 lo : Nat) : Int), (1 : Int), Builtin.Slice.slicePlaces ((sIx n 0 lo : Nat) : Int) ((sIx n n hi : Nat) : Int) 1)) _ _ s
  rw [places_gen]
  exact wpAny_pure h
theorem pick_gen (xs : Array Value) (i k : Nat) : ((List.range k).filterMap fun (m : Nat) => xs[((i : Int) + (m : Int) * 1).toNat]?).toArray = ((xs.toList.drop i).take k).toArray := by
  have e : (fun (m : Nat) => xs[((i : Int) + (m : Int) * 1).toNat]?) = fun m => xs[i + m]? := by
    funext m
    have : ((i : Int) + (m : Int) * 1).toNat = i + m := by omega
    rw [this]
  rw [e]
  have := pick_run xs i k
  rw [List.filterMap_map] at this
  have e2 : ((fun x => xs[x]?) ∘ fun x => i + x) = fun m => xs[i + m]? := rfl
  rw [e2] at this
  rw [this]

theorem getItem_tuple_cut {t sl : Addr} {items : Array Value} {vl vu : Value} {lo hi : Option Int} {Q : Value → Shared → Prop} (ht : IsTup s.heap t items) (hs : s.heap.IsSliceOf sl vl vu .none) (pl : IsPart vl lo) (pu : IsPart vu hi)
    (hw : ¬ (sIx items.size 0 lo = 0 ∧ sIx items.size items.size hi = items.size))
    (h : Q (.ref s.heap.objs.size) { s with heap := s.heap.push { cls := .type "tuple", data := .seq ((items.toList.drop (sIx items.size 0 lo)).take (sIx items.size items.size hi - sIx items.size 0 lo)).toArray } })
    (hsz : items.size ≤ sizeLine) : wpAny (model prog w) A (getItem (.ref t) (.ref sl)) Q E s := by
  have htake : sizeOk (.seq ((items.toList.drop (sIx items.size 0 lo)).take (sIx items.size items.size hi - sIx items.size 0 lo)).toArray) := by
    show ((items.toList.drop (sIx items.size 0 lo)).take (sIx items.size items.size hi - sIx items.size 0 lo)).toArray.size ≤ sizeLine
    rw [List.size_toArray, List.length_take, List.length_drop, Array.length_toList]
    omega
  have hj : sIx items.size items.size hi ≤ items.size := sIx_le _ _ (Nat.le_refl _) hi
  obtain ⟨os, hos, hcs, hds⟩ := id hs
  have hTs : s.TypeIs (.ref sl) "slice" := ⟨os, hos, hcs⟩
  unfold getItem
  try with_reducible refine wpAny_holding ?_
  first | refine wpAny_bind (wpAny_pure ?_) | skip
  refine wpAny_bind (wpAny_sequenceKey ht.typeIs (by decide) ?_)
  refine wpAny_bind (wpAny_callSpecial?_slot (name := Str.ofString "__getitem__") ht.typeIs PyProof.Rows.slot_tuple_getitem
    (wpAny_call_entry PyProof.Rows.slot_tuple_getitem ht.typeIs entry_tuple_getitem ?_ (args_tuple_getitem _ _)))
  show wpAny _ _ (Builtin.Tuple.tupleItemsOf (.ref t) >>= _) _ _ s
  refine wpAny_bind (tupleItemsOf_ ht ?_)
  refine wpAny_bind (wpAny_typeOf hTs ?_)
  rw [if_pos (by decide)]
  refine wpAny_bind (sliceApplied_gen hs pl pu ?_)
  have hno : ¬ ((((sIx items.size 0 lo : Nat) : Int) == 0 && (1 : Int) == 1 && (sIx items.size items.size hi - sIx items.size 0 lo) == items.size) = true) := by
    intro q
    rw [Bool.and_eq_true, Bool.and_eq_true] at q
    have q1 : ((sIx items.size 0 lo : Nat) : Int) = 0 := eq_of_beq q.1.1
    have q2 : sIx items.size items.size hi - sIx items.size 0 lo = items.size := eq_of_beq q.2
    exact hw ⟨by omega, by omega⟩
  show wpAny _ _ (if (((sIx items.size 0 lo : Nat) : Int) == 0 && (1 : Int) == 1 && (sIx items.size items.size hi - sIx items.size 0 lo) == items.size) = true then _ else _) _ _ s
  rw [if_neg hno, pick_gen]
  first
    | exact wpAny_bind (m := Builtin.Tuple.tupleExact _) (wpAny_newObj_type (wpAny_pure ⟨_, rfl, wpAny_pure h⟩) htake)
    | exact wpAny_bind (m := Builtin.Tuple.tupleExact _) (wpAny_newObj_type (wpAny_bind (wpAny_pure (wpAny_pure ⟨_, rfl, wpAny_pure h⟩))) htake)
    | exact wpAny_bind (wpAny_bind (m := Builtin.Tuple.tupleExact _) (wpAny_newObj_type (wpAny_pure (wpAny_pure ⟨_, rfl, wpAny_pure h⟩)) htake))
    | exact wpAny_bind (wpAny_bind (m := Builtin.Tuple.tupleExact _) (wpAny_newObj_type (wpAny_pure ⟨_, rfl, wpAny_pure h⟩) htake))
end
end HT

namespace L2
open PySem PySem.Spec PyProof.Rows

/-! ### the parts of a slice -/
abbrev TO := St → Hp → (Option Int → Hp → Prop) → Prop
/-- a slice's part (left out, or an int) -/
def PO (X : Cx) (e : Option Expr) (t : TO) : Prop :=
  ∀ (pins : List (Addr × Obj)) (s : Shared) (σ : St) (H : Hp) (Q : Option Int → Hp → Prop), Inv X pins σ H s → t σ H Q →
    wpAny (model X.prog X.w) X.A (evalPart e X.env) (fun u s' => ∃ o H', Inv X pins σ H' s' ∧ IsPart u o ∧ Q o H') X.xe s
def tNoPart : TO := fun _ H Q => Q none H
def tPart (t : TE) : TO := fun σ H Q => t σ H fun x H1 => ∃ i, x = .int i ∧ Q (some i) H1

theorem intsAre_of {ns : List Int} : ∀ {us : List Value}, Vals (ns.map V.int) us → IntsAre us ns := by
  induction ns with
  | nil => intro us r; rw [List.map_nil] at r; cases r; exact .nil
  | cons n ns ih =>
    intro us r
    rw [List.map_cons] at r
    cases r with
    | cons r1 r2 =>
      obtain ⟨t, e⟩ := r1
      subst e
      exact .cons n t (ih r2)

section
variable {X : Cx} {e : Expr} {te : TE} {lo hi : Option Expr} {tl th : TO} {pos p2 : Pos}

theorem po_none : PO X none tNoPart := by
  intro pins s σ H Q I h
  rw [evalPart_none]
  exact wpAny_pure ⟨none, H, I, .none, h⟩
theorem po_some (h : PE X e te) : PO X (some e) (tPart te) := by
  intro pins s σ H Q I hw
  rw [evalPart_some]
  refine thn (h pins s σ H _ I hw) fun u s1 ⟨x, H1, I1, r1, q1⟩ => ?_
  obtain ⟨i, rfl, q⟩ := q1
  obtain ⟨t, rfl⟩ := r1
  exact ⟨some i, H1, I1, .int i t, q⟩

/-- what a slice of a value is, by values: the slice object stands at sl -/
def SlR (X : Cx) (r : V → Option Int → Option Int → Hp → VK → Prop) : Prop :=
  ∀ (pins : List (Addr × Obj)) (s : Shared) (σ : St) (H : Hp) (x : V) (v vl vu : Value) (lo hi : Option Int) (sl : Addr) (Q : VK), Inv X pins σ H s → RelV x v → s.heap.IsSliceOf sl vl vu .none → IsPart vl lo → IsPart vu hi → r x lo hi H Q →
    ∃ T id, typeLookup (.type T) "__getitem__" = pure (some (.builtin id)) ∧ s.TypeIs v T ∧ wpAny (model X.prog X.w) X.A (getItem v (.ref sl)) (EP X pins σ Q) X.xe s
theorem SlR.or {r r' : V → Option Int → Option Int → Hp → VK → Prop} (h : SlR X r) (h' : SlR X r') : SlR X (fun x lo hi H Q => r x lo hi H Q ∨ r' x lo hi H Q) := by
  intro pins s σ H x v vl vu lo hi sl Q I rx hs pl pu q
  rcases q with q | q
  · exact h pins s σ H x v vl vu lo hi sl Q I rx hs pl pu q
  · exact h' pins s σ H x v vl vu lo hi sl Q I rx hs pl pu q
def tSl (r : V → Option Int → Option Int → Hp → VK → Prop) (te : TE) (tl th : TO) : TE := fun σ H Q => te σ H fun x H1 => tl σ H1 fun l H2 => th σ H2 fun u H3 => r x l u H3 Q
/-- a[lo:hi], any a -/
theorem pe_slice {r : V → Option Int → Option Int → Hp → VK → Prop} (hr : SlR X r) (he : PE X e te) (hl : PO X lo tl) (hu : PO X hi th) : PE X (.Subscript e (.Slice lo hi none p2) pos) (tSl r te tl th) := by
  intro pins s σ H Q I h
  refine Subscript_ (thn (he pins s σ H _ I h) fun v s1 ⟨x, H1, I1, r1, q1⟩ => ?_)
  refine wpAny_Slice (thn (hl pins s1 σ H1 _ I1 q1) fun vl s2 ⟨l, H2, I2, pl, q2⟩ => thn (hu pins s2 σ H2 _ I2 q2) fun vu s3 ⟨u, H3, I3, pu, q3⟩ => ?_)
  rw [evalPart_none]
  refine wpAny_pure ?_
  have I4 : Inv X pins σ H3 { s3 with heap := s3.heap.push { cls := .type "slice", data := .fields #[vl, vu, .none] } } := I3.kept (t' := s3.toks) fun b ob q => Heap.get?_push_of_some _ q
  obtain ⟨T, id, hT, ht, hg⟩ := hr pins { s3 with heap := s3.heap.push { cls := .type "slice", data := .fields #[vl, vu, .none] } } σ H3 x v vl vu l u s3.heap.objs.size Q I4 r1 (Heap.IsSliceOf.new ..) pl pu q3
  show wpAny (model X.prog X.w) X.A (subscriptTail e (.Slice lo hi none p2) v (.ref s3.heap.objs.size)) (EP X pins σ Q) X.xe { s3 with heap := s3.heap.push { cls := .type "slice", data := .fields #[vl, vu, .none] } }
  exact tail_any (ops := [.ref s3.heap.objs.size, v]) ht hT hg (by with_unfolding_all rfl)

/-- the items of xs[lo:hi] -/
def cutV (xs : List V) (lo hi : Option Int) : List V := (xs.drop (HT.sIx xs.length 0 lo)).take (HT.sIx xs.length xs.length hi - HT.sIx xs.length 0 lo)
theorem cutV_length (xs : List V) (lo hi : Option Int) : (cutV xs lo hi).length ≤ xs.length := by
  unfold cutV
  rw [List.length_take, List.length_drop]
  omega
/-- t[lo:hi], not the whole of it (the whole would be t itself) -/
def rSlT (K : PySem.W.Frag) : V → Option Int → Option Int → Hp → VK → Prop := fun x lo hi H Q => ∃ a xs, x = .ref a ∧ SqT K H a xs ∧
  ¬ (HT.sIx xs.length 0 lo = 0 ∧ HT.sIx xs.length xs.length hi = xs.length) ∧ ∀ p, H p = none → Q (.ref p) (upd H p (.tup (cutV xs lo hi)))
theorem sl_tup : SlR X (rSlT X.K) := by
  intro pins s σ H x v vl vu lo hi sl Q I rx hs pl pu h
  obtain ⟨a, xs, rfl, hx, hw, q⟩ := h
  cases rx
  obtain ⟨its, r, ht, hz⟩ := I.tuple hx
  have hlen : its.toArray.size = xs.length := by rw [List.size_toArray]; exact r.length.symm
  refine ⟨"tuple", _, PyProof.Rows.slot_tuple_getitem.lookup, ht.typeIs, ?_⟩
  refine HT.getItem_tuple_cut ht hs pl pu (by rw [hlen]; exact hw) ?_ (by rw [hlen]; exact hz)
  rw [hlen]
  refine ⟨.ref s.heap.objs.size, _, I.laid (t' := s.toks) (o := .tup (cutV xs lo hi)) (fun b ob q => Heap.get?_push_of_some _ q) (Nat.le_refl _) ?_, rfl, q _ (I.hok.fresh (Nat.le_refl _))⟩
  exact ⟨Nat.le_trans (cutV_length xs lo hi) hz, _, (r.drop (HT.sIx xs.length 0 lo)).take (HT.sIx xs.length xs.length hi - HT.sIx xs.length 0 lo), IsTup.new _ _⟩

/-! ### t < u, t + u -/
def rLtT (K : PySem.W.Frag) : R2 := fun x y H Q => ∃ a b ns ms, x = .ref a ∧ y = .ref b ∧ SqT K H a (ns.map V.int) ∧ SqT K H b (ms.map V.int) ∧ Q (.bl (HT.lexLt ns ms)) H
theorem op_ltT (hu : X.A.units < cLine) : OpR X (compareOp .Lt) (rLtT X.K) := by
  intro pins s σ H x y v u Q I rx ry h
  obtain ⟨a, b, ns, ms, rfl, rfl, ha, hb, q⟩ := h
  cases rx
  cases ry
  obtain ⟨its, r1, p1, _⟩ := I.tuple ha
  obtain ⟨its2, r2, p2, _⟩ := I.tuple hb
  have i1 : IntsAre its.toArray.toList ns := intsAre_of r1
  have i2 : IntsAre its2.toArray.toList ms := intsAre_of r2
  exact HT.lt_tupInts p1 p2 i1 i2 hu ⟨.bl (HT.lexLt ns ms), H, I, rfl, q⟩
/-- t + u, t not empty: u empty gives t itself -/
def rCatT (K : PySem.W.Frag) : R2 := fun x y H Q => ∃ a b xs ys, x = .ref a ∧ y = .ref b ∧ SqT K H a xs ∧ SqT K H b ys ∧ xs ≠ [] ∧ xs.length + ys.length ≤ sizeLine ∧
  (ys = [] → Q (.ref a) H) ∧ (ys ≠ [] → ∀ p, H p = none → Q (.ref p) (upd H p (.tup (xs ++ ys))))
theorem Vals.nil_iff {xs : List V} {us : List Value} (r : Vals xs us) : us = [] ↔ xs = [] := by
  cases r with
  | nil => simp
  | cons _ _ => simp
theorem op_catT : OpR X (binaryOp .Add) (rCatT X.K) := by
  intro pins s σ H x y v u Q I rx ry h
  obtain ⟨a, b, xs, ys, rfl, rfl, ha, hb, hx, hz, q1, q2⟩ := h
  cases rx
  cases ry
  obtain ⟨its, r1, p1, _⟩ := I.tuple ha
  obtain ⟨its2, r2, p2, _⟩ := I.tuple hb
  refine HT.cat_tup p1 p2 (fun z => hx (r1.nil_iff.mp z)) (fun z => ⟨.ref a, H, I, rfl, q1 (r2.nil_iff.mp z)⟩) (fun z => ?_) (by rw [← r1.length, ← r2.length]; exact hz)
  refine ⟨.ref s.heap.objs.size, _, I.laid (t' := s.toks) (o := .tup (xs ++ ys)) (fun b ob q => Heap.get?_push_of_some _ q) (Nat.le_refl _) ?_, rfl, q2 (fun w => z (r2.nil_iff.mpr w)) _ (I.hok.fresh (Nat.le_refl _))⟩
  exact ⟨by rw [List.length_append]; exact hz, _, r1.append r2, IsTup.new _ _⟩
/-- tuple(t) -/
theorem call_tupleT : CallR X (.type "tuple") (fun xs H Q => ∃ a ys, xs = [.ref a] ∧ SqT X.K H a ys ∧ Q (.ref a) H) := by
  intro pins s σ H xs us Q I r h
  obtain ⟨a, ys, rfl, ha, q⟩ := h
  obtain ⟨u, rfl, ru⟩ := vals1 r
  cases ru
  obtain ⟨its, _, p1, _⟩ := I.tuple ha
  exact call_tuple_same (items := its.toArray) p1 ⟨.ref a, H, I, rfl, q⟩
end
end L2

namespace L2
open PySem PySem.Spec PyProof.Rows

/-! ### places -/
/-- the place that an index of any sign means -/
def ixN (n : Nat) (i : Int) : Option Nat := if 0 ≤ i then (if i < n then some i.toNat else none) else if -(n : Int) ≤ i then some (i + n).toNat else none
def atI {α : Type} (xs : List α) (i : Int) : Option α := (ixN xs.length i).bind fun j => xs[j]?
theorem ixN_seq {n : Nat} {i : Int} {j : Nat} (h : ixN n i = some j) : seqIndex? i n = some j ∧ j < n ∧ -(n : Int) ≤ i ∧ i < n := by
  unfold ixN at h
  by_cases h0 : 0 ≤ i
  · rw [if_pos h0] at h
    by_cases h1 : i < n
    · rw [if_pos h1] at h
      have e : i.toNat = j := Option.some.inj h
      exact ⟨by rw [seqIndex_of h0 h1, e], by omega, by omega, h1⟩
    · rw [if_neg h1] at h; cases h
  · rw [if_neg h0] at h
    by_cases h1 : -(n : Int) ≤ i
    · rw [if_pos h1] at h
      have e : (i + n).toNat = j := Option.some.inj h
      exact ⟨by rw [seqIndex_neg (by omega) h1, e], by omega, h1, by omega⟩
    · rw [if_neg h1] at h; cases h
theorem atI_get {α : Type} {xs : List α} {i : Int} {v : α} (h : atI xs i = some v) : ∃ j, seqIndex? i xs.length = some j ∧ xs[j]? = some v ∧ j < xs.length ∧ -(xs.length : Int) ≤ i ∧ i < xs.length := by
  unfold atI at h
  cases e : ixN xs.length i with
  | none => rw [e] at h; cases h
  | some j =>
    rw [e] at h
    obtain ⟨h1, h2, h3, h4⟩ := ixN_seq e
    exact ⟨j, h1, h, h2, h3, h4⟩
theorem atI_nat {α : Type} {xs : List α} {j : Nat} {v : α} (h : xs[j]? = some v) : atI xs (j : Int) = some v := by
  have hj : j < xs.length := (List.getElem?_eq_some_iff.mp h).1
  have e : ixN xs.length (j : Int) = some j := by
    unfold ixN
    rw [if_pos (by omega), if_pos (by omega)]; simp
  unfold atI; rw [e]; exact h
theorem atI_last {α : Type} (xs : List α) (v : α) : atI (xs ++ [v]) (-1) = some v := by
  have hl : (xs ++ [v]).length = xs.length + 1 := by simp
  have e : ixN (xs ++ [v]).length (-1) = some xs.length := by
    unfold ixN
    rw [hl, if_neg (by decide), if_pos (by omega)]
    congr 1
    omega
  unfold atI
  rw [e]
  show (xs ++ [v])[xs.length]? = some v
  simp

/-! ### what may be subscripted -/
/-- what stands as an index of a plain subscript -/
def PlainIx (b : Expr) : Prop := ∀ o i, subscripted b false o i = operate [o, i] (getItem o i)
/-- a subscript by values -/
def IxR (X : Cx) (r : R2) : Prop :=
  ∀ (value slice : Expr) (pins : List (Addr × Obj)) (s : Shared) (σ : St) (H : Hp) (x y : V) (v u : Value) (Q : VK), Inv X pins σ H s → RelV x v → RelV y u → r x y H Q →
    subscripted slice false v u = operate [v, u] (getItem v u) → wpAny (model X.prog X.w) X.A (subscriptTail value slice v u) (EP X pins σ Q) X.xe s
/-- a call of a builtin's method by values: the receiver, the arguments -/
def MtR (X : Cx) (id : String) (r : V → List V → Hp → VK → Prop) : Prop :=
  ∀ (pins : List (Addr × Obj)) (s : Shared) (σ : St) (H : Hp) (x : V) (xs : List V) (v : Value) (us : List Value) (Q : VK), Inv X pins σ H s → RelV x v → Vals xs us → r x xs H Q →
    wpAny (model X.prog X.w) X.A (call (.builtin id) (v :: us)) (EP X pins σ Q) X.xe s
section
variable {X : Cx} {a b : Expr} {ta tb : TE} {pos : Pos}
theorem IxR.or {r r' : R2} (h : IxR X r) (h' : IxR X r') : IxR X (fun x y H Q => r x y H Q ∨ r' x y H Q) := by
  intro value slice pins s σ H x y v u Q I rx ry q hs
  rcases q with q | q
  · exact h value slice pins s σ H x y v u Q I rx ry q hs
  · exact h' value slice pins s σ H x y v u Q I rx ry q hs
theorem MtR.or {id : String} {r r' : V → List V → Hp → VK → Prop} (h : MtR X id r) (h' : MtR X id r') : MtR X id (fun x xs H Q => r x xs H Q ∨ r' x xs H Q) := by
  intro pins s σ H x xs v us Q I rx rs q
  rcases q with q | q
  · exact h pins s σ H x xs v us Q I rx rs q
  · exact h' pins s σ H x xs v us Q I rx rs q
/-- a[b] -/
theorem pe_ix {r : R2} (hr : IxR X r) (ha : PE X a ta) (hb : PE X b tb) (hs : PlainIx b) : PE X (.Subscript a b pos) (tOp r ta tb) := by
  intro pins s σ H Q I h
  exact Subscript_ (binT ha hb I h fun v u s2 x y H2 I2 rx ry q => hr a b pins s2 σ H2 x y v u Q I2 rx ry q (hs _ _))

def rIxL (K : PySem.W.Frag) : R2 := fun x y H Q => ∃ p xs i v, x = .ref p ∧ y = .int i ∧ SqL K H p xs ∧ atI xs i = some v ∧ Q v H
def rIxT (K : PySem.W.Frag) : R2 := fun x y H Q => ∃ p xs i v, x = .ref p ∧ y = .int i ∧ SqT K H p xs ∧ atI xs i = some v ∧ Q v H
def rIxS : R2 := fun x y H Q => ∃ z i c, x = .str z ∧ y = .int i ∧ z.length ≤ sizeLine ∧ atI z.cps.toList i = some c ∧ Q (.str ⟨#[c]⟩) H
theorem ix_list : IxR X (rIxL X.K) := by
  intro value slice pins s σ H x y v u Q I rx ry h hs
  obtain ⟨p, xs, i, z, rfl, rfl, hq, he, q⟩ := h
  cases rx
  obtain ⟨t, rfl⟩ := ry
  obtain ⟨its, r, pl, hz⟩ := I.list hq
  obtain ⟨j, h1, h2, h3, h4, h5⟩ := atI_get he
  obtain ⟨w, ew, rw'⟩ := r.get h2
  have hl := r.length
  have hn := line63
  have fin : EP X pins σ Q w s := ⟨z, H, I, rw', q⟩
  by_cases h0 : 0 ≤ i
  · have hj : i.toNat = j := by
      rw [seqIndex_of h0 h5] at h1
      exact Option.some.inj h1
    exact item_listR pl.isList h0 (by omega) (by rw [hj]; simpa using ew) fin hs
  · have hj : (i + (its.toArray.size : Int)).toNat = j := by
      rw [seqIndex_neg (by omega) h4] at h1
      rw [List.size_toArray, ← hl]
      exact Option.some.inj h1
    exact subscriptTail_builtinR (x := w) pl.isList.typeIs slot_list_getitem.lookup
      (wpAny_getItem_list_neg (Q := fun r s' => r = w ∧ EP X pins σ Q r s') pl.isList (by omega) (by rw [List.size_toArray] <;> omega) (by omega) (by rw [hj]; simpa using ew) ⟨rfl, fin⟩) hs
theorem ix_tup : IxR X (rIxT X.K) := by
  intro value slice pins s σ H x y v u Q I rx ry h hs
  obtain ⟨p, xs, i, z, rfl, rfl, hq, he, q⟩ := h
  cases rx
  obtain ⟨t, rfl⟩ := ry
  obtain ⟨its, r, pl, hz⟩ := I.tuple hq
  obtain ⟨j, h1, h2, h3, h4, h5⟩ := atI_get he
  obtain ⟨w, ew, rw'⟩ := r.get h2
  have hl := r.length
  have hn := line63
  have fin : EP X pins σ Q w s := ⟨z, H, I, rw', q⟩
  exact subscriptTail_builtinR (x := w) pl.typeIs slot_tuple_getitem.lookup
    (getItem_tuple (j := j) (Q := fun r s' => r = w ∧ EP X pins σ Q r s') pl (by omega) (by omega) (by rw [List.size_toArray, ← hl]; exact h1) (by simpa using ew) ⟨rfl, fin⟩) hs
theorem ix_str : IxR X rIxS := by
  intro value slice pins s σ H x y v u Q I rx ry h hs
  obtain ⟨z, i, c, rfl, rfl, hz, he, q⟩ := h
  obtain ⟨t, rfl⟩ := rx
  obtain ⟨t', rfl⟩ := ry
  obtain ⟨j, h1, h2, h3, h4, h5⟩ := atI_get he
  have hl : z.cps.toList.length = z.length := by simp [Str.length]
  rw [hl] at h1 h4 h5
  have hn := line63
  exact tail_any (typeIs_str s z t) slot_str_getitem.lookup (getItem_str (c := c) (by
    have e1 : decide (i < -(2 ^ 63 : Int)) = false := decide_eq_false (by omega)
    have e2 : decide (i ≥ 2 ^ 63) = false := decide_eq_false (by omega)
    rw [e1, e2, Bool.or_false]) (by rw [h1]; simpa using h2) ⟨.str ⟨#[c]⟩, H, I.tok _, ⟨_, rfl⟩, q⟩) hs
/-- list, tuple or str -/
def rIx (K : PySem.W.Frag) : R2 := fun x y H Q => rIxL K x y H Q ∨ rIxT K x y H Q ∨ rIxS x y H Q
theorem ix_seq : IxR X (rIx X.K) := ix_list.or (ix_tup.or ix_str)

/-! ### xs[i] = v, any sign -/
/-- the list's object behind a store -/
theorem mapSeq_set (its : List Value) (n j : Nat) (u : Value) : Obj.mapSeq (·.setIfInBounds j u) { cls := .type "list", data := .seq its.toArray n } = { cls := .type "list", data := .seq (its.set j u).toArray n } := by
  simp [Obj.mapSeq]
theorem Inv.lst {pins : List (Addr × Obj)} {σ : St} {H : Hp} {s : Shared} {p : Addr} {xs : List V} (I : Inv X pins σ H s) (h : H p = some (.lst xs)) :
    ∃ (its : List Value) (n : Nat), Vals xs its ∧ s.heap.get? p = some { cls := .type "list", data := .seq its.toArray n } ∧ xs.length ≤ sizeLine := by
  obtain ⟨z, its, n, r, e⟩ := I.hok p _ h
  exact ⟨its, n, r, e, z⟩
/-- the list at p is written by an update of its object -/
theorem Inv.lstUpd {pins : List (Addr × Obj)} {σ : St} {H : Hp} {s : Shared} {p : Addr} {xs ys : List V} {its its' : List Value} {n n' : Nat} {f : Obj → Obj} (I : Inv X pins σ H s) (h : H p = some (.lst xs))
    (ho : s.heap.get? p = some { cls := .type "list", data := .seq its.toArray n }) (hf : f { cls := .type "list", data := .seq its.toArray n } = { cls := .type "list", data := .seq its'.toArray n' }) (r : Vals ys its') (hz : ys.length ≤ sizeLine) (t : Nat) :
    Inv X pins σ (upd H p (.lst ys)) { s with heap := s.heap.update p f, toks := t } := by
  have e : (s.heap.update p f).get? p = some { cls := .type "list", data := .seq its'.toArray n' } := by
    rw [Heap.get?_update_self f ho (by rw [hf] <;> rfl), hf]
  refine I.write (x := p) (e := p) (by rw [h]; trivial) (.inl rfl) (fun b u hb q => (Heap.get?_update_other _ _ (Ne.symm hb)).trans q) ⟨_, e⟩ ?_
  exact ⟨hz, its', n', r, e⟩
def rSetL : V → V → V → Hp → (Hp → Prop) → Prop := fun o i v H Q => ∃ p xs k j, o = .ref p ∧ i = .int k ∧ H p = some (.lst xs) ∧ ixN xs.length k = some j ∧ Q (upd H p (.lst (xs.set j v)))
theorem set_list : PSet X rSetL := by
  intro pins s σ H o i v ov iv u Q I ro ri rv h
  obtain ⟨p, xs, k, j, rfl, rfl, hp, hj, q⟩ := h
  cases ro
  obtain ⟨t, rfl⟩ := ri
  obtain ⟨its, n, r, ho, hz⟩ := I.lst hp
  obtain ⟨h1, h2, h3, h4⟩ := ixN_seq hj
  have hl := r.length
  have hn := line63
  have I' : Inv X pins σ (upd H p (.lst (xs.set j v))) { s with heap := s.heap.update p (Obj.mapSeq (·.setIfInBounds j u)) } :=
    I.lstUpd hp ho (mapSeq_set its n j u) (r.set rv j) (by rw [List.length_set]; exact hz) s.toks
  by_cases h0 : 0 ≤ k
  · have hk : k.toNat = j := by
      rw [seqIndex_of h0 h4] at h1
      exact Option.some.inj h1
    exact PySem.W.ki_setAt ho h0 (by omega) (by rw [List.size_toArray, ← hl]; exact h4) (by rw [hk]; exact ⟨_, I', q⟩)
  · have hk : (k + (its.toArray.size : Int)).toNat = j := by
      rw [seqIndex_neg (by omega) h3] at h1
      rw [List.size_toArray, ← hl]
      exact Option.some.inj h1
    exact PySem.W.ki_setBack ho (by omega) (by rw [List.size_toArray, ← hl]; exact h3) (by omega) (by rw [hk]; exact ⟨_, I', q⟩)

/-! ### slices -/
theorem slice_bounds (lo hi : Option Int) (n : Nat) : (sliceBounds lo hi none n).1 = ((HT.sIx n 0 lo : Nat) : Int) ∧ (sliceBounds lo hi none n).2.1 = ((HT.sIx n n hi : Nat) : Int) ∧ (sliceBounds lo hi none n).2.2 = 1 := by
  refine ⟨?_, ?_, rfl⟩
  · cases lo with
    | none => simp [sliceBounds, HT.sIx]
    | some i =>
      simp only [sliceBounds, HT.sIx, Option.getD_none, show (1 : Int) > 0 by decide, if_true]
      by_cases h : i < 0
      · simp only [h, if_true] <;> omega
      · simp only [h, if_false] <;> omega
  · cases hi with
    | none => simp [sliceBounds, HT.sIx]
    | some i =>
      simp only [sliceBounds, HT.sIx, Option.getD_none, show (1 : Int) > 0 by decide, if_true]
      by_cases h : i < 0
      · simp only [h, if_true] <;> omega
      · simp only [h, if_false] <;> omega
theorem slicePick_cut (its : List Value) (lo hi : Option Int) : slicePick its.toArray lo hi none = ((its.drop (HT.sIx its.length 0 lo)).take (HT.sIx its.length its.length hi - HT.sIx its.length 0 lo)).toArray := by
  obtain ⟨h1, h2, h3⟩ := slice_bounds lo hi its.toArray.size
  unfold slicePick
  rw [h1, h2, h3]
  simp only [sliceRange_one, pick_run, List.size_toArray] <;> rfl
/-- xs[lo:hi] of a list: a new list -/
def rSlL (K : PySem.W.Frag) : V → Option Int → Option Int → Hp → VK → Prop := fun x lo hi H Q => ∃ a xs, x = .ref a ∧ SqL K H a xs ∧ ∀ p, H p = none → Q (.ref p) (upd H p (.lst (cutV xs lo hi)))
theorem sl_list : SlR X (rSlL X.K) := by
  intro pins s σ H x v vl vu lo hi sl Q I rx hs pl pu h
  obtain ⟨a, xs, rfl, hx, q⟩ := h
  cases rx
  obtain ⟨its, r, ht, hz⟩ := I.list hx
  have hlen := r.length
  refine ⟨"list", _, slot_list_getitem.lookup, ht.isList.typeIs, ?_⟩
  refine wpAny_getItem_list_slice ht.isList hs pl pu .none (by simp) ?_ (by rw [List.size_toArray] <;> omega)
  rw [slicePick_cut, ← hlen]
  refine ⟨.ref s.heap.objs.size, _, I.laid (t' := s.toks) (o := .lst (cutV xs lo hi)) (fun b ob q => Heap.get?_push_of_some _ q) (Nat.le_refl _) ?_, rfl, q _ (I.hok.fresh (Nat.le_refl _))⟩
  exact ⟨Nat.le_trans (cutV_length xs lo hi) hz, _, 0, (r.drop (HT.sIx xs.length 0 lo)).take (HT.sIx xs.length xs.length hi - HT.sIx xs.length 0 lo), Heap.get?_push_size _ rfl⟩

/-! ### in, not in: flat items -/
def flatV : V → Bool
  | .non => true
  | .bl _ => true
  | .int _ => true
  | .str _ => true
  | _ => false
/-- == of flat values -/
def eqV : V → V → Bool
  | .non, .non => true
  | .bl a, .bl b => a == b
  | .bl a, .int b => (if a then 1 else 0) == b
  | .int a, .bl b => a == (if b then 1 else 0)
  | .int a, .int b => a == b
  | .str a, .str b => a == b
  | _, _ => false
theorem eqAt_V {A : Around} {s : Shared} {y x : V} {u v : Value} (ry : RelV y u) (rx : RelV x v) (fy : flatV y = true) (fx : flatV x = true) : SeqAt.EqAt A s u v (eqV y x) := by
  cases y with
  | non =>
    cases ry
    cases x with
    | non => cases rx; exact SeqAt.EqAt.same _
    | bl b => cases rx; exact SeqAt.EqAt.none_bool b
    | int b => obtain ⟨t, rfl⟩ := rx; exact SeqAt.EqAt.none_int b t
    | str b => obtain ⟨t, rfl⟩ := rx; exact SeqAt.EqAt.none_str b t
    | _ => exact absurd (show false = true from fx) Bool.false_ne_true
  | bl a =>
    cases ry
    cases x with
    | non => cases rx; exact SeqAt.EqAt.bool_none a
    | bl b => cases rx; exact SeqAt.EqAt.bool_bool a b
    | int b => obtain ⟨t, rfl⟩ := rx; exact SeqAt.EqAt.bool_int a b t
    | str b => obtain ⟨t, rfl⟩ := rx; exact SeqAt.EqAt.bool_str a b t
    | _ => exact absurd (show false = true from fx) Bool.false_ne_true
  | int a =>
    obtain ⟨t', rfl⟩ := ry
    cases x with
    | non => cases rx; exact SeqAt.EqAt.int_none a t'
    | bl b => cases rx; exact SeqAt.EqAt.int_bool a t' b
    | int b => obtain ⟨t, rfl⟩ := rx; exact SeqAt.EqAt.int_int a t' b t
    | str b => obtain ⟨t, rfl⟩ := rx; exact SeqAt.EqAt.int_str a t' b t
    | _ => exact absurd (show false = true from fx) Bool.false_ne_true
  | str a =>
    obtain ⟨t', rfl⟩ := ry
    cases x with
    | non => cases rx; exact SeqAt.EqAt.str_none a t'
    | bl b => cases rx; exact SeqAt.EqAt.str_bool a t' b
    | int b => obtain ⟨t, rfl⟩ := rx; exact SeqAt.EqAt.str_int a t' b t
    | str b => obtain ⟨t, rfl⟩ := rx; exact SeqAt.EqAt.str_str a t' b t
    | _ => exact absurd (show false = true from fx) Bool.false_ne_true
  | _ => exact absurd (show false = true from fy) Bool.false_ne_true
/-- the items' answers, read off the values (a value's own answer does not lean on its token) -/
def eqU (x : V) (u : Value) : Bool := match u with
  | .none => eqV .non x
  | .bool b => eqV (.bl b) x
  | .int i _ => eqV (.int i) x
  | .str z _ => eqV (.str z) x
  | _ => false
theorem eqU_of {x y : V} {u : Value} (r : RelV y u) (f : flatV y = true) : eqU x u = eqV y x := by
  cases y with
  | non => cases r; rfl
  | bl b => cases r; rfl
  | int i => obtain ⟨t, rfl⟩ := r; rfl
  | str z => obtain ⟨t, rfl⟩ := r; rfl
  | _ => exact absurd (show false = true from f) Bool.false_ne_true
theorem any_eqU {x : V} : ∀ {xs : List V} {us : List Value}, Vals xs us → xs.all flatV = true → us.any (eqU x) = xs.any fun y => eqV y x
  | _, _, .nil, _ => rfl
  | y :: xs, u :: us, .cons r t, f => by
    rw [List.all_cons, Bool.and_eq_true] at f
    rw [List.any_cons, List.any_cons, eqU_of r f.1, any_eqU t f.2]
theorem mem_eqAt {A : Around} {s : Shared} {x : V} {v : Value} (rx : RelV x v) (fx : flatV x = true) : ∀ {xs : List V} {us : List Value}, Vals xs us → xs.all flatV = true → ∀ u ∈ us, SeqAt.EqAt A s u v (eqU x u)
  | _, _, .nil, _ => fun u hu => by cases hu
  | y :: xs, u :: us, .cons r t, f => fun u' hu => by
    rw [List.all_cons, Bool.and_eq_true] at f
    rcases List.mem_cons.mp hu with rfl | hu
    · rw [eqU_of r f.1]; exact eqAt_V r rx f.1 fx
    · exact mem_eqAt rx fx t f.2 u' hu
def inV (x : V) (xs : List V) : Bool := xs.any fun y => eqV y x
/-- x in a list or tuple of flat items -/
def rIn (K : PySem.W.Frag) (neg : Bool) : R2 := fun x y H Q => ∃ p xs, y = .ref p ∧ (SqL K H p xs ∨ SqT K H p xs) ∧ flatV x = true ∧ xs.all flatV = true ∧ Q (.bl (if neg then !inV x xs else inV x xs)) H
theorem op_in_seq : OpR X (compareOp .In) (rIn X.K false) := by
  intro pins s σ H x y v u Q I rx ry h
  obtain ⟨p, xs, rfl, hq, fx, fs, q⟩ := h
  cases ry
  rcases hq with hq | hq
  · obtain ⟨its, r, pl, hz⟩ := I.list hq
    refine SeqAt.in_listAt (eqU x) pl.isList (fun w hw => mem_eqAt rx fx r fs w (by simpa using hw)) ⟨.bl _, H, I, rfl, ?_⟩
    rw [show its.toArray.any (eqU x) = its.any (eqU x) by simp, any_eqU r fs]
    exact q
  · obtain ⟨its, r, pl, hz⟩ := I.tuple hq
    refine SeqAt.in_tupleAt (eqU x) pl (fun w hw => mem_eqAt rx fx r fs w (by simpa using hw)) ⟨.bl _, H, I, rfl, ?_⟩
    rw [show its.toArray.any (eqU x) = its.any (eqU x) by simp, any_eqU r fs]
    exact q
theorem op_notIn_seq : OpR X (compareOp .NotIn) (rIn X.K true) := by
  intro pins s σ H x y v u Q I rx ry h
  obtain ⟨p, xs, rfl, hq, fx, fs, q⟩ := h
  cases ry
  rcases hq with hq | hq
  · obtain ⟨its, r, pl, hz⟩ := I.list hq
    refine SeqAt.notIn_listAt (eqU x) pl.isList (fun w hw => mem_eqAt rx fx r fs w (by simpa using hw)) ⟨.bl _, H, I, rfl, ?_⟩
    rw [show its.toArray.any (eqU x) = its.any (eqU x) by simp, any_eqU r fs]
    exact q
  · obtain ⟨its, r, pl, hz⟩ := I.tuple hq
    refine SeqAt.notIn_tupleAt (eqU x) pl (fun w hw => mem_eqAt rx fx r fs w (by simpa using hw)) ⟨.bl _, H, I, rfl, ?_⟩
    rw [show its.toArray.any (eqU x) = its.any (eqU x) by simp, any_eqU r fs]
    exact q
theorem op_notIn_str : OpR X (compareOp .NotIn) (fun x y H Q => ∃ i j, x = .str i ∧ y = .str j ∧ Q (.bl (!(!(Builtin.Str.occurrences j i 0 j.length 1).isEmpty))) H) := by
  intro pins s σ H x y v u Q I rx ry h
  obtain ⟨i, j, rfl, rfl, q⟩ := h
  obtain ⟨t, rfl⟩ := rx
  obtain ⟨t', rfl⟩ := ry
  exact notIn_str ⟨.bl _, H, I, rfl, q⟩

/-! ### len, list(x), tuple(x) of any list or tuple that is read -/
theorem call_len_seq : CallR X (.builtin "len") (fun xs H Q => ∃ p ys, xs = [.ref p] ∧ (SqL X.K H p ys ∨ SqT X.K H p ys) ∧ Q (.int ys.length) H) := by
  intro pins s σ H xs us Q I r h
  obtain ⟨p, ys, rfl, hq, q⟩ := h
  obtain ⟨u, rfl, rx⟩ := vals1 r
  cases rx
  have hn := line63
  rcases hq with hq | hq
  · obtain ⟨its, r', pl, hz⟩ := I.list hq
    have hlen := r'.length
    exact Calls.call_len_list pl.isList (by simp only [List.size_toArray] <;> omega) ⟨.int ys.length, H, I.tok _, ⟨s.toks + 1, by rw [List.size_toArray, hlen]⟩, q⟩
  · obtain ⟨its, r', pl, hz⟩ := I.tuple hq
    have hlen := r'.length
    exact len_tuple pl (by simp only [List.size_toArray] <;> omega) ⟨.int ys.length, H, I.tok _, ⟨s.toks + 1, by rw [List.size_toArray, hlen]⟩, q⟩
theorem call_len_str : CallR X (.builtin "len") (fun xs H Q => ∃ z, xs = [.str z] ∧ z.length ≤ sizeLine ∧ Q (.int z.length) H) := by
  intro pins s σ H xs us Q I r h
  obtain ⟨z, rfl, hz, q⟩ := h
  obtain ⟨u, rfl, t, rfl⟩ := vals1 r
  have hn := line63
  exact len_str (by omega) ⟨.int z.length, H, I.tok _, ⟨_, rfl⟩, q⟩
theorem CallR.or {f : Value} {r r' : List V → Hp → VK → Prop} (h : CallR X f r) (h' : CallR X f r') : CallR X f (fun xs H Q => r xs H Q ∨ r' xs H Q) := by
  intro pins s σ H xs us Q I rs q
  rcases q with q | q
  · exact h pins s σ H xs us Q I rs q
  · exact h' pins s σ H xs us Q I rs q
theorem call_list_of : CallR X (.type "list") (fun xs H Q => ∃ p ys, xs = [.ref p] ∧ (SqL X.K H p ys ∨ SqT X.K H p ys) ∧ ∀ l, H l = none → Q (.ref l) (upd H l (.lst ys))) := by
  intro pins s σ H xs us Q I r h
  obtain ⟨p, ys, rfl, hq, q⟩ := h
  obtain ⟨u, rfl, rx⟩ := vals1 r
  cases rx
  have fin : ∀ (its : List Value), Vals ys its → ys.length ≤ sizeLine → ∀ (h' : Heap) (c' : Nat), (∀ b o', s.heap.get? b = some o' → h'.get? b = some o') →
      h'.get? s.heap.objs.size = some { cls := .type "list", dict := none, data := .seq its.toArray c', slots := #[] } → EP X pins σ Q (.ref s.heap.objs.size) { s with heap := h' } := fun its r' hz h' c' kp e =>
    ⟨.ref s.heap.objs.size, _, I.laid (t' := s.toks) kp (Nat.le_refl _) (show ObjOk X.prog X.w _ h' _ (.lst ys) from ⟨hz, its, c', r', e⟩), rfl, q _ (I.hok.fresh (Nat.le_refl _))⟩
  rcases hq with hq | hq
  · obtain ⟨its, r', pl, hz⟩ := I.list hq
    have hlen := r'.length
    obtain ⟨o, ho, hc, n, hd⟩ := pl.isList
    exact call_list_seq p (.inl rfl) ho hc hd (fun h' c' kp e => fin its r' hz h' c' kp e) (by simp only [List.size_toArray] <;> omega)
  · obtain ⟨its, r', pl, hz⟩ := I.tuple hq
    have hlen := r'.length
    obtain ⟨o, ho, hc, n, hd⟩ := pl
    exact call_list_seq p (.inr rfl) ho hc hd (fun h' c' kp e => fin its r' hz h' c' kp e) (by simp only [List.size_toArray] <;> omega)
theorem call_tuple_of : CallR X (.type "tuple") (fun xs H Q => ∃ p ys, xs = [.ref p] ∧ ((SqL X.K H p ys ∧ ∀ l, H l = none → Q (.ref l) (upd H l (.tup ys))) ∨ (SqT X.K H p ys ∧ Q (.ref p) H))) := by
  intro pins s σ H xs us Q I r h
  obtain ⟨p, ys, rfl, h⟩ := h
  obtain ⟨u, rfl, rx⟩ := vals1 r
  cases rx
  rcases h with ⟨hq, q⟩ | ⟨hq, q⟩
  · obtain ⟨its, r', pl, hz⟩ := I.list hq
    have hlen := r'.length
    refine call_tuple_list pl.isList (fun h' kp => ?_) (by simp only [List.size_toArray] <;> omega)
    have I1 : Inv X pins σ H { s with heap := h' } := I.kept (t' := s.toks) kp
    have I2 : Inv X pins σ (upd H h'.objs.size (.tup ys)) { s with heap := h'.push { cls := .type "tuple", data := .seq its.toArray } } :=
      I1.laid (t' := s.toks) (fun b o e => Heap.get?_push_of_some _ e) (Nat.le_refl _) (show ObjOk X.prog X.w _ _ _ (.tup ys) from ⟨hz, its, r', IsTup.new _ _⟩)
    exact ⟨.ref h'.objs.size, _, I2, rfl, q _ (I1.hok.fresh (Nat.le_refl _))⟩
  · obtain ⟨its, r', pl, hz⟩ := I.tuple hq
    exact call_tuple_same pl ⟨.ref p, H, I, rfl, q⟩

/-! ### the call of a builtin's method: o.m(..) -/
/-- the value is of that builtin type -/
def tyV (K : PySem.W.Frag) (T : String) (x : V) (H : Hp) : Prop := match x with
  | .str _ => T = "str"
  | .int _ => T = "int"
  | .ref p => (T = "list" ∧ ∃ xs, SqL K H p xs) ∨ (T = "tuple" ∧ ∃ o, K.lookup p = some o ∧ o.cls = .type "tuple" ∧ o.dict = none) ∨
      (T = "dict" ∧ ((∃ kvs, H p = some (.dK kvs)) ∨ ∃ kvs, H p = some (.dT kvs))) ∨ (T = "set" ∧ ∃ S n, H p = some (.set S n))
  | _ => False
theorem tyV_is {pins : List (Addr × Obj)} {σ : St} {H : Hp} {s : Shared} {T : String} {x : V} {v : Value} (I : Inv X pins σ H s) (r : RelV x v) (ty : tyV X.K T x H) :
    s.TypeIs v T ∧ ∀ a, v = .ref a → ∃ ob, s.heap.get? a = some ob ∧ ob.dict = none := by
  cases x with
  | str z =>
    obtain ⟨t, rfl⟩ := r
    cases (show T = "str" from ty)
    exact ⟨typeIs_str s z t, fun _ e => nomatch e⟩
  | int i =>
    obtain ⟨t, rfl⟩ := r
    cases (show T = "int" from ty)
    exact ⟨typeIs_int s i t, fun _ e => nomatch e⟩
  | ref p =>
    cases r
    rcases ty with ⟨rfl, xs, hq⟩ | ⟨rfl, o, hk, hc, hd⟩ | ⟨rfl, hk⟩ | ⟨rfl, S, n, hk⟩
    · obtain ⟨its, _, pl, _⟩ := I.list hq
      refine ⟨pl.isList.typeIs, fun a e => ?_⟩
      cases e
      obtain ⟨o, n, e, c, hd, _⟩ := pl
      exact ⟨o, e, hd⟩
    · refine ⟨⟨o, I.kIn p o hk, hc⟩, fun a e => ?_⟩
      cases e
      exact ⟨o, I.kIn _ o hk, hd⟩
    · have z : ∃ o, s.heap.get? p = some o ∧ o.ExactDict := by
        rcases hk with ⟨kvs, hk⟩ | ⟨kvs, hk⟩
        · obtain ⟨_, _, _, _, o, _, _, e, ex, _⟩ := I.hok p _ hk
          exact ⟨o, e, ex⟩
        · obtain ⟨_, _, _, _, o, _, _, e, ex, _⟩ := I.hok p _ hk
          exact ⟨o, e, ex⟩
      obtain ⟨o, e, ex⟩ := z
      refine ⟨⟨o, e, ex.1⟩, fun a e2 => ?_⟩
      cases e2
      exact ⟨o, e, ex.2.1⟩
    · obtain ⟨o, _, _, _, e, ex, _⟩ := I.hok p _ hk
      refine ⟨⟨o, e, ex.1⟩, fun a e2 => ?_⟩
      cases e2
      exact ⟨o, e, ex.2.1⟩
  | _ => exact False.elim ty
def tBM0 (K : PySem.W.Frag) (T : String) (r : V → List V → Hp → VK → Prop) (to : TE) : TE := fun σ H Q => to σ H fun x H1 => tyV K T x H1 ∧ r x [] H1 Q
def tBM (K : PySem.W.Frag) (T : String) (r : V → List V → Hp → VK → Prop) (to : TE) (t : TA) : TE := fun σ H Q => to σ H fun x H1 => tyV K T x H1 ∧ t σ H1 fun xs H2 => r x xs H2 Q
variable {o e : Expr} {es : List Expr} {to : TE} {t : TA} {name : Str} {apos cpos : Pos} {T id : String} {r : V → List V → Hp → VK → Prop}
theorem pe_bm0 (pa : PlainAttrs T) (slot : Slot T name id) (hty : typeOf (.builtin id) = pure (.type "method_descriptor")) (hm : MtR X id r) (ho : PE X o to)
    (hbase : attributeBase o name X.env (eval o X.env) = eval o X.env := by rfl) (hline : (apos.endLine == cpos.line) = true := by rfl) : PE X (.Call (.Attribute o name apos) [] [] cpos) (tBM0 X.K T r to) := by
  intro pins s σ H Q I h
  refine wpAny_Call_method0_late hbase hline (thn (ho pins s σ H _ I h) fun v s1 ⟨x, H1, I1, r1, ty, q1⟩ => ?_)
  obtain ⟨h1, h2⟩ := tyV_is I1 r1 ty
  exact ⟨T, id, pa, slot, hty, h1, h2, Calls.callWith_builtin rfl (PySem.evalArgs_none (hm pins s1 σ H1 x [] v [] Q I1 r1 .nil q1))⟩
theorem pe_bm (pa : PlainAttrs T) (slot : Slot T name id) (hty : typeOf (.builtin id) = pure (.type "method_descriptor")) (hm : MtR X id r) (ho : PE X o to) (ha : PA X (e :: es) t)
    (hbase : attributeBase o name X.env (eval o X.env) = eval o X.env := by rfl)
    (hfew : ((backTo cpos (starEach (e :: es) X.env)).all (fun x => !x.1) && (backToKw cpos (keywordEach [] X.env)).all (fun x => x.1.isSome)
      && decide ((e :: es).length + ([] : List Keyword).length + (if ([] : List Keyword).isEmpty then 0 else 1) < 30)) = true := by rfl)
    (hline : (apos.endLine == cpos.line) = true := by rfl) (hs : starEach (e :: es) X.env = (false, eval e X.env) :: starEach es X.env := by rfl) (hplain : (backTo cpos (starEach es X.env)).any (·.1) = false := by rfl) :
    PE X (.Call (.Attribute o name apos) (e :: es) [] cpos) (tBM X.K T r to t) := by
  intro pins s σ H Q I h
  refine wpAny_Call_method_late hbase hfew hline rfl (thn (ho pins s σ H _ I h) fun v s1 ⟨x, H1, I1, r1, ty, q1⟩ => ?_)
  obtain ⟨h1, h2⟩ := tyV_is I1 r1 ty
  refine ⟨T, id, pa, slot, hty, h1, h2, ?_⟩
  have hA := ha cpos pins s1 σ H1 _ I1 q1
  rw [hs] at hA ⊢
  refine Calls.callWith_builtin (by show (false || (backTo cpos (starEach es X.env)).any (·.1)) = false; rw [hplain] <;> rfl) (Calls.evalArgs_plain ?_)
  exact thn hA fun us s2 ⟨vs, H2, I2, r2, q2⟩ => hm pins s2 σ H2 x vs v us Q I2 r1 r2 q2
/- xs.append(e), list.index on a module's tuple .. are MtR facts of 06m -/
end
end L2

namespace L2
open PySem PySem.Spec PyProof.Rows

def MtM (X : Cx) (id : String) (r : V → List V → Hp → VK → Prop) : Prop :=
  ∀ (pins : List (Addr × Obj)) (s : Shared) (σ : St) (H : Hp) (x : V) (xs : List V) (v : Value) (us : List Value) (Q : VK), Inv X pins σ H s → RelV x v → Vals xs us → r x xs H Q →
    wpAny (model X.prog X.w) X.A (call (.builtin id) (v :: us)) (EP X pins σ Q) X.xe s

/-! ### lists of values -/
theorem Vals.one : ∀ {x : V} {us : List Value}, Vals [x] us → ∃ u, us = [u] ∧ RelV x u
  | _, _, .cons r .nil => ⟨_, rfl, r⟩
theorem Vals.two : ∀ {x y : V} {us : List Value}, Vals [x, y] us → ∃ u v, us = [u, v] ∧ RelV x u ∧ RelV y v
  | _, _, _, .cons r (.cons q .nil) => ⟨_, _, rfl, r, q⟩
theorem Vals.zero : ∀ {us : List Value}, Vals [] us → us = []
  | _, .nil => rfl
theorem Vals.dropLast {xs : List V} {us : List Value} (h : Vals xs us) : Vals xs.dropLast us.dropLast := by
  induction h with
  | nil => exact .nil
  | cons r t ih =>
    cases t with
    | nil => exact .nil
    | cons q t' => exact .cons r ih
theorem Vals.eraseIdx : ∀ {xs : List V} {us : List Value} (i : Nat), Vals xs us → Vals (xs.eraseIdx i) (us.eraseIdx i)
  | _, _, _, .nil => .nil
  | _, _, 0, .cons _ t => t
  | _, _, i + 1, .cons r t => .cons r (Vals.eraseIdx i t)
theorem Vals.reverse {xs : List V} {us : List Value} (h : Vals xs us) : Vals xs.reverse us.reverse := by
  induction h with
  | nil => exact .nil
  | cons r t ih => rw [List.reverse_cons, List.reverse_cons]; exact Vals.append ih (.cons r .nil)
theorem Vals.rep {xs : List V} {us : List Value} (h : Vals xs us) : ∀ k : Nat, Vals (List.replicate k xs).flatten (List.replicate k us).flatten
  | 0 => .nil
  | k + 1 => by
    rw [List.replicate_succ, List.replicate_succ, List.flatten_cons, List.flatten_cons]
    exact Vals.append h (Vals.rep h k)
theorem erase_last {α : Type} (l : List α) : l.eraseIdx (l.length - 1) = l.dropLast := by
  induction l with
  | nil => rfl
  | cons a r ih =>
    cases r with
    | nil => rfl
    | cons b r =>
      have e : (a :: b :: r).length - 1 = ((b :: r).length - 1) + 1 := by
        have h1 : (a :: b :: r).length = r.length + 2 := rfl
        have h2 : (b :: r).length = r.length + 1 := rfl
        omega
      rw [e, List.eraseIdx_cons_succ, ih]
      all_goals rfl
theorem len_erase {α : Type} : ∀ (l : List α) (i : Nat), (l.eraseIdx i).length ≤ l.length
  | [], _ => Nat.le_refl _
  | _ :: _, 0 => Nat.le_succ _
  | _ :: r, i + 1 => Nat.succ_le_succ (len_erase r i)
theorem foldl_rep (its : List Value) : ∀ (k : Nat) (acc : List Value),
    List.foldl (fun x1 x2 => x1 ++ x2) acc.toArray (List.replicate k its.toArray) = (acc ++ (List.replicate k its).flatten).toArray
  | 0, acc => by simp
  | k + 1, acc => by
    have e : acc.toArray ++ its.toArray = (acc ++ its).toArray := by simp
    have e2 : (acc ++ its) ++ (List.replicate k its).flatten = acc ++ (List.replicate (k + 1) its).flatten := by
      rw [List.replicate_succ, List.flatten_cons, List.append_assoc]
    rw [← e2, ← foldl_rep its k (acc ++ its), ← e, List.replicate_succ, List.foldl_cons]

section
variable {X : Cx} {pins : List (Addr × Obj)} {σ : St} {H : Hp} {s : Shared} {l b : Addr} {xs ys zs : List V}

/-! ### the two steps: a tracked list is rewritten, a new list is laid -/
theorem Inv.lset {its its' : List Value} {n : Nat} {f : Array Value → Array Value} {t' : Nat} (I : Inv X pins σ H s) (hH : H l = some (.lst xs))
    (e : s.heap.get? l = some { cls := .type "list", data := .seq its.toArray n }) (hf : f its.toArray = its'.toArray) (hv : Vals ys its') (hz : ys.length ≤ sizeLine) :
    Inv X pins σ (upd H l (.lst ys)) { s with heap := s.heap.update l (Obj.mapSeq f), toks := t' } := by
  have q := PySem.IsL.update e f
  rw [hf] at q
  refine I.write (x := l) (e := l) (by rw [hH]; exact trivial) (.inl rfl) (fun b' u hb hu => (Heap.get?_update_other s.heap (Obj.mapSeq f) (Ne.symm hb)).trans hu) ⟨_, q⟩ ?_
  exact ⟨hz, its', _, hv, q⟩
theorem Inv.lnew {its : List Value} {t' : Nat} (I : Inv X pins σ H s) (hv : Vals ys its) (hz : ys.length ≤ sizeLine) :
    Inv X pins σ (upd H s.heap.objs.size (.lst ys)) { s with heap := s.heap.push { cls := .type "list", data := .seq its.toArray }, toks := t' } :=
  I.laid (fun _ _ q => Heap.get?_push_of_some _ q) (Nat.le_refl _) ⟨hz, its, 0, hv, Heap.get?_push_size _ rfl⟩
theorem Inv.fresh (I : Inv X pins σ H s) : H s.heap.objs.size = none := I.hok.fresh (Nat.le_refl _)
theorem Inv.lstM (I : Inv X pins σ H s) (hH : H l = some (.lst xs)) : xs.length ≤ sizeLine ∧ ∃ (its : List Value) (n : Nat), Vals xs its ∧ xs.length = its.length ∧ s.heap.get? l = some { cls := .type "list", data := .seq its.toArray n } := by
  obtain ⟨z, its, n, r, e⟩ := I.hok l _ hH
  exact ⟨z, its, n, r, r.length, e⟩

theorem notLongL {n : Nat} (h : n ≤ sizeLine) : Builtin.List.listTooLong n = false := by
  unfold Builtin.List.listTooLong
  exact decide_eq_false (by omega)
end

section
variable {X : Cx}

/-! ### methods -/
def rAppend : V → List V → Hp → VK → Prop := fun x vs H Q => ∃ l xs y, x = .ref l ∧ vs = [y] ∧ H l = some (.lst xs) ∧ xs.length < sizeLine ∧ Q .non (upd H l (.lst (xs ++ [y])))
theorem mt_append : MtM X "list.append" rAppend := by
  intro pins s σ H x vs v us Q I rx rv h
  obtain ⟨l, xs, y, rfl, rfl, hH, hz, q⟩ := h
  cases rx
  obtain ⟨u, rfl, ru⟩ := rv.one
  obtain ⟨z, its, n, r, hl, e⟩ := I.lstM hH
  refine call_meets F.slot_list_append ⟨_, e, rfl⟩ F.entry_list_append (F.args_list_append_2 _ _) (PySem.list_append l its.toArray n u (by rw [List.size_toArray]; omega)) ⟨e, ?_⟩
  refine ⟨.non, _, I.lset (its' := its ++ [u]) hH e (by simp) (r.append (.cons ru .nil)) ?_, rfl, q⟩
  rw [List.length_append, List.length_singleton]
  omega

def rExtend : V → List V → Hp → VK → Prop := fun x vs H Q => ∃ l b xs zs, x = .ref l ∧ vs = [.ref b] ∧ H l = some (.lst xs) ∧ H b = some (.lst zs) ∧ xs.length + zs.length ≤ sizeLine ∧ Q .non (upd H l (.lst (xs ++ zs)))
theorem mt_extend : MtM X "list.extend" rExtend := by
  intro pins s σ H x vs v us Q I rx rv h
  obtain ⟨l, b, xs, zs, rfl, rfl, hH, hB, hz, q⟩ := h
  cases rx
  obtain ⟨u, rfl, ru⟩ := rv.one
  cases ru
  obtain ⟨z, its, n, r, hl, e⟩ := I.lstM hH
  obtain ⟨z2, its2, n2, r2, hl2, e2⟩ := I.lstM hB
  have hsz : its.toArray.size + its2.toArray.size ≤ sizeLine := by rw [List.size_toArray, List.size_toArray]; omega
  have hlong : ¬ (!its.toArray.isEmpty && Builtin.List.listTooLong (its.toArray.size + its2.toArray.size)) = true := by
    rw [notLongL hsz, Bool.and_false]
    exact Bool.false_ne_true
  refine call_meets F.slot_list_extend ⟨_, e, rfl⟩ F.entry_list_extend (F.args_list_extend_2 _ _)
    (AutoSeq1.list_extend_list_list_0 l its.toArray n b its2.toArray n2 hlong (by rw [List.size_toArray]; omega) (by omega)) ⟨e, e2, ?_⟩
  refine ⟨.non, _, I.lset (its' := its ++ its2) hH e (by simp) (r.append r2) ?_, rfl, q⟩
  rw [List.length_append]
  omega

def rPop : V → List V → Hp → VK → Prop := fun x vs H Q => ∃ l xs y, x = .ref l ∧ vs = [] ∧ H l = some (.lst xs) ∧ xs[xs.length - 1]? = some y ∧ Q y (upd H l (.lst xs.dropLast))
theorem mt_pop : MtM X "list.pop" rPop := by
  intro pins s σ H x vs v us Q I rx rv h
  obtain ⟨l, xs, y, rfl, rfl, hH, hy, q⟩ := h
  cases rx
  have hus := rv.zero
  subst hus
  obtain ⟨z, its, n, r, hl, e⟩ := I.lstM hH
  obtain ⟨u, hu, ru⟩ := r.get hy
  have hy' : its.toArray[its.toArray.size - 1]? = some u := by
    show its.toArray[its.length - 1]? = some u
    rw [← Array.getElem?_toList, ← hl]
    exact hu
  refine call_meets F.slot_list_pop ⟨_, e, rfl⟩ F.entry_list_pop (F.args_list_pop_1 _) (MeetsSeq.list_pop_last l its.toArray n u hy' (by rw [List.size_toArray]; omega)) ⟨e, ?_⟩
  refine ⟨y, _, I.lset (its' := its.dropLast) hH e ?_ r.dropLast ?_, ru, q⟩
  · show its.toArray.eraseIdxIfInBounds (its.toArray.size - 1) = its.dropLast.toArray
    rw [List.size_toArray, List.eraseIdxIfInBounds_toArray, erase_last]
  · rw [List.length_dropLast]
    omega

def rPopAt : V → List V → Hp → VK → Prop := fun x vs H Q => ∃ l xs i k y, x = .ref l ∧ vs = [.int i] ∧ H l = some (.lst xs) ∧ -(2 ^ 63) ≤ i ∧ i < 2 ^ 63 ∧ seqIndex? i xs.length = some k ∧ xs[k]? = some y ∧ Q y (upd H l (.lst (xs.eraseIdx k)))
theorem mt_popAt : MtM X "list.pop" rPopAt := by
  intro pins s σ H x vs v us Q I rx rv h
  obtain ⟨l, xs, i, k, y, rfl, rfl, hH, h1, h2, hk, hy, q⟩ := h
  cases rx
  obtain ⟨u, rfl, ru⟩ := rv.one
  obtain ⟨t, rfl⟩ := ru
  obtain ⟨z, its, n, r, hl, e⟩ := I.lstM hH
  obtain ⟨w, hw, rw'⟩ := r.get hy
  refine call_meets F.slot_list_pop ⟨_, e, rfl⟩ F.entry_list_pop (F.args_list_pop_2 _ _)
    (MeetsSeq.list_pop_at l its.toArray n i t k w (fitsIndex_both h1 h2) (by rw [List.size_toArray, ← hl]; exact hk) (by rw [← Array.getElem?_toList]; exact hw) (by rw [List.size_toArray]; omega)) ⟨e, ?_⟩
  refine ⟨y, _, I.lset (its' := its.eraseIdx k) hH e ?_ (r.eraseIdx k) ?_, rw', q⟩
  · show its.toArray.eraseIdxIfInBounds k = (its.eraseIdx k).toArray
    rw [List.eraseIdxIfInBounds_toArray]
  · have := len_erase xs k
    omega

def rReverse : V → List V → Hp → VK → Prop := fun x vs H Q => ∃ l xs, x = .ref l ∧ vs = [] ∧ H l = some (.lst xs) ∧ Q .non (upd H l (.lst xs.reverse))
theorem mt_reverse : MtM X "list.reverse" rReverse := by
  intro pins s σ H x vs v us Q I rx rv h
  obtain ⟨l, xs, rfl, rfl, hH, q⟩ := h
  cases rx
  have hus := rv.zero
  subst hus
  obtain ⟨z, its, n, r, hl, e⟩ := I.lstM hH
  refine call_meets F.slot_list_reverse ⟨_, e, rfl⟩ F.entry_list_reverse (F.args_list_reverse_1 _) (AutoSeq1.list_reverse_list_0 l its.toArray n (by rw [List.size_toArray]; omega)) ⟨e, ?_⟩
  refine ⟨.non, _, I.lset (its' := its.reverse) hH e (by simp) r.reverse ?_, rfl, q⟩
  rw [List.length_reverse]
  omega

def rClear : V → List V → Hp → VK → Prop := fun x vs H Q => ∃ l xs, x = .ref l ∧ vs = [] ∧ H l = some (.lst xs) ∧ Q .non (upd H l (.lst []))
theorem mt_clear : MtM X "list.clear" rClear := by
  intro pins s σ H x vs v us Q I rx rv h
  obtain ⟨l, xs, rfl, rfl, hH, q⟩ := h
  cases rx
  have hus := rv.zero
  subst hus
  obtain ⟨z, its, n, r, hl, e⟩ := I.lstM hH
  refine call_meets F.slot_list_clear ⟨_, e, rfl⟩ F.entry_list_clear (F.args_list_clear_1 _) (AutoSeq1.list_clear_list_0 l its.toArray n (by rw [List.size_toArray]; omega)) ⟨e, ?_⟩
  exact ⟨.non, _, I.lset (its' := []) (ys := []) hH e rfl .nil (Nat.zero_le _), rfl, q⟩

/-! ### list + list, list += list, list * int -/
def rCat : R2 := fun x y H Q => ∃ l b xs zs, x = .ref l ∧ y = .ref b ∧ H l = some (.lst xs) ∧ H b = some (.lst zs) ∧ xs.length + zs.length ≤ sizeLine ∧ ∀ p, H p = none → Q (.ref p) (upd H p (.lst (xs ++ zs)))
theorem op_cat : OpR X (binaryOp .Add) rCat := by
  intro pins s σ H x y v u Q I rx ry h
  obtain ⟨l, b, xs, zs, rfl, rfl, hH, hB, hz, q⟩ := h
  cases rx
  cases ry
  obtain ⟨z, its, n, r, hl, e⟩ := I.lstM hH
  obtain ⟨z2, its2, n2, r2, hl2, e2⟩ := I.lstM hB
  refine PySem.P.add_list e e2 ?_ (by rw [List.size_toArray, List.size_toArray]; omega)
  have ea : its.toArray ++ its2.toArray = (its ++ its2).toArray := by simp
  rw [ea]
  exact ⟨.ref _, _, I.lnew (t' := s.toks) (r.append r2) (by rw [List.length_append]; omega), rfl, q _ I.fresh⟩
/-- a list times an int (a negative one is nothing) -/
def rRep : R2 := fun x y H Q => ∃ l k xs, x = .ref l ∧ y = .int k ∧ H l = some (.lst xs) ∧ -(2 ^ 63) ≤ k ∧ k < 2 ^ 63 ∧ xs.length * k.toNat ≤ sizeLine ∧
  ∀ p, H p = none → Q (.ref p) (upd H p (.lst (List.replicate k.toNat xs).flatten))
theorem len_rep {α : Type} (xs : List α) (k : Nat) : (List.replicate k xs).flatten.length = k * xs.length := by
  induction k with
  | zero => simp
  | succ k ih => rw [List.replicate_succ, List.flatten_cons, List.length_append, ih, Nat.succ_mul, Nat.add_comm]
theorem op_rep : OpR X (binaryOp .Mult) rRep := by
  intro pins s σ H x y v u Q I rx ry h
  obtain ⟨l, k, xs, rfl, rfl, hH, h1, h2, hz, q⟩ := h
  cases rx
  obtain ⟨t, rfl⟩ := ry
  obtain ⟨z, its, n, r, hl, e⟩ := I.lstM hH
  have hlen : its.toArray.size * k.toNat ≤ sizeLine := by rw [List.size_toArray, ← hl]; exact hz
  have hcap : ¬ its.toArray.size * k.toNat > (2 ^ 63 - 1) / 8 := by
    have : (sizeLine : Nat) ≤ (2 ^ 63 - 1) / 8 := by decide
    omega
  have hfit : ¬ (!Builtin.List.listFitsIndex k) = true := by
    rw [fitsIndex_both h1 h2]
    exact Bool.false_ne_true
  have hlong : ¬ Builtin.List.listTooLong (its.toArray.size * k.toNat) = true := by
    rw [notLongL hlen]
    exact Bool.false_ne_true
  have hnew : List.foldl (fun x1 x2 => x1 ++ x2) #[] (List.replicate (if its.toArray.isEmpty = true then 0 else k.toNat) its.toArray) = (List.replicate k.toNat its).flatten.toArray := by
    have f0 : ∀ m : Nat, List.foldl (fun x1 x2 => x1 ++ x2) #[] (List.replicate m its.toArray) = (List.replicate m its).flatten.toArray := fun m => by
      have := foldl_rep its m []
      rw [List.nil_append] at this
      exact this
    rw [f0]
    cases its with
    | nil => simp
    | cons a r' => rw [if_neg (by simp)]
  refine wpAny_binaryOp_repeat_ref (T := "list") (U := "int") (by decide) ⟨_, e, rfl⟩ (fun s' => typeIs_int s' k t) noFill_list_mul F.fills_int_mul F.slot_int_rmul repeat_list F.slot_int_index.lookup
    (call_meets F.slot_int_rmul (typeIs_int s k t) F.entry_int_rmul (F.args_int_rmul_2 _ _) (int___rmul___int_list k t l its.toArray n)
      ⟨e, rfl, ⟨_, e, rfl⟩, call_meets F.slot_list_mul ⟨_, e, rfl⟩ F.entry_list_mul (F.args_list_mul_2 _ _) (AutoListH.list___mul___list_int_3 l its.toArray n k t hfit hcap hlong) ⟨e, ?_⟩⟩)
  rw [hnew]
  exact ⟨.ref _, _, I.lnew (t' := s.toks) (r.rep k.toNat) (by rw [len_rep, Nat.mul_comm]; exact hz), rfl, q _ I.fresh⟩

/-! ### del xs[i] -/
theorem del_list {pins : List (Addr × Obj)} {s : Shared} {σ : St} {H : Hp} {l : Addr} {xs : List V} {i : Int} {t : Tok} {k : Nat} {Q : Unit → Shared → Prop} (I : Inv X pins σ H s) (hH : H l = some (.lst xs))
    (h1 : -(2 ^ 63) ≤ i) (h2 : i < 2 ^ 63) (hk : seqIndex? i xs.length = some k) (h : ∀ s', Inv X pins σ (upd H l (.lst (xs.eraseIdx k))) s' → Q () s') :
    wpAny (model X.prog X.w) X.A (delItem (.ref l) (.int i t)) Q X.xe s := by
  obtain ⟨z, its, n, r, hl, e⟩ := I.lstM hH
  refine PySem.P.delItem_list (k := k) e (fitsIndex_both h1 h2) (by rw [List.size_toArray, ← hl]; exact hk) (h _ ?_) (by rw [List.size_toArray]; omega)
  refine I.lset (its' := its.eraseIdx k) (t' := s.toks) hH e ?_ (r.eraseIdx k) ?_
  · show its.toArray.eraseIdxIfInBounds k = (its.eraseIdx k).toArray
    rw [List.eraseIdxIfInBounds_toArray]
  · have := len_erase xs k
    omega
end

/-! ### xs[a:b] = ys -/
section
variable {prog : Program} {w : World} {A : Around} {E : Value → Shared → Prop} {s : Shared}
theorem splice_eq (its its2 : List Value) (a c : Nat) : its.toArray.extract 0 a ++ its2.toArray ++ its.toArray.extract c its.toArray.size = (its.take a ++ its2 ++ its.drop c).toArray := by
  apply Array.toList_inj.mp
  first
    | (simp
       exact List.take_of_length_le (by simp))
    | simp [List.take_of_length_le]
    | simp
theorem bounds_run {a c n : Nat} (hac : a ≤ c) (hc : c ≤ n) : sliceBounds (some (a : Int)) (some (c : Int)) none n = ((a : Int), (c : Int), 1) := by
  simp only [sliceBounds, Option.getD_none]
  have h1 : ¬ ((a : Int) < 0) := by omega
  have h2 : ¬ ((c : Int) < 0) := by omega
  simp only [h1, h2, if_false, show (1 : Int) > 0 by decide, if_true]
  congr 1
  · omega
  · congr 1; omega
set_option maxRecDepth 100000 in
/-- list.__setitem__ with a slice of step one and another list -/
theorem setItem_slice {l b sl : Addr} {items new : Array Value} {n n2 : Nat} {vl vu : Value} {a c : Nat} {Q : Unit → Shared → Prop}
    (e : s.heap.get? l = some { cls := .type "list", data := .seq items n }) (e2 : s.heap.get? b = some { cls := .type "list", data := .seq new n2 }) (hne : l ≠ b)
    (hs : s.heap.IsSliceOf sl vl vu .none) (pl : IsPart vl (some (a : Int))) (pu : IsPart vu (some (c : Int))) (hac : a ≤ c) (hc : c ≤ items.size)
    (hsz : items.size + new.size ≤ sizeLine) (h : Q () { s with heap := s.heap.update l (Obj.mapSeq fun xs => xs.extract 0 a ++ new ++ xs.extract c xs.size) }) :
    wpAny (model prog w) A (setItem (.ref l) (.ref sl) (.ref b)) Q E s := by
  have hl : s.heap.IsList l items := PySem.IsL.isList e
  have hb : s.heap.IsList b new := PySem.IsL.isList e2
  obtain ⟨os, hos, hcs, hds⟩ := id hs
  have hTs : s.TypeIs (.ref sl) "slice" := ⟨os, hos, hcs⟩
  have hstep : ¬ ((rawPart none == rawInt 0) = true) := Bool.false_ne_true
  have hsame : Builtin.List.listSameRef (.ref l) (.ref b) = false := by
    unfold Builtin.List.listSameRef
    exact beq_eq_false_iff_ne.mpr hne
  have hmax : (max (a : Int) (c : Int)).toNat = c := by omega
  have hz' : ((fun xs : Array Value => xs.extract 0 a ++ new ++ xs.extract c xs.size) items).size ≤ sizeLine + 1 := by
    simp only [Array.size_append, Array.size_extract]
    omega
  unfold setItem
  try with_reducible refine wpAny_holding ?_
  first | refine wpAny_bind (wpAny_pure ?_) | skip
  refine wpAny_bind (wpAny_sequenceKey hl.typeIs (by decide) ?_)
  refine wpAny_bind (wpAny_callSpecial?_slot (name := Str.ofString "__setitem__") hl.typeIs slot_list_setitem
    (wpAny_call_entry slot_list_setitem hl.typeIs entry_list_setitem ?_ (args_list_setitem _ _ _)))
  show wpAny _ _ (Builtin.List.listSubscript? (.ref sl) >>= _) _ _ s
  refine wpAny_bind ?_
  unfold Builtin.List.listSubscript?
  refine wpAny_bind (wpAny_specialOf hTs slice_no_index ?_)
  simp only [Option.isNone_none, if_true]
  refine wpAny_pure ?_
  show wpAny _ _ (typeOf (.ref sl) >>= _) _ _ s
  refine wpAny_bind (wpAny_typeOf hTs ?_)
  first
    | rw [if_neg (by decide)]
    | refine PySem.W.KFB.if_not (by decide) ?_
  rw [listSliceParts_eq]
  refine wpAny_bind (wpAny_bind (wpAny_field hos hds (x := .none) rfl (wpAny_bind (wpAny_listPart .none ?_))))
  rw [if_neg hstep]
  refine wpAny_bind (wpAny_field hos hds (x := vl) rfl (wpAny_bind (wpAny_listPart pl ?_)))
  refine wpAny_bind (wpAny_field hos hds (x := vu) rfl (wpAny_bind (wpAny_listPart pu (wpAny_pure ?_))))
  first
    | simp only [hsame, Bool.false_eq_true, if_false]
    | refine PySem.W.KFB.if_not hsame ?_
    | (dsimp only
       rw [if_neg (by rw [hsame]; exact Bool.false_ne_true)])
  refine wpAny_bind (m := Builtin.List.listAllItems (.ref b) "must assign iterable to extended slice") ?_
  unfold Builtin.List.listAllItems
  refine wpAny_bind (wpAny_typeOf hb.typeIs ?_)
  first
    | refine PySem.W.KFB.if_so (by decide) ?_
    | rw [if_pos (by decide)]
    | simp only [beq_self_eq_true, Bool.true_or, if_true]
  unfold Builtin.List.listItems
  refine wpAny_bind (wpAny_seqItems e2 rfl (wpAny_pure ?_))
  refine wpAny_bind (wpAny_bind (wpAny_seqItems e rfl (wpAny_pure ?_)))
  refine wpAny_bind (wpAny_of_eq ((sliceIndices_raw (some (a : Int)) (some (c : Int)) none items.size (by simp)).trans (congrArg (pure : Int × Int × Int → Sem (Int × Int × Int)) (bounds_run hac hc))) ?_)
  show wpAny _ _ (if ((1 : Int) == 1) = true then _ else _) _ _ s
  rw [if_pos (by decide)]
  refine wpAny_bind (wpAny_rule ?_)
  first
    | simp only [notLongL hsz, Bool.false_eq_true, if_false]
    | refine PySem.W.KFB.if_not (notLongL hsz) ?_
  first | refine wpAny_bind (wpAny_pure ?_) | skip
  show wpAny _ _ (updateSeq l (fun xs => xs.extract 0 ((a : Int)).toNat ++ new ++ xs.extract (max (a : Int) (c : Int)).toNat xs.size) >>= _) _ _ s
  rw [hmax, Int.toNat_natCast]
  refine wpAny_bind (wpAny_updateSeq (hz := Nat.le_trans (Nat.le_add_right _ _) hsz) (_hz' := hz') e rfl ?_)
  refine wpAny_bind (wpAny_letGo ?_)
  first
    | exact wpAny_bind (wpAny_pure (wpAny_pure ⟨.none, rfl, wpAny_pure h⟩))
    | exact wpAny_pure ⟨.none, rfl, wpAny_pure h⟩
end

section
variable {X : Cx}
/-- xs[a:c] = ys of another list, at the value level: sl is the slice object that was just made -/
theorem set_slice {pins : List (Addr × Obj)} {s : Shared} {σ : St} {H : Hp} {l b sl : Addr} {xs ys : List V} {a c : Int} {vl vu : Value} {Q : Unit → Shared → Prop} (I : Inv X pins σ H s)
    (hH : H l = some (.lst xs)) (hB : H b = some (.lst ys)) (hne : l ≠ b) (hs : s.heap.IsSliceOf sl vl vu .none) (ra : RelV (.int a) vl) (rc : RelV (.int c) vu) (h0 : 0 ≤ a) (hac : a ≤ c) (hc : c ≤ xs.length)
    (hz : xs.length + ys.length ≤ sizeLine) (h : ∀ s', Inv X pins σ (upd H l (.lst (xs.take a.toNat ++ ys ++ xs.drop c.toNat))) s' → Q () s') :
    wpAny (model X.prog X.w) X.A (setItem (.ref l) (.ref sl) (.ref b)) Q X.xe s := by
  obtain ⟨ta, rfl⟩ := ra
  obtain ⟨tc, rfl⟩ := rc
  obtain ⟨z, its, n, r, hl, e⟩ := I.lstM hH
  obtain ⟨z2, its2, n2, r2, hl2, e2⟩ := I.lstM hB
  obtain ⟨a', rfl⟩ := Int.eq_ofNat_of_zero_le h0
  obtain ⟨c', rfl⟩ := Int.eq_ofNat_of_zero_le (Int.le_trans h0 hac)
  simp only [Int.toNat_natCast] at h
  refine setItem_slice (a := a') (c := c') e e2 hne hs (.int _ _) (.int _ _) (by omega) (by rw [List.size_toArray]; omega) (by rw [List.size_toArray, List.size_toArray]; omega) (h _ ?_)
  refine I.lset (its' := its.take a' ++ its2 ++ its.drop c') (t' := s.toks) hH e ?_ (Vals.append (Vals.append (r.take _) r2) (r.drop _)) ?_
  · exact splice_eq its its2 a' c'
  · rw [List.length_append, List.length_append, List.length_take, List.length_drop]
    omega
end
end L2

namespace Att
open PySem PySem.W PySem.Calls PyProof.Rows

/-! ### the script -/
theorem ints_of_wellAll {P : Params} {h : Heap} : ∀ (ns : List Int) (vs : List Value), WellAll P h vs (ns.map WData.int) → IntsAre vs ns := by
  intro ns
  induction ns with
  | nil =>
    intro vs w
    rw [List.map_nil] at w
    cases w
    exact .nil
  | cons n ns ih =>
    intro vs w
    rw [List.map_cons] at w
    cases w with
    | cons a b =>
      cases a
      exact .cons _ _ (ih _ b)

theorem script_of {l : OpenLaw} {n : Nat} (hn : l.most = some n) {P : Params} {h : Heap} {args : List WData} {vals : List Value}
    (hpre : l.row.toRowW.claim.pre args = true) (hwl : WellAll P h vals args) :
    ∃ a vs ns, vals = [Value.ref a] ∧ args = [WData.list (ns.map WData.int)] ∧ h.get? a = some { cls := .type "list", data := .seq vs.toArray } ∧ IntsAre vs ns ∧ ns.length ≤ n := by
  have hsh : WShape.hasAll [] args [.list .int] = true := (pre_splitW hpre).1
  have hc : l.pre.holds [] { args := args } = true := (pre_splitW hpre).2
  obtain ⟨d, r, rfl, h1, h2⟩ := hasAllW_cons hsh
  obtain rfl := hasAllW_nil h2
  obtain ⟨xs, rfl, h3⟩ := hasW_list h1
  obtain ⟨ns, rfl⟩ := items_int h3
  have hlen : ns.length ≤ n := by
    unfold OpenLaw.pre at hc
    have h4 : (WTm.not (.lt (.lit (.int (n : Int))) (.len (.arg 0)))).holds [] { args := [.list (ns.map .int)] } = true := by
      have h4 := (holds_andW hc).1
      rw [hn] at h4
      exact h4
    have h5 := condW_of h4 (w_not (w_lt w_lit (w_len_list (w_arg rfl))))
    rw [List.length_map] at h5
    refine Nat.le_of_not_lt fun q => ?_
    have q' : (n : Int) < ((ns.length : Nat) : Int) := by omega
    first
      | (rw [decide_eq_true q'] at h5; exact absurd h5 (by decide))
      | (simp at h5; omega)
  cases hwl with
  | cons w1 w2 =>
    cases w2
    cases w1 with
    | list ho hall => exact ⟨_, _, ns, rfl, rfl, ho, ints_of_wellAll ns _ hall, hlen⟩

theorem post_true (l : OpenLaw) (args : List WData) : l.row.toRowW.claim.post args (.bool true) args = true :=
  postW_of (r := l.row.toRowW) (X := (true == true))
    (show WShape.has [] (.bool true) .bool = true by first | rfl | decide | simp [WShape.has, WShape.arms, WShape.armsAll])
    (show (WTm.eq .res (.lit (.bool true))).value [] { args := args, res := some (.bool true), after := args } = some (.bool (true == true)) from w_eq_bool (w_res rfl) w_lit) rfl

/-! ### the attachment: holds_open's last premise (the goal 'hc' behind k_head) from a wpAny of the law's body -/
theorem attach {l : OpenLaw} {n : Nat} {q : Program} {loose : List Str} {XP : (Str → Option Value) → Heap → Prop} {YP : World → Heap → Prop} {d : DefRec} {x : Str}
    (hn : l.most = some n) (hdf : d.params.defaults = [])
    (hbind : ∀ pm cd doc v : Value, bindArgs (docDef d.name d.params d.body d.scope pm cd doc) ⟨[v], []⟩ = pure [(x, v)])
    (hx : d.scope.names.lookup x = some .local ∨ d.scope.names.lookup x = some .cell)
    (hk : d.scope.kind = .function) (hco : d.scope.isCoroutine = false) (hgen : d.scope.isGenerator = false)
    (body : ∀ (w : World) (s₀ s₁ s : Shared) (mg mb : Str → Option Value) (fa : Addr) (o : Obj) (pm cd doc : Value) (a : Addr) (vs : List Value) (ns : List Int),
      Ground q loose [] XP w s₀ mg mb s₁.heap → YP w s₁.heap →
      s₁.heap.get? fa = some o → o.data = .func (docDef d.name d.params d.body d.scope pm cd doc) → s₁.heap.CodeRec cd d.name → mg d.name = some (.ref fa) →
      s₁.heap.get? a = some { cls := .type "list", data := .seq vs.toArray } → IntsAre vs ns → ns.length ≤ n →
      s.gens = #[] → s.os = s₁.os →
      Fr s₁.heap s₁.heap.objs.size s.heap (bindL (envOfC d.name d.scope s₁.heap.objs.size fa cd).kindOf [(x, .ref a)] fun _ => none) →
      Cl s₁.heap.objs.size (cellsFrom (s₁.heap.objs.size + 1) d.scope.names []) s.heap (bindC (envOfC d.name d.scope s₁.heap.objs.size fa cd).kindOf [(x, .ref a)] fun _ => none) →
      wpAny (model l.prog w) (callerA.deeper (envOfC d.name d.scope s₁.heap.objs.size fa cd)) (execs d.body (envOfC d.name d.scope s₁.heap.objs.size fa cd))
        (fun f s' => f = .ret (.bool true) ∧ OldK s₁.heap s'.heap ∧ s'.os = s₁.os ∧ AllBare s'.gens) (fun _ _ => False) s) :
    WalkO q loose XP YP l.row.toRowW d [] (fun f vs => PySem.call f vs) := by
  intro w s₀ s₁ mg mb G Y fa o pm cd doc dV kV ho hd hcd hD hmg hg args vals as hpre hlay hrd hwl hlo
  obtain rfl : dV = .none := Dflts.none hD hdf
  obtain rfl : kV = .none := Dflts.noKw hD
  obtain ⟨a, vs, ns, rfl, rfl, hobj, hints, hlen⟩ := script_of hn hpre hwl
  refine enter_call ?_
  refine call_cells_ret (o := o) (by rw [depth_caller]; decide) ho (fd_plain hd) G.T.nolimit hcd (hbind pm cd doc (.ref a)) (fun y hy => ?_) (fun h₁ tk F X => ?_) hco hgen hk
  · obtain rfl : y = (x, Value.ref a) := List.mem_singleton.mp hy
    rcases hx with e | e
    · exact .inl e
    · exact .inr ⟨e, cellsFrom_some _ _ _ (.inl e)⟩
  · refine wpAny_mono (body w s₀ s₁ { s₁ with heap := h₁, toks := tk } mg mb fa o pm cd doc a vs ns G Y ho (fd_plain hd) hcd hmg hobj hints hlen hg rfl F X) (fun f s' hq => ?_) (fun _ _ hq => hq)
    obtain ⟨rfl, h2, h3, h4⟩ := hq
    exact ⟨.inl ⟨.bool true, .bool true, [], rfl, fun _ => rfl, .bool true, post_true l _, fun _ => ⟨List.Pairwise.nil, fun _ hm => (nomatch hm)⟩⟩, h2, h3, h4⟩

/-- the same from a codeAny of the CALL (for a layer whose function contracts speak of calls) -/
theorem attach_call {l : OpenLaw} {n : Nat} {q : Program} {loose : List Str} {XP : (Str → Option Value) → Heap → Prop} {YP : World → Heap → Prop} {d : DefRec}
    (hn : l.most = some n) (hdf : d.params.defaults = [])
    (call : ∀ (w : World) (s₀ s₁ : Shared) (mg mb : Str → Option Value) (fa : Addr) (o : Obj) (pm cd doc : Value) (a : Addr) (vs : List Value) (ns : List Int),
      Ground q loose [] XP w s₀ mg mb s₁.heap → YP w s₁.heap →
      s₁.heap.get? fa = some o → o.data = .func (docDef d.name d.params d.body d.scope pm cd doc) → s₁.heap.CodeRec cd d.name → mg d.name = some (.ref fa) →
      s₁.heap.get? a = some { cls := .type "list", data := .seq vs.toArray } → IntsAre vs ns → ns.length ≤ n → s₁.gens = #[] →
      codeAny (model l.prog w) callerA (.call (.ref fa) ⟨[.ref a], []⟩) (fun r s' => r = .ok (.ret (.bool true)) ∧ OldK s₁.heap s'.heap ∧ s'.os = s₁.os ∧ AllBare s'.gens) s₁) :
    WalkO q loose XP YP l.row.toRowW d [] (fun f vs => PySem.call f vs) := by
  intro w s₀ s₁ mg mb G Y fa o pm cd doc dV kV ho hd hcd hD hmg hg args vals as hpre hlay hrd hwl hlo
  obtain rfl : dV = .none := Dflts.none hD hdf
  obtain rfl : kV = .none := Dflts.noKw hD
  obtain ⟨a, vs, ns, rfl, rfl, hobj, hints, hlen⟩ := script_of hn hpre hwl
  refine enter_call (codeAny_mono (call w s₀ s₁ mg mb fa o pm cd doc a vs ns G Y ho (fd_plain hd) hcd hmg hobj hints hlen hg) fun r s' hq => ?_)
  obtain ⟨rfl, h2, h3, h4⟩ := hq
  exact ⟨.inl ⟨.bool true, .bool true, [], rfl, fun _ => rfl, .bool true, post_true l _, fun _ => ⟨List.Pairwise.nil, fun _ hm => (nomatch hm)⟩⟩, h2, h3, h4⟩

/-- the same where the top left finished generators (o_head chose holds_openN): nothing may have changed at all and no generator may be left -/
theorem attachN {l : OpenLaw} {n : Nat} {q : Program} {loose : List Str} {XP : (Str → Option Value) → Heap → Prop} {YP : World → Heap → Prop} {d : DefRec} {x : Str}
    (hn : l.most = some n) (hdf : d.params.defaults = [])
    (hbind : ∀ pm cd doc v : Value, bindArgs (docDef d.name d.params d.body d.scope pm cd doc) ⟨[v], []⟩ = pure [(x, v)])
    (hx : d.scope.names.lookup x = some .local ∨ d.scope.names.lookup x = some .cell)
    (hk : d.scope.kind = .function) (hco : d.scope.isCoroutine = false) (hgen : d.scope.isGenerator = false)
    (body : ∀ (w : World) (s₀ s₁ s : Shared) (mg mb : Str → Option Value) (fa : Addr) (o : Obj) (pm cd doc : Value) (a : Addr) (vs : List Value) (ns : List Int),
      Ground q loose [] XP w s₀ mg mb s₁.heap → YP w s₁.heap →
      s₁.heap.get? fa = some o → o.data = .func (docDef d.name d.params d.body d.scope pm cd doc) → s₁.heap.CodeRec cd d.name → mg d.name = some (.ref fa) →
      s₁.heap.get? a = some { cls := .type "list", data := .seq vs.toArray } → IntsAre vs ns → ns.length ≤ n →
      s.gens = #[] → s.os = s₁.os →
      Fr s₁.heap s₁.heap.objs.size s.heap (bindL (envOfC d.name d.scope s₁.heap.objs.size fa cd).kindOf [(x, .ref a)] fun _ => none) →
      Cl s₁.heap.objs.size (cellsFrom (s₁.heap.objs.size + 1) d.scope.names []) s.heap (bindC (envOfC d.name d.scope s₁.heap.objs.size fa cd).kindOf [(x, .ref a)] fun _ => none) →
      wpAny (model l.prog w) (callerA.deeper (envOfC d.name d.scope s₁.heap.objs.size fa cd)) (execs d.body (envOfC d.name d.scope s₁.heap.objs.size fa cd))
        (fun f s' => f = .ret (.bool true) ∧ (∀ b o, s₁.heap.get? b = some o → s'.heap.get? b = some o) ∧ s'.os = s₁.os ∧ s'.gens = #[]) (fun _ _ => False) s) :
    WalkN q loose XP YP l.row.toRowW d [] (fun f vs => PySem.call f vs) := by
  intro w s₀ s₁ mg mb G Y fa o pm cd doc dV kV ho hd hcd hD hmg hg args vals as hpre hlay hrd hwl hlo
  obtain rfl : dV = .none := Dflts.none hD hdf
  obtain rfl : kV = .none := Dflts.noKw hD
  obtain ⟨a, vs, ns, rfl, rfl, hobj, hints, hlen⟩ := script_of hn hpre hwl
  refine enter_callW ?_
  refine call_cells_ret (o := o) (by rw [depth_caller]; decide) ho (fd_plain hd) G.T.nolimit hcd (hbind pm cd doc (.ref a)) (fun y hy => ?_) (fun h₁ tk F X => ?_) hco hgen hk
  · obtain rfl : y = (x, Value.ref a) := List.mem_singleton.mp hy
    rcases hx with e | e
    · exact .inl e
    · exact .inr ⟨e, cellsFrom_some _ _ _ (.inl e)⟩
  · refine wpAny_mono (body w s₀ s₁ { s₁ with heap := h₁, toks := tk } mg mb fa o pm cd doc a vs ns G Y ho (fd_plain hd) hcd hmg hobj hints hlen hg rfl F X) (fun f s' hq => ?_) (fun _ _ hq => hq)
    obtain ⟨rfl, h2, h3, h4⟩ := hq
    exact ⟨.inl ⟨.bool true, .bool true, [], rfl, fun _ => rfl, .bool true, post_true l _, fun _ => ⟨List.Pairwise.nil, fun _ hm => (nomatch hm)⟩⟩, h2, h3, h4⟩

/-! ### rules over ANY heap (no ledger) from facts about the written part K: the library's own take a ledger (News) for what they write -/
section
variable {prog : Program} {w : World} {A : Around} {E : Value → Shared → Prop} {s : Shared} {K : Frag}

/-- a def of the module, or a method (qual 'C.m'), entered: the frame is the next address; cells behind it -/
theorem call_fn {R : Result → Shared → Prop} {name qual : Str} {params : Arguments} {body : List Stmt} {scope : Scope} {dV kV doc pm cdv ct oc : Value} {an od : Option Addr} {osl : Array (Option Value)} {f : Addr} {args : Args} {binds : List (Str × Value)}
    (X : K.In s.heap) (hlim : s.heap.NoLimit) (ho : K.lookup f = some ⟨oc, od, .func (fnOf name qual params body scope dV kV doc pm an cdv ct), osl⟩) (hcd : codeIn K cdv qual = true) (hroom : A.depth < recursionLimit)
    (hbind : BindsTo s (fnOf name qual params body scope dV kV doc pm an cdv ct) args binds)
    (hkind : (binds.all fun y => scope.names.lookup y.1 == some .local || scope.names.lookup y.1 == some .cell) = true)
    (h : ∀ s₁, InCallC s s.heap.objs.size (bindL (envOfC qual scope s.heap.objs.size f cdv).kindOf binds fun _ => none) (cellsFrom (s.heap.objs.size + 1) scope.names [])
        (bindC (envOfC qual scope s.heap.objs.size f cdv).kindOf binds fun _ => none) s₁ →
      wpAny (model prog w) (A.deeper (envOfC qual scope s.heap.objs.size f cdv)) (execs body (envOfC qual scope s.heap.objs.size f cdv))
        (fun fl s' => R (.ok (.ret (match fl with | .ret v => v | _ => .none))) s')
        (fun e s' => wpAny (model prog w) (A.deeper (envOfC qual scope s.heap.objs.size f cdv)) (leaving (envOfC qual scope s.heap.objs.size f cdv) e) (fun _ s'' => R (.error e) s'') (fun e' s'' => R (.error e') s'') s') s₁)
    (hco : scope.isCoroutine = false) (hgen : scope.isGenerator = false) (hk : scope.kind = .function) : codeAny (model prog w) A (.call (.ref f) args) R s := by
  refine codeAny_call_function hroom (X _ _ ho) rfl hco hgen rfl (codeRec_of X hcd) (hbind _ _ _ _ ?_)
  refine wpAny_newFunctionEnv_cells hk (kindsX hkind _) fun env he s₁ x => ?_
  subst he
  exact ⟨hlim.keeps x.toInCall.keep, codeAny_func (h s₁ x)⟩

/-- C(..): dict at size, instance at size + 1, then __init__ -/
theorem make_obj {R : Result → Shared → Prop} {C fI : Addr} {rest : List Value} {kw : List (Str × Value)}
    (X : K.In s.heap) (hm : makesIn K C = true) (hi : findIn K (.ref C) "__init__" = some (some (.ref fI))) (hf : isFn K (.ref fI) = true)
    (h : codeAny (model prog w) (A.under (.builtin "type.__call__" ⟨.ref C :: rest, kw⟩)) (.call (.ref fI) ⟨.ref (s.heap.objs.size + 1) :: rest, kw⟩) (InitBack (s.heap.objs.size + 1) R)
      { s with heap := (s.heap.push emptyDict).push (instObj C s.heap.objs.size) }) : codeAny (model prog w) A (.call (.ref C) ⟨rest, kw⟩) R s := by
  obtain ⟨hh, g, d, t, os⟩ := s
  exact make_core (makes_of X hm) (looks_findIn X hi) (fun self => bind_fn X self (beq_iff_eq.mp hf)) (.inl rfl) h

/-- x.name where the instance's dict holds the name and the class does not -/
theorem get_field {x C : Addr} {ox : Obj} {es : List DictEntry} {n : Nat} {name : Str} {expr : Bool} {v : Value} {Q : Value → Shared → Prop}
    (X : K.In s.heap) (I : PySem.W.InstAt s.heap x ox C (some (dictOf es n))) (hg : plainGet K C name = true) (hh : hasDictIn K C = true) (ha : findIn K (.ref C) name = some none)
    (hl : getL name es = some (some v)) (hv : handedIn v = true) (h : Q v { s with toks := s.toks + 1 }) : wpAny (model prog w) A (getAttr (.ref x) name expr) Q E s :=
  get_value X I (plainGet_of hg).1 (findObj_own hh ha rfl hl) hv h

/-- x.m(..): the method found in the class -/
theorem get_method {x C f : Addr} {ox : Obj} {es : List DictEntry} {n : Nat} {name : Str} {pl : Sem Bool} {Q : Value × List Value → Shared → Prop}
    (X : K.In s.heap) (I : PySem.W.InstAt s.heap x ox C (some (dictOf es n))) (hg : plainGet K C name = true) (hf : findIn K (.ref C) name = some (some (.ref f))) (ht : isFn K (.ref f) = true)
    (hl : getL name es = some none) (h : Q (.ref f, [.ref x]) s) : wpAny (model prog w) A (getMethod (.ref x) name pl) Q E s :=
  method_fn X I (plainGet_of hg).1 (plainGet_of hg).2 hf (beq_iff_eq.mp ht) (by show (lookIn name (dictOf es n)).map _ = _; rw [lookIn_dict, hl]; rfl) h

/-! the whole heap as the ledger: makes every rule that writes through a ledger a rule over any heap -/
def noObjs (h : Heap) : Heap := { h with objs := #[] }
theorem noObjs_get (h : Heap) (b : Addr) : (noObjs h).get? b = none := by
  cases e : (noObjs h).get? b with
  | none => rfl
  | some o => exact absurd (Heap.lt_size e) (Nat.not_lt_zero _)
def ledger (h : Heap) (L d : Addr) : List (Addr × Obj) := (List.range h.objs.size).filterMap fun a => if a = L ∨ a = d then none else (h.get? a).map fun o => (a, o)
theorem mem_ledger {h : Heap} {L d a : Addr} {o : Obj} : (a, o) ∈ ledger h L d ↔ a ≠ L ∧ a ≠ d ∧ h.get? a = some o := by
  unfold ledger
  rw [List.mem_filterMap]
  constructor
  · rintro ⟨b, _, e⟩
    split at e
    · cases e
    · rename_i hb
      obtain ⟨o', ho, e'⟩ := Option.map_eq_some_iff.mp e
      cases e'
      exact ⟨fun q => hb (.inl q), fun q => hb (.inr q), ho⟩
  · rintro ⟨n1, n2, ho⟩
    refine ⟨a, List.mem_range.mpr (Heap.lt_size ho), ?_⟩
    rw [if_neg (show ¬ (a = L ∨ a = d) from fun q => q.elim n1 n2), ho] <;> rfl
theorem news_ledger {h : Heap} {L d : Addr} {od : Obj} (hne : d ≠ L) (ho : h.get? d = some od) : News (noObjs h) L h ([] ++ (d, od) :: ledger h L d) := by
  rintro ⟨a, o⟩ hp
  rcases List.mem_cons.mp hp with e | hp
  · cases e
    exact ⟨ho, hne, noObjs_get _ _⟩
  · obtain ⟨n1, n2, e⟩ := mem_ledger.mp hp
    exact ⟨e, n1, noObjs_get _ _⟩
theorem fr_all {h : Heap} {L : Addr} {m : Str → Option Value} (n : h.Ns L m) : Fr (noObjs h) L h m :=
  ⟨n, fun b o e => (by rw [noObjs_get] at e; cases e), Nat.zero_le _⟩
/-- Upd of the head entry (for append_K, setItem_K ..) -/
theorem upd_ledger {h : Heap} {L d : Addr} {o o' : Obj} : Upd d o o' ((d, o) :: ledger h L d) ((d, o') :: ledger h L d) :=
  .head fun ⟨_, _⟩ hp => (mem_ledger.mp hp).2.1

/-- x.name = v over any heap: L is any namespace of the heap (the frame's, say): its map stays, its object is not told; all else but the dict stays -/
theorem set_field {x C dx L : Addr} {ox : Obj} {m : Str → Option Value} {es es' : List DictEntry} {n n' : Nat} {name : Str} {v : Value} {Q : Unit → Shared → Prop}
    (X : K.In s.heap) (I : PySem.W.InstAt s.heap x ox C (some (dictOf es n))) (hd : ox.dict = some dx) (hL : s.heap.Ns L m) (hne : dx ≠ L)
    (hs : findIn K (.ref C) "__setattr__" = some (some (.builtin "object.__setattr__"))) (hp : plainOver K C = true) (ht : takerIn K C name = some none) (hh : hasDictIn K C = true) (hl : (getL name es).isSome = true)
    (e : (putL name (PyData.keyHash w.params name) (.str name (s.toks + 1)) v es, putN name es n) = (es', n')) (hz : es'.length ≤ 1000)
    (h : ∀ h' : Heap, h'.Ns L m → h'.get? dx = some (dictOf es' n') → (∀ b o, b ≠ dx → b ≠ L → s.heap.get? b = some o → h'.get? b = some o) → Q () { s with heap := h', toks := s.toks + 2 }) :
    wpAny (model prog w) A (setAttr (.ref x) name v) Q E s := by
  obtain ⟨e1, e2⟩ := Prod.mk.inj e
  have hdx : s.heap.get? dx = some (dictOf es n) := by
    have := I.dict
    rw [hd] at this
    exact this
  refine set_plain X I hs (osa_dict (s := { s with toks := s.toks + 1 }) (h₀ := noObjs s.heap) (L := L) (m := m) (od := dictOf es n) (od' := dictOf es' n') (es := es') (n := n') (pre := []) (post := ledger s.heap L dx)
    (fr_all hL) (news_ledger hne hdx) X I hd hp ht hh hl (fun _ q => nomatch q) (fun ⟨_, _⟩ q => (mem_ledger.mp q).2.1) (by rw [putName_dict, e1, e2]) rfl hz fun h' F' N' => ?_)
  exact h h' F'.ns (N'.get (List.Mem.head _)) fun b o n1 n2 ho => N'.get (List.Mem.tail _ (mem_ledger.mpr ⟨n2, n1, ho⟩))
end
end Att

namespace L2
open PySem PySem.Spec PyProof.Rows

theorem vals_ints : ∀ {vs : List Value} {ns : List Int}, IntsAre vs ns → Vals (ns.map V.int) vs
  | _, _, .nil => .nil
  | _, _, .cons n t h => .cons ⟨t, rfl⟩ (vals_ints h)

/-- nothing is tracked but the script, known to the object (or it is an object of the module) -/
def Only (H : Hp) : Prop := ∀ b, H b = none ∨ ∃ o xs, H b = some (.frz o (.lst xs))

/-- THE HEAD: the law's promise, at the heap behind the top. F, the promise of the law's def, may use that base is part of the heap (so K.In base, base.Ns mainGlobals mg stand in Mod) -/
theorem law_call {P : Program} {w : World} {K : PySem.W.Frag} {mg mb : Str → Option Value} {CX : CXT} {k : Nat} {fa a : Addr} {fd : FuncData} {x : Str} {sp : Sp} {s₁ : Shared} {vs : List Value} {ns : List Int}
    (KX : K.In s₁.heap) (hns : s₁.heap.Ns mainGlobals mg) (hb : s₁.heap.Ns builtinsNs mb) (hbb : ∀ x : Str, x ≠ "__name__" → mb x = bootBuiltins x) (hlim : s₁.heap.NoLimit) (hg : s₁.gens = #[])
    (ha : s₁.heap.get? a = some { cls := .type "list", data := .seq vs.toArray }) (hi : IntsAre vs ns) (hl : ns.length ≤ sizeLine) (hr : Room k callerA)
    (F : ∀ base : Heap, K.In base → base.Ns mainGlobals mg → FnOk P w K mg base CX k fa fd [x] sp) (hbind : ∀ (s : Shared) (u : Value), BindsTo s fd ⟨[u], []⟩ [(x, u)])
    (hsp : ∀ H : Hp, Only H → SqL K H a (ns.map V.int) → sp [.ref a] H (fun v _ => v = .bl true) fun _ _ _ => False)
    (hCX : ∀ H e s', CX [] H s₁ (fun _ _ _ => False) e s' → False) :
    codeAny (model P w) callerA (.call (.ref fa) ⟨[.ref a], []⟩) (fun r s' => r = .ok (.ret (.bool true)) ∧ OldK s₁.heap s'.heap ∧ s'.os = s₁.os ∧ AllBare s'.gens) s₁ := by
  have rv := vals_ints hi
  have lenV := hi.length
  -- from an abstract heap in which nothing but the script may be tracked
  have core : ∀ H : Hp, Only H → SqL K H a (ns.map V.int) → HOk P w H s₁.heap → (∀ b, H b ≠ none → b = a) → (H a ≠ none → K.lookup a = none) →
      codeAny (model P w) callerA (.call (.ref fa) ⟨[.ref a], []⟩) (fun r s' => r = .ok (.ret (.bool true)) ∧ OldK s₁.heap s'.heap ∧ s'.os = s₁.os ∧ AllBare s'.gens) s₁ := by
    intro H hO hS hok hA hK
    have base_of : ∀ {b : Addr} {o : Obj}, s₁.heap.get? b = some o → H b = none → (hidT s₁.heap H).get? b = some o := fun e n => hidT_get e n
    have noA : ∀ {b : Addr} {o : Obj} {es : Array DictEntry} {ep : Nat}, s₁.heap.get? b = some o → o.data = .dict es ep → H b = none := fun {b o es ep} e d => by
      cases q : H b with
      | none => rfl
      | some u =>
        have e' : b = a := hA b (by rw [q]; simp)
        subst e'
        rw [ha] at e; cases e
        have d' : Data.seq vs.toArray _ = Data.dict es ep := d
        cases d'
    have nsK : ∀ {b : Addr} {m : Str → Option Value}, s₁.heap.Ns b m → (hidT s₁.heap H).Ns b m := fun {b m} ⟨o, es, ep, e, d, r⟩ => ⟨o, es, ep, base_of e (noA e d), d, r⟩
    have hKb : K.In (hidT s₁.heap H) := fun b o e => base_of (KX b o e) (by
      cases q : H b with
      | none => rfl
      | some u =>
        have e' : b = a := hA b (by rw [q]; simp)
        subst e'
        rw [hK (by rw [q]; simp)] at e; cases e)
    have hM : Mod K mg (hidT s₁.heap H) := ⟨hKb, nsK hns, ⟨mb, nsK hb, hbb⟩, let ⟨mc, h1, h2⟩ := hlim; ⟨mc, nsK h1, h2⟩⟩
    have e0 : Env0 P w K mg (hidT s₁.heap H) callerA [] s₁ H := ⟨rfl, hM, fun b o e => of_hidT e, Nat.le_of_eq (hidT_size _ _), trivial, fun b hb => absurd (show b ∈ ([] : List Addr) from hb) (by simp), hok, .of_eq hg⟩
    refine codeAny_mono ((F _ hKb (nsK hns)).run callerA [] s₁ H ⟨[.ref a], []⟩ [.ref a] [.ref a] _ _ hr e0 (hbind s₁ (.ref a)) (.cons rfl .nil) (hsp H hO hS)) fun r s' h => ?_
    cases r with
    | error e => exact (hCX H e s' h).elim
    | ok fl =>
      cases fl with
      | next => exact False.elim h
      | brk => exact False.elim h
      | cont => exact False.elim h
      | ret u =>
        obtain ⟨v, H', os, bare, un, hok', r', q⟩ := h
        have q' : v = .bl true := q
        subst q'
        obtain rfl : u = Value.bool true := r'
        refine ⟨rfl, OldK.of_keep fun b o e => ?_, os, bare⟩
        cases q : H b with
        | none => exact un.keep b o e q (by intro z; exact absurd (show b ∈ ([] : List Addr) from z) (by simp)) (by simp)
        | some u =>
          rcases hO b with z | ⟨ob, xs, z⟩
          · rw [q] at z; cases z
          · have z2 := un.frzs b ob _ z
            obtain ⟨e1, _⟩ := hok b _ z
            obtain ⟨e2, _⟩ := hok' b _ z2
            rw [e] at e1; cases e1
            exact e2
  cases hk : K.lookup a with
  | some o =>
    -- the script is one of the module's own objects
    have e := KX a o hk
    rw [ha] at e
    cases e
    refine core (fun _ => none) (fun _ => .inl rfl) (.inr ⟨_, vs.toArray, _, hk, rfl, rfl, rfl, by rw [List.size_toArray, lenV]; exact hl, by simpa using rv⟩) (fun b u z => by have z' : (none : Option HO) = some u := z; cases z') (fun b z => absurd rfl z) fun z => absurd rfl z
  | none =>
    refine core (fun b => if b = a then some (.frz { cls := .type "list", data := .seq vs.toArray } (.lst (ns.map V.int))) else none) (fun b => ?_) (.inl (.inr ⟨{ cls := .type "list", data := .seq vs.toArray }, if_pos rfl⟩)) (fun b u z => ?_) (fun b z => ?_) fun _ => hk
    · by_cases hb : b = a
      · exact .inr ⟨_, _, if_pos hb⟩
      · exact .inl (if_neg hb)
    · by_cases hb : b = a
      · have z' := (if_pos hb).symm.trans z
        cases z'
        subst hb
        exact ⟨ha, by rw [List.length_map]; exact hl, vs, _, rv, ha⟩
      · have z' := (if_neg hb).symm.trans z
        cases z'
    · by_cases hb : b = a
      · exact hb
      · exact absurd (if_neg hb) z
end L2

namespace L2
open PySem PySem.Spec PyProof.Rows

abbrev KOf {K : PySem.W.Frag} {h : Heap} (_ : K.In h) : PySem.W.Frag := K

/-- the goal that k_head leaves (case hc), from the law's promise. F gives the function object fd (K's own) once, then the promise over every base -/
theorem walk_of {l : PySem.W.OpenLaw} {n k : Nat} {q : Program} {loose : List Str} {XP : (Str → Option Value) → Heap → Prop} {YP : World → Heap → Prop} {d : DefRec} {K : Params → PySem.W.Frag} {CX : World → CXT} {sp : World → Sp} {x : Str}
    (hn : l.most = some n) (hn2 : n ≤ sizeLine) (hdf : d.params.defaults = []) (hr : Room k callerA)
    (hY : ∀ (w : World) (h : Heap), YP w h → (K w.params).In h)
    (F : ∀ (w : World) (mg : Str → Option Value) (fa : Addr) (h : Heap), (K w.params).In h → h.Ns mainGlobals mg → mg d.name = some (.ref fa) →
      ∃ fd : FuncData, (∀ (s : Shared) (u : Value), BindsTo s fd ⟨[u], []⟩ [(x, u)]) ∧
        ∀ base : Heap, (K w.params).In base → base.Ns mainGlobals mg → FnOk l.prog w (K w.params) mg base (CX w) k fa fd [x] (sp w))
    (hsp : ∀ (w : World) (H : Hp) (a : Addr) (ns : List Int), ns.length ≤ n → Only H → SqL (K w.params) H a (ns.map V.int) → sp w [.ref a] H (fun v _ => v = .bl true) fun _ _ _ => False)
    (hCX : ∀ (w : World) (H : Hp) (s : Shared) (e : Value) (s' : Shared), CX w [] H s (fun _ _ _ => False) e s' → False) :
    PySem.W.WalkO q loose XP YP l.row.toRowW d [] (fun f vs => PySem.call f vs) := by
  refine Att.attach_call hn hdf fun w s₀ s₁ mg mb fa o pm cd doc a vs ns G Y ho hd hcd hmg hobj hints hlen hg => ?_
  have KX := hY w _ Y
  obtain ⟨fd, hb, hF⟩ := F w mg fa _ KX G.T.g hmg
  exact law_call KX G.T.g G.T.b G.T.builtins G.T.nolimit hg hobj hints (Nat.le_trans hlen hn2) hr hF hb (fun H hO hS => hsp w H a ns hlen hO hS) fun H e s' => hCX w H s₁ e s'
/-- the same where the promise hangs on the written part alone: (sp := My.sp_law), no hole under a binder -/
theorem walk_ofK {l : PySem.W.OpenLaw} {n k : Nat} {q : Program} {loose : List Str} {XP : (Str → Option Value) → Heap → Prop} {YP : World → Heap → Prop} {d : DefRec} {K : Params → PySem.W.Frag} {CX : CXT} {sp : PySem.W.Frag → Sp} {x : Str}
    (hn : l.most = some n) (hn2 : n ≤ sizeLine) (hdf : d.params.defaults = []) (hr : Room k callerA)
    (hY : ∀ (w : World) (h : Heap), YP w h → (K w.params).In h)
    (F : ∀ (w : World) (mg : Str → Option Value) (fa : Addr) (h : Heap), (K w.params).In h → h.Ns mainGlobals mg → mg d.name = some (.ref fa) →
      ∃ fd : FuncData, (∀ (s : Shared) (u : Value), BindsTo s fd ⟨[u], []⟩ [(x, u)]) ∧
        ∀ base : Heap, (K w.params).In base → base.Ns mainGlobals mg → FnOk l.prog w (K w.params) mg base CX k fa fd [x] (sp (K w.params)))
    (hsp : ∀ (K : PySem.W.Frag) (H : Hp) (a : Addr) (ns : List Int), ns.length ≤ n → Only H → SqL K H a (ns.map V.int) → sp K [.ref a] H (fun v _ => v = .bl true) fun _ _ _ => False)
    (hCX : ∀ (H : Hp) (s : Shared) (e : Value) (s' : Shared), CX [] H s (fun _ _ _ => False) e s' → False) :
    PySem.W.WalkO q loose XP YP l.row.toRowW d [] (fun f vs => PySem.call f vs) :=
  walk_of (K := K) (CX := fun _ => CX) (sp := fun w => sp (K w.params)) hn hn2 hdf hr hY F (fun w H a ns h1 h2 h3 => hsp (K w.params) H a ns h1 h2 h3) fun _ H s e s' => hCX H s e s'
end L2



/-! SHORT WORDS over the layer: a def of the text, its body, what a loop and a test want. -/
namespace L2
open PySem PySem.Spec PyProof.Rows

/-! ### the text by places -/
/-- the j-th statement of a class's body -/
def inClass (s : Stmt) (j : Nat) : Stmt := match s with
  | .ClassDef _ _ _ body _ _ _ _ _ _ _ => body.getD j (.Pass ⟨0, 0, 0, 0⟩)
  | _ => .Pass ⟨0, 0, 0, 0⟩
def defArgs (s : Stmt) : Arguments := match s with
  | .FunctionDef _ a _ _ _ _ _ _ _ _ => a
  | _ => { posonlyargs := [], args := [], vararg := none, kwonlyargs := [], kw_defaults := [], kwarg := none, defaults := [] }
def defBody (s : Stmt) : List Stmt := match s with
  | .FunctionDef _ _ b _ _ _ _ _ _ _ => b
  | _ => []
def defScope (s : Stmt) : Scope := match s with
  | .FunctionDef _ _ _ _ _ _ sc _ _ _ => sc
  | _ => { kind := .function, names := [], isGenerator := false, isCoroutine := false }

/-! ### no exception leaves a def -/
abbrev CX0 : CXT := fun _ _ _ _ _ _ => False
abbrev E0 : XK := fun _ _ _ => False
theorem pass0 {X : Cx} : Passes CX0 X E0 := fun _ _ _ _ _ _ _ h => h.elim

/-! ### a def (or method) of the text as it stands behind the top -/
structure Fun (K : PySem.W.Frag) (x qual : Str) (st : Stmt) (f : Addr) (fd : FuncData) : Prop where
  ex : ∃ (oc : Value) (od : Option Addr) (kV doc pm : Value) (an : Option Addr) (cdv ct : Value) (osl : Array (Option Value)),
    fd = PySem.W.fnOf x qual (defArgs st) (defBody st) (defScope st) .none kV doc pm an cdv ct ∧ K.lookup f = some ⟨oc, od, .func fd, osl⟩ ∧ PySem.W.codeIn K cdv qual = true
  kp : PySem.W.keepIn K (.ref f) = true
section
variable {P : Program} {w : World} {K : PySem.W.Frag} {mg : Str → Option Value} {base : Heap}
/-- THE RULE for a def: its body as a term of rules, and the reading of that term -/
theorem Fun.ok {x qual : Str} {st : Stmt} {f : Addr} {fd : FuncData} {N ps : List Str} {k : Nat} {sp : Sp} (F : Fun K x qual st f fd) (S : FnScope N ps (defScope st)) (len : ∀ vs H Q E, sp vs H Q E → vs.length = ps.length)
    (hbody : ∀ (cdv : Value) (A : Around) (outer : List Env) (s : Shared) (H : Hp) (vs : List V) (Q : VK) (E : XK), Room k (A.deeper (envOfC qual (defScope st) s.heap.objs.size f cdv)) → sp vs H Q E →
      ∃ t, PSs (cxOf CX0 P w K mg base N qual (defScope st) f cdv A outer s H E).nox (defBody st) t ∧ t { nx := fun _ H' => Q .non H', rt := Q } (start N vs) H) : FnOk P w K mg base CX0 (k + 1) f fd ps sp := by
  obtain ⟨oc, od, kV, doc, pm, an, cdv, ct, osl, rfl, lk, hcd⟩ := F.ex
  refine fn_of lk hcd S len fun A outer s H vs Q E hr hsp => ?_
  obtain ⟨t, h, q⟩ := hbody cdv A outer s H vs Q E hr hsp
  exact ⟨t, h.nox, q⟩
/-- how its arguments bind (no defaults): h is «fun _ _ _ _ _ _ us hl => match us, hl with | [_, _], _ => rfl», one _ a parameter -/
theorem Fun.binds {x qual : Str} {st : Stmt} {f : Addr} {fd : FuncData} {ps : List Str} (F : Fun K x qual st f fd)
    (h : ∀ (kV doc pm : Value) (an : Option Addr) (cdv ct : Value) (us : List Value), us.length = ps.length → bindArgs (PySem.W.fnOf x qual (defArgs st) (defBody st) (defScope st) .none kV doc pm an cdv ct) ⟨us, []⟩ = pure (ps.zip us)) : Binds K fd ps [] := by
  obtain ⟨oc, od, kV, doc, pm, an, cdv, ct, osl, rfl, lk, hcd⟩ := F.ex
  exact .all (h kV doc pm an cdv ct)
theorem fun_mk {x qual : Str} {st : Stmt} {f : Addr} {oc : Value} {od an : Option Addr} {osl : Array (Option Value)} {kV doc pm cdv ct : Value} (l : K.lookup f = some ⟨oc, od, .func (PySem.W.fnOf x qual (defArgs st) (defBody st) (defScope st) .none kV doc pm an cdv ct), osl⟩)
    (c : PySem.W.codeIn K cdv qual = true) (k : PySem.W.keepIn K (.ref f) = true) : Fun K x qual st f (PySem.W.fnOf x qual (defArgs st) (defBody st) (defScope st) .none kV doc pm an cdv ct) := ⟨⟨oc, od, kV, doc, pm, an, cdv, ct, osl, rfl, l, c⟩, k⟩
end
theorem hu_of {A : Around} {k : Nat} (hr : Room k A) : A.units + 1 < cLine := Nat.lt_of_le_of_lt (Nat.add_le_add_left (by decide : 1 ≤ 64) _) hr.units
theorem small1000 {n : Nat} (h : n ≤ 1000) : n < sizeLine := Nat.lt_of_le_of_lt h (by decide)

/-! ### expressions in short: the name that stands in the i-th slot -/
section
variable {X : Cx}
theorem pv (i : Nat) {x : Str} {pos : Pos} (hN : X.N[i]? = some x := by rfl) (hv : Vis X.env.scope x := by first | exact Or.inl rfl | exact Or.inr (Or.inl rfl) | exact Or.inr (Or.inr rfl)) (hd : (x == ("__debug__" : Str)) = false := by decide)
    (hcd : (x == ("__classdict__" : Str)) = false := by decide) : PE X (.Name x pos) (tVar i) := pe_var hN hv hd hcd
end

/-! ### tests -/
theorem iteF {A B : Prop} (h : B) : if false = true then A else B := by
  rw [if_neg Bool.false_ne_true]
  exact h
theorem iteT {A B : Prop} (h : A) : if true = true then A else B := by
  rw [if_pos rfl]
  exact h
theorem ite2 {c A B : Prop} [Decidable c] (h1 : c → A) (h2 : ¬ c → B) : if c then A else B := by
  by_cases h : c
  · rw [if_pos h]
    exact h1 h
  · rw [if_neg h]
    exact h2 h
theorem iteNS {c A B : Prop} [Decidable c] (hc : c) (h : B) : if (!decide c) = true then A else B := by
  rw [decide_eq_true hc]
  exact iteF h

/-! ### heaps -/
/-- all that was tracked is as it was -/
def Same (H H' : Hp) : Prop := ∀ b o, H b = some o → H' b = some o
theorem Same.refl (H : Hp) : Same H H := fun _ _ h => h
theorem Same.trans {H H1 H2 : Hp} (a : Same H H1) (b : Same H1 H2) : Same H H2 := fun c o h => b c o (a c o h)
theorem Same.free {H H' : Hp} (e : Same H H') {l : Addr} (h : H' l = Option.none) : H l = Option.none := by
  cases q : H l with
  | none => rfl
  | some o =>
    rw [e l o q] at h
    cases h
theorem Same.seq {K : PySem.W.Frag} {H H' : Hp} {a : Addr} {xs : List V} (e : Same H H') (h : SqL K H a xs) : SqL K H' a xs := by
  rcases h with (h | ⟨o, h⟩) | h
  · exact .inl (.inl (e _ _ h))
  · exact .inl (.inr ⟨o, e _ _ h⟩)
  · exact .inr h

end L2

set_option maxRecDepth 100000
namespace L2
open PySem PySem.Spec PyProof.Rows

/-! ### lists of pairs as tables -/
section
variable {κ : Type} [DecidableEq κ]
def valV (kvs : List (κ × V)) (k : κ) : Option V := (kvs.find? fun kv => decide (kv.1 = k)).map (·.2)
/-- in its place, or at the end -/
def putK (kvs : List (κ × V)) (k : κ) (v : V) : List (κ × V) :=
  if (kvs.any fun kv => decide (kv.1 = k)) = true then kvs.map (fun kv => if kv.1 = k then (kv.1, v) else kv) else kvs ++ [(k, v)]
def dropK (kvs : List (κ × V)) (k : κ) : List (κ × V) := kvs.filter fun kv => decide (kv.1 ≠ k)

theorem valV_nil {k : κ} : valV ([] : List (κ × V)) k = none := rfl
theorem valV_pos {p : κ × V} {r : List (κ × V)} {k : κ} (e : p.1 = k) : valV (p :: r) k = some p.2 := by simp [valV, List.find?_cons, e]
theorem valV_neg {p : κ × V} {r : List (κ × V)} {k : κ} (e : ¬ p.1 = k) : valV (p :: r) k = valV r k := by simp [valV, List.find?_cons, e]
theorem valV_any (k : κ) : ∀ kvs : List (κ × V), (kvs.any fun kv => decide (kv.1 = k)) = (valV kvs k).isSome
  | [] => rfl
  | p :: r => by
    rw [List.any_cons]
    by_cases e : p.1 = k
    · simp only [valV_pos e, decide_eq_true e, Bool.true_or, Option.isSome_some]
    · rw [valV_neg e, decide_eq_false e, Bool.false_or]; exact valV_any k r
theorem valV_map (k j : κ) (y : V) : ∀ kvs : List (κ × V), valV (kvs.map fun kv => if kv.1 = k then (kv.1, y) else kv) j = (valV kvs j).map fun x => if j = k then y else x
  | [] => rfl
  | p :: r => by
    have ih := valV_map k j y r
    rw [List.map_cons]
    by_cases h : p.1 = k
    · rw [if_pos h]
      by_cases e : p.1 = j
      · rw [valV_pos (p := (p.1, y)) e, valV_pos e, Option.map_some, if_pos (e.symm.trans h)]
      · rw [valV_neg (p := (p.1, y)) e, valV_neg e, ih]
    · rw [if_neg h]
      by_cases e : p.1 = j
      · rw [valV_pos (p := p) e, valV_pos e, Option.map_some, if_neg (fun z => h (e.trans z))]
      · rw [valV_neg (p := p) e, valV_neg e, ih]
theorem valV_snoc (k j : κ) (y : V) : ∀ kvs : List (κ × V), valV kvs k = none → valV (kvs ++ [(k, y)]) j = if j = k then some y else valV kvs j
  | [], _ => by
    by_cases e : k = j
    · rw [if_pos e.symm]; exact valV_pos (p := (k, y)) e
    · rw [if_neg (fun z => e z.symm)]; exact valV_neg (p := (k, y)) e
  | p :: r, hn => by
    rw [List.cons_append]
    have hk : ¬ p.1 = k := fun z => by rw [valV_pos z] at hn; cases hn
    rw [valV_neg hk] at hn
    have ih := valV_snoc k j y r hn
    by_cases e : p.1 = j
    · rw [valV_pos e, valV_pos e, if_neg (fun z => hk (e.trans z))]
    · rw [valV_neg e, valV_neg e, ih]
theorem valV_put (kvs : List (κ × V)) (k j : κ) (y : V) : valV (putK kvs k y) j = if j = k then some y else valV kvs j := by
  unfold putK
  by_cases a : (kvs.any fun kv => decide (kv.1 = k)) = true
  · rw [if_pos a, valV_map]
    rw [valV_any] at a
    by_cases e : j = k
    · obtain ⟨x, hx⟩ := Option.isSome_iff_exists.mp a
      rw [if_pos e, e, hx, Option.map_some, if_pos rfl]
    · rw [if_neg e]
      cases valV kvs j with
      | none => rfl
      | some x => rw [Option.map_some, if_neg e]
  · rw [if_neg a]
    refine valV_snoc k j y kvs ?_
    rw [valV_any] at a
    cases q : valV kvs k with
    | none => rfl
    | some x => rw [q] at a; exact (a rfl).elim
theorem length_putK (kvs : List (κ × V)) (k : κ) (v : V) : (putK kvs k v).length ≤ kvs.length + 1 := by
  unfold putK
  split
  · rw [List.length_map]; omega
  · rw [List.length_append, List.length_cons, List.length_nil]; omega
theorem putK_new {kvs : List (κ × V)} {k : κ} (v : V) (h : valV kvs k = none) : putK kvs k v = kvs ++ [(k, v)] := by
  unfold putK
  rw [valV_any, h]
  exact if_neg (by decide)

theorem RelO.isSome_eq {o : Option V} {u : Option Value} (r : RelO o u) : o.isSome = u.isSome := by
  cases o with
  | none => cases u with
    | none => rfl
    | some _ => exact (show False from r).elim
  | some _ => cases u with
    | none => exact (show False from r).elim
    | some _ => rfl
theorem RelO.getD {o : Option V} {u : Option Value} {d : V} {d' : Value} (r : RelO o u) (rd : RelV d d') : RelV (o.getD d) (u.getD d') := by
  cases o with
  | none => cases u with
    | none => exact rd
    | some _ => exact (show False from r).elim
  | some _ => cases u with
    | none => exact (show False from r).elim
    | some _ => exact r

/-- raw tables of the same keys -/
theorem KV.val {kvs : List (κ × V)} {vs : List (κ × Value)} (r : KV kvs vs) (k : κ) : RelO (valV kvs k) (valueAt vs k) := by
  unfold KV at r
  induction r with
  | nil => exact True.intro
  | @cons p q ps qs h t ih =>
    obtain ⟨h1, h2⟩ := h
    by_cases e : p.1 = k
    · have e' : q.1 = k := h1.symm.trans e
      have b : valueAt (q :: qs) k = some q.2 := by simp [valueAt, List.find?_cons, e']
      rw [valV_pos e, b]; exact h2
    · have e' : ¬ q.1 = k := fun z => e (h1.trans z)
      have b : valueAt (q :: qs) k = valueAt qs k := by simp [valueAt, List.find?_cons, e']
      rw [valV_neg e, b]; exact ih
theorem KV.any {kvs : List (κ × V)} {vs : List (κ × Value)} (r : KV kvs vs) (k : κ) : (kvs.any fun kv => decide (kv.1 = k)) = vs.any fun kv => decide (kv.1 = k) := by
  unfold KV at r
  induction r with
  | nil => rfl
  | cons h t ih => rw [List.any_cons, List.any_cons, ih, h.1]
theorem KV.repl {kvs : List (κ × V)} {vs : List (κ × Value)} (r : KV kvs vs) (k : κ) {y : V} {u : Value} (ry : RelV y u) :
    KV (kvs.map fun kv => if kv.1 = k then (kv.1, y) else kv) (vs.map fun kv => if kv.1 = k then (kv.1, u) else kv) := by
  unfold KV at r ⊢
  induction r with
  | nil => exact .nil
  | @cons p q ps qs h t ih =>
    rw [List.map_cons, List.map_cons]
    refine .cons ?_ ih
    obtain ⟨h1, h2⟩ := h
    by_cases e : p.1 = k
    · rw [if_pos e, if_pos (h1.symm.trans e)]; exact ⟨h1, ry⟩
    · rw [if_neg e, if_neg (fun z => e (h1.trans z))]; exact ⟨h1, h2⟩
theorem KV.put {kvs : List (κ × V)} {vs : List (κ × Value)} (r : KV kvs vs) (k : κ) {y : V} {u : Value} (ry : RelV y u) : KV (putK kvs k y) (stored vs k u) := by
  unfold putK stored
  rw [r.any k]
  by_cases e : (vs.any fun kv => decide (kv.1 = k)) = true
  · rw [if_pos e, if_pos e]; exact r.repl k ry
  · rw [if_neg e, if_neg e]; exact Paired.snoc r ⟨rfl, ry⟩
theorem KV.drop {kvs : List (κ × V)} {vs : List (κ × Value)} (r : KV kvs vs) (k : κ) : KV (dropK kvs k) (without vs k) := by
  unfold KV at r ⊢
  unfold dropK without
  induction r with
  | nil => exact .nil
  | @cons p q ps qs h t ih =>
    obtain ⟨h1, h2⟩ := h
    rw [List.filter_cons, List.filter_cons]
    by_cases e : p.1 = k
    · have a : ¬ decide (p.1 ≠ k) = true := by simp [e]
      have b : ¬ decide (q.1 ≠ k) = true := by simp [h1.symm.trans e]
      rw [if_neg a, if_neg b]; exact ih
    · have e' : ¬ q.1 = k := fun z => e (h1.trans z)
      have a : decide (p.1 ≠ k) = true := by simp [e]
      have b : decide (q.1 ≠ k) = true := by simp [e']
      rw [if_pos a, if_pos b]; exact .cons ⟨h1, h2⟩ ih
theorem KV.keys {kvs : List (κ × V)} {vs : List (κ × Value)} (r : KV kvs vs) : kvs.map (·.1) = vs.map (·.1) := by
  unfold KV at r
  induction r with
  | nil => rfl
  | cons h t ih => rw [List.map_cons, List.map_cons, ih, h.1]
theorem KV.length {kvs : List (κ × V)} {vs : List (κ × Value)} (r : KV kvs vs) : kvs.length = vs.length := Paired.length r
theorem dropK_le (kvs : List (κ × V)) (k : κ) : (dropK kvs k).length ≤ kvs.length := List.length_filter_le _ _
end


/-! ### a tracked dict, its keys ints and texts or tuples of these -/
theorem kV_is {P : Program} {w : World} {k : Key} {u : Value} (r : RelV (kV k) u) : (mixKind P w).is k u = true := by
  cases k with
  | inl i => obtain ⟨t, e⟩ := (show ∃ t, u = Value.int i t from r); subst e; exact mixKind_int P w i t
  | inr x => obtain ⟨t, e⟩ := (show ∃ t, u = Value.str x t from r); subst e; exact mixKind_str P w x t
theorem kV_inj {a b : Key} (e : kV a = kV b) : a = b := by
  cases a with
  | inl i => cases b with
    | inl j => have e' : V.int i = V.int j := e; injection e' with e'; rw [e']
    | inr y => exact nomatch (show V.int i = V.str y from e)
  | inr x => cases b with
    | inl j => exact nomatch (show V.str x = V.int j from e)
    | inr y => have e' : V.str x = V.str y := e; injection e' with e'; rw [e']
theorem kVs_inj : ∀ {a b : List Key}, a.map kV = b.map kV → a = b
  | [], [], _ => rfl
  | [], _ :: _, e => by simp at e
  | _ :: _, [], e => by simp at e
  | x :: xs, y :: ys, e => by
    rw [List.map_cons, List.map_cons] at e
    injection e with e1 e2
    rw [kV_inj e1, kVs_inj e2]
theorem items_are {P : Program} {w : World} : ∀ {ks : List Key} {us : List Value}, Vals (ks.map kV) us → ItemsAre (mixKind P w) ks us
  | [], _, r => by rw [List.map_nil] at r; cases r; exact .nil
  | k :: ks, _, r => by
    rw [List.map_cons] at r
    cases r with
    | cons h t => exact .cons (kV_is h) (items_are t)

/-- raw entries of a dict with tuple keys -/
abbrev KT (H : Hp) : List (List Key × V) → List (List Key × Addr × Value) → Prop := Paired fun p q => p.1 = q.1 ∧ H q.2.1 = some (.tup (p.1.map kV)) ∧ RelV p.2 q.2.2
theorem KT.val {H : Hp} {kvs : List (List Key × V)} {xs : List (List Key × Addr × Value)} (r : KT H kvs xs) (k : List Key) : RelO (valV kvs k) ((atKey xs k).map (·.2)) := by
  induction r with
  | nil => exact True.intro
  | @cons p q ps qs h t ih =>
    obtain ⟨h1, _, h2⟩ := h
    by_cases e : p.1 = k
    · have e' : q.1 = k := h1.symm.trans e
      have b : atKey (q :: qs) k = some q.2 := by simp [atKey, List.find?_cons, e']
      rw [valV_pos e, b]; exact h2
    · have e' : ¬ q.1 = k := fun z => e (h1.trans z)
      have b : atKey (q :: qs) k = atKey qs k := by simp [atKey, List.find?_cons, e']
      rw [valV_neg e, b]; exact ih
theorem KT.repl {H : Hp} {kvs : List (List Key × V)} {xs : List (List Key × Addr × Value)} (r : KT H kvs xs) (k : List Key) {y : V} {u : Value} (ry : RelV y u) :
    KT H (kvs.map fun kv => if kv.1 = k then (kv.1, y) else kv) (xs.map (putAt k u)) := by
  induction r with
  | nil => exact .nil
  | @cons p q ps qs h t ih =>
    rw [List.map_cons, List.map_cons]
    refine .cons ?_ ih
    obtain ⟨h1, h2, h3⟩ := h
    unfold putAt
    by_cases e : p.1 = k
    · rw [if_pos e, if_pos (h1.symm.trans e)]; exact ⟨h1, h2, ry⟩
    · rw [if_neg e, if_neg (fun z => e (h1.trans z))]; exact ⟨h1, h2, h3⟩
theorem KT.put {H : Hp} {kvs : List (List Key × V)} {xs : List (List Key × Addr × Value)} (r : KT H kvs xs) (k : List Key) {b : Addr} {y : V} {u : Value} (hb : H b = some (.tup (k.map kV))) (ry : RelV y u) :
    KT H (putK kvs k y) (storedH xs k b u) := by
  have e : (kvs.any fun kv => decide (kv.1 = k)) = (atKey xs k).isSome := by
    rw [valV_any, (r.val k).isSome_eq, Option.isSome_map]
  unfold putK storedH
  rw [e]
  by_cases q : (atKey xs k).isSome = true
  · rw [if_pos q, if_pos q]; exact r.repl k ry
  · rw [if_neg q, if_neg q]; exact Paired.snoc r ⟨rfl, hb, ry⟩
theorem KT.keeps {H H' : Hp} {kvs : List (List Key × V)} {xs : List (List Key × Addr × Value)} (r : KT H kvs xs) (ht : ∀ b ys, H b = some (.tup ys) → H' b = some (.tup ys)) : KT H' kvs xs :=
  Paired.mapP r fun _ _ z => ⟨z.1, ht _ _ z.2.1, z.2.2⟩

section
variable {P : Program} {w : World} {H : Hp} {h : Heap} {a : Addr}
theorem rd_of {u : HO} (ok : HOk P w H h) (e : Rd H a u) : ObjOk P w H h a u := e.ok ok
theorem dk_rd {kvs : List (Key × V)} (ok : HOk P w H h) (e : Rd H a (.dK kvs)) : kvs.length ≤ sizeLine ∧ (a == sysModules) = false ∧ ∃ vs, KV kvs vs ∧ h.DictOf (mixKind P w) a vs :=
  show ObjOk P w H h a (.dK kvs) from rd_of ok e
theorem dk_of {kvs : List (Key × V)} (ok : HOk P w H h) (e : H a = some (.dK kvs)) : kvs.length ≤ sizeLine ∧ (a == sysModules) = false ∧ ∃ vs, KV kvs vs ∧ h.DictOf (mixKind P w) a vs := dk_rd ok (.inl e)
/-- a tracked tuple of ints and texts is a key -/
theorem key_of {ks : List Key} (ok : HOk P w H h) (e : H a = some (.tup (ks.map kV))) : (tupleKind (mixKind P w)).is h ks a := by
  obtain ⟨_, its, r, o, h1, h2, n, h3⟩ := (show ObjOk P w H h a (.tup (ks.map kV)) from ok a _ e)
  exact ⟨o, its.toArray, n, h1, h2, h3, by simpa using items_are r⟩
theorem dt_rd {kvs : List (List Key × V)} (ok : HOk P w H h) (e : Rd H a (.dT kvs)) : kvs.length ≤ sizeLine ∧ (a == sysModules) = false ∧
    ∃ xs, KT H kvs xs ∧ h.DictOfH (tupleKind (mixKind P w)) a xs := by
  obtain ⟨z, y, xs, r, o, es, ep, h1, h2, h3, h4, h5⟩ := (show ObjOk P w H h a (.dT kvs) from rd_of ok e)
  refine ⟨z, y, xs, r, o, es, ep, h1, h2, h3, h4, fun x hx => ?_, h5⟩
  have all : ∀ {l : List (List Key × V)} {m : List (List Key × Addr × Value)}, KT H l m → ∀ x ∈ m, (tupleKind (mixKind P w)).is h x.1 x.2.1 := by
    intro l m q
    induction q with
    | nil => intro x hx; exact nomatch hx
    | @cons p q ps qs hq t ih =>
      intro x hx
      rcases List.mem_cons.mp hx with e | hx
      · subst e
        exact key_of ok (by rw [← hq.1]; exact hq.2.1)
      · exact ih x hx
  exact all r x hx
theorem dt_of {kvs : List (List Key × V)} (ok : HOk P w H h) (e : H a = some (.dT kvs)) : kvs.length ≤ sizeLine ∧ (a == sysModules) = false ∧
    ∃ xs, KT H kvs xs ∧ h.DictOfH (tupleKind (mixKind P w)) a xs := dt_rd ok (.inl e)
end

/-- what the dict at a holds at the key y -/
def DGet (H : Hp) (a : Addr) (y : V) (r : Option V) : Prop :=
  (∃ kvs k, Rd H a (.dK kvs) ∧ y = kV k ∧ r = valV kvs k) ∨ ∃ kvs k b, Rd H a (.dT kvs) ∧ y = .ref b ∧ H b = some (.tup (k.map kV)) ∧ r = valV kvs k
/-- the heap behind a[y] = v -/
def DPut (H : Hp) (a : Addr) (y v : V) (H' : Hp) : Prop :=
  (∃ kvs k, H a = some (.dK kvs) ∧ y = kV k ∧ kvs.length < sizeLine ∧ H' = upd H a (.dK (putK kvs k v))) ∨
  ∃ kvs k b, H a = some (.dT kvs) ∧ y = .ref b ∧ H b = some (.tup (k.map kV)) ∧ kvs.length < sizeLine ∧ H' = upd H a (.dT (putK kvs k v))
theorem DGet.k {H : Hp} {a : Addr} {kvs : List (Key × V)} {k : Key} (e : H a = some (.dK kvs)) : DGet H a (kV k) (valV kvs k) := .inl ⟨kvs, k, .inl e, rfl, rfl⟩
theorem DGet.t {H : Hp} {a b : Addr} {kvs : List (List Key × V)} {k : List Key} (e : H a = some (.dT kvs)) (eb : H b = some (.tup (k.map kV))) : DGet H a (.ref b) (valV kvs k) := .inr ⟨kvs, k, b, .inl e, rfl, eb, rfl⟩
theorem DPut.k {H : Hp} {a : Addr} {kvs : List (Key × V)} {k : Key} {v : V} (e : H a = some (.dK kvs)) (hl : kvs.length < sizeLine) : DPut H a (kV k) v (upd H a (.dK (putK kvs k v))) := .inl ⟨kvs, k, e, rfl, hl, rfl⟩
theorem DPut.t {H : Hp} {a b : Addr} {kvs : List (List Key × V)} {k : List Key} {v : V} (e : H a = some (.dT kvs)) (eb : H b = some (.tup (k.map kV))) (hl : kvs.length < sizeLine) :
    DPut H a (.ref b) v (upd H a (.dT (putK kvs k v))) := .inr ⟨kvs, k, b, e, rfl, eb, hl, rfl⟩


section
variable {X : Cx} {pins : List (Addr × Obj)} {σ : St} {H : Hp} {s : Shared} {a : Addr} {y v : V} {u r : Value} {o : Option V} {A : Around} {E : Value → Shared → Prop}

theorem Inv.big (I : Inv X pins σ H s) : sysModules < s.heap.objs.size := by
  have h : mainGlobals < s.heap.objs.size := (I.mod.glob.keeps I.bk).lt
  exact Nat.lt_trans (by decide) h

/-- d[y], there -/
theorem d_getItem {Q : Value → Shared → Prop} (hu : A.units + 1 < cLine) (I : Inv X pins σ H s) (g : DGet H a y (some v)) (ry : RelV y u) (h : ∀ w' s', Inv X pins σ H s' → RelV v w' → Q w' s') :
    wpAny (model X.prog X.w) A (getItem (.ref a) u) Q E s := by
  rcases g with ⟨kvs, k, e, ey, l⟩ | ⟨kvs, k, b, e, ey, eb, l⟩
  · subst ey
    obtain ⟨z, hd, vs, rel, dd⟩ := dk_rd I.hok e
    obtain ⟨w', hw, rw'⟩ := RelO.some_of (v := v) (o := valueAt vs k) (by rw [l]; exact rel.val k)
    exact wpAny_getItem_of (kV_is ry) dd.mapOf hw (h w' _ (I.tok _) rw')
  · subst ey
    cases (show u = Value.ref b from ry)
    obtain ⟨z, hd, xs, rel, dd⟩ := dt_rd I.hok e
    obtain ⟨w', hw, rw'⟩ := RelO.some_of (v := v) (o := (atKey xs k).map (·.2)) (by rw [l]; exact rel.val k)
    obtain ⟨p, hp, hp2⟩ := Option.map_eq_some_iff.mp hw
    refine wpAny_getItem_heap (tupleKind_room_in1 hu) (key_of I.hok eb) dd hp ?_
    rw [hp2]
    exact h w' _ (I.tok _) rw'
/-- y in d -/
theorem d_in {Q : Value → Shared → Prop} (hu : A.units + 1 < cLine) (I : Inv X pins σ H s) (g : DGet H a y o) (ry : RelV y u) (h : ∀ s', Inv X pins σ H s' → Q (.bool o.isSome) s') :
    wpAny (model X.prog X.w) A (compareOp .In u (.ref a)) Q E s := by
  rcases g with ⟨kvs, k, e, ey, l⟩ | ⟨kvs, k, b, e, ey, eb, l⟩
  · subst ey
    obtain ⟨z, hd, vs, rel, dd⟩ := dk_rd I.hok e
    refine wpAny_in_of (kV_is ry) hd dd.mapOf ?_
    rw [← (rel.val k).isSome_eq, ← l]
    exact h _ (I.tok _)
  · subst ey
    cases (show u = Value.ref b from ry)
    obtain ⟨z, hd, xs, rel, dd⟩ := dt_rd I.hok e
    refine wpAny_in_heap (tupleKind_room_in1 hu) (key_of I.hok eb) hd dd ?_
    have q := (rel.val k).isSome_eq
    rw [Option.isSome_map] at q
    rw [← q, ← l]
    exact h _ (I.tok _)
theorem d_notIn {Q : Value → Shared → Prop} (hu : A.units + 1 < cLine) (I : Inv X pins σ H s) (g : DGet H a y o) (ry : RelV y u) (h : ∀ s', Inv X pins σ H s' → Q (.bool (!o.isSome)) s') :
    wpAny (model X.prog X.w) A (compareOp .NotIn u (.ref a)) Q E s := by
  rcases g with ⟨kvs, k, e, ey, l⟩ | ⟨kvs, k, b, e, ey, eb, l⟩
  · subst ey
    obtain ⟨z, hd, vs, rel, dd⟩ := dk_rd I.hok e
    refine wpAny_notIn_of (kV_is ry) hd dd.mapOf ?_
    rw [← (rel.val k).isSome_eq, ← l]
    exact h _ (I.tok _)
  · subst ey
    cases (show u = Value.ref b from ry)
    obtain ⟨z, hd, xs, rel, dd⟩ := dt_rd I.hok e
    refine wpAny_notIn_heap (tupleKind_room_in1 hu) (key_of I.hok eb) hd dd ?_
    have q := (rel.val k).isSome_eq
    rw [Option.isSome_map] at q
    rw [← q, ← l]
    exact h _ (I.tok _)
/-- a dict's object is replaced -/
theorem d_write {h' : Heap} {t' : Nat} {ob : HO} (I : Inv X pins σ H s) (mu : Mut (H a)) (hs : Heap.SameBut a s.heap h') (he : ∃ q, h'.get? a = some q) (new : ObjOk X.prog X.w (upd H a ob) h' a ob) :
    Inv X pins σ (upd H a ob) { s with heap := h', toks := t' } :=
  I.write (x := a) (e := a) mu (.inl rfl) (fun b q hb z => (hs.2 b hb).trans z) he new
theorem dk_new {P : Program} {w : World} {H' : Hp} {h' : Heap} {kvs : List (Key × V)} {vs : List (Key × Value)} (z : kvs.length ≤ sizeLine) (hd : (a == sysModules) = false) (rel : KV kvs vs) (dd : h'.DictOf (mixKind P w) a vs) :
    ObjOk P w H' h' a (.dK kvs) := ⟨z, hd, vs, rel, dd⟩
/-- d[y] = v -/
theorem d_setItem {H' : Hp} {Q : Unit → Shared → Prop} (hu : A.units + 1 < cLine) (I : Inv X pins σ H s) (g : DPut H a y v H') (ry : RelV y u) (rv : RelV v r) (h : ∀ s', Inv X pins σ H' s' → Q () s') :
    wpAny (model X.prog X.w) A (setItem (.ref a) u r) Q E s := by
  rcases g with ⟨kvs, k, e, ey, l, eH⟩ | ⟨kvs, k, b, e, ey, eb, l, eH⟩
  · subst ey eH
    obtain ⟨z, hd, vs, rel, dd⟩ := dk_of I.hok e
    have hz : vs.length ≤ sizeLine := by rw [← rel.length]; exact z
    have hl : (putK kvs k v).length ≤ sizeLine := by have := length_putK kvs k v; omega
    refine wpAny_setItem_pairs (hsz := hz) (kV_is ry) dd fun h' dd' hs => h _ ?_
    have he : ∃ q, h'.get? a = some q := let ⟨q, _, _, hq, _⟩ := dd'; ⟨q, hq⟩
    exact d_write I (by rw [e]; exact True.intro) hs he (dk_new hl hd (rel.put k rv) dd')
  · subst ey eH
    cases (show u = Value.ref b from ry)
    obtain ⟨z, hd, xs, rel, dd⟩ := dt_of I.hok e
    have hz : xs.length ≤ sizeLine := by rw [← Paired.length rel]; exact z
    have hl : (putK kvs k v).length ≤ sizeLine := by have := length_putK kvs k v; omega
    refine wpAny_setItem_heap (hsz := hz) (tupleKind_room_in1 hu) (key_of I.hok eb) dd fun h' dd' hs => h _ ?_
    obtain ⟨q, es, ep, hq, h2, h3, h4, _, h5⟩ := dd'
    refine d_write I (by rw [e]; exact True.intro) hs ⟨q, hq⟩ ⟨hl, hd, _, (rel.put k eb rv).keeps fun c ys ec => ?_, q, es, ep, hq, h2, h3, h4, h5⟩
    rw [upd_ne (ne_of ec e (fun z => nomatch z))]
    exact ec
end

section
variable {X : Cx} {pins : List (Addr × Obj)} {σ : St} {H : Hp} {s : Shared} {a : Addr} {kvs : List (Key × V)} {k : Key} {u : Value} {A : Around} {E : Value → Shared → Prop}
/-- del d[k] -/
theorem d_delItem {Q : Unit → Shared → Prop} (I : Inv X pins σ H s) (e : H a = some (.dK kvs)) (ry : RelV (kV k) u) (l : (valV kvs k).isSome = true) (h : ∀ s', Inv X pins σ (upd H a (.dK (dropK kvs k))) s' → Q () s') :
    wpAny (model X.prog X.w) A (delItem (.ref a) u) Q E s := by
  obtain ⟨z, hd, vs, rel, dd⟩ := dk_of I.hok e
  refine wpAny_delItem_slot dd.typeIs (by decide) PySem.F.slot_dict_delitem
    (call_meetsIn PySem.F.slot_dict_delitem dd.typeIs PySem.F.entry_dict_delitem (PySem.F.args_dict_delitem_2 _ _) (meets_dict_delitem_pairs (mixKind X.prog X.w) a (kV_is ry)) ⟨vs, dd, by rw [← rel.length]; exact z, by rw [← (rel.val k).isSome_eq]; exact l, fun h' dd' hs => h _ ?_⟩)
  have he : ∃ q, h'.get? a = some q := let ⟨q, _, _, hq, _⟩ := dd'; ⟨q, hq⟩
  exact d_write I (by rw [e]; exact True.intro) hs he (dk_new (Nat.le_trans (dropK_le kvs k) z) hd (rel.drop k) dd')
/-- d.pop(k[, x]), there -/
theorem d_pop {v : V} {more : List Value} {Q : Value → Shared → Prop} (I : Inv X pins σ H s) (e : H a = some (.dK kvs)) (ry : RelV (kV k) u) (l : valV kvs k = some v) (hm : more = [] ∨ ∃ x, more = [x])
    (h : ∀ w' s', Inv X pins σ (upd H a (.dK (dropK kvs k))) s' → RelV v w' → Q w' s') : wpAny (model X.prog X.w) A (call (.builtin "dict.pop") (.ref a :: u :: more)) Q E s := by
  obtain ⟨z, hd, vs, rel, dd⟩ := dk_of I.hok e
  obtain ⟨w', hw, rw'⟩ := RelO.some_of (v := v) (o := valueAt vs k) (by rw [← l]; exact rel.val k)
  have hp : (keyPart u).isSome = true := by
    cases k with
    | inl i => obtain ⟨t, q⟩ := (show ∃ t, u = Value.int i t from ry); subst q; rfl
    | inr x => obtain ⟨t, q⟩ := (show ∃ t, u = Value.str x t from ry); subst q; rfl
  have ha : argsOk "dict.pop" ⟨.ref a :: u :: more, []⟩ := by
    rcases hm with q | ⟨x, q⟩
    · subst q; exact PySem.F.args_dict_pop_2 _ _
    · subst q; exact PySem.F.args_dict_pop_3 _ _ _
  refine call_meetsIn PySem.F.slot_dict_pop dd.typeIs PySem.F.entry_dict_pop ha (meets_dict_pop_there (mixKind X.prog X.w) a (kV_is ry) more hm hp)
    ⟨vs, w', dd, by rw [← rel.length]; exact z, hw, fun h' dd' hs => h w' _ ?_ rw'⟩
  have he : ∃ q, h'.get? a = some q := let ⟨q, _, _, hq, _⟩ := dd'; ⟨q, hq⟩
  exact d_write I (by rw [e]; exact True.intro) hs he (dk_new (Nat.le_trans (dropK_le kvs k) z) hd (rel.drop k) dd')
/-- d.pop(k, x), not there -/
theorem d_popD {r : Value} {Q : Value → Shared → Prop} (I : Inv X pins σ H s) (e : H a = some (.dK kvs)) (ry : RelV (kV k) u) (l : valV kvs k = none) (h : ∀ s', Inv X pins σ H s' → Q r s') :
    wpAny (model X.prog X.w) A (call (.builtin "dict.pop") [.ref a, u, r]) Q E s := by
  obtain ⟨z, hd, vs, rel, dd⟩ := dk_of I.hok e
  have hn : valueAt vs k = none := RelO.none_of (by rw [← l]; exact rel.val k)
  have hp : (keyPart u).isSome = true := by
    cases k with
    | inl i => obtain ⟨t, q⟩ := (show ∃ t, u = Value.int i t from ry); subst q; rfl
    | inr x => obtain ⟨t, q⟩ := (show ∃ t, u = Value.str x t from ry); subst q; rfl
  exact call_meetsIn PySem.F.slot_dict_pop dd.typeIs PySem.F.entry_dict_pop (PySem.F.args_dict_pop_3 _ _ _) (meets_dict_pop_default (mixKind X.prog X.w) a (kV_is ry) hd hp r) ⟨vs, dd, hn, h _ (I.tok _)⟩
/-- d.clear() -/
theorem d_clear {Q : Value → Shared → Prop} (I : Inv X pins σ H s) (e : H a = some (.dK kvs)) (h : ∀ s', Inv X pins σ (upd H a (.dK [])) s' → Q .none s') : wpAny (model X.prog X.w) A (call (.builtin "dict.clear") [.ref a]) Q E s := by
  obtain ⟨z, hd, vs, rel, dd⟩ := dk_of I.hok e
  refine call_meetsIn PySem.F.slot_dict_clear dd.typeIs PySem.F.entry_dict_clear (PySem.F.args_dict_clear_1 _) (meets_dict_clear (mixKind X.prog X.w) a) ⟨vs, dd, by rw [← rel.length]; exact z, fun h' dd' hs => h _ ?_⟩
  have he : ∃ q, h'.get? a = some q := let ⟨q, _, _, hq, _⟩ := dd'; ⟨q, hq⟩
  exact d_write (t' := s.toks) I (by rw [e]; exact True.intro) hs he (dk_new (Nat.zero_le _) hd .nil dd')
/-- len(d) -/
theorem d_len {Q : Value → Shared → Prop} (I : Inv X pins σ H s) (e : Rd H a (.dK kvs)) (h : ∀ t s', Inv X pins σ H s' → Q (.int kvs.length t) s') : wpAny (model X.prog X.w) A (call (.builtin "len") [.ref a]) Q E s := by
  obtain ⟨z, hd, vs, rel, dd⟩ := dk_rd I.hok e
  refine call_len_dict hd dd (by rw [← rel.length]; rw [sizeLine_eq] at z; omega) ?_
  rw [← rel.length]
  exact h _ _ (I.tok _)
/-- if d -/
theorem d_truth {Q : Bool → Shared → Prop} (I : Inv X pins σ H s) (e : Rd H a (.dK kvs)) (h : ∀ s', Inv X pins σ H s' → Q (!kvs.isEmpty) s') : wpAny (model X.prog X.w) A (truthy (.ref a)) Q E s := by
  obtain ⟨z, hd, vs, rel, dd⟩ := dk_rd I.hok e
  refine wpAny_truthy_dict hd dd (by rw [← rel.length]; rw [sizeLine_eq] at z; omega) ?_
  have q : kvs.isEmpty = vs.isEmpty := by cases rel <;> rfl
  rw [← q]
  exact h _ (I.tok _)
end


/-! ### readings and rules -/
/-- the element of a subscription, not a slice -/
def NoSl (i : Expr) : Prop := ∀ ov iv, subscripted i false ov iv = operate [ov, iv] (getItem ov iv)
theorem subD_of {prog : Program} {w : World} {A : Around} {E : Value → Shared → Prop} {s : Shared} {env : Env} {value slice : Expr} {pos : Pos} {T id : String} {Q : Value → Shared → Prop}
    (hl : typeLookup (.type T) "__getitem__" = pure (some (.builtin id))) (hs : NoSl slice)
    (h : wpAny (model prog w) A (eval value env) (fun o s₁ => wpAny (model prog w) A (eval slice env) (fun i s₂ => s₂.TypeIs o T ∧ wpAny (model prog w) A (getItem o i) Q E s₂) E s₁) E s) :
    wpAny (model prog w) A (eval (.Subscript value slice pos) env) Q E s := by
  refine Subscript_ (wpAny_mono h (fun o s₁ h₁ => wpAny_mono h₁ (fun i s₂ h₂ => ?_) fun _ _ x => x) fun _ _ x => x)
  obtain ⟨hT, h₂⟩ := h₂
  unfold subscriptTail
  refine wpAny_bind ?_
  rw [getitemInPython_of_ne hT.not_modules]
  refine wpAny_bind (wpAny_specialOf hT hl ?_)
  have fin : wpAny (model prog w) A (subscripted slice false o i) (fun r s₃ => wpAny (model prog w) A (letTemporaryGo value o r >>= fun _ => pure r) Q E s₃) E s₂ := by
    rw [hs o i]
    exact wpAny_operating (wpAny_mono h₂ (fun r s₃ h₃ => wpAny_bind (wpAny_letTemporaryGo (wpAny_pure h₃))) fun _ _ x => x)
  first
    | exact wpAny_pure (wpAny_bind fin)
    | exact wpAny_bind (wpAny_pure (wpAny_bind fin))
    | exact wpAny_bind fin

theorem dict_typeIs {X : Cx} {pins : List (Addr × Obj)} {σ : St} {H : Hp} {s : Shared} {a : Addr} {y : V} {o : Option V} (I : Inv X pins σ H s) (g : DGet H a y o) : s.TypeIs (.ref a) "dict" := by
  rcases g with ⟨kvs, k, e, _, _⟩ | ⟨kvs, k, b, e, _, _, _⟩
  · obtain ⟨_, _, vs, _, dd⟩ := dk_rd I.hok e
    exact dd.typeIs
  · obtain ⟨_, _, xs, _, dd⟩ := dt_rd I.hok e
    exact dd.typeIs
theorem dict_noDict {X : Cx} {pins : List (Addr × Obj)} {σ : St} {H : Hp} {s : Shared} {a : Addr} {y : V} {o : Option V} (I : Inv X pins σ H s) (g : DGet H a y o) :
    ∀ b, Value.ref a = .ref b → ∃ ob, s.heap.get? b = some ob ∧ ob.dict = none := fun b q => by
  cases q
  rcases g with ⟨kvs, k, e, _, _⟩ | ⟨kvs, k, b, e, _, _, _⟩
  · obtain ⟨_, _, vs, _, ob, _, _, h1, h2, _⟩ := dk_rd I.hok e
    exact ⟨ob, h1, h2.2.1⟩
  · obtain ⟨_, _, xs, _, ob, _, _, h1, h2, _⟩ := dt_rd I.hok e
    exact ⟨ob, h1, h2.2.1⟩

/-- d[y] -/
def tDGet (td ty : TE) : TE := fun σ H Q => td σ H fun x H1 => ty σ H1 fun y H2 => ∃ a v, x = .ref a ∧ DGet H2 a y (some v) ∧ Q v H2
/-- y in d, y not in d -/
def tDIn (ty td : TE) : TE := fun σ H Q => ty σ H fun y H1 => td σ H1 fun x H2 => ∃ a o, x = .ref a ∧ DGet H2 a y o ∧ Q (.bl o.isSome) H2
def tDNotIn (ty td : TE) : TE := fun σ H Q => ty σ H fun y H1 => td σ H1 fun x H2 => ∃ a o, x = .ref a ∧ DGet H2 a y o ∧ Q (.bl (!o.isSome)) H2
/-- d[y] = v -/
def sDPut (td ty tv : TE) : TS := fun D σ H => tv σ H fun v H1 => td σ H1 fun x H2 => ty σ H2 fun y H3 => ∃ a H4, x = .ref a ∧ DPut H3 a y v H4 ∧ D.nx σ H4
/-- d[y] op= v -/
def sDAug (td ty tv : TE) (rd : V → V → Hp → VK → Prop) : TS := fun D σ H => td σ H fun x H1 => ty σ H1 fun y H2 => ∃ a v, x = .ref a ∧ DGet H2 a y (some v) ∧
  tv σ H2 fun y2 H3 => rd v y2 H3 fun z H4 => ∃ H5, DPut H4 a y z H5 ∧ D.nx σ H5
/-- del d[y] -/
def sDDel (td ty : TE) : TS := fun D σ H => td σ H fun x H1 => ty σ H1 fun y H2 => ∃ a kvs k, x = .ref a ∧ H2 a = some (.dK kvs) ∧ y = kV k ∧ (valV kvs k).isSome = true ∧ D.nx σ (upd H2 a (.dK (dropK kvs k)))

section
variable {X : Cx} {o i e value : Expr} {pos pos' tpos : Pos} {td ty tv : TE}
theorem pe_dget (hu : X.A.units + 1 < cLine) (ho : PE X o td) (hi : PE X i ty) (hs : NoSl i) : PE X (.Subscript o i pos) (tDGet td ty) := by
  intro pins s σ H Q I h
  refine subD_of PySem.F.slot_dict_getitem.lookup hs (thn (ho pins s σ H _ I h) fun u s1 ⟨x, H1, I1, rx, q1⟩ => thn (hi pins s1 σ H1 _ I1 q1) fun iv s2 ⟨y, H2, I2, ry, a, v, ex, g, q2⟩ => ?_)
  subst ex
  obtain rfl : u = Value.ref a := rx
  exact ⟨dict_typeIs I2 g, d_getItem hu I2 g ry fun w' s3 I3 rw' => ⟨v, H2, I3, rw', q2⟩⟩
theorem pc_din (hu : X.A.units + 1 < cLine) (hi : PE X i ty) (ho : PE X o td) : PC X .In i o (tDIn ty td) := by
  intro pins s σ H Q I h
  refine thn (hi pins s σ H _ I h) fun iv s1 ⟨y, H1, I1, ry, q1⟩ => thn (ho pins s1 σ H1 _ I1 q1) fun u s2 ⟨x, H2, I2, rx, a, ov, ex, g, q2⟩ => ?_
  subst ex
  obtain rfl : u = Value.ref a := rx
  exact d_in hu I2 g ry fun s3 I3 => ⟨.bl ov.isSome, H2, I3, rfl, q2⟩
theorem pc_dnotin (hu : X.A.units + 1 < cLine) (hi : PE X i ty) (ho : PE X o td) : PC X .NotIn i o (tDNotIn ty td) := by
  intro pins s σ H Q I h
  refine thn (hi pins s σ H _ I h) fun iv s1 ⟨y, H1, I1, ry, q1⟩ => thn (ho pins s1 σ H1 _ I1 q1) fun u s2 ⟨x, H2, I2, rx, a, ov, ex, g, q2⟩ => ?_
  subst ex
  obtain rfl : u = Value.ref a := rx
  exact d_notIn hu I2 g ry fun s3 I3 => ⟨.bl (!ov.isSome), H2, I3, rfl, q2⟩
theorem ps_dput (hu : X.A.units + 1 < cLine) (ho : PE X o td) (hi : PE X i ty) (hv : PE X value tv) (hs : swapsWith value (some (.Subscript o i pos')) pos.line X.env = pure false) :
    PS X (.Assign [.Subscript o i pos'] value pos) (sDPut td ty tv) := by
  intro pins s σ H D I h
  refine wpAny_Assign_Subscript (thn (hv pins s σ H _ I h) fun r s1 ⟨v, H1, I1, rv, q1⟩ => thn (ho pins s1 σ H1 _ I1 q1) fun u s2 ⟨x, H2, I2, rx, q2⟩ => thn (hi pins s2 σ H2 _ I2 q2) fun iv s3 ⟨y, H3, I3, ry, a, H4, ex, g, q3⟩ => ?_) hs
  subst ex
  obtain rfl : u = Value.ref a := rx
  exact d_setItem hu I3 g ry rv fun s4 I4 => ⟨σ, H4, I4, q3⟩
theorem ps_daug {op : Operator} {rd : V → V → Hp → VK → Prop} (hu : X.A.units + 1 < cLine) (ho : PE X o td) (hi : PE X i ty) (hv : PE X value tv) (hop : InOp X op rd)
    (ha : ∀ ov iv new, augStore i ov iv new = (do holding [new, ov, iv] (setItem ov iv new); release [new, ov, iv] []; pure .next)) : PS X (.AugAssign (.Subscript o i tpos) op value pos) (sDAug td ty tv rd) := by
  intro pins s σ H D I h
  refine wpAny_AugAssign_SubscriptAny (thn (ho pins s σ H _ I h) fun u s1 ⟨x, H1, I1, rx, q1⟩ => thn (hi pins s1 σ H1 _ I1 q1) fun iv s2 ⟨y, H2, I2, ry, a, v, ex, g, q2⟩ => ?_) ha
  subst ex
  obtain rfl : u = Value.ref a := rx
  refine d_getItem hu I2 g ry fun w' s3 I3 rw' => thn (hv pins s3 σ H2 _ I3 q2) fun w2 s4 ⟨y2, H3, I4, ry2, q3⟩ => thn (hop pins s4 σ H3 v y2 w' w2 _ I4 rw' ry2 q3) fun w3 s5 ⟨z, H4, I5, rz, H5, g5, q4⟩ => ?_
  exact d_setItem hu I5 g5 ry rz fun s6 I6 => ⟨σ, H5, I6, q4⟩
theorem ps_ddel (ho : PE X o td) (hi : PE X i ty) : PS X (.Delete [.Subscript o i tpos] pos) (sDDel td ty) := by
  intro pins s σ H D I h
  refine wpAny_Delete (wpAny_deleteEach_cons (wpAny_delete_Subscript (thn (ho pins s σ H _ I h) fun u s1 ⟨x, H1, I1, rx, q1⟩ => thn (hi pins s1 σ H1 _ I1 q1) fun iv s2 ⟨y, H2, I2, ry, a, kvs, k, ex, e, ey, l, q2⟩ => ?_)))
  subst ex ey
  obtain rfl : u = Value.ref a := rx
  exact d_delItem I2 e ry l fun s3 I3 => wpAny_deleteEach_nil ⟨σ, _, I3, q2⟩
end


/-! ### displays -/
theorem dk_empty {P : Program} {w : World} {H : Hp} (h : Heap) (hb : sysModules < h.objs.size) : ObjOk P w H (h.push { cls := .type "dict", data := .dict #[] }) h.objs.size (.dK []) :=
  ⟨Nat.zero_le _, beq_eq_false_iff_ne.mpr (Ne.symm (Nat.ne_of_lt hb)), [], .nil, Heap.DictOf.new h⟩
theorem dt_empty {P : Program} {w : World} {H : Hp} (h : Heap) (hb : sysModules < h.objs.size) : ObjOk P w H (h.push { cls := .type "dict", data := .dict #[] }) h.objs.size (.dT []) :=
  ⟨Nat.zero_le _, beq_eq_false_iff_ne.mpr (Ne.symm (Nat.ne_of_lt hb)), [], .nil, _, #[], 0, Heap.get?_push_size _ rfl, ⟨rfl, rfl, rfl⟩, rfl, rfl, List.nodup_nil⟩
/-- {}, to be a dict of the kind that is wanted -/
def tDNewK : TE := fun _ H Q => ∀ p, H p = none → Q (.ref p) (upd H p (.dK []))
def tDNewT : TE := fun _ H Q => ∀ p, H p = none → Q (.ref p) (upd H p (.dT []))
section
variable {X : Cx} {pos : Pos}
theorem pe_dnewK : PE X (.Dict [] [] pos) tDNewK := fun pins s σ H Q I h =>
  wpAny_Dict_empty ⟨.ref s.heap.objs.size, _, I.laid (a := s.heap.objs.size) (o := .dK []) (t' := s.toks) (fun _ _ q => Heap.get?_push_of_some _ q) (Nat.le_refl _) (dk_empty s.heap I.big), rfl, h _ (I.hok.fresh (Nat.le_refl _))⟩
theorem pe_dnewT : PE X (.Dict [] [] pos) tDNewT := fun pins s σ H Q I h =>
  wpAny_Dict_empty ⟨.ref s.heap.objs.size, _, I.laid (a := s.heap.objs.size) (o := .dT []) (t' := s.toks) (fun _ _ q => Heap.get?_push_of_some _ q) (Nat.le_refl _) (dt_empty s.heap I.big), rfl, h _ (I.hok.fresh (Nat.le_refl _))⟩
end

/-- the pairs of a display, from the left -/
def tPairs : List (TE × TE) → St → Hp → (List (V × V) → Hp → Prop) → Prop
  | [], _, H, Q => Q [] H
  | (tk, tv) :: r, σ, H, Q => tk σ H fun x H1 => tv σ H1 fun y H2 => tPairs r σ H2 fun ps H3 => Q ((x, y) :: ps) H3
abbrev VV : List (V × V) → List (Value × Value) → Prop := Paired fun p q => RelV p.1 q.1 ∧ RelV p.2 q.2
def PPs (X : Cx) (pos : Pos) (keys : List (Option Expr)) (values : List Expr) (trs : List (TE × TE)) : Prop :=
  ∀ (pins : List (Addr × Obj)) (s : Shared) (σ : St) (H : Hp) (Q : List (V × V) → Hp → Prop), Inv X pins σ H s → tPairs trs σ H Q →
    wpAny (model X.prog X.w) X.A (evalPairs (pairTrees keys values X.env pos)) (fun vs s' => ∃ ps H', Inv X pins σ H' s' ∧ VV ps vs ∧ Q ps H') X.xe s
theorem pps_nil {X : Cx} {pos : Pos} : PPs X pos [] [] [] := fun pins s σ H Q I h => pairTrees_nil_walk ⟨[], H, I, .nil, h⟩
theorem pps_cons {X : Cx} {pos : Pos} {k v : Expr} {ks : List (Option Expr)} {vs : List Expr} {tk tv : TE} {trs : List (TE × TE)} (hk : PE X k tk) (hv : PE X v tv) (hr : PPs X pos ks vs trs) :
    PPs X pos (some k :: ks) (v :: vs) ((tk, tv) :: trs) := fun pins s σ H Q I h =>
  pairTrees_cons_walk (thn (hk pins s σ H _ I h) fun u s1 ⟨x, H1, I1, rx, q1⟩ => thn (hv pins s1 σ H1 _ I1 q1) fun w2 s2 ⟨y, H2, I2, ry, q2⟩ =>
    thn (hr pins s2 σ H2 _ I2 q2) fun ws s3 ⟨ps, H3, I3, rel, q3⟩ => ⟨(x, y) :: ps, H3, I3, .cons ⟨rx, ry⟩ rel, q3⟩)

def mergeK (kvs more : List (Key × V)) : List (Key × V) := more.foldl (fun acc kv => putK acc kv.1 kv.2) kvs
theorem KV.merge : ∀ {more : List (Key × V)} {rs : List (Key × Value)} {kvs : List (Key × V)} {vs : List (Key × Value)}, KV more rs → KV kvs vs → KV (mergeK kvs more) (merged vs rs) := by
  intro more rs kvs vs r
  unfold KV at r
  induction r generalizing kvs vs with
  | nil => intro q; exact q
  | @cons p q ps qs h t ih =>
    intro r0
    have e : KV (putK kvs p.1 p.2) (stored vs q.1 q.2) := by
      have := r0.put p.1 h.2
      rw [← h.1]; exact this
    exact ih e
theorem length_mergeK : ∀ (more kvs : List (Key × V)), (mergeK kvs more).length ≤ kvs.length + more.length
  | [], kvs => by show kvs.length ≤ kvs.length + 0; omega
  | p :: r, kvs => by
    have h1 := length_mergeK r (putK kvs p.1 p.2)
    have h2 := length_putK kvs p.1 p.2
    show (mergeK (putK kvs p.1 p.2) r).length ≤ _
    rw [List.length_cons]; omega
theorem carries_of {P : Program} {w : World} : ∀ {kvs : List (Key × V)} {ws : List (Value × Value)}, VV (kvs.map fun kv => (kV kv.1, kv.2)) ws → ∃ rs, Carries (mixKind P w) ws rs ∧ KV kvs rs
  | [], _, r => by rw [List.map_nil] at r; cases r; exact ⟨[], True.intro, .nil⟩
  | p :: kvs, _, r => by
    rw [List.map_cons] at r
    cases r with
    | @cons a b as bs h t =>
      obtain ⟨rs, c, q⟩ := carries_of (P := P) (w := w) t
      obtain ⟨b1, b2⟩ := b
      exact ⟨(p.1, b2) :: rs, ⟨kV_is h.1, rfl, c⟩, .cons ⟨rfl, h.2⟩ q⟩
/-- {k: v, ..} with keys ints and texts; the new dict stands empty while the pairs are made -/
def tDisp (trs : List (TE × TE)) : TE := fun σ H Q => ∀ p, H p = none → tPairs trs σ (upd H p (.dK [])) fun ps H2 => H2 p = some (.dK []) ∧ ∃ kvs : List (Key × V), ps = kvs.map (fun kv => (kV kv.1, kv.2)) ∧ kvs.length ≤ 15 ∧ Q (.ref p) (upd H2 p (.dK (mergeK [] kvs)))
theorem pe_disp {X : Cx} {pos : Pos} {keys : List (Option Expr)} {values : List Expr} {trs : List (TE × TE)} (h : PPs X pos keys values trs) (hall : keys.all (·.isSome) = true) (hl : keys.length = values.length) (h0 : keys ≠ [])
    (h15 : keys.length ≤ 15) : PE X (.Dict keys values pos) (tDisp trs) := by
  intro pins s σ H Q I q
  have hn := I.hok.fresh (Nat.le_refl s.heap.objs.size)
  have I1 := I.laid (a := s.heap.objs.size) (o := .dK []) (h' := s.heap.push { cls := .type "dict", data := .dict #[] }) (t' := s.toks) (fun _ _ q => Heap.get?_push_of_some _ q) (Nat.le_refl _) (dk_empty s.heap I.big)
  refine wpAny_Dict_walk (knd := mixKind X.prog X.w) hall hl h0 h15 (thn (h pins _ σ _ _ I1 (q _ hn)) fun ws s2 ⟨ps, H2, I2, rel, e, kvs, ep, lk, q2⟩ => ?_)
  subst ep
  obtain ⟨rs, c, rk⟩ := carries_of (P := X.prog) (w := X.w) rel
  obtain ⟨z, hd, vs0, r0, dd⟩ := dk_of I2.hok e
  cases r0
  refine ⟨rs, c, dd, fun h' dd' hs => ⟨.ref s.heap.objs.size, _, ?_, rfl, q2⟩⟩
  have hz : (mergeK [] kvs).length ≤ sizeLine := by
    have h1 := length_mergeK kvs []
    rw [List.length_nil] at h1
    rw [sizeLine_eq]; omega
  have he : ∃ q, h'.get? s.heap.objs.size = some q := let ⟨q, _, _, hq, _⟩ := dd'; ⟨q, hq⟩
  exact d_write I2 (by rw [e]; exact True.intro) hs he (dk_new hz hd (rk.merge .nil) dd')


/-! ### methods -/
/-- a method call o.m(e) of a built-in, with one argument: what must be seen of the text -/
structure M1 (X : Cx) (o : Expr) (m : Str) (apos : Pos) (e : Expr) (cpos : Pos) : Prop where
  base : attributeBase o m X.env (eval o X.env) = eval o X.env
  few : ((backTo cpos (starEach [e] X.env)).all (fun x => !x.1) && (backToKw cpos (keywordEach [] X.env)).all (fun x => x.1.isSome)
    && decide (([e] : List Expr).length + ([] : List Keyword).length + (if ([] : List Keyword).isEmpty then 0 else 1) < 30)) = true
  line : (apos.endLine == cpos.line) = true
  trees : backTo cpos (starEach [e] X.env) = [(false, eval e X.env)]
structure M2 (X : Cx) (o : Expr) (m : Str) (apos : Pos) (e f : Expr) (cpos : Pos) : Prop where
  base : attributeBase o m X.env (eval o X.env) = eval o X.env
  few : ((backTo cpos (starEach [e, f] X.env)).all (fun x => !x.1) && (backToKw cpos (keywordEach [] X.env)).all (fun x => x.1.isSome)
    && decide (([e, f] : List Expr).length + ([] : List Keyword).length + (if ([] : List Keyword).isEmpty then 0 else 1) < 30)) = true
  line : (apos.endLine == cpos.line) = true
  trees : backTo cpos (starEach [e, f] X.env) = [(false, eval e X.env), (false, eval f X.env)]

/-- a is a dict, whatever its keys -/
def IsD (H : Hp) (a : Addr) : Prop := (∃ kvs, Rd H a (.dK kvs)) ∨ ∃ kvs, Rd H a (.dT kvs)
theorem isD_at {X : Cx} {pins : List (Addr × Obj)} {σ : St} {H : Hp} {s : Shared} {a : Addr} (I : Inv X pins σ H s) (d : IsD H a) :
    s.TypeIs (.ref a) "dict" ∧ (∀ b, Value.ref a = .ref b → ∃ ob, s.heap.get? b = some ob ∧ ob.dict = none) ∧ (a == sysModules) = false := by
  rcases d with ⟨kvs, e⟩ | ⟨kvs, e⟩
  · obtain ⟨_, hd, vs, _, dd⟩ := dk_rd I.hok e
    refine ⟨dd.typeIs, fun b q => ?_, hd⟩
    cases q
    obtain ⟨ob, _, _, h1, h2, _⟩ := dd
    exact ⟨ob, h1, h2.2.1⟩
  · obtain ⟨_, hd, xs, _, dd⟩ := dt_rd I.hok e
    refine ⟨dd.typeIs, fun b q => ?_, hd⟩
    cases q
    obtain ⟨ob, _, _, h1, h2, _⟩ := dd
    exact ⟨ob, h1, h2.2.1⟩

section
variable {X : Cx} {pins : List (Addr × Obj)} {σ : St} {H : Hp} {s : Shared} {a : Addr} {y d : V} {u r : Value} {o : Option V} {A : Around} {E : Value → Shared → Prop}
/-- d.get(y) -/
theorem d_get1 {Q : Value → Shared → Prop} (hu : A.units + 1 < cLine) (I : Inv X pins σ H s) (g : DGet H a y o) (ry : RelV y u) (h : ∀ w' s', Inv X pins σ H s' → RelV (o.getD .non) w' → Q w' s') :
    wpAny (model X.prog X.w) A (call (.builtin "dict.get") [.ref a, u]) Q E s := by
  rcases g with ⟨kvs, k, e, ey, l⟩ | ⟨kvs, k, b, e, ey, eb, l⟩
  · subst ey
    obtain ⟨z, hd, vs, rel, dd⟩ := dk_rd I.hok e
    refine call_meetsIn PySem.F.slot_dict_get dd.typeIs PySem.F.entry_dict_get (PySem.F.args_dict_get_2 _ _) (meets_dict_get (mixKind X.prog X.w) a (kV_is ry) hd) ⟨_, dd.mapOf, h _ _ (I.tok _) ?_⟩
    rw [l]
    exact (rel.val k).getD rfl
  · subst ey
    cases (show u = Value.ref b from ry)
    obtain ⟨z, hd, xs, rel, dd⟩ := dt_rd I.hok e
    refine call_meetsIn PySem.F.slot_dict_get dd.typeIs PySem.F.entry_dict_get (PySem.F.args_dict_get_2 _ _) (meetsH_dict_get (tupleKind (mixKind X.prog X.w)) a b hd) ⟨tupleKind_room_in1 hu, k, xs, key_of I.hok eb, dd, h _ _ (I.tok _) ?_⟩
    rw [l]
    exact (rel.val k).getD rfl
/-- d.get(y, x) -/
theorem d_get2 {Q : Value → Shared → Prop} (hu : A.units + 1 < cLine) (I : Inv X pins σ H s) (g : DGet H a y o) (ry : RelV y u) (rd : RelV d r) (h : ∀ w' s', Inv X pins σ H s' → RelV (o.getD d) w' → Q w' s') :
    wpAny (model X.prog X.w) A (call (.builtin "dict.get") [.ref a, u, r]) Q E s := by
  rcases g with ⟨kvs, k, e, ey, l⟩ | ⟨kvs, k, b, e, ey, eb, l⟩
  · subst ey
    obtain ⟨z, hd, vs, rel, dd⟩ := dk_rd I.hok e
    refine call_meetsIn PySem.F.slot_dict_get dd.typeIs PySem.F.entry_dict_get (PySem.F.args_dict_get_3 _ _ _) (meets_dict_get_default (mixKind X.prog X.w) a (kV_is ry) hd r) ⟨_, dd.mapOf, h _ _ (I.tok _) ?_⟩
    rw [l]
    exact (rel.val k).getD rd
  · subst ey
    cases (show u = Value.ref b from ry)
    obtain ⟨z, hd, xs, rel, dd⟩ := dt_rd I.hok e
    refine call_meetsIn PySem.F.slot_dict_get dd.typeIs PySem.F.entry_dict_get (PySem.F.args_dict_get_3 _ _ _) (meetsH_dict_get_default (tupleKind (mixKind X.prog X.w)) a b hd r) ⟨tupleKind_room_in1 hu, k, xs, key_of I.hok eb, dd, h _ _ (I.tok _) ?_⟩
    rw [l]
    exact (rel.val k).getD rd
end

def tDGet1 (td ty : TE) : TE := fun σ H Q => td σ H fun x H1 => ∃ a, x = .ref a ∧ IsD H1 a ∧ ty σ H1 fun y H2 => ∃ o, DGet H2 a y o ∧ Q (o.getD .non) H2
def tDGet2 (td ty tx : TE) : TE := fun σ H Q => td σ H fun x H1 => ∃ a, x = .ref a ∧ IsD H1 a ∧ ty σ H1 fun y H2 => tx σ H2 fun z H3 => ∃ o, DGet H3 a y o ∧ Q (o.getD z) H3
/-- d.pop(k): there; d.pop(k, x): there or not -/
def tDPop1 (td ty : TE) : TE := fun σ H Q => td σ H fun x H1 => ∃ a, x = .ref a ∧ IsD H1 a ∧ ty σ H1 fun y H2 => ∃ kvs k v, H2 a = some (.dK kvs) ∧ y = kV k ∧ valV kvs k = some v ∧ Q v (upd H2 a (.dK (dropK kvs k)))
def tDPop2 (td ty tx : TE) : TE := fun σ H Q => td σ H fun x H1 => ∃ a, x = .ref a ∧ IsD H1 a ∧ ty σ H1 fun y H2 => tx σ H2 fun z H3 => ∃ kvs k, H3 a = some (.dK kvs) ∧ y = kV k ∧
  (∀ v, valV kvs k = some v → Q v (upd H3 a (.dK (dropK kvs k)))) ∧ (valV kvs k = none → Q z H3)
section
variable {X : Cx} {o e f : Expr} {apos cpos : Pos} {td ty tx : TE}
theorem pe_dget1 (hu : X.A.units + 1 < cLine) (ho : PE X o td) (he : PE X e ty) (m : M1 X o "get" apos e cpos) : PE X (.Call (.Attribute o "get" apos) [e] [] cpos) (tDGet1 td ty) := by
  intro pins s σ H Q I h
  refine wpAny_Call_method m.base m.few m.line PySem.F.plainAttrs_dict PySem.F.slot_dict_get PySem.F.type_dict_get (thn (ho pins s σ H _ I h) fun u s1 ⟨x, H1, I1, rx, a, ex, d, q1⟩ => ?_)
  subst ex
  obtain rfl : u = Value.ref a := rx
  obtain ⟨t1, t2, _⟩ := isD_at I1 d
  refine ⟨t1, t2, ?_⟩
  rw [m.trees]
  refine Calls.callWith_builtin rfl (Calls.evalArgs_plain (Calls.spliced_cons (thn (he pins s1 σ H1 _ I1 q1) fun iv s2 ⟨y, H2, I2, ry, ov, g, q2⟩ => Calls.spliced_nil ?_)))
  exact d_get1 hu I2 g ry fun w' s3 I3 rw' => ⟨_, H2, I3, rw', q2⟩
theorem pe_dget2 (hu : X.A.units + 1 < cLine) (ho : PE X o td) (he : PE X e ty) (hf : PE X f tx) (m : M2 X o "get" apos e f cpos) : PE X (.Call (.Attribute o "get" apos) [e, f] [] cpos) (tDGet2 td ty tx) := by
  intro pins s σ H Q I h
  refine wpAny_Call_method m.base m.few m.line PySem.F.plainAttrs_dict PySem.F.slot_dict_get PySem.F.type_dict_get (thn (ho pins s σ H _ I h) fun u s1 ⟨x, H1, I1, rx, a, ex, d, q1⟩ => ?_)
  subst ex
  obtain rfl : u = Value.ref a := rx
  obtain ⟨t1, t2, _⟩ := isD_at I1 d
  refine ⟨t1, t2, ?_⟩
  rw [m.trees]
  refine Calls.callWith_builtin rfl (Calls.evalArgs_plain (Calls.spliced_cons (thn (he pins s1 σ H1 _ I1 q1) fun iv s2 ⟨y, H2, I2, ry, q2⟩ =>
    Calls.spliced_cons (thn (hf pins s2 σ H2 _ I2 q2) fun fv s3 ⟨z, H3, I3, rz, ov, g, q3⟩ => Calls.spliced_nil ?_))))
  exact d_get2 hu I3 g ry rz fun w' s4 I4 rw' => ⟨_, H3, I4, rw', q3⟩
theorem pe_dpop1 (ho : PE X o td) (he : PE X e ty) (m : M1 X o "pop" apos e cpos) : PE X (.Call (.Attribute o "pop" apos) [e] [] cpos) (tDPop1 td ty) := by
  intro pins s σ H Q I h
  refine wpAny_Call_method m.base m.few m.line PySem.F.plainAttrs_dict PySem.F.slot_dict_pop PySem.F.type_dict_pop (thn (ho pins s σ H _ I h) fun u s1 ⟨x, H1, I1, rx, a, ex, d, q1⟩ => ?_)
  subst ex
  obtain rfl : u = Value.ref a := rx
  obtain ⟨t1, t2, _⟩ := isD_at I1 d
  refine ⟨t1, t2, ?_⟩
  rw [m.trees]
  refine Calls.callWith_builtin rfl (Calls.evalArgs_plain (Calls.spliced_cons (thn (he pins s1 σ H1 _ I1 q1) fun iv s2 ⟨y, H2, I2, ry, kvs, k, v, ea, ey, l, q2⟩ => Calls.spliced_nil ?_)))
  subst ey
  exact d_pop I2 ea ry l (.inl rfl) fun w' s3 I3 rw' => ⟨v, _, I3, rw', q2⟩
theorem pe_dpop2 (ho : PE X o td) (he : PE X e ty) (hf : PE X f tx) (m : M2 X o "pop" apos e f cpos) : PE X (.Call (.Attribute o "pop" apos) [e, f] [] cpos) (tDPop2 td ty tx) := by
  intro pins s σ H Q I h
  refine wpAny_Call_method m.base m.few m.line PySem.F.plainAttrs_dict PySem.F.slot_dict_pop PySem.F.type_dict_pop (thn (ho pins s σ H _ I h) fun u s1 ⟨x, H1, I1, rx, a, ex, d, q1⟩ => ?_)
  subst ex
  obtain rfl : u = Value.ref a := rx
  obtain ⟨t1, t2, _⟩ := isD_at I1 d
  refine ⟨t1, t2, ?_⟩
  rw [m.trees]
  refine Calls.callWith_builtin rfl (Calls.evalArgs_plain (Calls.spliced_cons (thn (he pins s1 σ H1 _ I1 q1) fun iv s2 ⟨y, H2, I2, ry, q2⟩ =>
    Calls.spliced_cons (thn (hf pins s2 σ H2 _ I2 q2) fun fv s3 ⟨z, H3, I3, rz, kvs, k, ea, ey, q3, q4⟩ => Calls.spliced_nil ?_))))
  subst ey
  cases l : valV kvs k with
  | some v => exact d_pop I3 ea ry l (.inr ⟨fv, rfl⟩) fun w' s4 I4 rw' => ⟨v, _, I4, rw', q3 v l⟩
  | none => exact d_popD I3 ea ry l fun s4 I4 => ⟨z, H3, I4, rz, q4 l⟩
end

/-! ### dict(d): a copy -/
section
variable {X : Cx} {pins : List (Addr × Obj)} {σ : St} {H : Hp} {s : Shared} {a : Addr} {kvs : List (Key × V)} {A : Around} {E : Value → Shared → Prop}
theorem d_copyOf {Q : Value → Shared → Prop} (I : Inv X pins σ H s) (e : Rd H a (.dK kvs)) (h : ∀ p s', H p = none → Inv X pins σ (upd H p (.dK kvs)) s' → Q (.ref p) s') : wpAny (model X.prog X.w) A (call (.type "dict") [.ref a]) Q E s := by
  obtain ⟨z, hd, vs, rel, dd⟩ := dk_rd I.hok e
  refine kt_call_dict hd dd (by rw [← rel.length]; exact z) fun h' dd' hs => ?_
  refine h _ _ (I.hok.fresh (Nat.le_refl _)) (I.laid (a := s.heap.objs.size) (o := .dK kvs) (t' := s.toks) (fun b q hq => ?_) (Nat.le_refl _) (dk_new z (beq_eq_false_iff_ne.mpr (Ne.symm (Nat.ne_of_lt I.big))) rel dd'))
  exact (hs.2 b (Nat.ne_of_lt (Heap.lt_size hq))).trans (Heap.get?_push_of_some _ hq)
end


section
variable {X : Cx} {pins : List (Addr × Obj)} {σ : St} {H : Hp} {s : Shared} {a : Addr} {y : V} {u : Value} {A : Around} {E : Value → Shared → Prop}
/-- d[y], not there: a KeyError -/
theorem d_missing {Q : Value → Shared → Prop} (hu : A.units + 1 < cLine) (hh : A.handled = none) (I : Inv X pins σ H s) (g : DGet H a y none) (ry : RelV y u)
    (h : ∀ h' e t', Heap.NewExc s.heap h' e "KeyError" → E (.ref e) { s with heap := h', toks := t' }) : wpAny (model X.prog X.w) A (getItem (.ref a) u) Q E s := by
  rcases g with ⟨kvs, k, e, ey, l⟩ | ⟨kvs, k, b, e, ey, eb, l⟩
  · subst ey
    obtain ⟨z, hd, vs, rel, dd⟩ := dk_rd I.hok e
    have hn : valueAt vs k = none := RelO.none_of (by rw [l]; exact rel.val k)
    exact wpAny_getItem_missing_of (kV_is ry) hd hh dd.mapOf hn fun h' ex ne => h h' ex _ ne
  · subst ey
    cases (show u = Value.ref b from ry)
    obtain ⟨z, hd, xs, rel, dd⟩ := dt_rd I.hok e
    have hn : (atKey xs k).map (·.2) = none := RelO.none_of (by rw [l]; exact rel.val k)
    exact wpAny_getItem_missing_heap (tupleKind_room_in1 hu) (key_of I.hok eb) hd hh dd (Option.map_eq_none_iff.mp hn) fun h' ex ne => h h' ex _ ne
end
end L2
namespace L2
open PySem PySem.Spec PyProof.Rows
section
variable {X : Cx}
/-- len of a dict -/
theorem call_lenD : CallR X (.builtin "len") (fun xs H Q => ∃ a kvs, xs = [V.ref a] ∧ H a = some (.dK kvs) ∧ Q (.int kvs.length) H) := by
  intro pins s σ H xs us Q I r h
  obtain ⟨a, kvs, rfl, ha, q⟩ := h
  obtain ⟨u, rfl, ru⟩ := vals1 r
  cases ru
  exact d_len I (.inl ha) fun t s' I' => ⟨.int kvs.length, H, I', ⟨t, rfl⟩, q⟩
end
/-! ### a dict's pairs: keys that differ -/
section
variable {κ : Type} [DecidableEq κ]
theorem valV_not {kvs : List (κ × V)} {k : κ} (h : valV kvs k = none) : ¬ k ∈ kvs.map (·.1) := by
  intro m
  obtain ⟨p, hp, e⟩ := List.mem_map.mp m
  have q : (kvs.any fun kv => decide (kv.1 = k)) = true := List.any_eq_true.mpr ⟨p, hp, decide_eq_true e⟩
  rw [valV_any, h] at q
  exact absurd q (by simp)
theorem valV_in {kvs : List (κ × V)} {k : κ} {v : V} (h : valV kvs k = some v) : k ∈ kvs.map (·.1) := by
  have q : (kvs.any fun kv => decide (kv.1 = k)) = true := by
    rw [valV_any, h]
    all_goals rfl
  obtain ⟨p, hp, e⟩ := List.any_eq_true.mp q
  exact List.mem_map.mpr ⟨p, hp, of_decide_eq_true e⟩
theorem nd_snoc : ∀ {l : List κ} {k : κ}, l.Nodup → ¬ k ∈ l → (l ++ [k]).Nodup
  | [], k, _, _ => by simp
  | a :: r, k, h, hk => by
    obtain ⟨h1, h2⟩ := List.nodup_cons.mp h
    show (a :: (r ++ [k])).Nodup
    refine List.nodup_cons.mpr ⟨fun m => ?_, nd_snoc h2 fun m => hk (List.mem_cons.mpr (Or.inr m))⟩
    rcases List.mem_append.mp m with q | q
    · exact h1 q
    · exact hk (List.mem_cons.mpr (Or.inl (List.mem_singleton.mp q).symm))
theorem nd_putK {kvs : List (κ × V)} {k : κ} (v : V) (hn : (kvs.map (·.1)).Nodup) (h : valV kvs k = none) : ((putK kvs k v).map (·.1)).Nodup := by
  rw [putK_new v h, List.map_append]
  exact nd_snoc hn (valV_not h)
theorem dropK_pos {p : κ × V} {r : List (κ × V)} {k : κ} (e : p.1 = k) : dropK (p :: r) k = dropK r k := by
  unfold dropK
  rw [List.filter_cons, if_neg (by simp [e])]
theorem dropK_neg {p : κ × V} {r : List (κ × V)} {k : κ} (e : ¬ p.1 = k) : dropK (p :: r) k = p :: dropK r k := by
  unfold dropK
  rw [List.filter_cons, if_pos (by simp [e])]
theorem dropK_no : ∀ {kvs : List (κ × V)} {k : κ}, ¬ k ∈ kvs.map (·.1) → dropK kvs k = kvs
  | [], _, _ => rfl
  | p :: r, k, h => by
    have h' : ¬ k ∈ r.map (·.1) := fun m => by
      obtain ⟨q, hq, e⟩ := List.mem_map.mp m
      exact h (List.mem_map.mpr ⟨q, List.mem_cons.mpr (Or.inr hq), e⟩)
    rw [dropK_neg fun e => h (List.mem_map.mpr ⟨p, List.mem_cons.mpr (Or.inl rfl), e⟩), dropK_no h']
theorem dropK_mem {kvs : List (κ × V)} {k : κ} {p : κ × V} (h : p ∈ dropK kvs k) : p ∈ kvs := (List.mem_filter.mp h).1
theorem nd_dropK : ∀ {kvs : List (κ × V)} {k : κ}, (kvs.map (·.1)).Nodup → ((dropK kvs k).map (·.1)).Nodup
  | [], _, _ => List.nodup_nil
  | p :: r, k, h => by
    have h : (p.1 :: r.map (·.1)).Nodup := h
    obtain ⟨h1, h2⟩ := List.nodup_cons.mp h
    by_cases e : p.1 = k
    · rw [dropK_pos e]
      exact nd_dropK h2
    · rw [dropK_neg e]
      show (p.1 :: (dropK r k).map (·.1)).Nodup
      refine List.nodup_cons.mpr ⟨fun m => h1 ?_, nd_dropK h2⟩
      obtain ⟨q, hq, eq⟩ := List.mem_map.mp m
      exact List.mem_map.mpr ⟨q, dropK_mem hq, eq⟩
theorem dropK_len : ∀ {kvs : List (κ × V)} {k : κ}, (kvs.map (·.1)).Nodup → k ∈ kvs.map (·.1) → (dropK kvs k).length + 1 = kvs.length
  | [], _, _, m => by simp at m
  | p :: r, k, h, m => by
    have h : (p.1 :: r.map (·.1)).Nodup := h
    have m : k = p.1 ∨ k ∈ r.map (·.1) := List.mem_cons.mp m
    obtain ⟨h1, h2⟩ := List.nodup_cons.mp h
    by_cases e : p.1 = k
    · subst e
      rw [dropK_pos rfl, dropK_no h1]
      all_goals rfl
    · have m' : k ∈ r.map (·.1) := m.resolve_left fun z => e z.symm
      have q := dropK_len h2 m'
      rw [dropK_neg e, List.length_cons, List.length_cons]
      omega
end
end L2

set_option maxRecDepth 100000
namespace Zt
open PySem PySem.Spec

/-- what an iterator at i yields: its k-th item -/
structure Src (i : Addr) (fp : List Addr) (S : Nat → Heap → Prop) (nth : Nat → Option Value) : Prop where
  mem : i ∈ fp
  stay : ∀ k h h', S k h → (∀ b ∈ fp, ∀ o, h.get? b = some o → h'.get? b = some o) → S k h'
  obj : ∀ k h, S k h → ∃ o, h.get? i = some o ∧ ∀ v, o.data ≠ .cell v
  item : ∀ {prog : Program} {w : World} {A : Around} {E : Value → Shared → Prop} {s : Shared} {Q : Value → Shared → Prop} {k : Nat} {x : Value}, S k s.heap → nth k = some x →
    (∀ h', S (k + 1) h' → Heap.SameBut i s.heap h' → Q x { s with heap := h' }) → wpAny (model prog w) A (Builtin.SmallTypes.nextOf (.ref i)) Q E s
  fin : ∀ {prog : Program} {w : World} {A : Around} {E : Value → Shared → Prop} {s : Shared} {Q : Value → Shared → Prop} {k : Nat}, A.handled = none → S k s.heap → nth k = none →
    (∀ h' e, Heap.ExtBut i s.heap h' → (∃ o, h'.get? e = some o ∧ o.cls = .type "StopIteration") → E (.ref e) { s with heap := h' }) → wpAny (model prog w) A (Builtin.SmallTypes.nextOf (.ref i)) Q E s

theorem srcT (i t : Addr) (hne : t ≠ i) (its : Array Value) : Src i [i, t] (fun k h => h.IsTupleIter i t k ∧ h.IsTuple t its) (fun k => its[k]?) where
  mem := List.mem_cons_self
  stay := by
    rintro k h h' ⟨⟨o, e, r⟩, ⟨o2, e2, r2⟩⟩ hk
    exact ⟨⟨o, hk i (by simp) o e, r⟩, ⟨o2, hk t (by simp) o2 e2, r2⟩⟩
  obj := by
    rintro k h ⟨⟨o, e, c, d⟩, _⟩
    exact ⟨o, e, fun v z => by rw [d] at z; cases z⟩
  item := by
    rintro prog w A E s Q k x ⟨hit, ht⟩ hx hQ
    obtain ⟨o, ho, hc, hd⟩ := id hit; obtain ⟨ol, hol, hlc, nl, hdl⟩ := id ht
    unfold Builtin.SmallTypes.nextOf
    refine wpAny_bind (wpAny_callSpecial?_slot (name := Str.ofString "__next__") hit.typeIs F.slot_tuple_iterator_next (wpAny_call_entry F.slot_tuple_iterator_next hit.typeIs F.entry_tuple_iterator_next ?_ (F.args_tuple_iterator_next_1 _)))
    show wpAny _ _ (field (.ref i) 0 >>= _) _ _ s; refine wpAny_bind (wpAny_field ho hd (x := .ref t) rfl ?_)
    show wpAny _ _ (if (Value.ref t == Value.none) = true then _ else _) _ _ s; rw [if_neg (show ¬ ((Value.ref t == Value.none) = true) from Bool.false_ne_true)]
    show wpAny _ _ (field (.ref i) 1 >>= _) _ _ s; refine wpAny_bind (wpAny_field ho hd (x := .int k 0) rfl ?_)
    show wpAny _ _ (seqItems? (.ref t) >>= _) _ _ s; refine wpAny_bind (wpAny_seqItems hol hdl ?_)
    simp only [Int.toNat_natCast, hx]
    refine wpAny_bind (wpAny_setField ho hd (by simp) (wpAny_pure ⟨x, rfl, wpAny_pure (hQ _ ⟨?_, ht.extBut (Heap.SameBut.update ..).extBut hne⟩ (Heap.SameBut.update ..))⟩))
    refine ⟨_, Heap.get?_update_self _ ho (Obj.isFreed_of_fields (Obj.data_mapFields hd _)), (Obj.cls_mapFields ..).trans hc, ?_⟩
    rw [Obj.data_mapFields hd]; simp [rawInt]
  fin := by
    rintro prog w A E s Q k hh ⟨hit, ht⟩ hx hE
    obtain ⟨o, ho, hc, hd⟩ := id hit; obtain ⟨ol, hol, hlc, nl, hdl⟩ := id ht
    unfold Builtin.SmallTypes.nextOf
    refine wpAny_bind (wpAny_callSpecial?_slot (name := Str.ofString "__next__") hit.typeIs F.slot_tuple_iterator_next (wpAny_call_entry F.slot_tuple_iterator_next hit.typeIs F.entry_tuple_iterator_next ?_ (F.args_tuple_iterator_next_1 _)))
    show wpAny _ _ (field (.ref i) 0 >>= _) _ _ s; refine wpAny_bind (wpAny_field ho hd (x := .ref t) rfl ?_)
    show wpAny _ _ (if (Value.ref t == Value.none) = true then _ else _) _ _ s; rw [if_neg (show ¬ ((Value.ref t == Value.none) = true) from Bool.false_ne_true)]
    show wpAny _ _ (field (.ref i) 1 >>= _) _ _ s; refine wpAny_bind (wpAny_field ho hd (x := .int k 0) rfl ?_)
    show wpAny _ _ (seqItems? (.ref t) >>= _) _ _ s; refine wpAny_bind (wpAny_seqItems hol hdl ?_)
    simp only [Int.toNat_natCast, hx]
    refine wpAny_bind (wpAny_rule (wpAny_bind (wpAny_setField ho hd (by simp) ?_))); show wpAny _ _ (newExc (.type "StopIteration") [] >>= _) _ _ _
    refine wpAny_bind ?_; simp only [newExc, newTuple]; refine wpAny_bind (wpAny_newObj_type ?_ (by size_fits))
    refine wpAny_bind (m := firstArgMember _ _) (wpAny_of_eq (a := Value.none) (by first | rfl | (simp only [firstArgMember]; rfl)) ?_); refine wpAny_newObj_type ?_ (by size_fits)
    simp only [raiseNew]; refine wpAny_bind (wpAny_handled ?_); first | rw [show A.in1.handled = none from hh] | rw [hh]
    refine wpAny_bind (wpAny_pure (wpAny_throw ?_)); exact hE _ _ (((Heap.SameBut.update ..).extBut.push _).push _) ⟨_, Heap.get?_push_size _ rfl, rfl⟩

/-- the addresses of a zip's own things lie apart -/
structure Apart (z TI TO i1 i2 : Addr) (f1 f2 : List Addr) : Prop where
  TIz : TI ≠ z
  TOz : TO ≠ z
  i1z : i1 ≠ z
  i2z : i2 ≠ z
  TITO : TI ≠ TO
  TIi1 : TI ≠ i1
  TIi2 : TI ≠ i2
  TOi1 : TO ≠ i1
  TOi2 : TO ≠ i2
  i12 : i1 ≠ i2
  z1 : z ∉ f1
  z2 : z ∉ f2
  o1 : TO ∉ f1
  o2 : TO ∉ f2
  c12 : i1 ∉ f2
  c21 : i2 ∉ f1

section
variable {prog : Program} {w : World} {A : Around} {E : Value → Shared → Prop} {s : Shared} {z TI TO i1 i2 : Addr} {f1 f2 : List Addr} {S1 S2 : Nat → Heap → Prop} {n1 n2 : Nat → Option Value} {k1 k2 : Nat} {a b : Value}
theorem Src.but {i : Addr} {fp : List Addr} {S : Nat → Heap → Prop} {nth : Nat → Option Value} (R : Src i fp S nth) {k : Nat} {h h' : Heap} {c : Addr} (st : S k h) (e : Heap.ExtBut c h h') (hc : c ∉ fp) : S k h' :=
  R.stay k h h' st fun b hb o q => e b o (fun z => hc (z ▸ hb)) q

theorem next_item {x y : Value} {Q : Value → Shared → Prop} (R1 : Src i1 f1 S1 n1) (R2 : Src i2 f2 S2 n2) (D : Apart z TI TO i1 i2 f1 f2)
    (hz : IsZip s.heap z TI TO .none) (hTI : IsPair s.heap TI (.ref i1) (.ref i2)) (hTO : IsPair s.heap TO a b) (h1 : S1 k1 s.heap) (h2 : S2 k2 s.heap) (hx : n1 k1 = some x) (hy : n2 k2 = some y)
    (hQ : ∀ h', IsZip h' z TI TO (rawInt s.heap.objs.size) → IsPair h' TO x y → S1 (k1 + 1) h' → S2 (k2 + 1) h' → IsPair h' s.heap.objs.size x y →
      (∀ c o, c ≠ z → c ≠ TO → c ≠ i1 → c ≠ i2 → s.heap.get? c = some o → h'.get? c = some o) → Q (.ref s.heap.objs.size) { s with heap := h' }) :
    wpAny (model prog w) A (Builtin.«zip.__next__» ⟨[.ref z], []⟩) (fun fin s' => ∃ v, fin = .done (.ret v) ∧ Q v s') E s := by
  show wpAny _ _ (field (.ref z) 2 >>= _) _ _ _; refine wpAny_bind (wpAny_field hz rfl (x := .bool false) rfl ?_)
  show wpAny _ _ (field (.ref z) 3 >>= _) _ _ _; refine wpAny_bind (wpAny_field hz rfl (x := .ref TI) rfl ?_); refine wpAny_bind (wpAny_seqItems hTI rfl ?_)
  show wpAny _ _ (Builtin.SmallTypes.ownedTupleIsFree (.ref z) >>= _) _ _ _; refine wpAny_bind ?_; unfold Builtin.SmallTypes.ownedTupleIsFree
  refine wpAny_bind (wpAny_field hz rfl (x := .none) rfl (wpAny_pure ?_)); simp only [if_true]; refine wpAny_bind (wpAny_rule ?_)
  refine wpAny_bind (wpAny_field hz rfl (x := .ref TO) rfl ?_); refine wpAny_bind (wpAny_setField_rec hz (by simp) fun h₁ hz₁ hs₁ => ?_)
  replace hz₁ : IsZip h₁ z TI TO .ellipsis := hz₁
  refine wpAny_bind ?_; simp only [List.zipIdx_cons, List.zipIdx_nil, List.forIn_cons, List.forIn_nil]
  refine wpAny_bind (wpAny_bind (wpAny_onRaise ?_)); show wpAny _ _ (Builtin.SmallTypes.nextOf (.ref i1) >>= _) _ _ _
  refine wpAny_bind (R1.item (R1.but h1 hs₁.extBut D.z1) hx fun h₂ g1 hs₂ => wpAny_pure ?_)
  have t2 : IsPair h₂ TO a b := hs₂.extBut _ _ D.TOi1 (hs₁.extBut _ _ D.TOz hTO)
  refine wpAny_bind (wpAny_seqItems t2 rfl ?_); refine wpAny_bind (wpAny_updateSeq_pair t2 fun h₃ t3 hs₃ => ?_)
  replace t3 : IsPair h₃ TO x b := t3
  refine wpAny_bind (wpAny_letGo (wpAny_pure ?_)); refine wpAny_bind (wpAny_bind (wpAny_onRaise ?_)); show wpAny _ _ (Builtin.SmallTypes.nextOf (.ref i2) >>= _) _ _ _
  refine wpAny_bind (R2.item (R2.but (R2.but (R2.but h2 hs₁.extBut D.z2) hs₂.extBut D.c12) hs₃.extBut D.o2) hy fun h₄ g2 hs₄ => wpAny_pure ?_)
  have t4 : IsPair h₄ TO x b := hs₄.extBut _ _ D.TOi2 t3
  refine wpAny_bind (wpAny_seqItems t4 rfl ?_); refine wpAny_bind (wpAny_updateSeq_pair t4 fun h₅ t5 hs₅ => ?_)
  replace t5 : IsPair h₅ TO x y := t5
  refine wpAny_bind (wpAny_letGo (wpAny_pure (wpAny_pure ?_))); refine wpAny_bind (wpAny_seqItems t5 rfl ?_); refine wpAny_bind (wpAny_newTuple ?_)
  have hsz : h₅.objs.size = s.heap.objs.size := by rw [hs₅.1, hs₄.1, hs₃.1, hs₂.1, hs₁.1]
  have z5 : IsZip h₅ z TI TO .ellipsis := hs₅.extBut _ _ D.TOz.symm (hs₄.extBut _ _ D.i2z.symm (hs₃.extBut _ _ D.TOz.symm (hs₂.extBut _ _ D.i1z.symm hz₁)))
  have k5 : ∀ c o, c ≠ z → c ≠ TO → c ≠ i1 → c ≠ i2 → s.heap.get? c = some o → h₅.get? c = some o := fun c o c1 c2 c3 c4 e =>
    hs₅.extBut _ _ c2 (hs₄.extBut _ _ c4 (hs₃.extBut _ _ c2 (hs₂.extBut _ _ c3 (hs₁.extBut _ _ c1 e))))
  have e1 : S1 (k1 + 1) h₅ := R1.but (R1.but (R1.but g1 hs₃.extBut D.o1) hs₄.extBut D.c21) hs₅.extBut D.o1
  have e2 : S2 (k2 + 1) h₅ := R2.but g2 hs₅.extBut D.o2
  have lz : z < h₅.objs.size := Heap.lt_size z5
  show wpAny _ _ (Builtin.SmallTypes.ownedTupleHandOut (.ref z) (.ref h₅.objs.size) >>= _) _ _ _; refine wpAny_bind ?_; unfold Builtin.SmallTypes.ownedTupleHandOut
  have z6 : IsZip (h₅.push { cls := .type "tuple", data := .seq #[x, y] }) z TI TO .ellipsis := Heap.get?_push_of_some _ z5
  refine wpAny_bind (wpAny_setField_rec z6 (by simp) fun h₇ z7 hs₇ => ?_)
  replace z7 : IsZip h₇ z TI TO (rawInt h₅.objs.size) := z7
  refine wpAny_setField_rec z7 (by simp) fun h₈ z8 hs₈ => ?_
  replace z8 : IsZip h₈ z TI TO (rawInt h₅.objs.size) := z8
  have up : ∀ c o, c ≠ z → h₅.get? c = some o → h₈.get? c = some o := fun c o c1 e => hs₈.extBut _ _ c1 (hs₇.extBut _ _ c1 (Heap.get?_push_of_some _ e))
  have t8 : IsPair h₈ h₅.objs.size x y := hs₈.extBut _ _ (Nat.ne_of_gt lz) (hs₇.extBut _ _ (Nat.ne_of_gt lz) (Heap.get?_push_size _ rfl))
  rw [hsz] at z8 t8
  refine wpAny_pure ⟨_, rfl, ?_⟩; show Q (.ref h₅.objs.size) _; rw [hsz]
  exact hQ h₈ z8 (up _ _ D.TOz t5) (R1.stay _ _ _ e1 fun c hc o e => up c o (fun q => D.z1 (q ▸ hc)) e) (R2.stay _ _ _ e2 fun c hc o e => up c o (fun q => D.z2 (q ▸ hc)) e) t8 fun c o c1 c2 c3 c4 e => up c o c1 (k5 c o c1 c2 c3 c4 e)

theorem next_end {Q : Fin → Shared → Prop} (hh : A.handled = none) (R1 : Src i1 f1 S1 n1) (R2 : Src i2 f2 S2 n2) (D : Apart z TI TO i1 i2 f1 f2)
    (hz : IsZip s.heap z TI TO .none) (hTI : IsPair s.heap TI (.ref i1) (.ref i2)) (hTO : IsPair s.heap TO a b) (h1 : S1 k1 s.heap) (h2 : S2 k2 s.heap) (hend : n1 k1 = none ∨ n2 k2 = none)
    (hE : ∀ h' e, (∀ c o, c ≠ z → c ≠ TO → c ≠ i1 → c ≠ i2 → s.heap.get? c = some o → h'.get? c = some o) → (∃ o, h'.get? e = some o ∧ o.cls = .type "StopIteration") → E (.ref e) { s with heap := h' }) :
    wpAny (model prog w) A (Builtin.«zip.__next__» ⟨[.ref z], []⟩) Q E s := by
  show wpAny _ _ (field (.ref z) 2 >>= _) _ _ _; refine wpAny_bind (wpAny_field hz rfl (x := .bool false) rfl ?_)
  show wpAny _ _ (field (.ref z) 3 >>= _) _ _ _; refine wpAny_bind (wpAny_field hz rfl (x := .ref TI) rfl ?_); refine wpAny_bind (wpAny_seqItems hTI rfl ?_)
  show wpAny _ _ (Builtin.SmallTypes.ownedTupleIsFree (.ref z) >>= _) _ _ _; refine wpAny_bind ?_; unfold Builtin.SmallTypes.ownedTupleIsFree
  refine wpAny_bind (wpAny_field hz rfl (x := .none) rfl (wpAny_pure ?_)); simp only [if_true]; refine wpAny_bind (wpAny_rule ?_)
  refine wpAny_bind (wpAny_field hz rfl (x := .ref TO) rfl ?_); refine wpAny_bind (wpAny_setField_rec hz (by simp) fun h₁ hz₁ hs₁ => ?_)
  replace hz₁ : IsZip h₁ z TI TO .ellipsis := hz₁
  refine wpAny_bind ?_; simp only [List.zipIdx_cons, List.zipIdx_nil, List.forIn_cons, List.forIn_nil]
  refine wpAny_bind (wpAny_bind (wpAny_onRaise ?_)); show wpAny _ _ (Builtin.SmallTypes.nextOf (.ref i1) >>= _) _ _ _
  cases hx : n1 k1 with
  | none =>
    refine wpAny_bind (R1.fin hh (R1.but h1 hs₁.extBut D.z1) hx fun h₂ e hs₂ he => ?_)
    obtain ⟨oe, hoe, hce⟩ := he
    have hz₂ : IsZip h₂ z TI TO .ellipsis := hs₂ _ _ D.i1z.symm hz₁
    have hez : e ≠ z := fun x => by subst x; rw [hz₂] at hoe; cases hoe; simp at hce
    exact wpAny_setField_rec hz₂ (by simp) fun h₃ _ hs₃ => hE h₃ e (fun c o c1 _ c3 _ x => hs₃.extBut _ _ c1 (hs₂ _ _ c3 (hs₁.extBut _ _ c1 x))) ⟨oe, hs₃.extBut _ _ hez hoe, hce⟩
  | some x =>
    have hy : n2 k2 = none := by
      rcases hend with h | h
      · rw [hx] at h; cases h
      · exact h
    refine wpAny_bind (R1.item (R1.but h1 hs₁.extBut D.z1) hx fun h₂ g1 hs₂ => wpAny_pure ?_)
    have t2 : IsPair h₂ TO a b := hs₂.extBut _ _ D.TOi1 (hs₁.extBut _ _ D.TOz hTO)
    refine wpAny_bind (wpAny_seqItems t2 rfl ?_); refine wpAny_bind (wpAny_updateSeq_pair t2 fun h₃ t3 hs₃ => ?_)
    refine wpAny_bind (wpAny_letGo (wpAny_pure ?_)); refine wpAny_bind (wpAny_bind (wpAny_onRaise ?_)); show wpAny _ _ (Builtin.SmallTypes.nextOf (.ref i2) >>= _) _ _ _
    refine wpAny_bind (R2.fin hh (R2.but (R2.but (R2.but h2 hs₁.extBut D.z2) hs₂.extBut D.c12) hs₃.extBut D.o2) hy fun h₄ e hs₄ he => ?_)
    obtain ⟨oe, hoe, hce⟩ := he
    have hz₄ : IsZip h₄ z TI TO .ellipsis := hs₄ _ _ D.i2z.symm (hs₃.extBut _ _ D.TOz.symm (hs₂.extBut _ _ D.i1z.symm hz₁))
    have hez : e ≠ z := fun x => by subst x; rw [hz₄] at hoe; cases hoe; simp at hce
    exact wpAny_setField_rec hz₄ (by simp) fun h₅ _ hs₅ => hE h₅ e (fun c o c1 c2 c3 c4 x => hs₅.extBut _ _ c1 (hs₄ _ _ c4 (hs₃.extBut _ _ c2 (hs₂.extBut _ _ c3 (hs₁.extBut _ _ c1 x))))) ⟨oe, hs₅.extBut _ _ hez hoe, hce⟩

theorem py_item {x y : Value} {Q : Option Value → Shared → Prop} (R1 : Src i1 f1 S1 n1) (R2 : Src i2 f2 S2 n2) (D : Apart z TI TO i1 i2 f1 f2)
    (hz : IsZip s.heap z TI TO .none) (hTI : IsPair s.heap TI (.ref i1) (.ref i2)) (hTO : IsPair s.heap TO a b) (h1 : S1 k1 s.heap) (h2 : S2 k2 s.heap) (hx : n1 k1 = some x) (hy : n2 k2 = some y)
    (hQ : ∀ h', IsZip h' z TI TO (rawInt s.heap.objs.size) → IsPair h' TO x y → S1 (k1 + 1) h' → S2 (k2 + 1) h' → IsPair h' s.heap.objs.size x y →
      (∀ c o, c ≠ z → c ≠ TO → c ≠ i1 → c ≠ i2 → s.heap.get? c = some o → h'.get? c = some o) → Q (some (.ref s.heap.objs.size)) { s with heap := h' }) :
    wpAny (model prog w) A (pyNext (.ref z)) Q E s := by
  have hT : s.TypeIs (.ref z) "zip" := ⟨_, hz, rfl⟩
  unfold pyNext
  exact wpAny_bind (wpAny_attempt (wpAny_callSpecial?_slot (name := Str.ofString "__next__") hT F.slot_zip_next (wpAny_call_entry F.slot_zip_next hT F.entry_zip_next
      (next_item R1 R2 D hz hTI hTO h1 h2 hx hy fun h' a1 a2 a3 a4 a5 a7 => wpAny_pure (hQ h' a1 a2 a3 a4 a5 a7)) (F.args_zip_next_1 _))))
theorem py_end {Q : Option Value → Shared → Prop} (hh : A.handled = none) (R1 : Src i1 f1 S1 n1) (R2 : Src i2 f2 S2 n2) (D : Apart z TI TO i1 i2 f1 f2)
    (hz : IsZip s.heap z TI TO .none) (hTI : IsPair s.heap TI (.ref i1) (.ref i2)) (hTO : IsPair s.heap TO a b) (h1 : S1 k1 s.heap) (h2 : S2 k2 s.heap) (hend : n1 k1 = none ∨ n2 k2 = none)
    (hQ : ∀ h', (∀ c o, c ≠ z → c ≠ TO → c ≠ i1 → c ≠ i2 → s.heap.get? c = some o → h'.get? c = some o) → Q none { s with heap := h' }) : wpAny (model prog w) A (pyNext (.ref z)) Q E s := by
  have hT : s.TypeIs (.ref z) "zip" := ⟨_, hz, rfl⟩
  unfold pyNext
  refine wpAny_bind (wpAny_attempt (wpAny_callSpecial?_slot (name := Str.ofString "__next__") hT F.slot_zip_next
    (wpAny_call_entry F.slot_zip_next hT F.entry_zip_next (next_end hh R1 R2 D hz hTI hTO h1 h2 hend fun h' e hk he => ?_) (F.args_zip_next_1 _))))
  obtain ⟨o, ho, hc⟩ := he
  exact wpAny_bind (wpAny_isInstance (T := "StopIteration") (b := true) ⟨o, ho, hc⟩ isSubtype_stop (wpAny_pure (hQ _ hk)))
end

/-! a zip of two tuples is made -/
abbrev g1 (h : Heap) (l1 : Addr) : Heap := h.push { cls := .type "tuple_iterator", data := .fields #[.ref l1, .int 0 0] }
abbrev g2 (h : Heap) (l1 l2 : Addr) : Heap := (g1 h l1).push { cls := .type "tuple_iterator", data := .fields #[.ref l2, .int 0 0] }
abbrev g3 (h : Heap) (l1 l2 : Addr) : Heap := (g2 h l1 l2).push { cls := .type "tuple", data := .seq #[.ref h.objs.size, .ref (g1 h l1).objs.size] }
abbrev g4 (h : Heap) (l1 l2 : Addr) : Heap := (g3 h l1 l2).push { cls := .type "tuple", data := .seq #[.none, .none] }
abbrev g5 (h : Heap) (l1 l2 : Addr) : Heap := (g4 h l1 l2).push { cls := .type "zip", data := .fields #[.none, .bool false, .bool false, .ref (g2 h l1 l2).objs.size, .ref (g3 h l1 l2).objs.size] }

theorem meets_new (l1 l2 : Addr) (xs ys : Array Value) :
    Meets (Builtin.«zip.__new__» ⟨[.type "zip", .ref l1, .ref l2], []⟩) (fun _ R s => s.heap.IsTuple l1 xs ∧ s.heap.IsTuple l2 ys ∧
      R (.ok (.ret (.ref (g4 s.heap l1 l2).objs.size))) { s with heap := g5 s.heap l1 l2 }) :=
  .of_wp fun prog w A R s h => by
    obtain ⟨hp, g, d, tk, os⟩ := s; obtain ⟨hl1, hl2, h⟩ := h
    have hsub := sub_zip
    have hL1 : Heap.IsTuple (Shared.heap ⟨hp, g, d, tk, os⟩) l1 xs := hl1
    have hL2 : Heap.IsTuple (Shared.heap ⟨hp.push { cls := .type "tuple_iterator", data := .fields #[.ref l1, .int 0 0] }, g, d, tk, os⟩) l2 ys := Heap.IsTuple.push hl2 _
    wp_walk using wpAny_pyIter_tuple hL1, wpAny_pyIter_tuple hL2
    exact ⟨_, rfl, h⟩

theorem call_zip {prog : Program} {w : World} {A : Around} {E : Value → Shared → Prop} {s : Shared} {l1 l2 : Addr} {xs ys : Array Value} {Q : Value → Shared → Prop} (hl1 : s.heap.IsTuple l1 xs) (hl2 : s.heap.IsTuple l2 ys)
    (h : ∀ h', IsZip h' (s.heap.objs.size + 4) (s.heap.objs.size + 2) (s.heap.objs.size + 3) .none → IsPair h' (s.heap.objs.size + 2) (.ref s.heap.objs.size) (.ref (s.heap.objs.size + 1)) →
      IsPair h' (s.heap.objs.size + 3) .none .none → h'.IsTupleIter s.heap.objs.size l1 0 → h'.IsTupleIter (s.heap.objs.size + 1) l2 0 →
      (∀ c o, s.heap.get? c = some o → h'.get? c = some o) → Q (.ref (s.heap.objs.size + 4)) { s with heap := h' }) :
    wpAny (model prog w) A (call (.type "zip") [.ref l1, .ref l2]) Q E s := by
  refine callType_new F.called_zip (by decide) (F.typeCall_zip_2 _ _) (F.newCall_zip_2 _ _) (fun obj => F.args_object_init_3 obj _ _) F.entry_zip_new (meets_new l1 l2 xs ys) ⟨hl1, hl2, ?_⟩
  have z1 : (g1 s.heap l1).objs.size = s.heap.objs.size + 1 := Heap.size_push ..
  have z2 : (g2 s.heap l1 l2).objs.size = s.heap.objs.size + 2 := by rw [Heap.size_push, z1]
  have z3 : (g3 s.heap l1 l2).objs.size = s.heap.objs.size + 3 := by rw [Heap.size_push, z2]
  have z4 : (g4 s.heap l1 l2).objs.size = s.heap.objs.size + 4 := by rw [Heap.size_push, z3]
  have q5 : (g5 s.heap l1 l2).get? (g4 s.heap l1 l2).objs.size = some _ := Heap.get?_push_size _ rfl
  have q4 : (g5 s.heap l1 l2).get? (g3 s.heap l1 l2).objs.size = some _ := Heap.get?_push_of_some _ (Heap.get?_push_size _ rfl)
  have q3 : (g5 s.heap l1 l2).get? (g2 s.heap l1 l2).objs.size = some _ := Heap.get?_push_of_some _ (Heap.get?_push_of_some _ (Heap.get?_push_size _ rfl))
  have q2 : (g5 s.heap l1 l2).get? (g1 s.heap l1).objs.size = some _ := Heap.get?_push_of_some _ (Heap.get?_push_of_some _ (Heap.get?_push_of_some _ (Heap.get?_push_size _ rfl)))
  have q1 : (g5 s.heap l1 l2).get? s.heap.objs.size = some _ := Heap.get?_push_of_some _ (Heap.get?_push_of_some _ (Heap.get?_push_of_some _ (Heap.get?_push_of_some _ (Heap.get?_push_size _ rfl))))
  show _ ∧ _
  rw [z2, z3, z4] at q5; rw [z1, z2] at q3; rw [z3] at q4; rw [z1] at q2; rw [z4]
  exact ⟨⟨_, q5, rfl⟩, h _ q5 q3 q4 ⟨_, q1, rfl, rfl⟩ ⟨_, q2, rfl, rfl⟩ fun c o x =>
    Heap.get?_push_of_some _ (Heap.get?_push_of_some _ (Heap.get?_push_of_some _ (Heap.get?_push_of_some _ (Heap.get?_push_of_some _ x))))⟩
end Zt

namespace L2
open PySem PySem.Spec PyProof.Rows
/-- the iterator's own objects have turned, others are kept -/
theorem Inv.spun {X : Cx} {pins : List (Addr × Obj)} {σ : St} {H : Hp} {s : Shared} {h' : Heap} {t' : Nat} {ch : List Addr} (I : Inv X pins σ H s) (hch : ∀ b ∈ ch, FpOk X pins H b)
    (k : ∀ b o, b ∉ ch → s.heap.get? b = some o → h'.get? b = some o) : Inv X pins σ H { s with heap := h', toks := t' } := by
  have nit : ∀ b u, H b = some u → b ∉ ch := fun b u e z => by rw [(hch b z).1] at e; cases e
  refine I.step (g' := s.gens) (d' := s.drawn) (ch := ch) (fun b hb => ?_) (fun b o _ _ hc e _ => k b o hc e) (fun b o _ _ hc e _ => ⟨o.slots, k b o hc e⟩) (fun _ _ _ _ n => n)
    (fun b o hc e => ⟨o, k b o hc e⟩) (fun _ _ e => e) (fun _ _ _ e => e) (fun b ps e => ⟨#[], by rw [e]; simp⟩) (fun m hm => ?_) (fun b u e => ?_) I.bare
  · obtain ⟨f0, f1, f2, f3, f4, f5⟩ := hch b hb
    exact ⟨f3, f1, f4, f5⟩
  · obtain ⟨o, es, ep, ho, r⟩ := hm
    exact ⟨o, es, ep, k _ o (fun z => (hch _ z).2.1 rfl) ho, r⟩
  · refine (I.hok b u e).stay (fun c v hc q => k c v ?_ q) (fun _ q => q) fun _ _ q => q
    rcases hc with z | z
    · rw [z]; exact nit b u e
    · exact nit c _ z
/-- an object that stands there untracked is tracked from now on -/
theorem Inv.track {X : Cx} {pins : List (Addr × Obj)} {σ : St} {H : Hp} {s s1 : Shared} {a : Addr} {o : HO} (I : Inv X pins σ H s) (J : Inv X pins σ H s1) (ha : s.heap.objs.size ≤ a) (new : ObjOk X.prog X.w (upd H a o) s1.heap a o) :
    Inv X pins σ (upd H a o) s1 := by
  have hn : H a = none := I.hok.fresh ha
  have ne : ∀ b u, s.heap.get? b = some u → b ≠ a := fun b u e => Nat.ne_of_lt (Nat.lt_of_lt_of_le (Heap.lt_size e) ha)
  have h0 : X.s₀.heap.objs.size ≤ a := Nat.le_trans I.sz ha
  have ne0 : ∀ b u, X.s₀.heap.get? b = some u → b ≠ a := fun b u e => Nat.ne_of_lt (Nat.lt_of_lt_of_le (Heap.lt_size e) h0)
  refine ⟨J.ok, J.os, J.bare, ⟨J.base.keep, J.base.slot, fun b u e n hx => ?_, J.base.there, fun b xs e => ?_, fun b u v e => ?_, fun b ps e => ?_⟩, J.loc, J.cell, ?_, fun x c e => ?_, fun p hp => ?_, fun b u e => ?_, J.len⟩
  · rw [upd_ne (ne0 b u e)]; exact J.base.free b u e n hx
  · have q := J.base.tups b xs e
    rw [upd_ne (ne_of_none q hn)]; exact q
  · have q := J.base.frzs b u v e
    rw [upd_ne (ne_of_none q hn)]; exact q
  · obtain ⟨m, q⟩ := J.base.tbls b ps e
    exact ⟨m, by rw [upd_ne (ne_of_none q hn)]; exact q⟩
  · obtain ⟨m, ⟨ob, _, _, e, _⟩, _⟩ := I.loc
    rw [upd_ne (ne _ _ e)]; exact J.free
  · obtain ⟨v, ob, e1, _⟩ := I.cell x c e
    rw [upd_ne (ne _ _ e1)]; exact J.freeC x c e
  · obtain ⟨q1, q2, q3, q4, q5⟩ := J.pin p hp
    exact ⟨q1, by rw [upd_ne (ne _ _ (I.pin p hp).1)]; exact q2, q3, q4, q5⟩
  · by_cases hb : b = a
    · subst hb; rw [upd_same] at e; cases e; exact new
    · rw [upd_ne hb] at e
      exact (J.hok b u e).stay (fun c v _ q => q) (fun c q => by rw [upd_ne (ne_of_none q hn)]; exact q) fun c xs q => by rw [upd_ne (ne_of_none q hn)]; exact q

/-- zip of the tuples at a and b: each turn lays a new pair -/
def Itz (K : PySem.W.Frag) (a b : Addr) : It :=
  ⟨fun i H => ∃ xs ys x y, SqT K H a xs ∧ SqT K H b ys ∧ xs[i]? = some x ∧ ys[i]? = some y,
   fun i H v H' => ∃ p x y, H p = none ∧ (∀ xs, SqT K H a xs → xs[i]? = some x) ∧ (∀ ys, SqT K H b ys → ys[i]? = some y) ∧ v = .ref p ∧ H' = upd H p (.tup [x, y]),
   fun i H => ∃ xs ys, SqT K H a xs ∧ SqT K H b ys ∧ (xs.length ≤ i ∨ ys.length ≤ i)⟩
theorem turn_zip {P : Program} {w : World} {K : PySem.W.Frag} {es : List Expr} {k : Nat} {ps : Pos} {z TI TO i1 i2 a b : Addr}
    (na : a ≠ i1) (nb : b ≠ i2) (D : Zt.Apart z TI TO i1 i2 [i1, a] [i2, b]) :
    Turn P w K (.Tuple es k ps) (Itz K a b) [z, TI, TO, i1, i2] z (fun n h => IsZip h z TI TO .none ∧ IsPair h TI (.ref i1) (.ref i2) ∧ (∃ u v, IsPair h TO u v) ∧ h.IsTupleIter i1 a n ∧ h.IsTupleIter i2 b n) where
  mem := by simp
  obj := by
    rintro n h ⟨hz, hTI, ⟨u, v, hTO⟩, ⟨o1, e1, c1, d1⟩, ⟨o2, e2, c2, d2⟩⟩ c hc
    simp only [List.mem_cons, List.not_mem_nil, or_false] at hc
    rcases hc with rfl | rfl | rfl | rfl | rfl
    · exact ⟨_, hz, fun v q => nomatch q⟩
    · exact ⟨_, hTI, fun v q => nomatch q⟩
    · exact ⟨_, hTO, fun v q => nomatch q⟩
    · exact ⟨o1, e1, fun v q => by rw [d1] at q; cases q⟩
    · exact ⟨o2, e2, fun v q => by rw [d2] at q; cases q⟩
  keep := by
    rintro n h h' ⟨hz, hTI, ⟨u, v, hTO⟩, ⟨o1, e1, r1⟩, ⟨o2, e2, r2⟩⟩ kp
    exact ⟨kp z (by simp) _ hz, kp TI (by simp) _ hTI, ⟨u, v, kp TO (by simp) _ hTO⟩, ⟨o1, kp i1 (by simp) _ e1, r1⟩, ⟨o2, kp i2 (by simp) _ e2, r2⟩⟩
  item := by
    intro X hP hw hK hc i pins s σ H E I hf st hg
    subst hP hw hK
    obtain ⟨hz, hTI, ⟨u, v, hTO⟩, hi1, hi2⟩ := st
    obtain ⟨xs, ys, x, y, qx, qy, hx, hy⟩ := hg
    obtain ⟨us, rx, px, zx⟩ := I.tuple qx
    obtain ⟨ws, ry, py, zy⟩ := I.tuple qy
    obtain ⟨ux, hux, rux⟩ := rx.get hx
    obtain ⟨uy, huy, ruy⟩ := ry.get hy
    refine Zt.py_item (Zt.srcT i1 a na us.toArray) (Zt.srcT i2 b nb ws.toArray) D hz hTI hTO ⟨hi1, px⟩ ⟨hi2, py⟩ (x := ux) (y := uy) (by simpa using hux) (by simpa using huy) fun h' z1 t1 s1 s2 t2 kp => ⟨_, rfl, ?_⟩
    refine wpAny_letOwnedTupleGo_zip (s := { s with heap := h' }) z1 fun h'' z2 sb => ?_
    have kp2 : ∀ c o, c ∉ [z, TI, TO, i1, i2] → s.heap.get? c = some o → h''.get? c = some o := fun c o hc e => by
      simp only [List.mem_cons, List.not_mem_nil, or_false, not_or] at hc
      exact sb.extBut _ _ hc.1 (kp c o hc.1 hc.2.2.1 hc.2.2.2.1 hc.2.2.2.2 e)
    have nz : s.heap.objs.size ≠ z := Nat.ne_of_gt (Heap.lt_size hz)
    have J : Inv X pins σ H { s with heap := h'' } := I.spun (t' := s.toks) hf kp2
    have t3 : IsPair h'' s.heap.objs.size ux uy := sb.extBut _ _ nz t2
    refine ⟨.ref s.heap.objs.size, upd H s.heap.objs.size (.tup [x, y]), I.track J (Nat.le_refl _) ⟨by show 2 ≤ sizeLine; decide, [ux, uy], .cons rux (.cons ruy .nil), ⟨_, t3, rfl, _, rfl⟩⟩, rfl, ⟨_, x, y, I.hok.fresh (Nat.le_refl _), fun zs h => ?_, fun zs h => ?_, rfl, rfl⟩, ?_, fun c hc => ?_⟩
    · rw [I.tuple_inj h qx]; exact hx
    · rw [I.tuple_inj h qy]; exact hy
    · exact ⟨z2, sb.extBut _ _ D.TIz (kp TI _ D.TIz D.TITO D.TIi1 D.TIi2 hTI), ⟨ux, uy, sb.extBut _ _ D.TOz t1⟩, s1.1.extBut sb.extBut D.i1z, s2.1.extBut sb.extBut D.i2z⟩
    · have e : c ≠ s.heap.objs.size := by
        simp only [List.mem_cons, List.not_mem_nil, or_false] at hc
        obtain ⟨o1, e1, _⟩ := hi1; obtain ⟨o2, e2, _⟩ := hi2
        rcases hc with rfl | rfl | rfl | rfl | rfl
        · exact Nat.ne_of_lt (Heap.lt_size hz)
        · exact Nat.ne_of_lt (Heap.lt_size hTI)
        · exact Nat.ne_of_lt (Heap.lt_size hTO)
        · exact Nat.ne_of_lt (Heap.lt_size e1)
        · exact Nat.ne_of_lt (Heap.lt_size e2)
      rw [upd_ne e]; exact (hf c hc).1
  done := by
    intro X hP hw hK hc i pins s σ H E I hf st hg
    subst hP hw hK
    obtain ⟨hz, hTI, ⟨u, v, hTO⟩, hi1, hi2⟩ := st
    obtain ⟨xs, ys, qx, qy, hend⟩ := hg
    obtain ⟨us, rx, px, zx⟩ := I.tuple qx
    obtain ⟨ws, ry, py, zy⟩ := I.tuple qy
    have lx := rx.length
    have ly := ry.length
    refine Zt.py_end (I.ok.hd hc) (Zt.srcT i1 a na us.toArray) (Zt.srcT i2 b nb ws.toArray) D hz hTI hTO ⟨hi1, px⟩ ⟨hi2, py⟩ (k1 := i) (k2 := i) (hend.imp (fun h => by simp; omega) (fun h => by simp; omega)) fun h' kp => ⟨rfl, ?_⟩
    refine I.spun (t' := s.toks) hf fun c o hc e => ?_
    simp only [List.mem_cons, List.not_mem_nil, or_false, not_or] at hc
    exact kp c o hc.1 hc.2.2.1 hc.2.2.2.1 hc.2.2.2.2 e
  self := by
    rintro A n s Q E ⟨hz, _⟩ h
    exact wpAny_pyIter_zip hz h
/-- for a, b in zip(t, u), two tuples -/
def iZip (K : PySem.W.Frag) (ta : TA) : TI := fun σ H R => ta σ H fun vs H1 => ∃ a b, vs = [.ref a, .ref b] ∧ (∃ xs, SqT K H1 a xs) ∧ (∃ ys, SqT K H1 b ys) ∧ R (Itz K a b) H1
theorem pi_zip {X : Cx} {es : List Expr} {k : Nat} {ps p pos : Pos} {e1 e2 : Expr} {ta : TA} (hg : Gl X "zip") (hm : X.mg "zip" = none) (ha : PA X [e1, e2] ta)
    (hs : starEach [e1, e2] X.env = [(false, eval e1 X.env), (false, eval e2 X.env)] := by rfl) (hs2 : starEach [e2] X.env = [(false, eval e2 X.env)] := by rfl) (hv : bootBuiltins "zip" = some (.type "zip") := by decide +kernel) :
    PI X (.Tuple es k ps) (.Call (.Name "zip" p) [e1, e2] [] pos) (iZip X.K ta) := by
  intro pins s σ H R I h
  refine Call_ (ld_blt I hg hm hv (PyProof.Rows.callWith_type1 (thn (ha pos pins s σ H _ I h) fun us s1 ⟨vs, H1, I1, r1, q1⟩ => ?_) (by rw [hs, hs2]) (by rw [hs2]; rfl)))
  obtain ⟨a, b, e, ⟨xs, qx⟩, ⟨ys, qy⟩, q⟩ := q1
  subst e
  obtain ⟨u, v, rfl, ra, rb⟩ := vals2 r1
  cases ra
  cases rb
  obtain ⟨us, rx, px, zx⟩ := I1.tuple qx
  obtain ⟨ws, ry, py, zy⟩ := I1.tuple qy
  refine Zt.call_zip (xs := us.toArray) (ys := ws.toArray) px py fun h' hz hTI hTO h1 h2 kp => ?_
  refine wpAny_pyIter_zip (s := { s1 with heap := h' }) hz ?_
  have la : a < s1.heap.objs.size := by obtain ⟨o, e, _⟩ := px; exact Heap.lt_size e
  have lb : b < s1.heap.objs.size := by obtain ⟨o, e, _⟩ := py; exact Heap.lt_size e
  have J : Inv X pins σ H1 { s1 with heap := h' } := I1.kept (t' := s1.toks) kp
  refine ⟨_, [s1.heap.objs.size + 4, s1.heap.objs.size + 2, s1.heap.objs.size + 3, s1.heap.objs.size, s1.heap.objs.size + 1], _, Itz X.K a b, H1, rfl, J, turn_zip (a := a) (b := b) (Nat.ne_of_lt la) (Nat.ne_of_lt (Nat.lt_succ_of_lt lb)) ?_, ⟨hz, hTI, ⟨_, _, hTO⟩, h1, h2⟩, fun c hc => ?_, q⟩
  · generalize s1.heap.objs.size = n at la lb
    constructor <;> (try simp only [List.mem_cons, List.not_mem_nil, or_false, not_or, ne_eq]) <;> (unfold Addr at *; omega)
  · have le : s1.heap.objs.size ≤ c := by
      simp only [List.mem_cons, List.not_mem_nil, or_false] at hc
      rcases hc with rfl | rfl | rfl | rfl | rfl
      · exact Nat.le_add_right _ _
      · exact Nat.le_add_right _ _
      · exact Nat.le_add_right _ _
      · exact Nat.le_refl _
      · exact Nat.le_add_right _ _
    exact I1.fpOk le (I1.hok.fresh le)
end L2

set_option maxRecDepth 100000
namespace L2
open PySem PySem.Spec PyProof.Rows

/-! ### a list comprehension -/
/-- the cells that a block takes over -/
def clsOf (cells : List (Str × Addr)) : List (Str × NameKind) → List (Str × Addr) → Option (List (Str × Addr))
  | [], acc => some acc
  | (n, k) :: r, acc => if (k == .free) = true then (match cells.lookup n with | some a => clsOf cells r ((n, a) :: acc) | none => none) else clsOf cells r acc

theorem clsOf_loop {env : Env} : ∀ (ns : List (Str × NameKind)) (acc cl : List (Str × Addr)), clsOf env.cells ns acc = some cl →
    (forIn ns acc fun (x : Str × NameKind) (cs : List (Str × Addr)) => (if (x.2 == .free) = true then (do let a ← cellOf env x.1; pure (ForInStep.yield ((x.1, a) :: cs))) else pure (ForInStep.yield cs) : Sem _)) = pure cl
  | [], acc, cl, h => by
    simp only [clsOf, Option.some.injEq] at h
    subst h; rfl
  | (n, k) :: r, acc, cl, h => by
    rw [List.forIn_cons]
    unfold clsOf at h
    by_cases hk : (k == NameKind.free) = true
    · rw [if_pos hk] at h
      simp only [hk, if_true]
      cases e : env.cells.lookup n with
      | none => rw [e] at h; cases h
      | some a =>
        rw [e] at h
        have ih := clsOf_loop r ((n, a) :: acc) cl h
        simp only [cellOf, e, pure_bind]
        exact ih
    · rw [if_neg hk] at h
      simp only [hk, if_false, pure_bind]
      exact clsOf_loop r acc cl h
theorem closure_of {env : Env} {sc : Scope} {cl : List (Str × Addr)} (h : clsOf env.cells sc.names [] = some cl) : closureFor sc env = pure cl := by
  have e := clsOf_loop (env := env) sc.names [] cl h
  unfold closureFor
  have e2 := congrArg (fun m : Sem (List (Str × Addr)) => m >>= fun r => (pure r : Sem (List (Str × Addr)))) e
  simp only [pure_bind] at e2
  refine Eq.trans ?_ e2
  rfl
theorem clsOf_sub {cells : List (Str × Addr)} : ∀ (ns : List (Str × NameKind)) (acc cl : List (Str × Addr)), clsOf cells ns acc = some cl → (∀ x c, acc.lookup x = some c → cells.lookup x = some c) → ∀ x c, cl.lookup x = some c → cells.lookup x = some c
  | [], acc, cl, h, ha => by
    simp only [clsOf, Option.some.injEq] at h
    subst h; exact ha
  | (n, k) :: r, acc, cl, h, ha => by
    unfold clsOf at h
    by_cases hk : (k == NameKind.free) = true
    · rw [if_pos hk] at h
      cases e : cells.lookup n with
      | none => rw [e] at h; cases h
      | some a =>
        rw [e] at h
        refine clsOf_sub r ((n, a) :: acc) cl h fun x c q => ?_
        rw [List.lookup_cons] at q
        cases hx : x == n with
        | true =>
          rw [hx] at q
          have e' : x = n := by simpa using hx
          subst e'
          cases q; exact e
        | false => rw [hx] at q; exact ha x c q
    · rw [if_neg hk] at h
      exact clsOf_sub r acc cl h ha
theorem clsOf_has {cells : List (Str × Addr)} : ∀ (ns : List (Str × NameKind)) (acc cl : List (Str × Addr)), clsOf cells ns acc = some cl → (∀ x, (∃ c, acc.lookup x = some c) → ∃ c, cl.lookup x = some c) ∧ ∀ y ∈ ns, y.2 = .free → ∃ c, cl.lookup y.1 = some c
  | [], acc, cl, h => by
    simp only [clsOf, Option.some.injEq] at h
    subst h; exact ⟨fun x q => q, fun y hy => by simp at hy⟩
  | (n, k) :: r, acc, cl, h => by
    unfold clsOf at h
    by_cases hk : (k == NameKind.free) = true
    · rw [if_pos hk] at h
      cases e : cells.lookup n with
      | none => rw [e] at h; cases h
      | some a =>
        rw [e] at h
        obtain ⟨h1, h2⟩ := clsOf_has r ((n, a) :: acc) cl h
        have up : ∀ x, (∃ c, acc.lookup x = some c) → ∃ c, ((n, a) :: acc).lookup x = some c := fun x ⟨c, q⟩ => by
          rw [List.lookup_cons]
          cases hx : x == n with
          | true => exact ⟨a, rfl⟩
          | false => exact ⟨c, q⟩
        refine ⟨fun x q => h1 x (up x q), fun y hy hf => ?_⟩
        rcases List.mem_cons.mp hy with rfl | hy
        · exact h1 n ⟨a, by simp [List.lookup_cons]⟩
        · exact h2 y hy hf
    · rw [if_neg hk] at h
      obtain ⟨h1, h2⟩ := clsOf_has r acc cl h
      refine ⟨h1, fun y hy hf => ?_⟩
      rcases List.mem_cons.mp hy with rfl | hy
      · exact absurd (show (k == NameKind.free) = true by have : k = .free := hf; subst this; rfl) hk
      · exact h2 y hy hf

theorem relabel_free {env : Env} : ∀ {names : List (Str × NameKind)} {x : Str}, names.lookup x = some .free →
    (names.map fun (n, k) => if (k == NameKind.free && env.scope.kind == .function && env.kindOf n == some .cell) then (n, NameKind.cell) else (n, k)).lookup x = some .cell ∨
    (names.map fun (n, k) => if (k == NameKind.free && env.scope.kind == .function && env.kindOf n == some .cell) then (n, NameKind.cell) else (n, k)).lookup x = some .free
  | [], _, h => by simp at h
  | (n, k) :: r, x, h => by
    have ih := @relabel_free env r x
    rw [List.map_cons]
    dsimp only
    cases hx : x == n with
    | true =>
      simp only [List.lookup_cons, hx] at h
      cases h
      by_cases hc : (NameKind.free == NameKind.free && env.scope.kind == .function && env.kindOf n == some .cell) = true
      · refine .inl ?_
        rw [if_pos hc, List.lookup_cons, hx]
      · refine .inr ?_
        rw [if_neg hc, List.lookup_cons, hx]
    | false =>
      simp only [List.lookup_cons, hx] at h
      by_cases hc : (k == NameKind.free && env.scope.kind == .function && env.kindOf n == some .cell) = true
      · rw [if_pos hc]; simp only [List.lookup_cons, hx]; exact ih h
      · rw [if_neg hc]; simp only [List.lookup_cons, hx]; exact ih h
theorem relabel_back {env : Env} : ∀ {names : List (Str × NameKind)} {x : Str} {kd : NameKind}, (kd = .cell ∨ kd = .free) →
    (names.map fun (n, k) => if (k == NameKind.free && env.scope.kind == .function && env.kindOf n == some .cell) then (n, NameKind.cell) else (n, k)).lookup x = some kd → ∃ y ∈ names, y.1 = x ∧ (y.2 = .free ∨ y.2 = .cell)
  | [], _, _, _, h => by simp at h
  | (n, k) :: r, x, kd, hkd, h => by
    have ih := @relabel_back env r x kd hkd
    rw [List.map_cons] at h
    dsimp only at h
    cases hx : x == n with
    | true =>
      have e : x = n := by simpa using hx
      subst e
      refine ⟨(x, k), by simp, rfl, ?_⟩
      by_cases hc : (k == NameKind.free && env.scope.kind == .function && env.kindOf x == some .cell) = true
      · refine .inl ?_
        simp only [Bool.and_eq_true] at hc
        simpa using hc.1.1
      · rw [if_neg hc] at h
        simp only [List.lookup_cons, beq_self_eq_true, Option.some.injEq] at h
        subst h
        exact hkd.symm
    | false =>
      have h' : (r.map fun (n, k) => if (k == NameKind.free && env.scope.kind == .function && env.kindOf n == some .cell) then (n, NameKind.cell) else (n, k)).lookup x = some kd := by
        by_cases hc : (k == NameKind.free && env.scope.kind == .function && env.kindOf n == some .cell) = true
        · rw [if_pos hc] at h; simp only [List.lookup_cons, hx] at h; exact h
        · rw [if_neg hc] at h; simp only [List.lookup_cons, hx] at h; exact h
      obtain ⟨y, hy, q⟩ := ih h'
      exact ⟨y, List.mem_cons_of_mem _ hy, q⟩

/-- the context of the block: made where the frame is about to be laid; nothing may be raised in it -/
def cxC (X : Cx) (sc : Scope) (cl : List (Str × Addr)) (NC : List Str) (fp : List Addr) (s : Shared) (H : Hp) : Cx where
  prog := X.prog
  w := X.w
  K := X.K
  mg := X.mg
  base := X.base
  A := X.A
  N := NC
  s₀ := s
  H₀ := H
  env := compEnvC sc cl s.heap.objs.size X.env
  outer := X.stack
  stack := X.stack
  ex := fp
  fn := fun _ => false
  calm := X.calm
  pn := []
  xe := fun _ _ => False
/-- the names of a block that are the outer frame's -/
def OutOk (X : Cx) (sc : Scope) : List Str → List (Option Nat) → Prop
  | x :: xs, o :: os => (match o with | none => True | some j => X.N[j]? = some x ∧ sc.names.lookup x = some .free ∧ (X.env.scope.names.lookup x = some .cell ∨ X.env.scope.names.lookup x = some .free)) ∧ OutOk X sc xs os
  | _, _ => True
theorem OutOk.at {X : Cx} {sc : Scope} : ∀ {NC : List Str} {fr : List (Option Nat)}, OutOk X sc NC fr → ∀ (i : Nat) (x : Str) (j : Nat), NC[i]? = some x → fr[i]? = some (some j) →
    X.N[j]? = some x ∧ sc.names.lookup x = some .free ∧ (X.env.scope.names.lookup x = some .cell ∨ X.env.scope.names.lookup x = some .free)
  | [], _, _, i, x, j, h1, _ => by simp at h1
  | _ :: _, [], _, i, x, j, _, h2 => by simp at h2
  | y :: ys, o :: os, h, 0, x, j, h1, h2 => by
    simp only [List.getElem?_cons_zero, Option.some.injEq] at h1 h2
    subst h1 h2
    exact h.1
  | y :: ys, o :: os, h, i + 1, x, j, h1, h2 => OutOk.at h.2 i x j (by simpa using h1) (by simpa using h2)
/-- what the block's names are: its own ones, and those of the outer frame, by their places -/
structure Blk (X : Cx) (sc : Scope) (cl : List (Str × Addr)) (NC : List Str) (fr : List (Option Nat)) : Prop where
  kind : sc.kind = .function
  cls : clsOf X.env.cells sc.names [] = some cl
  nocell : ∀ y ∈ sc.names, y.2 ≠ .cell
  names : ∀ y ∈ sc.names, y.2 = .local → sc.names.lookup y.1 = some .local
  len : fr.length = NC.length
  out : OutOk X sc NC fr
def stC (fr : List (Option Nat)) (σ : St) : St := fr.map fun o => o.bind fun j => (σ[j]?).join
theorem blk_start {X : Cx} {sc : Scope} {cl : List (Str × Addr)} {NC : List Str} {fr : List (Option Nat)} {pins : List (Addr × Obj)} {σ : St} {H : Hp} {s s4 : Shared} {fp : List Addr} (B : Blk X sc cl NC fr)
    (I : Inv X pins σ H s) (hf : ∀ b ∈ fp, FpOk X pins H b) (hlt : ∀ b ∈ fp, b < s.heap.objs.size) (hns : ∃ m, s4.heap.Ns s.heap.objs.size m) (hk : ∀ b o, s.heap.get? b = some o → s4.heap.get? b = some o) (hos : s4.os = s.os) (hg : s4.gens = s.gens) :
    Inv (cxC X sc cl NC fp s H) [] (stC fr σ) H s4 := by
  have sub := clsOf_sub sc.names [] cl B.cls (fun x c q => by simp at q)
  have has := (clsOf_has sc.names [] cl B.cls).2
  have nloc : ∀ x c, cl.lookup x = some c → c < s.heap.objs.size := fun x c e => by
    obtain ⟨v, o, q, _⟩ := I.cell x c (sub x c e)
    exact Heap.lt_size q
  refine ⟨⟨I.ok.mod, B.kind, I.ok.glob, I.ok.blt, Nat.le_refl _, fun x y c h1 h2 => I.ok.inj x y c (sub x c h1) (sub y c h2), fun x hx => ?_, fun x c hx _ => (nomatch hx), I.ok.hd, I.ok.frames, .inl rfl, fun b hb => ⟨?_, fun x c e => ?_⟩, I.bs, Nat.le_trans I.ok.bsz I.sz, fun b o e hb => ?_, fun b hb => ?_, I.stack, I.stkFree⟩,
    hos, by rw [hg]; exact I.bare, Un.kept hk, ?_, fun x c e => ?_, I.hok.fresh (Nat.le_refl _), fun x c e => I.freeC x c (sub x c e), fun p hp => absurd (show p ∈ ([] : List (Addr × Obj)) from hp) (by simp), I.hok.kept hk, ?_⟩
  · have h' : ∃ y ∈ sc.names, y.1 = x ∧ (y.2 = .free ∨ y.2 = .cell) := by
      rcases hx with q | q
      · exact relabel_back (.inl rfl) q
      · exact relabel_back (.inr rfl) q
    obtain ⟨y, hy, rfl, q⟩ := h'
    rcases q with q | q
    · exact has y hy q
    · exact absurd q (B.nocell y hy)
  · exact Nat.ne_of_lt (hlt b hb)
  · intro z
    obtain ⟨f0, f1, f2, f3, f4, f5⟩ := hf b hb
    exact f4 x c (sub x c e) z
  · obtain ⟨f0, f1, f2, f3, f4, f5⟩ := hf b hb
    rcases f3 with q | q
    · exact I.ok.noex b o e q
    · exact absurd (Nat.lt_of_lt_of_le (Heap.lt_size e) I.ok.bsz) (Nat.not_lt.mpr q)
  · intro z
    obtain ⟨f0, f1, f2, f3, f4, f5⟩ := hf b hb
    rcases List.mem_cons.mp (I.stkSub b z) with q | q
    · exact f1 q
    · exact f2 q
  · obtain ⟨m, hm⟩ := hns
    refine ⟨m, hm, fun i x v h1 h2 h3 => ?_⟩
    unfold stC at h2
    rw [List.getElem?_map] at h2
    cases e : fr[i]? with
    | none => rw [e] at h2; cases h2
    | some oj =>
      rw [e] at h2
      cases oj with
      | none => cases h2
      | some j =>
        have h2' : (σ[j]?).join = some v := Option.some.inj h2
        have h4 : σ[j]? = some (some v) := by
          cases q : σ[j]? with
          | none => rw [q] at h2'; cases h2'
          | some o => rw [q] at h2'; exact congrArg some h2'
        obtain ⟨n1, n2, n3⟩ := B.out.at i x j h1 e
        obtain ⟨m0, hm0, hl⟩ := I.loc
        obtain ⟨u, r, l⟩ := hl j x v n1 h4 (n3.elim (fun q => .inr (.inl q)) fun q => .inr (.inr q))
        refine ⟨u, r, .inr ⟨relabel_free n2, ?_⟩⟩
        rcases l with ⟨k1, _⟩ | ⟨_, c, c1, c2⟩
        · have k1' : X.env.scope.names.lookup x = some .local := k1
          rcases n3 with q | q <;> (rw [q] at k1'; cases k1')
        · obtain ⟨c', e'⟩ := has (x, .free) (PySem.mem_of_lookup n2) rfl
          have q := sub x c' e'
          rw [c1] at q; cases q
          obtain ⟨o, ho, hd⟩ := c2
          exact ⟨c, e', o, hk _ _ ho, hd⟩
  · obtain ⟨v, o, q, d⟩ := I.cell x c (sub x c e)
    exact ⟨v, o, hk _ _ q, d⟩
  · show (stC fr σ).length = NC.length
    unfold stC
    rw [List.length_map]; exact B.len

/-- the turns of a comprehension (its target may let an owned tuple go); nothing is raised -/
theorem comp_turns {prog : Program} {w : World} {A : Around} {R : Result → Shared → Prop} {s : Shared} {elt target iter : Expr} {ifs : List Expr} {scope : Scope} {pos : Pos} {it acc : Value} {env : Env} (J : Nat → Shared → Prop)
    (turn : ∀ n s, J n s → wpAny (model prog w) A (pyNext it) (fun r s1 => match r with
      | none => R (.ok .next) s1
      | some v => wpAny (model prog w) A (letOwnedTupleGo target it v) (fun _ s2 => wpAny (model prog w) A (assign target env v) (fun _ s3 =>
          wpAny (model prog w) A (compTests ifs env) (fun ok s4 => if ok = true then wpAny (model prog w) A (eval elt env) (fun x s5 =>
              wpAny (model prog w) A (call (.builtin "list.append") [acc, x]) (fun _ s6 => ∃ m, m < n ∧ J m s6) (fun _ _ => False) s5) (fun _ _ => False) s4
            else ∃ m, m < n ∧ J m s4) (fun _ _ => False) s3) (fun _ _ => False) s2) (fun _ _ => False) s1) (fun _ _ => False) s)
    (n : Nat) (h : J n s) : codeAny (model prog w) A (.compLoop (.ListComp elt [⟨target, iter, ifs, 0⟩] scope pos) 0 it acc env) R s := by
  refine codeAny_loop rfl J (fun n s hJ => ?_) n h
  show wpAny _ A ((compTurn (.ListComp elt [⟨target, iter, ifs, 0⟩] scope pos) 0 it acc env).onRaise (fun x => do noteFrame x env; theTreesLotGoes x)) _ _ s
  refine wpAny_noted ?_
  have wk : ∀ {α : Type} {t : Sem α} {Q Q' : α → Shared → Prop} {E : Value → Shared → Prop} {s : Shared}, wpAny (model prog w) A t Q (fun _ _ => False) s → (∀ a s, Q a s → Q' a s) → wpAny (model prog w) A t Q' E s := fun h q => wpAny_mono h q fun _ _ f => f.elim
  rw [compTurn_list]
  refine wpAny_bind (wpAny_standAt (wpAny_bind (wk (turn n s hJ) fun r s1 h1 => ?_)))
  cases r with
  | none => exact wpAny_pure h1
  | some v =>
    refine wpAny_bind (wk h1 fun _ s2 h2 => wpAny_bind (wk h2 fun _ s3 h3 => ?_))
    have h3' : wpAny (model prog w) A (forIn ifs true fun c r => if r = true then do let ok ← isTrue c env (eval c env); pure (ForInStep.yield ok) else pure (ForInStep.yield r)) (fun ok s4 => if ok = true then wpAny (model prog w) A (eval elt env) (fun x s5 =>
              wpAny (model prog w) A (call (.builtin "list.append") [acc, x]) (fun _ s6 => ∃ m, m < n ∧ J m s6) (fun _ _ => False) s5) (fun _ _ => False) s4
            else ∃ m, m < n ∧ J m s4) (fun _ _ => False) s3 := by
      have e : compTests ifs env = (forIn ifs true fun c r => if r = true then do let ok ← isTrue c env (eval c env); pure (ForInStep.yield ok) else pure (ForInStep.yield r)) >>= pure := by rfl
      rw [e, bind_pure] at h3
      exact h3
    refine wpAny_bind (wk h3' fun ok s4 h4 => ?_)
    cases ok with
    | false => exact wpAny_pure ⟨rfl, h4⟩
    | true => exact wpAny_bind (wpAny_bind (wk h4 fun x s5 h5 => wpAny_bind (wk h5 fun _ s6 h6 => wpAny_pure (wpAny_pure ⟨rfl, h6⟩))))

/-- the tests of a comprehension -/
def PF (X : Cx) (ifs : List Expr) (t : TT) : Prop :=
  ∀ (pins : List (Addr × Obj)) (s : Shared) (σ : St) (H : Hp) (Q : Bool → Hp → Prop), Inv X pins σ H s → t σ H Q → wpAny (model X.prog X.w) X.A (compTests ifs X.env) (TP X pins σ Q) X.xe s
def tYes : TT := fun _ H Q => Q true H
theorem pf_nil {X : Cx} : PF X [] tYes := fun _ _ _ H _ I h => wpAny_pure ⟨H, I, h⟩
theorem pf_one {X : Cx} {c : Expr} {t : TT} (h : PT X c t) : PF X [c] t := fun pins s σ H Q I hw => by
  have e : compTests [c] X.env = (forIn [c] true fun c r => if r = true then do let ok ← isTrue c X.env (eval c X.env); pure (ForInStep.yield ok) else pure (ForInStep.yield r)) >>= pure := by rfl
  rw [e, bind_pure]
  exact wpAny_tests_one (h pins s σ H Q I hw)

/-- [elt for target in iter if tests]: W the invariant over the turn, a measure, the block's names, the heap; the list grows at acc -/
def tComp (K : PySem.W.Frag) (fr : List (Option Nat)) (wi : TI) (g : TG) (tt : TT) (te : TE) : TE := fun σ H Q => wi σ H fun J H1 => ∀ acc, H1 acc = none → K.lookup acc = none →
  ∃ W : Nat → Nat → St → Hp → Prop, (∃ m, W 0 m (stC fr σ) (upd H1 acc (.lst []))) ∧ ∀ i m σc H, W i m σc H →
    (J.stop i H ∧ Q (.ref acc) H) ∨ (J.go i H ∧ ∃ N : St → Hp → Prop, (∀ σ' H', N σ' H' → ∃ m', m' < m ∧ W (i + 1) m' σ' H') ∧ ∀ x H', J.yld i H x H' → g x σc H' fun σ2 H2 => tt σ2 H2 fun b H3 =>
      if b = true then te σ2 H3 fun v H4 => ∃ xs, H4 acc = some (.lst xs) ∧ xs.length < sizeLine ∧ N σ2 (upd H4 acc (.lst (xs ++ [v]))) else N σ2 H3)

section
variable {X : Cx} {sc : Scope} {cl : List (Str × Addr)} {NC : List Str} {fr : List (Option Nat)} {elt target iter : Expr} {ifs : List Expr} {pos : Pos} {wi : TI} {g : TG} {tt : TT} {te : TE}
/-- the core: up to the block's end, whatever is done with the list behind it -/
theorem comp_core {pins : List (Addr × Obj)} {s : Shared} {σ : St} {H : Hp} {Q : VK} {RR : Value → Addr → Result → Shared → Prop} (B : Blk X sc cl NC fr) (hc : X.calm = true) (hi : PI X target iter wi)
    (hg : ∀ fp s H, PG (cxC X sc cl NC fp s H) target g) (ht : ∀ fp s H, PF (cxC X sc cl NC fp s H) ifs tt) (he : ∀ fp s H, PE (cxC X sc cl NC fp s H) elt te)
    (I : Inv X pins σ H s) (h : tComp X.K fr wi g tt te σ H Q)
    (hRR : ∀ acc C s' H', Q (.ref acc) H' → (∃ m, s'.heap.Ns C m) → Inv X pins σ H' s' → FpOk X pins H' C → RR (.ref acc) C (.ok .next) s') :
    wpAny (model X.prog X.w) X.A (eval iter X.env) (fun x s1 => wpAny (model X.prog X.w) X.A (pyIter x) (fun it s2 => wpAny (model X.prog X.w) X.A (newList []) (fun acc s3 =>
      wpAny (model X.prog X.w) X.A (newFunctionEnv sc X.env.globals cl [] X.env.qual none .none (some X.env)) (fun cenv s4 =>
        codeAny (model X.prog X.w) X.A (.compStart (.ListComp elt [⟨target, iter, ifs, 0⟩] sc pos) 0 it acc { cenv with scope := relabel sc X.env }) (RR acc cenv.locals) s4) X.xe s3) X.xe s2) X.xe s1) X.xe s := by
  refine thn (hi pins s σ H _ I h) fun v s1 h1 => thn h1 fun itv s2 h2 => ?_
  obtain ⟨it, fp, tn, J, H2, e, I2, T, st2, f2, K⟩ := h2
  subst e
  have nk : X.K.lookup s2.heap.objs.size = none := by
    cases q : X.K.lookup s2.heap.objs.size with
    | none => rfl
    | some o => exact absurd (Heap.lt_size (I2.kIn _ o q)) (Nat.lt_irrefl _)
  obtain ⟨W, ⟨m0, w0⟩, turn⟩ := K s2.heap.objs.size (I2.hok.fresh (Nat.le_refl _)) nk
  have I3 : Inv X pins σ (upd H2 s2.heap.objs.size (.lst [])) { s2 with heap := s2.heap.push { cls := .type "list", dict := none, data := .seq ([] : List Value).toArray } } :=
    I2.laid (t' := s2.toks) (fun b u e => Heap.get?_push_of_some _ e) (Nat.le_refl _) ⟨Nat.zero_le _, [], 0, .nil, Heap.get?_push_size _ rfl⟩
  have lt2 : ∀ b ∈ fp, b < s2.heap.objs.size := fun b hb => by
    obtain ⟨o, e, _⟩ := T.obj _ _ st2 b hb
    exact Heap.lt_size e
  have f3 : ∀ b ∈ fp, FpOk X pins (upd H2 s2.heap.objs.size (.lst [])) b := fun b hb => ⟨by rw [upd_ne (Nat.ne_of_lt (lt2 b hb))]; exact (f2 b hb).1, (f2 b hb).2⟩
  refine wpAny_newObj_type (wpAny_newFunctionEnv B.nocell (by intro y hy; simp at hy) (fun h4 hns4 hsb4 => ?_) B.kind)
  dsimp only at hns4 hsb4 ⊢
  generalize hs3 : ({ s2 with heap := s2.heap.push { cls := .type "list", dict := none, data := .seq ([] : List Value).toArray } } : Shared) = s3 at I3 ⊢
  have hh3 : s3.heap = s2.heap.push { cls := .type "list", dict := none, data := .seq ([] : List Value).toArray } := by rw [← hs3]
  have z3 : s3.heap.objs.size = s2.heap.objs.size + 1 := by rw [hh3, Heap.size_push]
  rw [← hh3] at hns4 hsb4 ⊢
  have k4 : ∀ b o, s3.heap.get? b = some o → h4.get? b = some o := fun b o e => hsb4.extBut b o (Nat.ne_of_lt (Heap.lt_size e)) (Heap.get?_push_of_some _ e)
  have lt3 : ∀ b ∈ fp, b < s3.heap.objs.size := fun b hb => by rw [z3]; exact Nat.lt_succ_of_lt (lt2 b hb)
  have start : ∀ s4 : Shared, s4 = { s2 with heap := h4, toks := s2.toks + ([] : List (Str × Value)).length } → codeAny (model X.prog X.w) X.A (.compLoop (.ListComp elt [⟨target, iter, ifs, 0⟩] sc pos) 0 (.ref it) (.ref s2.heap.objs.size) (compEnvC sc cl s3.heap.objs.size X.env)) (RR (.ref s2.heap.objs.size) s3.heap.objs.size) s4 := by
    rintro s4 rfl
    have I4 : Inv (cxC X sc cl NC fp s3 (upd H2 s2.heap.objs.size (.lst []))) [] (stC fr σ) (upd H2 s2.heap.objs.size (.lst [])) { s2 with heap := h4, toks := s2.toks + ([] : List (Str × Value)).length } :=
      blk_start B I3 f3 lt3 ⟨_, hns4⟩ k4 (by rw [← hs3]) (by rw [← hs3])
    have st4 : tn 0 h4 := T.keep _ _ _ st2 fun b hb o e => k4 b o (by rw [hh3]; exact Heap.get?_push_of_some _ e)
    have stat : ∀ {H' : Hp}, (∀ b ∈ fp, H' b = none) → ∀ b ∈ fp, FpOk (cxC X sc cl NC fp s3 (upd H2 s2.heap.objs.size (.lst []))) [] H' b := fun hn b hb =>
      ⟨hn b hb, (I4.ok.exf b hb).1, I4.ok.exfs b hb, .inl hb, (I4.ok.exf b hb).2, fun p hp => absurd (show p ∈ ([] : List (Addr × Obj)) from hp) (by simp)⟩
    refine comp_turns (fun n s' => ∃ i σ' H', Inv (cxC X sc cl NC fp s3 (upd H2 s2.heap.objs.size (.lst []))) [] σ' H' s' ∧ tn i s'.heap ∧ (∀ b ∈ fp, H' b = none) ∧ W i n σ' H') ?_ m0 ⟨0, _, _, I4, st4, fun b hb => (f3 b hb).1, w0⟩
    rintro n s5 ⟨i, σ5, H5, I5, st5, fr5, w5⟩
    rcases turn i n σ5 H5 w5 with ⟨stop, qn⟩ | ⟨go, N, hN, step⟩
    · refine thn (T.done (cxC X sc cl NC fp s3 (upd H2 s2.heap.objs.size (.lst []))) rfl rfl rfl hc i [] s5 σ5 H5 _ I5 (stat fr5) st5 stop) fun r s6 ⟨hr, I6⟩ => ?_
      subst hr
      have hC : H5 s3.heap.objs.size = none := I6.free
      refine hRR _ _ s6 H5 qn (let ⟨m, hm, _⟩ := I6.loc; ⟨m, hm⟩) ?_ (I3.fpOk (Nat.le_refl _) hC)
      have un : Un (frs X.stack) fp (upd H2 s2.heap.objs.size (.lst [])) H5 s3.heap s6.heap := I6.base
      have eo : s6.os = s3.os := I6.os
      have hb6 := I6.bare
      have hk6 : HOk X.prog X.w H5 s6.heap := I6.hok
      obtain ⟨hh6, g6, d6, t6, os6⟩ := s6
      dsimp only at eo
      subst eo
      exact I3.call (h' := hh6) (g' := g6) (d' := d6) (t' := t6) (ch := fp) un hk6 hb6 fun b hb => ⟨(f3 b hb).2.2.2.1, (f3 b hb).2.1, (f3 b hb).2.2.2.2.1, (f3 b hb).2.2.2.2.2⟩
    · refine thn (T.item (cxC X sc cl NC fp s3 (upd H2 s2.heap.objs.size (.lst []))) rfl rfl rfl hc i [] s5 σ5 H5 _ I5 (stat fr5) st5 go) fun r s6 ⟨u, hr, h6⟩ => ?_
      subst hr
      refine thn h6 fun _ s7 ⟨x, H7, I7, r7, y7, st7, fr7⟩ => ?_
      have I7' := I7.pinned (stat fr7) (T.obj _ _ st7)
      refine thn (hg fp s3 _ _ s7 σ5 H7 x u _ I7' r7 (step x H7 y7)) fun _ s8 ⟨σ8, H8, I8, q8⟩ => ?_
      refine thn (ht fp s3 _ _ s8 σ8 H8 _ I8 q8) fun b s9 ⟨H9, I9, q9⟩ => ?_
      have again : ∀ {s10 : Shared} {σ7 : St} {H10 : Hp}, Inv (cxC X sc cl NC fp s3 (upd H2 s2.heap.objs.size (.lst []))) ([] ++ pinsAt fp s7.heap) σ7 H10 s10 → N σ7 H10 →
          ∃ m, m < n ∧ ∃ i σ' H', Inv (cxC X sc cl NC fp s3 (upd H2 s2.heap.objs.size (.lst []))) [] σ' H' s10 ∧ tn i s10.heap ∧ (∀ b ∈ fp, H' b = none) ∧ W i m σ' H' := fun {s10 σ7 H10} I10 n7 => by
        obtain ⟨m', hm, w7⟩ := hN σ7 H10 n7
        refine ⟨m', hm, i + 1, σ7, H10, I10.unpinned, T.keep _ _ _ st7 fun b hb o e => (I10.pin (b, o) (List.mem_append_right _ (List.mem_append_right _ (mem_pinsAt hb e)))).1, fun b hb => ?_, w7⟩
        obtain ⟨o, e, d⟩ := T.obj _ _ st7 b hb
        exact (I10.pin (b, o) (List.mem_append_right _ (List.mem_append_right _ (mem_pinsAt hb e)))).2.1
      cases b with
      | false => exact again I9 q9
      | true =>
        refine thn (he fp s3 _ _ s9 σ8 H9 _ I9 q9) fun y s10 ⟨v, H10, I10, r10, xs, q1, q2, q3⟩ => ?_
        refine thn (mt_append (X := cxC X sc cl NC fp s3 (upd H2 s2.heap.objs.size (.lst []))) _ s10 σ8 H10 (.ref s2.heap.objs.size) [v] (.ref s2.heap.objs.size) [y] (fun z H' => N σ8 H') I10 rfl (.cons r10 .nil) ⟨_, xs, v, rfl, rfl, q1, q2, q3⟩) fun z s11 ⟨_, H11, I11, _, q11⟩ => ?_
        exact again I11 q11
  exact codeAny_compStart_list (start _ rfl) (T.self _ _ _ _ _ (T.keep _ _ _ st2 fun b hb o e => k4 b o (by rw [hh3]; exact Heap.get?_push_of_some _ e)) (start _ rfl))
theorem pe_comp (B : Blk X sc cl NC fr) (hc : X.calm = true) (hi : PI X target iter wi) (hg : ∀ fp s H, PG (cxC X sc cl NC fp s H) target g) (ht : ∀ fp s H, PF (cxC X sc cl NC fp s H) ifs tt) (he : ∀ fp s H, PE (cxC X sc cl NC fp s H) elt te)
    (hs : ∀ x, foldedSetIterable iter X.env x = pure x := by intro _; rfl) : PE X (.ListComp elt [⟨target, iter, ifs, 0⟩] sc pos) (tComp X.K fr wi g tt te) := by
  intro pins s σ H Q I h
  rw [eval_ListComp]
  refine wpAny_comprehension_free (use := none) rfl hs (closure_of B.cls) B.kind B.names ?_
  refine comp_core (RR := fun acc C => compPost (model X.prog X.w) X.A X.xe none (EP X pins σ Q) acc C) B hc hi hg ht he I h ?_
  rintro acc C s' H' q ⟨m, hn⟩ I' ⟨f0, f1, f2, f3, f4, f5⟩
  exact ⟨m, hn, fun h' sb => ⟨.ref acc, H', I'.turned (t' := s'.toks) (fun b o hb e => sb.extBut b o hb e) f0 f1 f3 f4 f5, rfl, q⟩⟩
/-- name = [elt for ..] on one line: the store comes ahead of the block's end -/
theorem ps_setComp {i : Nat} {x : Str} {pos' spos : Pos} (hN : X.N.Nodup) (hi' : X.N[i]? = some x) (hx : Loc X.env.scope x) (B : Blk X sc cl NC fr) (hc : X.calm = true) (hi : PI X target iter wi) (hg : ∀ fp s H, PG (cxC X sc cl NC fp s H) target g) (ht : ∀ fp s H, PF (cxC X sc cl NC fp s H) ifs tt) (he : ∀ fp s H, PE (cxC X sc cl NC fp s H) elt te)
    (hsw : swapsWith (.ListComp elt [⟨target, iter, ifs, 0⟩] sc pos) (some (.Name x pos')) spos.line X.env = pure true)
    (hs : ∀ x, foldedSetIterable iter X.env x = pure x := by intro _; rfl) (hf : X.fn x = true ∨ X.env.scope.names.lookup x = some .local := by first | exact .inl rfl | exact .inr rfl | assumption) :
    PS X (.Assign [.Name x pos'] (.ListComp elt [⟨target, iter, ifs, 0⟩] sc pos) spos) (tAsg (tComp X.K fr wi g tt te) (gName i)) := by
  intro pins s σ H D I h
  rw [exec_Assign_Name_used _ _ _ _ hsw]
  refine wpAny_bind (wpAny_standAt (wpAny_bind ?_))
  show wpAny _ X.A (do let _ ← comprehension (.ListComp elt [⟨target, iter, ifs, 0⟩] sc pos) sc X.env _ (newList []) false (eval iter X.env) (some (assign (.Name x pos') X.env))) _ _ s
  refine wpAny_bind (thn (Q := fun _ s' => SP X pins D .next s') ?_ fun _ s' hq => wpAny_pure (wpAny_pure hq))
  refine wpAny_comprehension_free (use := some (assign (.Name x pos') X.env)) rfl hs (closure_of B.cls) B.kind B.names ?_
  refine comp_core (RR := fun acc C => compPost (model X.prog X.w) X.A X.xe (some (assign (.Name x pos') X.env)) (fun _ s' => SP X pins D .next s') acc C) B hc hi hg ht he I h ?_
  rintro acc C s' H' q ⟨m, hn⟩ I' ⟨f0, f1, f2, f3, f4, f5⟩
  refine wpAny_assign_Name (store_ok2 I' hN hi' hx (v := .ref acc) rfl (fun s'' I'' ⟨a, sb, ha⟩ => ?_) hf)
  have nC : C ≠ a := by
    rintro rfl
    rcases ha with z | z
    · exact f1 z
    · exact f4 x _ z rfl
  refine ⟨m, hn.sameBut sb nC, fun h' sb' => ⟨_, H', I''.turned (t' := s''.toks) (fun b o hb e => sb'.extBut b o hb e) f0 f1 f3 f4 f5, q⟩⟩
end
end L2

set_option maxRecDepth 100000
namespace L2
open PySem PySem.Spec PyProof.Rows

theorem Same.upd {H : Hp} {p : Addr} {o : HO} (h : H p = none) : Same H (upd H p o) := fun b u e => by rw [upd_ne (ne_of_none e h)]; exact e
theorem Same.tupS {K : PySem.W.Frag} {H H' : Hp} {a : Addr} {xs : List V} (e : Same H H') (h : SqT K H a xs) : SqT K H' a xs := by
  rcases h with (h | ⟨o, h⟩) | h
  · exact .inl (.inl (e _ _ h))
  · exact .inl (.inr ⟨o, e _ _ h⟩)
  · exact .inr h

/-! ### t[lo:hi] of a tuple, whole or not -/
theorem tup_whole {prog : Program} {w : World} {A : Around} {E : Value → Shared → Prop} {s : Shared} {t sl : Addr} {items : Array Value} {vl vu : Value} {lo hi : Option Int} {Q : Value → Shared → Prop} (ht : IsTup s.heap t items) (hs : s.heap.IsSliceOf sl vl vu .none) (pl : IsPart vl lo) (pu : IsPart vu hi)
    (hw : HT.sIx items.size 0 lo = 0 ∧ HT.sIx items.size items.size hi = items.size) (h : Q (.ref t) s) : wpAny (model prog w) A (getItem (.ref t) (.ref sl)) Q E s := by
  obtain ⟨os, hos, hcs, hds⟩ := id hs
  have hTs : s.TypeIs (.ref sl) "slice" := ⟨os, hos, hcs⟩
  unfold getItem
  try with_reducible refine wpAny_holding ?_
  first | refine wpAny_bind (wpAny_pure ?_) | skip
  refine wpAny_bind (wpAny_sequenceKey ht.typeIs (by decide) ?_)
  refine wpAny_bind (wpAny_callSpecial?_slot (name := Str.ofString "__getitem__") ht.typeIs PyProof.Rows.slot_tuple_getitem (wpAny_call_entry PyProof.Rows.slot_tuple_getitem ht.typeIs entry_tuple_getitem ?_ (args_tuple_getitem _ _)))
  show wpAny _ _ (Builtin.Tuple.tupleItemsOf (.ref t) >>= _) _ _ s
  refine wpAny_bind (tupleItemsOf_ ht ?_)
  refine wpAny_bind (wpAny_typeOf hTs ?_)
  rw [if_pos (by decide)]
  refine wpAny_bind (HT.sliceApplied_gen hs pl pu ?_)
  show wpAny _ _ (if (((HT.sIx items.size 0 lo : Nat) : Int) == 0 && (1 : Int) == 1 && (HT.sIx items.size items.size hi - HT.sIx items.size 0 lo) == items.size) = true then _ else _) _ _ s
  rw [if_pos (by rw [hw.1, hw.2]; simp)]
  refine wpAny_bind ?_
  unfold Builtin.Tuple.tupleIsExact
  refine wpAny_bind (wpAny_typeOf ht.typeIs (wpAny_pure ?_))
  rw [if_pos (by decide)]
  exact wpAny_bind (wpAny_rule (wpAny_pure ⟨_, rfl, wpAny_pure h⟩))
theorem cutV_whole {xs : List V} {lo hi : Option Int} (hw : HT.sIx xs.length 0 lo = 0 ∧ HT.sIx xs.length xs.length hi = xs.length) : cutV xs lo hi = xs := by
  unfold cutV
  rw [hw.1, hw.2]; simp
def rSlG (K : PySem.W.Frag) : V → Option Int → Option Int → Hp → VK → Prop := fun x lo hi H Q => ∃ a xs, x = .ref a ∧ SqT K H a xs ∧ ∀ p H', (p = a ∨ H p = none) → Same H H' → SqT K H' p (cutV xs lo hi) → Q (.ref p) H'
section
variable {X : Cx}
theorem sl_tupG : SlR X (rSlG X.K) := by
  intro pins s σ H x v vl vu lo hi sl Q I rx hs pl pu h
  obtain ⟨a, xs, rfl, hx, q⟩ := h
  by_cases hw : HT.sIx xs.length 0 lo = 0 ∧ HT.sIx xs.length xs.length hi = xs.length
  · cases rx
    obtain ⟨its, r, ht, hz⟩ := I.tuple hx
    have hlen : its.toArray.size = xs.length := by rw [List.size_toArray]; exact r.length.symm
    refine ⟨"tuple", _, PyProof.Rows.slot_tuple_getitem.lookup, ht.typeIs, ?_⟩
    refine tup_whole ht hs pl pu (by rw [hlen]; exact hw) ⟨.ref a, H, I, rfl, q a H (.inl rfl) (Same.refl H) ?_⟩
    rw [cutV_whole hw]; exact hx
  · exact sl_tup pins s σ H _ v vl vu lo hi sl Q I rx hs pl pu ⟨a, xs, rfl, hx, hw, fun p hp => q p _ (.inr hp) (Same.upd hp) (SqT.of upd_same)⟩

/-! ### t + u, any tuples -/
def rCatG (K : PySem.W.Frag) : R2 := fun x y H Q => ∃ a b xs ys, x = .ref a ∧ y = .ref b ∧ SqT K H a xs ∧ SqT K H b ys ∧ xs.length + ys.length ≤ sizeLine ∧ ∀ p H', (p = a ∨ p = b ∨ H p = none) → Same H H' → SqT K H' p (xs ++ ys) → Q (.ref p) H'
theorem op_catG : OpR X (binaryOp .Add) (rCatG X.K) := by
  intro pins s σ H x y v u Q I rx ry h
  obtain ⟨a, b, xs, ys, rfl, rfl, ha, hb, hz, q⟩ := h
  by_cases hx : xs = []
  · subst hx
    cases rx
    cases ry
    obtain ⟨its, r1, p1, _⟩ := I.tuple ha
    obtain ⟨its2, r2, p2, _⟩ := I.tuple hb
    have e1 := r1.nil_iff.mpr rfl
    subst e1
    obtain ⟨⟨cls, dd, data, sl⟩, ho, hc, n, hd⟩ := id p1
    obtain ⟨⟨cls2, dd2, data2, sl2⟩, ho2, hc2, n2, hd2⟩ := id p2
    simp only at hc hd hc2 hd2
    subst hc hd hc2 hd2
    exact concat_meets ⟨_, ho, rfl⟩ ⟨_, ho2, rfl⟩ noFill_tuple_add seq_tuple_add PySem.F.slot_tuple_add PySem.F.entry_tuple_add (PySem.F.args_tuple_add_2 _ _)
      (tuple_addW0 a b _ _ n n2 dd dd2 sl sl2 (by simp)) ⟨ho, ho2, ⟨.ref b, H, I, rfl, q b H (.inr (.inl rfl)) (Same.refl H) hb⟩⟩
  · exact op_catT pins s σ H _ _ v u Q I rx ry ⟨a, b, xs, ys, rfl, rfl, ha, hb, hx, hz, fun e => q a H (.inl rfl) (Same.refl H) (by rw [e, List.append_nil]; exact ha), fun _ p hp => q p _ (.inr (.inr hp)) (Same.upd hp) (SqT.of upd_same)⟩

/-! ### all([..]) -/
theorem all_range_map (bs : List Bool) (f : Nat → Bool) (hf : ∀ i b, bs[i]? = some b → f i = b) : (List.range bs.length).all f = bs.all id := by
  induction bs generalizing f with
  | nil => rfl
  | cons b bs ih =>
    rw [List.length_cons, List.range_succ_eq_map, List.all_cons, List.all_map, List.all_cons, hf 0 b rfl]
    have := ih (fun i => f (i + 1)) fun i b' h => hf (i + 1) b' (by simpa using h)
    rw [← this]; rfl
theorem call_all (hc : X.calm = true) : CallR X (.builtin "all") (fun xs H Q => ∃ (p : Addr) (bs : List Bool), xs = [.ref p] ∧ SqL X.K H p (bs.map V.bl) ∧ Q (.bl (bs.all id)) H) := by
  intro pins s σ H xs us Q I r h
  obtain ⟨p, bs, rfl, hq, q⟩ := h
  obtain ⟨u, rfl, ru⟩ := vals1 r
  cases ru
  obtain ⟨its, rv, pl, hz⟩ := I.list hq
  have hl := rv.length
  rw [List.length_map] at hl
  refine call_all_walk (wpAny_pyIter_list pl.isList ?_)
  have hne : p ≠ s.heap.objs.size := by
    obtain ⟨o, n, e, _⟩ := pl
    exact Nat.ne_of_lt (Heap.lt_size e)
  refine ⟨_, _, _, _, _, _, fun i => (bs[i]?).getD true, rfl, Walks.list (A := X.A.in1) (show X.A.in1.handled = none from I.ok.hd hc) s.heap.objs.size p hne its.toArray, ⟨⟨_, Heap.get?_push_size _ rfl, rfl, rfl⟩, pl.isList.push _⟩, fun i v s' Q' E' hP hQ => ?_, fun h' tk hk => ?_⟩
  · have hb : ∃ b, bs[i]? = some b ∧ v = .bool b := by
      have hi : i < its.length := by
        have := (Array.getElem?_eq_some_iff.mp hP).1
        simpa using this
      have e1 : (bs.map V.bl)[i]? = some (.bl bs[i]) := by simp
      obtain ⟨u, hu, ru⟩ := rv.get e1
      have : its.toArray[i]? = some u := by simpa using hu
      rw [hP] at this; cases this
      exact ⟨bs[i], by simp, ru⟩
    obtain ⟨b, hb, rfl⟩ := hb
    dsimp only at hQ
    rw [hb] at hQ
    exact wpAny_truthy_bool hQ
  · have e : (List.range its.toArray.size).all (fun i => (bs[i]?).getD true) = bs.all id := by
      rw [List.size_toArray, ← hl]
      exact all_range_map bs _ fun i b h => by rw [h]; rfl
    rw [e]
    refine ⟨.bl (bs.all id), H, ?_, rfl, q⟩
    refine Inv.spun (s := s) (t' := tk) (ch := [s.heap.objs.size]) I (fun b hb => ?_) fun b o hb e => hk b o hb (Heap.get?_push_of_some _ e)
    have eb : b = s.heap.objs.size := by simpa using hb
    subst eb
    exact I.fpOk (Nat.le_refl _) (I.hok.fresh (Nat.le_refl _))

/-! ### isinstance(x, T), T a built-in type -/
def subT (T n : String) : Option Bool := if (Value.type T == Value.type n) = true then some true else if PySem.W.kitMeta n = true then (PySem.fastBuiltinMro T).map (·.contains (.type n)) else none
/-- the built-in type of a value -/
inductive TyS (K : PySem.W.Frag) (H : Hp) : V → String → Prop
  | non : TyS K H .non "NoneType"
  | bl (b : Bool) : TyS K H (.bl b) "bool"
  | int (i : Int) : TyS K H (.int i) "int"
  | str (x : Str) : TyS K H (.str x) "str"
  | lst {a : Addr} {xs : List V} (h : SqL K H a xs) : TyS K H (.ref a) "list"
  | tup {a : Addr} {xs : List V} (h : SqT K H a xs) : TyS K H (.ref a) "tuple"
  | dk {a : Addr} {kvs : List (Key × V)} (h : H a = some (.dK kvs)) : TyS K H (.ref a) "dict"
theorem call_isi : CallR X (.builtin "isinstance") (fun xs H Q => ∃ x T n b, xs = [x, .ty n] ∧ TyS X.K H x T ∧ subT T n = some b ∧ Q (.bl b) H) := by
  intro pins s σ H xs us Q I r h
  obtain ⟨x, T, n, b, rfl, ty, hs, q⟩ := h
  obtain ⟨u, w, rfl, ru, rw_⟩ := vals2 r
  cases rw_
  have e : PySem.W.kitOne X.K (.type T) (.type n) = some b := hs
  have fin : ∀ tk, EP X pins σ Q (.bool b) { s with toks := tk } := fun tk => ⟨.bl b, H, I.tok tk, rfl, q⟩
  cases ty with
  | non => cases ru; exact PySem.W.kia_one PySem.W.kitx_none I.kIn True.intro e (fun z => nomatch z) fin
  | bl y => cases ru; exact PySem.W.kia_one PySem.W.kitx_bool I.kIn True.intro e (fun z => nomatch z) fin
  | int i => obtain ⟨t, rfl⟩ := ru; exact PySem.W.kia_one PySem.W.kitx_int I.kIn True.intro e (fun z => nomatch z) fin
  | str y => obtain ⟨t, rfl⟩ := ru; exact PySem.W.kia_one PySem.W.kitx_str I.kIn True.intro e (fun z => nomatch z) fin
  | lst hq =>
    cases ru
    obtain ⟨its, _, ⟨o, nn, e1, e2, _⟩, _⟩ := I.list hq
    exact PySem.W.kia_one PySem.W.kitx_list I.kIn ⟨o, e1, e2⟩ e (fun z => nomatch z) fin
  | tup hq =>
    cases ru
    obtain ⟨its, _, ⟨o, e1, e2, _⟩, _⟩ := I.tuple hq
    exact PySem.W.kia_one PySem.W.kitx_tuple I.kIn ⟨o, e1, e2⟩ e (fun z => nomatch z) fin
  | @dk a kvs hq =>
    cases ru
    obtain ⟨_, _, vs, _, o, es, ep, h1, h2, _⟩ := (show ObjOk X.prog X.w H s.heap a (.dK kvs) from I.hok a _ hq)
    exact PySem.W.kia_one PySem.W.kitx_dict I.kIn ⟨o, h1, h2.1⟩ e (fun z => nomatch z) fin
def isB (T n : String) : Bool := T == n || (T == "bool" && n == "int")
theorem subT_tab : ∀ T ∈ ["NoneType", "bool", "int", "str", "list", "tuple", "dict"], ∀ n ∈ ["int", "bool", "str", "tuple", "list", "dict"], subT T n = some (isB T n) := by decide +kernel
end
end L2

set_option maxRecDepth 100000
namespace L2
open PySem PySem.Spec PyProof.Rows

/-- what was tracked is as it was, but for the objects at N -/
def Ext (N : List Addr) (H H' : Hp) : Prop := ∀ b o, H b = some o → b ∉ N → H' b = some o
theorem Ext.refl {N : List Addr} (H : Hp) : Ext N H H := fun _ _ h _ => h
theorem Ext.trans {N : List Addr} {H H1 H2 : Hp} (a : Ext N H H1) (b : Ext N H1 H2) : Ext N H H2 := fun c o h n => b c o (a c o h n) n
theorem Ext.same {N : List Addr} {H H' : Hp} (a : Same H H') : Ext N H H' := fun c o h _ => a c o h
theorem Ext.new {N : List Addr} {H : Hp} {p : Addr} {o : HO} (h : H p = none) : Ext N H (upd H p o) := Ext.same (Same.upd h)
theorem Ext.at {N : List Addr} {H : Hp} {p : Addr} {o : HO} (h : p ∈ N) : Ext N H (L2.upd H p o) := fun c u e n => by rw [upd_ne (show c ≠ p from fun z => n (by rw [z]; exact h))]; exact e
theorem Ext.tup {N : List Addr} {K : PySem.W.Frag} {H H' : Hp} {a : Addr} {xs : List V} (e : Ext N H H') (h : SqT K H a xs) (n : a ∉ N) : SqT K H' a xs := by
  rcases h with (h | ⟨o, h⟩) | h
  · exact .inl (.inl (e _ _ h n))
  · exact .inl (.inr ⟨o, e _ _ h n⟩)
  · exact .inr h
theorem Ext.lst {N : List Addr} {K : PySem.W.Frag} {H H' : Hp} {a : Addr} {xs : List V} (e : Ext N H H') (h : SqL K H a xs) (n : a ∉ N) : SqL K H' a xs := by
  rcases h with (h | ⟨o, h⟩) | h
  · exact .inl (.inl (e _ _ h n))
  · exact .inl (.inr ⟨o, e _ _ h n⟩)
  · exact .inr h
theorem Ext.free {N : List Addr} {H H' : Hp} (e : Ext N H H') {p : Addr} (h : H' p = none) (n : p ∉ N) : H p = none := by
  cases q : H p with
  | none => rfl
  | some o => rw [e p o q n] at h; cases h

mutual
/-- the value v is the datum d; none of its objects is one of those at N -/
inductive Dt (K : PySem.W.Frag) (N : List Addr) (H : Hp) : V → PyData → Prop
  | non : Dt K N H .non .none
  | bl (b : Bool) : Dt K N H (.bl b) (.bool b)
  | int (i : Int) : Dt K N H (.int i) (.int i)
  | str (x : Str) : Dt K N H (.str x) (.str x)
  | tup {a : Addr} {xs : List V} {ds : List PyData} (h : SqT K H a xs) (n : a ∉ N) (r : DtAll K N H xs ds) : Dt K N H (.ref a) (.tuple ds)
  | lst {a : Addr} {xs : List V} {ds : List PyData} (h : SqL K H a xs) (n : a ∉ N) (r : DtAll K N H xs ds) : Dt K N H (.ref a) (.list ds)
  | dk0 {a : Addr} (h : H a = some (.dK [])) (n : a ∉ N) : Dt K N H (.ref a) (.dict [])
inductive DtAll (K : PySem.W.Frag) (N : List Addr) (H : Hp) : List V → List PyData → Prop
  | nil : DtAll K N H [] []
  | cons {v : V} {d : PyData} {vs : List V} {ds : List PyData} (h : Dt K N H v d) (r : DtAll K N H vs ds) : DtAll K N H (v :: vs) (d :: ds)
end
section
variable {K : PySem.W.Frag} {N : List Addr} {H H' : Hp}
mutual
theorem Dt.ext (e : Ext N H H') : ∀ {v : V} {d : PyData}, Dt K N H v d → Dt K N H' v d
  | _, _, .non => .non
  | _, _, .bl b => .bl b
  | _, _, .int i => .int i
  | _, _, .str x => .str x
  | _, _, .tup h n r => .tup (e.tup h n) n (DtAll.ext e r)
  | _, _, .lst h n r => .lst (e.lst h n) n (DtAll.ext e r)
  | _, _, .dk0 h n => .dk0 (e _ _ h n) n
theorem DtAll.ext (e : Ext N H H') : ∀ {vs : List V} {ds : List PyData}, DtAll K N H vs ds → DtAll K N H' vs ds
  | _, _, .nil => .nil
  | _, _, .cons h r => .cons (Dt.ext e h) (DtAll.ext e r)
end
theorem DtAll.length : ∀ {vs : List V} {ds : List PyData}, DtAll K N H vs ds → vs.length = ds.length
  | _, _, .nil => rfl
  | _, _, .cons _ r => by rw [List.length_cons, List.length_cons, DtAll.length r]
theorem DtAll.get : ∀ {vs : List V} {ds : List PyData} {i : Nat} {v : V}, DtAll K N H vs ds → vs[i]? = some v → ∃ d, ds[i]? = some d ∧ Dt K N H v d
  | _, _, _, _, .nil, e => by simp at e
  | _, _, 0, _, .cons h _, e => by simp at e; subst e; exact ⟨_, rfl, h⟩
  | _, _, i + 1, v, .cons _ r, e => by
    obtain ⟨d, h1, h2⟩ := DtAll.get (i := i) (v := v) r (by simpa using e)
    exact ⟨d, by simpa using h1, h2⟩
theorem DtAll.getD : ∀ {vs : List V} {ds : List PyData} {i : Nat} {d : PyData}, DtAll K N H vs ds → ds[i]? = some d → ∃ v, vs[i]? = some v ∧ Dt K N H v d
  | _, _, _, _, .nil, e => by simp at e
  | _, _, 0, _, .cons h _, e => by simp at e; subst e; exact ⟨_, rfl, h⟩
  | _, _, i + 1, d, .cons _ r, e => by
    obtain ⟨v, h1, h2⟩ := DtAll.getD (i := i) (d := d) r (by simpa using e)
    exact ⟨v, by simpa using h1, h2⟩
theorem DtAll.append : ∀ {vs ws : List V} {ds es : List PyData}, DtAll K N H vs ds → DtAll K N H ws es → DtAll K N H (vs ++ ws) (ds ++ es)
  | _, _, _, _, .nil, s => s
  | _, _, _, _, .cons h r, s => .cons h (DtAll.append r s)
theorem DtAll.take : ∀ {vs : List V} {ds : List PyData} (n : Nat), DtAll K N H vs ds → DtAll K N H (vs.take n) (ds.take n)
  | _, _, 0, _ => .nil
  | _, _, _ + 1, .nil => .nil
  | _, _, n + 1, .cons h r => .cons h (DtAll.take n r)
theorem DtAll.drop : ∀ {vs : List V} {ds : List PyData} (n : Nat), DtAll K N H vs ds → DtAll K N H (vs.drop n) (ds.drop n)
  | _, _, 0, r => r
  | _, _, _ + 1, .nil => .nil
  | _, _, n + 1, .cons _ r => DtAll.drop n r
/-- the items of a cut datum -/
def cutD (ds : List PyData) (lo hi : Option Int) : List PyData := (ds.drop (HT.sIx ds.length 0 lo)).take (HT.sIx ds.length ds.length hi - HT.sIx ds.length 0 lo)
theorem DtAll.cut {vs : List V} {ds : List PyData} (lo hi : Option Int) (r : DtAll K N H vs ds) : DtAll K N H (cutV vs lo hi) (cutD ds lo hi) := by
  unfold cutV cutD
  rw [r.length]
  exact (r.drop _).take _
theorem Dt.ty {v : V} {d : PyData} (h : Dt K N H v d) : TyS K H v (match d with | .none => "NoneType" | .bool _ => "bool" | .int _ => "int" | .str _ => "str" | .list _ => "list" | .tuple _ => "tuple" | .dict _ => "dict") := by
  cases h with
  | non => exact .non
  | bl b => exact .bl b
  | int i => exact .int i
  | str x => exact .str x
  | tup h n r => exact .tup h
  | lst h n r => exact .lst h
  | dk0 h n => exact .dk h
end
section
variable {X : Cx} {pins : List (Addr × Obj)} {σ : St} {H : Hp} {s : Shared} {N : List Addr}
mutual
theorem Dt.reads (I : Inv X pins σ H s) : ∀ {v : V} {d : PyData} {u : Value}, Dt X.K N H v d → RelV v u → ∃ as, Reads s.heap u d as ∧ (d = .dict [] → sysModules ∉ as)
  | _, _, _, .non, r => by cases r; exact ⟨_, .none, fun _ => by simp⟩
  | _, _, _, .bl b, r => by cases r; exact ⟨_, .bool b, fun _ => by simp⟩
  | _, _, _, .int i, r => by obtain ⟨t, rfl⟩ := r; exact ⟨_, .int i t, fun _ => by simp⟩
  | _, _, _, .str x, r => by obtain ⟨t, rfl⟩ := r; exact ⟨_, .str x t, fun _ => by simp⟩
  | _, _, _, .tup h n q, r => by
    cases r
    obtain ⟨its, rv, ⟨o, e1, e2, m, e3⟩, _⟩ := I.tuple h
    obtain ⟨as, ra⟩ := DtAll.reads I q rv
    exact ⟨as, .tuple e1 e2 e3 (by simpa using ra), fun z => nomatch z⟩
  | _, _, _, .lst h n q, r => by
    cases r
    obtain ⟨its, rv, ⟨o, m, e1, e2, e3, e4⟩, _⟩ := I.list h
    obtain ⟨as, ra⟩ := DtAll.reads I q rv
    exact ⟨_, .list e1 e2 e4 (by simpa using ra), fun z => nomatch z⟩
  | _, _, _, .dk0 (a := a) h n, r => by
    cases r
    obtain ⟨_, hsm, vs, kv, o, es, ep, e1, e2, e3, e4, e5, e6⟩ := (show ObjOk X.prog X.w H s.heap a (.dK []) from I.hok a _ h)
    have ev : vs = [] := by cases kv; rfl
    subst ev
    have ee : es.toList = [] := by
      cases q : es.toList with
      | nil => rfl
      | cons x r => rw [q] at e5; cases e5
    refine ⟨[a], ?_, fun _ => ?_⟩
    · have := Reads.dict (h := s.heap) (a := a) (o := o) (es := es) (n := ep) (kvs := []) (as := []) (bs := []) e1 e2.1 e3 (by rw [ee]; exact .nil) (by rw [ee]; exact .nil)
      simpa using this
    · intro z
      have z' : sysModules = a := by simpa using z
      rw [z'] at hsm
      simp at hsm
theorem DtAll.reads (I : Inv X pins σ H s) : ∀ {vs : List V} {ds : List PyData} {us : List Value}, DtAll X.K N H vs ds → Vals vs us → ∃ as, ReadsAll s.heap us ds as
  | _, _, _, .nil, .nil => ⟨_, .nil⟩
  | _, _, _, .cons h q, .cons r t => by
    obtain ⟨as, ra, _⟩ := Dt.reads I h r
    obtain ⟨bs, rb⟩ := DtAll.reads I q t
    exact ⟨_, .cons ra rb⟩
end
end

/-- what repr shows within the model's bounds -/
structure Shw (d : PyData) : Prop where
  sh : d.showable = true
  dp : d.depth ≤ 30
  ln : d.shown.length ≤ sizeLine
  nd : d.hasDict = false ∨ d = .dict []
section
variable {X : Cx} {N : List Addr}
theorem call_repr {k : Nat} (hr : Room k X.A) : CallR X (.builtin "repr") (fun xs H Q => ∃ x d, xs = [x] ∧ Dt X.K N H x d ∧ Shw d ∧ Q (.str d.shown) H) := by
  intro pins s σ H xs us Q I r h
  obtain ⟨x, d, rfl, hd, hs, q⟩ := h
  obtain ⟨u, rfl, ru⟩ := vals1 r
  have fin : ∀ t tk, EP X pins σ Q (.str d.shown t) { s with toks := tk } := fun t tk => ⟨.str d.shown, H, I.tok tk, ⟨t, rfl⟩, q⟩
  have big : ∀ a, u = .ref a → wpAny (model X.prog X.w) X.A (call (.builtin "repr") [u]) (EP X pins σ Q) X.xe s := fun a e => by
    subst e
    obtain ⟨as, rd, sm⟩ := hd.reads I ru
    refine repr_of_reads' rd hs.sh (fun z => ?_) hr.gd (by have := hr.units; have := hs.dp; omega) (fun _ _ e => e) (fun h' t tk kp => ⟨.str d.shown, H, I.kept (t' := tk) kp, ⟨t, rfl⟩, q⟩) hs.ln
    rcases hs.nd with y | y
    · rw [y] at z; cases z
    · exact sm y
  cases hd with
  | non => cases ru; exact P.repr_of_none (fin _ _)
  | bl b => cases ru; exact P.repr_of_bool (fin _ _)
  | int i => obtain ⟨t, rfl⟩ := ru; exact P.repr_of_int (by have := hs.sh; simpa only [PyData.showable, decide_eq_true_eq] using this) (fin _ _)
  | str x => obtain ⟨t, rfl⟩ := ru; exact P.repr_of_str (fin _ _) (hsz := hs.ln)
  | tup h n r => cases ru; exact big _ rfl
  | lst h n r => cases ru; exact big _ rfl
  | dk0 h n => cases ru; exact big _ rfl
/-- == and != of data -/
theorem op_eqD {k : Nat} (hr : Room k X.A) : OpR X (compareOp .Eq) (fun x y H Q => ∃ d e, Dt X.K N H x d ∧ Dt X.K N H y e ∧ SeqAt.shaped d = true ∧ SeqAt.shaped e = true ∧ Q (.bl (PyData.eqv d e)) H) := by
  intro pins s σ H x y v u Q I rx ry h
  obtain ⟨d, e, hd, he, sd, se, q⟩ := h
  obtain ⟨as, ra, _⟩ := hd.reads I rx
  obtain ⟨bs, rb, _⟩ := he.reads I ry
  exact SeqAt.compareEq_shaped ra rb sd se hr.units ⟨.bl _, H, I, rfl, q⟩
theorem op_neD {k : Nat} (hr : Room k X.A) : OpR X (compareOp .NotEq) (fun x y H Q => ∃ d e, Dt X.K N H x d ∧ Dt X.K N H y e ∧ SeqAt.shaped d = true ∧ SeqAt.shaped e = true ∧ Q (.bl (!PyData.eqv d e)) H) := by
  intro pins s σ H x y v u Q I rx ry h
  obtain ⟨d, e, hd, he, sd, se, q⟩ := h
  obtain ⟨as, ra, _⟩ := hd.reads I rx
  obtain ⟨bs, rb, _⟩ := he.reads I ry
  exact SeqAt.compareNe_shaped ra rb sd se hr.units ⟨.bl _, H, I, rfl, q⟩
end
end L2

namespace L2
open PySem PySem.Spec PyProof.Rows
/-! ### readings, a step at a time -/
section
variable {D : Ends} {σ : St} {H : Hp} {t u : TS} {te ta tb tc : TE} {c tA tB' : TT} {g : TG} {gs : TGs} {Q : VK} {K : PySem.W.Frag} {i : Nat} {v : V} {vs : List V}
theorem rd_seq (h : t { D with nx := u D } σ H) : tSeq t u D σ H := h
theorem rd_if (h : c σ H fun b H1 => if b = true then t D σ H1 else u D σ H1) : tIfS c t u D σ H := h
theorem rd_asg (h : te σ H fun x H1 => g x σ H1 D.nx) : tAsg te g D σ H := h
theorem rd_drop (h : te σ H fun _ H1 => D.nx σ H1) : tDrop te D σ H := h
theorem rd_ret (h : te σ H D.rt) : tRet te D σ H := h
theorem rd_next (h : D.nx σ H) : tNext D σ H := h
theorem rd_op {r : R2} (h : ta σ H fun x H1 => tb σ H1 fun y H2 => r x y H2 Q) : tOp r ta tb σ H Q := h
theorem rd_un {r : V → Hp → VK → Prop} (h : ta σ H fun x H1 => r x H1 Q) : tUn r ta σ H Q := h
theorem rd_var (e : σ[i]? = some (some v)) (h : Q v H) : tVar i σ H Q := ⟨v, e, h⟩
theorem rd_c (h : Q v H) : tC v σ H Q := h
theorem rd_I0 {f : Int → Int → V} {i j : Int} (h : Q (f i j) H) : rI0 f (.int i) (.int j) H Q := ⟨i, j, rfl, rfl, h⟩
theorem rd_I {C : Int → Int → Prop} {f : Int → Int → V} {i j : Int} (hc : C i j) (h : Q (f i j) H) : rI C f (.int i) (.int j) H Q := ⟨i, j, rfl, rfl, hc, h⟩
theorem rd_U {f : Int → V} {i : Int} (h : Q (f i) H) : rU f (.int i) H Q := ⟨i, rfl, h⟩
theorem rd_test {Q : Bool → Hp → Prop} (h : te σ H fun x H' => ∃ k, x = .bl k ∧ Q k H') : tTest te σ H Q := h
theorem rd_tB {Q : Bool → Hp → Prop} (h : te σ H fun x H' => ∃ k, x = .bl k ∧ Q k H') : tB te σ H Q := h
theorem rd_bl {Q : Bool → Hp → Prop} {k : Bool} (h : Q k H) : ∃ k', V.bl k = .bl k' ∧ Q k' H := ⟨k, rfl, h⟩
theorem rd_bl' {P : Bool → Prop} {k : Bool} (h : P k) : ∃ k', V.bl k = .bl k' ∧ P k' := ⟨k, rfl, h⟩
theorem rd_eq {x y : V} (hs : scal x y = true) (h : Q (.bl (decide (x = y))) H) : rEq x y H Q := ⟨hs, h⟩
theorem rd_ne {x y : V} (hs : scal x y = true) (h : Q (.bl (!decide (x = y))) H) : rNe x y H Q := ⟨hs, h⟩
theorem rd_ixL {p : Addr} {xs : List V} {i : Int} (hq : SqL K H p xs) (ha : atI xs i = some v) (h : Q v H) : rIxL K (.ref p) (.int i) H Q := ⟨p, xs, i, v, rfl, rfl, hq, ha, h⟩
theorem rd_ixT {p : Addr} {xs : List V} {i : Int} (hq : SqT K H p xs) (ha : atI xs i = some v) (h : Q v H) : rIxT K (.ref p) (.int i) H Q := ⟨p, xs, i, v, rfl, rfl, hq, ha, h⟩
theorem rd_name {Q : St → Hp → Prop} (h : Q (σ.set i (some v)) H) : gName i v σ H Q := h
theorem rd_sub {to ti : TE} {s : TSet} {Q : St → Hp → Prop} (h : to σ H fun o H1 => ti σ H1 fun i H2 => s o i v H2 fun H3 => Q σ H3) : gSub to ti s v σ H Q := h
theorem rd_setL {p : Addr} {xs : List V} {k : Int} {j : Nat} {Q : Hp → Prop} (hp : H p = some (.lst xs)) (hi : ixN xs.length k = some j) (h : Q (upd H p (.lst (xs.set j v)))) : rSetL (.ref p) (.int k) v H Q := ⟨p, xs, k, j, rfl, rfl, hp, hi, h⟩
theorem rd_CB {r : List V → Hp → VK → Prop} {ta : TA} (h : ta σ H fun vs H1 => r vs H1 Q) : tCB r ta σ H Q := h
theorem rd_nil {Q : List V → Hp → Prop} (h : Q [] H) : tNil σ H Q := h
theorem rd_cons {tr : TA} {Q : List V → Hp → Prop} (h : ta σ H fun x H1 => tr σ H1 fun xs H2 => Q (x :: xs) H2) : tCons ta tr σ H Q := h
theorem rd_and {Q : Bool → Hp → Prop} (h : tA σ H fun c H1 => if c = true then tB' σ H1 Q else Q false H1) : tAnd tA tB' σ H Q := h
theorem rd_or {Q : Bool → Hp → Prop} (h : tA σ H fun c H1 => if c = true then Q true H1 else tB' σ H1 Q) : tOr tA tB' σ H Q := h
theorem rd_not {Q : Bool → Hp → Prop} (h : tA σ H fun c H1 => Q (!c) H1) : tNot tA σ H Q := h
theorem rd_andV (h : ta σ H fun x H1 => ∃ c, x = .bl c ∧ if c = true then tb σ H1 Q else Q (.bl false) H1) : tAndV ta tb σ H Q := h
theorem rd_orV (h : ta σ H fun x H1 => ∃ c, x = .bl c ∧ if c = true then Q (.bl true) H1 else tb σ H1 Q) : tOrV ta tb σ H Q := h
theorem rd_notV (h : ta σ H fun x H1 => ∃ c, x = .bl c ∧ Q (.bl (!c)) H1) : tNotV ta σ H Q := h
theorem rd_ifE (h : c σ H fun c H1 => if c = true then ta σ H1 Q else tb σ H1 Q) : tIf c ta tb σ H Q := h
theorem rd_call {sp : Sp} {dvs : List V} {E : XK} {ta : TA} (h : ta σ H fun vs H1 => sp (vs ++ dvs) H1 Q E) : tCall sp dvs E ta σ H Q := h
theorem rd_tup {ta : TA} (h : ta σ H fun xs H1 => xs.length ≤ sizeLine ∧ ∀ p, H1 p = none → Q (.ref p) (upd H1 p (.tup xs))) : tTup ta σ H Q := h
theorem rd_lst {ta : TA} (h : ta σ H fun xs H1 => xs.length ≤ sizeLine ∧ ∀ p, H1 p = none → Q (.ref p) (upd H1 p (.lst xs))) : tLst ta σ H Q := h
theorem rd_chain {r r' : R2} (h : ta σ H fun x H1 => tb σ H1 fun y H2 => r x y H2 fun z H3 => ∃ k, z = .bl k ∧ if k = true then tc σ H3 fun w H4 => r' y w H4 Q else Q (.bl false) H3) : tChain r r' ta tb tc σ H Q := h
theorem rd_sl {r : V → Option Int → Option Int → Hp → VK → Prop} {tl th : TO} (h : te σ H fun x H1 => tl σ H1 fun l H2 => th σ H2 fun u H3 => r x l u H3 Q) : tSl r te tl th σ H Q := h
theorem rd_nopart {Q : Option Int → Hp → Prop} (h : Q none H) : tNoPart σ H Q := h
theorem rd_part {Q : Option Int → Hp → Prop} (h : te σ H fun x H1 => ∃ i, x = .int i ∧ Q (some i) H1) : tPart te σ H Q := h
theorem rd_int {P : Int → Prop} {i : Int} (h : P i) : ∃ i', V.int i = .int i' ∧ P i' := ⟨i, rfl, h⟩
theorem rd_slL {p : Addr} {xs : List V} {lo hi : Option Int} (hq : SqL K H p xs) (h : ∀ l, H l = none → Q (.ref l) (upd H l (.lst (cutV xs lo hi)))) : rSlL K (.ref p) lo hi H Q := ⟨p, xs, rfl, hq, h⟩
theorem rd_slG {p : Addr} {xs : List V} {lo hi : Option Int} (hq : SqT K H p xs) (h : ∀ q H', (q = p ∨ H q = none) → Same H H' → SqT K H' q (cutV xs lo hi) → Q (.ref q) H') : rSlG K (.ref p) lo hi H Q := ⟨p, xs, rfl, hq, h⟩
theorem rd_catG {p q : Addr} {xs ys : List V} (h1 : SqT K H p xs) (h2 : SqT K H q ys) (hz : xs.length + ys.length ≤ sizeLine) (h : ∀ r H', (r = p ∨ r = q ∨ H r = none) → Same H H' → SqT K H' r (xs ++ ys) → Q (.ref r) H') : rCatG K (.ref p) (.ref q) H Q := ⟨p, q, xs, ys, rfl, rfl, h1, h2, hz, h⟩
theorem rd_cat {p q : Addr} {xs ys : List V} (h1 : H p = some (.lst xs)) (h2 : H q = some (.lst ys)) (hz : xs.length + ys.length ≤ sizeLine) (h : ∀ r, H r = none → Q (.ref r) (upd H r (.lst (xs ++ ys)))) : rCat (.ref p) (.ref q) H Q := ⟨p, q, xs, ys, rfl, rfl, h1, h2, hz, h⟩
theorem rd_tupT {t : TGs} {n : Nat} {p : Addr} {xs : List V} {Q : St → Hp → Prop} (hq : SqT K H p xs) (hl : xs.length = n) (h : t xs σ H Q) : gTup K n t (.ref p) σ H Q := ⟨p, xs, rfl, hq, hl, h⟩
theorem rd_gnil {Q : St → Hp → Prop} (h : Q σ H) : gNil [] σ H Q := ⟨rfl, h⟩
theorem rd_gcons {t : TG} {u : TGs} {v : V} {r : List V} {Q : St → Hp → Prop} (h : t v σ H fun σ' H' => u r σ' H' Q) : gCons t u (v :: r) σ H Q := ⟨v, r, rfl, h⟩
theorem rd_BM {T : String} {r : V → List V → Hp → VK → Prop} {to : TE} {t : TA} (h : to σ H fun x H1 => tyV K T x H1 ∧ t σ H1 fun xs H2 => r x xs H2 Q) : tBM K T r to t σ H Q := h
theorem rd_append {l : Addr} {xs : List V} {y : V} (h1 : H l = some (.lst xs)) (hz : xs.length < sizeLine) (h : Q .non (upd H l (.lst (xs ++ [y])))) : rAppend (.ref l) [y] H Q := ⟨l, xs, y, rfl, rfl, h1, hz, h⟩
theorem rd_rng1 {ta : TA} {R : It → Hp → Prop} (h : ta σ H fun vs H1 => ∃ j : Int, vs = [.int j] ∧ -(2 ^ 62) ≤ j ∧ j < 2 ^ 62 ∧ R (Itr 0 j.toNat) H1) : iRng1 ta σ H R := h
theorem rd_rngV {j : Int} {P : Int → Prop} (h : P j) : ∃ j' : Int, [V.int j] = [.int j'] ∧ P j' := ⟨j, rfl, h⟩
theorem rd_ilist {tl : TE} {R : It → Hp → Prop} (h : tl σ H fun x H1 => ∃ a, x = .ref a ∧ (∃ xs, SqL K H1 a xs) ∧ R (Itl K a) H1) : iList K tl σ H R := h
theorem rd_itup {tl : TE} {R : It → Hp → Prop} (h : tl σ H fun x H1 => ∃ a, x = .ref a ∧ (∃ xs, SqT K H1 a xs) ∧ R (Itt K a) H1) : iTup K tl σ H R := h
end
/-! ### the calls' readings, each with a name -/
abbrev TR := List V → Hp → VK → Prop
def rLen (K : PySem.W.Frag) : TR := fun xs H Q => ∃ p ys, xs = [.ref p] ∧ (SqL K H p ys ∨ SqT K H p ys) ∧ Q (.int ys.length) H
def rLenS : TR := fun xs H Q => ∃ z, xs = [.str z] ∧ z.length ≤ sizeLine ∧ Q (.int z.length) H
def rIsi (K : PySem.W.Frag) : TR := fun xs H Q => ∃ x T n b, xs = [x, .ty n] ∧ TyS K H x T ∧ subT T n = some b ∧ Q (.bl b) H
def rAll (K : PySem.W.Frag) : TR := fun xs H Q => ∃ (p : Addr) (bs : List Bool), xs = [.ref p] ∧ SqL K H p (bs.map V.bl) ∧ Q (.bl (bs.all id)) H
def rRepr (K : PySem.W.Frag) : TR := fun xs H Q => ∃ (N : List Addr) (x : V) (d : PyData), xs = [x] ∧ Dt K N H x d ∧ Shw d ∧ Q (.str d.shown) H
def rListOf (K : PySem.W.Frag) : TR := fun xs H Q => ∃ p ys, xs = [.ref p] ∧ (SqL K H p ys ∨ SqT K H p ys) ∧ ∀ l, H l = none → Q (.ref l) (upd H l (.lst ys))
def rTupleOf (K : PySem.W.Frag) : TR := fun xs H Q => ∃ p ys, xs = [.ref p] ∧ ((SqL K H p ys ∧ ∀ l, H l = none → Q (.ref l) (upd H l (.tup ys))) ∨ (SqT K H p ys ∧ Q (.ref p) H))
def rMin : TR := fun xs H Q => ∃ i j, xs = [.int i, .int j] ∧ Q (.int (if j < i then j else i)) H
def rMax : TR := fun xs H Q => ∃ i j, xs = [.int i, .int j] ∧ Q (.int (if j > i then j else i)) H
def rStr : TR := fun xs H Q => ∃ i, xs = [.int i] ∧ i.natAbs.log2 < 1920 ∧ Q (.str (toString i)) H
def rEqD (K : PySem.W.Frag) : R2 := fun x y H Q => ∃ (N : List Addr) (d e : PyData), Dt K N H x d ∧ Dt K N H y e ∧ SeqAt.shaped d = true ∧ SeqAt.shaped e = true ∧ Q (.bl (PyData.eqv d e)) H
def rNeD (K : PySem.W.Frag) : R2 := fun x y H Q => ∃ (N : List Addr) (d e : PyData), Dt K N H x d ∧ Dt K N H y e ∧ SeqAt.shaped d = true ∧ SeqAt.shaped e = true ∧ Q (.bl (!PyData.eqv d e)) H
def rIsN : R2 := fun x y H Q => y = .non ∧ Q (.bl (decide (x = .non))) H
def rNotN : R2 := fun x y H Q => y = .non ∧ Q (.bl (!decide (x = .non))) H
section
variable {X : Cx}
theorem cn_len : CallR X (.builtin "len") (rLen X.K) := call_len_seq
theorem cn_lenS : CallR X (.builtin "len") rLenS := call_len_str
theorem cn_isi : CallR X (.builtin "isinstance") (rIsi X.K) := call_isi
theorem cn_all (hc : X.calm = true) : CallR X (.builtin "all") (rAll X.K) := call_all hc
theorem cn_repr {k : Nat} (hr : Room k X.A) : CallR X (.builtin "repr") (rRepr X.K) := fun pins s σ H xs us Q I r ⟨N, x, d, h⟩ => call_repr (N := N) hr pins s σ H xs us Q I r ⟨x, d, h⟩
theorem cn_list : CallR X (.type "list") (rListOf X.K) := call_list_of
theorem cn_tuple : CallR X (.type "tuple") (rTupleOf X.K) := call_tuple_of
theorem cn_min (hc : X.calm = true) : CallR X (.builtin "min") rMin := call_min2 hc
theorem cn_max (hc : X.calm = true) : CallR X (.builtin "max") rMax := call_max2 hc
theorem cn_str : CallR X (.type "str") rStr := call_str_int
theorem on_eqD {k : Nat} (hr : Room k X.A) : OpR X (compareOp .Eq) (rEqD X.K) := fun pins s σ H x y v u Q I rx ry ⟨N, d, e, h⟩ => op_eqD (N := N) hr pins s σ H x y v u Q I rx ry ⟨d, e, h⟩
theorem on_neD {k : Nat} (hr : Room k X.A) : OpR X (compareOp .NotEq) (rNeD X.K) := fun pins s σ H x y v u Q I rx ry ⟨N, d, e, h⟩ => op_neD (N := N) hr pins s σ H x y v u Q I rx ry ⟨d, e, h⟩
theorem on_isN : OpR X (compareOp .Is) rIsN := op_isN
theorem on_notN : OpR X (compareOp .IsNot) rNotN := op_notN
end
section
variable {H : Hp} {Q : VK} {K : PySem.W.Frag} {N : List Addr} {p : Addr} {xs : List V}
theorem rd_lenL (hq : SqL K H p xs) (h : Q (.int xs.length) H) : rLen K [.ref p] H Q := ⟨p, xs, rfl, .inl hq, h⟩
theorem rd_lenT (hq : SqT K H p xs) (h : Q (.int xs.length) H) : rLen K [.ref p] H Q := ⟨p, xs, rfl, .inr hq, h⟩
theorem rd_isi {x : V} {T n : String} {b : Bool} (ty : TyS K H x T) (hs : subT T n = some b) (h : Q (.bl b) H) : rIsi K [x, .ty n] H Q := ⟨x, T, n, b, rfl, ty, hs, h⟩
theorem rd_repr {x : V} {d : PyData} (hd : Dt K N H x d) (hs : Shw d) (h : Q (.str d.shown) H) : rRepr K [x] H Q := ⟨N, x, d, rfl, hd, hs, h⟩
theorem rd_eqD {x y : V} {d e : PyData} (hd : Dt K N H x d) (he : Dt K N H y e) (h1 : SeqAt.shaped d = true) (h2 : SeqAt.shaped e = true) (h : Q (.bl (PyData.eqv d e)) H) : rEqD K x y H Q := ⟨N, d, e, hd, he, h1, h2, h⟩
theorem rd_neD {x y : V} {d e : PyData} (hd : Dt K N H x d) (he : Dt K N H y e) (h1 : SeqAt.shaped d = true) (h2 : SeqAt.shaped e = true) (h : Q (.bl (!PyData.eqv d e)) H) : rNeD K x y H Q := ⟨N, d, e, hd, he, h1, h2, h⟩
theorem rd_listL (hq : SqL K H p xs) (h : ∀ l, H l = none → Q (.ref l) (upd H l (.lst xs))) : rListOf K [.ref p] H Q := ⟨p, xs, rfl, .inl hq, h⟩
theorem rd_listT (hq : SqT K H p xs) (h : ∀ l, H l = none → Q (.ref l) (upd H l (.lst xs))) : rListOf K [.ref p] H Q := ⟨p, xs, rfl, .inr hq, h⟩
theorem rd_tupleL (hq : SqL K H p xs) (h : ∀ l, H l = none → Q (.ref l) (upd H l (.tup xs))) : rTupleOf K [.ref p] H Q := ⟨p, xs, rfl, .inl ⟨hq, h⟩⟩
theorem rd_all {bs : List Bool} (hq : SqL K H p (bs.map V.bl)) (h : Q (.bl (bs.all id)) H) : rAll K [.ref p] H Q := ⟨p, bs, rfl, hq, h⟩
theorem rd_min {i j : Int} (h : Q (.int (if j < i then j else i)) H) : rMin [.int i, .int j] H Q := ⟨i, j, rfl, h⟩
theorem rd_max {i j : Int} (h : Q (.int (if j > i then j else i)) H) : rMax [.int i, .int j] H Q := ⟨i, j, rfl, h⟩
theorem rd_str {i : Int} (hl : i.natAbs.log2 < 1920) (h : Q (.str (toString i)) H) : rStr [.int i] H Q := ⟨i, rfl, hl, h⟩
theorem rd_isN {x : V} (h : Q (.bl (decide (x = .non))) H) : rIsN x .non H Q := ⟨rfl, h⟩
theorem rd_notN {x : V} (h : Q (.bl (!decide (x = .non))) H) : rNotN x .non H Q := ⟨rfl, h⟩
end
theorem atI_in {α : Type} {xs : List α} {i : Int} (h0 : 0 ≤ i) (h1 : i < xs.length) : ∃ v, atI xs i = some v ∧ xs[i.toNat]? = some v := by
  obtain ⟨n, rfl⟩ := Int.eq_ofNat_of_zero_le h0
  have hn : n < xs.length := by omega
  exact ⟨xs[n], atI_nat (by simp [hn]), by simp [hn]⟩
theorem atI_ints {ns : List Int} {i : Int} (h0 : 0 ≤ i) (h1 : i < ns.length) : ∃ n, atI (ns.map V.int) i = some (.int n) ∧ n ∈ ns := by
  obtain ⟨v, h2, h3⟩ := atI_in (xs := ns.map V.int) h0 (by simpa using h1)
  rw [List.getElem?_map] at h3
  cases e : ns[i.toNat]? with
  | none => rw [e] at h3; cases h3
  | some n => rw [e] at h3; cases h3; exact ⟨n, h2, List.mem_of_getElem? e⟩
/-- the turns of a comprehension, of a loop -/
def CompW (σ0 : St) (J : It) (H1 : Hp) (acc : Addr) (g : TG) (tt : TT) (te : TE) (Q : VK) : Prop := ∃ W : Nat → Nat → St → Hp → Prop, (∃ m, W 0 m σ0 (upd H1 acc (.lst []))) ∧ ∀ i m σc H, W i m σc H →
    (J.stop i H ∧ Q (.ref acc) H) ∨ (J.go i H ∧ ∃ N : St → Hp → Prop, (∀ σ' H', N σ' H' → ∃ m', m' < m ∧ W (i + 1) m' σ' H') ∧ ∀ x H', J.yld i H x H' → g x σc H' fun σ2 H2 => tt σ2 H2 fun b H3 =>
      if b = true then te σ2 H3 fun v H4 => ∃ xs, H4 acc = some (.lst xs) ∧ xs.length < sizeLine ∧ N σ2 (upd H4 acc (.lst (xs ++ [v]))) else N σ2 H3)
def ForW (J : It) (g : TG) (tb : TS) (D : Ends) (σ : St) (H : Hp) : Prop := ∃ W : Nat → Nat → St → Hp → Prop, (∃ m, W 0 m σ H) ∧ ∀ i m σ H, W i m σ H →
  (J.stop i H ∧ D.nx σ H) ∨ (J.go i H ∧ ∃ N : St → Hp → Prop, (∀ σ' H', N σ' H' → ∃ m', m' < m ∧ W (i + 1) m' σ' H') ∧ ∀ x H', J.yld i H x H' → g x σ H' fun σ2 H2 => tb { D with nx := N, ct := N, bk := D.nx } σ2 H2)
/-! ### a comprehension without tests, by an invariant over the list so far -/
section
variable {J : It} {H1 : Hp} {acc : Addr} {σ0 : St} {g : TG} {te : TE} {Q : VK}
theorem comp_by (n : Nat) (hn : n < sizeLine) (Pv : Nat → List V → St → Hp → Prop) (h0 : Pv 0 [] σ0 (upd H1 acc (.lst [])))
    (hgo : ∀ i vs σc H, i < n → vs.length = i → H acc = some (.lst vs) → Pv i vs σc H → J.go i H ∧ ∀ x H', J.yld i H x H' → ∀ R : St → V → Hp → Prop,
      (∀ σ2 v H4, H4 acc = some (.lst vs) → Pv (i + 1) (vs ++ [v]) σ2 (upd H4 acc (.lst (vs ++ [v]))) → R σ2 v H4) → g x σc H' fun σ2 H2 => te σ2 H2 (R σ2))
    (hst : ∀ vs σc H, vs.length = n → H acc = some (.lst vs) → Pv n vs σc H → J.stop n H ∧ Q (.ref acc) H) :
    CompW σ0 J H1 acc g tYes te Q := by
  refine ⟨fun i m σc H => m = n - i ∧ i ≤ n ∧ ∃ vs, vs.length = i ∧ H acc = some (.lst vs) ∧ Pv i vs σc H, ⟨n, by simp, Nat.zero_le _, [], rfl, upd_same, h0⟩, ?_⟩
  rintro i m σc H ⟨rfl, hi, vs, hl, ha, hp⟩
  by_cases hlt : i < n
  · obtain ⟨g1, g2⟩ := hgo i vs σc H hlt hl ha hp
    refine .inr ⟨g1, fun σ' H' => i + 1 ≤ n ∧ ∃ vs, vs.length = i + 1 ∧ H' acc = some (.lst vs) ∧ Pv (i + 1) vs σ' H', fun σ' H' q => ⟨n - (i + 1), by omega, rfl, q⟩, fun x H' y => ?_⟩
    simp only [tYes, if_true]
    exact g2 x H' y (fun σ2 v H4 => ∃ xs, H4 acc = some (.lst xs) ∧ xs.length < sizeLine ∧ (i + 1 ≤ n ∧ ∃ vs, vs.length = i + 1 ∧ (upd H4 acc (.lst (xs ++ [v]))) acc = some (.lst vs) ∧ Pv (i + 1) vs σ2 (upd H4 acc (.lst (xs ++ [v])))))
      fun σ2 v H4 q1 q2 => ⟨vs, q1, by omega, hlt, vs ++ [v], by simp [hl], upd_same, q2⟩
  · have e : i = n := by omega
    subst e
    exact .inl (hst vs σc H hl ha hp)
theorem gName_mono {i : Nat} : ∀ x σ H (q q' : St → Hp → Prop), (∀ a b, q a b → q' a b) → gName i x σ H q → gName i x σ H q' := fun _ _ _ _ _ h q => h _ _ q
end
theorem rd_comp {K : PySem.W.Frag} {fr : List (Option Nat)} {wi : TI} {g : TG} {tt : TT} {te : TE} {σ : St} {H : Hp} {Q : VK} (h : wi σ H fun J H1 => ∀ acc, H1 acc = none → K.lookup acc = none → CompW (stC fr σ) J H1 acc g tt te Q) : tComp K fr wi g tt te σ H Q := h
theorem rd_for {wi : TI} {g : TG} {tb : TS} {D : Ends} {σ : St} {H : Hp} (h : wi σ H fun J H1 => ForW J g tb D σ H1) : tFor wi g tb D σ H := h
theorem for_listW {K : PySem.W.Frag} {a : Addr} {xs : List V} {g : TG} {tb : TS} {D : Ends} {σ : St} {H : Hp} (Pv : Nat → St → Hp → Prop) (h0 : Pv 0 σ H) (hl : ∀ i σ H, i ≤ xs.length → Pv i σ H → SqL K H a xs)
    (hs : ∀ i x σ H, xs[i]? = some x → Pv i σ H → g x σ H fun σ2 H2 => tb { D with nx := Pv (i + 1), ct := Pv (i + 1), bk := D.nx } σ2 H2) (hd : ∀ σ H, Pv xs.length σ H → D.nx σ H) : ForW (Itl K a) g tb D σ H := for_list Pv h0 hl hs hd
theorem for_tupW {K : PySem.W.Frag} {a : Addr} {xs : List V} {g : TG} {tb : TS} {D : Ends} {σ : St} {H : Hp} (Pv : Nat → St → Hp → Prop) (h0 : Pv 0 σ H) (hl : ∀ i σ H, i ≤ xs.length → Pv i σ H → SqT K H a xs)
    (hs : ∀ i x σ H, xs[i]? = some x → Pv i σ H → g x σ H fun σ2 H2 => tb { D with nx := Pv (i + 1), ct := Pv (i + 1), bk := D.nx } σ2 H2) (hd : ∀ σ H, Pv xs.length σ H → D.nx σ H) : ForW (Itt K a) g tb D σ H := for_tup Pv h0 hl hs hd
theorem for_rangeW {lo : Int} {n : Nat} {g : TG} {tb : TS} {D : Ends} {σ : St} {H : Hp} (Pv : Nat → St → Hp → Prop) (h0 : Pv 0 σ H)
    (hs : ∀ i σ H, i < n → Pv i σ H → g (.int (lo + i)) σ H fun σ2 H2 => tb { D with nx := Pv (i + 1), ct := Pv (i + 1), bk := D.nx } σ2 H2) (hd : ∀ σ H, Pv n σ H → D.nx σ H) : ForW (Itr lo n) g tb D σ H := for_range Pv h0 hs hd
theorem rd_izip {K : PySem.W.Frag} {ta : TA} {σ : St} {H : Hp} {R : It → Hp → Prop} (h : ta σ H fun vs H1 => ∃ a b, vs = [.ref a, .ref b] ∧ (∃ xs, SqT K H1 a xs) ∧ (∃ ys, SqT K H1 b ys) ∧ R (Itz K a b) H1) : iZip K ta σ H R := h
theorem subT_of {T n : String} (h1 : T ∈ ["NoneType", "bool", "int", "str", "list", "tuple", "dict"]) (h2 : n ∈ ["int", "bool", "str", "tuple", "list", "dict"]) : subT T n = some (isB T n) := subT_tab T h1 n h2
def tyN : PyData → String
  | .none => "NoneType"
  | .bool _ => "bool"
  | .int _ => "int"
  | .str _ => "str"
  | .list _ => "list"
  | .tuple _ => "tuple"
  | .dict _ => "dict"
theorem tyN_in (d : PyData) : tyN d ∈ ["NoneType", "bool", "int", "str", "list", "tuple", "dict"] := by cases d <;> simp [tyN]
theorem Dt.tyn {K : PySem.W.Frag} {N : List Addr} {H : Hp} {v : V} {d : PyData} (h : Dt K N H v d) : TyS K H v (tyN d) := by
  cases h with
  | non => exact .non
  | bl b => exact .bl b
  | int i => exact .int i
  | str x => exact .str x
  | tup h n r => exact .tup h
  | lst h n r => exact .lst h
  | dk0 h n => exact .dk h
def isTupD : PyData → Bool
  | .tuple _ => true
  | _ => false
def isIntD : PyData → Bool
  | .int _ => true
  | .bool _ => true
  | _ => false
def isBoolD : PyData → Bool
  | .bool _ => true
  | _ => false
def isStrD : PyData → Bool
  | .str _ => true
  | _ => false
def isListD : PyData → Bool
  | .list _ => true
  | _ => false
section
variable {K : PySem.W.Frag} {N : List Addr} {H : Hp} {x : V} {d : PyData} {Q : VK}
theorem rd_isiTup (hd : Dt K N H x d) (h : Q (.bl (isTupD d)) H) : rIsi K [x, .ty "tuple"] H Q := by
  refine rd_isi hd.tyn (subT_of (tyN_in d) (by simp)) ?_
  have e : isB (tyN d) "tuple" = isTupD d := by cases d <;> (dsimp only [tyN, isTupD, isIntD, isBoolD, isStrD, isListD]; decide)
  rw [e]; exact h
theorem rd_isiInt (hd : Dt K N H x d) (h : Q (.bl (isIntD d)) H) : rIsi K [x, .ty "int"] H Q := by
  refine rd_isi hd.tyn (subT_of (tyN_in d) (by simp)) ?_
  have e : isB (tyN d) "int" = isIntD d := by cases d <;> (dsimp only [tyN, isTupD, isIntD, isBoolD, isStrD, isListD]; decide)
  rw [e]; exact h
theorem rd_isiBool (hd : Dt K N H x d) (h : Q (.bl (isBoolD d)) H) : rIsi K [x, .ty "bool"] H Q := by
  refine rd_isi hd.tyn (subT_of (tyN_in d) (by simp)) ?_
  have e : isB (tyN d) "bool" = isBoolD d := by cases d <;> (dsimp only [tyN, isTupD, isIntD, isBoolD, isStrD, isListD]; decide)
  rw [e]; exact h
theorem rd_isiStr (hd : Dt K N H x d) (h : Q (.bl (isStrD d)) H) : rIsi K [x, .ty "str"] H Q := by
  refine rd_isi hd.tyn (subT_of (tyN_in d) (by simp)) ?_
  have e : isB (tyN d) "str" = isStrD d := by cases d <;> (dsimp only [tyN, isTupD, isIntD, isBoolD, isStrD, isListD]; decide)
  rw [e]; exact h
theorem rd_isiList (hd : Dt K N H x d) (h : Q (.bl (isListD d)) H) : rIsi K [x, .ty "list"] H Q := by
  refine rd_isi hd.tyn (subT_of (tyN_in d) (by simp)) ?_
  have e : isB (tyN d) "list" = isListD d := by cases d <;> (dsimp only [tyN, isTupD, isIntD, isBoolD, isStrD, isListD]; decide)
  rw [e]; exact h
end
theorem rd_iteT {i : Decidable (true = true)} {A B : Prop} (h : A) : @ite Prop (true = true) i A B := by rw [if_pos rfl]; exact h
theorem rd_iteF {i : Decidable (false = true)} {A B : Prop} (h : B) : @ite Prop (false = true) i A B := by rw [if_neg Bool.false_ne_true]; exact h
theorem rd_ite2 {c : Bool} {i : Decidable (c = true)} {A B : Prop} (h1 : c = true → A) (h2 : c = false → B) : @ite Prop (c = true) i A B := by
  cases c with
  | true => rw [if_pos rfl]; exact h1 rfl
  | false => rw [if_neg Bool.false_ne_true]; exact h2 rfl
theorem Same.upd2 {H H' : Hp} {p : Addr} {o : HO} (s : Same H H') (h : H p = none) : Same H (L2.upd H' p o) := fun b u e => by rw [upd_ne (ne_of_none e h)]; exact s b u e
theorem Ext.upd2 {N : List Addr} {H H' : Hp} {p : Addr} {o : HO} (s : Ext N H H') (h : H p = none) : Ext N H (L2.upd H' p o) := fun b u e n => by rw [upd_ne (ne_of_none e h)]; exact s b u e n
theorem Dt.ref_int {K : PySem.W.Frag} {N : List Addr} {H : Hp} {v : V} {i : Int} (h : Dt K N H v (.int i)) : v = .int i := by cases h; rfl
theorem Dt.pair {K : PySem.W.Frag} {N : List Addr} {H : Hp} {v : V} {a b : Int} (h : Dt K N H v (.tuple [.int a, .int b])) : ∃ p, v = .ref p ∧ SqT K H p [.int a, .int b] ∧ p ∉ N := by
  cases h with
  | tup h n r =>
    cases r with
    | cons h1 r => cases r with
      | cons h2 r => cases r; cases h1; cases h2; exact ⟨_, rfl, h, n⟩
theorem DtAll.at {K : PySem.W.Frag} {N : List Addr} {H : Hp} {vs : List V} {ds : List PyData} {i : Nat} (r : DtAll K N H vs ds) (h : i < ds.length) : ∃ v d, vs[i]? = some v ∧ ds[i]? = some d ∧ Dt K N H v d := by
  have e : ds[i]? = some ds[i] := by simp [h]
  obtain ⟨v, h1, h2⟩ := r.getD e
  exact ⟨v, ds[i], h1, e, h2⟩
theorem cutV_tail (xs : List V) : cutV xs (some 1) none = xs.drop 1 := by
  unfold cutV
  have e : HT.sIx xs.length 0 (some 1) = min 1 xs.length := HT.sIx_nat _ _ 1
  rw [e, HT.sIx_none]
  cases xs with
  | nil => simp
  | cons x r => rw [List.length_cons, Nat.min_eq_left (by omega)]; simp
/-! ### the rules with the written part by its own name (within a block) -/
section
variable {X : Cx} {K : PySem.W.Frag}
theorem ix_listK (h : X.K = K) : IxR X (rIxL K) := h ▸ ix_list
theorem ix_tupK (h : X.K = K) : IxR X (rIxT K) := h ▸ ix_tup
theorem sl_listK (h : X.K = K) : SlR X (rSlL K) := h ▸ sl_list
theorem sl_tupGK (h : X.K = K) : SlR X (rSlG K) := h ▸ sl_tupG
theorem op_catGK (h : X.K = K) : OpR X (binaryOp .Add) (rCatG K) := h ▸ op_catG
theorem cn_lenK (h : X.K = K) : CallR X (.builtin "len") (rLen K) := h ▸ cn_len
theorem cn_isiK (h : X.K = K) : CallR X (.builtin "isinstance") (rIsi K) := h ▸ cn_isi
theorem cn_listK (h : X.K = K) : CallR X (.type "list") (rListOf K) := h ▸ cn_list
theorem cn_tupleK (h : X.K = K) : CallR X (.type "tuple") (rTupleOf K) := h ▸ cn_tuple
theorem cn_allK (hc : X.calm = true) (h : X.K = K) : CallR X (.builtin "all") (rAll K) := h ▸ cn_all hc
theorem pg_tupK {es : List Expr} {k : Nat} {t : TGs} {n : Nat} {pos : Pos} (hK : X.K = K) (hc : X.calm = true) (h : PGs X es t)
    (hn : (assignEach es X.env).length = n := by rfl) (hst : (assignEach es X.env).findIdx? (·.1) = none := by rfl) : PG X (.Tuple es k pos) (gTup K n t) := hK ▸ pg_tup hc h hn hst
end
end L2

namespace L2
open PySem
/-- the state of the draws: cells, how many were taken, what is left of a great one, the seed -/
structure StOk (K : PySem.W.Frag) (H : Hp) (st : Addr) : Prop where
  ex : ∃ (c : Addr) (cs : List Int) (p q r : Int), H st = some (.lst [.ref c, .int p, .int q, .int r]) ∧ H c = some (.lst (cs.map V.int)) ∧ c ≠ st ∧ 1 ≤ cs.length ∧ cs.length ≤ 63 ∧ 0 ≤ p ∧ 0 ≤ q ∧ 0 ≤ r ∧ r < 2147483647
theorem StOk.ext {K : PySem.W.Frag} {H H' : Hp} {st : Addr} (h : StOk K H st) (e : ∀ b o, H b = some o → H' b = some o) : StOk K H' st := by
  obtain ⟨c, cs, p, q, r, h1, h2, h3⟩ := h.ex
  exact ⟨c, cs, p, q, r, e _ _ h1, e _ _ h2, h3⟩
theorem sz {n : Nat} (h : n ≤ 1000) : n ≤ sizeLine := Nat.le_trans h (by decide)
end L2
namespace Mt
open PySem
/-! the mathematics of histories -/
def numD : PyData → Bool
  | .int _ => true
  | _ => false
def withinD (a b : Int) : PyData → Bool
  | .int i => decide (a ≤ i) && decide (i ≤ b)
  | _ => false
def begunD : PyData → Bool
  | .tuple [x, y] => withinD 0 1000000000 x && withinD 0 1000000 y
  | _ => false
/-- pair by pair, from the last line and fork on -/
def chk : Int → Int → List PyData → Bool
  | _, _, [] => true
  | l, f, .tuple [.int a, .int b] :: r => decide (l < a) && decide (a ≤ 1000000000) && decide (f ≤ b) && decide (b ≤ 1000000) && chk a b r
  | _, _, _ :: _ => false
def first0 : List PyData → Bool
  | .tuple [.int _, .int b] :: _ => decide (b = 0)
  | _ => false
def histD : PyData → Bool
  | .tuple ds => decide (1 ≤ ds.length) && decide (ds.length ≤ 60) && chk (-1) 0 ds && first0 ds
  | _ => false
theorem begun_shape {d : PyData} (h : begunD d = true) : ∃ a b, d = .tuple [.int a, .int b] ∧ 0 ≤ a ∧ a ≤ 1000000000 ∧ 0 ≤ b ∧ b ≤ 1000000 := by
  unfold begunD at h
  split at h
  · rename_i x y
    simp only [Bool.and_eq_true] at h
    obtain ⟨h1, h2⟩ := h
    unfold withinD at h1 h2
    split at h1
    · split at h2
      · rename_i i _ j
        simp only [Bool.and_eq_true, decide_eq_true_eq] at h1 h2
        exact ⟨_, _, rfl, h1.1, h1.2, h2.1, h2.2⟩
      · cases h2
    · cases h1
  · cases h
theorem chk_cons_int (l f a b : Int) (r : List PyData) : chk l f (.tuple [.int a, .int b] :: r) = (decide (l < a) && decide (a ≤ 1000000000) && decide (f ≤ b) && decide (b ≤ 1000000) && chk a b r) := by
  simp only [chk]
theorem chk_begun : ∀ {ds : List PyData} {l f : Int}, -1 ≤ l → 0 ≤ f → chk l f ds = true → ds.all begunD = true
  | [], _, _, _, _, _ => rfl
  | d :: r, l, f, hl, hf, h => by
    unfold chk at h
    split at h
    · rename_i heq; cases heq
    · rename_i a b r' heq
      cases heq
      simp only [Bool.and_eq_true, decide_eq_true_eq] at h
      obtain ⟨⟨⟨⟨h1, h2⟩, h3⟩, h4⟩, h5⟩ := h
      rw [List.all_cons, chk_begun (by omega) (by omega) h5]
      simp only [begunD, withinD, Bool.and_eq_true, decide_eq_true_eq, Bool.and_true]
      exact ⟨⟨by omega, h2⟩, by omega, h4⟩
    · cases h
/-- the i-th pair and the next one rise -/
def rise (ds : List PyData) (i : Nat) : Bool :=
  match ds[i]?, ds[i + 1]? with
  | some (.tuple [.int a, .int b]), some (.tuple [.int c, .int d]) => decide (a < c) && decide (b ≤ d)
  | _, _ => false
theorem chk_rise : ∀ {ds : List PyData} {l f a b : Int} {r : List PyData}, ds = .tuple [.int a, .int b] :: r → ds.all begunD = true → (chk l f ds = (decide (l < a) && decide (f ≤ b) && (List.range r.length).all (rise ds)))
  | _, l, f, a, b, [], rfl, h => by
    rw [List.all_cons] at h
    simp only [begunD, withinD, Bool.and_eq_true, decide_eq_true_eq] at h
    rw [chk_cons_int]
    simp [chk, h.1.1.2, h.1.2.2]
  | _, l, f, a, b, d :: r, rfl, h => by
    have h0 := h
    rw [List.all_cons, Bool.and_eq_true] at h
    obtain ⟨h1, h2⟩ := h
    have h2' := h2
    rw [List.all_cons, Bool.and_eq_true] at h2
    obtain ⟨c, e, rfl, _⟩ := begun_shape h2.1
    simp only [begunD, withinD, Bool.and_eq_true, decide_eq_true_eq] at h1
    rw [chk_cons_int, chk_rise (l := a) (f := b) rfl h2', List.length_cons, List.range_succ_eq_map, List.all_cons, List.all_map]
    have e1 : rise (.tuple [.int a, .int b] :: .tuple [.int c, .int e] :: r) 0 = (decide (a < c) && decide (b ≤ e)) := by simp [rise]
    have e2 : (rise (.tuple [.int a, .int b] :: .tuple [.int c, .int e] :: r) ∘ Nat.succ) = rise (.tuple [.int c, .int e] :: r) := by
      funext i; simp [rise]
    rw [e1, e2, decide_eq_true h1.1.2, decide_eq_true h1.2.2]
    simp only [Bool.and_true]
theorem hist_of_begun {ds : List PyData} (h1 : 1 ≤ ds.length) (h2 : ds.length ≤ 60) (hb : ds.all begunD = true) (hf : first0 ds = true) : histD (.tuple ds) = (List.range (ds.length - 1)).all (rise ds) := by
  cases ds with
  | nil => simp at h1
  | cons d r =>
    have hb' := hb
    rw [List.all_cons, Bool.and_eq_true] at hb'
    obtain ⟨a, b, rfl, g1, g2, g3, g4⟩ := begun_shape hb'.1
    have e : decide (-1 < a) = true := decide_eq_true (by omega)
    have e' : decide (0 ≤ b) = true := decide_eq_true g3
    simp only [histD, hf, Bool.true_and, Bool.and_true, chk_rise (l := -1) (f := 0) rfl hb, e, e', decide_eq_true h1, decide_eq_true h2]
    rfl
theorem hist_not_begun {ds : List PyData} (hb : ds.all begunD = false) : histD (.tuple ds) = false := by
  cases h : histD (.tuple ds) with
  | false => rfl
  | true =>
    simp only [histD, Bool.and_eq_true, decide_eq_true_eq] at h
    rw [chk_begun (by omega) (by omega) h.1.2] at hb
    cases hb
theorem numD_int {d : PyData} (h : numD d = true) : ∃ a, d = .int a := by
  cases d with
  | int a => exact ⟨a, rfl⟩
  | _ => cases h
theorem p9 : (10 : Int) ^ (9 : Int).toNat = 1000000000 := by decide
theorem p6 : (10 : Int) ^ (6 : Int).toNat = 1000000 := by decide
end Mt

set_option maxRecDepth 100000
namespace Mt
open PySem L2
/-! what may be shown: small data -/
structure Itm (w k : Nat) (d : PyData) : Prop where
  sh : d.showable = true
  lv : d.leavesShort 60 = true
  wt : d.weight ≤ w
  dp : d.depth ≤ k
  nd : d.hasDict = false
theorem Itm.mono {w w' k k' : Nat} {d : PyData} (h : Itm w k d) (h1 : w ≤ w') (h2 : k ≤ k') : Itm w' k' d := ⟨h.sh, h.lv, Nat.le_trans h.wt h1, Nat.le_trans h.dp h2, h.nd⟩
theorem Itm.shw {w k : Nat} {d : PyData} (h : Itm w k d) (hw : w ≤ 200000) (hk : k ≤ 30) : Shw d := by
  refine ⟨h.sh, Nat.le_trans h.dp hk, ?_, .inl h.nd⟩
  have e := PyData.shown_le 60 (by decide) d h.lv
  have e2 := h.wt
  rw [sizeLine_eq]
  have e3 : (60 + 2) * d.weight ≤ 62 * 200000 := Nat.mul_le_mul_left 62 (Nat.le_trans e2 hw)
  omega
theorem itm_none : Itm 0 0 .none := ⟨rfl, rfl, Nat.le_refl _, Nat.le_refl _, rfl⟩
theorem itm_bool (b : Bool) : Itm 0 0 (.bool b) := ⟨rfl, rfl, Nat.le_refl _, Nat.le_refl _, rfl⟩
theorem log2_le {n : Nat} (h : n < 10 ^ 41) : n.log2 < 140 := by
  by_cases h0 : n = 0
  · subst h0; decide
  · exact (Nat.log2_lt h0).mpr (Nat.lt_of_lt_of_le h (by decide))
theorem itm_int {i : Int} (h : i.natAbs < 10 ^ 41) : Itm 140 0 (.int i) := by
  have hl := log2_le h
  refine ⟨?_, ?_, ?_, Nat.le_refl _, rfl⟩
  · simp only [PyData.showable, decide_eq_true_eq]; omega
  · have e := int_text_length_le10 (k := 41) (by decide) h
    have e' : (PyData.shown (.int i)).length = (toString i).length := ofString_length _
    simp only [PyData.leavesShort, decide_eq_true_eq, e']; omega
  · simp only [PyData.weight]
    split <;> omega
def cpsOk (x : Str) : Prop := (x.cps.toList.all fun c => decide (c < 16 ^ 8)) = true
theorem itm_str {x : Str} (h : cpsOk x) (hl : x.length ≤ 140) : Itm 140 0 (.str x) := ⟨rfl, h, hl, Nat.le_refl _, rfl⟩
theorem all_showable {w k : Nat} : ∀ {ds : List PyData}, (∀ d ∈ ds, Itm w k d) → PyData.showableAll ds = true
  | [], _ => rfl
  | d :: r, h => by
    simp only [PyData.showableAll, Bool.and_eq_true]
    exact ⟨(h d (by simp)).sh, all_showable fun e he => h e (List.mem_cons_of_mem _ he)⟩
theorem all_leaves {w k : Nat} : ∀ {ds : List PyData}, (∀ d ∈ ds, Itm w k d) → PyData.leavesShortAll 60 ds = true
  | [], _ => rfl
  | d :: r, h => by
    simp only [PyData.leavesShortAll, Bool.and_eq_true]
    exact ⟨(h d (by simp)).lv, all_leaves fun e he => h e (List.mem_cons_of_mem _ he)⟩
theorem all_weight {w k : Nat} : ∀ {ds : List PyData}, (∀ d ∈ ds, Itm w k d) → PyData.weightAll ds ≤ ds.length * (w + 1)
  | [], _ => by simp [PyData.weightAll]
  | d :: r, h => by
    have h1 := (h d (by simp)).wt
    have h2 := all_weight (ds := r) fun e he => h e (List.mem_cons_of_mem _ he)
    simp only [PyData.weightAll, List.length_cons, Nat.add_mul, Nat.one_mul]
    omega
theorem all_depth {w k : Nat} : ∀ {ds : List PyData}, (∀ d ∈ ds, Itm w k d) → PyData.depthAll ds ≤ k
  | [], _ => by simp [PyData.depthAll]
  | d :: r, h => by
    simp only [PyData.depthAll]
    exact Nat.max_le.mpr ⟨(h d (by simp)).dp, all_depth fun e he => h e (List.mem_cons_of_mem _ he)⟩
theorem all_nodict {w k : Nat} : ∀ {ds : List PyData}, (∀ d ∈ ds, Itm w k d) → PyData.hasDictAll ds = false
  | [], _ => rfl
  | d :: r, h => by
    simp only [PyData.hasDictAll, Bool.or_eq_false_iff]
    exact ⟨(h d (by simp)).nd, all_nodict fun e he => h e (List.mem_cons_of_mem _ he)⟩
theorem itm_tuple {w k n : Nat} {ds : List PyData} (h : ∀ d ∈ ds, Itm w k d) (hn : ds.length ≤ n) : Itm (n * (w + 1)) (k + 1) (.tuple ds) :=
  ⟨all_showable h, all_leaves h, Nat.le_trans (all_weight h) (Nat.mul_le_mul_right _ hn), Nat.succ_le_succ (all_depth h), all_nodict h⟩
theorem itm_list {w k n : Nat} {ds : List PyData} (h : ∀ d ∈ ds, Itm w k d) (hn : ds.length ≤ n) : Itm (n * (w + 1)) (k + 1) (.list ds) :=
  ⟨all_showable h, all_leaves h, Nat.le_trans (all_weight h) (Nat.mul_le_mul_right _ hn), Nat.succ_le_succ (all_depth h), all_nodict h⟩
theorem shw_dict0 : Shw (.dict []) := ⟨rfl, by decide, by decide +kernel, .inr rfl⟩

/-! histories as lists of pairs -/
def pr (p : Int × Int) : PyData := .tuple [.int p.1, .int p.2]
def okP : Int → Int → List (Int × Int) → Prop
  | _, _, [] => True
  | l, f, (a, b) :: r => l < a ∧ a ≤ 1000000000 ∧ f ≤ b ∧ b ≤ 1000000 ∧ okP a b r
theorem okP_snoc : ∀ {l f : Int} {hs : List (Int × Int)} {a b c d : Int}, okP l f (hs ++ [(a, b)]) → a < c → c ≤ 1000000000 → b ≤ d → d ≤ 1000000 → okP l f (hs ++ [(a, b)] ++ [(c, d)])
  | l, f, [], a, b, c, d, h, h1, h2, h3, h4 => ⟨h.1, h.2.1, h.2.2.1, h.2.2.2.1, h1, h2, h3, h4, trivial⟩
  | l, f, (x, y) :: r, a, b, c, d, h, h1, h2, h3, h4 => ⟨h.1, h.2.1, h.2.2.1, h.2.2.2.1, okP_snoc h.2.2.2.2 h1 h2 h3 h4⟩
theorem okP_bound : ∀ {l f : Int} {hs : List (Int × Int)}, -1 ≤ l → 0 ≤ f → okP l f hs → ∀ p ∈ hs, 0 ≤ p.1 ∧ p.1 ≤ 1000000000 ∧ 0 ≤ p.2 ∧ p.2 ≤ 1000000
  | l, f, [], _, _, _, p, hp => by simp at hp
  | l, f, (a, b) :: r, hl, hf, h, p, hp => by
    obtain ⟨h1, h2, h3, h4, h5⟩ := h
    rcases List.mem_cons.mp hp with rfl | hp
    · exact ⟨by show 0 ≤ a; omega, h2, by show 0 ≤ b; omega, h4⟩
    · exact okP_bound (by omega) (by omega) h5 p hp
theorem chk_okP : ∀ {l f : Int} {hs : List (Int × Int)}, okP l f hs → chk l f (hs.map pr) = true
  | l, f, [], _ => rfl
  | l, f, (a, b) :: r, h => by
    obtain ⟨h1, h2, h3, h4, h5⟩ := h
    rw [List.map_cons]
    show chk l f (.tuple [.int a, .int b] :: r.map pr) = true
    rw [chk_cons_int, chk_okP h5]
    simp [h1, h2, h3, h4]
/-- a history: its pairs -/
structure HOK (hs : List (Int × Int)) : Prop where
  len1 : 1 ≤ hs.length
  len2 : hs.length ≤ 60
  ok : okP (-1) 0 hs
  zero : ∃ a r, hs = (a, 0) :: r
theorem HOK.hist {hs : List (Int × Int)} (h : HOK hs) : histD (.tuple (hs.map pr)) = true := by
  obtain ⟨a, r, rfl⟩ := h.zero
  have h1 := h.len1
  have h2 := h.len2
  simp only [histD, chk_okP h.ok, List.length_map, decide_eq_true h1, decide_eq_true h2]
  rfl
theorem HOK.bound {hs : List (Int × Int)} (h : HOK hs) : ∀ p ∈ hs, 0 ≤ p.1 ∧ p.1 ≤ 1000000000 ∧ 0 ≤ p.2 ∧ p.2 ≤ 1000000 := okP_bound (by decide) (by decide) h.ok
theorem itm_small {i : Int} (h1 : -100000000000 ≤ i) (h2 : i ≤ 100000000000) : Itm 140 0 (.int i) := itm_int (Nat.lt_of_le_of_lt (m := 100000000000) (by omega) (by decide))
theorem itm_pr {p : Int × Int} (h1 : 0 ≤ p.1 ∧ p.1 ≤ 1000000000 ∧ 0 ≤ p.2 ∧ p.2 ≤ 1000000) : Itm 430 2 (pr p) := by
  refine (itm_tuple (w := 140) (k := 0) (n := 2) (fun d hd => ?_) (by simp)).mono (by decide) (by decide)
  simp only [List.mem_cons, List.not_mem_nil, or_false] at hd
  rcases hd with rfl | rfl
  · exact itm_small (by omega) (by omega)
  · exact itm_small (by omega) (by omega)
theorem HOK.itm {hs : List (Int × Int)} (h : HOK hs) : ∀ d ∈ hs.map pr, Itm 430 2 d := fun d hd => by
  obtain ⟨p, hp, rfl⟩ := List.mem_map.mp hd
  exact itm_pr (h.bound p hp)
end Mt
namespace L2
open PySem
theorem sub_not {N N' : List Addr} (h : ∀ b ∈ N', b ∈ N) {a : Addr} (n : a ∉ N) : a ∉ N' := fun z => n (h a z)
mutual
theorem Dt.weaken {K : PySem.W.Frag} {N N' : List Addr} {H : Hp} (h : ∀ b ∈ N', b ∈ N) : ∀ {v : V} {d : PyData}, Dt K N H v d → Dt K N' H v d
  | _, _, .non => .non
  | _, _, .bl b => .bl b
  | _, _, .int i => .int i
  | _, _, .str x => .str x
  | _, _, .tup q n r => .tup q (sub_not h n) (DtAll.weaken h r)
  | _, _, .lst q n r => .lst q (sub_not h n) (DtAll.weaken h r)
  | _, _, .dk0 q n => .dk0 q (sub_not h n)
theorem DtAll.weaken {K : PySem.W.Frag} {N N' : List Addr} {H : Hp} (h : ∀ b ∈ N', b ∈ N) : ∀ {vs : List V} {ds : List PyData}, DtAll K N H vs ds → DtAll K N' H vs ds
  | _, _, .nil => .nil
  | _, _, .cons q r => .cons (Dt.weaken h q) (DtAll.weaken h r)
end
theorem StOk.at {K : PySem.W.Frag} {H : Hp} {st : Addr} (h : StOk K H st) : ∃ xs, H st = some (.lst xs) := by
  obtain ⟨c, cs, p, q, r, h1, _⟩ := h.ex
  exact ⟨_, h1⟩
/-- an allocation leaves the state -/
theorem StOk.new {K : PySem.W.Frag} {H : Hp} {st p : Addr} {o : HO} (h : StOk K H st) (n : H p = none) : StOk K (upd H p o) st := h.ext (Same.upd n)
theorem StOk.ne {K : PySem.W.Frag} {H : Hp} {st p : Addr} (h : StOk K H st) (n : H p = none) : p ≠ st := by
  obtain ⟨xs, e⟩ := h.at
  exact fun z => by rw [z, e] at n; cases n
theorem DtAll.snoc {K : PySem.W.Frag} {N : List Addr} {H : Hp} : ∀ {ds : List PyData} {d : PyData} {vs : List V}, DtAll K N H vs (ds ++ [d]) → ∃ ws v, vs = ws ++ [v] ∧ DtAll K N H ws ds ∧ Dt K N H v d
  | [], d, _, .cons h .nil => ⟨[], _, rfl, .nil, h⟩
  | _ :: ds, d, _, .cons h r => by
    obtain ⟨ws, v, rfl, h1, h2⟩ := DtAll.snoc r
    exact ⟨_ :: ws, v, rfl, .cons h h1, h2⟩
theorem at3 {a b c : Int} {i : Int} (h0 : 0 ≤ i) (h1 : i < 3) : ∃ w, atI [V.int a, V.int b, V.int c] i = some (.int w) ∧ (w = a ∨ w = b ∨ w = c) := by
  have : i = 0 ∨ i = 1 ∨ i = 2 := by omega
  rcases this with rfl | rfl | rfl
  · exact ⟨a, rfl, .inl rfl⟩
  · exact ⟨b, rfl, .inr (.inl rfl)⟩
  · exact ⟨c, rfl, .inr (.inr rfl)⟩
theorem mul_le {a b m n : Int} (h0 : 0 ≤ a) (h1 : a ≤ m) (h2 : 0 ≤ b) (h3 : b ≤ n) : 0 ≤ a * b ∧ a * b ≤ m * n :=
  ⟨Int.mul_nonneg h0 h2, Int.mul_le_mul h1 h3 h2 (by omega)⟩
theorem rd_seqK {t u : TS} {D : Ends} {σ : St} {H : Hp} (P : St → Hp → Prop) (hu : ∀ σ' H', P σ' H' → u D σ' H') (h : (∀ σ' H', P σ' H' → u D σ' H') → t { D with nx := u D } σ H) : tSeq t u D σ H := h hu
theorem DtAll.atI {K : PySem.W.Frag} {N : List Addr} {H : Hp} {vs : List V} {ds : List PyData} {i : Int} (r : DtAll K N H vs ds) (h0 : 0 ≤ i) (h1 : i < ds.length) : ∃ v d, L2.atI vs i = some v ∧ d ∈ ds ∧ Dt K N H v d := by
  obtain ⟨n, rfl⟩ := Int.eq_ofNat_of_zero_le h0
  obtain ⟨v, d, e1, e2, e3⟩ := r.at (i := n) (by omega)
  exact ⟨v, d, atI_nat e1, List.mem_of_getElem? e2, e3⟩
theorem cps_ofString (s : String) : Mt.cpsOk (Str.ofString s) := by
  unfold Mt.cpsOk
  rw [Str.ofString_eq_toList]
  simp only [List.toList_toArray, List.all_map, List.all_eq_true]
  intro c _
  have : c.toNat < 1114112 := by
    have := c.valid
    rcases this with h | h
    · exact Nat.lt_of_lt_of_le h (by decide)
    · exact Nat.lt_of_lt_of_le h.2 (by decide)
  simp only [Function.comp, decide_eq_true_eq]
  exact Nat.lt_trans this (by decide)
theorem itm_text {i : Int} (h1 : 0 ≤ i) (h2 : i ≤ 100000000000) : Mt.Itm 140 0 (.str (Str.ofString (toString i))) := by
  refine Mt.itm_str (cps_ofString _) ?_
  rw [ofString_length]
  have := int_text_length_le10 (a := i) (k := 41) (by decide) (Nat.lt_of_le_of_lt (m := 100000000000) (by omega) (by decide))
  omega
/-! ### makers, the new heap by its facts -/
def tTupA (t : TA) : TE := fun σ H Q => t σ H fun xs H1 => xs.length ≤ sizeLine ∧ ∀ p H', H1 p = none → Same H1 H' → H' p = some (.tup xs) → Q (.ref p) H'
def tLstA (t : TA) : TE := fun σ H Q => t σ H fun xs H1 => xs.length ≤ sizeLine ∧ ∀ p H', H1 p = none → Same H1 H' → H' p = some (.lst xs) → Q (.ref p) H'
def tDNewA : TE := fun _ H Q => ∀ p H', H p = none → Same H H' → H' p = some (.dK []) → Q (.ref p) H'
def rCatA : R2 := fun x y H Q => ∃ l b xs zs, x = .ref l ∧ y = .ref b ∧ H l = some (.lst xs) ∧ H b = some (.lst zs) ∧ xs.length + zs.length ≤ sizeLine ∧ ∀ p H', H p = none → Same H H' → H' p = some (.lst (xs ++ zs)) → Q (.ref p) H'
def rSlA (K : PySem.W.Frag) : V → Option Int → Option Int → Hp → VK → Prop := fun x lo hi H Q => ∃ a xs, x = .ref a ∧ SqL K H a xs ∧ ∀ p H', H p = none → Same H H' → H' p = some (.lst (cutV xs lo hi)) → Q (.ref p) H'
def rListA (K : PySem.W.Frag) : TR := fun xs H Q => ∃ p ys, xs = [.ref p] ∧ (SqL K H p ys ∨ SqT K H p ys) ∧ ∀ l H', H l = none → Same H H' → H' l = some (.lst ys) → Q (.ref l) H'
def rTupleA (K : PySem.W.Frag) : TR := fun xs H Q => ∃ p ys, xs = [.ref p] ∧ (SqL K H p ys ∨ SqT K H p ys) ∧ ∀ l H', (l = p ∨ H l = none) → Same H H' → SqT K H' l ys → Q (.ref l) H'
section
open PyProof.Rows
variable {X : Cx} {es : List Expr} {t : TA} {pos : Pos} {K : PySem.W.Frag}
theorem pe_tupA {x1} (h : PA X es t) : PE X (.Tuple es x1 pos) (tTupA t) := by
  intro pins s σ H Q I hq
  refine wpAny_Tuple_spliced (thn (h pos pins s σ H _ I hq) fun us s1 ⟨xs, H1, I1, r, z, q⟩ => ⟨by rw [← r.length]; exact z, ?_⟩)
  have hf : H1 s1.heap.objs.size = none := I1.hok.fresh (Nat.le_refl _)
  exact ⟨.ref s1.heap.objs.size, upd H1 s1.heap.objs.size (.tup xs), I1.laid (t' := s1.toks) (fun b u e => Heap.get?_push_of_some _ e) (Nat.le_refl _) ⟨z, us, r, ⟨_, Heap.get?_push_size _ rfl, rfl, _, rfl⟩⟩, rfl, q _ _ hf (Same.upd hf) upd_same⟩
theorem pe_lstA (h : PA X es t) : PE X (.List es pos) (tLstA t) := by
  intro pins s σ H Q I hq
  refine wpAny_List_spliced (thn (h pos pins s σ H _ I hq) fun us s1 ⟨xs, H1, I1, r, z, q⟩ => ⟨by rw [← r.length]; exact z, ?_⟩)
  have hf : H1 s1.heap.objs.size = none := I1.hok.fresh (Nat.le_refl _)
  exact ⟨.ref s1.heap.objs.size, upd H1 s1.heap.objs.size (.lst xs), I1.laid (t' := s1.toks) (fun b u e => Heap.get?_push_of_some _ e) (Nat.le_refl _) ⟨z, us, 0, r, Heap.get?_push_size _ rfl⟩, rfl, q _ _ hf (Same.upd hf) upd_same⟩
theorem pe_dnewA : PE X (.Dict [] [] pos) tDNewA := fun pins s σ H Q I h => pe_dnewK pins s σ H Q I fun p hp => h p _ hp (Same.upd hp) upd_same
theorem op_catA : OpR X (binaryOp .Add) rCatA := fun pins s σ H x y v u Q I rx ry ⟨l, b, xs, zs, h1, h2, h3, h4, h5, h6⟩ => op_cat pins s σ H x y v u Q I rx ry ⟨l, b, xs, zs, h1, h2, h3, h4, h5, fun p hp => h6 p _ hp (Same.upd hp) upd_same⟩
theorem sl_listA (hK : X.K = K) : SlR X (rSlA K) := fun pins s σ H x v vl vu lo hi sl Q I rx hs pl pu ⟨a, xs, h1, h2, h3⟩ => sl_list pins s σ H x v vl vu lo hi sl Q I rx hs pl pu ⟨a, xs, h1, by rw [hK]; exact h2, fun p hp => h3 p _ hp (Same.upd hp) upd_same⟩
theorem cn_listA (hK : X.K = K) : CallR X (.type "list") (rListA K) := fun pins s σ H xs us Q I r ⟨p, ys, h1, h2, h3⟩ => cn_list pins s σ H xs us Q I r ⟨p, ys, h1, by rw [hK]; exact h2, fun l hl => h3 l _ hl (Same.upd hl) upd_same⟩
theorem cn_tupleA (hK : X.K = K) : CallR X (.type "tuple") (rTupleA K) := fun pins s σ H xs us Q I r ⟨p, ys, h1, h2, h3⟩ => cn_tuple pins s σ H xs us Q I r ⟨p, ys, h1, by
  rw [hK]
  rcases h2 with h2 | h2
  · exact .inl ⟨h2, fun l hl => h3 l _ (.inr hl) (Same.upd hl) (SqT.of upd_same)⟩
  · exact .inr ⟨h2, h3 p H (.inl rfl) (Same.refl H) h2⟩⟩
end
section
variable {σ : St} {H : Hp} {Q : VK} {K : PySem.W.Frag} {ta : TA} {p q : Addr} {xs ys : List V}
theorem rd_tupA (h : ta σ H fun xs H1 => xs.length ≤ sizeLine ∧ ∀ p H', H1 p = none → Same H1 H' → H' p = some (.tup xs) → Q (.ref p) H') : tTupA ta σ H Q := h
theorem rd_lstA (h : ta σ H fun xs H1 => xs.length ≤ sizeLine ∧ ∀ p H', H1 p = none → Same H1 H' → H' p = some (.lst xs) → Q (.ref p) H') : tLstA ta σ H Q := h
theorem rd_dnewA (h : ∀ p H', H p = none → Same H H' → H' p = some (.dK []) → Q (.ref p) H') : tDNewA σ H Q := h
theorem rd_catA (h1 : H p = some (.lst xs)) (h2 : H q = some (.lst ys)) (hz : xs.length + ys.length ≤ sizeLine) (h : ∀ r H', H r = none → Same H H' → H' r = some (.lst (xs ++ ys)) → Q (.ref r) H') : rCatA (.ref p) (.ref q) H Q := ⟨p, q, xs, ys, rfl, rfl, h1, h2, hz, h⟩
theorem rd_slA {lo hi : Option Int} (hq : SqL K H p xs) (h : ∀ l H', H l = none → Same H H' → H' l = some (.lst (cutV xs lo hi)) → Q (.ref l) H') : rSlA K (.ref p) lo hi H Q := ⟨p, xs, rfl, hq, h⟩
theorem rd_listAL (hq : SqL K H p xs) (h : ∀ l H', H l = none → Same H H' → H' l = some (.lst xs) → Q (.ref l) H') : rListA K [.ref p] H Q := ⟨p, xs, rfl, .inl hq, h⟩
theorem rd_listAT (hq : SqT K H p xs) (h : ∀ l H', H l = none → Same H H' → H' l = some (.lst xs) → Q (.ref l) H') : rListA K [.ref p] H Q := ⟨p, xs, rfl, .inr hq, h⟩
theorem rd_tupleAL (hq : SqL K H p xs) (h : ∀ l H', (l = p ∨ H l = none) → Same H H' → SqT K H' l xs → Q (.ref l) H') : rTupleA K [.ref p] H Q := ⟨p, xs, rfl, .inl hq, h⟩
end
theorem StOk.same {K : PySem.W.Frag} {H H' : Hp} {st : Addr} (h : StOk K H st) (e : Same H H') : StOk K H' st := h.ext e
theorem StOk.nin {K : PySem.W.Frag} {H H' : Hp} {st q : Addr} (S : StOk K H st) (s : Same H H') (n : H' q = none) : q ∉ [st] := by
  have := (S.same s).ne n
  simpa using this
theorem cutD_mem {ds : List PyData} {lo hi : Option Int} {d : PyData} (h : d ∈ cutD ds lo hi) : d ∈ ds := List.mem_of_mem_drop (List.mem_of_mem_take h)
theorem cutD_len {ds : List PyData} {lo hi : Option Int} : (cutD ds lo hi).length ≤ ds.length := by
  unfold cutD
  rw [List.length_take, List.length_drop]; omega
/-- the state of the draws, and things at N that are there (the state among them) -/
structure Trk (K : PySem.W.Frag) (N : List Addr) (H : Hp) (st : Addr) : Prop where
  so : StOk K H st
  mem : st ∈ N
  tr : ∀ b ∈ N, H b ≠ none
theorem Trk.same {K : PySem.W.Frag} {N : List Addr} {H H' : Hp} {st : Addr} (h : Trk K N H st) (e : Same H H') : Trk K N H' st := ⟨h.so.same e, h.mem, fun b hb z => h.tr b hb (e.free z)⟩
theorem Trk.nin {K : PySem.W.Frag} {N : List Addr} {H : Hp} {st p : Addr} (h : Trk K N H st) (n : H p = none) : p ∉ N := fun z => h.tr p z n
theorem Trk.ext {K : PySem.W.Frag} {N : List Addr} {H H' : Hp} {st : Addr} (h : Trk K N H st) (S : StOk K H' st) (e : Ext [st] H H') : Trk K N H' st := ⟨S, h.mem, fun b hb z => by
  by_cases q : b = st
  · subst q
    obtain ⟨xs, e'⟩ := S.at
    rw [e'] at z; cases z
  · exact h.tr b hb (e.free z (by simpa using q))⟩
mutual
theorem Dt.fresh {K : PySem.W.Frag} {N : List Addr} {H : Hp} {p : Addr} (h : H p = none) (k : K.lookup p = none) : ∀ {v : V} {d : PyData}, Dt K N H v d → Dt K (p :: N) H v d
  | _, _, .non => .non
  | _, _, .bl b => .bl b
  | _, _, .int i => .int i
  | _, _, .str x => .str x
  | _, _, .tup q n r => .tup q (by
      rw [List.mem_cons, not_or]
      refine ⟨?_, n⟩
      rintro rfl
      rcases q with (q | ⟨o, q⟩) | ⟨o, its, m, q, _⟩
      · rw [h] at q; cases q
      · rw [h] at q; cases q
      · rw [k] at q; cases q) (DtAll.fresh h k r)
  | _, _, .lst q n r => .lst q (by
      rw [List.mem_cons, not_or]
      refine ⟨?_, n⟩
      rintro rfl
      rcases q with (q | ⟨o, q⟩) | ⟨o, its, m, q, _⟩
      · rw [h] at q; cases q
      · rw [h] at q; cases q
      · rw [k] at q; cases q) (DtAll.fresh h k r)
  | _, _, .dk0 q n => .dk0 q (by
      rw [List.mem_cons, not_or]
      refine ⟨?_, n⟩
      rintro rfl
      rw [h] at q; cases q)
theorem DtAll.fresh {K : PySem.W.Frag} {N : List Addr} {H : Hp} {p : Addr} (h : H p = none) (k : K.lookup p = none) : ∀ {vs : List V} {ds : List PyData}, DtAll K N H vs ds → DtAll K (p :: N) H vs ds
  | _, _, .nil => .nil
  | _, _, .cons q r => .cons (Dt.fresh h k q) (DtAll.fresh h k r)
end
theorem Ext.mono {N N' : List Addr} {H H' : Hp} (e : Ext N H H') (h : ∀ b ∈ N, b ∈ N') : Ext N' H H' := fun b u q n => e b u q fun z => n (h b z)
theorem Ext.up {N : List Addr} {st : Addr} {H H' : Hp} (e : Ext [st] H H') (h : st ∈ N) : Ext N H H' := e.mono fun b hb => by
  have : b = st := by simpa using hb
  rw [this]; exact h
/-- a list of references is none of the cells: what is laid there leaves the state -/
theorem StOk.acc {K : PySem.W.Frag} {H : Hp} {st acc : Addr} {vs : List V} {o : HO} (S : StOk K H st) (n : acc ≠ st) (ha : H acc = some (.lst vs)) (hr : ∀ v ∈ vs, ∃ q, v = .ref q) : StOk K (upd H acc o) st := by
  obtain ⟨c, cs, p, q, r, h1, h2, h3, h4, h5⟩ := S.ex
  refine ⟨c, cs, p, q, r, by rw [upd_ne (Ne.symm n)]; exact h1, ?_, h3, h4, h5⟩
  have ncf : c ≠ acc := fun z => by
    subst z
    rw [ha] at h2
    have e : vs = cs.map V.int := by injection h2 with h2; injection h2
    cases cs with
    | nil => simp at h4
    | cons i cs =>
      obtain ⟨q, hq⟩ := hr (.int i) (by rw [e]; simp)
      cases hq
  rw [upd_ne ncf]; exact h2
theorem Trk.two {K : PySem.W.Frag} {H : Hp} {st acc : Addr} {vs : List V} (S : StOk K H st) (ha : H acc = some (.lst vs)) : Trk K [acc, st] H st := ⟨S, by simp, fun b hb => by
  simp only [List.mem_cons, List.not_mem_nil, or_false] at hb
  rcases hb with rfl | rfl
  · rw [ha]; simp
  · obtain ⟨xs, e⟩ := S.at
    rw [e]; simp⟩
theorem Trk.one {K : PySem.W.Frag} {H : Hp} {st : Addr} (S : StOk K H st) : Trk K [st] H st := ⟨S, by simp, fun b hb => by
  simp only [List.mem_cons, List.not_mem_nil, or_false] at hb
  subst hb
  obtain ⟨xs, e⟩ := S.at
  rw [e]; simp⟩
theorem ne_self {v : V} : (!decide (v = v)) = false := by simp
end L2

namespace L2
open PySem PySem.Spec PyProof.Rows
def notStar : Expr → Bool
  | .Starred .. => false
  | _ => true
def noStars : List Expr → Bool
  | [] => true
  | e :: r => notStar e && noStars r
theorem star_ne {e : Expr} {r : List Expr} {env : Env} (h : notStar e = true) : starEach (e :: r) env = (false, eval e env) :: starEach r env := by
  cases e <;> first | rfl | cases h
theorem stars_any {pos : Pos} {env : Env} : ∀ {es : List Expr}, noStars es = true → (backTo pos (starEach es env)).any (·.1) = false
  | [], _ => rfl
  | e :: r, h => by
    simp only [noStars, Bool.and_eq_true] at h
    rw [star_ne h.1]
    show (false || (backTo pos (starEach r env)).any (·.1)) = false
    rw [stars_any h.2]; rfl
section
variable {X : Cx} {e : Expr} {es : List Expr} {te : TE} {t : TA} {pos p : Pos} {CX : CXT} {k : Nat} {f : Addr} {fd : FuncData} {ps : List Str} {sp : Sp} {dvs : List V} {ds : List Value} {E : XK} {x : Str} {id Ty : String} {r : List V → Hp → VK → Prop}
theorem paN (ha : PE X e te) (hr : PA X es t) (h : notStar e = true := by rfl) : PA X (e :: es) (tCons te t) := pa_cons ha hr (star_ne h)
theorem peN_call (F : FnOk X.prog X.w X.K X.mg X.base CX k f fd ps sp) (hr : Room k X.A) (hg : Gl X x) (hm : X.mg x = some (.ref f)) (hk : PySem.W.keepIn X.K (.ref f) = true) (hb : Binds X.K fd ps ds) (hd : Vals dvs ds) (hx : Passes CX X E)
    (ha : PA X (e :: es) t) (hdb : (x == ("__debug__" : Str)) = false := by decide) (h1 : notStar e = true := by rfl) (h2 : noStars es = true := by rfl) : PE X (.Call (.Name x p) (e :: es) [] pos) (tCall sp dvs E t) :=
  pe_call F hr hg hm hk hb hd hx ha hdb (star_ne h1) (stars_any h2)
theorem peN_callB (hc : CallR X (.builtin id) r) (hg : Gl X x) (hm : X.mg x = none) (hv : bootBuiltins x = some (.builtin id)) (ha : PA X (e :: es) t) (hn : x ≠ "__name__" := by decide) (hdb : (x == ("__debug__" : Str)) = false := by decide)
    (h1 : notStar e = true := by rfl) (h2 : noStars es = true := by rfl) : PE X (.Call (.Name x p) (e :: es) [] pos) (tCB r t) := pe_callB hc hg hm hv ha hn hdb (star_ne h1) (stars_any h2)
theorem peN_callTy (hc : CallR X (.type Ty) r) (hg : Gl X x) (hm : X.mg x = none) (hv : bootBuiltins x = some (.type Ty)) (ha : PA X (e :: es) t) (hn : x ≠ "__name__" := by decide) (hdb : (x == ("__debug__" : Str)) = false := by decide)
    (h1 : notStar e = true := by rfl) (h2 : noStars es = true := by rfl) : PE X (.Call (.Name x p) (e :: es) [] pos) (tCB r t) := pe_callTy hc hg hm hv ha hn hdb (star_ne h1) (stars_any h2)
end
end L2
namespace L2
open PySem PySem.Spec PyProof.Rows
/-- an argument list, behind a wall: the elaborator does not look through it -/
structure PAs (X : Cx) (es : List Expr) (t : TA) : Prop where
  run : PA X es t
section
variable {X : Cx} {e o : Expr} {es : List Expr} {te to : TE} {t : TA} {pos p apos cpos : Pos} {CX : CXT} {k : Nat} {f : Addr} {fd : FuncData} {ps : List Str} {sp : Sp} {dvs : List V} {ds : List Value} {E : XK} {x name : Str} {id Ty T : String} {r : List V → Hp → VK → Prop} {rm : V → List V → Hp → VK → Prop}
theorem qa_nil : PAs X [] tNil := ⟨pa_nil⟩
theorem qa (ha : PE X e te) (hr : PAs X es t) (h : notStar e = true) : PAs X (e :: es) (tCons te t) := ⟨paN ha hr.run h⟩
theorem qe_tup {x1} (h : PAs X es t) : PE X (.Tuple es x1 pos) (tTup t) := pe_tup h.run
theorem qe_lst (h : PAs X es t) : PE X (.List es pos) (tLst t) := pe_lst h.run
theorem qe_tupA {x1} (h : PAs X es t) : PE X (.Tuple es x1 pos) (tTupA t) := pe_tupA h.run
theorem qe_lstA (h : PAs X es t) : PE X (.List es pos) (tLstA t) := pe_lstA h.run
theorem qe_call (F : FnOk X.prog X.w X.K X.mg X.base CX k f fd ps sp) (hr : Room k X.A) (hg : Gl X x) (hm : X.mg x = some (.ref f)) (hk : PySem.W.keepIn X.K (.ref f) = true) (hb : Binds X.K fd ps ds) (hd : Vals dvs ds) (hx : Passes CX X E)
    (ha : PAs X (e :: es) t) (hdb : (x == ("__debug__" : Str)) = false) (h1 : notStar e = true) (h2 : noStars es = true) : PE X (.Call (.Name x p) (e :: es) [] pos) (tCall sp dvs E t) := peN_call F hr hg hm hk hb hd hx ha.run hdb h1 h2
theorem qe_callB (hc : CallR X (.builtin id) r) (hg : Gl X x) (hm : X.mg x = none) (hv : bootBuiltins x = some (.builtin id)) (ha : PAs X (e :: es) t) (hn : x ≠ "__name__") (hdb : (x == ("__debug__" : Str)) = false)
    (h1 : notStar e = true) (h2 : noStars es = true) : PE X (.Call (.Name x p) (e :: es) [] pos) (tCB r t) := peN_callB hc hg hm hv ha.run hn hdb h1 h2
theorem qe_callTy (hc : CallR X (.type Ty) r) (hg : Gl X x) (hm : X.mg x = none) (hv : bootBuiltins x = some (.type Ty)) (ha : PAs X (e :: es) t) (hn : x ≠ "__name__") (hdb : (x == ("__debug__" : Str)) = false)
    (h1 : notStar e = true) (h2 : noStars es = true) : PE X (.Call (.Name x p) (e :: es) [] pos) (tCB r t) := peN_callTy hc hg hm hv ha.run hn hdb h1 h2
theorem qe_append (ho : PE X o to) (ha : PAs X (e :: es) t) (hbase : attributeBase o "append" X.env (eval o X.env) = eval o X.env) (h1 : notStar e = true) (h2 : noStars es = true)
    (hfew : ((backTo cpos (starEach (e :: es) X.env)).all (fun x => !x.1) && (backToKw cpos (keywordEach [] X.env)).all (fun x => x.1.isSome) && decide ((e :: es).length + ([] : List Keyword).length + (if ([] : List Keyword).isEmpty then 0 else 1) < 30)) = true)
    (hline : (apos.endLine == cpos.line) = true) : PE X (.Call (.Attribute o "append" apos) (e :: es) [] cpos) (tBM X.K "list" rAppend to t) :=
  pe_bm PySem.F.plainAttrs_list PySem.F.slot_list_append PySem.F.type_list_append mt_append ho ha.run hbase hfew hline (star_ne h1) (stars_any h2)
variable {tg a b : Expr} {ta : TA}
theorem qi_range1 (hg : Gl X "range") (hm : X.mg "range" = none) (ha : PAs X [a] ta) (h1 : notStar a = true) : PI X tg (.Call (.Name "range" p) [a] [] pos) (iRng1 ta) := pi_range1 hg hm ha.run (star_ne h1)
theorem qi_zip {es : List Expr} {k : Nat} {ps : Pos} (hg : Gl X "zip") (hm : X.mg "zip" = none) (ha : PAs X [a, b] ta) (h1 : notStar a = true) (h2 : notStar b = true) : PI X (.Tuple es k ps) (.Call (.Name "zip" p) [a, b] [] pos) (iZip X.K ta) :=
  pi_zip hg hm ha.run (by rw [star_ne h1, star_ne h2]; rfl) (by rw [star_ne h2]; rfl) (by decide +kernel)
end
end L2
namespace L2
open PySem PySem.Spec PyProof.Rows
structure PSw (X : Cx) (st : Stmt) (t : TS) : Prop where
  run : PS X st t
structure PSsw (X : Cx) (sts : List Stmt) (t : TS) : Prop where
  run : PSs X sts t
section
variable {X : Cx} {st : Stmt} {rest body a b : List Stmt} {t u tb : TS} {e tg c iter elt target : Expr} {es ifs : List Expr} {te : TE} {tc tt : TT} {g : TG} {ta : TA} {wi : TI} {pos pos' spos : Pos} {i : Nat} {x : Str}
theorem qss_nil : PSsw X [] tNext := ⟨pss_nil⟩
theorem qss_one (h : PSw X st t) : PSsw X [st] t := ⟨pss_one h.run⟩
theorem qss_cons (h1 : PSw X st t) (h2 : PSsw X rest u) : PSsw X (st :: rest) (tSeq t u) := ⟨pss_cons h1.run h2.run⟩
theorem qs_ret (he : PE X e te) : PSw X (.Return (some e) pos) (tRet te) := ⟨ps_ret he⟩
theorem qs_retN : PSw X (.Return none pos) tRetN := ⟨ps_retN⟩
theorem qs_pass : PSw X (.Pass pos) tNext := ⟨ps_pass⟩
theorem qs_if (hc : PT X c tc) (ha : PSsw X a t) (hb : PSsw X b u) : PSw X (.If c a b pos) (tIfS tc t u) := ⟨ps_if hc ha.run hb.run⟩
theorem qs_expr (he : PE X e te) (hs : swapsWith e none pos.line X.env = pure false) : PSw X (.Expr e pos) (tDrop te) := ⟨ps_expr he hs⟩
theorem qs_set (hN : X.N.Nodup) (hi : X.N[i]? = some x) (hx : Loc X.env.scope x) (he : PE X e te) (hs : swapsWith e (some (.Name x pos')) pos.line X.env = pure false) (hf : X.fn x = true ∨ X.env.scope.names.lookup x = some .local) :
    PSw X (.Assign [.Name x pos'] e pos) (tAsg te (gName i)) := ⟨ps_set hN hi hx he hs hf⟩
/-- name = [..] of many items -/
theorem qs_setLA (hN : X.N.Nodup) (hi : X.N[i]? = some x) (hx : Loc X.env.scope x) (h : PAs X es ta) (hf : X.fn x = true ∨ X.env.scope.names.lookup x = some .local) :
    PSw X (.Assign [.Name x pos'] (.List es spos) pos) (tAsg (tLstA ta) (gName i)) := ⟨ps_set hN hi hx (pe_lstA h.run) rfl hf⟩
theorem qs_asg (he : PE X e te) (hg : PG X tg g) (hs : swapsWithSole [tg] e pos.line X.env = pure false) (hw : swappedStores [tg] e X.env = pure none) (h1 : (assignEach [tg] X.env).map (·.2) = [assign tg X.env]) : PSw X (.Assign [tg] e pos) (tAsg te g) := ⟨ps_asg he hg hs hw h1⟩
theorem qs_for (hp : PassesOwn (model X.prog X.w) X.A X.env X.xe) (hc : X.calm = true) (hi : PI X tg iter wi) (hg : PG X tg g) (hb : PSsw X body tb) (hs : ∀ x, foldedSetIterable iter X.env x = pure x) : PSw X (.For tg iter body [] pos) (tFor wi g tb) := ⟨ps_for hp hc hi hg hb.run hs⟩
theorem qs_setComp {sc : Scope} {cl : List (Str × Addr)} {NC : List Str} {fr : List (Option Nat)} (hN : X.N.Nodup) (hi' : X.N[i]? = some x) (hx : Loc X.env.scope x) (B : Blk X sc cl NC fr) (hc : X.calm = true) (hi : PI X target iter wi) (hg : ∀ fp s H, PG (cxC X sc cl NC fp s H) target g) (ht : ∀ fp s H, PF (cxC X sc cl NC fp s H) ifs tt) (he : ∀ fp s H, PE (cxC X sc cl NC fp s H) elt te)
    (hsw : swapsWith (.ListComp elt [⟨target, iter, ifs, 0⟩] sc pos) (some (.Name x pos')) spos.line X.env = pure true) (hs : ∀ x, foldedSetIterable iter X.env x = pure x) (hf : X.fn x = true ∨ X.env.scope.names.lookup x = some .local) :
    PSw X (.Assign [.Name x pos'] (.ListComp elt [⟨target, iter, ifs, 0⟩] sc pos) spos) (tAsg (tComp X.K fr wi g tt te) (gName i)) := ⟨ps_setComp hN hi' hx B hc hi hg ht he hsw hs hf⟩
end
end L2
namespace L2
open PySem
theorem exW {X : Cx} {sts : List Stmt} {P : TS → Prop} (h : ∃ t, PSsw X sts t ∧ P t) : ∃ t, PSs X sts t ∧ P t := let ⟨t, h1, h2⟩ := h; ⟨t, h1.run, h2⟩
end L2

set_option maxRecDepth 100000
namespace HT
open PySem PyProof.Rows
theorem rcGt_int (A : Around) (s : Shared) (a : Int) (t : Tok) (c : Int) (u : Tok) (prog : Program) (w : World) (E : Value → Shared → Prop) (Q : Value → Shared → Prop) (h : Q (.bool (decide (c < a))) s) :
    wpAny (model prog w) A (richCompare .Gt (.int a t) (.int c u)) Q E s :=
  (PyProof.Rows.gt_int h : wpAny (model prog w) A (compareOp .Gt (.int a t) (.int c u)) Q E s)
section
open PySem.SeqAt
open PySem.AutoSeq1 (wpAny_loadPart')
open PySem.MeetsSeq PySem.MeetsSeq2 PySem.MeetsSeq3
theorem tuple_gt_ints (l b : Addr) (items items2 : Array Value) (n n2 : Nat) (dd dd2 : Option Addr) (sl sl2 : Array (Option Value)) (ns ms : List Int) (hi : IntsAre items.toList ns) (hj : IntsAre items2.toList ms) :
    Meets (Builtin.«tuple.__gt__» ⟨[.ref l, .ref b], []⟩)
      (fun _ R s => s.heap.get? l = some { cls := .type "tuple", dict := dd, data := .seq items n, slots := sl } ∧ s.heap.get? b = some { cls := .type "tuple", dict := dd2, data := .seq items2 n2, slots := sl2 } ∧
        R (.ok (.ret (.bool (lexLt ms ns)))) s) :=
  .of_wp fun prog w A R s h => by
    obtain ⟨hp, g, d, tk, os⟩ := s; obtain ⟨hl, hb, h⟩ := h
    have f2 := AutoSeq1.sub_tuple_tuple
    have z1 : items.size = ns.length := by rw [← hi.length]; simp
    have z2 : items2.size = ms.length := by rw [← hj.length]; simp
    wp_walk using wpAny_loadPart' hl, wpAny_loadPart' hb, wpAny_forIn_list _ (fun rest b s' => b.1 = none ∧ s' = ⟨hp, g, d, tk, os⟩ ∧ ∃ (vs ws : List Value) (ns' ms' : List Int), rest = vs.zip ws ∧
      IntsAre vs ns' ∧ IntsAre ws ms' ∧ ns'.length + items2.size = ms'.length + items.size ∧ R (.ok (.ret (.bool (lexLt ms' ns')))) ⟨hp, g, d, tk, os⟩) _
    case turn =>
      rintro ⟨y, x⟩ rest b s' ⟨hb', rfl, vs, ws, ns', ms', hz, hvi, hwi, hlen, hR⟩
      cases hvi with
      | nil => rw [List.zip_nil_left] at hz; cases hz
      | cons a t hvi' =>
        cases hwi with
        | nil => rw [List.zip_nil_right] at hz; cases hz
        | cons c u hwi' =>
          rw [List.zip_cons_cons] at hz
          injection hz with hyx hrest
          injection hyx with hy hx
          subst hy hx
          rw [lexLt_cons] at hR
          simp only [List.length_cons] at hlen
          obtain ⟨e, he, hiff⟩ := eqAt_int A.in1 ⟨hp, g, d, tk, os⟩ a t c u
          refine wpAny_bind (he prog w _ _ ?_)
          cases e with
          | true =>
            rw [if_pos (hiff.mp rfl).symm] at hR
            wp_walk
            exact ⟨rfl, rfl, _, _, _, _, hrest, hvi', hwi', by omega, hR⟩
          | false =>
            rw [if_neg (fun q => absurd (hiff.mpr q.symm) Bool.false_ne_true)] at hR
            have hri := rcGt_int A.in1 ⟨hp, g, d, tk, os⟩ a t c u prog w
            wp_walk using hri
            exact ⟨_, rfl, by simpa using hR⟩
    case fin =>
      rintro ⟨b1, b2⟩ s' ⟨hb', rfl, vs, ws, ns', ms', hz, hvi, hwi, hlen, hR⟩
      simp only at hb'
      subst hb'
      have hv : lexLt ms' ns' = decide (items2.size < items.size) := by
        cases hvi with
        | nil =>
          cases hwi with
          | nil =>
            simp only [List.length_nil] at hlen
            rw [lexLt_nil_nil]
            exact (decide_eq_false (by omega)).symm
          | cons c u hw =>
            simp only [List.length_nil, List.length_cons] at hlen
            rw [lexLt_cons_nil]
            exact (decide_eq_false (by omega)).symm
        | cons a t hv =>
          cases hwi with
          | nil =>
            simp only [List.length_nil, List.length_cons] at hlen
            rw [lexLt_nil_cons]
            exact (decide_eq_true (by omega)).symm
          | cons c u hw =>
            rw [List.zip_cons_cons] at hz
            cases hz
      rw [hv] at hR
      wp_walk
      exact ⟨_, rfl, by simpa [Builtin.Tuple.tupleCompareSizes] using hR⟩
    case h =>
      exact ⟨rfl, rfl, items.toList, items2.toList, ns, ms, rfl, hi, hj, by omega, h⟩
end
section
variable {prog : Program} {w : World} {A : Around} {E : Value → Shared → Prop} {s : Shared}
theorem gt_tupInts {l b : Addr} {items items2 : Array Value} {ns ms : List Int} {Q : Value → Shared → Prop} (hl : IsTup s.heap l items) (hb : IsTup s.heap b items2) (hi : IntsAre items.toList ns) (hj : IntsAre items2.toList ms)
    (hu : A.units < cLine) (h : Q (.bool (lexLt ms ns)) s) : wpAny (model prog w) A (compareOp .Gt (.ref l) (.ref b)) Q E s := by
  obtain ⟨⟨cls, dd, data, sl⟩, ho, hc, n, hd⟩ := id hl
  obtain ⟨⟨cls2, dd2, data2, sl2⟩, ho2, hc2, n2, hd2⟩ := id hb
  simp only at hc hd hc2 hd2
  subst hc hd hc2 hd2
  exact richCompare_meets_room (op := .Gt) ⟨_, ho, rfl⟩ ⟨_, ho2, rfl⟩ PySem.F.slot_tuple_gt PySem.F.entry_tuple_gt (PySem.F.args_tuple_gt_2 _ _) (tuple_gt_ints l b items items2 n n2 dd dd2 sl sl2 ns ms hi hj)
    ⟨ho, ho2, show Value.bool (lexLt ms ns) ≠ Value.notImplemented ∧ Q (.bool (lexLt ms ns)) s from ⟨(fun x => nomatch x), h⟩⟩ hu
end
end HT
namespace L2
open PySem PySem.Spec PyProof.Rows
def rGtT (K : PySem.W.Frag) : R2 := fun x y H Q => ∃ a b ns ms, x = .ref a ∧ y = .ref b ∧ SqT K H a (ns.map V.int) ∧ SqT K H b (ms.map V.int) ∧ Q (.bl (HT.lexLt ms ns)) H
def rIsnB : R2 := fun x y H Q => ∃ a b, x = .bl a ∧ y = .bl b ∧ Q (.bl (a != b)) H
def rIsB : R2 := fun x y H Q => ∃ a b, x = .bl a ∧ y = .bl b ∧ Q (.bl (a == b)) H
section
variable {X : Cx}
theorem op_gtT (hu : X.A.units < cLine) : OpR X (compareOp .Gt) (rGtT X.K) := by
  intro pins s σ H x y v u Q I rx ry h
  obtain ⟨a, b, ns, ms, rfl, rfl, ha, hb, q⟩ := h
  cases rx
  cases ry
  obtain ⟨its, r1, p1, _⟩ := I.tuple ha
  obtain ⟨its2, r2, p2, _⟩ := I.tuple hb
  have i1 : IntsAre its.toArray.toList ns := intsAre_of r1
  have i2 : IntsAre its2.toArray.toList ms := intsAre_of r2
  exact HT.gt_tupInts p1 p2 i1 i2 hu ⟨.bl (HT.lexLt ms ns), H, I, rfl, q⟩
theorem on_gtT {k : Nat} (hr : Room k X.A) : OpR X (compareOp .Gt) (rGtT X.K) := op_gtT (by have := hr.un; omega)
theorem on_isnB : OpR X (compareOp .IsNot) rIsnB := by
  intro pins s σ H x y v u Q I rx ry h
  obtain ⟨a, b, rfl, rfl, q⟩ := h
  cases rx
  cases ry
  exact isnot_bool (fin_bl I q rfl)
theorem on_isB : OpR X (compareOp .Is) rIsB := by
  intro pins s σ H x y v u Q I rx ry h
  obtain ⟨a, b, rfl, rfl, q⟩ := h
  cases rx
  cases ry
  exact is_bool (fin_bl I q rfl)
theorem qs_never {st : Stmt} : PSw X st tNever := ⟨ps_never⟩
end
section
variable {H : Hp} {Q : VK} {K : PySem.W.Frag} {p q : Addr} {ns ms : List Int}
theorem rd_gtT (h1 : SqT K H p (ns.map V.int)) (h2 : SqT K H q (ms.map V.int)) (h : Q (.bl (HT.lexLt ms ns)) H) : rGtT K (.ref p) (.ref q) H Q := ⟨p, q, ns, ms, rfl, rfl, h1, h2, h⟩
theorem rd_isnB {a b : Bool} (h : Q (.bl (a != b)) H) : rIsnB (.bl a) (.bl b) H Q := ⟨a, b, rfl, rfl, h⟩
theorem rd_isB {a b : Bool} (h : Q (.bl (a == b)) H) : rIsB (.bl a) (.bl b) H Q := ⟨a, b, rfl, rfl, h⟩
end
theorem for_zipW {K : PySem.W.Frag} {a b : Addr} {xs ys : List V} {g : TG} {tb : TS} {D : Ends} {σ : St} {H : Hp} (hxy : xs.length = ys.length) (Pv : Nat → St → Hp → Prop) (h0 : Pv 0 σ H) (hl : ∀ i σ H, i ≤ xs.length → Pv i σ H → SqT K H a xs ∧ SqT K H b ys)
    (hs : ∀ i x y p σ H, xs[i]? = some x → ys[i]? = some y → H p = none → Pv i σ H → g (.ref p) σ (upd H p (.tup [x, y])) fun σ2 H2 => tb { D with nx := Pv (i + 1), ct := Pv (i + 1), bk := D.nx } σ2 H2) (hd : ∀ σ H, Pv xs.length σ H → D.nx σ H) : ForW (Itz K a b) g tb D σ H := by
  refine ⟨fun i m σ H => m = xs.length - i ∧ i ≤ xs.length ∧ Pv i σ H, ⟨xs.length, by simp, Nat.zero_le _, h0⟩, ?_⟩
  rintro i m σ H ⟨rfl, hi, p⟩
  obtain ⟨q1, q2⟩ := hl i σ H hi p
  by_cases hlt : i < xs.length
  · refine .inr ⟨⟨xs, ys, xs[i], ys[i], q1, q2, by simp [hlt], by simp⟩, Pv (i + 1), fun σ' H' p' => ⟨xs.length - (i + 1), by omega, rfl, hlt, p'⟩, ?_⟩
    rintro x H' ⟨r, x1, y1, hn, hx, hy, rfl, rfl⟩
    exact hs i x1 y1 r σ _ (hx xs q1) (hy ys q2) hn p
  · have e : i = xs.length := by omega
    subst e
    exact .inl ⟨⟨xs, ys, q1, q2, .inl (Nat.le_refl _)⟩, hd σ H p⟩
/-- list(..): the new list's place is none that is kept -/
theorem Inv.nk {X : Cx} {pins : List (Addr × Obj)} {σ : St} {H : Hp} {s : Shared} (I : Inv X pins σ H s) : X.K.lookup s.heap.objs.size = none := by
  cases q : X.K.lookup s.heap.objs.size with
  | none => rfl
  | some o => exact absurd (Heap.lt_size (I.kIn _ o q)) (Nat.lt_irrefl _)
def rListF (K : PySem.W.Frag) : TR := fun xs H Q => ∃ p ys, xs = [.ref p] ∧ (SqL K H p ys ∨ SqT K H p ys) ∧ ∀ l, H l = none → K.lookup l = none → Q (.ref l) (upd H l (.lst ys))
theorem cn_listF {X : Cx} : CallR X (.type "list") (rListF X.K) := by
  intro pins s σ H xs us Q I r h
  obtain ⟨p, ys, rfl, hq, q⟩ := h
  obtain ⟨u, rfl, rx⟩ := vals1 r
  cases rx
  have fin : ∀ (its : List Value), Vals ys its → ys.length ≤ sizeLine → ∀ (h' : Heap) (c' : Nat), (∀ b o', s.heap.get? b = some o' → h'.get? b = some o') →
      h'.get? s.heap.objs.size = some { cls := .type "list", dict := none, data := .seq its.toArray c', slots := #[] } → EP X pins σ Q (.ref s.heap.objs.size) { s with heap := h' } := fun its r' hz h' c' kp e =>
    ⟨.ref s.heap.objs.size, _, I.laid (t' := s.toks) kp (Nat.le_refl _) (show ObjOk X.prog X.w _ h' _ (.lst ys) from ⟨hz, its, c', r', e⟩), rfl, q _ (I.hok.fresh (Nat.le_refl _)) I.nk⟩
  rcases hq with hq | hq
  · obtain ⟨its, r', pl, hz⟩ := I.list hq
    have hlen := r'.length
    obtain ⟨o, ho, hc, n, hd⟩ := pl.isList
    exact call_list_seq p (.inl rfl) ho hc hd (fun h' c' kp e => fin its r' hz h' c' kp e) (by simp only [List.size_toArray] <;> omega)
  · obtain ⟨its, r', pl, hz⟩ := I.tuple hq
    have hlen := r'.length
    obtain ⟨o, ho, hc, n, hd⟩ := pl
    exact call_list_seq p (.inr rfl) ho hc hd (fun h' c' kp e => fin its r' hz h' c' kp e) (by simp only [List.size_toArray] <;> omega)
theorem rd_listFL {K : PySem.W.Frag} {H : Hp} {Q : VK} {p : Addr} {xs : List V} (hq : SqL K H p xs) (h : ∀ l, H l = none → K.lookup l = none → Q (.ref l) (upd H l (.lst xs))) : rListF K [.ref p] H Q := ⟨p, xs, rfl, .inl hq, h⟩
theorem rd_listFT {K : PySem.W.Frag} {H : Hp} {Q : VK} {p : Addr} {xs : List V} (hq : SqT K H p xs) (h : ∀ l, H l = none → K.lookup l = none → Q (.ref l) (upd H l (.lst xs))) : rListF K [.ref p] H Q := ⟨p, xs, rfl, .inr hq, h⟩
end L2
namespace L2
theorem rd_iteG {c A B : Prop} {i : Decidable c} (h : @ite Prop c i A B) : @ite Prop c i A B := h
end L2

set_option maxRecDepth 100000
namespace Mt
open PySem L2
/-! lines of places, standings -/
def stepL (pl : Int) (a : Int) (p : Int × Int) : Int := if p.2 < pl then p.1 else a
def line0 (hs : List (Int × Int)) : Int := match hs with | [] => 0 | p :: _ => p.1
def lineOf (hs : List (Int × Int)) (pl : Int) : Int := hs.foldl (stepL pl) (line0 hs)
theorem lineOf_take {hs : List (Int × Int)} {pl c : Int} {i : Nat} {p : Int × Int} (h : hs[i]? = some p) : (hs.take (i + 1)).foldl (stepL pl) c = stepL pl ((hs.take i).foldl (stepL pl) c) p := by
  rw [List.take_add_one, h, List.foldl_append]; rfl
def stand (hs : List (Int × Int)) (e : Int) : Int × Int := if 0 < e then (lineOf hs e, e) else (-1, 0)
theorem lex_due (a b c d : Int) : HT.lexLt [a, b] [c, d] = (decide (a < c) || (decide (c = a) && decide (b < d))) := by
  rw [HT.lexLt_cons, HT.lexLt_cons, HT.lexLt_nil_nil]
  by_cases h : a = c
  · subst h
    by_cases h2 : b = d
    · subst h2; simp
    · simp [h2]
  · have h' : ¬ c = a := fun z => h z.symm
    simp [h, h']
theorem lex_irr (a b : Int) : HT.lexLt [a, b] [a, b] = false := by rw [lex_due]; simp
theorem lex_asym {a b c d : Int} (h : HT.lexLt [a, b] [c, d] = true) : HT.lexLt [c, d] [a, b] = false := by
  rw [lex_due] at h ⊢
  simp only [Bool.or_eq_true, Bool.and_eq_true, decide_eq_true_eq] at h
  simp only [Bool.or_eq_false_iff, Bool.and_eq_false_iff, decide_eq_false_iff_not]
  omega
/-! alike: the law's own comparison -/
mutual
def tupOnly : PyData → Bool
  | .none => true
  | .int _ => true
  | .str _ => true
  | .tuple es => tupOnlyAll es
  | _ => false
def tupOnlyAll : List PyData → Bool
  | [] => true
  | e :: es => tupOnly e && tupOnlyAll es
end
def isNoneD : PyData → Bool
  | .none => true
  | _ => false
def intEq (j : Int) : PyData → Bool
  | .int i => decide (i = j)
  | _ => false
def strEq (t : Str) : PyData → Bool
  | .str u => decide (u = t)
  | _ => false
def subs : PyData → Option (List PyData)
  | .tuple ds => some ds
  | _ => none
mutual
def alikeD : PyData → PyData → Bool
  | .none, d => isNoneD d
  | .int j, d => intEq j d
  | .str t, d => strEq t d
  | .tuple es, d => match subs d with
    | some ds => alikeAll es ds
    | none => false
  | _, _ => false
def alikeAll : List PyData → List PyData → Bool
  | [], ds => ds.isEmpty
  | e :: es, ds => match ds with
    | [] => false
    | d :: ds => alikeD e d && alikeAll es ds
end
theorem alikeAll_len : ∀ {es ds : List PyData}, alikeAll es ds = true → ds.length = es.length
  | [], [], _ => rfl
  | [], _ :: _, h => by simp [alikeAll] at h
  | _ :: _, [], h => by simp [alikeAll] at h
  | e :: es, d :: ds, h => by
    simp only [alikeAll, Bool.and_eq_true] at h
    rw [List.length_cons, List.length_cons, alikeAll_len h.2]
theorem alikeAll_true : ∀ {es ds : List PyData}, ds.length = es.length → (∀ (i : Nat) (d e : PyData), ds[i]? = some d → es[i]? = some e → alikeD e d = true) → alikeAll es ds = true
  | [], [], _, _ => by simp [alikeAll]
  | [], _ :: _, h, _ => by simp at h
  | _ :: _, [], h, _ => by simp at h
  | e :: es, d :: ds, h, g => by
    simp only [alikeAll, Bool.and_eq_true]
    exact ⟨g 0 d e rfl rfl, alikeAll_true (by simpa using h) fun i d' e' h1 h2 => g (i + 1) d' e' (by simpa using h1) (by simpa using h2)⟩
theorem alikeAll_false : ∀ {es ds : List PyData} {i : Nat} {d e : PyData}, ds[i]? = some d → es[i]? = some e → alikeD e d = false → alikeAll es ds = false
  | [], _, _, _, _, _, h, _ => by simp at h
  | _ :: _, [], _, _, _, h, _, _ => by simp at h
  | e :: es, d :: ds, 0, _, _, h1, h2, h3 => by
    simp at h1 h2; subst h1 h2
    simp [alikeAll, h3]
  | e :: es, d :: ds, i + 1, d', e', h1, h2, h3 => by
    simp only [alikeAll, alikeAll_false (i := i) (by simpa using h1) (by simpa using h2) h3, Bool.and_false]
theorem tupOnly_at : ∀ {es : List PyData} {e : PyData}, tupOnlyAll es = true → e ∈ es → tupOnly e = true
  | x :: es, e, h, m => by
    simp only [tupOnlyAll, Bool.and_eq_true] at h
    rcases List.mem_cons.mp m with rfl | m
    · exact h.1
    · exact tupOnly_at h.2 m
theorem depth_at : ∀ {es : List PyData} {e : PyData} {n : Nat}, PyData.depthAll es ≤ n → e ∈ es → e.depth ≤ n
  | x :: es, e, n, h, m => by
    simp only [PyData.depthAll] at h
    rcases List.mem_cons.mp m with rfl | m
    · exact Nat.le_trans (Nat.le_max_left _ _) h
    · exact depth_at (Nat.le_trans (Nat.le_max_right _ _) h) m
theorem alike_pair (a b c d : Int) : alikeD (.tuple [.int a, .int b]) (.tuple [.int c, .int d]) = (decide (c = a) && decide (d = b)) := by
  simp [alikeD, subs, alikeAll, intEq]
theorem okP_last : ∀ {l f : Int} {ini : List (Int × Int)} {a b : Int}, okP l f (ini ++ [(a, b)]) → ∀ p ∈ ini ++ [(a, b)], p.1 ≤ a
  | l, f, [], a, b, h, p, hp => by
    have : p = (a, b) := by simpa using hp
    rw [this]; exact Int.le_refl _
  | l, f, (x, y) :: r, a, b, h, p, hp => by
    have h5 : okP x y (r ++ [(a, b)]) := h.2.2.2.2
    have hlt : ∀ {l f : Int} {r : List (Int × Int)}, okP l f (r ++ [(a, b)]) → l < a := fun {l f r} => by
      intro q
      induction r generalizing l f with
      | nil => exact q.1
      | cons z r ih => exact Int.lt_trans q.1 (ih q.2.2.2.2)
    rcases List.mem_cons.mp hp with rfl | hp
    · exact Int.le_of_lt (hlt h5)
    · exact okP_last h5 p hp
theorem okP_take : ∀ {l f : Int} {hs : List (Int × Int)} (n : Nat), okP l f hs → okP l f (hs.take n)
  | _, _, [], n, _ => by simp [okP]
  | _, _, _ :: _, 0, _ => by simp [okP]
  | l, f, (a, b) :: r, n + 1, h => ⟨h.1, h.2.1, h.2.2.1, h.2.2.2.1, okP_take n h.2.2.2.2⟩
theorem snoc_of {α : Type} {xs : List α} (h : 1 ≤ xs.length) : ∃ ini x, xs = ini ++ [x] := ⟨xs.dropLast, xs.getLast (by intro z; rw [z] at h; simp at h), (List.dropLast_concat_getLast _).symm⟩
end Mt

set_option maxRecDepth 100000
/-! exceptions: what flies, and how it passes a frame -/
namespace L2
open PySem PySem.Spec PyProof.Rows

/-- the object of an exception: its class, its dict; its record of stations is empty, or a record that is free of flight -/
def Aloft (N : Addr → Prop) (h : Heap) (e : Addr) (C : Value) (dx : Option Addr) (fl : Value) : Prop :=
  ∃ oe vs, h.get? e = some oe ∧ oe.cls = C ∧ oe.dict = dx ∧ oe.data = .fields vs ∧ 1 < vs.size ∧
    (vs[1]? = some .none ∧ fl = .none ∨ ∃ T oT ts, vs[1]? = some (.ref T) ∧ N T ∧ T ≠ e ∧ h.get? T = some oT ∧ oT.data = .fields ts ∧ ts[3]? = some fl)
theorem dict_mapF (o : Obj) (f : Array Value → Array Value) : (o.mapFields f).dict = o.dict := by
  obtain ⟨c, d, dt, sl⟩ := o
  cases dt <;> rfl
/-- what is kept where a station is noted: all but e and records that N names; the frames up to their slots -/
def Stn (N : Addr → Prop) (fs : List Addr) (e : Addr) (h h' : Heap) : Prop :=
  ∀ b o, b ≠ e → ¬ N b → h.get? b = some o → (∃ sl, h'.get? b = some { o with slots := sl }) ∧ (b ∉ fs → h'.get? b = some o)
theorem Stn.refl {N : Addr → Prop} {fs : List Addr} {e : Addr} {h : Heap} : Stn N fs e h h := fun b o _ _ q => ⟨⟨o.slots, q⟩, fun _ => q⟩
theorem Stn.trans {N : Addr → Prop} {fs : List Addr} {e : Addr} {h h1 h2 : Heap} (a : Stn N fs e h h1) (b : Stn N fs e h1 h2) : Stn N fs e h h2 := fun c o n1 n2 q => by
  obtain ⟨⟨sl, q1⟩, k1⟩ := a c o n1 n2 q
  obtain ⟨⟨sl2, q2⟩, _⟩ := b c _ n1 n2 q1
  exact ⟨⟨sl2, q2⟩, fun hc => (b c o n1 n2 (k1 hc)).2 hc⟩

section
variable {M : Model} {A : Around} {E : Value → Shared → Prop} {s : Shared} {N : Addr → Prop} {base : Heap} {env : Env} {outer : List Env} {L e : Addr} {C : Value} {dx : Option Addr}

theorem stn_turn {T : Addr} {f : Obj → Obj} {h : Heap} (hN : N T) : Stn N fs e h (h.update T f) := fun b o n1 n2 q => by
  have : T ≠ b := fun z => n2 (z ▸ hN)
  exact ⟨⟨o.slots, (Heap.get?_update_other _ _ this).trans q⟩, fun _ => (Heap.get?_update_other _ _ this).trans q⟩

/-- one more station -/
theorem mark_on {head : Value} {hadNext : Bool} {oe : Obj} {vs : Array Value} {Q : Unit → Shared → Prop} (hA : A.frames = some (env :: outer)) (hF : s.heap.FunFrames base (env :: outer)) (hL : env.frame = some L)
    (new : ∀ b, s.heap.objs.size ≤ b → N b) (nf : ∀ b ∈ frs (env :: outer), b ≠ e ∧ ¬ N b) (q0 : s.heap.get? e = some oe) (q1 : oe.cls = C) (q2 : oe.dict = dx) (q3 : oe.data = .fields vs) (q4 : 1 < vs.size)
    (k : ∀ h', Aloft N h' e C dx (rawInt L) → Stn N (frs (env :: outer)) e s.heap h' → h'.FunFrames base (env :: outer) → Q () { s with heap := h' }) :
    wpAny M A (do setField (.ref e) 1 (← EntryCells.newEntry head (← frameOf env) .none (rawInt L) .none (← entryPlaceOf L hadNext))) Q E s := by
  refine wpAny_bind (wpAny_frameOf_fun hA hF hL fun g x => ?_)
  refine wpAny_bind (wpAny_entryPlaceOf fun pl p => ?_)
  have k1 : g.get? e = some oe := (x.2.1 e fun z => (nf e z).1 rfl).trans q0
  have z1 : g.objs.size = s.heap.objs.size := x.1
  unfold EntryCells.newEntry newFields
  refine wpAny_bind (wpAny_newObj_type ?_ (p.sizeOk5 _ _ _ _ _))
  generalize hob : ({ cls := .type "traceback", dict := none, data := .fields ([head, .ref L, .none, rawInt L, .none] ++ (if pl.isEmpty then List.replicate 6 Value.none else pl)).toArray } : Obj) = ob
  have k2 := Heap.get?_push_of_some (h := g) ob k1
  have eT : g.objs.size ≠ e := Nat.ne_of_gt (Heap.lt_size k1)
  have obf : ob.isFreed = false := by rw [← hob]; rfl
  have t2 : (g.push ob).get? g.objs.size = some ob := Heap.get?_push_size g obf
  refine wpAny_setField k2 q3 q4 (k _ ?_ ?_ ?_)
  · have d3 := Obj.data_mapFields q3 (·.setIfInBounds 1 (Value.ref g.objs.size))
    refine ⟨_, _, Heap.get?_update_self _ k2 (Obj.isFreed_of_fields d3), (Obj.cls_mapFields _ _).trans q1, (dict_mapF _ _).trans q2, d3, by simpa using q4, .inr ⟨g.objs.size, ob, _, by simp [q4], new _ (by omega), eT, (Heap.get?_update_other _ _ (Ne.symm eT)).trans t2, by rw [← hob], ?_⟩⟩
    first | (simp; done) | (rcases p with rfl | ⟨_, _, _, _, _, _, _, rfl⟩ <;> simp)
  · intro b o n1 n2 q
    have nT : g.objs.size ≠ b := by rw [z1]; exact Nat.ne_of_gt (Heap.lt_size q)
    obtain ⟨sl, r⟩ := x.2.2 b o q
    exact ⟨⟨sl, (Heap.get?_update_other _ _ (Ne.symm n1)).trans (Heap.get?_push_of_some _ r)⟩, fun nb => (Heap.get?_update_other _ _ (Ne.symm n1)).trans (Heap.get?_push_of_some _ ((x.2.1 b nb).trans q))⟩
  · have hg := hF.of_slotsOnly x
    refine hg.of_keeps fun b o q nd => ?_
    by_cases hb : b = e
    · subst hb
      rw [k1] at q; cases q
      exact absurd q3 (nd vs)
    · exact ⟨o, (Heap.get?_update_other _ _ (Ne.symm hb)).trans (Heap.get?_push_of_some _ q), rfl⟩
theorem frames_turn {T : Addr} {oT : Obj} {ts : Array Value} {f : Obj → Obj} {h : Heap} (q : h.get? T = some oT) (hd : oT.data = .fields ts) (hF : h.FunFrames base l) : (h.update T f).FunFrames base l :=
  hF.of_keeps fun b o r nd => by
    have : T ≠ b := fun z => by subst z; rw [q] at r; cases r; exact nd ts hd
    exact ⟨o, (Heap.get?_update_other _ _ this).trans r, rfl⟩

theorem land {l : List Env} {fl : Value} {Q : Unit → Shared → Prop} (hF : s.heap.FunFrames base l) (a : Aloft N s.heap e C dx fl)
    (k : ∀ h', Aloft N h' e C dx .none → Stn N fs e s.heap h' → h'.FunFrames base l → Q () { s with heap := h' }) : wpAny M A (setFlight (.ref e) none) Q E s := by
  obtain ⟨oe, vs, q0, q1, q2, q3, q4, r⟩ := a
  unfold setFlight
  rcases r with ⟨r, _⟩ | ⟨T, oT, ts, r1, r2, r3, r4, r5, r6⟩
  · refine wpAny_bind (wpAny_field q0 q3 r ?_)
    rw [if_neg (by decide)]
    exact wpAny_pure (k s.heap ⟨oe, vs, q0, q1, q2, q3, q4, .inl ⟨r, rfl⟩⟩ Stn.refl hF)
  · refine wpAny_bind (wpAny_field q0 q3 r1 ?_)
    rw [if_pos (by simp)]
    have h3 : 3 < ts.size := (Array.getElem?_eq_some_iff.mp r6).1
    refine wpAny_setField r4 r5 h3 (k _ ⟨oe, vs, (Heap.get?_update_other _ _ r3).trans q0, q1, q2, q3, q4, .inr ⟨T, _, _, r1, r2, r3, Heap.get?_update_self _ r4 (Obj.isFreed_of_fields (Obj.data_mapFields r5 _)), Obj.data_mapFields r5 _, by simp [h3]⟩⟩ (stn_turn r2) (frames_turn r4 r5 hF))

theorem note_on {Q : Unit → Shared → Prop} (hA : A.frames = some (env :: outer)) (hF : s.heap.FunFrames base (env :: outer)) (hL : env.frame = some L)
    (new : ∀ b, s.heap.objs.size ≤ b → N b) (nf : ∀ b ∈ frs (env :: outer), b ≠ e ∧ ¬ N b) (a : Aloft N s.heap e C dx .none)
    (k : ∀ h', Aloft N h' e C dx (rawInt L) → Stn N (frs (env :: outer)) e s.heap h' → h'.FunFrames base (env :: outer) → Q () { s with heap := h' }) : wpAny M A (noteFrame (.ref e) env) Q E s := by
  obtain ⟨oe, vs, q0, q1, q2, q3, q4, r⟩ := a
  unfold noteFrame
  simp only [hL]
  rcases r with ⟨r, _⟩ | ⟨T, oT, ts, r1, r2, r3, r4, r5, r6⟩
  · refine wpAny_bind (wpAny_field q0 q3 r ?_)
    rw [if_neg (by decide)]
    exact mark_on hA hF hL new nf q0 q1 q2 q3 q4 k
  · refine wpAny_bind (wpAny_field q0 q3 r1 ?_)
    rw [if_pos (by simp)]
    refine wpAny_bind (wpAny_field r4 r5 r6 ?_)
    rw [if_neg (by simp [rawInt])]
    have h3 : 3 < ts.size := (Array.getElem?_eq_some_iff.mp r6).1
    refine wpAny_bind (wpAny_setField r4 r5 h3 ?_)
    refine mark_on (s := { s with heap := s.heap.update T (Obj.mapFields (·.setIfInBounds 3 Value.none)) }) hA (frames_turn r4 r5 hF) hL (fun b z => new b ?_) nf ((Heap.get?_update_other _ _ r3).trans q0) q1 q2 q3 q4 fun h' a1 a2 a3 => k h' a1 ((stn_turn r2).trans a2) a3
    simpa using z

theorem leave_on {Q : Unit → Shared → Prop} (hA : A.frames = some (env :: outer)) (hF : s.heap.FunFrames base (env :: outer)) (hL : env.frame = some L)
    (new : ∀ b, s.heap.objs.size ≤ b → N b) (nf : ∀ b ∈ frs (env :: outer), b ≠ e ∧ ¬ N b) (a : Aloft N s.heap e C dx .none)
    (k : ∀ h', Aloft N h' e C dx .none → Stn N (frs (env :: outer)) e s.heap h' → Q () { s with heap := h' }) : wpAny M A (leaving env (.ref e)) Q E s := by
  unfold leaving
  refine wpAny_bind (note_on hA hF hL new nf a fun h1 a1 a2 a3 => ?_)
  exact land (s := { s with heap := h1 }) a3 a1 fun h2 b1 b2 _ => k h2 b1 (a2.trans b2)
end
end L2

set_option maxRecDepth 100000
namespace L2
open PySem PySem.Spec PyProof.Rows

/-- made since h₀ and not tracked -/
def Since (h₀ : Heap) (H : Hp) (b : Addr) : Prop := h₀.get? b = none ∧ H b = none
/-- how an exception lies behind a call -/
def CX1 (P : Program) (w : World) : CXT := fun outer H s E e s' =>
  ∃ (a : Addr) (C : Value) (dx : Option Addr) (H' : Hp), e = .ref a ∧ s'.os = s.os ∧ AllBare s'.gens ∧ Un (frs outer) [] H H' s.heap s'.heap ∧ HOk P w H' s'.heap ∧ Since s.heap H' a ∧ Aloft (Since s.heap H') s'.heap a C dx .none ∧ E C dx H'
theorem Aloft.mono {N N' : Addr → Prop} {h : Heap} {e : Addr} {C : Value} {dx : Option Addr} {fl : Value} (a : Aloft N h e C dx fl) (k : ∀ b, N b → N' b) : Aloft N' h e C dx fl := by
  obtain ⟨oe, vs, q0, q1, q2, q3, q4, r⟩ := a
  refine ⟨oe, vs, q0, q1, q2, q3, q4, ?_⟩
  rcases r with r | ⟨T, oT, ts, r1, r2, r⟩
  · exact .inl r
  · exact .inr ⟨T, oT, ts, r1, k _ r2, r⟩
theorem since_of {P : Program} {w : World} {H H' : Hp} {h h' : Heap} {fs : List Addr} (u : Un fs [] H H' h h') (hok : HOk P w H' h') : ∀ b, h'.objs.size ≤ b → Since h H' b := fun b z => by
  refine ⟨?_, hok.fresh z⟩
  cases q : h.get? b with
  | none => rfl
  | some o =>
    obtain ⟨o', q'⟩ := u.there b o q (by simp)
    exact absurd (Nat.lt_of_lt_of_le (Heap.lt_size q') z) (Nat.lt_irrefl _)
theorem hok_stn {P : Program} {w : World} {H : Hp} {h h' : Heap} {N : Addr → Prop} {fs : List Addr} {e : Addr} (hok : HOk P w H h) (st : Stn N fs e h h') (hN : ∀ b, N b → H b = none) (he : H e = none) (hf : ∀ b ∈ fs, H b = none) : HOk P w H h' := fun a o q =>
  (hok a o q).stay (fun b u hb r => by
    have nb : H b ≠ none := by
      rcases hb with rfl | hb
      · rw [q]; simp
      · rw [hb]; simp
    exact (st b u (fun z => nb (z ▸ he)) (fun z => nb (hN b z)) r).2 fun z => nb (hf b z)) (fun _ q => q) fun _ _ q => q

section
variable {P : Program} {w : World} {X : Cx} {pins : List (Addr × Obj)} {σ : St} {H H' : Hp} {s s' : Shared} {e : Addr} {C : Value} {dx : Option Addr}
/-- what of this frame is kept where a station is noted -/
theorem Inv.stn {h' : Heap} (I : Inv X pins σ H s) (st : Stn N (frs X.stack) e s.heap h') (hN : ∀ b, N b → H b = none ∧ s₁.heap.get? b = none) (he : H e = none ∧ s₁.heap.get? e = none)
    (I₁ : Inv X pins σ H₁ s₁) (un : Un (frs X.stack) [] H₁ H s₁.heap s.heap) : Inv X pins σ H { s with heap := h' } := by
  have k : ∀ b o, s₁.heap.get? b = some o → ∀ o', s.heap.get? b = some o' → (∃ sl, h'.get? b = some { o' with slots := sl }) ∧ (b ∉ frs X.stack → h'.get? b = some o') := fun b o q o' q' =>
    st b o' (fun z => by rw [z, he.2] at q; cases q) (fun z => by rw [(hN b z).2] at q; cases q) q'
  have hu : Un (frs X.stack) [] H₁ H s₁.heap h' := by
    refine ⟨fun b o q n hb hx => ?_, fun b o q n hb hx => ?_, un.free, fun b o q hx => ?_, un.tups, un.frzs, un.tbls⟩
    · exact (k b o q o (un.keep b o q n hb hx)).2 hb
    · obtain ⟨sl, r⟩ := un.slot b o q n hb hx
      exact (k b o q _ r).1
    · obtain ⟨o', r⟩ := un.there b o q hx
      obtain ⟨sl, r2⟩ := (k b o q o' r).1
      exact ⟨_, r2⟩
  have ok : HOk X.prog X.w H h' := hok_stn I.hok st (fun b z => (hN b z).1) he.1 I.stkFree
  obtain ⟨hh, g, d, t, os⟩ := s
  have e1 : os = s₁.os := I.os.trans I₁.os.symm
  subst e1
  have fin := Inv.call (s := s₁) (h' := h') (g' := g) (t' := t) (d' := d) (ch := []) I₁ hu ok I.bare (fun b z => absurd z (by simp))
  exact fin

theorem Inv.cx1 (I : Inv X pins σ H s) (h : Un (frs X.stack) [] H H' s.heap s'.heap) (ho : s'.os = s.os) (hb : AllBare s'.gens) (hk : HOk X.prog X.w H' s'.heap) : Inv X pins σ H' s' := by
  obtain ⟨hh, g, d, t, os'⟩ := s'
  obtain rfl : os' = s.os := ho
  exact I.call (h' := hh) (g' := g) (d' := d) (t' := t) (ch := []) h hk hb (fun b z => absurd z (by simp))
/-- the frames are none of the new things -/
theorem Inv.nfr (I : Inv X pins σ H s) (he : s.heap.get? e = none) : ∀ b ∈ frs X.stack, b ≠ e ∧ ¬ Since s.heap H' b := fun b hb => by
  obtain ⟨_, o, q, _⟩ := I.stack.mem hb
  exact ⟨fun z => (by rw [z, he] at q; cases q), fun z => (by rw [z.1] at q; cases q)⟩
end

/-- an exception that leaves a def's body -/
theorem pass1 {P : Program} {w : World} {K : PySem.W.Frag} {mg : Str → Option Value} {base : Heap} {N : List Str} {qual : Str} {scope : Scope} {f : Addr} {cd : Value} {A : Around} {outer : List Env} {s₀ : Shared} {H₀ : Hp} {E : XK} :
    Passes (CX1 P w) (cxOf (CX1 P w) P w K mg base N qual scope f cd A outer s₀ H₀ E) E := by
  intro pins σ H s e s' I h
  obtain ⟨a, C, dx, H', rfl, o1, b1, un, hok, na, al, q⟩ := h
  have J := I.cx1 un o1 b1 hok
  refine leave_on (N := Since s.heap H') (base := base) (outer := outer) (L := s₀.heap.objs.size) I.ok.frames J.stack rfl (since_of un hok) (I.nfr na.1) al fun h' al' st => ?_
  have J2 : Inv (cxOf (CX1 P w) P w K mg base N qual scope f cd A outer s₀ H₀ E) pins σ H' { s' with heap := h' } := J.stn (s₁ := s) (H₁ := H) st (fun b z => ⟨z.2, z.1⟩) ⟨na.2, na.1⟩ I un
  have old : ∀ b, s.heap.get? b = none → s₀.heap.get? b = none := fun b z => by
    cases r : s₀.heap.get? b with
    | none => rfl
    | some o =>
      obtain ⟨o', r'⟩ := I.base.there b o r (by show b ∉ ([] : List Addr); simp)
      rw [z] at r'; cases r'
  exact ⟨a, C, dx, H', rfl, J2.os, J2.bare, J2.base, J2.hok, ⟨old a na.1, na.2⟩, al'.mono fun b z => ⟨old b z.1, z.2⟩, q⟩
theorem pass10 {P : Program} {w : World} {X : Cx} : Passes (CX1 P w) X E0 := fun _ _ _ _ _ _ _ h => by
  obtain ⟨a, C, dx, H', _, _, _, _, _, _, _, q⟩ := h
  exact q.elim
end L2

set_option maxRecDepth 100000
namespace L2
open PySem PySem.Spec PyProof.Rows

/-- what an exception is wanted to be, by the locals where it comes up -/
def Px (X : Cx) (XR : St → XK) : Prop := ∀ (pins : List (Addr × Obj)) (σ : St) (H : Hp) (s : Shared) (e : Value) (s' : Shared), Inv X pins σ H s → CX1 X.prog X.w X.stack H s (XR σ) e s' → X.xe e s'
theorem px1 {P : Program} {w : World} {K : PySem.W.Frag} {mg : Str → Option Value} {base : Heap} {N : List Str} {qual : Str} {scope : Scope} {f : Addr} {cd : Value} {A : Around} {outer : List Env} {s₀ : Shared} {H₀ : Hp} {E : XK} :
    Px (cxOf (CX1 P w) P w K mg base N qual scope f cd A outer s₀ H₀ E) (fun _ => E) := fun pins σ H s e s' I h => pass1 pins σ H s e s' I h

def tCallX (sp : Sp) (dvs : List V) (XR : St → XK) (t : TA) : TE := fun σ H Q => t σ H fun vs H1 => sp (vs ++ dvs) H1 Q (XR σ)
section
variable {X : Cx} {e : Expr} {es : List Expr} {t : TA} {pos p : Pos} {k : Nat} {f : Addr} {fd : FuncData} {ps : List Str} {sp : Sp} {dvs : List V} {ds : List Value} {XR : St → XK} {x : Str}
theorem run_fnX {pins : List (Addr × Obj)} {σ : St} {H : Hp} {s : Shared} {Q : VK} {us : List Value} {vs : List V} (F : FnOk X.prog X.w X.K X.mg X.base (CX1 X.prog X.w) k f fd ps sp) (hr : Room k X.A) (hb : Binds X.K fd ps ds) (hd : Vals dvs ds) (hx : Px X XR)
    (I : Inv X pins σ H s) (r : Vals vs us) (h : sp (vs ++ dvs) H Q (XR σ)) : wpAny (model X.prog X.w) X.A (call (.ref f) us) (EP X pins σ Q) X.xe s := by
  have r2 : Vals (vs ++ dvs) (us ++ ds) := r.append hd
  have hl : (us ++ ds).length = ps.length := by rw [← r2.length]; exact F.len _ _ _ _ h
  refine wpAny_call (codeAny_mono (F.run X.A X.stack s H ⟨us, []⟩ (us ++ ds) (vs ++ dvs) Q (XR σ) hr I.env0 (hb s us I.kIn hl) r2 h) fun r s' hq => ?_)
  cases r with
  | error e => exact hx pins σ H s e s' I hq
  | ok fl =>
    cases fl with
    | ret u => exact I.after hq
    | next => exact False.elim hq
    | brk => exact False.elim hq
    | cont => exact False.elim hq
theorem qe_callX (F : FnOk X.prog X.w X.K X.mg X.base (CX1 X.prog X.w) k f fd ps sp) (hr : Room k X.A) (hg : Gl X x) (hm : X.mg x = some (.ref f)) (hk : PySem.W.keepIn X.K (.ref f) = true) (hb : Binds X.K fd ps ds) (hd : Vals dvs ds) (hx : Px X XR)
    (ha : PAs X (e :: es) t) (hdb : (x == ("__debug__" : Str)) = false) (h1 : notStar e = true) (h2 : noStars es = true) : PE X (.Call (.Name x p) (e :: es) [] pos) (tCallX sp dvs XR t) := by
  intro pins s σ H Q I h
  refine wpAny_Call_Name_kw (ld_glob I hg hm ?_ hdb)
  refine PySem.W.callWith_K (h₀ := X.base) I.ok.mod.kin hk (thn (ha.run pos pins s σ H _ I h) fun us s1 ⟨vs, H1, I1, r, q⟩ => ⟨I1.kIn, ?_⟩) (star_ne h1) (stars_any h2)
  exact run_fnX F hr hb hd hx I1 r q
end

/-- a def whose exceptions are told -/
theorem Fun.okX {P : Program} {w : World} {K : PySem.W.Frag} {mg : Str → Option Value} {base : Heap} {x qual : Str} {st : Stmt} {f : Addr} {fd : FuncData} {N ps : List Str} {k : Nat} {sp : Sp} (F : Fun K x qual st f fd) (S : FnScope N ps (defScope st)) (len : ∀ vs H Q E, sp vs H Q E → vs.length = ps.length)
    (hbody : ∀ (cdv : Value) (A : Around) (outer : List Env) (s : Shared) (H : Hp) (vs : List V) (Q : VK) (E : XK), Room k (A.deeper (envOfC qual (defScope st) s.heap.objs.size f cdv)) → sp vs H Q E →
      ∃ t, PSs (cxOf (CX1 P w) P w K mg base N qual (defScope st) f cdv A outer s H E) (defBody st) t ∧ t { nx := fun _ H' => Q .non H', rt := Q } (start N vs) H) : FnOk P w K mg base (CX1 P w) (k + 1) f fd ps sp := by
  obtain ⟨oc, od, kV, doc, pm, an, cdv, ct, osl, rfl, lk, hcd⟩ := F.ex
  exact fn_of lk hcd S len fun A outer s H vs Q E hr hsp => hbody cdv A outer s H vs Q E hr hsp

/-! ### try -/
/-- within a try's body -/
def Cx.tr (X : Cx) (xe' : Value → Shared → Prop) (pn' : List (Addr × Obj)) : Cx := { X with xe := xe', pn := X.pn ++ pn' }
/-- within an except suite -/
def Cx.su (X : Cx) (e : Addr) : Cx := { X with A := X.A.mark (some (.ref e)), calm := false, xe := fun _ _ => False }
section
variable {X : Cx} {pins pins' pn' : List (Addr × Obj)} {σ : St} {H : Hp} {s : Shared} {xe' : Value → Shared → Prop} {e : Addr}
theorem Cx.Ok.tr (ok : X.Ok) : (X.tr xe' pn').Ok := ⟨ok.mod, ok.kind, ok.glob, ok.blt, ok.above, ok.inj, ok.has, ok.cab, ok.hd, ok.frames, ok.stk, ok.exf, ok.bs, ok.bsz, ok.noex, ok.exfs, ok.funs, ok.frf⟩
theorem Cx.Ok.su (ok : X.Ok) : (X.su e).Ok := ⟨ok.mod, ok.kind, ok.glob, ok.blt, ok.above, ok.inj, ok.has, ok.cab, fun z => (by cases z), ok.frames, ok.stk, ok.exf, ok.bs, ok.bsz, ok.noex, ok.exfs, ok.funs, ok.frf⟩
theorem Inv.tr (I : Inv X pins σ H s) : Inv (X.tr xe' pins) [] σ H s := ⟨I.ok.tr, I.os, I.bare, I.base, I.loc, I.cell, I.free, I.freeC, fun p hp => I.pin p (by simpa [Cx.tr] using hp), I.hok, I.len⟩
theorem Inv.untr (ok : X.Ok) (I : Inv (X.tr xe' pins) pins' σ H s) : Inv X pins σ H s := ⟨ok, I.os, I.bare, I.base, I.loc, I.cell, I.free, I.freeC, fun p hp => I.pin p (List.mem_append_left _ hp), I.hok, I.len⟩
theorem Inv.su (I : Inv X pins σ H s) : Inv (X.su e) pins σ H s := ⟨I.ok.su, I.os, I.bare, I.base, I.loc, I.cell, I.free, I.freeC, I.pin, I.hok, I.len⟩
theorem Inv.unsu (ok : X.Ok) (I : Inv (X.su e) pins σ H s) : Inv X pins σ H s := ⟨ok, I.os, I.bare, I.base, I.loc, I.cell, I.free, I.freeC, I.pin, I.hok, I.len⟩
/-- a name is gone -/
theorem Inv.gone {h' : Heap} {m : Str → Option Value} {v : Option Value} {i : Nat} {x : Str} {t' : Nat} (I : Inv X pins σ H s) (hN : X.N.Nodup) (hi : X.N[i]? = some x) (hn : s.heap.Ns X.env.locals m) (hm : ∀ (i : Nat) (y : Str) (v : V), X.N[i]? = some y → σ[i]? = some (some v) → Vis X.env.scope y → ∃ u, RelV v u ∧ Look X.env s.heap m y u)
    (hn' : h'.Ns X.env.locals (fun y => if y = x then v else m y)) (sb : Heap.SameBut X.env.locals s.heap h') : Inv X pins (σ.set i none) H { s with heap := h', toks := t' } := by
  have hL : ∃ o, s.heap.get? X.env.locals = some o ∧ H X.env.locals = none := by
    obtain ⟨o, _, _, ho, _⟩ := id hn
    exact ⟨o, ho, I.free⟩
  have old : ∀ b o, X.s₀.heap.get? b = some o → b ≠ X.env.locals := fun b o z => Nat.ne_of_lt (Nat.lt_of_lt_of_le (Heap.lt_size z) I.ok.above)
  refine ⟨I.ok, I.os, I.bare, ⟨fun b o z n hb hx => (sb.2 b (old b o z)).trans (I.base.keep b o z n hb hx), fun b o z n hb hx => ?_, I.base.free, fun b o z hx => ?_, I.base.tups, I.base.frzs, I.base.tbls⟩, ⟨_, hn', fun j y v' e1 e2 e3 => ?_⟩, fun y c z => ?_, I.free, I.freeC, fun p hp => ?_, fun b ob z => ?_, by simpa using I.len⟩
  · obtain ⟨sl, q⟩ := I.base.slot b o z n hb hx
    exact ⟨sl, (sb.2 b (old b o z)).trans q⟩
  · obtain ⟨o', q⟩ := I.base.there b o z hx
    exact ⟨o', (sb.2 b (old b o z)).trans q⟩
  · by_cases hj : j = i
    · subst hj
      have hlt : j < σ.length := by rw [I.len]; exact (List.getElem?_eq_some_iff.mp hi).1
      rw [List.getElem?_set_self hlt] at e2
      cases e2
    · rw [List.getElem?_set_ne (Ne.symm hj)] at e2
      obtain ⟨u, r, l⟩ := hm j y v' e1 e2 e3
      refine ⟨u, r, ?_⟩
      rcases l with ⟨k, q⟩ | ⟨k, c, q, z⟩
      · have : y ≠ x := fun z => hj (nodup_ix hN e1 (z ▸ hi))
        exact .inl ⟨k, by simp [this, q]⟩
      · exact .inr ⟨k, c, q, z.sameBut sb (I.cne y c q)⟩
  · obtain ⟨w', q⟩ := I.cell y c z
    exact ⟨w', q.sameBut sb (I.cne y c z)⟩
  · obtain ⟨q, n, ne, nf, d⟩ := I.pin p hp
    exact ⟨(sb.2 p.1 ne).trans q, n, ne, nf, d⟩
  · refine (I.hok b ob z).stay (fun c w' hc q => (sb.2 c ?_).trans q) (fun _ q => q) fun _ _ q => q
    rintro rfl
    rcases hc with rfl | hc
    · rw [I.free] at z; cases z
    · rw [I.free] at hc; cases hc
end
end L2

set_option maxRecDepth 100000
namespace L2
open PySem PySem.Spec PyProof.Rows
/-- an exception that was caught -/
def ExcIs (a : Addr) (C : Value) (dx : Option Addr) (h : Heap) : Prop := ∃ oe vs, h.get? a = some oe ∧ oe.cls = C ∧ oe.dict = dx ∧ oe.data = .fields vs
theorem ExcIs.ok {P : Program} {w : World} {H : Hp} {h : Heap} {a : Addr} {C : Value} {dx : Option Addr} (x : ExcIs a C dx h) : ObjOk P w H h a (.ext (ExcIs a C dx)) := by
  obtain ⟨oe, vs, q, r⟩ := id x
  refine ⟨x, ⟨oe, q⟩, fun h1 h2 ⟨oe', vs', q', r'⟩ k => ⟨oe', vs', k _ q', r'⟩⟩
/-- what is wanted behind the suite: the name is gone -/
def Ends.un (D : Ends) (i : Nat) : Ends := { nx := fun σ2 H2 => D.nx (σ2.set i none) H2, rt := D.rt, bk := fun σ2 H2 => D.bk (σ2.set i none) H2, ct := fun σ2 H2 => D.ct (σ2.set i none) H2 }
def tTry (K : PySem.W.Frag) (B : Addr) (i : Nat) (tb : (St → XK) → TS) (ts : TS) : TS := fun D σ H =>
  tb (fun σ' C dx H' => PySem.W.exmOne K C (.ref B) = some true ∧ ∀ a, H' a = none → ts (D.un i) (σ'.set i (some (.ref a))) (upd H' a (.ext (ExcIs a C dx)))) D σ H

theorem looks_cls {M : Model} {h : Heap} {e : Addr} {oe : Obj} (q : h.get? e = some oe) : PySem.W.Looks M h (typeOf (.ref e)) oe.cls := by
  intro A Q E s k z
  unfold typeOf
  exact wpAny_bind (wpAny_loadPart (k _ _ q) (wpAny_pure z))
theorem aloft_is {N : Addr → Prop} {h : Heap} {e : Addr} {C : Value} {dx : Option Addr} {fl : Value} (a : Aloft N h e C dx fl) : ExcIs e C dx h := by
  obtain ⟨oe, vs, q0, q1, q2, q3, _⟩ := a
  exact ⟨oe, vs, q0, q1, q2, q3⟩
/-- an object that nobody knew is tracked -/
theorem Inv.trackE {X : Cx} {pins : List (Addr × Obj)} {σ : St} {H : Hp} {s : Shared} {a : Addr} {o : HO} (I : Inv X pins σ H s) (hn : H a = none) (n0 : X.s₀.heap.get? a = none) (n1 : a ≠ X.env.locals) (n2 : ∀ x c, X.env.cells.lookup x = some c → c ≠ a) (n3 : ∀ p ∈ X.pn ++ pins, p.1 ≠ a)
    (new : ObjOk X.prog X.w (upd H a o) s.heap a o) : Inv X pins σ (upd H a o) s := by
  have ne : ∀ b u, H b = some u → b ≠ a := fun b u q z => by rw [z, hn] at q; cases q
  refine ⟨I.ok, I.os, I.bare, ⟨I.base.keep, I.base.slot, fun b u q n hx => ?_, I.base.there, fun b xs q => ?_, fun b u xs q => ?_, fun b ps q => ?_⟩, I.loc, I.cell, ?_, fun y c q => ?_, fun p hp => ?_, fun b u q => ?_, I.len⟩
  · rw [upd_ne (fun z => by rw [z, n0] at q; cases q)]; exact I.base.free b u q n hx
  · rw [upd_ne (ne _ _ (I.base.tups b xs q))]; exact I.base.tups b xs q
  · rw [upd_ne (ne _ _ (I.base.frzs b u xs q))]; exact I.base.frzs b u xs q
  · obtain ⟨m, r⟩ := I.base.tbls b ps q
    exact ⟨m, by rw [upd_ne (ne _ _ r)]; exact r⟩
  · rw [upd_ne (Ne.symm n1)]; exact I.free
  · rw [upd_ne (n2 y c q)]; exact I.freeC y c q
  · obtain ⟨q, n, r⟩ := I.pin p hp
    exact ⟨q, by rw [upd_ne (n3 p hp)]; exact n, r⟩
  · by_cases hb : b = a
    · subst hb; rw [upd_same] at q; cases q; exact new
    · rw [upd_ne hb] at q
      exact (I.hok b u q).stay (fun c v _ r => r) (fun c r => by rw [upd_ne (ne _ _ r)]; exact r) fun c xs r => by rw [upd_ne (ne _ _ r)]; exact r
section
variable {X : Cx} {b₀ : Stmt} {body suite : List Stmt} {c x : Str} {p hp pos : Pos} {B : Addr} {i : Nat} {tb : (St → XK) → TS} {ts : TS}
theorem ps_try (hN : X.N.Nodup) (hi : X.N[i]? = some x) (hx : X.env.scope.names.lookup x = some .local) (hg : Gl X c) (hm : X.mg c = some (.ref B)) (hst : X.stack = X.env :: X.outer) (hfr : X.env.frame = some X.env.locals) (hex : X.ex = [])
    (hb : ∀ (xe' : Value → Shared → Prop) (pn' : List (Addr × Obj)) (XR : St → XK), Px (X.tr xe' pn') XR → PSs (X.tr xe' pn') body (tb XR)) (hs : ∀ e : Addr, PSs (X.su e) (b₀ :: suite) ts) (hdb : (c == ("__debug__" : Str)) = false) :
    PS X (.Try body [.ExceptHandler (some (.Name c p)) (some x) (b₀ :: suite) hp] [] [] pos) (tTry X.K B i tb ts) := by
  intro pins s σ H D I h
  refine wpAny_Try_except ?_
  refine wpAny_mono (hb _ pins _ ?_ [] s σ H D I.tr h) (fun f s1 q => ?_) (fun e s1 q => q)
  · intro pins' σ1 H1 s1 ev s2 I1 hq
    obtain ⟨a, C, dx, H2, rfl, o1, b1, un, hok, na, al, hm1, hk⟩ := hq
    have J := I1.cx1 un o1 b1 hok
    have un' : Un (frs X.stack) [] H1 H2 s1.heap s2.heap := un
    show wpAny (model X.prog X.w) X.A (noteFrame (.ref a) X.env) (fun _ s₂ => wpAny (model X.prog X.w) X.A (setFlight (.ref a) none) (fun _ s₃ => wpAny (model X.prog X.w) X.A (handleBy (.ref a) X.env [.ExceptHandler (some (.Name c p)) (some x) (b₀ :: suite) hp]) (SP X pins D) X.xe s₃) X.xe s₂) X.xe s2
    have Jst : s2.heap.FunFrames X.base (X.env :: X.outer) := by rw [← hst]; exact J.stack
    have nf : ∀ b ∈ frs (X.env :: X.outer), b ≠ a ∧ ¬ Since s1.heap H2 b := by rw [← hst]; exact I1.nfr na.1
    refine note_on (N := Since s1.heap H2) (base := X.base) (outer := X.outer) (L := X.env.locals) (by rw [← hst]; exact I.ok.frames) Jst hfr (since_of un hok) nf al fun h3 al3 st3 ff3 => ?_
    refine land (s := { s2 with heap := h3 }) (fs := frs (X.env :: X.outer)) ff3 al3 fun h4 al4 st4 ff4 => ?_
    have st34 := st3.trans st4
    -- the state ahead of the handler
    have mk : ∀ {h5 : Heap} {t5 : Nat}, Stn (Since s1.heap H2) (frs (X.env :: X.outer)) a s2.heap h5 → Inv (X.tr (X.tr X.xe []).xe pins) pins' σ1 H2 { s2 with heap := h5, toks := t5 } := fun {h5 t5} st => by
      have st' : Stn (Since s1.heap H2) (frs X.stack) a s2.heap h5 := by rw [hst]; exact st
      have z := J.stn (s₁ := s1) (H₁ := H1) (N := Since s1.heap H2) st' (fun b z => ⟨z.2, z.1⟩) ⟨na.2, na.1⟩ I1 un
      have z2 := z.tok t5
      exact ⟨I.ok.tr, z2.os, z2.bare, z2.base, z2.loc, z2.cell, z2.free, z2.freeC, z2.pin, z2.hok, z2.len⟩
    have I4 : Inv X pins σ1 H2 { s2 with heap := h4 } := (mk (t5 := s2.toks) st34).untr I.ok
    refine wpAny_handleBy_cons (codeAny_handlers_test ?_) (by intro q; cases q)
    refine ld_glob (I4.su (e := a)) hg hm ?_ hdb
    obtain ⟨oe, vs, q0, q1, q2, q3, _⟩ := id al4
    refine (PySem.W.exm_one (K := X.K) I4.kIn (by rw [← q1]; exact looks_cls q0) hm1).here ?_
    show codeAny _ _ _ _ _
    refine codeAny_handlers_suite_as ?_
    refine land (s := { s2 with heap := h4 }) (fs := frs (X.env :: X.outer)) ff4 al4 fun h5 al5 st5 ff5 => ?_
    have I5 : Inv X pins σ1 H2 { s2 with heap := h5 } := (mk (t5 := s2.toks) (st34.trans st5)).untr I.ok
    have n1 : a ≠ X.env.locals := fun z => by
      obtain ⟨m, ⟨o, _, _, ho, _⟩, _⟩ := I1.loc
      have ho' : s1.heap.get? X.env.locals = some o := ho
      rw [← z, na.1] at ho'; cases ho'
    have I6 : Inv X pins σ1 (upd H2 a (.ext (ExcIs a C dx))) { s2 with heap := h5 } := by
      refine I5.trackE na.2 ?_ n1 (fun y e hc z => ?_) (fun q hq z => ?_) (aloft_is al5).ok
      · cases r : X.s₀.heap.get? a with
        | none => rfl
        | some o =>
          obtain ⟨o', r'⟩ := I1.base.there a o r (by show a ∉ X.ex; rw [hex]; simp)
          rw [na.1] at r'; cases r'
      · obtain ⟨v, o, ho, _⟩ := I1.cell y e hc
        rw [z, na.1] at ho; cases ho
      · have r := (I1.pin q (List.mem_append_left _ hq)).1
        rw [z, na.1] at r; cases r
    refine store_ok (X := X.su a) (s := { s2 with heap := h5 }) (I6.su (e := a)) hN hi (.inl hx) (v := .ref a) rfl (fun s7 I7 => ?_) (.inr hx)
    refine wpAny_mono (hs a pins s7 _ _ (D.un i) I7 (hk a na.2)) (fun f s8 q8 => ?_) (fun _ _ z => z.elim)
    have fin : ∀ {σ8 : St} {H8 : Hp} {Q : Unit → Shared → Prop}, Inv (X.su a) pins σ8 H8 s8 → (∀ s9, Inv X pins (σ8.set i none) H8 s9 → Q () s9) → wpAny (model X.prog X.w) X.A (do bindName X.env x .none; unbindBehindTheSuite X.env x hp) Q X.xe s8 := fun {σ8 H8 Q} I8 k => by
      obtain ⟨m, hn, hl⟩ := id I8.loc
      refine wpAny_nameGoes_keeps hx hn (by rw [I.ok.kind]; rfl) fun h' v hn' sb => k _ ?_
      exact (I8.unsu I.ok).gone hN hi hn hl hn' sb
    cases f with
    | next => obtain ⟨σ8, H8, I8, q⟩ := q8; exact fin I8 fun s9 I9 => ⟨_, _, I9, q⟩
    | brk => obtain ⟨σ8, H8, I8, q⟩ := q8; exact fin I8 fun s9 I9 => ⟨_, _, I9, q⟩
    | cont => obtain ⟨σ8, H8, I8, q⟩ := q8; exact fin I8 fun s9 I9 => ⟨_, _, I9, q⟩
    | ret u => obtain ⟨v, σ8, H8, I8, r, q⟩ := q8; exact fin I8 fun s9 I9 => ⟨v, _, _, I9, r, q⟩
  · cases f with
    | next =>
      obtain ⟨σ', H', I', q⟩ := q
      exact wpAny_execs_nil ⟨σ', H', I'.untr I.ok, q⟩
    | brk => obtain ⟨σ', H', I', q⟩ := q; exact ⟨σ', H', I'.untr I.ok, q⟩
    | cont => obtain ⟨σ', H', I', q⟩ := q; exact ⟨σ', H', I'.untr I.ok, q⟩
    | ret u => obtain ⟨v, σ', H', I', r, q⟩ := q; exact ⟨v, σ', H', I'.untr I.ok, r, q⟩
end
end L2

set_option maxRecDepth 100000
namespace L2
open PySem PySem.Spec PyProof.Rows
abbrev bmV : List Value := [.type "ValueError", .type "Exception", .type "BaseException", .type "object"]
/-- an own class beneath ValueError, by way of others without __init__ -/
def xcIn (K : PySem.W.Frag) (C : Addr) (init : Option Value) : Bool := match K.lookup C with
  | some ⟨.type "type", _, .cls cd, sl⟩ => (match cd.mro, sl.toList with
    | .ref C' :: bm, [_, _, _, _, some (.builtin n), _] => C' == C && (n == "ValueError.__new__" && (!cd.hasDel && (cd.hasDict && (PySem.W.tailIn K bmV bm && (PySem.W.nsOkIn K cd.ns && PySem.W.nsIn K cd.ns "__init__" == some init)))))
    | _, _ => false)
  | _ => false
/-- .. what is known of it in a heap -/
structure XAt (h : Heap) (C : Addr) (init : Option Value) : Prop where
  out : ∃ nm q N bs bm sn sub ab col dd k0 k1 k2 k3 k5 mN, h.get? C = some (excClassObj nm q C N bs bm true sn sub ab col dd k0 k1 k2 k3 k5 "ValueError.__new__") ∧ h.Ns N mN ∧ mN "__init__" = init ∧ OwnTail h bmV bm
theorem ns_of_in {K : PySem.W.Frag} {h : Heap} {N : Addr} {mg : Str → Option Value} {n : Str} {r : Option Value} (X : K.In h) (G : h.Ns N mg) (e : PySem.W.nsIn K N n = some r) : mg n = r := by
  obtain ⟨o, es, ep, ho, hd, _, hf⟩ := G
  unfold PySem.W.nsIn at e
  split at e
  · rename_i c d es' n' sl q
    have z := X _ _ q
    rw [ho] at z
    cases z
    cases hd
    rw [← hf]
    unfold nsFind findBy
    rw [← Array.find?_toList]
    split at e
    · rename_i he
      rw [he]
      cases e
      rfl
    · rename_i he
      rw [he]
      split at e
      · cases e
      · cases e
        rfl
  · cases e
theorem xc_at {K : PySem.W.Frag} {h : Heap} {C : Addr} {init : Option Value} (X : K.In h) (q : xcIn K C init = true) : XAt h C init := by
  unfold xcIn at q
  split at q
  · rename_i dd cd sl ho
    split at q
    · rename_i C' bm k0 k1 k2 k3 n k5 hm hs
      simp only [Bool.and_eq_true, beq_iff_eq, Bool.not_eq_true'] at q
      obtain ⟨rfl, rfl, d, hd', t, o, i⟩ := q
      obtain ⟨nm, bs, mro, ns, qn, hd, sn, sub, ab, col, del⟩ := cd
      dsimp only at hm d o i hd'
      subst hm d hd'
      obtain ⟨l⟩ := sl
      simp only at hs
      subst hs
      have G : h.Ns ns (h.nsMap ns) := .of_isNs (PySem.W.isNs_of_in X o)
      exact ⟨_, _, _, _, _, _, _, _, _, _, _, _, _, _, _, _, X _ _ ho, G, ns_of_in X G i, PySem.W.tail_of_in X t⟩
    · cases q
  · cases q
section
variable {M : Model} {A : Around} {E : Value → Shared → Prop} {s : Shared} {env : Env} {C : Addr} {init : Option Value}
/-- the raise of a made one -/
theorem raise_made {x : Sem Value} {Q : Flow → Shared → Prop} (hh : A.handled = none)
    (h : wpAny M A x (fun v s₁ => ∃ e oe vs, v = .ref e ∧ XAt s₁.heap C init ∧ s₁.heap.get? e = some oe ∧ oe.cls = .ref C ∧ oe.data = .fields vs ∧ vs[1]? = some .none ∧ E (.ref e) s₁) E s) :
    wpAny M A (raiseStmt env (some x) none) Q E s := by
  unfold raiseStmt
  refine wpAny_bind (wpAny_mono h (fun v s₁ h₁ => ?_) fun _ _ x => x)
  obtain ⟨e, oe, vs, rfl, ⟨nm, q, N, bs, bm, sn, sub, ab, col, dd, k0, k1, k2, k3, k5, mN, hC, _, _, T⟩, he, hc, hd, h1, hE⟩ := h₁
  have hbm : (Value.ref C :: bm).contains (.type "BaseException") = true := by rw [List.contains_cons, T.hasType (X := "BaseException") (b := true) (by decide +kernel), Bool.or_true]
  obtain ⟨hp, g, d, tk, os⟩ := s₁
  obtain ⟨oc, od, odt, osl⟩ := oe
  dsimp only at hc hd
  subst hc hd
  have hfld : ∀ {Q' : Value → Shared → Prop} {A' : Around}, Q' .none ⟨hp, g, d, tk, os⟩ → wpAny M A' (field (.ref e) 1) Q' E ⟨hp, g, d, tk, os⟩ := fun z => wpAny_field (s := ⟨hp, g, d, tk, os⟩) he rfl h1 z
  repeat (first | with_reducible refine wpAny_loadPart_at he ?_ | with_reducible refine wpAny_loadPart_at hC ?_ | (with_reducible refine wpAny_isSubtype_exc hC ?_; rw [hbm]) | with_reducible refine hfld ?_ | wp_step)
  exact wpAny_raiseNew_none hh hE
end

theorem XAt.keeps {h h' : Heap} {C : Addr} {init : Option Value} (x : XAt h C init) (k : ∀ b o, h.get? b = some o → h'.get? b = some o) : XAt h' C init := by
  obtain ⟨nm, q, N, bs, bm, sn, sub, ab, col, dd, k0, k1, k2, k3, k5, mN, hC, hN, hi, T⟩ := x.out
  exact ⟨nm, q, N, bs, bm, sn, sub, ab, col, dd, k0, k1, k2, k3, k5, mN, k _ _ hC, hN.keeps k, hi, T.keeps k⟩

theorem ObjOk.there {P : Program} {w : World} {H : Hp} {h : Heap} {a : Addr} {o : HO} (x : ObjOk P w H h a o) : ∃ ob, h.get? a = some ob := by
  induction o with
  | lst xs => obtain ⟨_, _, _, _, e⟩ := x; exact ⟨_, e⟩
  | tup xs => obtain ⟨_, _, _, ob, e, _⟩ := x; exact ⟨_, e⟩
  | dK kvs => obtain ⟨_, _, _, _, o, _, _, e, _⟩ := x; exact ⟨_, e⟩
  | dT kvs => obtain ⟨_, _, _, _, o, _, _, e, _⟩ := x; exact ⟨_, e⟩
  | set S n => obtain ⟨o, _, _, _, e, _⟩ := x; exact ⟨_, e⟩
  | ins C dx fs => obtain ⟨_, _, _, e, _⟩ := x; exact ⟨_, e⟩
  | own y => exact x
  | xd fs => obtain ⟨_, ⟨_, _, _, e, _⟩, _⟩ := x; exact ⟨_, e⟩
  | rng lo hi => obtain ⟨_, _, _, e⟩ := x; exact ⟨_, e⟩
  | frz ob u ih => exact ⟨ob, x.1⟩
  | tbl ps => exact ⟨_, x⟩
  | met f y => exact ⟨_, x⟩
  | ext φ => exact x.2.1
theorem HOk.none {P : Program} {w : World} {H : Hp} {h : Heap} {a : Addr} (x : HOk P w H h) (e : h.get? a = none) : H a = none := by
  cases r : H a with
  | none => rfl
  | some o =>
    obtain ⟨ob, q⟩ := (x a o r).there
    rw [e] at q; cases q

/-- raise C() -/
def tRaise0 (C : Addr) (XR : St → XK) : TS := fun _ σ H => XR σ (.ref C) none H
section
variable {X : Cx} {C : Addr} {XR : St → XK} {x : Str} {np cpos pos : Pos}
theorem qs_raise0 (hx : Px X XR) (hc : X.calm = true) (hg : Gl X x) (hm : X.mg x = some (.ref C)) (hk : PySem.W.keepIn X.K (.ref C) = true) (q : xcIn X.K C none = true) (hdb : (x == ("__debug__" : Str)) = false) :
    PSw X (.Raise (some (.Call (.Name x np) [] [] cpos)) none pos) (tRaise0 C XR) := by
  refine ⟨fun pins s σ H D I h => ?_⟩
  rw [arm_exec_Raise]
  simp only [evalOpt, Option.map]
  refine wpAny_bind (wpAny_standAt (raise_made (C := C) (init := none) (I.ok.hd hc) ?_))
  refine wpAny_bind (wpAny_mono (Q := fun v s₁ => ∃ e oe vs, v = .ref e ∧ XAt s₁.heap C none ∧ s₁.heap.get? e = some oe ∧ oe.cls = .ref C ∧ oe.data = .fields vs ∧ vs[1]? = some .none ∧ X.xe (.ref e) s₁) ?_ (fun v s₃ h₃ => wpAny_bind (wpAny_standAt (wpAny_pure h₃))) fun _ _ z => z)
  refine wpAny_Call_Name_kw (ld_glob I hg hm ?_ hdb)
  refine PySem.W.callWith_K0 I.kIn hk ?_
  obtain ⟨nm, qn, N, bs, bm, sn, sub, ab, col, dd, k0, k1, k2, k3, k5, mN, hC, hN, hi, T⟩ := (xc_at I.kIn q).out
  obtain ⟨hh, g, d, t, os⟩ := s
  refine wpAny_call_exc_subU (rest := []) PySem.F.excBase_ValueError (by decide +kernel) PySem.F.excBase_ValueError T hC hN hi (fun h' e me => ?_) (by show 0 ≤ sizeLine; exact Nat.zero_le _)
  obtain ⟨tp, q1, q2, q3⟩ := me.there
  refine ⟨e, _, _, rfl, ⟨nm, qn, N, bs, bm, sn, sub, ab, col, dd, k0, k1, k2, k3, k5, mN, me.keeps _ _ hC, hN.keeps me.keeps, hi, T.keeps me.keeps⟩, q1, rfl, rfl, rfl, ?_⟩
  have hne : H e = none := I.hok.none me.new
  exact hx pins σ H ⟨hh, g, d, t, os⟩ (.ref e) _ I ⟨e, .ref C, none, H, rfl, rfl, I.bare, Un.kept me.keeps, I.hok.kept me.keeps, ⟨me.new, hne⟩, ⟨_, _, q1, rfl, rfl, rfl, by show (1 : Nat) < 6; decide, .inl ⟨rfl, rfl⟩⟩, h⟩
end
end L2

set_option maxRecDepth 100000
namespace L2
open PySem PySem.Spec PyProof.Rows PySem.W
theorem slot_wget : Slot "wrapper_descriptor" "__get__" "wrapper_descriptor.__get__" := .of (owner := "wrapper_descriptor") (n := "__get__") (by rw [typeLookup_type, builtinLookup_eq_fast]; kernel_rfl) (by decide +kernel) (by decide +kernel) (by decide +kernel)
  (by first | exact .inl (by decide +kernel) | exact .inr (by decide +kernel)) (by rw [isSubtype_type]; kernel_rfl)
theorem entry_wget : entryFor table "wrapper_descriptor.__get__" = some Builtin.«wrapper_descriptor.__get__» := entryFor_of_tree (by kernel_rfl)
theorem args_wget (a b c : Value) : argsOk "wrapper_descriptor.__get__" ⟨[a, b, c], []⟩ := by unfold argsOk; kernel_rfl
theorem type_vinit : typeOf (.builtin "ValueError.__init__") = pure (.type "wrapper_descriptor") := by kernel_rfl
theorem sub_vv : isSubtype (.type "ValueError") (.type "ValueError") = pure true := by rw [isSubtype_type]; kernel_rfl
section
variable {prog : Program} {w : World} {A : Around} {E : Value → Shared → Prop} {h : Heap} {g : Array GenState} {d : Drawn} {t : Nat} {os : OsState}
/-- the wrapper of ValueError's own, bound -/
theorem run_wget {x C : Addr} {Q : Fin → Shared → Prop} (hi : Looks (model prog w) h (isInstance (.ref x) (.type "ValueError")) true)
    (hq : Q (.done (.ret (.ref h.objs.size))) ⟨h.push { cls := .type "method-wrapper", data := .fields #[.builtin "ValueError.__init__", .ref x] }, g, d, t, os⟩) :
    wpAny (model prog w) A (Builtin.«wrapper_descriptor.__get__» ⟨[.builtin "ValueError.__init__", .ref x, .ref C], []⟩) Q E ⟨h, g, d, t, os⟩ := by
  unfold Builtin.«wrapper_descriptor.__get__»
  refine wpAny_bind (wpAny_of_eq (a := (.builtin "ValueError.__init__", some (.ref x), some (.ref C))) rfl ?_)
  dsimp only
  refine wpAny_bind ?_
  refine wpAny_bind (wpAny_of_eq (a := (("__init__" : Str), Value.type "ValueError")) (by kernel_rfl) ?_)
  dsimp only
  refine wpAny_bind (hi.here ?_)
  rw [if_neg (by decide)]
  refine wpAny_pure ?_
  exact wpAny_bind (wpAny_newObj_type (wpAny_pure hq))
theorem xs_ga {so D x C : Addr} {l₀ l : List Value} {K : Frag} {tk : Tok} {Q : Fin → Shared → Prop}
    (hso : h.get? so = some { cls := .type "super", dict := none, data := .fields #[.ref D, .ref x, .ref C], slots := #[] }) (hno : Looks (model prog w) h (opaqueClassAbove (.ref C)) none)
    (hC : Looks (model prog w) h (mroOf (.ref C)) l₀) (hl : (l₀.dropWhile (· != .ref D)).drop 1 = l) (X : K.In h) (hf : alongIn K "__init__" l = some (some (.builtin "ValueError.__init__")))
    (hxC : x ≠ C) (hi : Looks (model prog w) h (isInstance (.ref x) (.type "ValueError")) true)
    (hq : Q (.done (.ret (.ref h.objs.size))) ⟨h.push { cls := .type "method-wrapper", data := .fields #[.builtin "ValueError.__init__", .ref x] }, g, d, t, os⟩) :
    wpAny (model prog w) A (Builtin.«super.__getattribute__» ⟨[.ref so, .str "__init__" tk], []⟩) Q E ⟨h, g, d, t, os⟩ := by
  have lk := slot_wget.lookup
  have ne : (Value.ref x == Value.ref C) = false := by simp [hxC]
  have dt : ({ cls := .type "super", dict := none, data := .fields #[.ref D, .ref x, .ref C], slots := #[] } : Obj).data = .fields #[.ref D, .ref x, .ref C] := rfl
  have z0 : (#[.ref D, .ref x, .ref C] : Array Value)[0]? = some (.ref D) := rfl
  have z1 : (#[.ref D, .ref x, .ref C] : Array Value)[1]? = some (.ref x) := rfl
  have z2 : (#[.ref D, .ref x, .ref C] : Array Value)[2]? = some (.ref C) := rfl
  have tv : (⟨h, g, d, t, os⟩ : Shared).TypeIs (.builtin "ValueError.__init__") "wrapper_descriptor" := type_vinit
  have nc : (("__init__" : Str) == ("__class__" : Str)) = false := by decide +kernel
  unfold Builtin.«super.__getattribute__»
  repeat (first
    | (with_reducible refine wpAny_field hso dt z0 ?_) | (with_reducible refine wpAny_field hso dt z1 ?_) | (with_reducible refine wpAny_field hso dt z2 ?_)
    | (with_reducible refine ks_wpAny_notOpaque hno ?_)
    | (with_reducible refine Looks.at hC ?_; rw [hl])
    | (refine ks_forIn_along X (fun _ _ => rfl) rfl ?_ hf)
    | (with_reducible refine wpAny_of_eq type_vinit ?_)
    | (with_reducible refine wpAny_call_entry slot_wget tv entry_wget ?_ (args_wget _ _ _))
    | (with_reducible refine run_wget hi ?_)
    | (with_reducible refine ⟨_, rfl, ?_⟩)
    | (simp only [nc, ne, Bool.or_false, Bool.false_eq_true, if_false])
    | wp_step
    | dsimp only)
  all_goals exact hq
theorem xs_getm {so D x C : Addr} {l₀ l : List Value} {K : Frag} {pl : Sem Bool} {Q : Value × List Value → Shared → Prop}
    (hso : h.get? so = some { cls := .type "super", dict := none, data := .fields #[.ref D, .ref x, .ref C], slots := #[] }) (hno : Looks (model prog w) h (opaqueClassAbove (.ref C)) none)
    (hC : Looks (model prog w) h (mroOf (.ref C)) l₀) (hl : (l₀.dropWhile (· != .ref D)).drop 1 = l) (X : K.In h) (hf : alongIn K "__init__" l = some (some (.builtin "ValueError.__init__")))
    (hxC : x ≠ C) (hi : Looks (model prog w) h (isInstance (.ref x) (.type "ValueError")) true)
    (hq : Q (.ref h.objs.size, []) ⟨h.push { cls := .type "method-wrapper", data := .fields #[.builtin "ValueError.__init__", .ref x] }, g, d, t + 1, os⟩) :
    wpAny (model prog w) A (getMethod (.ref so) "__init__" pl) Q E ⟨h, g, d, t, os⟩ := by
  have lk := F.ks_slot_super_ga.lookup
  have ty : ∀ t', (⟨h, g, d, t', os⟩ : Shared).TypeIs (.ref so) "super" := fun _ => ⟨_, hso, rfl⟩
  unfold getMethod
  refine wpAny_bind (wpAny_specialOf (ty _) lk ?_)
  show wpAny _ _ (if (Manifest.canonical "super.__getattribute__" != "object.__getattribute__") = true then _ else _) _ _ _
  rw [if_pos F.ks_canon_super_ga]
  unfold getAttr getAttrBy
  refine wpAny_bind (wpAny_bind (wpAny_mkText (wpAny_holding (wpAny_bind (wpAny_typeOf (ty _) (wpAny_bind (wpAny_of_eq lk ?_)))))))
  show wpAny _ _ (getAttrByItsOwn (.ref so) (.str "__init__" t) (.type "super") (.builtin "super.__getattribute__") true false) _ _ _
  unfold getAttrByItsOwn hookBefore callGetattribute boundAndCalled
  refine wpAny_bind (wpAny_of_eq (a := none) rfl ?_)
  refine wpAny_bind (wpAny_attempt (wpAny_holding ?_))
  refine wpAny_bind (wpAny_of_eq (F.ks_slot_super_ga.bind _) ?_)
  refine wpAny_mono (E := fun _ _ => False) (wpAny_call_entry F.ks_slot_super_ga (ty _) F.ks_entry_super_ga (xs_ga (Q := fun fin s' => ∃ v, fin = .done (.ret v) ∧ (v = .ref h.objs.size ∧ s' = ⟨h.push { cls := .type "method-wrapper", data := .fields #[.builtin "ValueError.__init__", .ref x] }, g, d, t + 1, os⟩)) hso hno hC hl X hf hxC hi ⟨_, rfl, rfl, rfl⟩) (F.ks_gaArgs_super _ _)) (fun v s' hv => ?_) fun _ _ z => z.elim
  obtain ⟨rfl, rfl⟩ := hv
  exact wpAny_pure (wpAny_pure hq)
end
end L2

set_option maxRecDepth 100000
namespace L2
open PySem PySem.Spec PyProof.Rows PySem.W
section
variable {prog : Program} {w : World} {A : Around} {E : Value → Shared → Prop} {h : Heap} {g : Array GenState} {d : Drawn} {t : Nat} {os : OsState}
theorem check_vi {M : Model} {nm q : Str} {C N : Addr} {bs bm : List Value} {hdct : Bool} {sn : List Str} {sub : List Value} {ab : Bool} {col : Option Bool} {dd : Option Addr} {k0 k1 k2 k3 k5 : Option Value} {newId : String} {x : Addr} {oe : Obj} {a : Str} {tk : Tok} {Q : Unit → Shared → Prop}
    (hC : h.get? C = some (excClassObj nm q C N bs bm hdct sn sub ab col dd k0 k1 k2 k3 k5 newId)) (he : h.get? x = some oe) (hc : oe.cls = .ref C) (hq : Q () ⟨h, g, d, t, os⟩) :
    wpAny M A (checkBoundCall "ValueError.__init__" ⟨[.ref x, .str a tk], []⟩) Q E ⟨h, g, d, t, os⟩ := by
  have F := PySem.F.excBase_ValueError
  have hshort := F.noStar
  simp only [checkBoundCall, F.initKind, F.initRow]
  rw [if_pos (by decide)]
  repeat (first | (with_reducible refine wpAny_loadPart_at he ?_; rw [hc]) | with_reducible refine wpAny_loadPart_at hC ?_ | wp_step)
  exact hq
theorem fld_at {M : Model} {e : Addr} {o : Obj} {vs : Array Value} {i : Nat} {v : Value} {Q : Value → Shared → Prop} (ho : h.get? e = some o) (hd : o.data = .fields vs) (hi : vs[i]? = some v) (hq : Q v ⟨h, g, d, t, os⟩) : wpAny M A (field (.ref e) i) Q E ⟨h, g, d, t, os⟩ := wpAny_field ho hd hi hq
theorem sfl_at {M : Model} {e : Addr} {o : Obj} {vs : Array Value} {i : Nat} {v : Value} {Q : Unit → Shared → Prop} (ho : h.get? e = some o) (hd : o.data = .fields vs) (hi : i < vs.size) (hq : Q () ⟨h.update e (Obj.mapFields (·.setIfInBounds i v)), g, d, t, os⟩) : wpAny M A (setField (.ref e) i v) Q E ⟨h, g, d, t, os⟩ := wpAny_setField (s := ⟨h, g, d, t, os⟩) ho hd hi hq
theorem xs_run {mw x t0 : Addr} {a : Str} {tk : Tok} {oe : Obj} {vs : Array Value} {Q : Value → Shared → Prop} (hmw : h.get? mw = some { cls := .type "method-wrapper", data := .fields #[.builtin "ValueError.__init__", .ref x] })
    {C : Addr} {init : Option Value} (xa : XAt h C init) (hc : oe.cls = .ref C) (hx : h.get? x = some oe) (hd : oe.data = .fields vs) (h0 : vs[0]? = some (.ref t0))
    (hq : ∀ h' T, h.objs.size ≤ T → h'.get? x = some (oe.mapFields (·.setIfInBounds 0 (.ref T))) → (∀ b o, b ≠ x → h.get? b = some o → h'.get? b = some o) → Q .none ⟨h', g, d, t, os⟩) :
    wpAny (model prog w) A (call (.ref mw) [.str a tk]) Q E ⟨h, g, d, t, os⟩ := by
  refine wpAny_call (codeAny_of_tree ?_)
  show wpAny _ _ (callAny (.ref mw) _) _ _ _
  unfold callAny
  refine wpAny_bind (wpAny_load hmw ?_)
  dsimp only
  rw [if_pos (by decide)]
  simp only [show (#[Value.builtin "ValueError.__init__", Value.ref x] : Array Value)[0]? = some (.builtin "ValueError.__init__") from rfl, show (#[Value.builtin "ValueError.__init__", Value.ref x] : Array Value)[1]? = some (.ref x) from rfl]
  rw [if_pos (by decide)]
  obtain ⟨nm, qn, N, bs, bm, sn, sub, ab, col, dd, k0, k1, k2, k3, k5, mN, hC, _, _, _⟩ := xa.out
  refine wpAny_bind (check_vi hC hx hc ?_)
  refine wpAny_pure ?_
  refine ⟨Code.quiet_builtin _ (by decide +kernel), codeAny_builtin PySem.F.excBase_ValueError.initEntry ?_⟩
  have h1 := Heap.get?_push_of_some { cls := Value.type "tuple", data := Data.seq #[Value.str a tk] } hx
  have z0 : 0 < vs.size := (Array.getElem?_eq_some_iff.mp h0).1
  unfold Builtin.«BaseException.__init__» Builtin.BaseException.bexcPut
  repeat (first | (with_reducible refine fld_at h1 hd h0 ?_) | (with_reducible refine sfl_at h1 hd z0 ?_) | wp_step)
  exact hq _ h.objs.size (Nat.le_refl _) (Heap.get?_update_self _ h1 (Obj.isFreed_of_fields (Obj.data_mapFields hd _))) fun b o nb q => (Heap.get?_update_other _ _ (Ne.symm nb)).trans (Heap.get?_push_of_some _ q)
end
end L2

set_option maxRecDepth 100000
namespace L2
open PySem PySem.Spec PyProof.Rows PySem.W
open Builtin Builtin.ObjectAttr
section
variable {prog : Program} {w : World} {A : Around} {E : Value → Shared → Prop} {h : Heap} {g : Array GenState} {d : Drawn} {t : Nat} {os : OsState}
variable {x C LE : Addr} {o : Obj} {name : Str} {v : Value} {vs : Array Value}
/-- what a class says of a name and of storing -/
structure StoreAt (M : Model) (h : Heap) (C LE : Addr) (name : Str) : Prop where
  mro : Looks M h (mroOf (.ref C)) (.ref C :: .ref LE :: bmV)
  no : Looks M h (typeLookup (.ref C) name) none
  sa : Looks M h (typeLookup (.ref C) "__setattr__") (some (.builtin "object.__setattr__"))
  ob : Looks M h (isSubtype (.ref C) (.type "object")) true
  at_ : ∃ init, XAt h C init
theorem xs_sa {tk : Tok} {Q : Fin → Shared → Prop} (S : StoreAt (model prog w) h C LE name) (hx : h.get? x = some o) (hc : o.cls = .ref C) (hn : o.dict = none) (hd : o.data = .fields vs)
    (hq : ∀ h' tk' dx, h.objs.size ≤ dx → h'.get? x = some { o with dict := some dx } → h'.Ns1 dx (fun y => if y = name then some v else none) → (∀ b u, b ≠ x → h.get? b = some u → h'.get? b = some u) → Q (.done (.ret .none)) ⟨h', g, d, tk', os⟩) :
    wpAny (model prog w) A (Builtin.«object.__setattr__» ⟨[.ref x, .str name tk, v], []⟩) Q E ⟨h, g, d, t, os⟩ := by
  have ps := PySem.F.store_ValueError.passes (.ref x)
  obtain ⟨init, xa⟩ := S.at_
  obtain ⟨nm, qn, N, bs, bm, sn, sub, ab, col, dd, k0, k1, k2, k3, k5, mN, hC, _, _, _⟩ := xa.out
  unfold Builtin.«object.__setattr__»
  repeat (first | rw [refuse_eq] | (with_reducible refine wpAny_loadPart_at hx ?_; rw [hc]) | (with_reducible refine Looks.at S.mro ?_; rw [refuseLoop_ref, refuseLoop_ref, ps]) | (with_reducible refine Looks.at S.no ?_) | (with_reducible refine wpAny_loadPart_at hC ?_) | wp_step)
  rw [hn, hd]
  dsimp only
  rw [if_neg (by simp [typeHasDict])]
  have x1 : (h.push { cls := .type "dict", data := .dict #[] }).get? x = some o := Heap.get?_push_of_some _ hx
  have nx : x ≠ h.objs.size := Nat.ne_of_lt (Heap.lt_size hx)
  have fr : ({ cls := o.cls, dict := some h.objs.size, data := o.data, slots := o.slots } : Obj).isFreed = false := by
    obtain ⟨oc, od, odt, osl⟩ := o
    dsimp only at hd
    subst hd
    rfl
  refine wpAny_bind (wpAny_alloc' (wpAny_bind (wpAny_update' x1 (wpAny_pure ?_))))
  have x2 := Heap.get?_update_self (fun o => { cls := o.cls, dict := some h.objs.size, data := o.data, slots := o.slots }) x1 fr
  have d2 : ((h.push { cls := .type "dict", data := .dict #[] }).update x fun o => { cls := o.cls, dict := some h.objs.size, data := o.data, slots := o.slots }).get? h.objs.size = some { cls := .type "dict", data := .dict #[] } :=
    (Heap.get?_update_other _ _ nx).trans (Heap.get?_push_at rfl rfl)
  generalize hg : ((h.push { cls := .type "dict", data := .dict #[] }).update x fun o => { cls := o.cls, dict := some h.objs.size, data := o.data, slots := o.slots }) = h2 at x2 d2 ⊢
  have old : ∀ b u, b ≠ x → h.get? b = some u → h2.get? b = some u := fun b u nb q => by
    rw [← hg]
    exact (Heap.get?_update_other _ _ (Ne.symm nb)).trans (Heap.get?_push_of_some _ q)
  have n2 : h2.Ns h.objs.size (fun _ => none) := ⟨_, #[], _, d2, rfl, fun e z => absurd z (by simp), fun _ => rfl⟩
  show wpAny _ _ (storeInDict h.objs.size (.str name tk) name v) _ _ _
  unfold storeInDict newKeyGuard
  refine wpAny_bind (wpAny_pure (wpAny_bind (wpAny_nsSet1 (Heap.Ns1.of_empty n2) fun h3 n3 s3 => ?_)))
  obtain ⟨oD, eD, pD, q1, q2, q3⟩ := n3.count (Within.cons name v Within.nil)
  refine wpAny_bind (wpAny_lookBehind q1 (by rw [q2]; exact pastItsLine_dict (Nat.le_trans q3 (by rw [List.length_cons, List.length_nil, sizeLine_eq]; omega))) ?_)
  wp_walk
  exact hq h3 _ h.objs.size (Nat.le_refl _) ((s3.2 x nx).trans x2) n3 fun b u nb q => (s3.2 b (Nat.ne_of_lt (Heap.lt_size q))).trans (old b u nb q)

theorem xs_chk {M : Model} {n : Value} {Q : Unit → Shared → Prop} (ob : Looks M h (isSubtype (.ref C) (.type "object")) true) (hx : h.get? x = some o) (hc : o.cls = .ref C) (hq : Q () ⟨h, g, d, t, os⟩) :
    wpAny M A (checkBuiltinCall "object.__setattr__" ⟨[.ref x, n, v], []⟩) Q E ⟨h, g, d, t, os⟩ := by
  have SF := PySem.F.store_ValueError
  simp only [checkBuiltinCall, SF.kind, SF.split]
  refine wpAny_bind ?_
  unfold isInstance
  repeat (first | (with_reducible refine wpAny_loadPart_at hx ?_; rw [hc]) | (with_reducible refine Looks.at ob ?_) | wp_step)
  exact hq
theorem xs_set {Q : Unit → Shared → Prop} (S : StoreAt (model prog w) h C LE name) (hx : h.get? x = some o) (hc : o.cls = .ref C) (hn : o.dict = none) (hd : o.data = .fields vs)
    (hq : ∀ h' tk' dx, h.objs.size ≤ dx → h'.get? x = some { o with dict := some dx } → h'.Ns1 dx (fun y => if y = name then some v else none) → (∀ b u, b ≠ x → h.get? b = some u → h'.get? b = some u) → Q () ⟨h', g, d, tk', os⟩) :
    wpAny (model prog w) A (setAttr (.ref x) name v) Q E ⟨h, g, d, t, os⟩ := by
  have SF := PySem.F.store_ValueError
  have bd := SF.slot.bind (.ref x)
  unfold setAttr callSpecial? specialOf
  repeat (any_goals (first | assumption | (with_reducible refine wpAny_loadPart_at hx ?_; rw [hc]) | (with_reducible refine Looks.at S.sa ?_) | wp_step))
  refine codeAny_call_builtin SF.slot.plain SF.entry (xs_chk (S.ob) hx hc ?_)
  refine xs_sa (t := t + 1) S hx hc hn hd fun h' tk' dx z1 z2 z3 z4 => ?_
  repeat (any_goals (first | assumption | wp_step))
  exact hq h' tk' dx z1 z2 z3 z4
end
end L2

set_option maxRecDepth 100000
namespace L2
open PySem PySem.Spec PyProof.Rows PySem.W
/-- the class facts that making and storing ask, of K alone -/
structure XK1 (K : Frag) (C LE : Addr) (fld : Str) : Prop where
  mro : (clsIn K C).map (·.mro) = some (.ref C :: .ref LE :: bmV)
  no : findIn K (.ref C) fld = some none
  sa : findIn K (.ref C) "__setattr__" = some (some (.builtin "object.__setattr__"))
  ini : alongIn K "__init__" (.ref LE :: bmV) = some (some (.builtin "ValueError.__init__"))
  opq : nsIn K cStatics "thirdparty.any" = some none
theorem XK1.subs {K : Frag} {C LE : Addr} {fld : Str} {M : Model} {h : Heap} {b : Value} (x : XK1 K C LE fld) (X : K.In h) (hb : (Value.ref C :: .ref LE :: bmV).contains b = true) : Looks M h (isSubtype (.ref C) b) true := by
  obtain ⟨cd, e, z⟩ := Option.map_eq_some_iff.mp x.mro
  refine looks_mroIn X ?_
  unfold mroIn
  rw [e]
  show (if cd.mro.isEmpty = true then none else some (cd.mro.contains b)) = some true
  rw [z, hb]; rfl
theorem XK1.mroL {K : Frag} {C LE : Addr} {fld : Str} {M : Model} {h : Heap} (x : XK1 K C LE fld) (X : K.In h) : Looks M h (mroOf (.ref C)) (.ref C :: .ref LE :: bmV) := by
  obtain ⟨cd, e, z⟩ := Option.map_eq_some_iff.mp x.mro
  rw [← z]
  exact (looks_clsIn X e).andThen .now
theorem XK1.store {K : Frag} {C LE : Addr} {fld : Str} {M : Model} {h : Heap} {init : Option Value} (x : XK1 K C LE fld) (X : K.In h) (q : xcIn K C init = true) : StoreAt M h C LE fld :=
  ⟨x.mroL X, looks_findIn X x.no, looks_findIn X x.sa, x.subs X (by simp [bmV]), init, xc_at X q⟩
section
variable {prog : Program} {w : World} {A : Around} {E : Value → Shared → Prop} {s : Shared}
/-- a call of a method-wrapper with one written text -/
theorem callWith_mw {pos : Pos} {env : Env} {mw : Addr} {fn x : Value} {msg : Str} {kd : Nat} {p4 : Pos} {Q : Value → Shared → Prop} (hmw : s.heap.get? mw = some { cls := .type "method-wrapper", data := .fields #[fn, x] })
    (k : ∀ tk, wpAny (model prog w) A (call (.ref mw) [.str msg tk]) Q E { s with toks := s.toks + 1 }) :
    wpAny (model prog w) A (callWith pos (.ref mw) [] (backTo pos (starEach [.Constant (.str msg) kd p4] env)) []) Q E s := by
  unfold callWith
  refine wpAny_bind (wpAny_holding (wpAny_mono (Q := fun (a : Args) s₁ => ∃ tk, a = ⟨[.str msg tk], []⟩ ∧ s₁ = { s with toks := s.toks + 1 }) ?_ (fun a s₁ ⟨tk, ha, hs⟩ => wpAny_bind (wpAny_standAt ?_)) fun _ _ z => z))
  · show wpAny (model prog w) A (evalArgs (.ref mw) true ((false, eval (.Constant (.str msg) kd p4) env) :: []) []) _ _ _
    refine Calls.evalArgs_plain (Calls.spliced_cons (Calls.Constant_str (k := kd) (pos := p4) ?_))
    exact Calls.spliced_nil ⟨_, rfl, rfl⟩
  · subst ha hs
    simp only [stars_any (es := [.Constant (.str msg) kd p4]) rfl, List.any_nil, Bool.or_false]
    refine wpAny_bind (m := keeperOf (.ref mw)) ?_
    unfold keeperOf
    refine wpAny_bind (wpAny_load hmw ?_)
    dsimp only
    rw [if_pos (by decide)]
    refine wpAny_pure ?_
    rw [if_pos (by decide)]
    exact wpAny_bind (wpAny_mono (k tk) (fun r s₂ z => wpAny_bind (wpAny_holding (wpAny_point (wpAny_pure z)))) fun _ _ z => z)
end
end L2

set_option maxRecDepth 100000
namespace L2
open PySem PySem.Spec PyProof.Rows PySem.W
/-- the names of an own __init__(self, par) -/
structure ISc (sc : Scope) (par : Str) : Prop where
  su : sc.names.lookup ("super" : Str) = some .globalImplicit
  cl : sc.names.lookup ("__class__" : Str) = some .free
  se : sc.names.lookup ("self" : Str) = some .local
  pa : sc.names.lookup par = some .local
  nc : ∀ x ∈ sc.names, x.2 ≠ .cell
  co : sc.isCoroutine = false
  ge : sc.isGenerator = false
  ki : sc.kind = .function
  ns : (("self" : Str) == par) = false
  db : (par == ("__debug__" : Str)) = false
section
variable {prog : Program} {w : World} {A : Around} {R : Result → Shared → Prop} {h : Heap} {g : Array GenState} {d : Drawn} {t : Nat} {os : OsState}
variable {K : Frag} {mg : Str → Option Value} {base : Heap} {f C LE e cda cc : Addr} {fld par nm qual msg file : Str} {ps : Arguments} {body : List Stmt} {sc : Scope} {kV doc pm ct oc ccl cl u : Value} {an od cdd cld : Option Addr} {osl ccs csl : Array (Option Value)} {cvs vs : Array Value} {tf : Tok} {init : Option Value} {oe : Obj} {t0 : Addr} {ar : Arg}
  {a1 a2 a3 a4 a5 a6 b1 b2 b3 b4 : Pos} {kd : Nat} {pl : Env → Sem Bool}
theorem xs_init (B : Mod K mg base) (kb : ∀ b o, base.get? b = some o → h.get? b = some o) (nb : base.get? e = none) (x1 : XK1 K C LE fld) (q : xcIn K C init = true) (hroom : A.depth < recursionLimit)
    (lk : K.lookup f = some ⟨oc, od, .func (ksFn nm qual ps body sc .none kV doc pm an (.ref cda) ct cc), osl⟩) (hcd : codeIn K (.ref cda) qual = true) (hcode : K.lookup cda = some ⟨ccl, cdd, .fields cvs, ccs⟩) (hvs : cvs[2]? = some (.str file tf)) (hfile : ((prog.main.file : Str) == file) = true)
    (hcell : K.lookup cc = some ⟨cl, cld, .cell (some (.ref C)), csl⟩) (hsu : mg "super" = none) (htop : (prog.main.scope.names.lookup ("super" : Str)).isSome = false) (hboot : bootBuiltins "super" = some (.type "super"))
    (S : ISc sc par) (hp : (ps.posonlyargs ++ ps.args).head? = some ar) (har : ar.arg = "self") (hbind : bindArgs (ksFn nm qual ps body sc .none kV doc pm an (.ref cda) ct cc) ⟨[.ref e, u], []⟩ = pure [(("self" : Str), .ref e), (par, u)])
    (hb : body = [.Expr (.Call (.Attribute (.Call (.Name "super" a1) [] [] a2) "__init__" a3) [.Constant (.str msg) kd a4] [] a5) a6, .Assign [.Attribute (.Name "self" b1) fld b2] (.Name par b3) b4])
    (hev : ∀ env, eval (.Call (.Attribute (.Call (.Name "super" a1) [] [] a2) "__init__" a3) [.Constant (.str msg) kd a4] [] a5) env = (do
      let ov ← attributeBase (.Call (.Name "super" a1) [] [] a2) "__init__" env (eval (.Call (.Name "super" a1) [] [] a2) env)
      standAt a3.atName
      let (f, first) ← holding [ov] (getMethod ov "__init__" (pl env))
      callWith a5 f first (backTo a5 (starEach [.Constant (.str msg) kd a4] env)) []))
    (he : h.get? e = some oe) (hec : oe.cls = .ref C) (hed : oe.dict = none) (hef : oe.data = .fields vs) (h0 : vs[0]? = some (.ref t0))
    (hq : ∀ h' t' dx T, h'.get? e = some { cls := .ref C, dict := some dx, data := .fields (vs.setIfInBounds 0 (.ref T)), slots := oe.slots } → h.objs.size ≤ dx → h'.Ns1 dx (fun y => if y = fld then some u else none) → (∀ b o, b ≠ e → h.get? b = some o → h'.get? b = some o) → R (.ok (.ret .none)) ⟨h', g, d, t', os⟩) :
    codeAny (model prog w) A (.call (.ref f) ⟨[.ref e, u], []⟩) R ⟨h, g, d, t, os⟩ := by
  have X : K.In h := B.kin.keeps kb
  refine ks_codeAny_call_defAt (s := ⟨h, g, d, t, os⟩) (binds := [(("self" : Str), .ref e), (par, u)]) hroom (X _ _ lk) rfl (B.nolimit.keeps kb) (codeRec_of X hcd) rfl (.of_eq hbind) S.nc (fun y hy => ?_) (fun h₀ hn k0 => ?_) S.co S.ge S.ki
  · simp only [List.mem_cons, List.mem_nil_iff, or_false] at hy
    rcases hy with rfl | rfl
    · exact S.se
    · exact S.pa
  have kb0 : ∀ b o, base.get? b = some o → h₀.get? b = some o := fun b o z => k0 _ _ (kb _ _ z)
  have X0 : K.In h₀ := B.kin.keeps kb0
  have e0 := k0 _ _ he
  have ms : (fun x => ([("self", .ref e), (par, u)] : List (Str × Value)).reverse.lookup x) ("self" : Str) = some (.ref e) := by
    show ([(par, u), ("self", .ref e)] : List (Str × Value)).lookup ("self" : Str) = _
    rw [List.lookup_cons, S.ns]; rfl
  have mp : (fun x => ([("self", .ref e), (par, u)] : List (Str × Value)).reverse.lookup x) par = some u := by
    show ([(par, u), ("self", .ref e)] : List (Str × Value)).lookup par = _
    rw [List.lookup_cons, beq_self_eq_true]
  obtain ⟨mb, hb1, hb2⟩ := B.blt
  obtain ⟨nmC, qnC, NC, bsC, bmC, snC, subC, abC, colC, ddC, k0C, k1C, k2C, k3C, k5C, mNC, hC, _, _, _⟩ := (xc_at X0 q).out
  have nfe : ∀ c, oe.data ≠ .cls c := fun c z => by rw [hef] at z; cases z
  have neC : e ≠ C := fun z => by
    subst z
    rw [e0] at hC; cases hC
    cases hef
  subst hb
  dsimp only
  generalize hE : (fun (e : Value) (s' : Shared) => wpAny (model prog w) _ (leaving _ e) (fun _ s'' => R (Except.error e) s'') (fun e' s'' => R (Except.error e') s'') s') = EX
  refine ks_wpAt_execs_cons ?_
  refine ks_wpAt_Expr_any ?_ (by show (sc.kind == .module && _) = false; rw [S.ki]; rfl) rfl
  refine ks_wpAt_MethodCall ?_ (hev _)
  refine ks_wpAt_super_base (env := ksEnv qual sc h.objs.size f (.ref cda) cc) (file := file) (tf := tf) S.su S.cl (by decide +kernel) rfl (X0 _ _ lk) rfl hp rfl (X0 _ _ hcode) rfl hvs hfile htop ?_
  refine ks_loadName_global S.ki S.su (Calls.loadGlobal_builtin (B.glob.keeps kb0) hsu (hb1.keeps kb0) ((hb2 _ (by decide +kernel)).trans hboot) ⟨rfl, ?_⟩)
  refine wpAny_loadName_free S.ki S.cl rfl ⟨_, X0 _ _ hcell, rfl⟩ ?_
  rw [har]
  refine wpAny_loadName_local S.ki S.se hn ms ?_
  refine ks_wpAny_isType_cls hC rfl ⟨rfl, ?_⟩
  refine ks_wpAny_call_super hC rfl e0 hec nfe (x1.subs X0 (by simp)) (fun h1 hso k1 => ?_)
  have kb1 : ∀ b o, base.get? b = some o → h1.get? b = some o := fun b o z => k1 _ _ (kb0 _ _ z)
  have X1 : K.In h1 := B.kin.keeps kb1
  have e1 := k1 _ _ e0
  have inst : Looks (model prog w) h1 (isInstance (.ref e) (.type "ValueError")) true := by
    unfold isInstance
    refine (looks_cls e1).andThen ?_
    rw [hec]
    exact x1.subs X1 (by simp [bmV])
  refine xs_getm (l := .ref LE :: bmV) hso (looks_opaque X1 x1.opq) (x1.mroL X1) (by simp [List.dropWhile]) X1 x1.ini neC inst ?_
  generalize hmo : ({ cls := .type "method-wrapper", data := .fields #[.builtin "ValueError.__init__", .ref e] } : Obj) = mo
  have m2 : (h1.push mo).get? h1.objs.size = some mo := Heap.get?_push_size _ (by rw [← hmo]; rfl)
  have k2 : ∀ b o, h.get? b = some o → (h1.push mo).get? b = some o := fun b o z => Heap.get?_push_of_some _ (k1 _ _ (k0 _ _ z))
  have e2 := k2 _ _ he
  have X2 : K.In (h1.push mo) := B.kin.keeps fun b o z => Heap.get?_push_of_some _ (kb1 _ _ z)
  refine callWith_mw (mw := h1.objs.size) (fn := .builtin "ValueError.__init__") (x := .ref e) (by rw [hmo]; exact m2) fun tk => ?_
  refine xs_run (by rw [hmo]; exact m2) (xc_at X2 q) hec e2 hef h0 fun h3 T zT z1 z2 => ?_
  have kb3 : ∀ b o, base.get? b = some o → h3.get? b = some o := fun b o z => z2 _ _ (fun y => by rw [y, nb] at z; cases z) (Heap.get?_push_of_some _ (kb1 _ _ z))
  have X3 : K.In h3 := B.kin.keeps kb3
  have hn3 : h3.Ns h.objs.size (fun x => ([("self", .ref e), (par, u)] : List (Str × Value)).reverse.lookup x) := by
    obtain ⟨o, es, ep, ho, r⟩ := hn
    refine ⟨o, es, ep, z2 _ _ (fun y => ?_) (Heap.get?_push_of_some _ (k1 _ _ ho)), r⟩
    have z := Heap.lt_size he
    rw [← y] at z
    exact absurd z (Nat.lt_irrefl _)
  show PySem.wpAt _ _ _ (execs [.Assign [.Attribute (.Name "self" b1) fld b2] (.Name par b3) b4] _) _ _ _
  refine ks_wpAt_execs_cons (ks_wpAt_Assign_Attr (wpAt_of_wpAny (wpAny_Name (wpAny_loadName_local S.ki S.pa hn3 mp ?_) S.db)) rfl)
  refine wpAny_Name (wpAny_loadName_local S.ki S.se hn3 ms ?_) (by decide +kernel)
  have dm := Obj.data_mapFields hef (·.setIfInBounds 0 (Value.ref T))
  refine xs_set (x1.store X3 q) z1 ((Obj.cls_mapFields _ _).trans hec) ((dict_mapF _ _).trans hed) dm fun h4 t4 dx y1 y2 y3 y4 => ?_
  refine wpAt_of_wpAny (wpAny_execs_nil ?_)
  have y2' : h4.get? e = some { cls := .ref C, dict := some dx, data := .fields (vs.setIfInBounds 0 (.ref T)), slots := oe.slots } := by
    rw [y2, Obj.cls_mapFields, hec, dm]
    obtain ⟨oc', od', odt', osl'⟩ := oe
    cases odt' <;> rfl
  exact hq h4 t4 dx T y2' (Nat.le_trans (Nat.le_of_lt hn3.lt) y1) y3 fun b o nb' z => y4 _ _ nb' (z2 _ _ nb' (k2 _ _ z))
end
end L2

set_option maxRecDepth 100000
namespace L2
open PySem PySem.Spec PyProof.Rows PySem.W
section
variable {prog : Program} {w : World} {A : Around} {E : Value → Shared → Prop} {h : Heap} {g : Array GenState} {d : Drawn} {t : Nat} {os : OsState} {C fI : Addr} {oI : Obj} {u : Value}
theorem xs_tcall {Q : Fin → Shared → Prop} (xa : XAt h C (some (.ref fI))) (hf : h.get? fI = some oI) (hfc : oI.cls = .type "function")
    (hq : ∀ h' e, Heap.MadeExcOf h h' e (.ref C) [u] → wpAny (model prog w) A (call (.ref fI) [.ref e, u]) (fun r s' => r = .none ∧ Q (.done (.ret (.ref e))) s') E ⟨h', g, d, t, os⟩) :
    wpAny (model prog w) A (Builtin.«type.__call__» ⟨[.ref C, u], []⟩) Q E ⟨h, g, d, t, os⟩ := by
  obtain ⟨nm, qn, N, bs, bm, sn, sub, ab, col, dd, k0, k1, k2, k3, k5, mN, hC, hN, hi, T⟩ := xa.out
  have F := PySem.F.excBase_ValueError
  repeat (first | with_reducible refine wpAny_loadPart_at hC ?_ | with_reducible refine wpAny_madeBy_exc hC ?_ | wp_step)
  refine codeAny_call_builtin_code (Code.quiet_builtin _ F.quiet) (wpAny_check_new_subU F (by decide +kernel) T hC ?_)
  refine codeAny_exc_new_subU (rest := [u]) F (by decide +kernel) F T hC ?_ (by show 1 ≤ sizeLine; decide)
  show wpAny _ _ _ _ _ _
  generalize hh : (h.push { cls := .type "tuple", data := .seq [u].toArray }).push { cls := .ref C, data := .fields #[.ref h.objs.size, .none, .none, .none, .bool false, .none] } = h2
  have up : ∀ b o, h.get? b = some o → h2.get? b = some o := fun b o z => by rw [← hh]; exact Heap.get?_push_of_some _ (Heap.get?_push_of_some _ z)
  have ge : h2.get? (h.objs.size + 1) = some { cls := .ref C, data := .fields #[.ref h.objs.size, .none, .none, .none, .bool false, .none] } := by rw [← hh]; heap_get
  have gt : h2.get? h.objs.size = some { cls := .type "tuple", data := .seq [u].toArray } := by rw [← hh]; exact Heap.get?_push_of_some _ (Heap.get?_push_at rfl rfl)
  have cC : (Value.ref C :: bm).contains (.ref C) = true := by simp
  have C2 := up _ _ hC
  unfold isInstance
  repeat (first | with_reducible refine wpAny_loadPart_at ge ?_ | (with_reducible refine wpAny_isSubtype_exc C2 ?_; rw [cC]) | wp_step)
  show wpAny _ _ (typeLookup (.ref C) _) _ _ _
  refine wpAny_typeLookup_tail C2 (hN.keeps up) (T.keeps up) F.mroIs F.init.lookup ?_
  rw [hi]
  refine wpAny_holding (wpAny_bind ?_)
  unfold bindSpecial
  refine wpAny_bind (wpAny_typeOf (T := "function") ⟨_, up _ _ hf, hfc⟩ ?_)
  rw [if_pos (by decide)]
  refine wpAny_pure (wpAny_bind (wpAny_mono (hq h2 (h.objs.size + 1) ⟨up, Heap.get?_none_of_le (Nat.le_succ _), h.objs.size, ge, Heap.get?_none_of_le (Nat.le_refl _), gt⟩) (fun r s' z => ?_) fun _ _ z => z))
  obtain ⟨rfl, z⟩ := z
  wp_walk
  exact z
theorem xs_call {Q : Value → Shared → Prop} (xa : XAt h C (some (.ref fI))) (hf : h.get? fI = some oI) (hfc : oI.cls = .type "function")
    (hq : ∀ h' e, Heap.MadeExcOf h h' e (.ref C) [u] → wpAny (model prog w) (A.under (.builtin "type.__call__" ⟨[.ref C, u], []⟩)) (call (.ref fI) [.ref e, u]) (fun r s' => r = .none ∧ Q (.ref e) s') E ⟨h', g, d, t, os⟩) :
    wpAny (model prog w) A (call (.ref C) [u]) Q E ⟨h, g, d, t, os⟩ := by
  obtain ⟨nm, qn, N, bs, bm, sn, sub, ab, col, dd, k0, k1, k2, k3, k5, mN, hC, _, _, _⟩ := xa.out
  have f1 := tc_lookup
  have f2 := tc_bind (.ref C)
  have ty : (⟨h, g, d, t, os⟩ : Shared).TypeIs (.ref C) "type" := ⟨_, hC, rfl⟩
  refine wpAny_call (codeAny_of_tree ?_)
  show wpAny _ _ (callAny (.ref C) _) _ _ _
  repeat (any_goals (first | assumption | with_reducible refine wpAny_loadPart_at hC ?_ | wp_step))
  refine ⟨rfl, ?_⟩
  exact codeAny_call_builtin_at (Code.quiet_builtin _ (by decide +kernel)) entry_typeCall (wpAny_check_type_call_sub hC (xs_tcall xa hf hfc fun h' e me => hq h' e me))
end
end L2

set_option maxRecDepth 100000
namespace L2
open PySem PySem.Spec PyProof.Rows PySem.W
/-- an own exception with __init__(self, par) that calls super's and stores par under fld -/
structure XIni (prog : Program) (K : Frag) (C LE fI : Addr) (fld : Str) : Prop where
  x1 : XK1 K C LE fld
  xc : xcIn K C (some (.ref fI)) = true
  kp : keepIn K (.ref C) = true
  su : nsIn K mainGlobals "super" = some none
  top : (prog.main.scope.names.lookup ("super" : Str)).isSome = false
  ex : ∃ (nm qual par msg file : Str) (ps : Arguments) (body : List Stmt) (sc : Scope) (kV doc pm ct ccl cl : Value) (an od cdd cld : Option Addr) (osl ccs csl : Array (Option Value)) (cvs : Array Value) (tf : Tok) (ar : Arg) (cda cc : Addr)
    (a1 a2 a3 a4 a5 a6 b1 b2 b3 b4 : Pos) (kd : Nat) (pl : Env → Sem Bool),
    K.lookup fI = some ⟨.type "function", od, .func (ksFn nm qual ps body sc .none kV doc pm an (.ref cda) ct cc), osl⟩ ∧ codeIn K (.ref cda) qual = true ∧ K.lookup cda = some ⟨ccl, cdd, .fields cvs, ccs⟩ ∧ cvs[2]? = some (.str file tf) ∧ ((prog.main.file : Str) == file) = true ∧
    K.lookup cc = some ⟨cl, cld, .cell (some (.ref C)), csl⟩ ∧ ISc sc par ∧ (ps.posonlyargs ++ ps.args).head? = some ar ∧ ar.arg = "self" ∧ (∀ e u : Value, bindArgs (ksFn nm qual ps body sc .none kV doc pm an (.ref cda) ct cc) ⟨[e, u], []⟩ = pure [(("self" : Str), e), (par, u)]) ∧
    body = [.Expr (.Call (.Attribute (.Call (.Name "super" a1) [] [] a2) "__init__" a3) [.Constant (.str msg) kd a4] [] a5) a6, .Assign [.Attribute (.Name "self" b1) fld b2] (.Name par b3) b4] ∧
    ∀ env, eval (.Call (.Attribute (.Call (.Name "super" a1) [] [] a2) "__init__" a3) [.Constant (.str msg) kd a4] [] a5) env = (do
      let ov ← attributeBase (.Call (.Name "super" a1) [] [] a2) "__init__" env (eval (.Call (.Name "super" a1) [] [] a2) env)
      standAt a3.atName
      let (f, first) ← holding [ov] (getMethod ov "__init__" (pl env))
      callWith a5 f first (backTo a5 (starEach [.Constant (.str msg) kd a4] env)) [])
def tRaise1 (C : Addr) (fld : Str) (XR : St → XK) (t : TA) : TS := fun _ σ H => t σ H fun vs H1 => ∃ v, vs = [v] ∧ ∀ dx, H1 dx = none → XR σ (.ref C) (some dx) (upd H1 dx (.xd [(fld, v)]))
section
variable {X : Cx} {C LE fI : Addr} {fld x : Str} {XR : St → XK} {np cpos pos : Pos} {e : Expr} {t : TA}
theorem qs_raise1 (hx : Px X XR) (hc : X.calm = true) (hr : Room 2 X.A) (hg : Gl X x) (hm : X.mg x = some (.ref C)) (Z : XIni X.prog X.K C LE fI fld) (ha : PAs X [e] t) (hst : notStar e = true) (hdb : (x == ("__debug__" : Str)) = false) :
    PSw X (.Raise (some (.Call (.Name x np) [e] [] cpos)) none pos) (tRaise1 C fld XR t) := by
  refine ⟨fun pins s σ H D I h => ?_⟩
  rw [arm_exec_Raise]
  simp only [evalOpt, Option.map]
  refine wpAny_bind (wpAny_standAt (raise_made (C := C) (init := some (.ref fI)) (I.ok.hd hc) ?_))
  refine wpAny_bind (wpAny_mono (Q := fun v s₁ => ∃ e oe vs, v = .ref e ∧ XAt s₁.heap C (some (.ref fI)) ∧ s₁.heap.get? e = some oe ∧ oe.cls = .ref C ∧ oe.data = .fields vs ∧ vs[1]? = some .none ∧ X.xe (.ref e) s₁) ?_ (fun v s₃ h₃ => wpAny_bind (wpAny_standAt (wpAny_pure h₃))) fun _ _ z => z)
  refine wpAny_Call_Name_kw (ld_glob I hg hm ?_ hdb)
  refine callWith_K (h₀ := X.base) I.ok.mod.kin Z.kp (thn (ha.run cpos pins s σ H _ I h) fun us s1 ⟨vs, H1, I1, r, v, hv, q⟩ => ⟨I1.kIn, ?_⟩) (star_ne hst) rfl
  subst hv
  obtain ⟨u, rfl, rv⟩ : ∃ u, us = [u] ∧ RelV v u := by
    cases r with
    | cons a b => cases b; exact ⟨_, rfl, a⟩
  obtain ⟨nm, qual, par, msg, file, ps, body, sc, kV, doc, pm, ct, ccl, cl, an, od, cdd, cld, osl, ccs, csl, cvs, tf, ar, cda, cc, a1, a2, a3, a4, a5, a6, b1, b2, b3, b4, kd, pl, z1, z2, z3, z4, z5, z6, z7, z8, z9, z10, z11, z12⟩ := Z.ex
  obtain ⟨hh, g, d, t1, os⟩ := s1
  have hk : ∀ b o, X.base.get? b = some o → hh.get? b = some o := I1.bk
  refine xs_call (xc_at I1.kIn Z.xc) (I1.kIn _ _ z1) rfl fun h1 e1 me => ?_
  obtain ⟨tp, q1, q2, q3⟩ := me.there
  have nb : X.base.get? e1 = none := by
    cases zz : X.base.get? e1 with
    | none => rfl
    | some o => have := hk _ _ zz; rw [me.new] at this; cases this
  have hsu : X.mg "super" = none := mg_none_of I1.ok.mod.kin I1.ok.mod.glob Z.su
  refine wpAny_call (codeAny_mono (R := fun r s' => r = .ok (.ret .none) ∧ ∃ e oe vs, Value.ref e1 = .ref e ∧ XAt s'.heap C (some (.ref fI)) ∧ s'.heap.get? e = some oe ∧ oe.cls = .ref C ∧ oe.data = .fields vs ∧ vs[1]? = some .none ∧ X.xe (.ref e) s') (xs_init (base := X.base) (par := par) (fld := fld) (LE := LE) (C := C) I1.ok.mod (fun b o z => me.keeps _ _ (hk _ _ z)) nb Z.x1 Z.xc (hr.make C [u] []).depth z1 z2 z3 z4 z5 z6 hsu Z.top (by decide +kernel) z7 z8 z9 (z10 _ _) z11 z12 q1 rfl rfl rfl rfl fun h2 t2 dx T y1 y2 y3 y4 => ⟨rfl, e1, _, _, rfl, ?_, y1, rfl, rfl, rfl, ?_⟩) ?_)
  · exact (xc_at I1.kIn Z.xc).keeps fun b o z => y4 _ _ (fun y => by rw [y] at z; rw [me.new] at z; cases z) (me.keeps _ _ z)
  · have kk : ∀ b o, hh.get? b = some o → h2.get? b = some o := fun b o z => y4 _ _ (fun y => by rw [y, me.new] at z; cases z) (me.keeps _ _ z)
    have d1 : h1.get? dx = none := Heap.get?_none_of_le y2
    have d0 : hh.get? dx = none := by
      cases zz : hh.get? dx with
      | none => rfl
      | some o => have := me.keeps _ _ zz; rw [d1] at this; cases this
    have Hd : H1 dx = none := I1.hok.none d0
    have He : H1 e1 = none := I1.hok.none me.new
    have ed : e1 ≠ dx := fun y => by rw [← y, q1] at d1; cases d1
    have ne : ∀ b o, H1 b = some o → b ≠ dx := fun b o z y => by rw [y, Hd] at z; cases z
    have hun : Un (frs X.stack) [] H1 (upd H1 dx (.xd [(fld, v)])) hh h2 := by
      refine ⟨fun b o z _ _ _ => kk b o z, fun b o z _ _ _ => ⟨o.slots, kk b o z⟩, fun b o z n _ => ?_, fun b o z _ => ⟨o, kk b o z⟩, fun b xs z => ?_, fun b o xs z => ?_, fun b ps z => ⟨#[], ?_⟩⟩
      · rw [upd_ne (fun y => by rw [y, d0] at z; cases z)]; exact n
      · rw [upd_ne (ne _ _ z)]; exact z
      · rw [upd_ne (ne _ _ z)]; exact z
      · rw [upd_ne (ne _ _ z), z]; simp
    have hho : HOk X.prog X.w (upd H1 dx (.xd [(fld, v)])) h2 := fun b o z => by
      by_cases hb : b = dx
      · subst hb
        rw [upd_same] at z
        cases z
        refine ⟨_, y3, fun f => ?_⟩
        show RelO (([(fld, v)] : List (Str × V)).lookup f) _
        rw [List.lookup_cons]
        by_cases hf : f = fld
        · subst hf; simp only [beq_self_eq_true, if_true]; exact rv
        · have : (f == fld) = false := by simpa using hf
          rw [this, if_neg hf]; exact trivial
      · rw [upd_ne hb] at z
        exact (I1.hok b o z).stay (fun c w' _ y => kk c w' y) (fun c y => by rw [upd_ne (ne _ _ y)]; exact y) fun c xs y => by rw [upd_ne (ne _ _ y)]; exact y
    exact hx pins σ H1 ⟨hh, g, d, t1, os⟩ (.ref e1) ⟨h2, g, d, t2, os⟩ I1 ⟨e1, .ref C, some dx, _, rfl, rfl, I1.bare, hun, hho, ⟨me.new, by rw [upd_ne ed]; exact He⟩, ⟨_, _, y1, rfl, rfl, rfl, by simp, .inl ⟨rfl, rfl⟩⟩, q dx Hd⟩
  · rintro _ s' ⟨rfl, z⟩
    exact ⟨rfl, z⟩
end
end L2

set_option maxRecDepth 100000
namespace L2
open PySem PySem.Spec PyProof.Rows PySem.W
section
variable {prog : Program} {w : World} {A : Around} {E : Value → Shared → Prop} {h : Heap} {g : Array GenState} {d : Drawn} {t : Nat} {os : OsState} {a C LE dx : Addr} {o : Obj} {vs : Array Value} {name : Str} {v : Value} {mA : Str → Option Value}
theorem ld_at {M : Model} {Q : Obj → Shared → Prop} (ho : h.get? a = some o) (hq : Q o ⟨h, g, d, t, os⟩) : wpAny M A (load a) Q E ⟨h, g, d, t, os⟩ := wpAny_load ho hq
theorem nsg_at {M : Model} {Q : Option Value → Shared → Prop} (hn : h.Ns1 dx mA) (hm : mA name = some v) (hq : Q (some v) ⟨h, g, d, t, os⟩) : wpAny M A (nsGet dx name) Q E ⟨h, g, d, t, os⟩ := wpAny_nsGet hn.ns (by rw [hm]; exact hq)
theorem xa_entry {init : Option Value} {tk : Tok} {Q : Fin → Shared → Prop} (xa : XAt h C init) (no : Looks (model prog w) h (typeLookup (.ref C) name) none) (hx : h.get? a = some o) (hc : o.cls = .ref C) (hd : o.data = .fields vs) (hdx : o.dict = some dx) (hn : h.Ns1 dx mA) (hm : mA name = some v)
    (hq : Q (.done (.ret v)) ⟨h, g, d, t, os⟩) : wpAny (model prog w) A (Builtin.«object.__getattribute__» ⟨[.ref a, .str name tk], []⟩) Q E ⟨h, g, d, t, os⟩ := by
  obtain ⟨oc, od, odt, osl⟩ := o
  dsimp only at hc hd hdx
  subst hc hd hdx
  obtain ⟨nm, qn, N, bs, bm, sn, sub, ab, col, dd, k0, k1, k2, k3, k5, mN, hC, _, _, _⟩ := xa.out
  repeat (any_goals (first | assumption | (with_reducible refine wpAny_loadPart_at hx ?_) | (with_reducible refine ld_at hC ?_) | (with_reducible refine nsg_at hn hm ?_) | (with_reducible refine Looks.at no ?_) | wp_step))
/-- what an own exception's class says of attributes -/
structure GetAt (M : Model) (h : Heap) (C : Addr) : Prop where
  ga : Looks M h (typeLookup (.ref C) "__getattribute__") (some (.builtin "BaseException.__getattribute__"))
  gn : Looks M h (typeLookup (.ref C) "__getattr__") none
  be : Looks M h (isSubtype (.ref C) (.type "BaseException")) true
  ob : Looks M h (isSubtype (.ref C) (.type "object")) true
  kc : Looks M h (typeLookup (.ref C) "__class__") (some (.builtin "object.__class__"))
theorem xa_chk {M : Model} {n : Value} {Q : Unit → Shared → Prop} (G : GetAt M h C) (hx : h.get? a = some o) (hc : o.cls = .ref C) (hq : Q () ⟨h, g, d, t, os⟩) : wpAny M A (checkBuiltinCall "BaseException.__getattribute__" ⟨[.ref a, n], []⟩) Q E ⟨h, g, d, t, os⟩ := by
  have kd : builtinKind "BaseException.__getattribute__" = some .slot := by decide +kernel
  have sp : splitId "BaseException.__getattribute__" = some ("BaseException", "__getattribute__") := by decide +kernel
  have be := G.be
  simp only [checkBuiltinCall, kd, sp]
  refine wpAny_bind ?_
  unfold isInstance
  repeat (first | (with_reducible refine wpAny_loadPart_at hx ?_; rw [hc]) | (with_reducible refine Looks.at be ?_) | wp_step)
  exact hq
theorem xa_by {tk : Tok} {fill expr : Bool} {Q : Value → Shared → Prop} (hv : handedOut v = pure v) (G : GetAt (model prog w) h C) (hx : h.get? a = some o) (hc : o.cls = .ref C)
    (hq : ∀ A', codeAny (model prog w) A' (.call (.builtin "BaseException.__getattribute__") ⟨[.ref a, .str name tk], []⟩) (fun r s' => r = .ok (.ret v) ∧ Q v s') ⟨h, g, d, t, os⟩) :
    wpAny (model prog w) A (getAttrBy (.ref a) (.str name tk) fill expr) Q E ⟨h, g, d, t, os⟩ := by
  have FB := PySem.F.attr_ValueError
  have f3 := FB.ga.bind (.ref a)
  have z0 : (expr && onTheHeap (Value.builtin "BaseException.__getattribute__")) = false := by cases expr <;> rfl
  have z2 : (Value.builtin "BaseException.__getattribute__" == Value.builtin "object.__getattribute__") = false := by decide +kernel
  have z1 : (onTheHeap (Value.ref C) && Value.builtin "BaseException.__getattribute__" == Value.builtin "object.__getattribute__") = false := by rw [z2]; rfl
  have ga := G.ga
  have gn := G.gn
  repeat (any_goals (first | assumption | (with_reducible refine wpAny_loadPart_at hx ?_; rw [hc]) | (with_reducible refine Looks.at ga ?_) | (with_reducible refine Looks.at gn ?_) | wp_step))
  refine codeAny_mono (hq _) fun r s' ⟨z, q⟩ => ?_
  subst z
  show wpAny _ _ (handedOut v) _ _ _
  rw [hv]
  exact wpAny_pure q
theorem xa_fld {init : Option Value} {expr : Bool} {Q : Value → Shared → Prop} (hv : handedOut v = pure v) (G : GetAt (model prog w) h C) (xa : XAt h C init) (no : Looks (model prog w) h (typeLookup (.ref C) name) none) (hx : h.get? a = some o) (hc : o.cls = .ref C) (hd : o.data = .fields vs) (hdx : o.dict = some dx) (hn : h.Ns1 dx mA) (hm : mA name = some v)
    (hq : Q v ⟨h, g, d, t + 1, os⟩) : wpAny (model prog w) A (getAttr (.ref a) name expr) Q E ⟨h, g, d, t, os⟩ := by
  unfold getAttr
  refine wpAny_bind (wpAny_mkText ?_)
  refine xa_by (v := v) hv G hx hc fun A' => ?_
  exact codeAny_call_builtin PySem.F.attr_ValueError.ga.plain PySem.F.entry_bexc_ga (xa_chk G hx hc (xa_entry xa no hx hc hd hdx hn hm ⟨rfl, hq⟩))
theorem xa_ce {tk : Tok} {Q : Fin → Shared → Prop} (G : GetAt (model prog w) h C) (hx : h.get? a = some o) (hc : o.cls = .ref C) (hd : o.data = .fields vs)
    (hq : Q (.done (.ret (.ref C))) ⟨h, g, d, t, os⟩) : wpAny (model prog w) A (Builtin.«object.__getattribute__» ⟨[.ref a, .str "__class__" tk], []⟩) Q E ⟨h, g, d, t, os⟩ := by
  have ty : (⟨h, g, d, t, os⟩ : Shared).TypeIs (.builtin "object.__class__") "getset_descriptor" := PySem.F.typeOf_object_class
  have f5 := PySem.F.typeOf_object_class
  have f6 := PySem.F.slot_gs_get.lookup
  have f7 := PySem.F.slot_gs_set.lookup
  have kc := G.kc
  repeat (any_goals (first | assumption | (with_reducible refine wpAny_loadPart_at hx ?_; rw [hc]) | (with_reducible refine Looks.at kc ?_) | wp_step))
  have ow : (".".intercalate ("object.__class__".cutAt '.').dropLast) = "object" := by kernel_rfl
  have ob := G.ob
  rw [← ow] at ob
  refine codeAny_call_builtin PySem.F.slot_gs_get.plain PySem.F.entry_gs_get (PySem.F.slot_gs_get.check _ _ _ _ _ _ _ _ ty (PySem.F.args_gs_get _ _ _) ?_)
  repeat (any_goals (first | assumption | (with_reducible refine wpAny_loadPart_at hx ?_; rw [hc]) | (with_reducible refine Looks.at ob ?_) | wp_step))
  refine ⟨Code.quiet_builtin _ (by decide +kernel), codeAny_builtin PySem.F.entry_object_class ?_⟩
  unfold Builtin.«object.__class__»
  repeat (any_goals (first | assumption | (with_reducible refine wpAny_loadPart_at hx ?_; rw [hc]) | wp_step))
theorem xa_cls {Q : Option Value → Shared → Prop} (G : GetAt (model prog w) h C) (hx : h.get? a = some o) (hc : o.cls = .ref C) (hd : o.data = .fields vs) (hq : Q (some (.ref C)) ⟨h, g, d, t + 1, os⟩) :
    wpAny (model prog w) A (getAttr? (.ref a) "__class__") Q E ⟨h, g, d, t, os⟩ := by
  unfold getAttr? getAttrBy?
  refine wpAny_bind (wpAny_mkText (wpAny_bind (wpAny_attempt ?_)))
  refine xa_by (v := .ref C) rfl G hx hc fun A' => ?_
  exact codeAny_call_builtin PySem.F.attr_ValueError.ga.plain PySem.F.entry_bexc_ga (xa_chk G hx hc (xa_ce G hx hc hd ⟨rfl, wpAny_pure hq⟩))
end
end L2

set_option maxRecDepth 100000
namespace L2
open PySem PySem.Spec PyProof.Rows PySem.W
/-- an own exception's class, as K knows it: what attributes are read by -/
structure XG (K : Frag) (C : Addr) : Prop where
  cl : ∃ cd, clsIn K C = some cd
  ga : findIn K (.ref C) "__getattribute__" = some (some (.builtin "BaseException.__getattribute__"))
  gn : findIn K (.ref C) "__getattr__" = some none
  kc : findIn K (.ref C) "__class__" = some (some (.builtin "object.__class__"))
  be : mroIn K C (.type "BaseException") = some true
  ob : mroIn K C (.type "object") = some true
theorem XG.at_ {K : Frag} {C : Addr} {M : Model} {h : Heap} (x : XG K C) (X : K.In h) : GetAt M h C := ⟨looks_findIn X x.ga, looks_findIn X x.gn, looks_mroIn X x.be, looks_mroIn X x.ob, looks_findIn X x.kc⟩
theorem kitx_exc {K : Frag} {a C : Addr} {dx : Option Addr} (x : XG K C) : KitX K (.ref a) (.ref C) (ExcIs a (.ref C) dx) where
  ty := fun M h X ⟨oe, vs, q, c, _⟩ => by rw [← c]; exact looks_cls q
  it := fun M h X _ => by
    obtain ⟨cd, e⟩ := x.cl
    unfold clsIn at e
    split at e
    · rename_i ho
      intro A' Q' E' s' k q
      unfold isType loadHead
      exact wpAny_bind (wpAny_loadPart (k _ _ (X _ _ ho)) (wpAny_pure q))
    · cases e
  ne := fun h tp dd its n sl X htp => by
    obtain ⟨cd, e⟩ := x.cl
    refine Bool.eq_false_iff.mpr fun q => ?_
    have z : C = tp := Value.ref.inj (beq_iff_eq.mp q)
    subst z
    unfold clsIn at e
    split at e
    · rename_i ho
      have z := (X _ _ ho).symm.trans htp
      cases z
    · cases e
  ca := fun {_ _ _ _ _ s} X ⟨oe, vs, q, c, _, f⟩ k => by
    obtain ⟨h, g, d, t, os⟩ := s
    exact xa_cls (x.at_ X) q c f k
/-- the type of a value, with own exceptions -/
inductive TyX (K : Frag) (H : Hp) : V → Value → Prop
  | std {x : V} {T : String} (h : TyS K H x T) : TyX K H x (.type T)
  | exc {a C : Addr} {dx : Option Addr} (h : H a = some (.ext (ExcIs a (.ref C) dx))) (g : XG K C) : TyX K H (.ref a) (.ref C)
def cV : V → Option Value
  | .ty n => some (.type n)
  | .ref C => some (.ref C)
  | _ => none
def rIsiX (K : Frag) : List V → Hp → VK → Prop := fun xs H Q => ∃ x c tv cv b, xs = [x, c] ∧ TyX K H x tv ∧ cV c = some cv ∧ kitOne K tv cv = some b ∧ Q (.bl b) H
section
variable {X : Cx}
theorem cn_isiX : CallR X (.builtin "isinstance") (rIsiX X.K) := by
  intro pins s σ H xs us Q I r h
  obtain ⟨x, c, tv, cv, b, rfl, ty, hc, e, q⟩ := h
  obtain ⟨u, w, rfl, ru, rw_⟩ := vals2 r
  obtain rfl : w = cv := by
    cases c with
    | ty n => cases hc; exact rw_
    | ref C => cases hc; exact rw_
    | _ => cases hc
  have fin : ∀ tk, EP X pins σ Q (.bool b) { s with toks := tk } := fun tk => ⟨.bl b, H, I.tok tk, rfl, q⟩
  cases ty with
  | std ty =>
    cases ty with
    | non => cases ru; exact kia_one kitx_none I.kIn True.intro e (fun z => nomatch z) fin
    | bl y => cases ru; exact kia_one kitx_bool I.kIn True.intro e (fun z => nomatch z) fin
    | int i => obtain ⟨t, rfl⟩ := ru; exact kia_one kitx_int I.kIn True.intro e (fun z => nomatch z) fin
    | str y => obtain ⟨t, rfl⟩ := ru; exact kia_one kitx_str I.kIn True.intro e (fun z => nomatch z) fin
    | lst hq =>
      cases ru
      obtain ⟨its, _, ⟨o, nn, e1, e2, _⟩, _⟩ := I.list hq
      exact kia_one kitx_list I.kIn ⟨o, e1, e2⟩ e (fun z => nomatch z) fin
    | tup hq =>
      cases ru
      obtain ⟨its, _, ⟨o, e1, e2, _⟩, _⟩ := I.tuple hq
      exact kia_one kitx_tuple I.kIn ⟨o, e1, e2⟩ e (fun z => nomatch z) fin
    | @dk a kvs hq =>
      cases ru
      obtain ⟨_, _, vs, _, o, es, ep, h1, h2, _⟩ := (show ObjOk X.prog X.w H s.heap a (.dK kvs) from I.hok a _ hq)
      exact kia_one kitx_dict I.kIn ⟨o, h1, h2.1⟩ e (fun z => nomatch z) fin
  | @exc a C dx hq g =>
    cases ru
    have z : ExcIs a (.ref C) dx s.heap := (I.hok a _ hq).1
    exact kia_one (kitx_exc g) I.kIn z e (fun z => nomatch z) fin
/-- e.f of a caught exception -/
def tXAt (K : Frag) (ta : TE) (f : Str) : TE := fun σ H Q => ta σ H fun x H1 => ∃ a C dx fs v init, x = .ref a ∧ H1 a = some (.ext (ExcIs a (.ref C) (some dx))) ∧ XG K C ∧ xcIn K C init = true ∧ findIn K (.ref C) f = some none ∧ H1 dx = some (.xd fs) ∧ fs.lookup f = some v ∧ Q v H1
variable {e : Expr} {ta : TE} {f : Str} {pos : Pos}
theorem handed_rel {v : V} {u : Value} (r : RelV v u) : handedOut u = pure u := by
  cases v with
  | non => cases r; rfl
  | bl b => cases r; rfl
  | int i => obtain ⟨t, rfl⟩ := r; rfl
  | str x => obtain ⟨t, rfl⟩ := r; rfl
  | byt b => obtain ⟨t, rfl⟩ := r; rfl
  | flt b => obtain ⟨t, rfl⟩ := r; rfl
  | ref a => cases r; rfl
  | ty n => cases r; rfl
theorem pe_xat (he : PE X e ta) (hb : attributeBase e f X.env (eval e X.env) = eval e X.env) : PE X (.Attribute e f pos) (tXAt X.K ta f) := by
  intro pins s σ H Q I h
  refine attr_of hb (thn (he pins s σ H _ I h) fun u s1 ⟨x, H1, I1, rx, a, C, dx, fs, v, init, ex, ea, g, xc, nf, ed, l, q⟩ => ?_)
  subst ex
  obtain rfl : u = Value.ref a := rx
  obtain ⟨oe, vs, q0, q1, q2, q3⟩ := (I1.hok a _ ea).1
  obtain ⟨mA, n1, rel⟩ : ∃ mA, s1.heap.Ns1 dx mA ∧ ∀ f, RelO (fs.lookup f) (mA f) := I1.hok dx _ ed
  have rf := rel f
  rw [l] at rf
  cases hm : mA f with
  | none => rw [hm] at rf; exact rf.elim
  | some uv =>
    rw [hm] at rf
    have rf' : RelV v uv := rf
    obtain ⟨hh, gg, d, t, os⟩ := s1
    exact xa_fld (handed_rel rf') (g.at_ I1.kIn) (xc_at I1.kIn xc) (looks_findIn I1.kIn nf) q0 q1 q3 q2 n1 hm ⟨v, H1, I1.tok _, rf', q⟩
end
end L2

set_option maxRecDepth 100000
namespace L2
open PySem PySem.Spec PyProof.Rows PySem.W
/-- the facts over K as truths -/
def xgIn (K : Frag) (C : Addr) : Bool := (clsIn K C).isSome && (findIn K (.ref C) "__getattribute__" == some (some (.builtin "BaseException.__getattribute__")) && (findIn K (.ref C) "__getattr__" == some none && (findIn K (.ref C) "__class__" == some (some (.builtin "object.__class__")) && (mroIn K C (.type "BaseException") == some true && mroIn K C (.type "object") == some true))))
theorem xg_of {K : Frag} {C : Addr} (h : xgIn K C = true) : XG K C := by
  unfold xgIn at h
  simp only [Bool.and_eq_true, beq_iff_eq] at h
  obtain ⟨a, b, c, d, e, f⟩ := h
  exact ⟨Option.isSome_iff_exists.mp a, b, c, d, e, f⟩
def xk1In (K : Frag) (C LE : Addr) (fld : Str) : Bool := (clsIn K C).map (·.mro) == some (.ref C :: .ref LE :: bmV) && (findIn K (.ref C) fld == some none && (findIn K (.ref C) "__setattr__" == some (some (.builtin "object.__setattr__")) && (alongIn K "__init__" (.ref LE :: bmV) == some (some (.builtin "ValueError.__init__")) && nsIn K cStatics "thirdparty.any" == some none)))
theorem xk1_of {K : Frag} {C LE : Addr} {fld : Str} (h : xk1In K C LE fld = true) : XK1 K C LE fld := by
  unfold xk1In at h
  simp only [Bool.and_eq_true, beq_iff_eq] at h
  obtain ⟨a, b, c, d, e⟩ := h
  exact ⟨a, b, c, d, e⟩
/-- the text of an own __init__ -/
structure IBody (st : Stmt) (fld par : Str) : Prop where
  sc : ISc (defScope st) par
  se : ∃ ar, ((defArgs st).posonlyargs ++ (defArgs st).args).head? = some ar ∧ ar.arg = "self"
  bd : ∀ (nm qual : Str) (kV doc pm : Value) (an : Option Addr) (cda : Value) (ct : Value) (cc : Addr) (e u : Value), bindArgs (ksFn nm qual (defArgs st) (defBody st) (defScope st) .none kV doc pm an cda ct cc) ⟨[e, u], []⟩ = pure [(("self" : Str), e), (par, u)]
  tx : ∃ (msg : Str) (a1 a2 a3 a4 a5 a6 b1 b2 b3 b4 : Pos) (kd : Nat) (pl : Env → Sem Bool), defBody st = [.Expr (.Call (.Attribute (.Call (.Name "super" a1) [] [] a2) "__init__" a3) [.Constant (.str msg) kd a4] [] a5) a6, .Assign [.Attribute (.Name "self" b1) fld b2] (.Name par b3) b4] ∧
    ∀ env, eval (.Call (.Attribute (.Call (.Name "super" a1) [] [] a2) "__init__" a3) [.Constant (.str msg) kd a4] [] a5) env = (do
      let ov ← attributeBase (.Call (.Name "super" a1) [] [] a2) "__init__" env (eval (.Call (.Name "super" a1) [] [] a2) env)
      standAt a3.atName
      let (f, first) ← holding [ov] (getMethod ov "__init__" (pl env))
      callWith a5 f first (backTo a5 (starEach [.Constant (.str msg) kd a4] env)) [])
theorem xini_mk {prog : Program} {K : Frag} {C LE fI cda cc : Addr} {fld par nm qual file : Str} {st : Stmt} {kV doc pm ct ccl cl : Value} {an od cdd cld : Option Addr} {osl ccs csl : Array (Option Value)} {cvs : Array Value} {tf : Tok}
    (T : IBody st fld par) (x1 : xk1In K C LE fld = true) (xc : xcIn K C (some (.ref fI)) = true) (kp : keepIn K (.ref C) = true) (su : nsIn K mainGlobals "super" = some none) (top : (prog.main.scope.names.lookup ("super" : Str)).isSome = false)
    (lk : K.lookup fI = some ⟨.type "function", od, .func (ksFn nm qual (defArgs st) (defBody st) (defScope st) .none kV doc pm an (.ref cda) ct cc), osl⟩) (cd : codeIn K (.ref cda) qual = true) (hcode : K.lookup cda = some ⟨ccl, cdd, .fields cvs, ccs⟩) (hvs : cvs[2]? = some (.str file tf)) (hfile : ((prog.main.file : Str) == file) = true)
    (hcell : K.lookup cc = some ⟨cl, cld, .cell (some (.ref C)), csl⟩) : XIni prog K C LE fI fld := by
  obtain ⟨ar, s1, s2⟩ := T.se
  obtain ⟨msg, a1, a2, a3, a4, a5, a6, b1, b2, b3, b4, kd, pl, t1, t2⟩ := T.tx
  exact ⟨xk1_of x1, xc, kp, su, top, nm, qual, par, msg, file, _, _, _, kV, doc, pm, ct, ccl, cl, an, od, cdd, cld, osl, ccs, csl, cvs, tf, ar, cda, cc, a1, a2, a3, a4, a5, a6, b1, b2, b3, b4, kd, pl, lk, cd, hcode, hvs, hfile, hcell, T.sc, s1, s2, T.bd nm qual kV doc pm an (.ref cda) ct cc, t1, t2⟩
/-! ### the words of the generator -/
theorem px0 {X : Cx} : Px X (fun _ => E0) := fun _ _ _ _ _ _ _ h => by
  obtain ⟨a, C, dx, H', _, _, _, _, _, _, _, q⟩ := h
  exact q.elim
section
variable {X : Cx} {b₀ : Stmt} {body suite : List Stmt} {c x : Str} {p hp pos : Pos} {B : Addr} {i : Nat} {tb : (St → XK) → TS} {ts : TS}
theorem qs_try (hN : X.N.Nodup) (hi : X.N[i]? = some x) (hx : X.env.scope.names.lookup x = some .local) (hg : Gl X c) (hm : X.mg c = some (.ref B)) (hst : X.stack = X.env :: X.outer) (hfr : X.env.frame = some X.env.locals) (hex : X.ex = [])
    (hb : ∀ (xe' : Value → Shared → Prop) (pn' : List (Addr × Obj)) (XR : St → XK), Px (X.tr xe' pn') XR → PSsw (X.tr xe' pn') body (tb XR)) (hs : ∀ e : Addr, PSsw (X.su e) (b₀ :: suite) ts) (hdb : (c == ("__debug__" : Str)) = false) :
    PSw X (.Try body [.ExceptHandler (some (.Name c p)) (some x) (b₀ :: suite) hp] [] [] pos) (tTry X.K B i tb ts) := ⟨ps_try hN hi hx hg hm hst hfr hex (fun xe' pn' XR h => (hb xe' pn' XR h).run) (fun e => (hs e).run) hdb⟩
end
/-! ### readings -/
section
variable {σ : St} {H : Hp} {D : Ends} {Q : VK}
theorem rd_callX {sp : Sp} {dvs : List V} {XR : St → XK} {t : TA} (h : t σ H fun vs H1 => sp (vs ++ dvs) H1 Q (XR σ)) : tCallX sp dvs XR t σ H Q := h
theorem rd_raise0 {C : Addr} {XR : St → XK} (h : XR σ (.ref C) none H) : tRaise0 C XR D σ H := h
theorem rd_raise1 {C : Addr} {fld : Str} {XR : St → XK} {t : TA} (h : t σ H fun vs H1 => ∃ v, vs = [v] ∧ ∀ dx, H1 dx = none → XR σ (.ref C) (some dx) (upd H1 dx (.xd [(fld, v)]))) : tRaise1 C fld XR t D σ H := h
theorem rd_try {K : Frag} {B : Addr} {i : Nat} {tb : (St → XK) → TS} {ts : TS}
    (h : tb (fun σ' C dx H' => exmOne K C (.ref B) = some true ∧ ∀ a, H' a = none → ts (D.un i) (σ'.set i (some (.ref a))) (upd H' a (.ext (ExcIs a C dx)))) D σ H) : tTry K B i tb ts D σ H := h
theorem rd_unx {i : Nat} (h : D.nx (σ.set i none) H) : (D.un i).nx σ H := h
theorem rd_xat {K : Frag} {ta : TE} {f : Str} (h : ta σ H fun x H1 => ∃ a C dx fs v init, x = .ref a ∧ H1 a = some (.ext (ExcIs a (.ref C) (some dx))) ∧ XG K C ∧ xcIn K C init = true ∧ findIn K (.ref C) f = some none ∧ H1 dx = some (.xd fs) ∧ fs.lookup f = some v ∧ Q v H1) : tXAt K ta f σ H Q := h
theorem rd_isiX {K : Frag} {x c : V} {tv cv : Value} {b : Bool} (ty : TyX K H x tv) (hc : cV c = some cv) (e : kitOne K tv cv = some b) (h : Q (.bl b) H) : rIsiX K [x, c] H Q := ⟨x, c, tv, cv, b, rfl, ty, hc, e, h⟩
end
end L2

set_option maxRecDepth 100000
namespace L2
open PySem PySem.Spec PyProof.Rows PySem.W
/-- the names of an own __init__(self) -/
structure ISc0 (sc : Scope) : Prop where
  su : sc.names.lookup ("super" : Str) = some .globalImplicit
  cl : sc.names.lookup ("__class__" : Str) = some .free
  se : sc.names.lookup ("self" : Str) = some .local
  nc : ∀ x ∈ sc.names, x.2 ≠ .cell
  co : sc.isCoroutine = false
  ge : sc.isGenerator = false
  ki : sc.kind = .function
section
variable {prog : Program} {w : World} {A : Around} {R : Result → Shared → Prop} {h : Heap} {g : Array GenState} {d : Drawn} {t : Nat} {os : OsState}
variable {K : Frag} {mg : Str → Option Value} {base : Heap} {f C LE e cda cc : Addr} {fld nm qual msg file : Str} {ps : Arguments} {body : List Stmt} {sc : Scope} {kV doc pm ct oc ccl cl : Value} {an od cdd cld : Option Addr} {osl ccs csl : Array (Option Value)} {cvs vs : Array Value} {tf : Tok} {init : Option Value} {oe : Obj} {t0 : Addr} {ar : Arg}
  {a1 a2 a3 a4 a5 a6 : Pos} {kd : Nat} {pl : Env → Sem Bool}
theorem xs_init0 (B : Mod K mg base) (kb : ∀ b o, base.get? b = some o → h.get? b = some o) (nb : base.get? e = none) (x1 : XK1 K C LE fld) (q : xcIn K C init = true) (hroom : A.depth < recursionLimit)
    (lk : K.lookup f = some ⟨oc, od, .func (ksFn nm qual ps body sc .none kV doc pm an (.ref cda) ct cc), osl⟩) (hcd : codeIn K (.ref cda) qual = true) (hcode : K.lookup cda = some ⟨ccl, cdd, .fields cvs, ccs⟩) (hvs : cvs[2]? = some (.str file tf)) (hfile : ((prog.main.file : Str) == file) = true)
    (hcell : K.lookup cc = some ⟨cl, cld, .cell (some (.ref C)), csl⟩) (hsu : mg "super" = none) (htop : (prog.main.scope.names.lookup ("super" : Str)).isSome = false) (hboot : bootBuiltins "super" = some (.type "super"))
    (S : ISc0 sc) (hp : (ps.posonlyargs ++ ps.args).head? = some ar) (har : ar.arg = "self") (hbind : bindArgs (ksFn nm qual ps body sc .none kV doc pm an (.ref cda) ct cc) ⟨[.ref e], []⟩ = pure [(("self" : Str), .ref e)])
    (hb : body = [.Expr (.Call (.Attribute (.Call (.Name "super" a1) [] [] a2) "__init__" a3) [.Constant (.str msg) kd a4] [] a5) a6])
    (hev : ∀ env, eval (.Call (.Attribute (.Call (.Name "super" a1) [] [] a2) "__init__" a3) [.Constant (.str msg) kd a4] [] a5) env = (do
      let ov ← attributeBase (.Call (.Name "super" a1) [] [] a2) "__init__" env (eval (.Call (.Name "super" a1) [] [] a2) env)
      standAt a3.atName
      let (f, first) ← holding [ov] (getMethod ov "__init__" (pl env))
      callWith a5 f first (backTo a5 (starEach [.Constant (.str msg) kd a4] env)) []))
    (he : h.get? e = some oe) (hec : oe.cls = .ref C) (hed : oe.dict = none) (hef : oe.data = .fields vs) (h0 : vs[0]? = some (.ref t0))
    (hq : ∀ h' t' T, h'.get? e = some { cls := .ref C, dict := none, data := .fields (vs.setIfInBounds 0 (.ref T)), slots := oe.slots } → (∀ b o, b ≠ e → h.get? b = some o → h'.get? b = some o) → R (.ok (.ret .none)) ⟨h', g, d, t', os⟩) :
    codeAny (model prog w) A (.call (.ref f) ⟨[.ref e], []⟩) R ⟨h, g, d, t, os⟩ := by
  have X : K.In h := B.kin.keeps kb
  refine ks_codeAny_call_defAt (s := ⟨h, g, d, t, os⟩) (binds := [(("self" : Str), .ref e)]) hroom (X _ _ lk) rfl (B.nolimit.keeps kb) (codeRec_of X hcd) rfl (.of_eq hbind) S.nc (fun y hy => ?_) (fun h₀ hn k0 => ?_) S.co S.ge S.ki
  · simp only [List.mem_cons, List.mem_nil_iff, or_false] at hy
    subst hy
    exact S.se
  have kb0 : ∀ b o, base.get? b = some o → h₀.get? b = some o := fun b o z => k0 _ _ (kb _ _ z)
  have X0 : K.In h₀ := B.kin.keeps kb0
  have e0 := k0 _ _ he
  have ms : (fun x => ([("self", .ref e)] : List (Str × Value)).reverse.lookup x) ("self" : Str) = some (.ref e) := rfl
  obtain ⟨mb, hb1, hb2⟩ := B.blt
  obtain ⟨nmC, qnC, NC, bsC, bmC, snC, subC, abC, colC, ddC, k0C, k1C, k2C, k3C, k5C, mNC, hC, _, _, _⟩ := (xc_at X0 q).out
  have nfe : ∀ c, oe.data ≠ .cls c := fun c z => by rw [hef] at z; cases z
  have neC : e ≠ C := fun z => by
    subst z
    rw [e0] at hC; cases hC
    cases hef
  subst hb
  dsimp only
  generalize hE : (fun (e : Value) (s' : Shared) => wpAny (model prog w) _ (leaving _ e) (fun _ s'' => R (Except.error e) s'') (fun e' s'' => R (Except.error e') s'') s') = EX
  refine ks_wpAt_execs_cons ?_
  refine ks_wpAt_Expr_any ?_ (by show (sc.kind == .module && _) = false; rw [S.ki]; rfl) rfl
  refine ks_wpAt_MethodCall ?_ (hev _)
  refine ks_wpAt_super_base (env := ksEnv qual sc h.objs.size f (.ref cda) cc) (file := file) (tf := tf) S.su S.cl (by decide +kernel) rfl (X0 _ _ lk) rfl hp rfl (X0 _ _ hcode) rfl hvs hfile htop ?_
  refine ks_loadName_global S.ki S.su (Calls.loadGlobal_builtin (B.glob.keeps kb0) hsu (hb1.keeps kb0) ((hb2 _ (by decide +kernel)).trans hboot) ⟨rfl, ?_⟩)
  refine wpAny_loadName_free S.ki S.cl rfl ⟨_, X0 _ _ hcell, rfl⟩ ?_
  rw [har]
  refine wpAny_loadName_local S.ki S.se hn ms ?_
  refine ks_wpAny_isType_cls hC rfl ⟨rfl, ?_⟩
  refine ks_wpAny_call_super hC rfl e0 hec nfe (x1.subs X0 (by simp)) (fun h1 hso k1 => ?_)
  have kb1 : ∀ b o, base.get? b = some o → h1.get? b = some o := fun b o z => k1 _ _ (kb0 _ _ z)
  have X1 : K.In h1 := B.kin.keeps kb1
  have e1 := k1 _ _ e0
  have inst : Looks (model prog w) h1 (isInstance (.ref e) (.type "ValueError")) true := by
    unfold isInstance
    refine (looks_cls e1).andThen ?_
    rw [hec]
    exact x1.subs X1 (by simp [bmV])
  refine xs_getm (l := .ref LE :: bmV) hso (looks_opaque X1 x1.opq) (x1.mroL X1) (by simp [List.dropWhile]) X1 x1.ini neC inst ?_
  generalize hmo : ({ cls := .type "method-wrapper", data := .fields #[.builtin "ValueError.__init__", .ref e] } : Obj) = mo
  have m2 : (h1.push mo).get? h1.objs.size = some mo := Heap.get?_push_size _ (by rw [← hmo]; rfl)
  have k2 : ∀ b o, h.get? b = some o → (h1.push mo).get? b = some o := fun b o z => Heap.get?_push_of_some _ (k1 _ _ (k0 _ _ z))
  have e2 := k2 _ _ he
  have X2 : K.In (h1.push mo) := B.kin.keeps fun b o z => Heap.get?_push_of_some _ (kb1 _ _ z)
  refine callWith_mw (mw := h1.objs.size) (fn := .builtin "ValueError.__init__") (x := .ref e) (by rw [hmo]; exact m2) fun tk => ?_
  refine xs_run (by rw [hmo]; exact m2) (xc_at X2 q) hec e2 hef h0 fun h3 T zT z1 z2 => ?_
  have dm := Obj.data_mapFields hef (·.setIfInBounds 0 (Value.ref T))
  refine wpAt_of_wpAny (wpAny_execs_nil ?_)
  have y2' : h3.get? e = some { cls := .ref C, dict := none, data := .fields (vs.setIfInBounds 0 (.ref T)), slots := oe.slots } := by
    rw [z1]
    obtain ⟨oc', od', odt', osl'⟩ := oe
    dsimp only at hec hed hef
    subst hec hed hef
    rfl
  exact hq h3 _ T y2' fun b o nb' z => z2 _ _ nb' (k2 _ _ z)
end
section
variable {prog : Program} {w : World} {A : Around} {E : Value → Shared → Prop} {h : Heap} {g : Array GenState} {d : Drawn} {t : Nat} {os : OsState} {C fI : Addr} {oI : Obj}
theorem xs_tcall0 {Q : Fin → Shared → Prop} (xa : XAt h C (some (.ref fI))) (hf : h.get? fI = some oI) (hfc : oI.cls = .type "function")
    (hq : ∀ h' e, Heap.MadeExcOf h h' e (.ref C) [] → wpAny (model prog w) A (call (.ref fI) [.ref e]) (fun r s' => r = .none ∧ Q (.done (.ret (.ref e))) s') E ⟨h', g, d, t, os⟩) :
    wpAny (model prog w) A (Builtin.«type.__call__» ⟨[.ref C], []⟩) Q E ⟨h, g, d, t, os⟩ := by
  obtain ⟨nm, qn, N, bs, bm, sn, sub, ab, col, dd, k0, k1, k2, k3, k5, mN, hC, hN, hi, T⟩ := xa.out
  have F := PySem.F.excBase_ValueError
  repeat (first | with_reducible refine wpAny_loadPart_at hC ?_ | with_reducible refine wpAny_madeBy_exc hC ?_ | wp_step)
  refine codeAny_call_builtin_code (Code.quiet_builtin _ F.quiet) (wpAny_check_new_subU F (by decide +kernel) T hC ?_)
  refine codeAny_exc_new_subU (rest := []) F (by decide +kernel) F T hC ?_ (by show 0 ≤ sizeLine; exact Nat.zero_le _)
  show wpAny _ _ _ _ _ _
  generalize hh : (h.push { cls := .type "tuple", data := .seq ([] : List Value).toArray }).push { cls := .ref C, data := .fields #[.ref h.objs.size, .none, .none, .none, .bool false, .none] } = h2
  have up : ∀ b o, h.get? b = some o → h2.get? b = some o := fun b o z => by rw [← hh]; exact Heap.get?_push_of_some _ (Heap.get?_push_of_some _ z)
  have ge : h2.get? (h.objs.size + 1) = some { cls := .ref C, data := .fields #[.ref h.objs.size, .none, .none, .none, .bool false, .none] } := by rw [← hh]; heap_get
  have gt : h2.get? h.objs.size = some { cls := .type "tuple", data := .seq ([] : List Value).toArray } := by rw [← hh]; exact Heap.get?_push_of_some _ (Heap.get?_push_at rfl rfl)
  have cC : (Value.ref C :: bm).contains (.ref C) = true := by simp
  have C2 := up _ _ hC
  unfold isInstance
  repeat (first | with_reducible refine wpAny_loadPart_at ge ?_ | (with_reducible refine wpAny_isSubtype_exc C2 ?_; rw [cC]) | wp_step)
  show wpAny _ _ (typeLookup (.ref C) _) _ _ _
  refine wpAny_typeLookup_tail C2 (hN.keeps up) (T.keeps up) F.mroIs F.init.lookup ?_
  rw [hi]
  refine wpAny_holding (wpAny_bind ?_)
  unfold bindSpecial
  refine wpAny_bind (wpAny_typeOf (T := "function") ⟨_, up _ _ hf, hfc⟩ ?_)
  rw [if_pos (by decide)]
  refine wpAny_pure (wpAny_bind (wpAny_mono (hq h2 (h.objs.size + 1) ⟨up, Heap.get?_none_of_le (Nat.le_succ _), h.objs.size, ge, Heap.get?_none_of_le (Nat.le_refl _), gt⟩) (fun r s' z => ?_) fun _ _ z => z))
  obtain ⟨rfl, z⟩ := z
  wp_walk
  exact z
theorem xs_call0 {Q : Value → Shared → Prop} (xa : XAt h C (some (.ref fI))) (hf : h.get? fI = some oI) (hfc : oI.cls = .type "function")
    (hq : ∀ h' e, Heap.MadeExcOf h h' e (.ref C) [] → wpAny (model prog w) (A.under (.builtin "type.__call__" ⟨[.ref C], []⟩)) (call (.ref fI) [.ref e]) (fun r s' => r = .none ∧ Q (.ref e) s') E ⟨h', g, d, t, os⟩) :
    wpAny (model prog w) A (call (.ref C) []) Q E ⟨h, g, d, t, os⟩ := by
  obtain ⟨nm, qn, N, bs, bm, sn, sub, ab, col, dd, k0, k1, k2, k3, k5, mN, hC, _, _, _⟩ := xa.out
  have f1 := tc_lookup
  have f2 := tc_bind (.ref C)
  have ty : (⟨h, g, d, t, os⟩ : Shared).TypeIs (.ref C) "type" := ⟨_, hC, rfl⟩
  refine wpAny_call (codeAny_of_tree ?_)
  show wpAny _ _ (callAny (.ref C) _) _ _ _
  repeat (any_goals (first | assumption | with_reducible refine wpAny_loadPart_at hC ?_ | wp_step))
  refine ⟨rfl, ?_⟩
  exact codeAny_call_builtin_at (Code.quiet_builtin _ (by decide +kernel)) entry_typeCall (wpAny_check_type_call_sub hC (xs_tcall0 xa hf hfc fun h' e me => hq h' e me))
end
/-- an own exception with __init__(self) that only calls super's -/
structure XIni0 (prog : Program) (K : Frag) (C LE fI : Addr) (fld : Str) : Prop where
  x1 : XK1 K C LE fld
  xc : xcIn K C (some (.ref fI)) = true
  kp : keepIn K (.ref C) = true
  su : nsIn K mainGlobals "super" = some none
  top : (prog.main.scope.names.lookup ("super" : Str)).isSome = false
  ex : ∃ (nm qual msg file : Str) (ps : Arguments) (body : List Stmt) (sc : Scope) (kV doc pm ct ccl cl : Value) (an od cdd cld : Option Addr) (osl ccs csl : Array (Option Value)) (cvs : Array Value) (tf : Tok) (ar : Arg) (cda cc : Addr)
    (a1 a2 a3 a4 a5 a6 : Pos) (kd : Nat) (pl : Env → Sem Bool),
    K.lookup fI = some ⟨.type "function", od, .func (ksFn nm qual ps body sc .none kV doc pm an (.ref cda) ct cc), osl⟩ ∧ codeIn K (.ref cda) qual = true ∧ K.lookup cda = some ⟨ccl, cdd, .fields cvs, ccs⟩ ∧ cvs[2]? = some (.str file tf) ∧ ((prog.main.file : Str) == file) = true ∧
    K.lookup cc = some ⟨cl, cld, .cell (some (.ref C)), csl⟩ ∧ ISc0 sc ∧ (ps.posonlyargs ++ ps.args).head? = some ar ∧ ar.arg = "self" ∧ (∀ e : Value, bindArgs (ksFn nm qual ps body sc .none kV doc pm an (.ref cda) ct cc) ⟨[e], []⟩ = pure [(("self" : Str), e)]) ∧
    body = [.Expr (.Call (.Attribute (.Call (.Name "super" a1) [] [] a2) "__init__" a3) [.Constant (.str msg) kd a4] [] a5) a6] ∧
    ∀ env, eval (.Call (.Attribute (.Call (.Name "super" a1) [] [] a2) "__init__" a3) [.Constant (.str msg) kd a4] [] a5) env = (do
      let ov ← attributeBase (.Call (.Name "super" a1) [] [] a2) "__init__" env (eval (.Call (.Name "super" a1) [] [] a2) env)
      standAt a3.atName
      let (f, first) ← holding [ov] (getMethod ov "__init__" (pl env))
      callWith a5 f first (backTo a5 (starEach [.Constant (.str msg) kd a4] env)) [])
section
variable {X : Cx} {C LE fI : Addr} {fld x : Str} {XR : St → XK} {np cpos pos : Pos}
theorem qs_raise0i (hx : Px X XR) (hc : X.calm = true) (hr : Room 2 X.A) (hg : Gl X x) (hm : X.mg x = some (.ref C)) (Z : XIni0 X.prog X.K C LE fI fld) (hdb : (x == ("__debug__" : Str)) = false) :
    PSw X (.Raise (some (.Call (.Name x np) [] [] cpos)) none pos) (tRaise0 C XR) := by
  refine ⟨fun pins s σ H D I h => ?_⟩
  rw [arm_exec_Raise]
  simp only [evalOpt, Option.map]
  refine wpAny_bind (wpAny_standAt (raise_made (C := C) (init := some (.ref fI)) (I.ok.hd hc) ?_))
  refine wpAny_bind (wpAny_mono (Q := fun v s₁ => ∃ e oe vs, v = .ref e ∧ XAt s₁.heap C (some (.ref fI)) ∧ s₁.heap.get? e = some oe ∧ oe.cls = .ref C ∧ oe.data = .fields vs ∧ vs[1]? = some .none ∧ X.xe (.ref e) s₁) ?_ (fun v s₃ h₃ => wpAny_bind (wpAny_standAt (wpAny_pure h₃))) fun _ _ z => z)
  refine wpAny_Call_Name_kw (ld_glob I hg hm ?_ hdb)
  refine PySem.W.callWith_K0 I.kIn Z.kp ?_
  obtain ⟨nm, qual, msg, file, ps, body, sc, kV, doc, pm, ct, ccl, cl, an, od, cdd, cld, osl, ccs, csl, cvs, tf, ar, cda, cc, a1, a2, a3, a4, a5, a6, kd, pl, z1, z2, z3, z4, z5, z6, z7, z8, z9, z10, z11, z12⟩ := Z.ex
  obtain ⟨hh, g, d, t1, os⟩ := s
  have hk : ∀ b o, X.base.get? b = some o → hh.get? b = some o := I.bk
  refine xs_call0 (xc_at I.kIn Z.xc) (I.kIn _ _ z1) rfl fun h1 e1 me => ?_
  obtain ⟨tp, q1, q2, q3⟩ := me.there
  have nb : X.base.get? e1 = none := by
    cases zz : X.base.get? e1 with
    | none => rfl
    | some o => have := hk _ _ zz; rw [me.new] at this; cases this
  have hsu : X.mg "super" = none := mg_none_of I.ok.mod.kin I.ok.mod.glob Z.su
  refine wpAny_call (codeAny_mono (R := fun r s' => r = .ok (.ret .none) ∧ ∃ e oe vs, Value.ref e1 = .ref e ∧ XAt s'.heap C (some (.ref fI)) ∧ s'.heap.get? e = some oe ∧ oe.cls = .ref C ∧ oe.data = .fields vs ∧ vs[1]? = some .none ∧ X.xe (.ref e) s') (xs_init0 (base := X.base) (fld := fld) (LE := LE) (C := C) I.ok.mod (fun b o z => me.keeps _ _ (hk _ _ z)) nb Z.x1 Z.xc (hr.make C [] []).depth z1 z2 z3 z4 z5 z6 hsu Z.top (by decide +kernel) z7 z8 z9 (z10 _) z11 z12 q1 rfl rfl rfl rfl fun h2 t2 T y1 y4 => ⟨rfl, e1, _, _, rfl, ?_, y1, rfl, rfl, rfl, ?_⟩) ?_)
  · exact (xc_at I.kIn Z.xc).keeps fun b o z => y4 _ _ (fun y => by rw [y] at z; rw [me.new] at z; cases z) (me.keeps _ _ z)
  · have kk : ∀ b o, hh.get? b = some o → h2.get? b = some o := fun b o z => y4 _ _ (fun y => by rw [y, me.new] at z; cases z) (me.keeps _ _ z)
    have hne : H e1 = none := I.hok.none me.new
    exact hx pins σ H ⟨hh, g, d, t1, os⟩ (.ref e1) ⟨h2, g, d, t2, os⟩ I ⟨e1, .ref C, none, H, rfl, rfl, I.bare, Un.kept kk, I.hok.kept kk, ⟨me.new, hne⟩, ⟨_, _, y1, rfl, rfl, rfl, by simp, .inl ⟨rfl, rfl⟩⟩, h⟩
  · rintro _ s' ⟨rfl, z⟩
    exact ⟨rfl, z⟩
end
/-- the text of an own __init__(self) -/
structure IBody0 (st : Stmt) : Prop where
  sc : ISc0 (defScope st)
  se : ∃ ar, ((defArgs st).posonlyargs ++ (defArgs st).args).head? = some ar ∧ ar.arg = "self"
  bd : ∀ (nm qual : Str) (kV doc pm : Value) (an : Option Addr) (cda : Value) (ct : Value) (cc : Addr) (e : Value), bindArgs (ksFn nm qual (defArgs st) (defBody st) (defScope st) .none kV doc pm an cda ct cc) ⟨[e], []⟩ = pure [(("self" : Str), e)]
  tx : ∃ (msg : Str) (a1 a2 a3 a4 a5 a6 : Pos) (kd : Nat) (pl : Env → Sem Bool), defBody st = [.Expr (.Call (.Attribute (.Call (.Name "super" a1) [] [] a2) "__init__" a3) [.Constant (.str msg) kd a4] [] a5) a6] ∧
    ∀ env, eval (.Call (.Attribute (.Call (.Name "super" a1) [] [] a2) "__init__" a3) [.Constant (.str msg) kd a4] [] a5) env = (do
      let ov ← attributeBase (.Call (.Name "super" a1) [] [] a2) "__init__" env (eval (.Call (.Name "super" a1) [] [] a2) env)
      standAt a3.atName
      let (f, first) ← holding [ov] (getMethod ov "__init__" (pl env))
      callWith a5 f first (backTo a5 (starEach [.Constant (.str msg) kd a4] env)) [])
theorem xini0_mk {prog : Program} {K : Frag} {C LE fI cda cc : Addr} {fld nm qual file : Str} {st : Stmt} {kV doc pm ct ccl cl : Value} {an od cdd cld : Option Addr} {osl ccs csl : Array (Option Value)} {cvs : Array Value} {tf : Tok}
    (T : IBody0 st) (x1 : xk1In K C LE fld = true) (xc : xcIn K C (some (.ref fI)) = true) (kp : keepIn K (.ref C) = true) (su : nsIn K mainGlobals "super" = some none) (top : (prog.main.scope.names.lookup ("super" : Str)).isSome = false)
    (lk : K.lookup fI = some ⟨.type "function", od, .func (ksFn nm qual (defArgs st) (defBody st) (defScope st) .none kV doc pm an (.ref cda) ct cc), osl⟩) (cd : codeIn K (.ref cda) qual = true) (hcode : K.lookup cda = some ⟨ccl, cdd, .fields cvs, ccs⟩) (hvs : cvs[2]? = some (.str file tf)) (hfile : ((prog.main.file : Str) == file) = true)
    (hcell : K.lookup cc = some ⟨cl, cld, .cell (some (.ref C)), csl⟩) : XIni0 prog K C LE fI fld := by
  obtain ⟨ar, s1, s2⟩ := T.se
  obtain ⟨msg, a1, a2, a3, a4, a5, a6, kd, pl, t1, t2⟩ := T.tx
  exact ⟨xk1_of x1, xc, kp, su, top, nm, qual, msg, file, _, _, _, kV, doc, pm, ct, ccl, cl, an, od, cdd, cld, osl, ccs, csl, cvs, tf, ar, cda, cc, a1, a2, a3, a4, a5, a6, kd, pl, lk, cd, hcode, hvs, hfile, hcell, T.sc, s1, s2, T.bd nm qual kV doc pm an (.ref cda) ct cc, t1, t2⟩
end L2

set_option maxRecDepth 100000
namespace Zt
open PySem PySem.Spec
section
variable {prog : Program} {w : World} {A : Around} {E : Value → Shared → Prop} {s : Shared}
theorem enum_next {e it : Addr} {fp : List Addr} {S : Nat → Heap → Prop} {nth : Nat → Option Value} {i : Nat} {x old : Value} {Q : Value → Shared → Prop} (R : Src it fp S nth)
    (he : IsEnum s.heap e it i old) (st : S i s.heap) (hx : nth i = some x) (hne : e ≠ it) (hef : e ∉ fp)
    (hQ : ∀ h', IsEnumOut h' e it ((i : Int) + 1) x s.heap.objs.size → S (i + 1) h' →
      h'.get? s.heap.objs.size = some { cls := .type "tuple", data := .seq #[.int i s.toks, x] } → 
      (∀ b o, b ≠ e → b ≠ it → s.heap.get? b = some o → h'.get? b = some o) → Q (.ref s.heap.objs.size) { s with heap := h', toks := s.toks + 1 }) :
    wpAny (model prog w) A (Builtin.«enumerate.__next__» ⟨[.ref e], []⟩) (fun fin s' => ∃ v, fin = .done (.ret v) ∧ Q v s') E s := by
  obtain ⟨hp, g, d, tk, os⟩ := s
  show wpAny _ _ (field (.ref e) 2 >>= _) _ _ _
  refine wpAny_bind (wpAny_field he rfl (x := .ref it) rfl ?_)
  refine wpAny_bind (R.item st hx fun h₁ st₁ hs₁ => ?_)
  replace hs₁ : Heap.SameBut it hp h₁ := hs₁
  have he₁ : IsEnum h₁ e it i old := (hs₁.2 e hne).trans he
  show wpAny _ _ (field (.ref e) 3 >>= _) _ _ ⟨h₁, g, d, tk, os⟩
  refine wpAny_bind (wpAny_field he₁ rfl (x := rawInt i) rfl ?_)
  show wpAny _ _ (field (.ref e) 4 >>= _) _ _ ⟨h₁, g, d, tk, os⟩
  refine wpAny_bind (wpAny_field he₁ rfl (x := .none) rfl ?_)
  show wpAny _ _ (mkInt i >>= _) _ _ ⟨h₁, g, d, tk, os⟩
  refine wpAny_bind (wpAny_mkInt ?_)
  show wpAny _ _ (setField (.ref e) 3 (rawInt ((i : Int) + 1)) >>= _) _ _ ⟨h₁, g, d, tk + 1, os⟩
  refine wpAny_bind (wpAny_setField_rec he₁ (by simp) fun h₂ he₂ hs₂ => ?_)
  replace hs₂ : Heap.SameBut e h₁ h₂ := hs₂
  replace he₂ : IsEnum h₂ e it ((i : Int) + 1) old := he₂
  show wpAny _ _ (setField (.ref e) 4 .none >>= _) _ _ ⟨h₂, g, d, tk + 1, os⟩
  refine wpAny_bind (wpAny_setField_rec he₂ (by simp) fun h₃ he₃ hs₃ => ?_)
  replace hs₃ : Heap.SameBut e h₂ h₃ := hs₃
  replace he₃ : IsEnum h₃ e it ((i : Int) + 1) old := he₃
  show wpAny _ _ (newTuple [.int i tk, x] >>= _) _ _ ⟨h₃, g, d, tk + 1, os⟩
  refine wpAny_bind (wpAny_newTuple ?_)
  have he₄ : IsEnum (h₃.push { cls := .type "tuple", data := .seq #[.int i tk, x] }) e it ((i : Int) + 1) old := Heap.get?_push_of_some _ he₃
  have st₄ : S (i + 1) (h₃.push { cls := .type "tuple", data := .seq #[.int i tk, x] }) := R.stay _ _ _ st₁ fun b hb o q =>
    Heap.get?_push_of_some _ (hs₃.extBut b o (fun z => hef (z ▸ hb)) (hs₂.extBut b o (fun z => hef (z ▸ hb)) q))
  generalize hh₄ : h₃.push { cls := .type "tuple", data := .seq #[.int i tk, x] } = h₄ at he₄ st₄
  have hsz : h₃.objs.size = hp.objs.size := by rw [hs₃.1, hs₂.1, hs₁.1]
  have hel : e < hp.objs.size := Heap.lt_size he
  have ht₄ : h₄.get? hp.objs.size = some { cls := .type "tuple", data := .seq #[.int i tk, x] } := by rw [← hh₄, ← hsz]; exact Heap.get?_push_size _ rfl
  have hk₄ : ∀ b o, b ≠ e → b ≠ it → hp.get? b = some o → h₄.get? b = some o := fun b o hbe hbi hb => by
    rw [← hh₄]; exact Heap.get?_push_of_some _ (hs₃.extBut b o hbe (hs₂.extBut b o hbe (hs₁.extBut b o hbi hb)))
  show wpAny _ _ (Builtin.SmallTypes.ownedTupleIsFree (.ref e) >>= _) _ _ ⟨h₄, g, d, tk + 1, os⟩
  rw [hsz]
  clear hh₄ he₃ hs₃ he₂ hs₂ he₁ hs₁ hsz st₁ h₃ h₂ h₁
  refine wpAny_bind ?_
  · unfold Builtin.SmallTypes.ownedTupleIsFree
    refine wpAny_bind (wpAny_field he₄ rfl (x := .none) rfl (wpAny_pure ?_))
    simp only [if_true]
    refine wpAny_bind (wpAny_rule ?_)
    refine wpAny_bind (wpAny_field he₄ rfl (x := old) rfl ?_)
    refine wpAny_bind (wpAny_setField_rec he₄ (by simp) fun h₅ he₅ hs₅ => ?_)
    replace hs₅ : Heap.SameBut e h₄ h₅ := hs₅
    replace he₅ : IsEnum h₅ e it ((i : Int) + 1) x := he₅
    show wpAny _ _ (Builtin.SmallTypes.ownedTupleHandOut (.ref e) (.ref hp.objs.size) >>= _) _ _ ⟨h₅, g, d, tk + 1, os⟩
    refine wpAny_bind ?_
    · unfold Builtin.SmallTypes.ownedTupleHandOut
      refine wpAny_bind (wpAny_setField_rec he₅ (by simp) fun h₆ he₆ hs₆ => ?_)
      replace hs₆ : Heap.SameBut e h₅ h₆ := hs₆
      replace he₆ : IsEnumOut h₆ e it ((i : Int) + 1) x hp.objs.size := he₆
      refine wpAny_setField_rec he₆ (by simp) fun h₇ he₇ hs₇ => ?_
      replace hs₇ : Heap.SameBut e h₆ h₇ := hs₇
      replace he₇ : IsEnumOut h₇ e it ((i : Int) + 1) x hp.objs.size := he₇
      refine wpAny_bind (wpAny_letGo (wpAny_pure ⟨_, rfl, hQ h₇ he₇ ?_ ?_ ?_⟩))
      · exact R.stay _ _ _ st₄ fun b hb o q => hs₇.extBut b o (fun z => hef (z ▸ hb)) (hs₆.extBut b o (fun z => hef (z ▸ hb)) (hs₅.extBut b o (fun z => hef (z ▸ hb)) q))
      · exact hs₇.extBut _ _ (Nat.ne_of_gt hel) (hs₆.extBut _ _ (Nat.ne_of_gt hel) (hs₅.extBut _ _ (Nat.ne_of_gt hel) ht₄))
      · exact fun b o hbe hbi hb => hs₇.extBut b o hbe (hs₆.extBut b o hbe (hs₅.extBut b o hbe (hk₄ b o hbe hbi hb)))
theorem enum_item {e it : Addr} {fp : List Addr} {S : Nat → Heap → Prop} {nth : Nat → Option Value} {i : Nat} {x old : Value} {Q : Option Value → Shared → Prop} (R : Src it fp S nth)
    (he : IsEnum s.heap e it i old) (st : S i s.heap) (hx : nth i = some x) (hne : e ≠ it) (hef : e ∉ fp)
    (hQ : ∀ h', IsEnumOut h' e it ((i : Int) + 1) x s.heap.objs.size → S (i + 1) h' →
      h'.get? s.heap.objs.size = some { cls := .type "tuple", data := .seq #[.int i s.toks, x] } → 
      (∀ b o, b ≠ e → b ≠ it → s.heap.get? b = some o → h'.get? b = some o) → Q (some (.ref s.heap.objs.size)) { s with heap := h', toks := s.toks + 1 }) :
    wpAny (model prog w) A (pyNext (.ref e)) Q E s := by
  have hT : s.TypeIs (.ref e) "enumerate" := ⟨_, he, rfl⟩
  unfold pyNext
  exact wpAny_bind (wpAny_attempt (wpAny_callSpecial?_slot (name := Str.ofString "__next__") hT F.slot_enumerate_next
    (wpAny_call_entry F.slot_enumerate_next hT F.entry_enumerate_next
      (enum_next R he st hx hne hef fun h' a b c k => wpAny_pure (hQ h' a b c k)) (F.args_enumerate_next_1 _))))
theorem enum_end {e it : Addr} {fp : List Addr} {S : Nat → Heap → Prop} {nth : Nat → Option Value} {i : Nat} {old : Value} {Q : Option Value → Shared → Prop} (R : Src it fp S nth) (hh : A.handled = none)
    (he : IsEnum s.heap e it i old) (st : S i s.heap) (hx : nth i = none)
    (hQ : ∀ h', Heap.ExtBut it s.heap h' → Q none { s with heap := h' }) : wpAny (model prog w) A (pyNext (.ref e)) Q E s := by
  have hT : s.TypeIs (.ref e) "enumerate" := ⟨_, he, rfl⟩
  unfold pyNext
  refine wpAny_bind (wpAny_attempt (wpAny_callSpecial?_slot (name := Str.ofString "__next__") hT F.slot_enumerate_next
    (wpAny_call_entry F.slot_enumerate_next hT F.entry_enumerate_next ?_ (F.args_enumerate_next_1 _))))
  show wpAny _ _ (field (.ref e) 2 >>= _) _ _ _
  refine wpAny_bind (wpAny_field he rfl (x := .ref it) rfl ?_)
  refine wpAny_bind (R.fin hh st hx fun h' x he' hx' => ?_)
  obtain ⟨o, ho, hc⟩ := hx'
  refine wpAny_bind (wpAny_isInstance (T := "StopIteration") (b := true) ⟨o, ho, hc⟩ isSubtype_stop ?_)
  exact wpAny_pure (hQ _ he')
theorem meets_enumT (l : Addr) (items : Array Value) :
    Meets (Builtin.«enumerate.__new__» ⟨[.type "enumerate", .ref l], []⟩) (fun _ R s => s.heap.IsTuple l items ∧
      R (.ok (.ret (.ref (g1 s.heap l).objs.size))) { s with heap := (g1 s.heap l).push { cls := .type "enumerate", data := .fields #[.none, .bool false, .ref s.heap.objs.size, rawInt 0, .none, .none] } }) :=
  .of_wp fun prog w A R s h => by
    obtain ⟨hp, g, d, tk, os⟩ := s; obtain ⟨hl, h⟩ := h
    have hsub := sub_enumerate
    have hL : Heap.IsTuple (Shared.heap ⟨hp, g, d, tk, os⟩) l items := hl
    obtain ⟨ol, hol, hlc, nl, hdl⟩ := id hl
    wp_walk using AutoSeq1.wpAny_loadPart' hol
    refine wpAny_stack_any fun st => wpAny_pure ?_
    split
    · rename_i c _ _ _ _ _
      cases (c == Value.type "enumerate")
      · wp_walk using AutoSeq1.wpAny_loadPart' hol, wpAny_pyIter_tuple hL
        exact ⟨_, rfl, h⟩
      · wp_walk using AutoSeq1.wpAny_loadPart' hol, wpAny_pyIter_tuple hL
        exact ⟨_, rfl, h⟩
    · wp_walk using AutoSeq1.wpAny_loadPart' hol, wpAny_pyIter_tuple hL
      exact ⟨_, rfl, h⟩
theorem call_enumT {l : Addr} {items : Array Value} {Q : Value → Shared → Prop} (hl : s.heap.IsTuple l items)
    (h : ∀ h', IsEnum h' (s.heap.objs.size + 1) s.heap.objs.size 0 .none → h'.IsTupleIter s.heap.objs.size l 0 →
      (∀ b o, s.heap.get? b = some o → h'.get? b = some o) → Q (.ref (s.heap.objs.size + 1)) { s with heap := h' }) :
    wpAny (model prog w) A (call (.type "enumerate") [.ref l]) Q E s := by
  refine callType_new F.called_enumerate (by decide) (F.typeCall_enumerate_1 _) (F.newCall_enumerate_1 _) (fun obj => F.args_object_init_2 obj _) F.entry_enumerate_new
    (meets_enumT l items) ⟨hl, ?_⟩
  have hz : (g1 s.heap l).objs.size = s.heap.objs.size + 1 := Heap.size_push ..
  show _ ∧ _
  rw [hz]
  have he : IsEnum ((g1 s.heap l).push { cls := .type "enumerate", data := .fields #[.none, .bool false, .ref s.heap.objs.size, rawInt 0, .none, .none] }) (s.heap.objs.size + 1) s.heap.objs.size 0 .none := by
    have := Heap.get?_push_size (g1 s.heap l) (o := { cls := .type "enumerate", data := .fields #[.none, .bool false, .ref s.heap.objs.size, rawInt 0, .none, .none] }) rfl
    rw [hz] at this; exact this
  exact ⟨⟨_, he, rfl⟩, h _ he ⟨_, Heap.get?_push_of_some _ (Heap.get?_push_size _ rfl), rfl, rfl⟩ fun b o x => Heap.get?_push_of_some _ (Heap.get?_push_of_some _ x)⟩
end
end Zt
namespace L2
open PySem PySem.Spec PyProof.Rows
/-- enumerate of the tuple at a: each turn lays a new pair -/
def Ite (K : PySem.W.Frag) (a : Addr) : It :=
  ⟨fun i H => ∃ xs x, SqT K H a xs ∧ xs[i]? = some x,
   fun i H v H' => ∃ p x, H p = none ∧ (∀ xs, SqT K H a xs → xs[i]? = some x) ∧ v = .ref p ∧ H' = upd H p (.tup [.int i, x]),
   fun i H => ∃ xs, SqT K H a xs ∧ xs.length ≤ i⟩
theorem turn_enum {P : Program} {w : World} {K : PySem.W.Frag} {es : List Expr} {k : Nat} {ps : Pos} {e it a : Addr} (na : a ≠ it) (nea : e ≠ a) (nei : e ≠ it) :
    Turn P w K (.Tuple es k ps) (Ite K a) [e, it] e (fun n h => (∃ old, IsEnum h e it n old) ∧ h.IsTupleIter it a n) where
  mem := by simp
  obj := by
    rintro n h ⟨⟨old, hz⟩, ⟨o1, e1, c1, d1⟩⟩ c hc
    simp only [List.mem_cons, List.not_mem_nil, or_false] at hc
    rcases hc with rfl | rfl
    · exact ⟨_, hz, fun v q => nomatch q⟩
    · exact ⟨o1, e1, fun v q => by rw [d1] at q; cases q⟩
  keep := by
    rintro n h h' ⟨⟨old, hz⟩, ⟨o1, e1, r1⟩⟩ kp
    exact ⟨⟨old, kp e (by simp) _ hz⟩, ⟨o1, kp it (by simp) _ e1, r1⟩⟩
  item := by
    intro X hP hw hK hc i pins s σ H E I hf st hg
    subst hP hw hK
    obtain ⟨⟨old, hz⟩, hi1⟩ := st
    obtain ⟨xs, x, qx, hx⟩ := hg
    obtain ⟨us, rx, px, zx⟩ := I.tuple qx
    obtain ⟨ux, hux, rux⟩ := rx.get hx
    refine Zt.enum_item (Zt.srcT it a na us.toArray) hz ⟨hi1, px⟩ (x := ux) (by simpa using hux) nei (by simp [nei, nea]) fun h' z1 s1 t2 kp => ⟨_, rfl, ?_⟩
    refine wpAny_letOwnedTupleGo_enum (s := { s with heap := h', toks := s.toks + 1 }) z1 fun h'' z2 sb => ?_
    have kp2 : ∀ c o, c ∉ [e, it] → s.heap.get? c = some o → h''.get? c = some o := fun c o hc q => by
      simp only [List.mem_cons, List.not_mem_nil, or_false, not_or] at hc
      exact sb.extBut _ _ hc.1 (kp c o hc.1 hc.2 q)
    have nz : s.heap.objs.size ≠ e := Nat.ne_of_gt (Heap.lt_size hz)
    have J : Inv X pins σ H { s with heap := h'', toks := s.toks + 1 } := I.spun (t' := s.toks + 1) hf kp2
    have t3 := sb.extBut _ _ nz t2
    refine ⟨.ref s.heap.objs.size, upd H s.heap.objs.size (.tup [.int i, x]), I.track J (Nat.le_refl _) ⟨by show 2 ≤ sizeLine; decide, [.int i s.toks, ux], .cons ⟨_, rfl⟩ (.cons rux .nil), ⟨_, t3, rfl, _, rfl⟩⟩, rfl, ⟨_, x, I.hok.fresh (Nat.le_refl _), fun zs h => ?_, rfl, rfl⟩, ?_, fun c hc => ?_⟩
    · rw [I.tuple_inj h qx]; exact hx
    · refine ⟨⟨ux, ?_⟩, s1.1.extBut sb.extBut (Ne.symm nei)⟩
      have : ((i + 1 : Nat) : Int) = (i : Int) + 1 := by omega
      rw [this]; exact z2
    · have q : c ≠ s.heap.objs.size := by
        simp only [List.mem_cons, List.not_mem_nil, or_false] at hc
        obtain ⟨o1, e1, _⟩ := hi1
        rcases hc with rfl | rfl
        · exact Nat.ne_of_lt (Heap.lt_size hz)
        · exact Nat.ne_of_lt (Heap.lt_size e1)
      rw [upd_ne q]; exact (hf c hc).1
  done := by
    intro X hP hw hK hc i pins s σ H E I hf st hg
    subst hP hw hK
    obtain ⟨⟨old, hz⟩, hi1⟩ := st
    obtain ⟨xs, qx, hend⟩ := hg
    obtain ⟨us, rx, px, zx⟩ := I.tuple qx
    have lx := rx.length
    refine Zt.enum_end (Zt.srcT it a na us.toArray) (I.ok.hd hc) hz ⟨hi1, px⟩ (i := i) (by simp; omega) fun h' kp => ⟨rfl, ?_⟩
    refine I.spun (t' := s.toks) hf fun c o hc q => ?_
    simp only [List.mem_cons, List.not_mem_nil, or_false, not_or] at hc
    exact kp c o hc.2 q
  self := by
    rintro A n s Q E ⟨⟨old, hz⟩, _⟩ h
    exact wpAny_pyIter_enum hz h
/-- for i, x in enumerate(t), a tuple -/
def iEnum (K : PySem.W.Frag) (ta : TA) : TI := fun σ H R => ta σ H fun vs H1 => ∃ a, vs = [.ref a] ∧ (∃ xs, SqT K H1 a xs) ∧ R (Ite K a) H1
theorem pi_enum {X : Cx} {es : List Expr} {k : Nat} {ps p pos : Pos} {e1 : Expr} {ta : TA} (hg : Gl X "enumerate") (hm : X.mg "enumerate" = none) (ha : PA X [e1] ta)
    (hs : starEach [e1] X.env = [(false, eval e1 X.env)]) (hv : bootBuiltins "enumerate" = some (.type "enumerate") := by decide +kernel) :
    PI X (.Tuple es k ps) (.Call (.Name "enumerate" p) [e1] [] pos) (iEnum X.K ta) := by
  intro pins s σ H R I h
  refine Call_ (ld_blt I hg hm hv (PyProof.Rows.callWith_type1 (thn (ha pos pins s σ H _ I h) fun us s1 ⟨vs, H1, I1, r1, q1⟩ => ?_) hs rfl))
  obtain ⟨a, rfl, ⟨xs, qx⟩, q⟩ := q1
  obtain ⟨u, rfl, ra⟩ := vals1 r1
  cases ra
  obtain ⟨us, rx, px, zx⟩ := I1.tuple qx
  refine Zt.call_enumT (items := us.toArray) px fun h' hz h1 kp => ?_
  refine wpAny_pyIter_enum (s := { s1 with heap := h' }) hz ?_
  have la : a < s1.heap.objs.size := by obtain ⟨o, e, _⟩ := px; exact Heap.lt_size e
  have J : Inv X pins σ H1 { s1 with heap := h' } := I1.kept (t' := s1.toks) kp
  refine ⟨_, [s1.heap.objs.size + 1, s1.heap.objs.size], _, Ite X.K a, H1, rfl, J, turn_enum (a := a) (Nat.ne_of_lt la) ?_ (Nat.ne_of_gt (Nat.lt_succ_self _)), ⟨⟨_, hz⟩, h1⟩, fun c hc => ?_, q⟩
  · exact Nat.ne_of_gt (Nat.lt_succ_of_lt la)
  · have le : s1.heap.objs.size ≤ c := by
      simp only [List.mem_cons, List.not_mem_nil, or_false] at hc
      rcases hc with rfl | rfl
      · exact Nat.le_add_right _ _
      · exact Nat.le_refl _
    exact I1.fpOk le (I1.hok.fresh le)
theorem qi_enum {X : Cx} {es : List Expr} {k : Nat} {ps p pos : Pos} {a : Expr} {ta : TA} (hg : Gl X "enumerate") (hm : X.mg "enumerate" = none) (ha : PAs X [a] ta) (h1 : notStar a = true) : PI X (.Tuple es k ps) (.Call (.Name "enumerate" p) [a] [] pos) (iEnum X.K ta) :=
  pi_enum hg hm ha.run (star_ne h1)
theorem rd_ienum {K : PySem.W.Frag} {ta : TA} {σ : St} {H : Hp} {R : It → Hp → Prop} (h : ta σ H fun vs H1 => ∃ a, vs = [.ref a] ∧ (∃ xs, SqT K H1 a xs) ∧ R (Ite K a) H1) : iEnum K ta σ H R := h
theorem for_enumW {K : PySem.W.Frag} {a : Addr} {xs : List V} {g : TG} {tb : TS} {D : Ends} {σ : St} {H : Hp} (Pv : Nat → St → Hp → Prop) (h0 : Pv 0 σ H) (hl : ∀ i σ H, i ≤ xs.length → Pv i σ H → SqT K H a xs)
    (hs : ∀ i x σ H p, xs[i]? = some x → Pv i σ H → H p = none → g (.ref p) σ (upd H p (.tup [.int i, x])) fun σ2 H2 => tb { D with nx := Pv (i + 1), ct := Pv (i + 1), bk := D.nx } σ2 H2) (hd : ∀ σ H, Pv xs.length σ H → D.nx σ H) : ForW (Ite K a) g tb D σ H := by
  refine ⟨fun i m σ H => m = xs.length - i ∧ i ≤ xs.length ∧ Pv i σ H, ⟨xs.length, rfl, Nat.zero_le _, h0⟩, ?_⟩
  rintro i m σ H ⟨rfl, hi, hp⟩
  have hq := hl i σ H hi hp
  by_cases hlt : i < xs.length
  · refine .inr ⟨⟨xs, xs[i], hq, by simp [hlt]⟩, Pv (i + 1), fun σ' H' q => ⟨xs.length - (i + 1), by omega, rfl, by omega, q⟩, ?_⟩
    rintro v H' ⟨p, x, np, hx, rfl, rfl⟩
    exact hs i x σ H p (hx xs hq) hp np
  · have e : i = xs.length := by omega
    subst e
    exact .inl ⟨⟨xs, hq, Nat.le_refl _⟩, hd σ H hp⟩
end L2

namespace Mt
open PySem L2
theorem chk_last : ∀ {r : List (Int × Int)} {l f : Int} {q : Int × Int}, chk l f (r.map pr ++ [pr q]) = true → l < q.1
  | [], l, f, q, h => by
    have h' : (decide (l < q.1) && decide (q.1 ≤ 1000000000) && decide (f ≤ q.2) && decide (q.2 ≤ 1000000) && chk q.1 q.2 []) = true := h
    simp only [Bool.and_eq_true, decide_eq_true_eq] at h'
    exact h'.1.1.1.1
  | p :: r, l, f, q, h => by
    have h' : (decide (l < p.1) && decide (p.1 ≤ 1000000000) && decide (f ≤ p.2) && decide (p.2 ≤ 1000000) && chk p.1 p.2 (r.map pr ++ [pr q])) = true := h
    simp only [Bool.and_eq_true, decide_eq_true_eq] at h'
    have := chk_last h'.2
    omega
theorem twice_not (p : Int × Int) (r : List (Int × Int)) : histD (.tuple ((p :: r).map pr ++ [pr p])) = false := by
  cases h : histD (.tuple ((p :: r).map pr ++ [pr p])) with
  | false => rfl
  | true =>
    have h' : (decide (1 ≤ ((p :: r).map pr ++ [pr p]).length) && decide (((p :: r).map pr ++ [pr p]).length ≤ 60) && chk (-1) 0 ((p :: r).map pr ++ [pr p]) && first0 ((p :: r).map pr ++ [pr p])) = true := h
    simp only [Bool.and_eq_true] at h'
    have h2 : (decide (-1 < p.1) && decide (p.1 ≤ 1000000000) && decide (0 ≤ p.2) && decide (p.2 ≤ 1000000) && chk p.1 p.2 (r.map pr ++ [pr p])) = true := h'.1.2
    simp only [Bool.and_eq_true] at h2
    have := chk_last h2.2
    omega
theorem cut1 (d : PyData) (r : List PyData) : cutD (d :: r) none (some 1) = [d] := by
  unfold cutD
  have h1 : HT.sIx (d :: r).length 0 none = 0 := rfl
  have h2 : HT.sIx (d :: r).length (d :: r).length (some 1) = 1 := by
    simp [HT.sIx]
  rw [h1, h2]
  rfl
end Mt
namespace Mt
open PySem L2
/-- pairs of numbers, one behind another -/
theorem map_tupOnly : ∀ (hs : List (Int × Int)), tupOnlyAll (hs.map pr) = true
  | [] => rfl
  | p :: r => by
    rw [List.map_cons]
    simp only [tupOnlyAll, map_tupOnly r, Bool.and_true]
    rfl
theorem map_depth : ∀ (hs : List (Int × Int)), PyData.depthAll (hs.map pr) ≤ 1
  | [] => Nat.zero_le _
  | p :: r => by
    rw [List.map_cons]
    simp only [PyData.depthAll]
    exact Nat.max_le.mpr ⟨Nat.le_refl _, map_depth r⟩
theorem alike_map (hs : List (Int × Int)) : alikeD (.tuple (hs.map pr)) (.tuple (hs.map pr)) = true := by
  have : alikeAll (hs.map pr) (hs.map pr) = true := by
    refine alikeAll_true rfl fun i d e h1 h2 => ?_
    rw [h1] at h2; cases h2
    rw [List.getElem?_map] at h1
    obtain ⟨p, _, rfl⟩ := Option.map_eq_some_iff.mp h1
    show alikeD (.tuple [.int p.1, .int p.2]) (.tuple [.int p.1, .int p.2]) = true
    rw [alike_pair]; simp
  simp only [alikeD, subs, this]
end Mt

set_option maxRecDepth 100000
namespace Zt
open PySem PySem.Spec
theorem srcL (i t : Addr) (hne : t ≠ i) (its : Array Value) : Src i [i, t] (fun k h => h.IsListIter i t k ∧ h.IsList t its) (fun k => its[k]?) where
  mem := List.mem_cons_self
  stay := by
    rintro k h h' ⟨⟨o, e, r⟩, ⟨o2, e2, r2⟩⟩ hk
    exact ⟨⟨o, hk i (by simp) o e, r⟩, ⟨o2, hk t (by simp) o2 e2, r2⟩⟩
  obj := by
    rintro k h ⟨⟨o, e, c, d⟩, _⟩
    exact ⟨o, e, fun v z => by rw [d] at z; cases z⟩
  item := by
    rintro prog w A E s Q k x ⟨hit, ht⟩ hx hQ
    exact wpAny_nextOf_list_item hit ht hx fun h' z sb => hQ h' ⟨z, ht.extBut sb.extBut hne⟩ sb
  fin := by
    rintro prog w A E s Q k hh ⟨hit, ht⟩ hx hE
    exact wpAny_nextOf_list_end hh hit ht hx hE
theorem plainL_is {h : Heap} {a : Addr} {its : Array Value} (x : PySem.PlainL h a its) : h.IsList a its := by
  obtain ⟨o, n, e, c, _, d⟩ := x
  exact ⟨o, e, c, n, d⟩
abbrev gl1 (h : Heap) (l1 : Addr) : Heap := h.push { cls := .type "list_iterator", data := .fields #[.ref l1, .int 0 0] }
abbrev gl2 (h : Heap) (l1 l2 : Addr) : Heap := (gl1 h l1).push { cls := .type "list_iterator", data := .fields #[.ref l2, .int 0 0] }
abbrev gl3 (h : Heap) (l1 l2 : Addr) : Heap := (gl2 h l1 l2).push { cls := .type "tuple", data := .seq #[.ref h.objs.size, .ref (gl1 h l1).objs.size] }
abbrev gl4 (h : Heap) (l1 l2 : Addr) : Heap := (gl3 h l1 l2).push { cls := .type "tuple", data := .seq #[.none, .none] }
abbrev gl5 (h : Heap) (l1 l2 : Addr) : Heap := (gl4 h l1 l2).push { cls := .type "zip", data := .fields #[.none, .bool false, .bool false, .ref (gl2 h l1 l2).objs.size, .ref (gl3 h l1 l2).objs.size] }

theorem meets_newL (l1 l2 : Addr) (xs ys : Array Value) :
    Meets (Builtin.«zip.__new__» ⟨[.type "zip", .ref l1, .ref l2], []⟩) (fun _ R s => s.heap.IsList l1 xs ∧ s.heap.IsList l2 ys ∧
      R (.ok (.ret (.ref (gl4 s.heap l1 l2).objs.size))) { s with heap := gl5 s.heap l1 l2 }) :=
  .of_wp fun prog w A R s h => by
    obtain ⟨hp, g, d, tk, os⟩ := s; obtain ⟨hl1, hl2, h⟩ := h
    have hsub := sub_zip
    have hL1 : Heap.IsList (Shared.heap ⟨hp, g, d, tk, os⟩) l1 xs := hl1
    have hL2 : Heap.IsList (Shared.heap ⟨hp.push { cls := .type "list_iterator", data := .fields #[.ref l1, .int 0 0] }, g, d, tk, os⟩) l2 ys := Heap.IsList.push hl2 _
    wp_walk using wpAny_pyIter_list hL1, wpAny_pyIter_list hL2
    exact ⟨_, rfl, h⟩

theorem call_zipL {prog : Program} {w : World} {A : Around} {E : Value → Shared → Prop} {s : Shared} {l1 l2 : Addr} {xs ys : Array Value} {Q : Value → Shared → Prop} (hl1 : s.heap.IsList l1 xs) (hl2 : s.heap.IsList l2 ys)
    (h : ∀ h', IsZip h' (s.heap.objs.size + 4) (s.heap.objs.size + 2) (s.heap.objs.size + 3) .none → IsPair h' (s.heap.objs.size + 2) (.ref s.heap.objs.size) (.ref (s.heap.objs.size + 1)) →
      IsPair h' (s.heap.objs.size + 3) .none .none → h'.IsListIter s.heap.objs.size l1 0 → h'.IsListIter (s.heap.objs.size + 1) l2 0 →
      (∀ c o, s.heap.get? c = some o → h'.get? c = some o) → Q (.ref (s.heap.objs.size + 4)) { s with heap := h' }) :
    wpAny (model prog w) A (call (.type "zip") [.ref l1, .ref l2]) Q E s := by
  refine callType_new F.called_zip (by decide) (F.typeCall_zip_2 _ _) (F.newCall_zip_2 _ _) (fun obj => F.args_object_init_3 obj _ _) F.entry_zip_new (meets_newL l1 l2 xs ys) ⟨hl1, hl2, ?_⟩
  have z1 : (gl1 s.heap l1).objs.size = s.heap.objs.size + 1 := Heap.size_push ..
  have z2 : (gl2 s.heap l1 l2).objs.size = s.heap.objs.size + 2 := by rw [Heap.size_push, z1]
  have z3 : (gl3 s.heap l1 l2).objs.size = s.heap.objs.size + 3 := by rw [Heap.size_push, z2]
  have z4 : (gl4 s.heap l1 l2).objs.size = s.heap.objs.size + 4 := by rw [Heap.size_push, z3]
  have q5 : (gl5 s.heap l1 l2).get? (gl4 s.heap l1 l2).objs.size = some _ := Heap.get?_push_size _ rfl
  have q4 : (gl5 s.heap l1 l2).get? (gl3 s.heap l1 l2).objs.size = some _ := Heap.get?_push_of_some _ (Heap.get?_push_size _ rfl)
  have q3 : (gl5 s.heap l1 l2).get? (gl2 s.heap l1 l2).objs.size = some _ := Heap.get?_push_of_some _ (Heap.get?_push_of_some _ (Heap.get?_push_size _ rfl))
  have q2 : (gl5 s.heap l1 l2).get? (gl1 s.heap l1).objs.size = some _ := Heap.get?_push_of_some _ (Heap.get?_push_of_some _ (Heap.get?_push_of_some _ (Heap.get?_push_size _ rfl)))
  have q1 : (gl5 s.heap l1 l2).get? s.heap.objs.size = some _ := Heap.get?_push_of_some _ (Heap.get?_push_of_some _ (Heap.get?_push_of_some _ (Heap.get?_push_of_some _ (Heap.get?_push_size _ rfl))))
  show _ ∧ _
  rw [z2, z3, z4] at q5; rw [z1, z2] at q3; rw [z3] at q4; rw [z1] at q2; rw [z4]
  exact ⟨⟨_, q5, rfl⟩, h _ q5 q3 q4 ⟨_, q1, rfl, rfl⟩ ⟨_, q2, rfl, rfl⟩ fun c o x =>
    Heap.get?_push_of_some _ (Heap.get?_push_of_some _ (Heap.get?_push_of_some _ (Heap.get?_push_of_some _ (Heap.get?_push_of_some _ x))))⟩
end Zt


namespace L2
open PySem PySem.Spec PyProof.Rows
/-- zip of the tuples at a and b: each turn lays a new pair -/
def ItzL (K : PySem.W.Frag) (a b : Addr) : It :=
  ⟨fun i H => ∃ xs ys x y, SqL K H a xs ∧ SqL K H b ys ∧ xs[i]? = some x ∧ ys[i]? = some y,
   fun i H v H' => ∃ p x y, H p = none ∧ (∀ xs, SqL K H a xs → xs[i]? = some x) ∧ (∀ ys, SqL K H b ys → ys[i]? = some y) ∧ v = .ref p ∧ H' = upd H p (.tup [x, y]),
   fun i H => ∃ xs ys, SqL K H a xs ∧ SqL K H b ys ∧ (xs.length ≤ i ∨ ys.length ≤ i)⟩
theorem turn_zipL {P : Program} {w : World} {K : PySem.W.Frag} {es : List Expr} {k : Nat} {ps : Pos} {z TI TO i1 i2 a b : Addr}
    (na : a ≠ i1) (nb : b ≠ i2) (D : Zt.Apart z TI TO i1 i2 [i1, a] [i2, b]) :
    Turn P w K (.Tuple es k ps) (ItzL K a b) [z, TI, TO, i1, i2] z (fun n h => IsZip h z TI TO .none ∧ IsPair h TI (.ref i1) (.ref i2) ∧ (∃ u v, IsPair h TO u v) ∧ h.IsListIter i1 a n ∧ h.IsListIter i2 b n) where
  mem := by simp
  obj := by
    rintro n h ⟨hz, hTI, ⟨u, v, hTO⟩, ⟨o1, e1, c1, d1⟩, ⟨o2, e2, c2, d2⟩⟩ c hc
    simp only [List.mem_cons, List.not_mem_nil, or_false] at hc
    rcases hc with rfl | rfl | rfl | rfl | rfl
    · exact ⟨_, hz, fun v q => nomatch q⟩
    · exact ⟨_, hTI, fun v q => nomatch q⟩
    · exact ⟨_, hTO, fun v q => nomatch q⟩
    · exact ⟨o1, e1, fun v q => by rw [d1] at q; cases q⟩
    · exact ⟨o2, e2, fun v q => by rw [d2] at q; cases q⟩
  keep := by
    rintro n h h' ⟨hz, hTI, ⟨u, v, hTO⟩, ⟨o1, e1, r1⟩, ⟨o2, e2, r2⟩⟩ kp
    exact ⟨kp z (by simp) _ hz, kp TI (by simp) _ hTI, ⟨u, v, kp TO (by simp) _ hTO⟩, ⟨o1, kp i1 (by simp) _ e1, r1⟩, ⟨o2, kp i2 (by simp) _ e2, r2⟩⟩
  item := by
    intro X hP hw hK hc i pins s σ H E I hf st hg
    subst hP hw hK
    obtain ⟨hz, hTI, ⟨u, v, hTO⟩, hi1, hi2⟩ := st
    obtain ⟨xs, ys, x, y, qx, qy, hx, hy⟩ := hg
    obtain ⟨us, rx, px, zx⟩ := I.list qx
    obtain ⟨ws, ry, py, zy⟩ := I.list qy
    obtain ⟨ux, hux, rux⟩ := rx.get hx
    obtain ⟨uy, huy, ruy⟩ := ry.get hy
    refine Zt.py_item (Zt.srcL i1 a na us.toArray) (Zt.srcL i2 b nb ws.toArray) D hz hTI hTO ⟨hi1, Zt.plainL_is px⟩ ⟨hi2, Zt.plainL_is py⟩ (x := ux) (y := uy) (by simpa using hux) (by simpa using huy) fun h' z1 t1 s1 s2 t2 kp => ⟨_, rfl, ?_⟩
    refine wpAny_letOwnedTupleGo_zip (s := { s with heap := h' }) z1 fun h'' z2 sb => ?_
    have kp2 : ∀ c o, c ∉ [z, TI, TO, i1, i2] → s.heap.get? c = some o → h''.get? c = some o := fun c o hc e => by
      simp only [List.mem_cons, List.not_mem_nil, or_false, not_or] at hc
      exact sb.extBut _ _ hc.1 (kp c o hc.1 hc.2.2.1 hc.2.2.2.1 hc.2.2.2.2 e)
    have nz : s.heap.objs.size ≠ z := Nat.ne_of_gt (Heap.lt_size hz)
    have J : Inv X pins σ H { s with heap := h'' } := I.spun (t' := s.toks) hf kp2
    have t3 : IsPair h'' s.heap.objs.size ux uy := sb.extBut _ _ nz t2
    refine ⟨.ref s.heap.objs.size, upd H s.heap.objs.size (.tup [x, y]), I.track J (Nat.le_refl _) ⟨by show 2 ≤ sizeLine; decide, [ux, uy], .cons rux (.cons ruy .nil), ⟨_, t3, rfl, _, rfl⟩⟩, rfl, ⟨_, x, y, I.hok.fresh (Nat.le_refl _), fun zs h => ?_, fun zs h => ?_, rfl, rfl⟩, ?_, fun c hc => ?_⟩
    · rw [I.list_inj h qx]; exact hx
    · rw [I.list_inj h qy]; exact hy
    · exact ⟨z2, sb.extBut _ _ D.TIz (kp TI _ D.TIz D.TITO D.TIi1 D.TIi2 hTI), ⟨ux, uy, sb.extBut _ _ D.TOz t1⟩, s1.1.extBut sb.extBut D.i1z, s2.1.extBut sb.extBut D.i2z⟩
    · have e : c ≠ s.heap.objs.size := by
        simp only [List.mem_cons, List.not_mem_nil, or_false] at hc
        obtain ⟨o1, e1, _⟩ := hi1; obtain ⟨o2, e2, _⟩ := hi2
        rcases hc with rfl | rfl | rfl | rfl | rfl
        · exact Nat.ne_of_lt (Heap.lt_size hz)
        · exact Nat.ne_of_lt (Heap.lt_size hTI)
        · exact Nat.ne_of_lt (Heap.lt_size hTO)
        · exact Nat.ne_of_lt (Heap.lt_size e1)
        · exact Nat.ne_of_lt (Heap.lt_size e2)
      rw [upd_ne e]; exact (hf c hc).1
  done := by
    intro X hP hw hK hc i pins s σ H E I hf st hg
    subst hP hw hK
    obtain ⟨hz, hTI, ⟨u, v, hTO⟩, hi1, hi2⟩ := st
    obtain ⟨xs, ys, qx, qy, hend⟩ := hg
    obtain ⟨us, rx, px, zx⟩ := I.list qx
    obtain ⟨ws, ry, py, zy⟩ := I.list qy
    have lx := rx.length
    have ly := ry.length
    refine Zt.py_end (I.ok.hd hc) (Zt.srcL i1 a na us.toArray) (Zt.srcL i2 b nb ws.toArray) D hz hTI hTO ⟨hi1, Zt.plainL_is px⟩ ⟨hi2, Zt.plainL_is py⟩ (k1 := i) (k2 := i) (hend.imp (fun h => by simp; omega) (fun h => by simp; omega)) fun h' kp => ⟨rfl, ?_⟩
    refine I.spun (t' := s.toks) hf fun c o hc e => ?_
    simp only [List.mem_cons, List.not_mem_nil, or_false, not_or] at hc
    exact kp c o hc.1 hc.2.2.1 hc.2.2.2.1 hc.2.2.2.2 e
  self := by
    rintro A n s Q E ⟨hz, _⟩ h
    exact wpAny_pyIter_zip hz h
/-- for a, b in zip(t, u), two tuples -/
def iZipL (K : PySem.W.Frag) (ta : TA) : TI := fun σ H R => ta σ H fun vs H1 => ∃ a b, vs = [.ref a, .ref b] ∧ (∃ xs, SqL K H1 a xs) ∧ (∃ ys, SqL K H1 b ys) ∧ R (ItzL K a b) H1
theorem pi_zipL {X : Cx} {es : List Expr} {k : Nat} {ps p pos : Pos} {e1 e2 : Expr} {ta : TA} (hg : Gl X "zip") (hm : X.mg "zip" = none) (ha : PA X [e1, e2] ta)
    (hs : starEach [e1, e2] X.env = [(false, eval e1 X.env), (false, eval e2 X.env)] := by rfl) (hs2 : starEach [e2] X.env = [(false, eval e2 X.env)] := by rfl) (hv : bootBuiltins "zip" = some (.type "zip") := by decide +kernel) :
    PI X (.Tuple es k ps) (.Call (.Name "zip" p) [e1, e2] [] pos) (iZipL X.K ta) := by
  intro pins s σ H R I h
  refine Call_ (ld_blt I hg hm hv (PyProof.Rows.callWith_type1 (thn (ha pos pins s σ H _ I h) fun us s1 ⟨vs, H1, I1, r1, q1⟩ => ?_) (by rw [hs, hs2]) (by rw [hs2]; rfl)))
  obtain ⟨a, b, e, ⟨xs, qx⟩, ⟨ys, qy⟩, q⟩ := q1
  subst e
  obtain ⟨u, v, rfl, ra, rb⟩ := vals2 r1
  cases ra
  cases rb
  obtain ⟨us, rx, px, zx⟩ := I1.list qx
  obtain ⟨ws, ry, py, zy⟩ := I1.list qy
  refine Zt.call_zipL (xs := us.toArray) (ys := ws.toArray) (Zt.plainL_is px) (Zt.plainL_is py) fun h' hz hTI hTO h1 h2 kp => ?_
  refine wpAny_pyIter_zip (s := { s1 with heap := h' }) hz ?_
  have la : a < s1.heap.objs.size := by obtain ⟨o, _, e, _⟩ := px; exact Heap.lt_size e
  have lb : b < s1.heap.objs.size := by obtain ⟨o, _, e, _⟩ := py; exact Heap.lt_size e
  have J : Inv X pins σ H1 { s1 with heap := h' } := I1.kept (t' := s1.toks) kp
  refine ⟨_, [s1.heap.objs.size + 4, s1.heap.objs.size + 2, s1.heap.objs.size + 3, s1.heap.objs.size, s1.heap.objs.size + 1], _, ItzL X.K a b, H1, rfl, J, turn_zipL (a := a) (b := b) (Nat.ne_of_lt la) (Nat.ne_of_lt (Nat.lt_succ_of_lt lb)) ?_, ⟨hz, hTI, ⟨_, _, hTO⟩, h1, h2⟩, fun c hc => ?_, q⟩
  · generalize s1.heap.objs.size = n at la lb
    constructor <;> (try simp only [List.mem_cons, List.not_mem_nil, or_false, not_or, ne_eq]) <;> (unfold Addr at *; omega)
  · have le : s1.heap.objs.size ≤ c := by
      simp only [List.mem_cons, List.not_mem_nil, or_false] at hc
      rcases hc with rfl | rfl | rfl | rfl | rfl
      · exact Nat.le_add_right _ _
      · exact Nat.le_add_right _ _
      · exact Nat.le_add_right _ _
      · exact Nat.le_refl _
      · exact Nat.le_add_right _ _
    exact I1.fpOk le (I1.hok.fresh le)
end L2

set_option maxRecDepth 100000
namespace L2
open PySem PySem.Spec PyProof.Rows PySem.W
/-- a call by a name of the def's own that holds a def -/
def tCallV (i : Nat) (f : Addr) (sp : Sp) (dvs : List V) (XR : St → XK) (t : TA) : TE := fun σ H Q => σ[i]? = some (some (.ref f)) ∧ t σ H fun vs H1 => sp (vs ++ dvs) H1 Q (XR σ)
/-- (*e, ..) -/
def tStar (K : Frag) (te : TE) (t : TA) : TA := fun σ H Q => te σ H fun v H1 => ∃ a xs, v = .ref a ∧ SqT K H1 a xs ∧ t σ H1 fun vs H2 => Q (xs ++ vs) H2
section
variable {X : Cx} {e : Expr} {es : List Expr} {te : TE} {t : TA} {pos p : Pos} {k i : Nat} {f : Addr} {fd : FuncData} {ps : List Str} {sp : Sp} {dvs : List V} {ds : List Value} {XR : St → XK} {x : Str}
theorem qe_callV (F : FnOk X.prog X.w X.K X.mg X.base (CX1 X.prog X.w) k f fd ps sp) (hr : Room k X.A) (hN : X.N[i]? = some x) (hv : Vis X.env.scope x) (hk : keepIn X.K (.ref f) = true) (hb : Binds X.K fd ps ds) (hd : Vals dvs ds) (hx : Px X XR)
    (ha : PAs X (e :: es) t) (hdb : (x == ("__debug__" : Str)) = false) (hcd : (x == ("__classdict__" : Str)) = false) (h1 : notStar e = true) (h2 : noStars es = true) : PE X (.Call (.Name x p) (e :: es) [] pos) (tCallV i f sp dvs XR t) := by
  intro pins s σ H Q I h
  obtain ⟨hi, h⟩ := h
  refine wpAny_Call_Name_kw (thn (pe_var hN hv hdb hcd pins s σ H (fun v H' => v = .ref f ∧ H' = H) I ⟨_, hi, rfl, rfl⟩) fun u s1 ⟨v, H1, I1, r, ev, eh⟩ => ?_)
  subst ev eh
  obtain rfl : u = Value.ref f := r
  refine callWith_K (h₀ := X.base) I1.ok.mod.kin hk (thn (ha.run pos pins s1 σ H1 _ I1 h) fun us s2 ⟨vs, H2, I2, r2, q⟩ => ⟨I2.kIn, ?_⟩) (star_ne h1) (stars_any h2)
  exact run_fnX F hr hb hd hx I2 r2 q
theorem qa_star (ha : PE X e te) (hr : PAs X es t) : PAs X (.Starred e p :: es) (tStar X.K te t) := by
  refine ⟨fun pos pins s σ H Q I h => ?_⟩
  refine items_star (thn (ha pins s σ H _ I h) fun u s1 ⟨v, H1, I1, r, a, xs, ev, hq, q⟩ => ?_)
  subst ev
  obtain rfl : u = Value.ref a := r
  obtain ⟨us, rx, ⟨o, e1, e2, n, e3⟩, zx⟩ := I1.tuple hq
  have ty : s1.TypeIs (.ref a) "tuple" := ⟨o, e1, e2⟩
  unfold StarOf notIterableAtAll
  refine wpAny_bind (wpAny_specialOf ty PySem.F.slot_tuple_iter.lookup (wpAny_pure ⟨rfl, ?_⟩))
  refine wpAny_collect_seq a (.inr rfl) e1 e2 e3 (fun h' hk => ?_) (by have := rx.length; simpa using (by omega))
  have I2 : Inv X pins σ H1 { s1 with heap := h' } := I1.kept (t' := s1.toks) hk
  refine thn (hr.run pos pins _ σ H1 _ I2 q) fun ws s3 ⟨vs, H3, I3, r3, q3⟩ => ?_
  exact ⟨xs ++ vs, H3, I3, by simpa using rx.append r3, q3⟩
variable {tg a b : Expr} {ta : TA}
theorem qi_zipL {es : List Expr} {k : Nat} {ps : Pos} (hg : Gl X "zip") (hm : X.mg "zip" = none) (ha : PAs X [a, b] ta) (h1 : notStar a = true) (h2 : notStar b = true) : PI X (.Tuple es k ps) (.Call (.Name "zip" p) [a, b] [] pos) (iZipL X.K ta) :=
  pi_zipL hg hm ha.run (by rw [star_ne h1, star_ne h2]; rfl) (by rw [star_ne h2]; rfl) (by decide +kernel)
end
section
variable {σ : St} {H : Hp} {Q : VK}
theorem rd_star {K : Frag} {te : TE} {t : TA} {R : List V → Hp → Prop} (h : te σ H fun v H1 => ∃ a xs, v = .ref a ∧ SqT K H1 a xs ∧ t σ H1 fun vs H2 => R (xs ++ vs) H2) : tStar K te t σ H R := h
theorem rd_izipL {K : Frag} {ta : TA} {R : It → Hp → Prop} (h : ta σ H fun vs H1 => ∃ a b, vs = [.ref a, .ref b] ∧ (∃ xs, SqL K H1 a xs) ∧ (∃ ys, SqL K H1 b ys) ∧ R (ItzL K a b) H1) : iZipL K ta σ H R := h
theorem rd_callV {i : Nat} {f : Addr} {sp : Sp} {dvs : List V} {XR : St → XK} {t : TA} (hi : σ[i]? = some (some (.ref f))) (h : t σ H fun vs H1 => sp (vs ++ dvs) H1 Q (XR σ)) : tCallV i f sp dvs XR t σ H Q := ⟨hi, h⟩
end
/-- a comprehension with a test, by an invariant over the list so far -/
theorem comp_byF {J : It} {H1 : Hp} {acc : Addr} {σ0 : St} {g : TG} {tt : TT} {te : TE} {Q : VK} (n : Nat) (hn : n < sizeLine) (Pv : Nat → List V → St → Hp → Prop) (h0 : Pv 0 [] σ0 (upd H1 acc (.lst [])))
    (hgo : ∀ i vs σc H, i < n → vs.length ≤ i → H acc = some (.lst vs) → Pv i vs σc H → J.go i H ∧ ∀ x H', J.yld i H x H' → ∀ (R : St → V → Hp → Prop) (S : St → Hp → Prop),
      (∀ σ2 v H4, H4 acc = some (.lst vs) → Pv (i + 1) (vs ++ [v]) σ2 (upd H4 acc (.lst (vs ++ [v]))) → R σ2 v H4) → (∀ σ2 H4, H4 acc = some (.lst vs) → Pv (i + 1) vs σ2 H4 → S σ2 H4) →
      g x σc H' fun σ2 H2 => tt σ2 H2 fun b H3 => if b = true then te σ2 H3 (R σ2) else S σ2 H3)
    (hst : ∀ vs σc H, vs.length ≤ n → H acc = some (.lst vs) → Pv n vs σc H → J.stop n H ∧ Q (.ref acc) H) : CompW σ0 J H1 acc g tt te Q := by
  refine ⟨fun i m σc H => m = n - i ∧ i ≤ n ∧ ∃ vs, vs.length ≤ i ∧ H acc = some (.lst vs) ∧ Pv i vs σc H, ⟨n, by simp, Nat.zero_le _, [], Nat.le_refl _, upd_same, h0⟩, ?_⟩
  rintro i m σc H ⟨rfl, hi, vs, hl, ha, hp⟩
  by_cases hlt : i < n
  · obtain ⟨g1, g2⟩ := hgo i vs σc H hlt hl ha hp
    refine .inr ⟨g1, fun σ' H' => i + 1 ≤ n ∧ ∃ vs, vs.length ≤ i + 1 ∧ H' acc = some (.lst vs) ∧ Pv (i + 1) vs σ' H', fun σ' H' q => ⟨n - (i + 1), by omega, rfl, q⟩, fun x H' y => ?_⟩
    exact g2 x H' y (fun σ2 v H4 => ∃ xs, H4 acc = some (.lst xs) ∧ xs.length < sizeLine ∧ (i + 1 ≤ n ∧ ∃ vs, vs.length ≤ i + 1 ∧ (upd H4 acc (.lst (xs ++ [v]))) acc = some (.lst vs) ∧ Pv (i + 1) vs σ2 (upd H4 acc (.lst (xs ++ [v])))))
      (fun σ2 H4 => i + 1 ≤ n ∧ ∃ vs, vs.length ≤ i + 1 ∧ H4 acc = some (.lst vs) ∧ Pv (i + 1) vs σ2 H4)
      (fun σ2 v H4 q1 q2 => ⟨vs, q1, by omega, hlt, vs ++ [v], by simp; omega, upd_same, q2⟩) fun σ2 H4 q1 q2 => ⟨hlt, vs, by omega, q1, q2⟩
  · have e : i = n := by omega
    subst e
    exact .inl (hst vs σc H hl ha hp)
theorem qss_never {X : Cx} {sts : List Stmt} : PSsw X sts tNever := ⟨pss_never⟩
end L2

set_option maxRecDepth 100000
namespace L2
open PySem PySem.Spec PyProof.Rows
/-! ### a list unpacked -/
def gLst (K : PySem.W.Frag) (n : Nat) (t : TGs) : TG := fun v σ H Q => ∃ a xs, v = .ref a ∧ SqL K H a xs ∧ xs.length = n ∧ t xs σ H Q
theorem pg_lst {X : Cx} {es : List Expr} {k : Nat} {pos : Pos} {t : TGs} {n : Nat} (hc : X.calm = true) (h : PGs X es t)
    (hn : (assignEach es X.env).length = n) (hst : (assignEach es X.env).findIdx? (·.1) = none) : PG X (.Tuple es k pos) (gLst X.K n t) := by
  intro pins s σ H v u Q I r hw
  obtain ⟨a, xs, rfl, hq, hl, hw⟩ := hw
  cases r
  obtain ⟨its, rv, pl, hz⟩ := I.list hq
  rw [assign_Tuple]
  refine wpAny_bind (wpAny_standAt ?_)
  unfold unpack
  rw [hst]
  have e : (assignEach es X.env).length = its.toArray.size := by simp [hn, ← hl, rv.length]
  rw [e]
  refine wpAny_bind (wpAny_holding (PySem.W.kun_itemsOf (I.ok.hd hc) pl.isList fun h' hx => ?_))
  have I1 : Inv X pins σ H { s with heap := h' } := I.kept (t' := s.toks) fun b o e => hx b o (Nat.ne_of_lt (Heap.lt_size e)) e
  exact h pins _ σ H xs _ Q I1 (by simpa using rv) hw
theorem rd_glst {K : PySem.W.Frag} {n : Nat} {t : TGs} {σ : St} {H : Hp} {a : Addr} {xs : List V} {Q : St → Hp → Prop} (hq : SqL K H a xs) (hl : xs.length = n) (h : t xs σ H Q) : gLst K n t (.ref a) σ H Q := ⟨a, xs, rfl, hq, hl, h⟩
/-! ### range as a value, list of it -/
def tRange (ta : TA) : TE := fun σ H Q => ta σ H fun vs H1 => ∃ j : Int, vs = [.int j] ∧ -(2 ^ 62) ≤ j ∧ j < 2 ^ 62 ∧ ∀ p, H1 p = none → Q (.ref p) (upd H1 p (.rng 0 j))
section
variable {X : Cx} {a e o : Expr} {es : List Expr} {ta t tk : TA} {p pos apos cpos : Pos}
theorem qe_range (hg : Gl X "range") (hm : X.mg "range" = none) (ha : PAs X [a] ta) (h1 : notStar a = true) : PE X (.Call (.Name "range" p) [a] [] pos) (tRange ta) := by
  intro pins s σ H Q I h
  refine Call_ (ld_blt I hg hm boot_range (PyProof.Rows.callWith_type1 (thn (ha.run pos pins s σ H _ I h) fun us s1 ⟨vs, H1, I1, r1, q1⟩ => ?_) (star_ne h1) rfl))
  obtain ⟨j, rfl, q1, q2, q⟩ := q1
  obtain ⟨u, rfl, ⟨t, rfl⟩⟩ := vals1 r1
  refine call_range_1 ⟨.ref s1.heap.objs.size, _, I1.laid (o := .rng 0 j) (fun _ _ q => Heap.get?_push_of_some _ q) (Nat.le_refl _) ⟨_, _, _, Heap.get?_push_size _ rfl⟩, rfl, q _ I1.fresh⟩
def rListR : TR := fun xs H Q => ∃ p j, xs = [.ref p] ∧ H p = some (.rng 0 j) ∧ -(2 ^ 62) ≤ j ∧ j ≤ 1000 ∧ ∀ l, H l = none → Q (.ref l) (upd H l (.lst ((List.range j.toNat).map fun (i : Nat) => V.int (i : Int))))
theorem items_vals {n : Nat} {acc : Array Value} (h : PySem.ItemsOf (fun i v => ∃ t, v = .int (0 + i * 1) t) acc n) : Vals ((List.range n).map fun (i : Nat) => V.int (i : Int)) acc.toList := by
  obtain ⟨h1, h2⟩ := h
  have key : ∀ (us : List Value) (k : Nat), (∀ j v, us[j]? = some v → ∃ t, v = Value.int ((k + j : Nat) : Int) t) → Vals ((List.range' k us.length).map fun (i : Nat) => V.int (i : Int)) us := by
    intro us
    induction us with
    | nil => intro k _; exact .nil
    | cons u us ih =>
      intro k h
      rw [List.length_cons, List.range'_succ, List.map_cons]
      obtain ⟨t, rfl⟩ := h 0 u rfl
      refine .cons ⟨t, rfl⟩ (ih (k + 1) fun j v hj => ?_)
      obtain ⟨t', e⟩ := h (j + 1) v (by simpa using hj)
      exact ⟨t', by rw [e]; congr 1; omega⟩
  have := key acc.toList 0 fun j v hj => by
    obtain ⟨t, e⟩ := h2 j v (by simpa using hj)
    exact ⟨t, by rw [e]; congr 1; simp⟩
  rw [List.range_eq_range', ← h1, ← Array.length_toList]
  exact this
theorem cn_listR (hc : X.calm = true) : CallR X (.type "list") rListR := by
  intro pins s σ H xs us Q I r h
  obtain ⟨p, j, rfl, hp, j0, j1, q⟩ := h
  obtain ⟨u, rfl, ru⟩ := vals1 r
  cases ru
  obtain ⟨t, u, v, ho⟩ := I.hok _ _ hp
  have e2 : Builtin.Range.rangeSize 0 j 1 = j.toNat := by rw [rangeSize_one]; split <;> omega
  refine call_list_range (n := j.toNat) (I.ok.hd hc) ho (small_one (by omega) (by omega) j0 (by omega)) e2 (by omega) fun h' tk acc' c' kp hS hI => ?_
  have hv := items_vals hI
  exact ⟨.ref s.heap.objs.size, _, I.laid (o := .lst ((List.range j.toNat).map fun (i : Nat) => V.int (i : Int))) kp (Nat.le_refl _) ⟨by rw [List.length_map, List.length_range, sizeLine_eq]; omega, acc'.toList, c', hv, by rw [Array.toArray_toList]; exact hS⟩, rfl, q _ I.fresh⟩
/-! ### int of a truth or a number -/
def rInt1 : TR := fun xs H Q => (∃ i, xs = [.int i] ∧ Q (.int i) H) ∨ ∃ k, xs = [.bl k] ∧ Q (.int (if k then 1 else 0)) H
theorem cn_int : CallR X (.type "int") rInt1 := call_int1
/-! ### l.pop(i) -/
theorem qe_pop {te : TE} (ho : PE X o te) (ha : PAs X (e :: es) t) (hbase : attributeBase o "pop" X.env (eval o X.env) = eval o X.env) (h1 : notStar e = true) (h2 : noStars es = true)
    (hfew : ((backTo cpos (starEach (e :: es) X.env)).all (fun x => !x.1) && (backToKw cpos (keywordEach [] X.env)).all (fun x => x.1.isSome) && decide ((e :: es).length + ([] : List Keyword).length + (if ([] : List Keyword).isEmpty then 0 else 1) < 30)) = true)
    (hline : (apos.endLine == cpos.line) = true) : PE X (.Call (.Attribute o "pop" apos) (e :: es) [] cpos) (tBM X.K "list" rPopAt te t) :=
  pe_bm PySem.F.plainAttrs_list PySem.F.slot_list_pop PySem.F.type_list_pop mt_popAt ho ha.run hbase hfew hline (star_ne h1) (stars_any h2)
/-! ### keywords -/
structure PKs (X : Cx) (kws : List Keyword) (t : TA) : Prop where
  run : PK X kws t
theorem qk_nil : PKs X [] tNil := ⟨pk_nil⟩
theorem qk {kws : List Keyword} {te : TE} {nm : Option Str} {kpos : Pos} (ha : PE X e te) (hr : PKs X kws t) : PKs X (⟨nm, e, kpos⟩ :: kws) (tCons te t) := ⟨pk_cons ha hr.run⟩
def kg2 {α : Type} : List α → List α → List α
  | [a], [b] => [a, b]
  | _, _ => []
theorem qe_callK {CX : CXT} {k : Nat} {f : Addr} {fd : FuncData} {ps ks : List Str} {sp : Sp} {E : XK} {x : Str} {kws : List Keyword} (F : FnOk X.prog X.w X.K X.mg X.base CX k f fd ps sp) (hr : Room k X.A) (hg : Gl X x) (hm : X.mg x = some (.ref f)) (hk : PySem.W.keepIn X.K (.ref f) = true) (hb : KBinds X.K fd ps ks kg2 kg2) (hx : Passes CX X E)
    (ha : PAs X (e :: es) t) (hkw : PKs X kws tk) (hall : (backToKw pos (keywordEach kws X.env)).all (·.1.isSome) = true) (hks : (backToKw pos (keywordEach kws X.env)).filterMap (·.1) = ks)
    (hdb : (x == ("__debug__" : Str)) = false) (h1 : notStar e = true)
    (hpl : ((backTo pos (starEach (e :: es) X.env)).any (·.1) || (backToKw pos (keywordEach kws X.env)).any (·.1.isNone)) = false) :
    PE X (.Call (.Name x p) (e :: es) kws pos) (tCallK sp kg2 E t tk) := pe_callK F hr hg hm hk hb hx ha.run hkw.run hall hks hdb (star_ne h1) hpl
theorem rd_callK {σ : St} {H : Hp} {Q : VK} {sp : Sp} {gV : List V → List V → List V} {E : XK} (h : t σ H fun vs H1 => tk σ H1 fun zs H2 => sp (gV vs zs) H2 Q E) : tCallK sp gV E t tk σ H Q := h
theorem kg2_rel {vs : List V} {us : List Value} {zs : List V} {ws : List Value} (h1 : Vals vs us) (h2 : Vals zs ws) : Vals (kg2 vs zs) (kg2 us ws) := by
  cases h1 with
  | nil => exact .nil
  | cons a r => cases r with
    | nil => cases h2 with
      | nil => exact .nil
      | cons b r2 => cases r2 with
        | nil => exact .cons a (.cons b .nil)
        | cons _ _ => exact .nil
    | cons _ _ => exact .nil
end
section
variable {σ : St} {H : Hp} {Q : VK} {K : PySem.W.Frag}
theorem rd_range {ta : TA} (h : ta σ H fun vs H1 => ∃ j : Int, vs = [.int j] ∧ -(2 ^ 62) ≤ j ∧ j < 2 ^ 62 ∧ ∀ p, H1 p = none → Q (.ref p) (upd H1 p (.rng 0 j))) : tRange ta σ H Q := h
theorem rd_listR {p : Addr} {j : Int} (hp : H p = some (.rng 0 j)) (j0 : -(2 ^ 62) ≤ j) (j1 : j ≤ 1000) (h : ∀ l, H l = none → Q (.ref l) (upd H l (.lst ((List.range j.toNat).map fun (i : Nat) => V.int (i : Int))))) : rListR [.ref p] H Q := ⟨p, j, rfl, hp, j0, j1, h⟩
theorem rd_intB {k : Bool} (h : Q (.int (if k then 1 else 0)) H) : rInt1 [.bl k] H Q := .inr ⟨k, rfl, h⟩
theorem rd_intI {i : Int} (h : Q (.int i) H) : rInt1 [.int i] H Q := .inl ⟨i, rfl, h⟩
end
theorem Fun.kbinds {K : PySem.W.Frag} {x qual : Str} {st : Stmt} {f : Addr} {fd : FuncData} {ps ks : List Str} (F : Fun K x qual st f fd) (hp : ps.length = 2)
    (h : ∀ (kV doc pm : Value) (an : Option Addr) (cdv ct u w : Value), bindArgs (PySem.W.fnOf x qual (defArgs st) (defBody st) (defScope st) .none kV doc pm an cdv ct) ⟨[u], ks.zip [w]⟩ = pure (ps.zip [u, w])) : KBinds K fd ps ks kg2 kg2 := by
  obtain ⟨oc, od, kV, doc, pm, an, cdv, ct, osl, rfl, lk, hcd⟩ := F.ex
  refine ⟨fun s us ws _ hl => ?_, kg2_rel⟩
  rw [hp] at hl
  match us, ws, hl with
  | [u], [w], _ => exact .of_eq (h kV doc pm an cdv ct u w)
  | [], _, hl => simp [kg2] at hl
  | [_], [], hl => simp [kg2] at hl
  | [_], _ :: _ :: _, hl => simp [kg2] at hl
  | _ :: _ :: _, _, hl => simp [kg2] at hl
/-! ### in and not in -/
section
variable {X : Cx} {K : PySem.W.Frag}
theorem on_in : OpR X (compareOp .In) (rIn X.K false) := op_in_seq
theorem on_notIn : OpR X (compareOp .NotIn) (rIn X.K true) := op_notIn_seq
theorem on_inK (h : X.K = K) : OpR X (compareOp .In) (rIn K false) := h ▸ op_in_seq
theorem on_notInK (h : X.K = K) : OpR X (compareOp .NotIn) (rIn K true) := h ▸ op_notIn_seq
theorem on_eqDK {k : Nat} (h : X.K = K) (hr : Room k X.A) : OpR X (compareOp .Eq) (rEqD K) := h ▸ on_eqD hr
theorem on_neDK {k : Nat} (h : X.K = K) (hr : Room k X.A) : OpR X (compareOp .NotEq) (rNeD K) := h ▸ on_neD hr
theorem pi_listK {tg l : Expr} {tl : TE} (h : X.K = K) (hl : PE X l tl) : PI X tg l (iList K tl) := h ▸ pi_list hl
theorem pi_tupK {tg l : Expr} {tl : TE} (h : X.K = K) (hl : PE X l tl) : PI X tg l (iTup K tl) := h ▸ pi_tup hl
theorem pe_compK {sc : Scope} {cl : List (Str × Addr)} {NC : List Str} {fr : List (Option Nat)} {elt target iter : Expr} {ifs : List Expr} {pos : Pos} {wi : TI} {g : TG} {tt : TT} {te : TE} (h : X.K = K) (B : Blk X sc cl NC fr) (hc : X.calm = true) (hi : PI X target iter wi) (hg : ∀ fp s H, PG (cxC X sc cl NC fp s H) target g) (ht : ∀ fp s H, PF (cxC X sc cl NC fp s H) ifs tt) (he : ∀ fp s H, PE (cxC X sc cl NC fp s H) elt te)
    (hs : ∀ x, foldedSetIterable iter X.env x = pure x) : PE X (.ListComp elt [⟨target, iter, ifs, 0⟩] sc pos) (tComp K fr wi g tt te) := h ▸ pe_comp B hc hi hg ht he hs
def rInD (K : PySem.W.Frag) (neg : Bool) : R2 := fun x y H Q => ∃ N d xs, Dt K N H x d ∧ Dt K N H y (.list xs) ∧ PyData.canLayAll0 xs = true ∧ d.canLay0 = true ∧ d.depth ≤ 30 ∧ Q (.bl (if neg then !xs.any (fun y => PyData.eqv y d) else xs.any (fun y => PyData.eqv y d))) H
theorem on_inD {k : Nat} (hr : Room k X.A) : OpR X (compareOp .In) (rInD X.K false) := by
  intro pins s σ H x y v u Q I rx ry h
  obtain ⟨N, d, xs, hd, he, c1, c2, c3, q⟩ := h
  obtain ⟨as, ra, _⟩ := hd.reads I rx
  obtain ⟨bs, rb, _⟩ := he.reads I ry
  exact SeqAt.in_list_reads rb ra c1 c2 (by have := hr.units; have : min (PyData.depthAll xs) d.depth ≤ d.depth := Nat.min_le_right _ _; omega) ⟨.bl _, H, I, rfl, q⟩
theorem on_notInD {k : Nat} (hr : Room k X.A) : OpR X (compareOp .NotIn) (rInD X.K true) := by
  intro pins s σ H x y v u Q I rx ry h
  obtain ⟨N, d, xs, hd, he, c1, c2, c3, q⟩ := h
  obtain ⟨as, ra, _⟩ := hd.reads I rx
  obtain ⟨bs, rb, _⟩ := he.reads I ry
  exact SeqAt.notIn_list_reads rb ra c1 c2 (by have := hr.units; have : min (PyData.depthAll xs) d.depth ≤ d.depth := Nat.min_le_right _ _; omega) ⟨.bl _, H, I, rfl, q⟩
end
section
variable {H : Hp} {Q : VK} {K : PySem.W.Frag} {p : Addr} {xs : List V} {x : V}
theorem rd_inT (hq : SqT K H p xs) (fx : flatV x = true) (fs : xs.all flatV = true) (h : Q (.bl (inV x xs)) H) : rIn K false x (.ref p) H Q := ⟨p, xs, rfl, .inr hq, fx, fs, h⟩
theorem rd_notInT (hq : SqT K H p xs) (fx : flatV x = true) (fs : xs.all flatV = true) (h : Q (.bl (!inV x xs)) H) : rIn K true x (.ref p) H Q := ⟨p, xs, rfl, .inr hq, fx, fs, h⟩
theorem rd_inL (hq : SqL K H p xs) (fx : flatV x = true) (fs : xs.all flatV = true) (h : Q (.bl (inV x xs)) H) : rIn K false x (.ref p) H Q := ⟨p, xs, rfl, .inl hq, fx, fs, h⟩
theorem rd_notInL (hq : SqL K H p xs) (fx : flatV x = true) (fs : xs.all flatV = true) (h : Q (.bl (!inV x xs)) H) : rIn K true x (.ref p) H Q := ⟨p, xs, rfl, .inl hq, fx, fs, h⟩
end
theorem flat_ints (ns : List Int) : (ns.map V.int).all flatV = true := by induction ns with
  | nil => rfl
  | cons n ns ih => rw [List.map_cons, List.all_cons, ih]; rfl
theorem inV_ints (n : Int) (ns : List Int) : inV (.int n) (ns.map V.int) = decide (n ∈ ns) := by
  unfold inV
  induction ns with
  | nil => simp
  | cons m ns ih =>
    rw [List.map_cons, List.any_cons, ih]
    have e : eqV (.int m) (.int n) = decide (m = n) := by
      show (m == n) = _
      exact (Bool.eq_iff_iff.mpr (by simp))
    rw [e]
    by_cases h : m = n
    · subst h; simp
    · have : n ≠ m := fun z => h z.symm
      simp [h, this]
/-! ### the deck of a law -/
/-- a deck at p: cells at c, how many were taken (at most m), rests at r -/
structure Dk (H : Hp) (p c r : Addr) (m : Nat) : Prop where
  ex : ∃ (cs rs : List Int) (n : Int), H p = some (.lst [.ref c, .int n, .ref r]) ∧ H c = some (.lst (cs.map V.int)) ∧ H r = some (.lst (rs.map V.int)) ∧ c ≠ p ∧ c ≠ r ∧ r ≠ p ∧ 1 ≤ cs.length ∧ cs.length ≤ 63 ∧ rs.length = cs.length ∧ 0 ≤ n ∧ n ≤ m
theorem Dk.mono {H : Hp} {p c r : Addr} {m m' : Nat} (h : Dk H p c r m) (e : m ≤ m') : Dk H p c r m' := by
  obtain ⟨cs, rs, n, a1, a2, a3, a4, a5, a6, a7, a8, a9, a10, a11⟩ := h.ex
  exact ⟨cs, rs, n, a1, a2, a3, a4, a5, a6, a7, a8, a9, a10, by omega⟩
theorem Dk.same {H H' : Hp} {p c r : Addr} {m : Nat} (h : Dk H p c r m) (e : Same H H') : Dk H' p c r m := by
  obtain ⟨cs, rs, n, a1, a2, a3, a4, a5, a6, a7, a8, a9, a10, a11⟩ := h.ex
  exact ⟨cs, rs, n, e _ _ a1, e _ _ a2, e _ _ a3, a4, a5, a6, a7, a8, a9, a10, a11⟩
theorem Dk.new {H : Hp} {p c r : Addr} {m : Nat} (h : Dk H p c r m) {q : Addr} (n : H q = none) : q ∉ [p, c, r] := by
  obtain ⟨cs, rs, _, a1, a2, a3, _⟩ := h.ex
  intro z
  simp only [List.mem_cons, List.not_mem_nil, or_false] at z
  rcases z with rfl | rfl | rfl
  · rw [a1] at n; cases n
  · rw [a2] at n; cases n
  · rw [a3] at n; cases n
/-- kept where another thing is written that is none of the deck's -/
theorem Dk.upd {H : Hp} {p c r q : Addr} {m : Nat} {o : HO} (h : Dk H p c r m) (n : q ∉ [p, c, r]) : Dk (upd H q o) p c r m := by
  obtain ⟨cs, rs, k, a1, a2, a3, a4, a5, a6, a7, a8, a9, a10, a11⟩ := h.ex
  simp only [List.mem_cons, List.not_mem_nil, or_false, not_or] at n
  exact ⟨cs, rs, k, by rw [upd_ne (Ne.symm n.1)]; exact a1, by rw [upd_ne (Ne.symm n.2.1)]; exact a2, by rw [upd_ne (Ne.symm n.2.2)]; exact a3, a4, a5, a6, a7, a8, a9, a10, a11⟩
theorem Dk.tr {H : Hp} {p c r : Addr} {m : Nat} (h : Dk H p c r m) {b : Addr} (hb : b ∈ [p, c, r]) : H b ≠ none := by
  obtain ⟨cs, rs, _, a1, a2, a3, _⟩ := h.ex
  simp only [List.mem_cons, List.not_mem_nil, or_false] at hb
  rcases hb with rfl | rfl | rfl
  · rw [a1]; intro z; cases z
  · rw [a2]; intro z; cases z
  · rw [a3]; intro z; cases z
theorem nin_pr {p c r q : Addr} (h : q ∉ [p, c, r]) : q ∉ [p, r] := by
  simp only [List.mem_cons, List.not_mem_nil, or_false, not_or] at h ⊢
  exact ⟨h.1, h.2.2⟩
end L2

open PySem L2
namespace Mt
/-! ### rules -/
def cruleD : List PyData → Bool
  | [a, b] => withinD 1 7 b && (strEq "held" a || strEq "applied" a)
  | _ => false
def ruleD : PyData → Bool
  | .tuple [a] => strEq "written" a
  | .tuple ds => cruleD ds
  | _ => false
def needD : PyData → Int
  | .tuple [_, .int k] => k + 1
  | _ => 1
theorem rule_shape {d : PyData} (h : ruleD d = true) : d = .tuple [.str "written"] ∨ ∃ w k, d = .tuple [.str w, .int k] ∧ (w = "held" ∨ w = "applied") ∧ 1 ≤ k ∧ k ≤ 7 := by
  unfold ruleD at h
  split at h
  · rename_i a
    cases a <;> simp [strEq] at h
    subst h; exact .inl rfl
  · rename_i ds _
    unfold cruleD at h
    split at h
    · rename_i a b _
      simp only [Bool.and_eq_true, Bool.or_eq_true] at h
      obtain ⟨h1, h2⟩ := h
      cases b <;> simp [withinD] at h1
      cases a <;> simp [strEq] at h2
      exact .inr ⟨_, _, rfl, h2, h1.1, h1.2⟩
    · cases h
  · cases h
/-! ### houses that were not asked -/
def freeL (h : Nat) (as : List Int) : List Int := ((List.range h).map fun (k : Nat) => (k : Int)).filter fun a => !decide (a ∈ as)
theorem freeL_succ (i : Nat) (as : List Int) : freeL (i + 1) as = freeL i as ++ (if (i : Int) ∈ as then [] else [(i : Int)]) := by
  unfold freeL
  rw [List.range_succ, List.map_append, List.filter_append]
  congr 1
  by_cases h : (i : Int) ∈ as <;> simp [h]
theorem freeL_le (h : Nat) (as : List Int) : (freeL h as).length ≤ h := by
  have := List.length_filter_le (fun a => !decide (a ∈ as)) ((List.range h).map fun (k : Nat) => (k : Int))
  simpa [freeL] using this
/-- unlike houses below h -/
structure AsOk (h : Int) (as : List Int) : Prop where
  nd : as.Nodup
  rg : ∀ a ∈ as, 0 ≤ a ∧ a < h
theorem AsOk.fresh {h : Int} {as : List Int} (o : AsOk h as) {i : Nat} {a : Int} (e : as[i]? = some a) : a ∉ as.take i := by
  intro z
  obtain ⟨j, hj, ej⟩ := List.getElem_of_mem z
  have hi : i < as.length := by
    rcases Nat.lt_or_ge i as.length with h | h
    · exact h
    · rw [List.getElem?_eq_none h] at e; cases e
  have hji : j < i := by rw [List.length_take] at hj; omega
  have e1 : as[j]? = some a := by
    rw [List.getElem_take] at ej
    rw [← ej]; simp
  have := (List.getElem?_inj hi o.nd).mp (e.trans e1.symm)
  omega
end Mt
namespace L2
theorem ixN_nat {n j : Nat} (h : j < n) : ixN n (j : Int) = some j := by
  unfold ixN
  rw [if_pos (by omega), if_pos (by omega)]; simp
theorem cutV_take (xs : List V) (n : Nat) : cutV xs none (some (n : Int)) = xs.take n := by
  unfold cutV
  have e : HT.sIx xs.length xs.length (some (n : Int)) = min n xs.length := HT.sIx_nat _ _ n
  rw [e, HT.sIx_none, List.drop_zero, Nat.sub_zero]
  rcases Nat.le_total n xs.length with h | h
  · rw [Nat.min_eq_left h]
  · rw [Nat.min_eq_right h, List.take_length, List.take_of_length_le h]
end L2
namespace Mt
/-! ### all sets of so many -/
def rangeI (n : Nat) : List Int := (List.range n).map fun (k : Nat) => (k : Int)
theorem rangeI_succ (n : Nat) : rangeI (n + 1) = rangeI n ++ [(n : Int)] := by unfold rangeI; rw [List.range_succ, List.map_append]; rfl
def setsL (s : Nat) : Nat → List (List Int)
  | 0 => [[]]
  | n + 1 => setsL s n ++ ((setsL s n).filter fun xs => decide (xs.length < s)).map fun xs => xs ++ [(n : Int)]
theorem setsL_len (s : Nat) : ∀ n, (setsL s n).length ≤ 2 ^ n
  | 0 => by simp [setsL]
  | n + 1 => by
    have h := setsL_len s n
    have h2 := List.length_filter_le (fun xs : List Int => decide (xs.length < s)) (setsL s n)
    rw [setsL, List.length_append, List.length_map, Nat.pow_succ]
    omega
theorem setsL_mem (s : Nat) : ∀ (n : Nat) (xs : List Int), xs ∈ setsL s n ↔ xs.Sublist (rangeI n) ∧ xs.length ≤ s
  | 0, xs => by
    simp only [setsL, List.mem_singleton, rangeI, List.range_zero, List.map_nil, List.sublist_nil]
    constructor
    · rintro rfl; exact ⟨rfl, Nat.zero_le _⟩
    · exact fun h => h.1
  | n + 1, xs => by
    rw [setsL, List.mem_append, List.mem_map, rangeI_succ, List.sublist_append_iff]
    constructor
    · rintro (h | ⟨ys, h, rfl⟩)
      · obtain ⟨h1, h2⟩ := (setsL_mem s n xs).mp h
        exact ⟨⟨xs, [], by simp, h1, by simp⟩, h2⟩
      · rw [List.mem_filter] at h
        obtain ⟨h1, h2⟩ := (setsL_mem s n ys).mp h.1
        have h3 := of_decide_eq_true h.2
        exact ⟨⟨ys, [(n : Int)], rfl, h1, List.Sublist.refl _⟩, by rw [List.length_append]; simp; omega⟩
    · rintro ⟨⟨a, b, rfl, h1, h2⟩, h3⟩
      cases b with
      | nil =>
        rw [List.append_nil] at h3 ⊢
        exact .inl ((setsL_mem s n a).mpr ⟨h1, h3⟩)
      | cons y ys =>
        have hl := h2.length_le
        cases ys with
        | cons _ _ => simp at hl
        | nil =>
          have hy : y = (n : Int) := by
            have := h2.subset (List.mem_singleton.mpr rfl)
            simpa using this
          subst hy
          rw [List.length_append] at h3
          simp only [List.length_singleton] at h3
          exact .inr ⟨a, List.mem_filter.mpr ⟨(setsL_mem s n a).mpr ⟨h1, by omega⟩, decide_eq_true (by omega)⟩, rfl⟩
def setsOf (s n : Nat) : List (List Int) := (setsL s n).filter fun xs => decide (xs.length = s)
theorem setsOf_mem {s n : Nat} {xs : List Int} : xs ∈ setsOf s n ↔ xs.Sublist (rangeI n) ∧ xs.length = s := by
  unfold setsOf
  rw [List.mem_filter, setsL_mem, decide_eq_true_eq]
  constructor
  · rintro ⟨⟨h1, _⟩, h2⟩; exact ⟨h1, h2⟩
  · rintro ⟨h1, h2⟩; exact ⟨⟨h1, by omega⟩, h2⟩
theorem freeL_eq (h : Nat) (as : List Int) : freeL h as = (rangeI h).filter fun a => !decide (a ∈ as) := rfl
theorem rangeI_nd (n : Nat) : (rangeI n).Nodup := by
  unfold rangeI
  exact List.Pairwise.map _ (fun a b h z => h (by omega)) List.nodup_range
theorem mem_rangeI {n : Nat} {a : Int} : a ∈ rangeI n ↔ 0 ≤ a ∧ a < n := by
  unfold rangeI
  simp only [List.mem_map, List.mem_range]
  constructor
  · rintro ⟨k, hk, rfl⟩; omega
  · intro h; exact ⟨a.toNat, by omega, by omega⟩
theorem filter_split {α : Type} (p : α → Bool) : ∀ xs : List α, (xs.filter p).length + (xs.filter fun x => !p x).length = xs.length
  | [] => rfl
  | x :: xs => by
    have ih := filter_split p xs
    cases h : p x <;> simp [h] <;> omega
theorem freeL_count {h : Nat} {as : List Int} (o : AsOk h as) : (freeL h as).length + as.length = h := by
  have e1 := filter_split (fun a => decide (a ∈ as)) (rangeI h)
  have e2 : ((rangeI h).filter fun a => decide (a ∈ as)).length = as.length := by
    refine List.Perm.length_eq ?_
    refine (List.perm_ext_iff_of_nodup ((rangeI_nd h).filter _) o.nd).mpr fun a => ?_
    rw [List.mem_filter, decide_eq_true_eq, mem_rangeI]
    exact ⟨fun z => z.2, fun z => ⟨o.rg a z, z⟩⟩
  rw [freeL_eq]
  have e3 : (rangeI h).length = h := by simp [rangeI]
  omega
/-- a set without asked ones is one of the free ones -/
theorem sets_free {s h : Nat} {as xs : List Int} (hx : xs ∈ setsOf s h) (hn : ∀ a ∈ xs, a ∉ as) : s ≤ (freeL h as).length := by
  obtain ⟨h1, h2⟩ := setsOf_mem.mp hx
  have h3 : xs.Sublist (freeL h as) := by
    rw [freeL_eq]
    have e : xs.filter (fun a => !decide (a ∈ as)) = xs := List.filter_eq_self.mpr fun a ha => by simp [hn a ha]
    rw [← e]
    exact h1.filter _
  rw [← h2]; exact h3.length_le
theorem free_set {s h : Nat} {as : List Int} (hs : s ≤ (freeL h as).length) : (freeL h as).take s ∈ setsOf s h :=
  setsOf_mem.mpr ⟨(List.take_sublist _ _).trans (by rw [freeL_eq]; exact List.filter_sublist), by rw [List.length_take]; omega⟩
theorem free_none {h : Nat} {as : List Int} {s : Nat} {a : Int} (ha : a ∈ (freeL h as).take s) : a ∉ as := by
  have := List.mem_of_mem_take ha
  rw [freeL_eq, List.mem_filter] at this
  simpa using this.2
theorem map_erase {α β : Type} (f : α → β) : ∀ (xs : List α) (j : Nat), (xs.map f).eraseIdx j = (xs.eraseIdx j).map f
  | [], _ => rfl
  | _ :: _, 0 => rfl
  | x :: xs, j + 1 => by rw [List.map_cons, List.eraseIdx_cons_succ, List.eraseIdx_cons_succ, List.map_cons, map_erase f xs j]
theorem erase_perm {α : Type} : ∀ (xs : List α) (j : Nat) (h : j < xs.length), xs.Perm (xs[j] :: xs.eraseIdx j)
  | x :: xs, 0, _ => List.Perm.refl _
  | x :: xs, j + 1, h => by
    have ih := erase_perm xs j (by simpa using h)
    rw [List.eraseIdx_cons_succ, List.getElem_cons_succ]
    exact (ih.cons x).trans (List.Perm.swap _ _ _)
def lstI (xs : List Int) : PyData := .list (xs.map PyData.int)
/-- lists of numbers, none of them at N -/
def LsAll (N : List Addr) (H : Hp) : List V → List (List Int) → Prop
  | [], [] => True
  | v :: vs, xs :: xss => (∃ l, v = .ref l ∧ l ∉ N ∧ H l = some (.lst (xs.map V.int))) ∧ LsAll N H vs xss
  | _, _ => False
theorem LsAll.ext {N : List Addr} {H H' : Hp} (e : Ext N H H') : ∀ {vs : List V} {xss : List (List Int)}, LsAll N H vs xss → LsAll N H' vs xss
  | [], [], _ => trivial
  | v :: vs, xs :: xss, ⟨⟨l, h1, h2, h3⟩, r⟩ => ⟨⟨l, h1, h2, e _ _ h3 h2⟩, LsAll.ext e r⟩
  | [], _ :: _, h => h.elim
  | _ :: _, [], h => h.elim
theorem LsAll.new {N : List Addr} {H : Hp} {p : Addr} (n : H p = none) : ∀ {vs : List V} {xss : List (List Int)}, LsAll N H vs xss → LsAll (p :: N) H vs xss
  | [], [], _ => trivial
  | v :: vs, xs :: xss, ⟨⟨l, h1, h2, h3⟩, r⟩ => ⟨⟨l, h1, by simp only [List.mem_cons, not_or]; exact ⟨ne_of_none h3 n, h2⟩, h3⟩, LsAll.new n r⟩
  | [], _ :: _, h => h.elim
  | _ :: _, [], h => h.elim
theorem LsAll.drop {N : List Addr} {H : Hp} : ∀ {vs : List V} {xss : List (List Int)}, LsAll N H vs xss → LsAll [] H vs xss
  | [], [], _ => trivial
  | v :: vs, xs :: xss, ⟨⟨l, h1, h2, h3⟩, r⟩ => ⟨⟨l, h1, by simp, h3⟩, LsAll.drop r⟩
  | [], _ :: _, h => h.elim
  | _ :: _, [], h => h.elim
theorem LsAll.len {N : List Addr} {H : Hp} : ∀ {vs : List V} {xss : List (List Int)}, LsAll N H vs xss → vs.length = xss.length
  | [], [], _ => rfl
  | v :: vs, xs :: xss, ⟨_, r⟩ => by rw [List.length_cons, List.length_cons, LsAll.len r]
  | [], _ :: _, h => h.elim
  | _ :: _, [], h => h.elim
theorem LsAll.app {N : List Addr} {H : Hp} {ws : List V} {yss : List (List Int)} (h2 : LsAll N H ws yss) : ∀ {vs : List V} {xss : List (List Int)}, LsAll N H vs xss → LsAll N H (vs ++ ws) (xss ++ yss)
  | [], [], _ => h2
  | v :: vs, xs :: xss, ⟨h, r⟩ => ⟨h, LsAll.app h2 r⟩
  | [], _ :: _, h => h.elim
  | _ :: _, [], h => h.elim
theorem LsAll.at {N : List Addr} {H : Hp} : ∀ {vs : List V} {xss : List (List Int)} {i : Nat} {xs : List Int}, LsAll N H vs xss → xss[i]? = some xs → ∃ l, vs[i]? = some (.ref l) ∧ l ∉ N ∧ H l = some (.lst (xs.map V.int))
  | [], [], i, xs, _, e => by simp at e
  | v :: vs, ys :: xss, 0, xs, ⟨⟨l, h1, h2, h3⟩, r⟩, e => by
    simp only [List.getElem?_cons_zero, Option.some.injEq] at e
    subst e h1
    exact ⟨l, rfl, h2, h3⟩
  | v :: vs, ys :: xss, i + 1, xs, ⟨_, r⟩, e => by
    simp only [List.getElem?_cons_succ] at e ⊢
    exact LsAll.at r e
  | [], _ :: _, _, _, h, _ => h.elim
  | _ :: _, [], _, _, h, _ => h.elim
theorem dtInts {K : PySem.W.Frag} {N : List Addr} {H : Hp} : ∀ xs : List Int, DtAll K N H (xs.map V.int) (xs.map PyData.int)
  | [] => .nil
  | x :: xs => .cons (.int x) (dtInts xs)
theorem LsAll.dt {K : PySem.W.Frag} {N : List Addr} {H : Hp} : ∀ {vs : List V} {xss : List (List Int)}, LsAll N H vs xss → DtAll K N H vs (xss.map lstI)
  | [], [], _ => .nil
  | v :: vs, xs :: xss, ⟨⟨l, h1, h2, h3⟩, r⟩ => by
    subst h1
    exact .cons (.lst (SqL.of h3) h2 (dtInts xs)) (LsAll.dt r)
  | [], _ :: _, h => h.elim
  | _ :: _, [], h => h.elim
end Mt
namespace L2
mutual
theorem Dt.sub {K : PySem.W.Frag} {N N' : List Addr} {H : Hp} (s : ∀ b ∈ N', b ∈ N) : ∀ {v : V} {d : PyData}, Dt K N H v d → Dt K N' H v d
  | _, _, .non => .non
  | _, _, .bl b => .bl b
  | _, _, .int i => .int i
  | _, _, .str x => .str x
  | _, _, .tup h n r => .tup h (fun z => n (s _ z)) (DtAll.sub s r)
  | _, _, .lst h n r => .lst h (fun z => n (s _ z)) (DtAll.sub s r)
  | _, _, .dk0 h n => .dk0 h (fun z => n (s _ z))
theorem DtAll.sub {K : PySem.W.Frag} {N N' : List Addr} {H : Hp} (s : ∀ b ∈ N', b ∈ N) : ∀ {vs : List V} {ds : List PyData}, DtAll K N H vs ds → DtAll K N' H vs ds
  | _, _, .nil => .nil
  | _, _, .cons h r => .cons (Dt.sub s h) (DtAll.sub s r)
end
theorem Dt.nil {K : PySem.W.Frag} {N : List Addr} {H : Hp} {v : V} {d : PyData} (h : Dt K N H v d) : Dt K [] H v d := h.sub (fun _ z => by cases z)
end L2
namespace L2
open PySem
/-- [x for x in xs if ..], numbers -/
theorem comp_ints {J : It} {H1 : Hp} {acc : Addr} {σ0 : St} {g : TG} {tt : TT} {te : TE} {Q : VK} (xs : List Int) (pb : Int → Bool) (Sg : St → Prop) (hn : xs.length ≤ 1000) (na : H1 acc = none) (h0 : Sg σ0)
    (hJ : ∀ i H, Same H1 H → (h : i < xs.length) → J.go i H ∧ ∀ x H', J.yld i H x H' → x = .int xs[i] ∧ H' = H) (hE : ∀ H, Same H1 H → J.stop xs.length H)
    (hb : ∀ (x : Int) σc H (R : St → V → Hp → Prop) (S : St → Hp → Prop), x ∈ xs → Same H1 H → Sg σc → (pb x = true → ∀ σ2, Sg σ2 → R σ2 (.int x) H) → (pb x = false → ∀ σ2, Sg σ2 → S σ2 H) →
      g (.int x) σc H fun σ2 H2 => tt σ2 H2 fun b H3 => if b = true then te σ2 H3 (R σ2) else S σ2 H3)
    (hst : ∀ H, Same H1 H → H acc = some (.lst ((xs.filter pb).map V.int)) → Q (.ref acc) H) : CompW σ0 J H1 acc g tt te Q := by
  refine comp_byF xs.length (small1000 hn) (fun i vs σc H => Same H1 H ∧ Sg σc ∧ vs = ((xs.take i).filter pb).map V.int) ⟨Same.upd na, h0, rfl⟩ ?_ ?_
  · rintro i vs σc H hi hl ha ⟨sm, hs, rfl⟩
    obtain ⟨j1, j2⟩ := hJ i H sm hi
    refine ⟨j1, fun x H' y R S hR hS => ?_⟩
    obtain ⟨rfl, rfl⟩ := j2 x H' y
    have tk : xs.take (i + 1) = xs.take i ++ [xs[i]] := by rw [List.take_add_one]; simp [hi]
    refine hb xs[i] σc H' R S (List.getElem_mem hi) sm hs (fun e σ2 h2 => hR σ2 _ H' ha ⟨fun b u e => ?_, h2, ?_⟩) (fun e σ2 h2 => hS σ2 H' ha ⟨sm, h2, ?_⟩)
    · rw [upd_ne (ne_of_none e na)]; exact sm b u e
    · rw [tk, List.filter_append, List.filter_cons, if_pos e, List.map_append]; rfl
    · rw [tk, List.filter_append, List.filter_cons, if_neg (by rw [e]; exact Bool.false_ne_true), List.filter_nil, List.append_nil]
  · rintro vs σc H hl ha ⟨sm, _, rfl⟩
    rw [List.take_length] at ha
    exact ⟨hE H sm, hst H sm ha⟩
theorem itl_ints {K : PySem.W.Frag} {H1 : Hp} {a : Addr} {xs : List Int} (hq : SqL K H1 a (xs.map V.int)) : ∀ i H, Same H1 H → (h : i < xs.length) → (Itl K a).go i H ∧ ∀ x H', (Itl K a).yld i H x H' → x = .int xs[i] ∧ H' = H := fun i H sm h => by
  have hL : SqL K H a (xs.map V.int) := (Ext.same (N := []) sm).lst hq (by simp)
  have ex : (xs.map V.int)[i]? = some (.int xs[i]) := by simp [h]
  refine ⟨⟨_, _, hL, ex⟩, ?_⟩
  rintro x H' ⟨rfl, hx⟩
  have e2 := hx _ hL
  rw [ex] at e2; cases e2
  exact ⟨rfl, rfl⟩
theorem itt_ints {K : PySem.W.Frag} {H1 : Hp} {a : Addr} {xs : List Int} (hq : SqT K H1 a (xs.map V.int)) : ∀ i H, Same H1 H → (h : i < xs.length) → (Itt K a).go i H ∧ ∀ x H', (Itt K a).yld i H x H' → x = .int xs[i] ∧ H' = H := fun i H sm h => by
  have hL : SqT K H a (xs.map V.int) := sm.tupS hq
  have ex : (xs.map V.int)[i]? = some (.int xs[i]) := by simp [h]
  refine ⟨⟨_, _, hL, ex⟩, ?_⟩
  rintro x H' ⟨rfl, hx⟩
  have e2 := hx _ hL
  rw [ex] at e2; cases e2
  exact ⟨rfl, rfl⟩
theorem itl_end {K : PySem.W.Frag} {H1 : Hp} {a : Addr} {xs : List Int} (hq : SqL K H1 a (xs.map V.int)) : ∀ H, Same H1 H → (Itl K a).stop xs.length H := fun H sm => ⟨_, (Ext.same (N := []) sm).lst hq (by simp), by simp⟩
theorem itt_end {K : PySem.W.Frag} {H1 : Hp} {a : Addr} {xs : List Int} (hq : SqT K H1 a (xs.map V.int)) : ∀ H, Same H1 H → (Itt K a).stop xs.length H := fun H sm => ⟨_, sm.tupS hq, by simp⟩
theorem eqv_empty (ds : List PyData) : PyData.eqv (.list ds) (.list []) = ds.isEmpty := by cases ds <;> rfl
theorem dtL {K : PySem.W.Frag} {N : List Addr} {H : Hp} {a : Addr} {xs : List Int} (h : H a = some (.lst (xs.map V.int))) (n : a ∉ N) : Dt K N H (.ref a) (Mt.lstI xs) := .lst (SqL.of h) n (Mt.dtInts xs)
theorem canL : ∀ xs : List Int, PyData.canLayAll0 (xs.map PyData.int) = true
  | [] => rfl
  | x :: xs => by simp only [List.map_cons, PyData.canLayAll0, PyData.canLay0, canL xs, Bool.true_and]
theorem depthL : ∀ xs : List Int, PyData.depthAll (xs.map PyData.int) = 0
  | [] => rfl
  | x :: xs => by simp only [List.map_cons, PyData.depthAll, PyData.depth, depthL xs]; rfl
theorem shapedL (xs : List Int) : SeqAt.shaped (Mt.lstI xs) = true := by
  unfold SeqAt.shaped Mt.lstI
  simp only [PyData.canLay0, canL, PyData.depth, depthL]; rfl
theorem canLs : ∀ xss : List (List Int), PyData.canLayAll0 (xss.map Mt.lstI) = true
  | [] => rfl
  | x :: xs => by simp only [List.map_cons, PyData.canLayAll0, PyData.canLay0, Mt.lstI, canL, Bool.true_and]; exact canLs xs
theorem canLI (xs : List Int) : (Mt.lstI xs).canLay0 = true := by simp only [PyData.canLay0, Mt.lstI, canL]
theorem depthLI (xs : List Int) : (Mt.lstI xs).depth ≤ 30 := by simp only [Mt.lstI, PyData.depth, depthL]; decide
theorem eqvL (xs : List Int) : PyData.eqv (Mt.lstI xs) (Mt.lstI xs) = true := by
  first | exact SeqAt.eqv_refl _ (canLI xs) | exact PySem.eqv_refl _ (canLI xs)
/-- tuples that are rules, none of them at N -/
def RuT (H : Hp) (t : Addr) : Prop := H t = some (.tup [.str "written"]) ∨ ∃ w k, H t = some (.tup [.str w, .int k]) ∧ (w = "held" ∨ w = "applied") ∧ 1 ≤ k ∧ k ≤ 7
def RuAll (N : List Addr) (H : Hp) (vs : List V) : Prop := ∀ v ∈ vs, ∃ t, v = .ref t ∧ t ∉ N ∧ RuT H t
theorem RuT.ext {N : List Addr} {H H' : Hp} {t : Addr} (e : Ext N H H') (n : t ∉ N) (h : RuT H t) : RuT H' t := by
  rcases h with h | ⟨w, k, h, r⟩
  · exact .inl (e _ _ h n)
  · exact .inr ⟨w, k, e _ _ h n, r⟩
theorem RuAll.ext {N : List Addr} {H H' : Hp} {vs : List V} (e : Ext N H H') (h : RuAll N H vs) : RuAll N H' vs := fun v hv => by
  obtain ⟨t, h1, h2, h3⟩ := h v hv
  exact ⟨t, h1, h2, h3.ext e h2⟩
theorem RuAll.upd {N : List Addr} {H : Hp} {vs ys : List V} {a : Addr} {o : HO} (ha : H a = some (.lst ys)) (h : RuAll N H vs) : RuAll N (L2.upd H a o) vs := fun v hv => by
  obtain ⟨t, h1, h2, h3⟩ := h v hv
  have ne : t ≠ a := by
    rintro rfl
    rcases h3 with h3 | ⟨w, k, h3, _⟩ <;> (rw [ha] at h3; cases h3)
  refine ⟨t, h1, h2, ?_⟩
  rcases h3 with h3 | ⟨w, k, h3, r⟩
  · exact .inl (by rw [upd_ne ne]; exact h3)
  · exact .inr ⟨w, k, by rw [upd_ne ne]; exact h3, r⟩
theorem RuAll.app {N : List Addr} {H : Hp} {vs ws : List V} (h1 : RuAll N H vs) (h2 : RuAll N H ws) : RuAll N H (vs ++ ws) := fun v hv => by
  rcases List.mem_append.mp hv with h | h
  · exact h1 v h
  · exact h2 v h
theorem RuT.dt {K : PySem.W.Frag} {H : Hp} {t : Addr} (h : RuT H t) : ∃ d, Dt K [] H (.ref t) d ∧ Mt.ruleD d = true ∧ 1 ≤ Mt.needD d ∧ Mt.needD d ≤ 8 ∧ ∃ xs, SqT K H t xs ∧ (xs ++ [.int 0])[1]? = some (.int (Mt.needD d - 1)) ∧ xs.length ≤ 2 := by
  rcases h with h | ⟨w, k, h, hw, k1, k2⟩
  · exact ⟨.tuple [.str "written"], .tup (SqT.of h) (by simp) (.cons (.str _) .nil), rfl, by decide, by decide, _, SqT.of h, rfl, by simp⟩
  · refine ⟨.tuple [.str w, .int k], .tup (SqT.of h) (by simp) (.cons (.str _) (.cons (.int _) .nil)), ?_, by show 1 ≤ k + 1; omega, by show k + 1 ≤ 8; omega, _, SqT.of h, by simp [Mt.needD], by simp⟩
    simp only [Mt.ruleD, Mt.cruleD, Mt.withinD, Mt.strEq]
    rcases hw with rfl | rfl <;> simp [k1, k2]
end L2

set_option maxRecDepth 100000
namespace L2
open PySem PySem.Spec PyProof.Rows PySem.W
/-- isinstance(x, (C, D, ..)), own classes -/
def rIsiT (K : Frag) : List V → Hp → VK → Prop := fun xs H Q => ∃ (x : V) (tp : Addr) (tv : Value) (cs : List Addr) (b : Bool), xs = [x, .ref tp] ∧ TyX K H x tv ∧ SqT K H tp (cs.map V.ref) ∧ kitAny K tv (cs.map Value.ref) = some b ∧ Q (.bl b) H
theorem refs_vals : ∀ {cs : List Addr} {us : List Value}, Vals (cs.map V.ref) us → us = cs.map Value.ref
  | [], _, .nil => rfl
  | c :: cs, u :: us, .cons r t => by
    have e : u = .ref c := r
    rw [e, refs_vals t, List.map_cons]
section
variable {X : Cx}
theorem cn_isiT : CallR X (.builtin "isinstance") (rIsiT X.K) := by
  intro pins s σ H xs us Q I r h
  obtain ⟨x, tp, tv, cs, b, rfl, ty, hq, e, q⟩ := h
  obtain ⟨u, w, rfl, ru, rw_⟩ := vals2 r
  cases rw_
  obtain ⟨its, rv, ⟨o, e1, e2, n, e3⟩, _⟩ := I.tuple hq
  obtain rfl := refs_vals rv
  obtain ⟨oc, od, odt, osl⟩ := o
  dsimp only at e2 e3
  subst e2 e3
  have fin : ∀ tk, EP X pins σ Q (.bool b) { s with toks := tk } := fun tk => ⟨.bl b, H, I.tok tk, rfl, q⟩
  cases ty with
  | std ty =>
    cases ty with
    | non => cases ru; exact kia_tup kitx_none I.kIn True.intro e1 e (fun z => nomatch z) fin
    | bl y => cases ru; exact kia_tup kitx_bool I.kIn True.intro e1 e (fun z => nomatch z) fin
    | int i => obtain ⟨t, rfl⟩ := ru; exact kia_tup kitx_int I.kIn True.intro e1 e (fun z => nomatch z) fin
    | str y => obtain ⟨t, rfl⟩ := ru; exact kia_tup kitx_str I.kIn True.intro e1 e (fun z => nomatch z) fin
    | lst hq =>
      cases ru
      obtain ⟨its, _, ⟨o, nn, f1, f2, _⟩, _⟩ := I.list hq
      exact kia_tup kitx_list I.kIn ⟨o, f1, f2⟩ e1 e (fun z => nomatch z) fin
    | tup hq =>
      cases ru
      obtain ⟨its, _, ⟨o, f1, f2, _⟩, _⟩ := I.tuple hq
      exact kia_tup kitx_tuple I.kIn ⟨o, f1, f2⟩ e1 e (fun z => nomatch z) fin
    | @dk a kvs hq =>
      cases ru
      obtain ⟨_, _, vs, _, o, es, ep, h1, h2, _⟩ := (show ObjOk X.prog X.w H s.heap a (.dK kvs) from I.hok a _ hq)
      exact kia_tup kitx_dict I.kIn ⟨o, h1, h2.1⟩ e1 e (fun z => nomatch z) fin
  | @exc a C dx hq g =>
    cases ru
    have z : ExcIs a (.ref C) dx s.heap := (I.hok a _ hq).1
    exact kia_tup (kitx_exc g) I.kIn z e1 e (fun z => nomatch z) fin
/-- f(e, k = v) whose exceptions are told -/
def tCallKX (sp : Sp) (gV : List V → List V → List V) (XR : St → XK) (t tk : TA) : TE := fun σ H Q => t σ H fun vs H1 => tk σ H1 fun zs H2 => sp (gV vs zs) H2 Q (XR σ)
end
section
variable {X : Cx} {e : Expr} {es : List Expr} {t tk : TA} {pos p : Pos} {k : Nat} {f : Addr} {fd : FuncData} {ps ks : List Str} {sp : Sp} {XR : St → XK} {x : Str} {kws : List Keyword}
theorem run_fnkX {pins : List (Addr × Obj)} {σ : St} {H : Hp} {s : Shared} {Q : VK} {us ws : List Value} {vs zs : List V} (F : FnOk X.prog X.w X.K X.mg X.base (CX1 X.prog X.w) k f fd ps sp) (hr : Room k X.A) (hb : KBinds X.K fd ps ks kg2 kg2) (hx : Px X XR)
    (I : Inv X pins σ H s) (r : Vals vs us) (rz : Vals zs ws) (h : sp (kg2 vs zs) H Q (XR σ)) : wpAny (model X.prog X.w) X.A (call (.ref f) us (ks.zip ws)) (EP X pins σ Q) X.xe s := by
  have r2 := hb.rel r rz
  have hl : (kg2 us ws).length = ps.length := by rw [← r2.length]; exact F.len _ _ _ _ h
  refine wpAny_call (codeAny_mono (F.run X.A X.stack s H ⟨us, ks.zip ws⟩ (kg2 us ws) (kg2 vs zs) Q (XR σ) hr I.env0 (hb.to s us ws I.kIn hl) r2 h) fun r s' hq => ?_)
  cases r with
  | error e => exact hx pins σ H s e s' I hq
  | ok fl =>
    cases fl with
    | ret u => exact I.after hq
    | next => exact False.elim hq
    | brk => exact False.elim hq
    | cont => exact False.elim hq
theorem qe_callKX (F : FnOk X.prog X.w X.K X.mg X.base (CX1 X.prog X.w) k f fd ps sp) (hr : Room k X.A) (hg : Gl X x) (hm : X.mg x = some (.ref f)) (hk : PySem.W.keepIn X.K (.ref f) = true) (hb : KBinds X.K fd ps ks kg2 kg2) (hx : Px X XR)
    (ha : PAs X (e :: es) t) (hkw : PKs X kws tk) (hall : (backToKw pos (keywordEach kws X.env)).all (·.1.isSome) = true) (hks : (backToKw pos (keywordEach kws X.env)).filterMap (·.1) = ks)
    (hdb : (x == ("__debug__" : Str)) = false) (h1 : notStar e = true)
    (hpl : ((backTo pos (starEach (e :: es) X.env)).any (·.1) || (backToKw pos (keywordEach kws X.env)).any (·.1.isNone)) = false) :
    PE X (.Call (.Name x p) (e :: es) kws pos) (tCallKX sp kg2 XR t tk) := by
  intro pins s σ H Q I h
  refine wpAny_Call_Name_kw (ld_glob I hg hm ?_ hdb)
  refine PySem.W.callWith_KW (h₀ := X.base) I.ok.mod.kin hk hall (thn (ha.run pos pins s σ H _ I h) fun us s1 ⟨vs, H1, I1, r, q⟩ => ?_) hpl (star_ne h1)
  refine thn (hkw.run pos pins s1 σ H1 _ I1 q) fun ws s2 ⟨zs, H2, I2, rz, q2⟩ => ⟨I2.kIn, ?_⟩
  rw [hks]
  exact run_fnkX F hr hb hx I2 r rz q2
theorem rd_callKX {σ : St} {H : Hp} {Q : VK} {gV : List V → List V → List V} (h : t σ H fun vs H1 => tk σ H1 fun zs H2 => sp (gV vs zs) H2 Q (XR σ)) : tCallKX sp gV XR t tk σ H Q := h
end
theorem kitAny0 {K : Frag} {t : Value} : kitAny K t [] = some false := rfl
theorem kitAnyF {K : Frag} {t c : Value} {r : List Value} (h : kitOne K t c = some false) (h2 : kitAny K t r = some false) : kitAny K t (c :: r) = some false := by
  unfold kitAny; rw [h]; exact h2
theorem rd_isiT {K : Frag} {H : Hp} {Q : VK} {x : V} {tp : Addr} {tv : Value} {cs : List Addr} {b : Bool} (ty : TyX K H x tv) (hq : SqT K H tp (cs.map V.ref)) (e : kitAny K tv (cs.map Value.ref) = some b) (h : Q (.bl b) H) : rIsiT K [x, .ref tp] H Q := ⟨x, tp, tv, cs, b, rfl, ty, hq, e, h⟩
end L2
namespace L2
open PySem
theorem cutV_drop (xs : List V) (n : Nat) : cutV xs (some (n : Int)) none = xs.drop n := by
  unfold cutV
  have e : HT.sIx xs.length 0 (some (n : Int)) = min n xs.length := HT.sIx_nat _ _ n
  rw [e, HT.sIx_none]
  rcases Nat.le_total n xs.length with h | h
  · rw [Nat.min_eq_left h]
    exact List.take_of_length_le (by rw [List.length_drop]; exact Nat.le_refl _)
  · rw [Nat.min_eq_right h, List.drop_of_length_le (Nat.le_refl _), List.drop_of_length_le h, List.take_nil]
theorem Ext.up3 {p c r : Addr} {H H' : Hp} (e : Ext [p, r] H H') : Ext [p, c, r] H H' := e.mono fun b hb => by
  simp only [List.mem_cons, List.not_mem_nil, or_false] at hb ⊢
  rcases hb with h | h
  · exact .inl h
  · exact .inr (.inr h)
end L2
namespace Mt
open PySem
mutual
/-- no lists, no dicts -/
def tupB : PyData → Bool
  | .none => true
  | .bool _ => true
  | .int _ => true
  | .str _ => true
  | .tuple es => tupBAll es
  | _ => false
def tupBAll : List PyData → Bool
  | [] => true
  | e :: es => tupB e && tupBAll es
end
theorem tupB_at : ∀ {es : List PyData} {e : PyData}, tupBAll es = true → e ∈ es → tupB e = true
  | x :: es, e, h, m => by
    simp only [tupBAll, Bool.and_eq_true] at h
    rcases List.mem_cons.mp m with rfl | m
    · exact h.1
    · exact tupB_at h.2 m
theorem tupB_ints : ∀ xs : List Int, tupBAll (xs.map PyData.int) = true
  | [] => rfl
  | x :: xs => by simp only [List.map_cons, tupBAll, tupB, tupB_ints xs, Bool.true_and]
end Mt
namespace Mt
theorem AsOk.take {h : Int} {as : List Int} (o : AsOk h as) (n : Nat) : AsOk h (as.take n) := ⟨o.nd.sublist (List.take_sublist _ _), fun a ha => o.rg a (List.mem_of_mem_take ha)⟩
end Mt

set_option maxRecDepth 100000
set_option maxHeartbeats 1000000
local macro_rules | `(tactic| walk_at "vis") => `(tactic| first | exact Or.inl rfl | exact Or.inr (Or.inl rfl) | exact Or.inr (Or.inr rfl))
local macro_rules | `(tactic| walk_at "cond") => `(tactic| first | assumption | decide | omega | (simp only [L2.CDiv, L2.CMul, L2.CPow]; first | decide | omega))
local macro_rules | `(tactic| walk_at "sq") => `(tactic| first | assumption | exact L2.SqL.of (by assumption) | exact L2.SqT.of (by assumption) | exact L2.SqL.of L2.upd_same | exact L2.SqT.of L2.upd_same)
local macro_rules | `(tactic| walk_at "lk") => `(tactic| first | assumption | exact L2.upd_same)
local macro_rules | `(tactic| walk_at "ty") => `(tactic| first | assumption | exact L2.TyS.non | exact L2.TyS.bl _ | exact L2.TyS.int _ | exact L2.TyS.str _ | exact L2.TyS.tup (by assumption) | exact L2.TyS.lst (by assumption))
local macro_rules | `(tactic| walk_at "rs") => `(tactic| repeat (first
  | with_reducible refine L2.rd_if ?_ | with_reducible refine L2.rd_asg ?_ | with_reducible refine L2.rd_drop ?_ | with_reducible refine L2.rd_ret ?_ | with_reducible refine L2.rd_next ?_
  | with_reducible refine L2.rd_op ?_ | with_reducible refine L2.rd_un ?_ | ((with_reducible apply L2.rd_var); (case e => exact rfl)) | with_reducible refine L2.rd_c ?_
  | with_reducible refine L2.rd_I0 ?_ | ((with_reducible apply L2.rd_I); (case hc => walk_at "cond")) | with_reducible refine L2.rd_U ?_
  | with_reducible refine L2.rd_test ?_ | with_reducible refine L2.rd_tB ?_ | with_reducible refine L2.rd_bl' ?_ | ((with_reducible apply L2.rd_eq); (case hs => exact rfl)) | ((with_reducible apply L2.rd_ne); (case hs => exact rfl))
  | ((with_reducible apply L2.rd_ixL); (case hq => walk_at "sq"); (case ha => exact rfl)) | ((with_reducible apply L2.rd_ixT); (case hq => walk_at "sq"); (case ha => exact rfl))
  | with_reducible refine L2.rd_name ?_ | with_reducible refine L2.rd_sub ?_ | ((with_reducible apply L2.rd_setL); (case hp => walk_at "lk"); (case hi => exact rfl))
  | with_reducible refine L2.rd_CB ?_ | with_reducible refine L2.rd_nil ?_ | with_reducible refine L2.rd_cons ?_ | with_reducible refine L2.rd_and ?_ | with_reducible refine L2.rd_or ?_ | with_reducible refine L2.rd_not ?_
  | with_reducible refine L2.rd_andV ?_ | with_reducible refine L2.rd_orV ?_ | with_reducible refine L2.rd_notV ?_ | with_reducible refine L2.rd_ifE ?_ | with_reducible refine L2.rd_call ?_ | with_reducible refine L2.rd_callX ?_ | with_reducible refine L2.rd_raise0 ?_ | with_reducible refine L2.rd_raise1 ?_ | with_reducible refine L2.rd_try ?_ | with_reducible refine L2.rd_xat ?_ | with_reducible refine L2.rd_unx ?_ | with_reducible refine L2.rd_star ?_ | with_reducible refine L2.rd_izipL ?_ | ((with_reducible apply L2.rd_glst); (case hq => walk_at "sq"); (case hl => exact rfl)) | with_reducible refine L2.rd_range ?_ | with_reducible refine L2.rd_callK ?_ | with_reducible refine L2.rd_callKX ?_ | with_reducible refine L2.rd_ienum ?_ | with_reducible refine L2.rd_intB ?_ | with_reducible refine L2.rd_intI ?_ | ((with_reducible apply L2.rd_callV); (case hi => exact rfl))
  | with_reducible refine L2.rd_tup ?_ | with_reducible refine L2.rd_tupA ?_ | with_reducible refine L2.rd_lstA ?_ | with_reducible refine L2.rd_dnewA ?_ | with_reducible refine L2.rd_lst ?_ | with_reducible refine L2.rd_chain ?_ | with_reducible refine L2.rd_sl ?_ | with_reducible refine L2.rd_nopart ?_ | with_reducible refine L2.rd_part ?_ | with_reducible refine L2.rd_int ?_
  | ((with_reducible apply L2.rd_slL); (case hq => walk_at "sq")) | ((with_reducible apply L2.rd_slG); (case hq => walk_at "sq"))
  | with_reducible refine L2.rd_gnil ?_ | with_reducible refine L2.rd_gcons ?_ | ((with_reducible apply L2.rd_tupT); (case hq => walk_at "sq"); (case hl => exact rfl)) | with_reducible refine L2.rd_BM ?_ | with_reducible refine L2.rd_for ?_ | with_reducible refine L2.rd_rng1 ?_ | with_reducible refine L2.rd_rngV ?_ | with_reducible refine L2.rd_ilist ?_ | with_reducible refine L2.rd_itup ?_ | with_reducible refine L2.rd_comp ?_ | with_reducible refine L2.rd_izip ?_
  | ((with_reducible apply L2.rd_slA); (case hq => walk_at "sq")) | ((with_reducible apply L2.rd_listAL); (case hq => walk_at "sq")) | ((with_reducible apply L2.rd_listAT); (case hq => walk_at "sq")) | ((with_reducible apply L2.rd_tupleAL); (case hq => walk_at "sq")) | ((with_reducible apply L2.rd_lenL); (case hq => walk_at "sq")) | ((with_reducible apply L2.rd_lenT); (case hq => walk_at "sq")) | ((with_reducible apply L2.rd_listFT); (case hq => walk_at "sq")) | ((with_reducible apply L2.rd_listFL); (case hq => walk_at "sq")) | ((with_reducible apply L2.rd_listL); (case hq => walk_at "sq")) | ((with_reducible apply L2.rd_listT); (case hq => walk_at "sq"))
  | ((with_reducible apply L2.rd_tupleL); (case hq => walk_at "sq")) | ((with_reducible apply L2.rd_isiTup); (case hd => assumption)) | ((with_reducible apply L2.rd_isiInt); (case hd => assumption)) | ((with_reducible apply L2.rd_isiBool); (case hd => assumption)) | ((with_reducible apply L2.rd_isiStr); (case hd => assumption)) | ((with_reducible apply L2.rd_isiList); (case hd => assumption)) | with_reducible refine L2.rd_min ?_ | with_reducible refine L2.rd_max ?_ | refine L2.rd_iteT ?_ | refine L2.rd_iteF ?_ | with_reducible refine L2.rd_isN ?_ | with_reducible refine L2.rd_isnB ?_ | with_reducible refine L2.rd_isB ?_ | with_reducible refine L2.rd_notN ?_ | ((with_reducible apply L2.rd_str); (case hl => walk_at "cond")) | dsimp only))
local macro_rules | `(tactic| walk_at "rd") => `(tactic| repeat (first
  | with_reducible refine L2.rd_seq ?_ | with_reducible refine L2.rd_if ?_ | with_reducible refine L2.rd_asg ?_ | with_reducible refine L2.rd_drop ?_ | with_reducible refine L2.rd_ret ?_ | with_reducible refine L2.rd_next ?_
  | with_reducible refine L2.rd_op ?_ | with_reducible refine L2.rd_un ?_ | ((with_reducible apply L2.rd_var); (case e => exact rfl)) | with_reducible refine L2.rd_c ?_
  | with_reducible refine L2.rd_I0 ?_ | ((with_reducible apply L2.rd_I); (case hc => walk_at "cond")) | with_reducible refine L2.rd_U ?_
  | with_reducible refine L2.rd_test ?_ | with_reducible refine L2.rd_tB ?_ | with_reducible refine L2.rd_bl' ?_ | ((with_reducible apply L2.rd_eq); (case hs => exact rfl)) | ((with_reducible apply L2.rd_ne); (case hs => exact rfl))
  | ((with_reducible apply L2.rd_ixL); (case hq => walk_at "sq"); (case ha => exact rfl)) | ((with_reducible apply L2.rd_ixT); (case hq => walk_at "sq"); (case ha => exact rfl))
  | with_reducible refine L2.rd_name ?_ | with_reducible refine L2.rd_sub ?_ | ((with_reducible apply L2.rd_setL); (case hp => walk_at "lk"); (case hi => exact rfl))
  | with_reducible refine L2.rd_CB ?_ | with_reducible refine L2.rd_nil ?_ | with_reducible refine L2.rd_cons ?_ | with_reducible refine L2.rd_and ?_ | with_reducible refine L2.rd_or ?_ | with_reducible refine L2.rd_not ?_
  | with_reducible refine L2.rd_andV ?_ | with_reducible refine L2.rd_orV ?_ | with_reducible refine L2.rd_notV ?_ | with_reducible refine L2.rd_ifE ?_ | with_reducible refine L2.rd_call ?_ | with_reducible refine L2.rd_callX ?_ | with_reducible refine L2.rd_raise0 ?_ | with_reducible refine L2.rd_raise1 ?_ | with_reducible refine L2.rd_try ?_ | with_reducible refine L2.rd_xat ?_ | with_reducible refine L2.rd_unx ?_ | with_reducible refine L2.rd_star ?_ | with_reducible refine L2.rd_izipL ?_ | ((with_reducible apply L2.rd_glst); (case hq => walk_at "sq"); (case hl => exact rfl)) | with_reducible refine L2.rd_range ?_ | with_reducible refine L2.rd_callK ?_ | with_reducible refine L2.rd_callKX ?_ | with_reducible refine L2.rd_ienum ?_ | with_reducible refine L2.rd_intB ?_ | with_reducible refine L2.rd_intI ?_ | ((with_reducible apply L2.rd_callV); (case hi => exact rfl))
  | with_reducible refine L2.rd_tup ?_ | with_reducible refine L2.rd_tupA ?_ | with_reducible refine L2.rd_lstA ?_ | with_reducible refine L2.rd_dnewA ?_ | with_reducible refine L2.rd_lst ?_ | with_reducible refine L2.rd_chain ?_ | with_reducible refine L2.rd_sl ?_ | with_reducible refine L2.rd_nopart ?_ | with_reducible refine L2.rd_part ?_ | with_reducible refine L2.rd_int ?_
  | ((with_reducible apply L2.rd_slL); (case hq => walk_at "sq")) | ((with_reducible apply L2.rd_slG); (case hq => walk_at "sq"))
  | with_reducible refine L2.rd_gnil ?_ | with_reducible refine L2.rd_gcons ?_ | ((with_reducible apply L2.rd_tupT); (case hq => walk_at "sq"); (case hl => exact rfl)) | with_reducible refine L2.rd_BM ?_ | with_reducible refine L2.rd_for ?_ | with_reducible refine L2.rd_rng1 ?_ | with_reducible refine L2.rd_rngV ?_ | with_reducible refine L2.rd_ilist ?_ | with_reducible refine L2.rd_itup ?_ | with_reducible refine L2.rd_comp ?_ | with_reducible refine L2.rd_izip ?_
  | ((with_reducible apply L2.rd_slA); (case hq => walk_at "sq")) | ((with_reducible apply L2.rd_listAL); (case hq => walk_at "sq")) | ((with_reducible apply L2.rd_listAT); (case hq => walk_at "sq")) | ((with_reducible apply L2.rd_tupleAL); (case hq => walk_at "sq")) | ((with_reducible apply L2.rd_lenL); (case hq => walk_at "sq")) | ((with_reducible apply L2.rd_lenT); (case hq => walk_at "sq")) | ((with_reducible apply L2.rd_listFT); (case hq => walk_at "sq")) | ((with_reducible apply L2.rd_listFL); (case hq => walk_at "sq")) | ((with_reducible apply L2.rd_listL); (case hq => walk_at "sq")) | ((with_reducible apply L2.rd_listT); (case hq => walk_at "sq"))
  | ((with_reducible apply L2.rd_tupleL); (case hq => walk_at "sq")) | ((with_reducible apply L2.rd_isiTup); (case hd => assumption)) | ((with_reducible apply L2.rd_isiInt); (case hd => assumption)) | ((with_reducible apply L2.rd_isiBool); (case hd => assumption)) | ((with_reducible apply L2.rd_isiStr); (case hd => assumption)) | ((with_reducible apply L2.rd_isiList); (case hd => assumption)) | with_reducible refine L2.rd_min ?_ | with_reducible refine L2.rd_max ?_ | refine L2.rd_iteT ?_ | refine L2.rd_iteF ?_ | with_reducible refine L2.rd_isN ?_ | with_reducible refine L2.rd_isnB ?_ | with_reducible refine L2.rd_isB ?_ | with_reducible refine L2.rd_notN ?_ | ((with_reducible apply L2.rd_str); (case hl => walk_at "cond")) | dsimp only))
local macro_rules | `(tactic| walk_at "rq") => `(tactic| repeat (first
  | with_reducible refine L2.rd_seq ?_ | with_reducible refine L2.rd_if ?_ | with_reducible refine L2.rd_asg ?_ | with_reducible refine L2.rd_drop ?_ | with_reducible refine L2.rd_ret ?_ | with_reducible refine L2.rd_next ?_
  | with_reducible refine L2.rd_op ?_ | with_reducible refine L2.rd_un ?_ | ((with_reducible apply L2.rd_var); (case e => exact rfl)) | with_reducible refine L2.rd_c ?_
  | with_reducible refine L2.rd_I0 ?_ | ((with_reducible apply L2.rd_I); (case hc => walk_at "cond")) | with_reducible refine L2.rd_U ?_
  | with_reducible refine L2.rd_test ?_ | with_reducible refine L2.rd_tB ?_ | with_reducible refine L2.rd_bl' ?_ | ((with_reducible apply L2.rd_eq); (case hs => exact rfl)) | ((with_reducible apply L2.rd_ne); (case hs => exact rfl))
  | ((with_reducible apply L2.rd_ixL); (case hq => walk_at "sq"); (case ha => exact rfl)) | ((with_reducible apply L2.rd_ixT); (case hq => walk_at "sq"); (case ha => exact rfl))
  | with_reducible refine L2.rd_name ?_ | with_reducible refine L2.rd_sub ?_ | ((with_reducible apply L2.rd_setL); (case hp => walk_at "lk"); (case hi => exact rfl))
  | with_reducible refine L2.rd_CB ?_ | with_reducible refine L2.rd_nil ?_ | with_reducible refine L2.rd_cons ?_ | with_reducible refine L2.rd_and ?_ | with_reducible refine L2.rd_or ?_ | with_reducible refine L2.rd_not ?_
  | with_reducible refine L2.rd_andV ?_ | with_reducible refine L2.rd_orV ?_ | with_reducible refine L2.rd_notV ?_ | with_reducible refine L2.rd_ifE ?_ | with_reducible refine L2.rd_call ?_ | with_reducible refine L2.rd_callX ?_ | with_reducible refine L2.rd_raise0 ?_ | with_reducible refine L2.rd_raise1 ?_ | with_reducible refine L2.rd_try ?_ | with_reducible refine L2.rd_xat ?_ | with_reducible refine L2.rd_unx ?_ | with_reducible refine L2.rd_star ?_ | with_reducible refine L2.rd_izipL ?_ | ((with_reducible apply L2.rd_glst); (case hq => walk_at "sq"); (case hl => exact rfl)) | with_reducible refine L2.rd_range ?_ | with_reducible refine L2.rd_callK ?_ | with_reducible refine L2.rd_callKX ?_ | with_reducible refine L2.rd_ienum ?_ | with_reducible refine L2.rd_intB ?_ | with_reducible refine L2.rd_intI ?_ | ((with_reducible apply L2.rd_callV); (case hi => exact rfl))
  | with_reducible refine L2.rd_tup ?_ | with_reducible refine L2.rd_tupA ?_ | with_reducible refine L2.rd_lstA ?_ | with_reducible refine L2.rd_dnewA ?_ | with_reducible refine L2.rd_lst ?_ | with_reducible refine L2.rd_chain ?_ | with_reducible refine L2.rd_sl ?_ | with_reducible refine L2.rd_nopart ?_ | with_reducible refine L2.rd_part ?_ | with_reducible refine L2.rd_int ?_
  | ((with_reducible apply L2.rd_slL); (case hq => walk_at "sq")) | ((with_reducible apply L2.rd_slG); (case hq => walk_at "sq"))
  | with_reducible refine L2.rd_gnil ?_ | with_reducible refine L2.rd_gcons ?_ | ((with_reducible apply L2.rd_tupT); (case hq => walk_at "sq"); (case hl => exact rfl)) | with_reducible refine L2.rd_BM ?_ | with_reducible refine L2.rd_for ?_ | with_reducible refine L2.rd_rng1 ?_ | with_reducible refine L2.rd_rngV ?_ | with_reducible refine L2.rd_ilist ?_ | with_reducible refine L2.rd_itup ?_ | with_reducible refine L2.rd_comp ?_ | with_reducible refine L2.rd_izip ?_
  | ((with_reducible apply L2.rd_slA); (case hq => walk_at "sq")) | ((with_reducible apply L2.rd_listAL); (case hq => walk_at "sq")) | ((with_reducible apply L2.rd_listAT); (case hq => walk_at "sq")) | ((with_reducible apply L2.rd_tupleAL); (case hq => walk_at "sq")) | ((with_reducible apply L2.rd_lenL); (case hq => walk_at "sq")) | ((with_reducible apply L2.rd_lenT); (case hq => walk_at "sq")) | ((with_reducible apply L2.rd_listFT); (case hq => walk_at "sq")) | ((with_reducible apply L2.rd_listFL); (case hq => walk_at "sq")) | ((with_reducible apply L2.rd_listL); (case hq => walk_at "sq")) | ((with_reducible apply L2.rd_listT); (case hq => walk_at "sq"))
  | ((with_reducible apply L2.rd_tupleL); (case hq => walk_at "sq")) | ((with_reducible apply L2.rd_isiTup); (case hd => assumption)) | ((with_reducible apply L2.rd_isiInt); (case hd => assumption)) | ((with_reducible apply L2.rd_isiBool); (case hd => assumption)) | ((with_reducible apply L2.rd_isiStr); (case hd => assumption)) | ((with_reducible apply L2.rd_isiList); (case hd => assumption)) | with_reducible refine L2.rd_min ?_ | with_reducible refine L2.rd_max ?_ | ((with_reducible refine L2.rd_iteG ?_); first | refine L2.rd_iteT ?_ | refine L2.rd_iteF ?_) | with_reducible refine L2.rd_isN ?_ | with_reducible refine L2.rd_isnB ?_ | with_reducible refine L2.rd_isB ?_ | with_reducible refine L2.rd_notN ?_ | ((with_reducible apply L2.rd_str); (case hl => walk_at "cond")) | dsimp only))
namespace My
open PySem L2
def top (i : Nat) : Stmt := PySem.Challenge.pw_laterline_k35_avoiding_told.main.body.getD i (.Pass ⟨0, 0, 0, 0⟩)
abbrev s_is_number : Stmt := top 8
abbrev s_is_within : Stmt := top 9
abbrev s_require_within : Stmt := top 10
abbrev s_is_house : Stmt := top 13
abbrev s_require_house : Stmt := top 14
abbrev s_require_asked : Stmt := top 15
abbrev s_avoiding : Stmt := top 16
abbrev s_law_deck : Stmt := top 18
abbrev s_law_take : Stmt := top 19
abbrev s_law_same : Stmt := top 20
abbrev s_law_asked : Stmt := top 21
abbrev s_law_odd : Stmt := top 22
abbrev s_law_refused : Stmt := top 23
abbrev s_law_wrong : Stmt := top 24
abbrev s_law : Stmt := top 25
theorem sc_is_number : FnScope ["thing"] ["thing"] (defScope s_is_number) := ⟨rfl, rfl, rfl, by decide +kernel, rfl, by decide +kernel, by decide +kernel⟩
theorem sc_is_within : FnScope ["thing", "least", "most"] ["thing", "least", "most"] (defScope s_is_within) := ⟨rfl, rfl, rfl, by decide +kernel, rfl, by decide +kernel, by decide +kernel⟩
theorem sc_require_within : FnScope ["thing", "least", "most", "what"] ["thing", "least", "most", "what"] (defScope s_require_within) := ⟨rfl, rfl, rfl, by decide +kernel, rfl, by decide +kernel, by decide +kernel⟩
theorem sc_is_house : FnScope ["thing", "houses"] ["thing", "houses"] (defScope s_is_house) := ⟨rfl, rfl, rfl, by decide +kernel, rfl, by decide +kernel, by decide +kernel⟩
theorem sc_require_house : FnScope ["thing", "houses"] ["thing", "houses"] (defScope s_require_house) := ⟨rfl, rfl, rfl, by decide +kernel, rfl, by decide +kernel, by decide +kernel⟩
theorem sc_require_asked : FnScope ["asked", "houses", "at", "house"] ["asked", "houses"] (defScope s_require_asked) := ⟨rfl, rfl, rfl, by decide +kernel, rfl, by decide +kernel, by decide +kernel⟩
theorem sc_avoiding : FnScope ["houses", "asked", "need", "others"] ["houses", "asked", "need"] (defScope s_avoiding) := ⟨rfl, rfl, rfl, by decide +kernel, rfl, by decide +kernel, by decide +kernel⟩
theorem sc_law_deck : FnScope ["_law_script", "_law_cells"] ["_law_script"] (defScope s_law_deck) := ⟨rfl, rfl, rfl, by decide +kernel, rfl, by decide +kernel, by decide +kernel⟩
theorem sc_law_take : FnScope ["_law_deck_here", "_law_many", "_law_cells", "_law_count", "_law_rests", "_law_place", "_law_digits", "_law_mixed"] ["_law_deck_here", "_law_many"] (defScope s_law_take) := ⟨rfl, rfl, rfl, by decide +kernel, rfl, by decide +kernel, by decide +kernel⟩
theorem sc_law_same : FnScope ["_law_found", "_law_due", "_law_one", "_law_other"] ["_law_found", "_law_due"] (defScope s_law_same) := ⟨rfl, rfl, rfl, by decide +kernel, rfl, by decide +kernel, by decide +kernel⟩
theorem sc_law_asked : FnScope ["_law_deck_here", "_law_many", "_law_waiting", "_law_found", "_law_k"] ["_law_deck_here", "_law_many"] (defScope s_law_asked) := ⟨rfl, rfl, rfl, by decide +kernel, rfl, by decide +kernel, by decide +kernel⟩
theorem sc_law_odd : FnScope ["_law_deck_here", "_law_least", "_law_most", "_law_some"] ["_law_deck_here", "_law_least", "_law_most"] (defScope s_law_odd) := ⟨rfl, rfl, rfl, by decide +kernel, rfl, by decide +kernel, by decide +kernel⟩
theorem sc_law_refused : FnScope ["_law_handed", "_law_word", "_law_field", "_law_caught", "error"] ["_law_handed", "_law_word", "_law_field"] (defScope s_law_refused) := ⟨rfl, rfl, rfl, by decide +kernel, rfl, by decide +kernel, by decide +kernel⟩
theorem sc_law_wrong : FnScope ["_law_deck_here", "_law_many", "_law_asked_here", "_law_wanted", "_law_no_many", "_law_no_need", "_law_odd_here", "_law_place", "_law_strange", "_law_twin"] ["_law_deck_here", "_law_many", "_law_asked_here", "_law_wanted"] (defScope s_law_wrong) := ⟨rfl, rfl, rfl, by decide +kernel, rfl, by decide +kernel, by decide +kernel⟩
theorem sc_law : FnScope ["_law_script", "_law_deck_here", "_law_turn", "_law_many", "_law_asked_here", "_law_wanted", "_law_free", "_law_due"] ["_law_script"] (defScope s_law) := ⟨rfl, rfl, rfl, by decide +kernel, rfl, by decide +kernel, by decide +kernel⟩
abbrev t_NoCount : Stmt := inClass (top 6) 0
abbrev t_NoHouse : Stmt := inClass (top 4) 0
theorem ib_NoCount : IBody t_NoCount "what" "what" := ⟨⟨rfl, rfl, rfl, rfl, by decide +kernel, rfl, rfl, rfl, by decide +kernel, by decide +kernel⟩, ⟨_, rfl, rfl⟩, fun _ _ _ _ _ _ _ _ _ _ _ => rfl, ⟨_, _, _, _, _, _, _, _, _, _, _, _, _, rfl, fun _ => rfl⟩⟩
theorem ib_NoHouse : IBody t_NoHouse "house" "house" := ⟨⟨rfl, rfl, rfl, rfl, by decide +kernel, rfl, rfl, rfl, by decide +kernel, by decide +kernel⟩, ⟨_, rfl, rfl⟩, fun _ _ _ _ _ _ _ _ _ _ _ => rfl, ⟨_, _, _, _, _, _, _, _, _, _, _, _, _, rfl, fun _ => rfl⟩⟩
/-- the addresses that the top has given -/
structure Adr where
  f_is_number : Addr
  d_is_number : FuncData
  f_is_within : Addr
  d_is_within : FuncData
  f_require_within : Addr
  d_require_within : FuncData
  f_is_house : Addr
  d_is_house : FuncData
  f_require_house : Addr
  d_require_house : FuncData
  f_require_asked : Addr
  d_require_asked : FuncData
  f_avoiding : Addr
  d_avoiding : FuncData
  f_law_deck : Addr
  d_law_deck : FuncData
  f_law_take : Addr
  d_law_take : FuncData
  f_law_same : Addr
  d_law_same : FuncData
  f_law_asked : Addr
  d_law_asked : FuncData
  f_law_odd : Addr
  d_law_odd : FuncData
  f_law_refused : Addr
  d_law_refused : FuncData
  f_law_wrong : Addr
  d_law_wrong : FuncData
  f_law : Addr
  d_law : FuncData
  u_HOUSES : Value
  C_LineError : Addr
  C_NoCount : Addr
  C_NoHouse : Addr
  C_NoPlace : Addr
  C_NoRow : Addr
  C_NoRule : Addr
  I_NoCount : Addr
  I_NoHouse : Addr
/-- what the walk asks of the top -/
structure Txt (P : Program) (K : PySem.W.Frag) (mg : Str → Option Value) (a : Adr) : Prop where
  mC_LineError : mg "LineError" = some (.ref a.C_LineError)
  mC_NoCount : mg "NoCount" = some (.ref a.C_NoCount)
  mC_NoHouse : mg "NoHouse" = some (.ref a.C_NoHouse)
  mC_NoPlace : mg "NoPlace" = some (.ref a.C_NoPlace)
  mC_NoRow : mg "NoRow" = some (.ref a.C_NoRow)
  mC_NoRule : mg "NoRule" = some (.ref a.C_NoRule)
  Z_NoCount : XIni P K a.C_NoCount a.C_LineError a.I_NoCount "what"
  Z_NoHouse : XIni P K a.C_NoHouse a.C_LineError a.I_NoHouse "house"
  xg_NoCount : XG K a.C_NoCount
  ex_NoCount_LineError : PySem.W.exmOne K (.ref a.C_NoCount) (.ref a.C_LineError) = some true
  is_NoCount_NoCount : PySem.W.kitOne K (.ref a.C_NoCount) (.ref a.C_NoCount) = some true
  is_NoCount_NoHouse : PySem.W.kitOne K (.ref a.C_NoCount) (.ref a.C_NoHouse) = some false
  is_NoCount_NoPlace : PySem.W.kitOne K (.ref a.C_NoCount) (.ref a.C_NoPlace) = some false
  is_NoCount_NoRow : PySem.W.kitOne K (.ref a.C_NoCount) (.ref a.C_NoRow) = some false
  is_NoCount_NoRule : PySem.W.kitOne K (.ref a.C_NoCount) (.ref a.C_NoRule) = some false
  is_NoCount_ValueError : PySem.W.kitOne K (.ref a.C_NoCount) (.type "ValueError") = some true
  xg_NoHouse : XG K a.C_NoHouse
  ex_NoHouse_LineError : PySem.W.exmOne K (.ref a.C_NoHouse) (.ref a.C_LineError) = some true
  is_NoHouse_NoCount : PySem.W.kitOne K (.ref a.C_NoHouse) (.ref a.C_NoCount) = some false
  is_NoHouse_NoHouse : PySem.W.kitOne K (.ref a.C_NoHouse) (.ref a.C_NoHouse) = some true
  is_NoHouse_NoPlace : PySem.W.kitOne K (.ref a.C_NoHouse) (.ref a.C_NoPlace) = some false
  is_NoHouse_NoRow : PySem.W.kitOne K (.ref a.C_NoHouse) (.ref a.C_NoRow) = some false
  is_NoHouse_NoRule : PySem.W.kitOne K (.ref a.C_NoHouse) (.ref a.C_NoRule) = some false
  is_NoHouse_ValueError : PySem.W.kitOne K (.ref a.C_NoHouse) (.type "ValueError") = some true
  c_HOUSES : mg "HOUSES" = some a.u_HOUSES ∧ RelV (.int 8) a.u_HOUSES
  b_ValueError : mg "ValueError" = none
  b_bool : mg "bool" = none
  b_enumerate : mg "enumerate" = none
  b_int : mg "int" = none
  b_isinstance : mg "isinstance" = none
  b_len : mg "len" = none
  b_list : mg "list" = none
  b_range : mg "range" = none
  b_str : mg "str" = none
  b_tuple : mg "tuple" = none
  b_zip : mg "zip" = none
  F_is_number : Fun K "is_number" "is_number" s_is_number a.f_is_number a.d_is_number
  m_is_number : mg "is_number" = some (.ref a.f_is_number)
  k_is_number : PySem.W.keepIn K (.ref a.f_is_number) = true
  bd_is_number : Binds K a.d_is_number ["thing"] []
  F_is_within : Fun K "is_within" "is_within" s_is_within a.f_is_within a.d_is_within
  m_is_within : mg "is_within" = some (.ref a.f_is_within)
  k_is_within : PySem.W.keepIn K (.ref a.f_is_within) = true
  bd_is_within : Binds K a.d_is_within ["thing", "least", "most"] []
  F_require_within : Fun K "require_within" "require_within" s_require_within a.f_require_within a.d_require_within
  m_require_within : mg "require_within" = some (.ref a.f_require_within)
  k_require_within : PySem.W.keepIn K (.ref a.f_require_within) = true
  bd_require_within : Binds K a.d_require_within ["thing", "least", "most", "what"] []
  F_is_house : Fun K "is_house" "is_house" s_is_house a.f_is_house a.d_is_house
  m_is_house : mg "is_house" = some (.ref a.f_is_house)
  k_is_house : PySem.W.keepIn K (.ref a.f_is_house) = true
  kb_is_house : KBinds K a.d_is_house ["thing", "houses"] ["houses"] kg2 kg2
  F_require_house : Fun K "require_house" "require_house" s_require_house a.f_require_house a.d_require_house
  m_require_house : mg "require_house" = some (.ref a.f_require_house)
  k_require_house : PySem.W.keepIn K (.ref a.f_require_house) = true
  kb_require_house : KBinds K a.d_require_house ["thing", "houses"] ["houses"] kg2 kg2
  F_require_asked : Fun K "require_asked" "require_asked" s_require_asked a.f_require_asked a.d_require_asked
  m_require_asked : mg "require_asked" = some (.ref a.f_require_asked)
  k_require_asked : PySem.W.keepIn K (.ref a.f_require_asked) = true
  bd_require_asked : Binds K a.d_require_asked ["asked", "houses"] []
  F_avoiding : Fun K "avoiding" "avoiding" s_avoiding a.f_avoiding a.d_avoiding
  m_avoiding : mg "avoiding" = some (.ref a.f_avoiding)
  k_avoiding : PySem.W.keepIn K (.ref a.f_avoiding) = true
  bd_avoiding : Binds K a.d_avoiding ["houses", "asked", "need"] []
  F_law_deck : Fun K "_law_deck" "_law_deck" s_law_deck a.f_law_deck a.d_law_deck
  m__law_deck : mg "_law_deck" = some (.ref a.f_law_deck)
  k__law_deck : PySem.W.keepIn K (.ref a.f_law_deck) = true
  bd__law_deck : Binds K a.d_law_deck ["_law_script"] []
  F_law_take : Fun K "_law_take" "_law_take" s_law_take a.f_law_take a.d_law_take
  m__law_take : mg "_law_take" = some (.ref a.f_law_take)
  k__law_take : PySem.W.keepIn K (.ref a.f_law_take) = true
  bd__law_take : Binds K a.d_law_take ["_law_deck_here", "_law_many"] []
  F_law_same : Fun K "_law_same" "_law_same" s_law_same a.f_law_same a.d_law_same
  m__law_same : mg "_law_same" = some (.ref a.f_law_same)
  k__law_same : PySem.W.keepIn K (.ref a.f_law_same) = true
  bd__law_same : Binds K a.d_law_same ["_law_found", "_law_due"] []
  F_law_asked : Fun K "_law_asked" "_law_asked" s_law_asked a.f_law_asked a.d_law_asked
  m__law_asked : mg "_law_asked" = some (.ref a.f_law_asked)
  k__law_asked : PySem.W.keepIn K (.ref a.f_law_asked) = true
  bd__law_asked : Binds K a.d_law_asked ["_law_deck_here", "_law_many"] []
  F_law_odd : Fun K "_law_odd" "_law_odd" s_law_odd a.f_law_odd a.d_law_odd
  m__law_odd : mg "_law_odd" = some (.ref a.f_law_odd)
  k__law_odd : PySem.W.keepIn K (.ref a.f_law_odd) = true
  bd__law_odd : Binds K a.d_law_odd ["_law_deck_here", "_law_least", "_law_most"] []
  F_law_refused : Fun K "_law_refused" "_law_refused" s_law_refused a.f_law_refused a.d_law_refused
  m__law_refused : mg "_law_refused" = some (.ref a.f_law_refused)
  k__law_refused : PySem.W.keepIn K (.ref a.f_law_refused) = true
  bd__law_refused : Binds K a.d_law_refused ["_law_handed", "_law_word", "_law_field"] []
  F_law_wrong : Fun K "_law_wrong" "_law_wrong" s_law_wrong a.f_law_wrong a.d_law_wrong
  m__law_wrong : mg "_law_wrong" = some (.ref a.f_law_wrong)
  k__law_wrong : PySem.W.keepIn K (.ref a.f_law_wrong) = true
  bd__law_wrong : Binds K a.d_law_wrong ["_law_deck_here", "_law_many", "_law_asked_here", "_law_wanted"] []
  F_law : Fun K "law" "law" s_law a.f_law a.d_law
  m_law : mg "law" = some (.ref a.f_law)
  k_law : PySem.W.keepIn K (.ref a.f_law) = true
  bd_law : Binds K a.d_law ["_law_script"] []
  bl_law : ∀ (s : Shared) (u : Value), BindsTo s a.d_law ⟨[u], []⟩ [("_law_script", u)]
section
variable {P : Program} {w : World} {K : PySem.W.Frag} {mg : Str → Option Value} {base : Heap} {a : Adr}
def sp_is_number (K : PySem.W.Frag) : Sp := fun vs H Q _ => ∃ (N : List Addr) (x : V) (d : PyData), vs = [x] ∧ Dt K N H x d ∧ Q (.bl (Mt.numD d)) H
theorem ok_is_number (T : Txt P K mg a)  : FnOk P w K mg base CX0 1 a.f_is_number a.d_is_number ["thing"] (sp_is_number K) := by
  refine T.F_is_number.ok sc_is_number (fun vs H Q E h => ?_) (fun cdv A outer s H vs Q E hr h => ?_)
  · obtain ⟨N, x, d, rfl, _⟩ := h; rfl
  · obtain ⟨N, x, d, rfl, hd, k⟩ := h
    refine exW ⟨_, (qss_one (qs_ret (pe_and (qe_callB cn_isi (by rfl) T.b_isinstance (by decide +kernel) (qa (pv 0 (by rfl) (by walk_at "vis") (by decide) (by decide)) (qa (pe_bltn (by rfl) T.b_int (by decide +kernel) (v := .ty "int") rfl (by decide) (by decide)) qa_nil (by rfl)) (by rfl)) (by decide) (by decide) (by rfl) (by rfl)) (pe_one (pe_not (qe_callB cn_isi (by rfl) T.b_isinstance (by decide +kernel) (qa (pv 0 (by rfl) (by walk_at "vis") (by decide) (by decide)) (qa (pe_bltn (by rfl) T.b_bool (by decide +kernel) (v := .ty "bool") rfl (by decide) (by decide)) qa_nil (by rfl)) (by rfl)) (by decide) (by decide) (by rfl) (by rfl))))))), ?_⟩
    try dsimp only [cxOf]
    walk_at "rd"
    cases d with
    | int i => dsimp only [isIntD]; walk_at "rd"; dsimp only [isBoolD]; walk_at "rd"; exact k
    | bool b => dsimp only [isIntD]; walk_at "rd"; dsimp only [isBoolD]; walk_at "rd"; exact k
    | _ => dsimp only [isIntD]; walk_at "rd"; exact k

def sp_is_within (K : PySem.W.Frag) : Sp := fun vs H Q _ => ∃ (N : List Addr) (x : V) (d : PyData) (lo hi : Int), vs = [x, .int lo, .int hi] ∧ Dt K N H x d ∧ Q (.bl (Mt.withinD lo hi d)) H
theorem ok_is_within (T : Txt P K mg a) (G_is_number : FnOk P w K mg base CX0 1 a.f_is_number a.d_is_number ["thing"] (sp_is_number K)) : FnOk P w K mg base CX0 2 a.f_is_within a.d_is_within ["thing", "least", "most"] (sp_is_within K) := by
  refine T.F_is_within.ok sc_is_within (fun vs H Q E h => ?_) (fun cdv A outer s H vs Q E hr h => ?_)
  · obtain ⟨N, x, d, lo, hi, rfl, _⟩ := h; rfl
  · obtain ⟨N, x, d, lo, hi, rfl, hd, k⟩ := h
    refine exW ⟨_, (qss_one (qs_ret (pe_and (qe_call G_is_number (hr.mono (by decide)) (by rfl) T.m_is_number T.k_is_number T.bd_is_number .nil pass0 (qa (pv 0 (by rfl) (by walk_at "vis") (by decide) (by decide)) qa_nil (by rfl)) (by decide) (by rfl) (by rfl)) (pe_one (pe_chain op_le op_le (pv 1 (by rfl) (by walk_at "vis") (by decide) (by decide)) (pv 0 (by rfl) (by walk_at "vis") (by decide) (by decide)) (pv 2 (by rfl) (by walk_at "vis") (by decide) (by decide)) (by with_unfolding_all rfl)))))), ?_⟩
    try dsimp only [cxOf]
    walk_at "rd"
    refine ⟨N, x, d, rfl, hd, rd_bl' ?_⟩
    cases hd with
    | int i =>
      dsimp only [Mt.numD]
      walk_at "rd"
      refine rd_ite2 (fun hc => ?_) (fun hc => ?_)
      · walk_at "rd"
        simpa only [Mt.withinD, hc, Bool.true_and] using k
      · simpa only [Mt.withinD, hc, Bool.false_and] using k
    | _ => dsimp only [Mt.numD]; walk_at "rd"; exact k

def sp_require_within (K : PySem.W.Frag) (a : Adr) : Sp := fun vs H Q E => ∃ (N : List Addr) (x : V) (d : PyData) (lo hi : Int) (w : Str), vs = [x, .int lo, .int hi, .str w] ∧ Dt K N H x d ∧ (Mt.withinD lo hi d = true → Q .non H) ∧ (Mt.withinD lo hi d = false → ∀ dx, H dx = none → E (.ref a.C_NoCount) (some dx) (upd H dx (.xd [("what", .str w)])))
theorem ok_require_within (T : Txt P K mg a) (G_is_within : FnOk P w K mg base CX0 2 a.f_is_within a.d_is_within ["thing", "least", "most"] (sp_is_within K)) : FnOk P w K mg base (CX1 P w) 3 a.f_require_within a.d_require_within ["thing", "least", "most", "what"] (sp_require_within K a) := by
  refine T.F_require_within.okX sc_require_within (fun vs H Q E h => ?_) (fun cdv A outer s H vs Q E hr h => ?_)
  · obtain ⟨N, x, d, lo, hi, w, rfl, _⟩ := h; rfl
  · obtain ⟨N, x, d, lo, hi, w, rfl, hd, k1, k2⟩ := h
    refine exW ⟨_, (qss_one (qs_if (pt_not (pt_val (qe_call G_is_within (hr.mono (by decide)) (by rfl) T.m_is_within T.k_is_within T.bd_is_within .nil pass0 (qa (pv 0 (by rfl) (by walk_at "vis") (by decide) (by decide)) (qa (pv 1 (by rfl) (by walk_at "vis") (by decide) (by decide)) (qa (pv 2 (by rfl) (by walk_at "vis") (by decide) (by decide)) qa_nil (by rfl)) (by rfl)) (by rfl)) (by decide) (by rfl) (by rfl)) (by intro _; rfl)))
        (qss_one (qs_raise1 px1 (by rfl) (hr.mono (by decide)) (by rfl) T.mC_NoCount T.Z_NoCount (qa (pv 3 (by rfl) (by walk_at "vis") (by decide) (by decide)) qa_nil (by rfl)) (by rfl) (by decide)))
        qss_nil)), ?_⟩
    try dsimp only [cxOf]
    walk_at "rd"
    refine ⟨N, x, d, lo, hi, rfl, hd, ?_⟩
    cases hh : Mt.withinD lo hi d with
    | true =>
      walk_at "rd"
      exact k1 hh
    | false =>
      walk_at "rd"
      exact ⟨_, rfl, k2 hh⟩

def sp_is_house (K : PySem.W.Frag) : Sp := fun vs H Q _ => ∃ (N : List Addr) (x : V) (d : PyData) (m : Int), vs = [x, .int m] ∧ Dt K N H x d ∧ Q (.bl (Mt.withinD 0 (m - 1) d)) H
theorem ok_is_house (T : Txt P K mg a) (G_is_within : FnOk P w K mg base CX0 2 a.f_is_within a.d_is_within ["thing", "least", "most"] (sp_is_within K)) : FnOk P w K mg base CX0 3 a.f_is_house a.d_is_house ["thing", "houses"] (sp_is_house K) := by
  refine T.F_is_house.ok sc_is_house (fun vs H Q E h => ?_) (fun cdv A outer s H vs Q E hr h => ?_)
  · obtain ⟨N, x, d, m, rfl, _⟩ := h; rfl
  · obtain ⟨N, x, d, m, rfl, hd, k⟩ := h
    refine exW ⟨_, (qss_one (qs_ret (qe_call G_is_within (hr.mono (by decide)) (by rfl) T.m_is_within T.k_is_within T.bd_is_within .nil pass0 (qa (pv 0 (by rfl) (by walk_at "vis") (by decide) (by decide)) (qa pe_int (qa (pe_op op_sub (pv 1 (by rfl) (by walk_at "vis") (by decide) (by decide)) pe_int) qa_nil (by rfl)) (by rfl)) (by rfl)) (by decide) (by rfl) (by rfl)))), ?_⟩
    try dsimp only [cxOf]
    walk_at "rd"
    exact ⟨N, x, d, 0, m - 1, rfl, hd, k⟩

def sp_require_house (K : PySem.W.Frag) (a : Adr) : Sp := fun vs H Q E => ∃ (N : List Addr) (x : V) (d : PyData) (m : Int), vs = [x, .int m] ∧ Dt K N H x d ∧ (Mt.withinD 0 (m - 1) d = true → Q .non H) ∧ (Mt.withinD 0 (m - 1) d = false → ∀ dx, H dx = none → E (.ref a.C_NoHouse) (some dx) (upd H dx (.xd [("house", x)])))
theorem ok_require_house (T : Txt P K mg a) (G_is_house : FnOk P w K mg base CX0 3 a.f_is_house a.d_is_house ["thing", "houses"] (sp_is_house K)) : FnOk P w K mg base (CX1 P w) 4 a.f_require_house a.d_require_house ["thing", "houses"] (sp_require_house K a) := by
  refine T.F_require_house.okX sc_require_house (fun vs H Q E h => ?_) (fun cdv A outer s H vs Q E hr h => ?_)
  · obtain ⟨N, x, d, m, rfl, _⟩ := h; rfl
  · obtain ⟨N, x, d, m, rfl, hd, k1, k2⟩ := h
    refine exW ⟨_, (qss_one (qs_if (pt_not (pt_val (qe_callK G_is_house (hr.mono (by decide)) (by rfl) T.m_is_house T.k_is_house T.kb_is_house pass0 (qa (pv 0 (by rfl) (by walk_at "vis") (by decide) (by decide)) qa_nil (by rfl)) (qk (pv 1 (by rfl) (by walk_at "vis") (by decide) (by decide)) qk_nil) (by rfl) (by rfl) (by decide) (by rfl) (by rfl)) (by intro _; rfl)))
        (qss_one (qs_raise1 px1 (by rfl) (hr.mono (by decide)) (by rfl) T.mC_NoHouse T.Z_NoHouse (qa (pv 0 (by rfl) (by walk_at "vis") (by decide) (by decide)) qa_nil (by rfl)) (by rfl) (by decide)))
        qss_nil)), ?_⟩
    try dsimp only [cxOf]
    walk_at "rd"
    refine ⟨N, x, d, m, rfl, hd, ?_⟩
    cases hh : Mt.withinD 0 (m - 1) d with
    | true =>
      walk_at "rd"
      exact k1 hh
    | false =>
      walk_at "rd"
      exact ⟨_, rfl, k2 hh⟩

/-- what asked may be: all good, or a first one that is none, or stands twice -/
def Asked (K : PySem.W.Frag) (H : Hp) (m : Int) (xs : List V) (bad : Option V) : Prop := ∃ as : List Int, Mt.AsOk m as ∧
  ((bad = none ∧ xs = as.map V.int) ∨ (∃ x rest, bad = some x ∧ xs = as.map V.int ++ x :: rest ∧ ((∃ N d, Dt K N H x d ∧ Mt.withinD 0 (m - 1) d = false) ∨ ∃ n, x = .int n ∧ n ∈ as)))
def sp_require_asked (K : PySem.W.Frag) (a : Adr) : Sp := fun vs H Q E => ∃ (p : Addr) (xs : List V) (m : Int) (bad : Option V), vs = [.ref p, .int m] ∧ SqT K H p xs ∧ Asked K H m xs bad ∧
  (bad = none → ∀ H', Same H H' → Q .non H') ∧ (∀ x, bad = some x → ∀ H' dx, Same H H' → H' dx = none → E (.ref a.C_NoHouse) (some dx) (upd H' dx (.xd [("house", x)])))
theorem ok_require_asked (T : Txt P K mg a) (G_require_house : FnOk P w K mg base (CX1 P w) 4 a.f_require_house a.d_require_house ["thing", "houses"] (sp_require_house K a)) : FnOk P w K mg base (CX1 P w) 5 a.f_require_asked a.d_require_asked ["asked", "houses"] (sp_require_asked K a) := by
  refine T.F_require_asked.okX sc_require_asked (fun vs H Q E h => ?_) (fun cdv A outer s H vs Q E hr h => ?_)
  · obtain ⟨p, xs, m, bad, rfl, _⟩ := h; rfl
  · obtain ⟨p, xs, m, bad, rfl, hq, ⟨as, ho, hb⟩, k1, k2⟩ := h
    have hpre : ∀ i, i < as.length → xs[i]? = (as.map V.int)[i]? := fun i hi => by
      rcases hb with ⟨-, rfl⟩ | ⟨x, rest, -, rfl, -⟩
      · rfl
      · rw [List.getElem?_append_left (by simpa using hi)]
    have htk : ∀ i, i ≤ as.length → xs.take i = (as.take i).map V.int := fun i hi => by
      rcases hb with ⟨-, rfl⟩ | ⟨x, rest, -, rfl, -⟩
      · rw [List.map_take]
      · rw [List.take_append_of_le_length (by simpa using hi), List.map_take]
    have hle : as.length ≤ xs.length := by
      rcases hb with ⟨-, rfl⟩ | ⟨x, rest, -, rfl, -⟩ <;> simp
    refine exW ⟨_, (qss_cons (qs_if (pt_not (pt_val (qe_callB cn_isi (by rfl) T.b_isinstance (by decide +kernel) (qa (pv 0 (by rfl) (by walk_at "vis") (by decide) (by decide)) (qa (pe_bltn (by rfl) T.b_tuple (by decide +kernel) (v := .ty "tuple") rfl (by decide) (by decide)) qa_nil (by rfl)) (by rfl)) (by decide) (by decide) (by rfl) (by rfl)) (by intro _; rfl)))
        (qss_one (qs_raise1 px1 (by rfl) (hr.mono (by decide)) (by rfl) T.mC_NoHouse T.Z_NoHouse (qa (pv 0 (by rfl) (by walk_at "vis") (by decide) (by decide)) qa_nil (by rfl)) (by rfl) (by decide)))
        qss_nil)
      (qss_one (qs_for PassesOwn.leaving rfl (qi_enum (by rfl) T.b_enumerate (qa (pv 0 (by rfl) (by walk_at "vis") (by decide) (by decide)) qa_nil (by rfl)) (by rfl)) (pg_tup (n := 2) rfl (pgs_cons (pg_name (i := 2) (show (["asked", "houses", "at", "house"] : List Str).Nodup by decide +kernel) rfl (Or.inl rfl) (by first | exact Or.inl rfl | exact Or.inr rfl)) (pgs_cons (pg_name (i := 3) (show (["asked", "houses", "at", "house"] : List Str).Nodup by decide +kernel) rfl (Or.inl rfl) (by first | exact Or.inl rfl | exact Or.inr rfl)) pgs_nil (by rfl)) (by rfl)) (by rfl) (by rfl))
        (qss_cons (qs_expr (qe_callKX G_require_house (hr.mono (by decide)) (by rfl) T.m_require_house T.k_require_house T.kb_require_house px1 (qa (pv 3 (by rfl) (by walk_at "vis") (by decide) (by decide)) qa_nil (by rfl)) (qk (pv 1 (by rfl) (by walk_at "vis") (by decide) (by decide)) qk_nil) (by rfl) (by rfl) (by decide) (by rfl) (by rfl)) (by rfl))
        (qss_one (qs_if (pt_cmpR on_in (pv 3 (by rfl) (by walk_at "vis") (by decide) (by decide)) (pe_slice sl_tupG (pv 0 (by rfl) (by walk_at "vis") (by decide) (by decide)) po_none (po_some (pv 2 (by rfl) (by walk_at "vis") (by decide) (by decide)))) (by with_unfolding_all rfl))
          (qss_one (qs_raise1 px1 (by rfl) (hr.mono (by decide)) (by rfl) T.mC_NoHouse T.Z_NoHouse (qa (pv 3 (by rfl) (by walk_at "vis") (by decide) (by decide)) qa_nil (by rfl)) (by rfl) (by decide)))
          qss_nil))) (by intro _; rfl)))), ?_⟩
    try dsimp only [cxOf]
    walk_at "rd"
    refine rd_isi (.tup hq) (b := true) (subT_of (by simp) (by simp)) ?_
    walk_at "rd"
    refine ⟨p, rfl, ⟨_, hq⟩, ?_⟩
    refine for_enumW (xs := xs) (fun i σ' H' => ∃ o2 o3 : Option V, σ' = [some (.ref p), some (.int m), o2, o3] ∧ Same H H' ∧ i ≤ as.length) ?_ ?_ ?_ ?_
    · exact ⟨none, none, rfl, Same.refl H, Nat.zero_le _⟩
    · rintro i σ' H' hi ⟨o2, o3, rfl, sm, _⟩
      exact sm.tupS hq
    · rintro i x σ' H' q hx ⟨o2, o3, rfl, sm, hi⟩ nq
      have s2 : Same H (upd H' q (.tup [.int i, x])) := sm.trans (Same.upd nq)
      have hq2 := s2.tupS hq
      by_cases hlt : i < as.length
      · rw [hpre i hlt, List.getElem?_map] at hx
        obtain ⟨n, hn, rfl⟩ := Option.map_eq_some_iff.mp hx
        have hg := ho.rg n (List.mem_of_getElem? hn)
        have hw : Mt.withinD 0 (m - 1) (.int n) = true := by simp [Mt.withinD]; omega
        walk_at "rd"
        refine ⟨[], .int n, .int n, m, rfl, .int n, fun _ => ?_, fun z => by rw [hw] at z; cases z⟩
        walk_at "rd"
        rintro q2 H3 - s3 hq3
        rw [cutV_take, htk i hi] at hq3
        walk_at "rd"
        refine rd_inT hq3 rfl (flat_ints _) ?_
        rw [inV_ints, decide_eq_false (ho.fresh hn)]
        walk_at "rd"
        exact ⟨_, _, rfl, s2.trans s3, hlt⟩
      · have hi2 : i = as.length := by omega
        rcases hb with ⟨-, rfl⟩ | ⟨x0, rest, rfl, rfl, hbad⟩
        · rw [List.getElem?_eq_none (by simp; omega)] at hx; cases hx
        · have ex : x = x0 := by
            rw [hi2, List.getElem?_append_right (by simp)] at hx
            simp at hx
            exact hx.symm
          subst ex
          walk_at "rd"
          have E2 : ∀ H3 dx, Same (upd H' q (.tup [.int i, x])) H3 → H3 dx = none → E (.ref a.C_NoHouse) (some dx) (upd H3 dx (.xd [("house", x)])) := fun H3 dx s3 n3 => k2 x rfl H3 dx (s2.trans s3) n3
          rcases hbad with ⟨N, d, hd, hw⟩ | ⟨n, rfl, hmem⟩
          · refine ⟨N, x, d, m, rfl, hd.ext (Ext.same s2), fun z => (by rw [hw] at z; cases z), fun _ dx hdx => E2 _ dx (Same.refl _) hdx⟩
          · have hg := ho.rg n hmem
            have hw : Mt.withinD 0 (m - 1) (.int n) = true := by simp [Mt.withinD]; omega
            refine ⟨[], .int n, .int n, m, rfl, .int n, fun _ => ?_, fun z => by rw [hw] at z; cases z⟩
            walk_at "rd"
            rintro q2 H3 - s3 hq3
            rw [cutV_take, htk i hi, hi2, List.take_length] at hq3
            walk_at "rd"
            refine rd_inT hq3 rfl (flat_ints _) ?_
            rw [inV_ints, decide_eq_true hmem]
            walk_at "rd"
            exact ⟨_, rfl, fun dx hdx => E2 _ dx s3 hdx⟩
    · rintro σ' H' ⟨o2, o3, rfl, sm, hi⟩
      refine k1 ?_ _ sm
      rcases hb with ⟨h, -⟩ | ⟨x, rest, -, rfl, -⟩
      · exact h
      · simp at hi; omega

def sp_avoiding (K : PySem.W.Frag) (a : Adr) : Sp := fun vs H Q E => ∃ (N : List Addr) (x y z : V) (d1 d3 : PyData), vs = [x, y, z] ∧ Dt K N H x d1 ∧ Dt K N H z d3 ∧
  ((Mt.withinD 1 8 d1 = false ∧ ∀ dx, H dx = none → E (.ref a.C_NoCount) (some dx) (upd H dx (.xd [("what", .str "houses")]))) ∨
   (Mt.withinD 1 8 d1 = true ∧ Mt.withinD 1 8 d3 = false ∧ ∀ dx, H dx = none → E (.ref a.C_NoCount) (some dx) (upd H dx (.xd [("what", .str "need")]))) ∨
   (∃ (p : Addr) (xs : List V) (m n : Nat) (bad : V), x = .int m ∧ y = .ref p ∧ z = .int n ∧ 1 ≤ m ∧ m ≤ 8 ∧ 1 ≤ n ∧ n ≤ 8 ∧ SqT K H p xs ∧ Asked K H m xs (some bad) ∧ ∀ H' dx, Same H H' → H' dx = none → E (.ref a.C_NoHouse) (some dx) (upd H' dx (.xd [("house", bad)]))) ∨
   (∃ (p : Addr) (as : List Int) (m n : Nat), x = .int m ∧ y = .ref p ∧ z = .int n ∧ 1 ≤ m ∧ m ≤ 8 ∧ 1 ≤ n ∧ n ≤ 8 ∧ SqT K H p (as.map V.int) ∧ Mt.AsOk m as ∧
    (n ≤ (Mt.freeL m as).length → ∀ q H', H q = none → Same H H' → SqT K H' q (((Mt.freeL m as).take n).map V.int) → Q (.ref q) H') ∧ ((Mt.freeL m as).length < n → ∀ H', Same H H' → Q .non H')))
theorem ok_avoiding (T : Txt P K mg a) (G_require_asked : FnOk P w K mg base (CX1 P w) 5 a.f_require_asked a.d_require_asked ["asked", "houses"] (sp_require_asked K a)) (G_require_within : FnOk P w K mg base (CX1 P w) 3 a.f_require_within a.d_require_within ["thing", "least", "most", "what"] (sp_require_within K a)) : FnOk P w K mg base (CX1 P w) 6 a.f_avoiding a.d_avoiding ["houses", "asked", "need"] (sp_avoiding K a) := by
  refine T.F_avoiding.okX sc_avoiding (fun vs H Q E h => ?_) (fun cdv A outer s H vs Q E hr h => ?_)
  · obtain ⟨N, x, y, z, d1, d3, rfl, _⟩ := h; rfl
  · obtain ⟨N, x, y, z, d1, d3, rfl, hx, hz, k⟩ := h
    refine exW ⟨_, (qss_cons (qs_expr (qe_callX G_require_within (hr.mono (by decide)) (by rfl) T.m_require_within T.k_require_within T.bd_require_within .nil px1 (qa (pv 0 (by rfl) (by walk_at "vis") (by decide) (by decide)) (qa pe_int (qa (pe_glob (by rfl) T.c_HOUSES.1 T.c_HOUSES.2 (by decide)) (qa pe_str qa_nil (by rfl)) (by rfl)) (by rfl)) (by rfl)) (by decide) (by rfl) (by rfl)) (by rfl))
      (qss_cons (qs_expr (qe_callX G_require_within (hr.mono (by decide)) (by rfl) T.m_require_within T.k_require_within T.bd_require_within .nil px1 (qa (pv 2 (by rfl) (by walk_at "vis") (by decide) (by decide)) (qa pe_int (qa (pe_glob (by rfl) T.c_HOUSES.1 T.c_HOUSES.2 (by decide)) (qa pe_str qa_nil (by rfl)) (by rfl)) (by rfl)) (by rfl)) (by decide) (by rfl) (by rfl)) (by rfl))
      (qss_cons (qs_expr (qe_callX G_require_asked (hr.mono (by decide)) (by rfl) T.m_require_asked T.k_require_asked T.bd_require_asked .nil px1 (qa (pv 1 (by rfl) (by walk_at "vis") (by decide) (by decide)) (qa (pv 0 (by rfl) (by walk_at "vis") (by decide) (by decide)) qa_nil (by rfl)) (by rfl)) (by decide) (by rfl) (by rfl)) (by rfl))
      (qss_cons (by
        refine' qs_setComp (i := 3) (NC := ["house", "asked"]) (fr := [none, some 1]) sc_avoiding.nd rfl (Or.inl rfl) ?B1 rfl ?hi1 ?hg1 ?ht1 ?he1 ?hsw1 (by intro _; rfl) (by first | exact Or.inl rfl | exact Or.inr rfl)
        case B1 => exact ⟨rfl, rfl, by decide +kernel, by decide +kernel, rfl, ⟨trivial, ⟨rfl, rfl, Or.inl rfl⟩, trivial⟩⟩
        case hi1 => exact (qi_range1 (by rfl) T.b_range (qa (pv 0 (by rfl) (by walk_at "vis") (by decide) (by decide)) qa_nil (by rfl)) (by rfl))
        case hg1 => intro _ _ _; exact (pg_name (i := 0) (show (["house", "asked"] : List Str).Nodup by decide +kernel) rfl (Or.inl rfl) (by first | exact Or.inl rfl | exact Or.inr rfl))
        case ht1 => intro _ _ _; exact (pf_one (pt_cmpR (on_notInK (K := K) (by rfl)) (pv 0 (by rfl) (by walk_at "vis") (by decide) (by decide)) (pv 1 (by rfl) (by walk_at "vis") (by decide) (by decide)) (by with_unfolding_all rfl)))
        case he1 => intro _ _ _; exact (pv 0 (by rfl) (by walk_at "vis") (by decide) (by decide))
        case hsw1 => rfl)
      (qss_one (qs_ret (pe_ifExp (pt_cmpR op_ge (qe_callB cn_len (by rfl) T.b_len (by decide +kernel) (qa (pv 3 (by rfl) (by walk_at "vis") (by decide) (by decide)) qa_nil (by rfl)) (by decide) (by decide) (by rfl) (by rfl)) (pv 2 (by rfl) (by walk_at "vis") (by decide) (by decide)) (nomark _)) (qe_callTy cn_tuple (by rfl) T.b_tuple (by decide +kernel) (qa (pe_slice sl_list (pv 3 (by rfl) (by walk_at "vis") (by decide) (by decide)) po_none (po_some (pv 2 (by rfl) (by walk_at "vis") (by decide) (by decide)))) qa_nil (by rfl)) (by decide) (by decide) (by rfl) (by rfl)) pe_non))))))), ?_⟩
    try dsimp only [cxOf]
    walk_at "rd"
    rcases k with ⟨h1, k⟩ | ⟨h1, h3, k⟩ | ⟨p, xs, m, n, bad, rfl, rfl, rfl, m1, m2, n1, n2, hq, hb, k⟩ | ⟨p, as, m, n, rfl, rfl, rfl, m1, m2, n1, n2, hq, ho, k1, k2⟩
    · exact ⟨N, x, d1, 1, 8, _, rfl, hx, fun q => (by rw [h1] at q; cases q), fun _ => k⟩
    · refine ⟨N, x, d1, 1, 8, _, rfl, hx, fun _ => ?_, fun q => (by rw [h1] at q; cases q)⟩
      walk_at "rd"
      exact ⟨N, z, d3, 1, 8, _, rfl, hz, fun q => (by rw [h3] at q; cases q), fun _ => k⟩
    · refine ⟨[], .int m, .int m, 1, 8, _, rfl, .int m, fun _ => ?_, fun q => by simp [Mt.withinD] at q; omega⟩
      walk_at "rd"
      refine ⟨[], .int n, .int n, 1, 8, _, rfl, .int n, fun _ => ?_, fun q => by simp [Mt.withinD] at q; omega⟩
      walk_at "rd"
      exact ⟨p, xs, m, some bad, rfl, hq, hb, (fun q => by cases q), fun x e H1 dx s1 hdx => by cases e; exact k H1 dx s1 hdx⟩
    · refine ⟨[], .int m, .int m, 1, 8, _, rfl, .int m, fun _ => ?_, fun q => by simp [Mt.withinD] at q; omega⟩
      walk_at "rd"
      refine ⟨[], .int n, .int n, 1, 8, _, rfl, .int n, fun _ => ?_, fun q => by simp [Mt.withinD] at q; omega⟩
      walk_at "rd"
      refine ⟨p, _, m, none, rfl, hq, ⟨as, ho, .inl ⟨rfl, rfl⟩⟩, fun _ H1 s1 => ?_, (fun x e => by cases e)⟩
      walk_at "rd"
      refine ⟨by omega, by omega, ?_⟩
      intro acc na ka
      have e0 : (m : Int).toNat = m := by simp
      rw [e0]
      have hq1 := s1.tupS hq
      refine comp_byF m (small1000 (by omega)) (fun i vs σc H' => Same H1 H' ∧ (∃ o, σc = [o, some (.ref p)]) ∧ vs = (Mt.freeL i as).map V.int) ?_ ?_ ?_
      · exact ⟨Same.upd na, ⟨none, rfl⟩, rfl⟩
      · rintro i vs σc H' hi hl ha ⟨sm, ⟨o, rfl⟩, rfl⟩
        refine ⟨hi, ?_⟩
        rintro x H2 ⟨rfl, rfl⟩ R S hR hS
        have hq2 := sm.tupS hq1
        walk_at "rd"
        refine rd_notInT hq2 rfl (flat_ints _) ?_
        rw [inV_ints]
        have ez : (0 : Int) + (i : Int) = i := by omega
        rw [ez]
        by_cases hm : (i : Int) ∈ as
        · rw [decide_eq_true hm]
          walk_at "rd"
          refine hS _ _ ha ⟨sm, ⟨_, rfl⟩, ?_⟩
          rw [Mt.freeL_succ, if_pos hm, List.append_nil]
        · rw [decide_eq_false hm]
          walk_at "rd"
          refine hR _ _ _ ha ⟨fun b u e => ?_, ⟨_, rfl⟩, ?_⟩
          · rw [upd_ne (ne_of_none e na)]; exact sm b u e
          · rw [Mt.freeL_succ, if_neg hm, List.map_append]; rfl
      · rintro vs σc H' hl ha ⟨sm, _, rfl⟩
        refine ⟨Nat.le_refl _, ?_⟩
        have hL : SqL K H' acc ((Mt.freeL m as).map V.int) := SqL.of ha
        walk_at "rd"
        rw [List.length_map]
        refine rd_ite2 (fun hc => ?_) (fun hc => ?_)
        · have hge : n ≤ (Mt.freeL m as).length := by have := of_decide_eq_true hc; omega
          walk_at "rd"
          intro l2 nl2
          rw [cutV_take, ← List.map_take]
          walk_at "rd"
          intro l3 nl3
          refine k1 hge _ _ ?_ ?_ (SqT.of upd_same)
          · exact s1.free (sm.free ((Same.upd nl2).free nl3))
          · exact ((s1.trans sm).trans (Same.upd nl2)).trans (Same.upd nl3)
        · have hlt : (Mt.freeL m as).length < n := by have := of_decide_eq_false hc; omega
          walk_at "rd"
          exact k2 hlt _ (s1.trans sm)

def sp_law_deck (K : PySem.W.Frag) : Sp := fun vs H Q _ => ∃ (p : Addr) (ns : List Int), vs = [.ref p] ∧ SqL K H p (ns.map V.int) ∧ ns.length ≤ 63 ∧ ∀ (st c r : Addr) (H' : Hp), Dk H' st c r 0 → Same H H' → H st = none → Q (.ref st) H'
theorem ok_law_deck (T : Txt P K mg a)  : FnOk P w K mg base CX0 1 a.f_law_deck a.d_law_deck ["_law_script"] (sp_law_deck K) := by
  refine T.F_law_deck.ok sc_law_deck (fun vs H Q E h => ?_) (fun cdv A outer s H vs Q E hr h => ?_)
  · obtain ⟨p, ns, rfl, _⟩ := h; rfl
  · obtain ⟨p, ns, rfl, hq, hl, k⟩ := h
    refine exW ⟨_, (qss_cons (qs_set (i := 1) sc_law_deck.nd rfl (Or.inl rfl) (pe_op op_cat (qe_callTy cn_list (by rfl) T.b_list (by decide +kernel) (qa (pe_slice sl_list (pv 0 (by rfl) (by walk_at "vis") (by decide) (by decide)) po_none (po_some pe_int)) qa_nil (by rfl)) (by decide) (by decide) (by rfl) (by rfl)) (pe_op op_rep (qe_lst (qa pe_int qa_nil (by rfl))) (qe_callTy cn_int (by rfl) T.b_int (by decide +kernel) (qa (pe_cmpR op_eq (qe_callB cn_len (by rfl) T.b_len (by decide +kernel) (qa (pv 0 (by rfl) (by walk_at "vis") (by decide) (by decide)) qa_nil (by rfl)) (by decide) (by decide) (by rfl) (by rfl)) pe_int (nomark _)) qa_nil (by rfl)) (by decide) (by decide) (by rfl) (by rfl)))) (by rfl) (by first | exact Or.inl rfl | exact Or.inr rfl))
      (qss_one (qs_ret (qe_lst (qa (pv 1 (by rfl) (by walk_at "vis") (by decide) (by decide)) (qa pe_int (qa (by
        refine' pe_comp (NC := ["_law_cell"]) (fr := [none]) ?B2 rfl ?hi2 ?hg2 ?ht2 ?he2 (by intro _; rfl)
        case B2 => exact ⟨rfl, rfl, by decide +kernel, by decide +kernel, rfl, ⟨trivial, trivial⟩⟩
        case hi2 => exact (pi_list (pv 1 (by rfl) (by walk_at "vis") (by decide) (by decide)))
        case hg2 => intro _ _ _; exact (pg_name (i := 0) (show (["_law_cell"] : List Str).Nodup by decide +kernel) rfl (Or.inl rfl) (by first | exact Or.inl rfl | exact Or.inr rfl))
        case ht2 => intro _ _ _; exact pf_nil
        case he2 => intro _ _ _; exact (pe_op op_mul (pv 0 (by rfl) (by walk_at "vis") (by decide) (by decide)) (qe_callTy cn_int (by rfl) T.b_int (by decide +kernel) (qa (pe_cmpR op_ge (pv 0 (by rfl) (by walk_at "vis") (by decide) (by decide)) (pe_op op_pow pe_int pe_int) (nomark _)) qa_nil (by rfl)) (by decide) (by decide) (by rfl) (by rfl)))) qa_nil (by rfl)) (by rfl)) (by rfl)))))), ?_⟩
    try dsimp only [cxOf]
    walk_at "rd"
    intro l1 n1
    rw [show (some (63 : Int)) = some ((63 : Nat) : Int) from rfl, cutV_take, List.take_of_length_le (by simpa using hl)]
    walk_at "rd"
    intro l2 n2
    have s2 : Same H (upd (upd H l1 (.lst (ns.map V.int))) l2 (.lst (ns.map V.int))) := (Same.upd n1).trans (Same.upd n2)
    have g2 : upd (upd H l1 (.lst (ns.map V.int))) l2 (.lst (ns.map V.int)) l2 = some (.lst (ns.map V.int)) := upd_same
    generalize (upd (upd H l1 (.lst (ns.map V.int))) l2 (.lst (ns.map V.int))) = H2 at s2 g2 ⊢
    walk_at "rd"
    refine ⟨sz (by simp), fun l3 n3 => ?_⟩
    have hq3 : SqL K (upd H2 l3 (.lst [.int 0])) p (ns.map V.int) := (Ext.same (N := []) (s2.trans (Same.upd n3))).lst hq (by simp)
    walk_at "rd"
    refine ⟨l3, _, [.int 0], rfl, rfl, upd_same, by split <;> decide, by split <;> decide, by split <;> decide, fun l4 n4 => ?_⟩
    have g4 : upd (upd H2 l3 (.lst [.int 0])) l4 (.lst (List.replicate ((if decide (V.int ((ns.map V.int).length : Int) = V.int 0) = true then (1 : Int) else 0)).toNat [V.int 0]).flatten) l2 = some (.lst (ns.map V.int)) := by
      rw [upd_ne (ne_of_none ((Same.upd n3) _ _ g2) n4), upd_ne (ne_of_none g2 n3)]; exact g2
    have s4 : Same H (upd (upd H2 l3 (.lst [.int 0])) l4 (.lst (List.replicate ((if decide (V.int ((ns.map V.int).length : Int) = V.int 0) = true then (1 : Int) else 0)).toNat [V.int 0]).flatten)) := (s2.trans (Same.upd n3)).trans (Same.upd n4)
    obtain ⟨cs, hcs, hc1, hc2⟩ : ∃ cs : List Int, ns.map V.int ++ (List.replicate ((if decide (V.int ((ns.map V.int).length : Int) = V.int 0) = true then (1 : Int) else 0)).toNat [V.int 0]).flatten = cs.map V.int ∧ 1 ≤ cs.length ∧ cs.length ≤ 63 := by
      cases ns with
      | nil => exact ⟨[0], by simp, by decide, by decide⟩
      | cons n ns =>
        have e : decide (V.int (((n :: ns).map V.int).length : Int) = V.int 0) = false := decide_eq_false fun z => by injection z with z; rw [List.length_map, List.length_cons] at z; omega
        exact ⟨n :: ns, by rw [e]; simp, by simp, hl⟩
    have z4 : upd (upd H2 l3 (.lst [.int 0])) l4 (.lst (List.replicate ((if decide (V.int ((ns.map V.int).length : Int) = V.int 0) = true then (1 : Int) else 0)).toNat [V.int 0]).flatten) l4 = some (.lst (List.replicate ((if decide (V.int ((ns.map V.int).length : Int) = V.int 0) = true then (1 : Int) else 0)).toNat [V.int 0]).flatten) := upd_same
    generalize (List.replicate ((if decide (V.int ((ns.map V.int).length : Int) = V.int 0) = true then (1 : Int) else 0)).toNat [V.int 0]).flatten = zs at hcs z4 g4 s4 ⊢
    generalize upd (upd H2 l3 (.lst [.int 0])) l4 (.lst zs) = H4 at z4 g4 s4 ⊢
    refine ⟨l2, l4, _, _, rfl, rfl, g4, z4, by rw [← List.length_append, hcs, List.length_map]; exact sz (by omega), fun l5 n5 => ?_⟩
    rw [hcs]
    have s5 := s4.trans (Same.upd (o := .lst (cs.map V.int)) n5)
    have g5 : upd H4 l5 (.lst (cs.map V.int)) l5 = some (.lst (cs.map V.int)) := upd_same
    generalize upd H4 l5 (.lst (cs.map V.int)) = H5 at s5 g5 ⊢
    walk_at "rd"
    refine ⟨l5, rfl, ⟨_, SqL.of g5⟩, ?_⟩
    intro acc na ka
    refine comp_by cs.length (small1000 (by omega)) (fun i vs σc H' => Same H5 H' ∧ (∃ o, σc = [o]) ∧ ∃ rs : List Int, vs = rs.map V.int) ?_ ?_ ?_
    · exact ⟨Same.upd na, ⟨none, rfl⟩, [], rfl⟩
    · rintro i vs σc H' hi hl ha ⟨sm, ⟨o, rfl⟩, rs, rfl⟩
      have hL : SqL K H' l5 (cs.map V.int) := SqL.of (sm _ _ g5)
      have ex : (cs.map V.int)[i]? = some (.int cs[i]) := by simp [hi]
      refine ⟨⟨_, _, hL, ex⟩, ?_⟩
      rintro x H6 ⟨rfl, hx⟩ R hR
      have e2 := hx _ hL
      rw [ex] at e2; cases e2
      walk_at "rd"
      refine hR _ _ _ ha ⟨fun b u e => ?_, ⟨_, rfl⟩, rs ++ [_], by rw [List.map_append]; rfl⟩
      rw [upd_ne (ne_of_none e na)]; exact sm b u e
    · rintro vs σc H' hl ha ⟨sm, _, rs, rfl⟩
      refine ⟨⟨_, SqL.of (sm _ _ g5), by simp⟩, ?_⟩
      walk_at "rd"
      refine ⟨sz (by simp), fun l6 n6 => ?_⟩
      have nc : l5 ≠ acc := ne_of_none g5 na
      have n65 : l5 ≠ l6 := ne_of_none (sm _ _ g5) n6
      have n6a : acc ≠ l6 := ne_of_none ha n6
      refine k l6 l5 acc _ ⟨cs, rs, 0, upd_same, by rw [upd_ne n65]; exact sm _ _ g5, by rw [upd_ne n6a]; exact ha, n65, nc, n6a, hc1, hc2, by simpa using hl, Int.le_refl _, Int.le_refl _⟩ ((s5.trans sm).trans (Same.upd n6)) (s5.free (sm.free n6))

def sp_law_take (K : PySem.W.Frag) : Sp := fun vs H Q _ => ∃ (st c r : Addr) (m : Nat) (b : Int), vs = [.ref st, .int b] ∧ Dk H st c r m ∧ m < 1000000000 ∧ 0 < b ∧ b < 1073741824 ∧
  ∀ (v : Int) (H' : Hp), 0 ≤ v → v < b → Dk H' st c r (m + 1) → Ext [st, r] H H' → Q (.int v) H'
theorem ok_law_take (T : Txt P K mg a)  : FnOk P w K mg base CX0 1 a.f_law_take a.d_law_take ["_law_deck_here", "_law_many"] (sp_law_take K) := by
  refine T.F_law_take.ok sc_law_take (fun vs H Q E h => ?_) (fun cdv A outer s H vs Q E hr h => ?_)
  · obtain ⟨st, c, r, m, b, rfl, _⟩ := h; rfl
  · obtain ⟨st, c, r, m, b, rfl, S, hm, hb0, hb1, k⟩ := h
    obtain ⟨cs, rs, n, h1, h2h, h3h, h4, h5, h6, h7, h8, h9, h10, h11⟩ := S.ex
    have h2 : SqL K H c (cs.map V.int) := SqL.of h2h
    have q1 : SqL K H st [.ref c, .int n, .ref r] := SqL.of h1
    refine exW ⟨_, (qss_cons (qs_asg (pv 0 (by rfl) (by walk_at "vis") (by decide) (by decide)) (pg_lst (n := 3) rfl (pgs_cons (pg_name (i := 2) (show (["_law_deck_here", "_law_many", "_law_cells", "_law_count", "_law_rests", "_law_place", "_law_digits", "_law_mixed"] : List Str).Nodup by decide +kernel) rfl (Or.inl rfl) (by first | exact Or.inl rfl | exact Or.inr rfl)) (pgs_cons (pg_name (i := 3) (show (["_law_deck_here", "_law_many", "_law_cells", "_law_count", "_law_rests", "_law_place", "_law_digits", "_law_mixed"] : List Str).Nodup by decide +kernel) rfl (Or.inl rfl) (by first | exact Or.inl rfl | exact Or.inr rfl)) (pgs_cons (pg_name (i := 4) (show (["_law_deck_here", "_law_many", "_law_cells", "_law_count", "_law_rests", "_law_place", "_law_digits", "_law_mixed"] : List Str).Nodup by decide +kernel) rfl (Or.inl rfl) (by first | exact Or.inl rfl | exact Or.inr rfl)) pgs_nil (by rfl)) (by rfl)) (by rfl)) (by rfl) (by rfl)) (by rfl) (by rfl) (by rfl))
      (qss_cons (qs_set (i := 5) sc_law_take.nd rfl (Or.inl rfl) (pe_op op_mod (pv 3 (by rfl) (by walk_at "vis") (by decide) (by decide)) (qe_callB cn_len (by rfl) T.b_len (by decide +kernel) (qa (pv 2 (by rfl) (by walk_at "vis") (by decide) (by decide)) qa_nil (by rfl)) (by decide) (by decide) (by rfl) (by rfl))) (by rfl) (by first | exact Or.inl rfl | exact Or.inr rfl))
      (qss_cons (qs_asg (pe_op op_add (pv 3 (by rfl) (by walk_at "vis") (by decide) (by decide)) pe_int) (pg_sub (pv 0 (by rfl) (by walk_at "vis") (by decide) (by decide)) pe_int set_list (by intro _; rfl)) (by rfl) (by rfl) (by rfl))
      (qss_cons (qs_if (pt_cmpR op_gt (pe_ix ix_list (pv 4 (by rfl) (by walk_at "vis") (by decide) (by decide)) (pv 5 (by rfl) (by walk_at "vis") (by decide) (by decide)) (fun _ _ => rfl)) pe_int (nomark _))
        (qss_cons (qs_set (i := 6) sc_law_take.nd rfl (Or.inl rfl) (pe_ix ix_list (pv 4 (by rfl) (by walk_at "vis") (by decide) (by decide)) (pv 5 (by rfl) (by walk_at "vis") (by decide) (by decide)) (fun _ _ => rfl)) (by rfl) (by first | exact Or.inl rfl | exact Or.inr rfl))
        (qss_cons (qs_asg (pe_op op_fdiv (pv 6 (by rfl) (by walk_at "vis") (by decide) (by decide)) (pv 1 (by rfl) (by walk_at "vis") (by decide) (by decide))) (pg_sub (pv 4 (by rfl) (by walk_at "vis") (by decide) (by decide)) (pv 5 (by rfl) (by walk_at "vis") (by decide) (by decide)) set_list (by intro _; rfl)) (by rfl) (by rfl) (by rfl))
        (qss_one (qs_ret (pe_op op_mod (pv 6 (by rfl) (by walk_at "vis") (by decide) (by decide)) (pv 1 (by rfl) (by walk_at "vis") (by decide) (by decide)))))))
        qss_nil)
      (qss_cons (qs_set (i := 7) sc_law_take.nd rfl (Or.inl rfl) (pe_op op_mod (pe_op op_add (pe_op op_mul (pe_op op_mod (pe_ix ix_list (pv 2 (by rfl) (by walk_at "vis") (by decide) (by decide)) (pv 5 (by rfl) (by walk_at "vis") (by decide) (by decide)) (fun _ _ => rfl)) pe_int) pe_int) (pe_op op_mul (pe_op op_mul (pe_op op_add (pv 3 (by rfl) (by walk_at "vis") (by decide) (by decide)) pe_int) (pe_op op_add (pv 3 (by rfl) (by walk_at "vis") (by decide) (by decide)) pe_int)) pe_int)) pe_int) (by rfl) (by first | exact Or.inl rfl | exact Or.inr rfl))
      (qss_cons (qs_set (i := 7) sc_law_take.nd rfl (Or.inl rfl) (pe_op op_mod (pe_op op_pow (pv 7 (by rfl) (by walk_at "vis") (by decide) (by decide)) pe_int) pe_int) (by rfl) (by first | exact Or.inl rfl | exact Or.inr rfl))
      (qss_cons (qs_set (i := 7) sc_law_take.nd rfl (Or.inl rfl) (pe_op op_mod (pe_op op_pow (pe_op op_add (pe_op op_add (pv 7 (by rfl) (by walk_at "vis") (by decide) (by decide)) (pe_op op_mul pe_int (pv 3 (by rfl) (by walk_at "vis") (by decide) (by decide)))) pe_int) pe_int) pe_int) (by rfl) (by first | exact Or.inl rfl | exact Or.inr rfl))
      (qss_one (qs_ret (pe_op op_mod (pe_op op_fdiv (pv 7 (by rfl) (by walk_at "vis") (by decide) (by decide)) pe_int) (pv 1 (by rfl) (by walk_at "vis") (by decide) (by decide)))))))))))), ?_⟩
    try dsimp only [cxOf]
    walk_at "rd"
    have hlm : ((cs.map V.int).length : Int) = cs.length := by rw [List.length_map]
    have hl0 : (0 : Int) < (cs.map V.int).length := by omega
    walk_at "rd"
    have i0 := Int.emod_nonneg n (b := ((cs.map V.int).length : Int)) (by omega)
    have i1 := Int.emod_lt_of_pos n hl0
    generalize n % ((cs.map V.int).length : Int) = i at i0 i1 ⊢
    obtain ⟨j, rfl⟩ := Int.eq_ofNat_of_zero_le i0
    have hj : j < cs.length := by omega
    obtain ⟨y, hy, _⟩ := atI_ints (ns := rs) (i := (j : Int)) i0 (by omega)
    obtain ⟨x, hx, _⟩ := atI_ints (ns := cs) (i := (j : Int)) i0 (by omega)
    have e1 : Ext [st, r] H (upd H st (.lst ([V.ref c, .int n, .ref r].set (Int.toNat 1) (.int (n + 1))))) := Ext.at (by simp)
    have h3' : upd H st (.lst ([V.ref c, .int n, .ref r].set (Int.toNat 1) (.int (n + 1)))) r = some (.lst (rs.map V.int)) := by rw [upd_ne h6]; exact h3h
    have h2' : upd H st (.lst ([V.ref c, .int n, .ref r].set (Int.toNat 1) (.int (n + 1)))) c = some (.lst (cs.map V.int)) := by rw [upd_ne h4]; exact h2h
    have h1' : upd H st (.lst ([V.ref c, .int n, .ref r].set (Int.toNat 1) (.int (n + 1)))) st = some (.lst [.ref c, .int (n + 1), .ref r]) := upd_same
    generalize upd H st (.lst ([V.ref c, .int n, .ref r].set (Int.toNat 1) (.int (n + 1)))) = H1 at e1 h3' h2' h1' ⊢
    have fin : ∀ v, 0 ≤ v → v < b → Q (.int v) H1 := fun v g1 g2 => k v H1 g1 g2 ⟨cs, rs, n + 1, h1', h2', h3', h4, h5, h6, h7, h8, h9, by omega, by omega⟩ e1
    refine rd_ixL (SqL.of h3') hy ?_
    walk_at "rd"
    refine rd_ite2 (fun hc => ?_) (fun hc => ?_)
    · walk_at "rd"
      refine rd_ixL (SqL.of h3') hy ?_
      walk_at "rd"
      refine rd_setL h3' (ixN_nat (by simp; omega)) ?_
      walk_at "rd"
      have e2 : (rs.map V.int).set j (.int (y / b)) = (rs.set j (y / b)).map V.int := by rw [List.map_set]
      rw [e2]
      refine k _ _ (Int.emod_nonneg _ (by omega)) (Int.emod_lt_of_pos _ hb0) ⟨cs, rs.set j (y / b), n + 1, ?_, ?_, upd_same, h4, h5, h6, h7, h8, by rw [List.length_set]; exact h9, by omega, by omega⟩ (e1.trans (Ext.at (by simp)))
      · rw [upd_ne (Ne.symm h6)]; exact h1'
      · rw [upd_ne h5]; exact h2'
    · walk_at "rd"
      refine rd_ixL (SqL.of h2') hx ?_
      walk_at "rd"
      exact fin _ (Int.emod_nonneg _ (by omega)) (Int.emod_lt_of_pos _ hb0)

def spr_law_same (K : PySem.W.Frag) (m : Nat) : Sp := fun vs H Q _ => ∃ (N : List Addr) (x y : V) (d : PyData), vs = [x, y] ∧ Dt K N H x d ∧ Dt K N H y d ∧ Mt.tupB d = true ∧ d.depth < m ∧ ∀ H', Same H H' → Q (.bl true) H'
theorem spr_law_same_zero {K : PySem.W.Frag} {vs : List V} {H : Hp} {Q : VK} {E : XK} : ¬ spr_law_same K 0 vs H Q E := fun ⟨_, _, _, _, _, _, _, _, h, _⟩ => absurd h (Nat.not_lt_zero _)
def sp_law_same (K : PySem.W.Frag) : Sp := spr_law_same K 3
theorem okr_law_same (T : Txt P K mg a) {k m : Nat} (G__law_same : FnOk P w K mg base CX0 k a.f_law_same a.d_law_same ["_law_found", "_law_due"] (spr_law_same K m))  : FnOk P w K mg base CX0 (k + 1) a.f_law_same a.d_law_same ["_law_found", "_law_due"] (spr_law_same K (m + 1)) := by
  refine T.F_law_same.ok sc_law_same (fun vs H Q E h => ?_) (fun cdv A outer s H vs Q E hr h => ?_)
  · obtain ⟨N, x, y, d, rfl, _⟩ := h; rfl
  · obtain ⟨N, x, y, d, rfl, hx, hy, ht, hm, k⟩ := h
    refine exW ⟨_, (qss_cons (qs_if (pt_cmpR on_isN (pv 1 (by rfl) (by walk_at "vis") (by decide) (by decide)) pe_non (nomark _))
        (qss_one (qs_ret (pe_cmpR on_isN (pv 0 (by rfl) (by walk_at "vis") (by decide) (by decide)) pe_non (nomark _))))
        qss_nil)
      (qss_cons (qs_if (pw_or (pt_val (qe_callB cn_isi (by rfl) T.b_isinstance (by decide +kernel) (qa (pv 1 (by rfl) (by walk_at "vis") (by decide) (by decide)) (qa (pe_bltn (by rfl) T.b_bool (by decide +kernel) (v := .ty "bool") rfl (by decide) (by decide)) qa_nil (by rfl)) (by rfl)) (by decide) (by decide) (by rfl) (by rfl)) (by intro _; rfl)) (pw_or1 (pt_val (qe_callB cn_isi (by rfl) T.b_isinstance (by decide +kernel) (qa (pv 0 (by rfl) (by walk_at "vis") (by decide) (by decide)) (qa (pe_bltn (by rfl) T.b_bool (by decide +kernel) (v := .ty "bool") rfl (by decide) (by decide)) qa_nil (by rfl)) (by rfl)) (by decide) (by decide) (by rfl) (by rfl)) (by intro _; rfl)))).pt
        (qss_one (qs_ret (pe_and (qe_callB cn_isi (by rfl) T.b_isinstance (by decide +kernel) (qa (pv 0 (by rfl) (by walk_at "vis") (by decide) (by decide)) (qa (pe_bltn (by rfl) T.b_bool (by decide +kernel) (v := .ty "bool") rfl (by decide) (by decide)) qa_nil (by rfl)) (by rfl)) (by decide) (by decide) (by rfl) (by rfl)) (pe_and (qe_callB cn_isi (by rfl) T.b_isinstance (by decide +kernel) (qa (pv 1 (by rfl) (by walk_at "vis") (by decide) (by decide)) (qa (pe_bltn (by rfl) T.b_bool (by decide +kernel) (v := .ty "bool") rfl (by decide) (by decide)) qa_nil (by rfl)) (by rfl)) (by decide) (by decide) (by rfl) (by rfl)) (pe_one (pe_cmpR op_eq (pv 0 (by rfl) (by walk_at "vis") (by decide) (by decide)) (pv 1 (by rfl) (by walk_at "vis") (by decide) (by decide)) (nomark _)))))))
        qss_nil)
      (qss_cons (qs_if (pt_val (qe_callB cn_isi (by rfl) T.b_isinstance (by decide +kernel) (qa (pv 1 (by rfl) (by walk_at "vis") (by decide) (by decide)) (qa (pe_bltn (by rfl) T.b_int (by decide +kernel) (v := .ty "int") rfl (by decide) (by decide)) qa_nil (by rfl)) (by rfl)) (by decide) (by decide) (by rfl) (by rfl)) (by intro _; rfl))
        (qss_one (qs_ret (pe_and (qe_callB cn_isi (by rfl) T.b_isinstance (by decide +kernel) (qa (pv 0 (by rfl) (by walk_at "vis") (by decide) (by decide)) (qa (pe_bltn (by rfl) T.b_int (by decide +kernel) (v := .ty "int") rfl (by decide) (by decide)) qa_nil (by rfl)) (by rfl)) (by decide) (by decide) (by rfl) (by rfl)) (pe_one (pe_cmpR op_eq (pv 0 (by rfl) (by walk_at "vis") (by decide) (by decide)) (pv 1 (by rfl) (by walk_at "vis") (by decide) (by decide)) (nomark _))))))
        qss_nil)
      (qss_cons (qs_if (pt_val (qe_callB cn_isi (by rfl) T.b_isinstance (by decide +kernel) (qa (pv 1 (by rfl) (by walk_at "vis") (by decide) (by decide)) (qa (pe_bltn (by rfl) T.b_str (by decide +kernel) (v := .ty "str") rfl (by decide) (by decide)) qa_nil (by rfl)) (by rfl)) (by decide) (by decide) (by rfl) (by rfl)) (by intro _; rfl))
        (qss_one (qs_ret (pe_and (qe_callB cn_isi (by rfl) T.b_isinstance (by decide +kernel) (qa (pv 0 (by rfl) (by walk_at "vis") (by decide) (by decide)) (qa (pe_bltn (by rfl) T.b_str (by decide +kernel) (v := .ty "str") rfl (by decide) (by decide)) qa_nil (by rfl)) (by rfl)) (by decide) (by decide) (by rfl) (by rfl)) (pe_one (pe_cmpR op_eq (pv 0 (by rfl) (by walk_at "vis") (by decide) (by decide)) (pv 1 (by rfl) (by walk_at "vis") (by decide) (by decide)) (nomark _))))))
        qss_nil)
      (qss_cons (qs_if (pw_or (pt_cmpR op_ne (qe_callB cn_isi (by rfl) T.b_isinstance (by decide +kernel) (qa (pv 1 (by rfl) (by walk_at "vis") (by decide) (by decide)) (qa (pe_bltn (by rfl) T.b_list (by decide +kernel) (v := .ty "list") rfl (by decide) (by decide)) qa_nil (by rfl)) (by rfl)) (by decide) (by decide) (by rfl) (by rfl)) (qe_callB cn_isi (by rfl) T.b_isinstance (by decide +kernel) (qa (pv 0 (by rfl) (by walk_at "vis") (by decide) (by decide)) (qa (pe_bltn (by rfl) T.b_list (by decide +kernel) (v := .ty "list") rfl (by decide) (by decide)) qa_nil (by rfl)) (by rfl)) (by decide) (by decide) (by rfl) (by rfl)) (nomark _)) (pw_or1 (pt_cmpR op_ne (qe_callB cn_isi (by rfl) T.b_isinstance (by decide +kernel) (qa (pv 1 (by rfl) (by walk_at "vis") (by decide) (by decide)) (qa (pe_bltn (by rfl) T.b_tuple (by decide +kernel) (v := .ty "tuple") rfl (by decide) (by decide)) qa_nil (by rfl)) (by rfl)) (by decide) (by decide) (by rfl) (by rfl)) (qe_callB cn_isi (by rfl) T.b_isinstance (by decide +kernel) (qa (pv 0 (by rfl) (by walk_at "vis") (by decide) (by decide)) (qa (pe_bltn (by rfl) T.b_tuple (by decide +kernel) (v := .ty "tuple") rfl (by decide) (by decide)) qa_nil (by rfl)) (by rfl)) (by decide) (by decide) (by rfl) (by rfl)) (nomark _)))).pt
        (qss_one (qs_ret pe_bl))
        qss_nil)
      (qss_cons (qs_if (pt_cmpR op_ne (qe_callB cn_len (by rfl) T.b_len (by decide +kernel) (qa (pv 0 (by rfl) (by walk_at "vis") (by decide) (by decide)) qa_nil (by rfl)) (by decide) (by decide) (by rfl) (by rfl)) (qe_callB cn_len (by rfl) T.b_len (by decide +kernel) (qa (pv 1 (by rfl) (by walk_at "vis") (by decide) (by decide)) qa_nil (by rfl)) (by decide) (by decide) (by rfl) (by rfl)) (nomark _))
        (qss_one (qs_ret pe_bl))
        qss_nil)
      (qss_cons (qs_for PassesOwn.never rfl (qi_zip (by rfl) T.b_zip (qa (pv 0 (by rfl) (by walk_at "vis") (by decide) (by decide)) (qa (pv 1 (by rfl) (by walk_at "vis") (by decide) (by decide)) qa_nil (by rfl)) (by rfl)) (by rfl) (by rfl)) (pg_tup (n := 2) rfl (pgs_cons (pg_name (i := 2) (show (["_law_found", "_law_due", "_law_one", "_law_other"] : List Str).Nodup by decide +kernel) rfl (Or.inl rfl) (by first | exact Or.inl rfl | exact Or.inr rfl)) (pgs_cons (pg_name (i := 3) (show (["_law_found", "_law_due", "_law_one", "_law_other"] : List Str).Nodup by decide +kernel) rfl (Or.inl rfl) (by first | exact Or.inl rfl | exact Or.inr rfl)) pgs_nil (by rfl)) (by rfl)) (by rfl) (by rfl))
        (qss_one (qs_if (pt_not (pt_val (qe_call G__law_same (hr.mono (Nat.le_refl _)) (by rfl) T.m__law_same T.k__law_same T.bd__law_same .nil pass0 (qa (pv 2 (by rfl) (by walk_at "vis") (by decide) (by decide)) (qa (pv 3 (by rfl) (by walk_at "vis") (by decide) (by decide)) qa_nil (by rfl)) (by rfl)) (by decide) (by rfl) (by rfl)) (by intro _; rfl)))
          (qss_one (qs_ret pe_bl))
          qss_nil)) (by intro _; rfl))
      (qss_one (qs_ret pe_bl))))))))), ?_⟩
    try dsimp only [cxOf]
    have hx0 := hx
    have hy0 := hy
    have r0 := Same.refl H
    cases hy with
    | non =>
      cases hx
      walk_at "rd"
      exact k _ r0
    | bl b =>
      cases hx
      walk_at "rd"
      rw [show decide (V.bl b = V.bl b) = true from decide_eq_true rfl]
      exact k _ r0
    | int j =>
      cases hx
      walk_at "rd"
      rw [show decide (V.int j = V.int j) = true from decide_eq_true rfl]
      exact k _ r0
    | str t =>
      cases hx
      walk_at "rd"
      rw [show decide (V.str t = V.str t) = true from decide_eq_true rfl]
      exact k _ r0
    | tup q n r =>
      rename_i b ys es
      cases hx with
      | tup q2 n2 r2 =>
        rename_i a2 xs
        have lx := r2.length
        have ly := r.length
        have hl : xs.length = ys.length := by omega
        walk_at "rd"
        rw [show decide (V.int (xs.length : Int) = V.int (ys.length : Int)) = true from decide_eq_true (by rw [hl])]
        walk_at "rd"
        refine ⟨_, _, rfl, ⟨xs, q2⟩, ⟨ys, q⟩, ?_⟩
        have hall : Mt.tupBAll es = true := by simpa [Mt.tupB] using ht
        have hdep : PyData.depthAll es < m := by
          have : (PyData.tuple es).depth = PyData.depthAll es + 1 := rfl
          omega
        refine for_zipW (xs := xs) (ys := ys) hl (fun i σ' H' => ∃ o2 o3 : Option V, σ' = [some (.ref a2), some (.ref b), o2, o3] ∧ Same H H') ?_ ?_ ?_ ?_
        · exact ⟨none, none, rfl, r0⟩
        · rintro i σ' H1 hi ⟨o2, o3, rfl, s1⟩
          exact ⟨s1.tupS q2, s1.tupS q⟩
        · rintro i x1 y1 p σ' H1 h1 h2 hn ⟨o2, o3, rfl, s1⟩
          obtain ⟨d1, f1, f2⟩ := r2.get h1
          obtain ⟨e1, g1, g2⟩ := r.get h2
          rw [f1] at g1; cases g1
          have s2 : Same H (upd H1 p (.tup [x1, y1])) := s1.trans (Same.upd hn)
          have me := List.mem_of_getElem? f1
          walk_at "rd"
          refine ⟨N, x1, y1, d1, rfl, f2.ext (Ext.same s2), g2.ext (Ext.same s2), Mt.tupB_at hall me, Nat.lt_of_le_of_lt (Mt.depth_at (Nat.le_refl _) me) hdep, fun H2 s3 => ?_⟩
          walk_at "rd"
          exact ⟨some x1, some y1, rfl, s2.trans s3⟩
        · rintro σ' H1 ⟨o2, o3, rfl, s1⟩
          walk_at "rd"
          exact k _ s1
    | lst q n r => cases ht
    | dk0 q n => cases ht

theorem rec_law_same (T : Txt P K mg a) : ∀ m, FnOk P w K mg base CX0 m a.f_law_same a.d_law_same ["_law_found", "_law_due"] (spr_law_same K m)
  | 0 => ⟨fun vs H Q E h => absurd h (spr_law_same_zero), fun A outer s H args us vs Q E _ _ _ _ h => absurd h (spr_law_same_zero)⟩
  | m + 1 => okr_law_same T (rec_law_same T m)
theorem ok_law_same (T : Txt P K mg a) : FnOk P w K mg base CX0 3 a.f_law_same a.d_law_same ["_law_found", "_law_due"] (sp_law_same K) := rec_law_same T 3
def sp_law_asked (K : PySem.W.Frag) : Sp := fun vs H Q _ => ∃ (st c r : Addr) (m : Nat) (b : Nat), vs = [.ref st, .int b] ∧ Dk H st c r m ∧ m < 100000000 ∧ 1 ≤ b ∧ b ≤ 8 ∧
  ∀ (q : Addr) (as : List Int) (H' : Hp), Mt.AsOk b as → SqT K H' q (as.map V.int) → q ∉ [st, c, r] → H q = none → Dk H' st c r (m + 9) → Ext [st, r] H H' → Q (.ref q) H'
theorem ok_law_asked (T : Txt P K mg a) (G__law_take : FnOk P w K mg base CX0 1 a.f_law_take a.d_law_take ["_law_deck_here", "_law_many"] (sp_law_take K)) : FnOk P w K mg base CX0 2 a.f_law_asked a.d_law_asked ["_law_deck_here", "_law_many"] (sp_law_asked K) := by
  refine T.F_law_asked.ok sc_law_asked (fun vs H Q E h => ?_) (fun cdv A outer s H vs Q E hr h => ?_)
  · obtain ⟨st, c, r, m, b, rfl, _⟩ := h; rfl
  · obtain ⟨st, c, r, m, b, rfl, S, hm, hb0, hb1, k⟩ := h
    refine exW ⟨_, (qss_cons (qs_set (i := 2) sc_law_asked.nd rfl (Or.inl rfl) (qe_callTy (cn_listR (by rfl)) (by rfl) T.b_list (by decide +kernel) (qa (qe_range (by rfl) T.b_range (qa (pv 1 (by rfl) (by walk_at "vis") (by decide) (by decide)) qa_nil (by rfl)) (by rfl)) qa_nil (by rfl)) (by decide) (by decide) (by rfl) (by rfl)) (by rfl) (by first | exact Or.inl rfl | exact Or.inr rfl))
      (qss_cons (qs_set (i := 3) sc_law_asked.nd rfl (Or.inl rfl) (qe_lst qa_nil) (by rfl) (by first | exact Or.inl rfl | exact Or.inr rfl))
      (qss_cons (qs_for PassesOwn.never rfl (qi_range1 (by rfl) T.b_range (qa (qe_call G__law_take (hr.mono (by decide)) (by rfl) T.m__law_take T.k__law_take T.bd__law_take .nil pass0 (qa (pv 0 (by rfl) (by walk_at "vis") (by decide) (by decide)) (qa (pe_op op_add (pv 1 (by rfl) (by walk_at "vis") (by decide) (by decide)) pe_int) qa_nil (by rfl)) (by rfl)) (by decide) (by rfl) (by rfl)) qa_nil (by rfl)) (by rfl)) (pg_name (i := 4) sc_law_asked.nd rfl (Or.inl rfl) (by first | exact Or.inl rfl | exact Or.inr rfl))
        (qss_one (qs_expr (qe_append (pv 3 (by rfl) (by walk_at "vis") (by decide) (by decide)) (qa (qe_pop (pv 2 (by rfl) (by walk_at "vis") (by decide) (by decide)) (qa (qe_call G__law_take (hr.mono (by decide)) (by rfl) T.m__law_take T.k__law_take T.bd__law_take .nil pass0 (qa (pv 0 (by rfl) (by walk_at "vis") (by decide) (by decide)) (qa (qe_callB cn_len (by rfl) T.b_len (by decide +kernel) (qa (pv 2 (by rfl) (by walk_at "vis") (by decide) (by decide)) qa_nil (by rfl)) (by decide) (by decide) (by rfl) (by rfl)) qa_nil (by rfl)) (by rfl)) (by decide) (by rfl) (by rfl)) qa_nil (by rfl)) (by rfl) (by rfl) (by rfl) (by rfl) (by rfl)) qa_nil (by rfl)) (by rfl) (by rfl) (by rfl) (by rfl) (by rfl)) (by rfl))) (by intro _; rfl))
      (qss_one (qs_ret (qe_callTy cn_tuple (by rfl) T.b_tuple (by decide +kernel) (qa (pv 3 (by rfl) (by walk_at "vis") (by decide) (by decide)) qa_nil (by rfl)) (by decide) (by decide) (by rfl) (by rfl))))))), ?_⟩
    try dsimp only [cxOf]
    walk_at "rd"
    refine ⟨by omega, by omega, fun l0 n0 => ?_⟩
    walk_at "rd"
    refine rd_listR upd_same (by omega) (by omega) fun lw nw => ?_
    walk_at "rd"
    have e0 : (b : Int).toNat = b := by simp
    rw [e0]
    refine ⟨sz (by simp), fun lf nf => ?_⟩
    have s3 : Same H (upd (upd (upd H l0 (.rng 0 b)) lw (.lst ((List.range b).map fun (i : Nat) => V.int (i : Int)))) lf (.lst [])) := ((Same.upd n0).trans (Same.upd (e0 ▸ nw))).trans (Same.upd (e0 ▸ nf))
    have gw : (upd (upd (upd H l0 (.rng 0 b)) lw (.lst ((List.range b).map fun (i : Nat) => V.int (i : Int)))) lf (.lst [])) lw = some (.lst ((Mt.rangeI b).map V.int)) := by
      rw [upd_ne (ne_of_none upd_same nf), upd_same, Mt.rangeI, List.map_map]; rfl
    have gf : (upd (upd (upd H l0 (.rng 0 b)) lw (.lst ((List.range b).map fun (i : Nat) => V.int (i : Int)))) lf (.lst [])) lf = some (.lst []) := upd_same
    have nwf : lw ≠ lf := ne_of_none upd_same nf
    have nw0 : H lw = none := (Same.upd n0).free nw
    have nf0 : H lf = none := (Same.upd n0).free ((Same.upd nw).free nf)
    generalize (upd (upd (upd H l0 (.rng 0 b)) lw (.lst ((List.range b).map fun (i : Nat) => V.int (i : Int)))) lf (.lst [])) = H3 at s3 gw gf ⊢
    have S3 := S.same s3
    have dw := S.new nw0
    have df := S.new nf0
    walk_at "rd"
    refine ⟨st, c, r, m, (b : Int) + 1, rfl, S3, by omega, by omega, by omega, fun v H4 v0 v1 S4 x4 => ?_⟩
    walk_at "rd"
    obtain ⟨n, rfl⟩ := Int.eq_ofNat_of_zero_le v0
    refine ⟨by omega, by omega, ?_⟩
    have e1 : (n : Int).toNat = n := by simp
    rw [e1]
    refine for_rangeW (fun i σ' H' => ∃ (o4 : Option V) (ws fs : List Int), σ' = [some (.ref st), some (.int b), some (.ref lw), some (.ref lf), o4] ∧ Dk H' st c r (m + 1 + i) ∧ Ext [st, r] H H' ∧ H' lw = some (.lst (ws.map V.int)) ∧ H' lf = some (.lst (fs.map V.int)) ∧ ws.length + i = b ∧ fs.length = i ∧ (ws ++ fs).Nodup ∧ ∀ a ∈ ws ++ fs, 0 ≤ a ∧ a < b) ?_ ?_ ?_
    · refine ⟨none, Mt.rangeI b, [], rfl, S4, (Ext.same s3).trans x4, x4 _ _ gw (nin_pr dw), x4 _ _ gf (nin_pr df), by simp [Mt.rangeI], rfl, by simpa using Mt.rangeI_nd b, fun a ha => ?_⟩
      rw [List.append_nil] at ha
      exact Mt.mem_rangeI.mp ha
    · rintro i σ' H5 hi ⟨o4, ws, fs, rfl, S5, x5, g1, g2, l1, l2, nd, rg⟩
      walk_at "rd"
      refine ⟨.inl ⟨rfl, _, SqL.of g2⟩, ?_⟩
      walk_at "rd"
      refine ⟨.inl ⟨rfl, _, SqL.of g1⟩, ?_⟩
      walk_at "rd"
      have hlm : ((ws.map V.int).length : Int) = ws.length := by rw [List.length_map]
      refine ⟨st, c, r, m + 1 + i, _, rfl, S5, by omega, by omega, by omega, fun u H6 u0 u1 S6 x6 => ?_⟩
      walk_at "rd"
      obtain ⟨j, rfl⟩ := Int.eq_ofNat_of_zero_le u0
      have hj : j < ws.length := by omega
      have g1' := x6 _ _ g1 (nin_pr dw)
      have g2' := x6 _ _ g2 (nin_pr df)
      refine ⟨lw, _, (j : Int), j, .int ws[j], rfl, rfl, g1', by omega, by omega, by rw [PySem.seqIndex_of (by omega) (by rw [List.length_map]; omega)]; simp, by simp [hj], ?_⟩
      walk_at "rd"
      refine rd_append (by rw [upd_ne (Ne.symm nwf)]; exact g2') (small1000 (by rw [List.length_map]; omega)) ?_
      walk_at "rd"
      have ew : (ws.map V.int).eraseIdx j = (ws.eraseIdx j).map V.int := Mt.map_erase _ _ _
      have ef : fs.map V.int ++ [V.int ws[j]] = (fs ++ [ws[j]]).map V.int := by rw [List.map_append]; rfl
      have pm : (ws ++ fs).Perm (ws.eraseIdx j ++ (fs ++ [ws[j]])) := by
        have p1 : ws.Perm (ws[j] :: ws.eraseIdx j) := Mt.erase_perm ws j hj
        refine (p1.append_right fs).trans ?_
        rw [List.cons_append]
        refine (List.perm_append_comm (l₁ := [ws[j]]) (l₂ := ws.eraseIdx j ++ fs)).trans ?_
        rw [List.append_assoc]
      refine ⟨_, ws.eraseIdx j, fs ++ [ws[j]], rfl, ((S6.upd dw).upd df).mono (by omega), (((x5.trans x6).upd2 nw0).upd2 nf0), ?_, ?_, ?_, by simp [l2], pm.nodup_iff.mp nd, fun a ha => rg a (pm.mem_iff.mpr ha)⟩
      · rw [upd_ne nwf, upd_same, ew]
      · rw [upd_same, ef]
      · rw [List.length_eraseIdx, if_pos hj]; omega
    · rintro σ' H5 ⟨o4, ws, fs, rfl, S5, x5, g1, g2, l1, l2, nd, rg⟩
      walk_at "rd"
      intro l6 n6
      refine k l6 fs _ ⟨(List.nodup_append.mp nd).2.1, fun a ha => rg a (List.mem_append_right _ ha)⟩ (SqT.of upd_same) (S5.new n6) (x5.free n6 (nin_pr (S5.new n6))) ((S5.upd (S5.new n6)).mono (by omega)) (x5.trans (Ext.new n6))

/-- things that are no number from lo to hi -/
def sp_law_odd (K : PySem.W.Frag) : Sp := fun vs H Q _ => ∃ (st c r : Addr) (m : Nat) (lo hi : Int), vs = [.ref st, .int lo, .int hi] ∧ Dk H st c r m ∧ m < 100000000 ∧ 0 ≤ lo ∧ lo ≤ hi ∧ hi ≤ 1000000 ∧
  ∀ (x : V) (d : PyData) (H' : Hp), Dt K [st, c, r] H' x d → Mt.withinD lo hi d = false → (d = .list [] ∨ (Mt.tupB d = true ∧ d.depth ≤ 1)) → Dk H' st c r (m + 3) → Ext [st, r] H H' → Q x H'
theorem ok_law_odd (T : Txt P K mg a) (G__law_take : FnOk P w K mg base CX0 1 a.f_law_take a.d_law_take ["_law_deck_here", "_law_many"] (sp_law_take K)) : FnOk P w K mg base CX0 2 a.f_law_odd a.d_law_odd ["_law_deck_here", "_law_least", "_law_most"] (sp_law_odd K) := by
  refine T.F_law_odd.ok sc_law_odd (fun vs H Q E h => ?_) (fun cdv A outer s H vs Q E hr h => ?_)
  · obtain ⟨st, c, r, m, lo, hi, rfl, _⟩ := h; rfl
  · obtain ⟨st, c, r, m, lo, hi, rfl, S, hm, h0, h1, h2, k⟩ := h
    refine exW ⟨_, (qss_cons (qs_setLA (i := 3) sc_law_odd.nd rfl (Or.inl rfl) (qa (by exact (pe_op op_sub (pv 1 (by rfl) (by walk_at "vis") (by decide) (by decide)) pe_int)) (qa (by exact (pe_op op_add (pv 2 (by rfl) (by walk_at "vis") (by decide) (by decide)) pe_int)) (qa (by exact (pe_op op_sub (pe_op op_sub (pv 1 (by rfl) (by walk_at "vis") (by decide) (by decide)) pe_int) (qe_call G__law_take (hr.mono (by decide)) (by rfl) T.m__law_take T.k__law_take T.bd__law_take .nil pass0 (qa (pv 0 (by rfl) (by walk_at "vis") (by decide) (by decide)) (qa pe_int qa_nil (by rfl)) (by rfl)) (by decide) (by rfl) (by rfl)))) (qa (by exact (pe_op op_add (pe_op op_add (pv 2 (by rfl) (by walk_at "vis") (by decide) (by decide)) pe_int) (qe_call G__law_take (hr.mono (by decide)) (by rfl) T.m__law_take T.k__law_take T.bd__law_take .nil pass0 (qa (pv 0 (by rfl) (by walk_at "vis") (by decide) (by decide)) (qa pe_int qa_nil (by rfl)) (by rfl)) (by decide) (by rfl) (by rfl)))) (qa (by exact (pe_op op_pow pe_int pe_int)) qa_nil (by rfl)) (by rfl)) (by rfl)) (by rfl)) (by rfl)) (by first | exact Or.inl rfl | exact Or.inr rfl))
      (qss_cons (qs_set (i := 3) sc_law_odd.nd rfl (Or.inl rfl) (pe_op op_catA (pv 3 (by rfl) (by walk_at "vis") (by decide) (by decide)) (qe_lstA (qa pe_bl (qa pe_bl (qa pe_non (qa pe_str (qa pe_str (qa (by exact (qe_tupA (qa pe_int qa_nil (by rfl)))) (qa (by exact (qe_lstA qa_nil)) qa_nil (by rfl)) (by rfl)) (by rfl)) (by rfl)) (by rfl)) (by rfl)) (by rfl)))) (by rfl) (by first | exact Or.inl rfl | exact Or.inr rfl))
      (qss_one (qs_ret (pe_ix ix_list (pv 3 (by rfl) (by walk_at "vis") (by decide) (by decide)) (qe_call G__law_take (hr.mono (by decide)) (by rfl) T.m__law_take T.k__law_take T.bd__law_take .nil pass0 (qa (pv 0 (by rfl) (by walk_at "vis") (by decide) (by decide)) (qa pe_int qa_nil (by rfl)) (by rfl)) (by decide) (by rfl) (by rfl)) (fun _ _ => rfl)))))), ?_⟩
    try dsimp only [cxOf]
    walk_at "rd"
    refine ⟨st, c, r, m, 9, rfl, S, by omega, by decide, by decide, fun v1 H1 a1 b1 S1 x1 => ?_⟩
    walk_at "rd"
    refine ⟨st, c, r, m + 1, 9, rfl, S1, by omega, by decide, by decide, fun v2 H2 a2 b2 S2 x2 => ?_⟩
    walk_at "rd"
    refine ⟨sz (by simp), fun l1 H3 n3 s3 e3 => ?_⟩
    walk_at "rd"
    refine ⟨sz (by simp), fun t1 H4 n4 s4 e4 => ?_⟩
    walk_at "rd"
    refine ⟨sz (by simp), fun l0 H5 n5 s5 e5 => ?_⟩
    walk_at "rd"
    refine ⟨sz (by simp), fun l2 H6 n6 s6 e6 => ?_⟩
    walk_at "rd"
    refine rd_catA ((s4.trans (s5.trans s6)) _ _ e3) e6 (sz (by simp)) fun l3 H7 n7 s7 e7 => ?_
    walk_at "rd"
    have S7 := S2.same (s3.trans (s4.trans (s5.trans (s6.trans s7))))
    have dl : l3 ∉ [st, c, r] := ((S2.same (s3.trans (s4.trans (s5.trans s6))))).new n7
    have dt : t1 ∉ [st, c, r] := (S2.same s3).new n4
    have d0 : l0 ∉ [st, c, r] := (S2.same (s3.trans s4)).new n5
    refine ⟨st, c, r, m + 2, 12, rfl, S7, by omega, by decide, by decide, fun v3 H8 a3 b3 S8 x8 => ?_⟩
    have x08 : Ext [st, r] H H8 := ((x1.trans x2).trans (Ext.same (s3.trans (s4.trans (s5.trans (s6.trans s7)))))).trans x8
    have e8 := x8 _ _ e7 (nin_pr dl)
    have e48 := x8 _ _ ((s5.trans (s6.trans s7)) _ _ e4) (nin_pr dt)
    have e58 := x8 _ _ ((s6.trans s7) _ _ e5) (nin_pr d0)
    obtain ⟨j, rfl⟩ := Int.eq_ofNat_of_zero_le a3
    walk_at "rd"
    have fin : ∀ (x : V) (d : PyData), Dt K [st, c, r] H8 x d → Mt.withinD lo hi d = false → (d = .list [] ∨ (Mt.tupB d = true ∧ d.depth ≤ 1)) → Q x H8 := fun x d g1 g2 g3 => k x d H8 g1 g2 g3 S8 x08
    have big : ∀ i : Int, i < lo ∨ hi < i → Q (.int i) H8 := fun i h => fin _ (.int i) (.int i) (by simp [Mt.withinD]; omega) (.inr ⟨rfl, by simp [PyData.depth]⟩)
    have p40 : (10 : Int) ^ (40 : Int).toNat = 10000000000000000000000000000000000000000 := by decide +kernel
    refine rd_ixL (v := ([V.int (lo - 1), .int (hi + 1), .int (lo - 1 - v1), .int (hi + 1 + v2), .int (10 ^ (40 : Int).toNat), .bl true, .bl false, .non, .str "1", .str "", .ref t1, .ref l0] : List V).getD j .non) (SqL.of e8) (atI_nat ?_) ?_
    · have hj : j < 12 := by omega
      rw [List.getD_eq_getElem?_getD]
      match j, hj with
      | 0, _ => rfl
      | 1, _ => rfl
      | 2, _ => rfl
      | 3, _ => rfl
      | 4, _ => rfl
      | 5, _ => rfl
      | 6, _ => rfl
      | 7, _ => rfl
      | 8, _ => rfl
      | 9, _ => rfl
      | 10, _ => rfl
      | 11, _ => rfl
    · have hj : j < 12 := by omega
      match j, hj with
      | 0, _ => exact big _ (by omega)
      | 1, _ => exact big _ (by omega)
      | 2, _ => exact big _ (by omega)
      | 3, _ => exact big _ (by omega)
      | 4, _ => exact big _ (by rw [p40]; omega)
      | 5, _ => exact fin _ _ (.bl true) rfl (.inr ⟨rfl, by decide⟩)
      | 6, _ => exact fin _ _ (.bl false) rfl (.inr ⟨rfl, by decide⟩)
      | 7, _ => exact fin _ _ .non rfl (.inr ⟨rfl, by decide⟩)
      | 8, _ => exact fin _ _ (.str _) rfl (.inr ⟨rfl, by decide⟩)
      | 9, _ => exact fin _ _ (.str _) rfl (.inr ⟨rfl, by decide⟩)
      | 10, _ => exact fin _ (.tuple [.int 1]) (.tup (SqT.of e48) dt (.cons (.int 1) .nil)) rfl (.inr ⟨rfl, by decide⟩)
      | 11, _ => exact fin _ (.list []) (.lst (SqL.of e58) d0 .nil) rfl (.inl rfl)

def sp_law_refused (K : PySem.W.Frag) (a : Adr) : Sp := fun vs H Q _ => ∃ (N : List Addr) (l : Addr) (w : Str) (f x y z : V) (d1 d3 : PyData), vs = [.ref l, .str w, f] ∧ SqL K H l [x, y, z] ∧ Dt K N H x d1 ∧ Dt K N H z d3 ∧
  ((w = "houses" ∧ Mt.withinD 1 8 d1 = false) ∨ (w = "need" ∧ Mt.withinD 1 8 d1 = true ∧ Mt.withinD 1 8 d3 = false) ∨
   (w = "house" ∧ ∃ (p : Addr) (xs : List V) (m n : Nat) (bad : V) (N : List Addr) (d : PyData), x = .int m ∧ y = .ref p ∧ z = .int n ∧ 1 ≤ m ∧ m ≤ 8 ∧ 1 ≤ n ∧ n ≤ 8 ∧ SqT K H p xs ∧ Asked K H m xs (some bad) ∧ Dt K N H bad d ∧ Dt K N H f d ∧ Mt.tupB d = true ∧ d.depth ≤ 1)) ∧
  ∀ H', Same H H' → Q (.bl true) H'
theorem ok_law_refused (T : Txt P K mg a) (G__law_same : FnOk P w K mg base CX0 3 a.f_law_same a.d_law_same ["_law_found", "_law_due"] (sp_law_same K)) (G_avoiding : FnOk P w K mg base (CX1 P w) 6 a.f_avoiding a.d_avoiding ["houses", "asked", "need"] (sp_avoiding K a)) : FnOk P w K mg base CX0 7 a.f_law_refused a.d_law_refused ["_law_handed", "_law_word", "_law_field"] (sp_law_refused K a) := by
  refine T.F_law_refused.ok sc_law_refused (fun vs H Q E h => ?_) (fun cdv A outer s H vs Q E hr h => ?_)
  · obtain ⟨N, l, w, f, x, y, z, d1, d3, rfl, _⟩ := h; rfl
  · obtain ⟨N, l, w, f, x, y, z, d1, d3, rfl, hl, hx, hz, k0, k⟩ := h
    refine exW ⟨_, (qss_cons (qs_set (i := 3) sc_law_refused.nd rfl (Or.inl rfl) pe_non (by rfl) (by first | exact Or.inl rfl | exact Or.inr rfl))
      (qss_cons (qs_try (i := 4) (c := "LineError") sc_law_refused.nd rfl rfl (by rfl) T.mC_LineError rfl rfl rfl (fun _ _ XR hx =>
        (qss_one (qs_expr (qe_callX G_avoiding (hr.mono (by decide)) (by rfl) T.m_avoiding T.k_avoiding T.bd_avoiding .nil hx (qa (pe_ix (ix_listK (K := K) (by rfl)) (pv 0 (by rfl) (by walk_at "vis") (by decide) (by decide)) pe_int (fun _ _ => rfl)) (qa (pe_ix (ix_listK (K := K) (by rfl)) (pv 0 (by rfl) (by walk_at "vis") (by decide) (by decide)) pe_int (fun _ _ => rfl)) (qa (pe_ix (ix_listK (K := K) (by rfl)) (pv 0 (by rfl) (by walk_at "vis") (by decide) (by decide)) pe_int (fun _ _ => rfl)) qa_nil (by rfl)) (by rfl)) (by rfl)) (by decide) (by rfl) (by rfl)) (by rfl)))) (fun _ =>
        (qss_one (qs_set (i := 3) sc_law_refused.nd rfl (Or.inl rfl) (pv 4 (by rfl) (by walk_at "vis") (by decide) (by decide)) (by rfl) (by first | exact Or.inl rfl | exact Or.inr rfl)))) (by decide))
      (qss_cons (qs_if (pw_or (pt_cmpR on_isN (pv 3 (by rfl) (by walk_at "vis") (by decide) (by decide)) pe_non (nomark _)) (pw_or (pt_not (pt_val (qe_callB cn_isiX (by rfl) T.b_isinstance (by decide +kernel) (qa (pv 3 (by rfl) (by walk_at "vis") (by decide) (by decide)) (qa (pe_bltn (by rfl) T.b_ValueError (by decide +kernel) (v := .ty "ValueError") rfl (by decide) (by decide)) qa_nil (by rfl)) (by rfl)) (by decide) (by decide) (by rfl) (by rfl)) (by intro _; rfl))) (pw_or1 (pt_val (qe_callB cn_isiT (by rfl) T.b_isinstance (by decide +kernel) (qa (pv 3 (by rfl) (by walk_at "vis") (by decide) (by decide)) (qa (qe_tup (qa (pe_glob (v := .ref a.C_NoPlace) (by rfl) T.mC_NoPlace rfl (by decide)) (qa (pe_glob (v := .ref a.C_NoRow) (by rfl) T.mC_NoRow rfl (by decide)) (qa (pe_glob (v := .ref a.C_NoRule) (by rfl) T.mC_NoRule rfl (by decide)) qa_nil (by rfl)) (by rfl)) (by rfl))) qa_nil (by rfl)) (by rfl)) (by decide) (by decide) (by rfl) (by rfl)) (by intro _; rfl))))).pt
        (qss_one (qs_ret pe_bl))
        qss_nil)
      (qss_cons (qs_if (pt_cmpR op_eq (pv 1 (by rfl) (by walk_at "vis") (by decide) (by decide)) pe_str (nomark _))
        (qss_one (qs_ret (pe_and (qe_callB cn_isiX (by rfl) T.b_isinstance (by decide +kernel) (qa (pv 3 (by rfl) (by walk_at "vis") (by decide) (by decide)) (qa (pe_glob (v := .ref a.C_NoHouse) (by rfl) T.mC_NoHouse rfl (by decide)) qa_nil (by rfl)) (by rfl)) (by decide) (by decide) (by rfl) (by rfl)) (pe_and (pe_not (qe_callB cn_isiX (by rfl) T.b_isinstance (by decide +kernel) (qa (pv 3 (by rfl) (by walk_at "vis") (by decide) (by decide)) (qa (pe_glob (v := .ref a.C_NoCount) (by rfl) T.mC_NoCount rfl (by decide)) qa_nil (by rfl)) (by rfl)) (by decide) (by decide) (by rfl) (by rfl))) (pe_one (qe_call G__law_same (hr.mono (by decide)) (by rfl) T.m__law_same T.k__law_same T.bd__law_same .nil pass0 (qa (pe_xat (pv 3 (by rfl) (by walk_at "vis") (by decide) (by decide)) (by rfl)) (qa (pv 2 (by rfl) (by walk_at "vis") (by decide) (by decide)) qa_nil (by rfl)) (by rfl)) (by decide) (by rfl) (by rfl)))))))
        qss_nil)
      (qss_one (qs_ret (pe_and (qe_callB cn_isiX (by rfl) T.b_isinstance (by decide +kernel) (qa (pv 3 (by rfl) (by walk_at "vis") (by decide) (by decide)) (qa (pe_glob (v := .ref a.C_NoCount) (by rfl) T.mC_NoCount rfl (by decide)) qa_nil (by rfl)) (by rfl)) (by decide) (by decide) (by rfl) (by rfl)) (pe_and (pe_not (qe_callB cn_isiX (by rfl) T.b_isinstance (by decide +kernel) (qa (pv 3 (by rfl) (by walk_at "vis") (by decide) (by decide)) (qa (pe_glob (v := .ref a.C_NoHouse) (by rfl) T.mC_NoHouse rfl (by decide)) qa_nil (by rfl)) (by rfl)) (by decide) (by decide) (by rfl) (by rfl))) (pe_one (qe_call G__law_same (hr.mono (by decide)) (by rfl) T.m__law_same T.k__law_same T.bd__law_same .nil pass0 (qa (pe_xat (pv 3 (by rfl) (by walk_at "vis") (by decide) (by decide)) (by rfl)) (qa (pv 1 (by rfl) (by walk_at "vis") (by decide) (by decide)) qa_nil (by rfl)) (by rfl)) (by decide) (by rfl) (by rfl))))))))))), ?_⟩
    try dsimp only [cxOf]
    walk_at "rd"
    have cnt : ∀ (w : Str) (H1 : Hp) (dx x : Addr), (w = "houses" ∨ w = "need") → Same H H1 → H1 dx = none → upd H1 dx (.xd [("what", .str w)]) x = none → ∀ {H2 : Hp}, H2 = upd (upd H1 dx (.xd [("what", .str w)])) x (.ext (ExcIs x (.ref a.C_NoCount) (some dx))) → Same H H2 ∧ H2 x = some (.ext (ExcIs x (.ref a.C_NoCount) (some dx))) ∧ H2 dx = some (.xd [("what", .str w)]) ∧ decide (V.str w = V.str "house") = false := by
      rintro w H1 dx x hw s1 n1 n2 H2 rfl
      have nx : dx ≠ x := fun z => by rw [z, upd_same] at n2; cases n2
      refine ⟨(s1.trans (Same.upd n1)).trans (Same.upd n2), upd_same, by rw [upd_ne nx]; exact upd_same, ?_⟩
      rcases hw with rfl | rfl <;> decide +kernel
    rcases k0 with ⟨rfl, h1⟩ | ⟨rfl, h1, h3⟩ | ⟨rfl, p, xs, m, n, bad, N2, d, rfl, rfl, rfl, m1, m2, n1, n2, hq, hb, hbd, hfd, htb, hdp⟩
    · refine ⟨N, x, y, z, d1, d3, rfl, hx, hz, .inl ⟨h1, fun dx hdx => ⟨T.ex_NoCount_LineError, fun e he => ?_⟩⟩⟩
      walk_at "rd"
      obtain ⟨s2, ex, ed, ew⟩ := cnt "houses" H dx e (.inl rfl) (Same.refl _) hdx he rfl
      generalize upd (upd H dx (.xd [("what", .str "houses")])) e (.ext (ExcIs e (.ref a.C_NoCount) (some dx))) = H2 at s2 ex ed ⊢
      have ty : ∀ {H' : Hp}, Same H2 H' → TyX K H' (.ref e) (.ref a.C_NoCount) := fun s => .exc (s _ _ ex) T.xg_NoCount
      walk_at "rd"
      refine rd_isiX (ty (Same.refl _)) rfl T.is_NoCount_ValueError ?_
      walk_at "rd"
      refine ⟨sz (by simp), fun t nt => ?_⟩
      walk_at "rd"
      refine rd_isiT (cs := [a.C_NoPlace, a.C_NoRow, a.C_NoRule]) (ty (Same.upd nt)) (SqT.of upd_same) (kitAnyF T.is_NoCount_NoPlace (kitAnyF T.is_NoCount_NoRow (kitAnyF T.is_NoCount_NoRule kitAny0))) ?_
      walk_at "rd"
      refine rd_isiX (ty (Same.upd nt)) rfl T.is_NoCount_NoCount ?_
      walk_at "rd"
      refine rd_isiX (ty (Same.upd nt)) rfl T.is_NoCount_NoHouse ?_
      walk_at "rd"
      refine ⟨e, _, dx, _, .str "houses", _, rfl, (Same.upd nt) _ _ ex, T.xg_NoCount, T.Z_NoCount.xc, T.Z_NoCount.x1.no, (Same.upd nt) _ _ ed, rfl, ?_⟩
      walk_at "rd"
      exact ⟨[], _, _, _, rfl, .str _, .str _, rfl, by decide, fun H3 s3 => k _ ((s2.trans (Same.upd nt)).trans s3)⟩
    · refine ⟨N, x, y, z, d1, d3, rfl, hx, hz, .inr (.inl ⟨h1, h3, fun dx hdx => ⟨T.ex_NoCount_LineError, fun e he => ?_⟩⟩)⟩
      walk_at "rd"
      obtain ⟨s2, ex, ed, ew⟩ := cnt "need" H dx e (.inr rfl) (Same.refl _) hdx he rfl
      generalize upd (upd H dx (.xd [("what", .str "need")])) e (.ext (ExcIs e (.ref a.C_NoCount) (some dx))) = H2 at s2 ex ed ⊢
      have ty : ∀ {H' : Hp}, Same H2 H' → TyX K H' (.ref e) (.ref a.C_NoCount) := fun s => .exc (s _ _ ex) T.xg_NoCount
      walk_at "rd"
      refine rd_isiX (ty (Same.refl _)) rfl T.is_NoCount_ValueError ?_
      walk_at "rd"
      refine ⟨sz (by simp), fun t nt => ?_⟩
      walk_at "rd"
      refine rd_isiT (cs := [a.C_NoPlace, a.C_NoRow, a.C_NoRule]) (ty (Same.upd nt)) (SqT.of upd_same) (kitAnyF T.is_NoCount_NoPlace (kitAnyF T.is_NoCount_NoRow (kitAnyF T.is_NoCount_NoRule kitAny0))) ?_
      walk_at "rd"
      refine rd_isiX (ty (Same.upd nt)) rfl T.is_NoCount_NoCount ?_
      walk_at "rd"
      refine rd_isiX (ty (Same.upd nt)) rfl T.is_NoCount_NoHouse ?_
      walk_at "rd"
      refine ⟨e, _, dx, _, .str "need", _, rfl, (Same.upd nt) _ _ ex, T.xg_NoCount, T.Z_NoCount.xc, T.Z_NoCount.x1.no, (Same.upd nt) _ _ ed, rfl, ?_⟩
      walk_at "rd"
      exact ⟨[], _, _, _, rfl, .str _, .str _, rfl, by decide, fun H3 s3 => k _ ((s2.trans (Same.upd nt)).trans s3)⟩
    · refine ⟨N, _, _, _, d1, d3, rfl, hx, hz, .inr (.inr (.inl ⟨p, xs, m, n, bad, rfl, rfl, rfl, m1, m2, n1, n2, hq, hb, fun H1 dx s1 hdx => ⟨T.ex_NoHouse_LineError, fun e he => ?_⟩⟩))⟩
      walk_at "rd"
      have nx : dx ≠ e := fun z => by rw [z, upd_same] at he; cases he
      have s2 : Same H (upd (upd H1 dx (.xd [("house", bad)])) e (.ext (ExcIs e (.ref a.C_NoHouse) (some dx)))) := (s1.trans (Same.upd hdx)).trans (Same.upd he)
      have ex : upd (upd H1 dx (.xd [("house", bad)])) e (.ext (ExcIs e (.ref a.C_NoHouse) (some dx))) e = some (.ext (ExcIs e (.ref a.C_NoHouse) (some dx))) := upd_same
      have ed : upd (upd H1 dx (.xd [("house", bad)])) e (.ext (ExcIs e (.ref a.C_NoHouse) (some dx))) dx = some (.xd [("house", bad)]) := by rw [upd_ne nx]; exact upd_same
      generalize upd (upd H1 dx (.xd [("house", bad)])) e (.ext (ExcIs e (.ref a.C_NoHouse) (some dx))) = H2 at s2 ex ed ⊢
      have ty : ∀ {H' : Hp}, Same H2 H' → TyX K H' (.ref e) (.ref a.C_NoHouse) := fun s => .exc (s _ _ ex) T.xg_NoHouse
      walk_at "rd"
      refine rd_isiX (ty (Same.refl _)) rfl T.is_NoHouse_ValueError ?_
      walk_at "rd"
      refine ⟨sz (by simp), fun t nt => ?_⟩
      walk_at "rd"
      refine rd_isiT (cs := [a.C_NoPlace, a.C_NoRow, a.C_NoRule]) (ty (Same.upd nt)) (SqT.of upd_same) (kitAnyF T.is_NoHouse_NoPlace (kitAnyF T.is_NoHouse_NoRow (kitAnyF T.is_NoHouse_NoRule kitAny0))) ?_
      walk_at "rd"
      refine rd_isiX (ty (Same.upd nt)) rfl T.is_NoHouse_NoHouse ?_
      walk_at "rd"
      refine rd_isiX (ty (Same.upd nt)) rfl T.is_NoHouse_NoCount ?_
      walk_at "rd"
      refine ⟨e, _, dx, _, bad, _, rfl, (Same.upd nt) _ _ ex, T.xg_NoHouse, T.Z_NoHouse.xc, T.Z_NoHouse.x1.no, (Same.upd nt) _ _ ed, rfl, ?_⟩
      walk_at "rd"
      have s3 := s2.trans (Same.upd nt (o := .tup [.ref a.C_NoPlace, .ref a.C_NoRow, .ref a.C_NoRule]))
      exact ⟨N2, _, _, _, rfl, hbd.ext (Ext.same s3), hfd.ext (Ext.same s3), htb, by omega, fun H3 s4 => k _ (s3.trans s4)⟩

def sp_law_wrong (K : PySem.W.Frag) (a : Adr) : Sp := fun vs H Q _ => ∃ (st c r : Addr) (k0 : Nat) (p : Addr) (as : List Int) (m n : Nat), vs = [.ref st, .int m, .ref p, .int n] ∧ Dk H st c r k0 ∧ k0 < 10000000 ∧ SqT K H p (as.map V.int) ∧ p ∉ [st, c, r] ∧ Mt.AsOk m as ∧ 1 ≤ m ∧ m ≤ 8 ∧ 1 ≤ n ∧ n ≤ 8 ∧
  ∀ H', Dk H' st c r (k0 + 20) → Ext [st, r] H H' → Q (.bl true) H'
theorem ok_law_wrong (T : Txt P K mg a) (G__law_odd : FnOk P w K mg base CX0 2 a.f_law_odd a.d_law_odd ["_law_deck_here", "_law_least", "_law_most"] (sp_law_odd K)) (G__law_refused : FnOk P w K mg base CX0 7 a.f_law_refused a.d_law_refused ["_law_handed", "_law_word", "_law_field"] (sp_law_refused K a)) (G__law_take : FnOk P w K mg base CX0 1 a.f_law_take a.d_law_take ["_law_deck_here", "_law_many"] (sp_law_take K)) : FnOk P w K mg base CX0 8 a.f_law_wrong a.d_law_wrong ["_law_deck_here", "_law_many", "_law_asked_here", "_law_wanted"] (sp_law_wrong K a) := by
  refine T.F_law_wrong.ok sc_law_wrong (fun vs H Q E h => ?_) (fun cdv A outer s H vs Q E hr h => ?_)
  · obtain ⟨st, c, r, k0, p, as, m, n, rfl, _⟩ := h; rfl
  · obtain ⟨st, c, r, k0, p, as, m, n, rfl, S, hk, hq, dp, ho, m1, m2, n1, n2, k⟩ := h
    have hal : as.length ≤ 8 := by have := Mt.freeL_count ho; omega
    refine exW ⟨_, (qss_cons (qs_set (i := 4) sc_law_wrong.nd rfl (Or.inl rfl) (qe_call G__law_odd (hr.mono (by decide)) (by rfl) T.m__law_odd T.k__law_odd T.bd__law_odd .nil pass0 (qa (pv 0 (by rfl) (by walk_at "vis") (by decide) (by decide)) (qa pe_int (qa pe_int qa_nil (by rfl)) (by rfl)) (by rfl)) (by decide) (by rfl) (by rfl)) (by rfl) (by first | exact Or.inl rfl | exact Or.inr rfl))
      (qss_cons (qs_set (i := 5) sc_law_wrong.nd rfl (Or.inl rfl) (qe_call G__law_odd (hr.mono (by decide)) (by rfl) T.m__law_odd T.k__law_odd T.bd__law_odd .nil pass0 (qa (pv 0 (by rfl) (by walk_at "vis") (by decide) (by decide)) (qa pe_int (qa pe_int qa_nil (by rfl)) (by rfl)) (by rfl)) (by decide) (by rfl) (by rfl)) (by rfl) (by first | exact Or.inl rfl | exact Or.inr rfl))
      (qss_cons (qs_set (i := 6) sc_law_wrong.nd rfl (Or.inl rfl) (pe_ix ix_list (qe_lstA (qa (pv 1 (by rfl) (by walk_at "vis") (by decide) (by decide)) (qa (by exact (pe_op op_add (pv 1 (by rfl) (by walk_at "vis") (by decide) (by decide)) pe_int)) (qa (by exact (pe_un un_neg pe_int)) (qa (by exact (pe_op op_pow pe_int pe_int)) (qa pe_bl (qa pe_bl (qa pe_non (qa pe_str (qa (by exact (qe_tupA (qa pe_int qa_nil (by rfl)))) qa_nil (by rfl)) (by rfl)) (by rfl)) (by rfl)) (by rfl)) (by rfl)) (by rfl)) (by rfl)) (by rfl))) (qe_call G__law_take (hr.mono (by decide)) (by rfl) T.m__law_take T.k__law_take T.bd__law_take .nil pass0 (qa (pv 0 (by rfl) (by walk_at "vis") (by decide) (by decide)) (qa pe_int qa_nil (by rfl)) (by rfl)) (by decide) (by rfl) (by rfl)) (fun _ _ => rfl)) (by rfl) (by first | exact Or.inl rfl | exact Or.inr rfl))
      (qss_cons (qs_set (i := 7) sc_law_wrong.nd rfl (Or.inl rfl) (qe_call G__law_take (hr.mono (by decide)) (by rfl) T.m__law_take T.k__law_take T.bd__law_take .nil pass0 (qa (pv 0 (by rfl) (by walk_at "vis") (by decide) (by decide)) (qa (pe_op op_add (qe_callB cn_len (by rfl) T.b_len (by decide +kernel) (qa (pv 2 (by rfl) (by walk_at "vis") (by decide) (by decide)) qa_nil (by rfl)) (by decide) (by decide) (by rfl) (by rfl)) pe_int) qa_nil (by rfl)) (by rfl)) (by decide) (by rfl) (by rfl)) (by rfl) (by first | exact Or.inl rfl | exact Or.inr rfl))
      (qss_cons (qs_set (i := 8) sc_law_wrong.nd rfl (Or.inl rfl) (pe_op op_catG (pe_op op_catG (pe_slice sl_tupG (pv 2 (by rfl) (by walk_at "vis") (by decide) (by decide)) po_none (po_some (pv 7 (by rfl) (by walk_at "vis") (by decide) (by decide)))) (qe_tupA (qa (pv 6 (by rfl) (by walk_at "vis") (by decide) (by decide)) qa_nil (by rfl)))) (pe_slice sl_tupG (pv 2 (by rfl) (by walk_at "vis") (by decide) (by decide)) (po_some (pv 7 (by rfl) (by walk_at "vis") (by decide) (by decide))) po_none)) (by rfl) (by first | exact Or.inl rfl | exact Or.inr rfl))
      (qss_cons (qs_if (pt_not (pt_val (qe_call G__law_refused (hr.mono (by decide)) (by rfl) T.m__law_refused T.k__law_refused T.bd__law_refused .nil pass0 (qa (qe_lstA (qa (pv 4 (by rfl) (by walk_at "vis") (by decide) (by decide)) (qa (pv 8 (by rfl) (by walk_at "vis") (by decide) (by decide)) (qa (pe_ix ix_list (qe_lstA (qa (pv 3 (by rfl) (by walk_at "vis") (by decide) (by decide)) (qa (pv 5 (by rfl) (by walk_at "vis") (by decide) (by decide)) qa_nil (by rfl)) (by rfl))) (qe_call G__law_take (hr.mono (by decide)) (by rfl) T.m__law_take T.k__law_take T.bd__law_take .nil pass0 (qa (pv 0 (by rfl) (by walk_at "vis") (by decide) (by decide)) (qa pe_int qa_nil (by rfl)) (by rfl)) (by decide) (by rfl) (by rfl)) (fun _ _ => rfl)) qa_nil (by rfl)) (by rfl)) (by rfl))) (qa pe_str (qa pe_non qa_nil (by rfl)) (by rfl)) (by rfl)) (by decide) (by rfl) (by rfl)) (by intro _; rfl)))
        (qss_one (qs_ret pe_bl))
        qss_nil)
      (qss_cons (qs_if (pt_not (pt_val (qe_call G__law_refused (hr.mono (by decide)) (by rfl) T.m__law_refused T.k__law_refused T.bd__law_refused .nil pass0 (qa (qe_lstA (qa (pv 1 (by rfl) (by walk_at "vis") (by decide) (by decide)) (qa (pv 8 (by rfl) (by walk_at "vis") (by decide) (by decide)) (qa (pv 5 (by rfl) (by walk_at "vis") (by decide) (by decide)) qa_nil (by rfl)) (by rfl)) (by rfl))) (qa pe_str (qa pe_non qa_nil (by rfl)) (by rfl)) (by rfl)) (by decide) (by rfl) (by rfl)) (by intro _; rfl)))
        (qss_one (qs_ret pe_bl))
        qss_nil)
      (qss_cons (qs_if (pt_not (pt_val (qe_call G__law_refused (hr.mono (by decide)) (by rfl) T.m__law_refused T.k__law_refused T.bd__law_refused .nil pass0 (qa (qe_lstA (qa (pv 1 (by rfl) (by walk_at "vis") (by decide) (by decide)) (qa (pv 8 (by rfl) (by walk_at "vis") (by decide) (by decide)) (qa (pv 3 (by rfl) (by walk_at "vis") (by decide) (by decide)) qa_nil (by rfl)) (by rfl)) (by rfl))) (qa pe_str (qa (pv 6 (by rfl) (by walk_at "vis") (by decide) (by decide)) qa_nil (by rfl)) (by rfl)) (by rfl)) (by decide) (by rfl) (by rfl)) (by intro _; rfl)))
        (qss_one (qs_ret pe_bl))
        qss_nil)
      (qss_cons (qs_if (pt_cmpR op_eq (qe_callB cn_len (by rfl) T.b_len (by decide +kernel) (qa (pv 2 (by rfl) (by walk_at "vis") (by decide) (by decide)) qa_nil (by rfl)) (by decide) (by decide) (by rfl) (by rfl)) pe_int (nomark _))
        (qss_one (qs_ret pe_bl))
        qss_nil)
      (qss_cons (qs_set (i := 9) sc_law_wrong.nd rfl (Or.inl rfl) (pe_ix ix_tup (pv 2 (by rfl) (by walk_at "vis") (by decide) (by decide)) (qe_call G__law_take (hr.mono (by decide)) (by rfl) T.m__law_take T.k__law_take T.bd__law_take .nil pass0 (qa (pv 0 (by rfl) (by walk_at "vis") (by decide) (by decide)) (qa (qe_callB cn_len (by rfl) T.b_len (by decide +kernel) (qa (pv 2 (by rfl) (by walk_at "vis") (by decide) (by decide)) qa_nil (by rfl)) (by decide) (by decide) (by rfl) (by rfl)) qa_nil (by rfl)) (by rfl)) (by decide) (by rfl) (by rfl)) (fun _ _ => rfl)) (by rfl) (by first | exact Or.inl rfl | exact Or.inr rfl))
      (qss_one (qs_ret (qe_call G__law_refused (hr.mono (by decide)) (by rfl) T.m__law_refused T.k__law_refused T.bd__law_refused .nil pass0 (qa (qe_lstA (qa (pv 1 (by rfl) (by walk_at "vis") (by decide) (by decide)) (qa (pe_op op_catG (pv 2 (by rfl) (by walk_at "vis") (by decide) (by decide)) (qe_tupA (qa (pv 9 (by rfl) (by walk_at "vis") (by decide) (by decide)) (qa pe_non qa_nil (by rfl)) (by rfl)))) (qa (pv 3 (by rfl) (by walk_at "vis") (by decide) (by decide)) qa_nil (by rfl)) (by rfl)) (by rfl))) (qa pe_str (qa (pv 9 (by rfl) (by walk_at "vis") (by decide) (by decide)) qa_nil (by rfl)) (by rfl)) (by rfl)) (by decide) (by rfl) (by rfl)))))))))))))), ?_⟩
    try dsimp only [cxOf]
    walk_at "rq"
    refine ⟨st, c, r, k0, 1, 8, rfl, S, by omega, by decide, by decide, by decide, fun x1 d1 H1 hx1 hw1 _ S1 e1 => ?_⟩
    walk_at "rq"
    refine ⟨st, c, r, _, 1, 8, rfl, S1, by omega, by decide, by decide, by decide, fun x2 d2 H2 hx2 hw2 _ S2 e2 => ?_⟩
    walk_at "rq"
    refine ⟨sz (by simp), fun t3 H3 n3 s3 g3 => ?_⟩
    walk_at "rq"
    refine ⟨sz (by simp), fun l4 H4 n4 s4 g4 => ?_⟩
    walk_at "rq"
    have S4 := S2.same (s3.trans s4)
    have dt3 : t3 ∉ [st, c, r] := S2.new n3
    have dl4 : l4 ∉ [st, c, r] := (S2.same s3).new n4
    refine ⟨st, c, r, _, 9, rfl, S4, by omega, by decide, by decide, fun v5 H5 a5 b5 S5 e5 => ?_⟩
    obtain ⟨i5, rfl⟩ := Int.eq_ofNat_of_zero_le a5
    have g45 := e5 _ _ g4 (nin_pr dl4)
    have g35 := e5 _ _ (s4 _ _ g3) (nin_pr dt3)
    have p40 : (10 : Int) ^ (40 : Int).toNat = 10000000000000000000000000000000000000000 := by decide +kernel
    obtain ⟨x3, d3, ex3, hx3, hw3, ht3, hp3⟩ : ∃ (x3 : V) (d3 : PyData), ([V.int m, .int (m + 1), .int (-1), .int (10 ^ (40 : Int).toNat), .bl true, .bl false, .non, .str "0", .ref t3] : List V)[i5]? = some x3 ∧ Dt K [st, c, r] H5 x3 d3 ∧ Mt.withinD 0 ((m : Int) - 1) d3 = false ∧ Mt.tupB d3 = true ∧ d3.depth ≤ 1 := by
      have hj : i5 < 9 := by omega
      have big : ∀ i : Int, i < 0 ∨ (m : Int) - 1 < i → Mt.withinD 0 ((m : Int) - 1) (.int i) = false := fun i h => by simp [Mt.withinD]; omega
      match i5, hj with
      | 0, _ => exact ⟨_, _, rfl, .int _, big _ (by omega), rfl, by simp [PyData.depth]⟩
      | 1, _ => exact ⟨_, _, rfl, .int _, big _ (by omega), rfl, by simp [PyData.depth]⟩
      | 2, _ => exact ⟨_, _, rfl, .int _, big _ (by omega), rfl, by simp [PyData.depth]⟩
      | 3, _ => exact ⟨_, _, rfl, .int _, big _ (by rw [p40]; omega), rfl, by simp [PyData.depth]⟩
      | 4, _ => exact ⟨_, _, rfl, .bl _, rfl, rfl, by simp [PyData.depth]⟩
      | 5, _ => exact ⟨_, _, rfl, .bl _, rfl, rfl, by simp [PyData.depth]⟩
      | 6, _ => exact ⟨_, _, rfl, .non, rfl, rfl, by simp [PyData.depth]⟩
      | 7, _ => exact ⟨_, _, rfl, .str _, rfl, rfl, by simp [PyData.depth]⟩
      | 8, _ => exact ⟨_, .tuple [.int 0], rfl, .tup (SqT.of g35) dt3 (.cons (.int 0) .nil), rfl, rfl, by decide⟩
    refine rd_ixL (v := x3) (SqL.of g45) (atI_nat ex3) ?_
    have e05 : Ext [st, r] H H5 := ((e1.trans e2).trans (Ext.same (s3.trans s4))).trans e5
    have e25 : Ext [st, r] H2 H5 := (Ext.same (s3.trans s4)).trans e5
    have e15 : Ext [st, r] H1 H5 := e2.trans e25
    have hq5 := e05.tup hq (nin_pr dp)
    walk_at "rq"
    rw [List.length_map]
    refine ⟨st, c, r, _, _, rfl, S5, by omega, by omega, by omega, fun v6 H6 a6 b6 S6 e6 => ?_⟩
    obtain ⟨j, rfl⟩ := Int.eq_ofNat_of_zero_le a6
    have hq6 := e6.tup hq5 (nin_pr dp)
    walk_at "rq"
    intro q7 H7 hq7a s7 hq7
    rw [cutV_take, ← List.map_take] at hq7
    walk_at "rq"
    refine ⟨sz (by simp), fun t8 H8 n8 s8 g8 => ?_⟩
    refine ⟨q7, t8, _, _, rfl, rfl, s8.tupS hq7, SqT.of g8, sz (by simp; omega), fun q9 H9 hq9a s9 hq9 => ?_⟩
    have hq9p := (s7.trans (s8.trans s9)).tupS hq6
    walk_at "rq"
    intro q10 H10 hq10a s10 hq10
    rw [cutV_drop, ← List.map_drop] at hq10
    refine ⟨q9, q10, _, _, rfl, rfl, s10.tupS hq9, hq10, sz (by simp; omega), fun q11 H11 hq11a s11 hq11 => ?_⟩
    have s611 : Same H6 H11 := s7.trans (s8.trans (s9.trans (s10.trans s11)))
    have S7 := S6.same s7
    have S8 := S7.same s8
    have S9 := S8.same s9
    have S10 := S9.same s10
    have S11 := S10.same s11
    have dq7 : q7 ∉ [st, c, r] := by
      rcases hq7a with rfl | h
      · exact dp
      · exact S6.new h
    have dt8 : t8 ∉ [st, c, r] := S7.new n8
    have dq9 : q9 ∉ [st, c, r] := by
      rcases hq9a with rfl | rfl | h
      · exact dq7
      · exact dt8
      · exact S8.new h
    have dq10 : q10 ∉ [st, c, r] := by
      rcases hq10a with rfl | h
      · exact dp
      · exact S9.new h
    have dq : q11 ∉ [st, c, r] := by
      rcases hq11a with rfl | rfl | h
      · exact dq9
      · exact dq10
      · exact S10.new h
    have e011 : Ext [st, r] H H11 := (e05.trans e6).trans (Ext.same s611)
    have e511 : Ext [st, r] H5 H11 := e6.trans (Ext.same s611)
    have hx3' := hx3.ext e511.up3
    have hx1' := hx1.ext (e15.trans e511).up3
    have hx2' := hx2.ext (e25.trans e511).up3
    have hask : ∀ {H' : Hp}, Ext [st, r] H11 H' → Asked K H' m (((as.take j).map V.int ++ [x3]) ++ (as.drop j).map V.int) (some x3) := fun e => ⟨as.take j, ho.take j, .inr ⟨x3, (as.drop j).map V.int, rfl, by simp, .inl ⟨_, d3, hx3'.ext e.up3, hw3⟩⟩⟩
    clear hq9 hq10 hq7 hq9p hq9a hq10a hq7a hq11a g8 n8 dq7 dq9 dq10 dt8 S7 S8 S9 S10 hx1 hx2 hx3
    generalize ((as.take j).map V.int ++ [x3]) ++ (as.drop j).map V.int = xs at hask hq11 ⊢
    have hp11 := e011.tup hq (nin_pr dp)
    walk_at "rq"
    refine ⟨sz (by simp), fun l12 H12 n12 s12 g12 => ?_⟩
    walk_at "rq"
    have S12 := S11.same s12
    have dl12 : l12 ∉ [st, c, r] := S11.new n12
    refine ⟨st, c, r, _, 2, rfl, S12, by omega, by decide, by decide, fun v13 H13 a13 b13 S13 e13 => ?_⟩
    obtain ⟨i13, rfl⟩ := Int.eq_ofNat_of_zero_le a13
    have g1213 := e13 _ _ g12 (nin_pr dl12)
    have e1113 : Ext [st, r] H11 H13 := (Ext.same s12).trans e13
    obtain ⟨z, dz, ez, hz⟩ : ∃ (z : V) (dz : PyData), ([V.int n, x2] : List V)[i13]? = some z ∧ Dt K [st, c, r] H13 z dz := by
      have hj : i13 < 2 := by omega
      match i13, hj with
      | 0, _ => exact ⟨_, _, rfl, .int _⟩
      | 1, _ => exact ⟨_, _, rfl, hx2'.ext e1113.up3⟩
    refine rd_ixL (v := z) (SqL.of g1213) (atI_nat ez) ?_
    walk_at "rq"
    refine ⟨sz (by simp), fun l14 H14 n14 s14 g14 => ?_⟩
    walk_at "rq"
    have e1114 : Ext [st, r] H11 H14 := e1113.trans (Ext.same s14)
    refine ⟨[st, c, r], l14, _, _, _, _, _, d1, dz, rfl, SqL.of g14, hx1'.ext e1114.up3, hz.ext (Ext.same s14), .inl ⟨rfl, hw1⟩, fun H15 s15 => ?_⟩
    walk_at "rq"
    refine ⟨sz (by simp), fun l16 H16 n16 s16 g16 => ?_⟩
    walk_at "rq"
    have e1116 : Ext [st, r] H11 H16 := e1114.trans (Ext.same (s15.trans s16))
    have wm : Mt.withinD 1 8 (.int m) = true := by simp [Mt.withinD]; omega
    refine ⟨[st, c, r], l16, _, _, _, _, _, .int m, d2, rfl, SqL.of g16, .int _, hx2'.ext e1116.up3, .inr (.inl ⟨rfl, wm, hw2⟩), fun H17 s17 => ?_⟩
    walk_at "rq"
    refine ⟨sz (by simp), fun l18 H18 n18 s18 g18 => ?_⟩
    walk_at "rq"
    have e1118 : Ext [st, r] H11 H18 := e1116.trans (Ext.same (s17.trans s18))
    refine ⟨[st, c, r], l18, _, _, _, _, _, .int m, .int n, rfl, SqL.of g18, .int _, .int _, .inr (.inr ⟨rfl, q11, xs, m, n, x3, _, d3, rfl, rfl, rfl, m1, m2, n1, n2, e1118.tup hq11 (nin_pr dq), hask e1118, hx3'.ext e1118.up3, hx3'.ext e1118.up3, ht3, hp3⟩), fun H19 s19 => ?_⟩
    have e1119 : Ext [st, r] H11 H19 := e1118.trans (Ext.same s19)
    have hp19 := e1119.tup hp11 (nin_pr dp)
    have S19 : Dk H19 st c r (k0 + 3 + 3 + 1 + 1 + 1) := S13.same (s14.trans (s15.trans (s16.trans (s17.trans (s18.trans s19)))))
    walk_at "rq"
    rw [List.length_map]
    refine rd_ite2 (fun hc => ?_) (fun hc => ?_)
    · walk_at "rq"
      exact k _ (S19.mono (by omega)) (e011.trans e1119)
    · have hl0 : 0 < as.length := by
        rcases Nat.eq_zero_or_pos as.length with h | h
        · rw [h] at hc; simp at hc
        · exact h
      walk_at "rq"
      rw [List.length_map]
      refine ⟨st, c, r, _, _, rfl, S19, by omega, by omega, by omega, fun v20 H20 a20 b20 S20 e20 => ?_⟩
      obtain ⟨i20, rfl⟩ := Int.eq_ofNat_of_zero_le a20
      have hi20 : i20 < as.length := by omega
      have hp20 := e20.tup hp19 (nin_pr dp)
      refine rd_ixT (v := .int as[i20]) hp20 (atI_nat (by simp [hi20])) ?_
      walk_at "rq"
      refine ⟨sz (by simp), fun t21 H21 n21 s21 g21 => ?_⟩
      refine ⟨p, t21, _, _, rfl, rfl, s21.tupS hp20, SqT.of g21, sz (by simp; omega), fun q22 H22 _ s22 hq22 => ?_⟩
      walk_at "rq"
      refine ⟨sz (by simp), fun l23 H23 n23 s23 g23 => ?_⟩
      walk_at "rq"
      refine ⟨[], l23, _, _, _, _, _, .int m, .int n, rfl, SqL.of g23, .int _, .int _, .inr (.inr ⟨rfl, q22, _, m, n, .int as[i20], [], .int as[i20], rfl, rfl, rfl, m1, m2, n1, n2, s23.tupS hq22, ⟨as, ho, .inr ⟨_, [.non], rfl, rfl, .inr ⟨_, rfl, List.getElem_mem hi20⟩⟩⟩, .int _, .int _, rfl, by simp [PyData.depth]⟩), fun H24 s24 => ?_⟩
      exact k _ ((S20.same (s21.trans (s22.trans (s23.trans s24)))).mono (by omega)) (((e011.trans e1119).trans e20).trans (Ext.same (s21.trans (s22.trans (s23.trans s24)))))

def sp_law (K : PySem.W.Frag) : Sp := fun vs H Q _ => ∃ (p : Addr) (ns : List Int), vs = [.ref p] ∧ SqL K H p (ns.map V.int) ∧ ns.length ≤ 63 ∧ ∀ H', Q (.bl true) H'
theorem ok_law (T : Txt P K mg a) (G__law_asked : FnOk P w K mg base CX0 2 a.f_law_asked a.d_law_asked ["_law_deck_here", "_law_many"] (sp_law_asked K)) (G__law_deck : FnOk P w K mg base CX0 1 a.f_law_deck a.d_law_deck ["_law_script"] (sp_law_deck K)) (G__law_same : FnOk P w K mg base CX0 3 a.f_law_same a.d_law_same ["_law_found", "_law_due"] (sp_law_same K)) (G__law_take : FnOk P w K mg base CX0 1 a.f_law_take a.d_law_take ["_law_deck_here", "_law_many"] (sp_law_take K)) (G__law_wrong : FnOk P w K mg base CX0 8 a.f_law_wrong a.d_law_wrong ["_law_deck_here", "_law_many", "_law_asked_here", "_law_wanted"] (sp_law_wrong K a)) (G_avoiding : FnOk P w K mg base (CX1 P w) 6 a.f_avoiding a.d_avoiding ["houses", "asked", "need"] (sp_avoiding K a)) : FnOk P w K mg base CX0 9 a.f_law a.d_law ["_law_script"] (sp_law K) := by
  refine T.F_law.ok sc_law (fun vs H Q E h => ?_) (fun cdv A outer s H vs Q E hr h => ?_)
  · obtain ⟨p, ns, rfl, _⟩ := h; rfl
  · obtain ⟨p, ns, rfl, hq, hl, k⟩ := h
    refine exW ⟨_, (qss_cons (qs_set (i := 1) sc_law.nd rfl (Or.inl rfl) (qe_call G__law_deck (hr.mono (by decide)) (by rfl) T.m__law_deck T.k__law_deck T.bd__law_deck .nil pass0 (qa (pv 0 (by rfl) (by walk_at "vis") (by decide) (by decide)) qa_nil (by rfl)) (by decide) (by rfl) (by rfl)) (by rfl) (by first | exact Or.inl rfl | exact Or.inr rfl))
      (qss_cons (qs_for PassesOwn.never rfl (qi_range1 (by rfl) T.b_range (qa pe_int qa_nil (by rfl)) (by rfl)) (pg_name (i := 2) sc_law.nd rfl (Or.inl rfl) (by first | exact Or.inl rfl | exact Or.inr rfl))
        (qss_cons (qs_set (i := 3) sc_law.nd rfl (Or.inl rfl) (pe_op op_add pe_int (qe_call G__law_take (hr.mono (by decide)) (by rfl) T.m__law_take T.k__law_take T.bd__law_take .nil pass0 (qa (pv 1 (by rfl) (by walk_at "vis") (by decide) (by decide)) (qa pe_int qa_nil (by rfl)) (by rfl)) (by decide) (by rfl) (by rfl))) (by rfl) (by first | exact Or.inl rfl | exact Or.inr rfl))
        (qss_cons (qs_set (i := 4) sc_law.nd rfl (Or.inr rfl) (qe_call G__law_asked (hr.mono (by decide)) (by rfl) T.m__law_asked T.k__law_asked T.bd__law_asked .nil pass0 (qa (pv 1 (by rfl) (by walk_at "vis") (by decide) (by decide)) (qa (pv 3 (by rfl) (by walk_at "vis") (by decide) (by decide)) qa_nil (by rfl)) (by rfl)) (by decide) (by rfl) (by rfl)) (by rfl) (by first | exact Or.inl rfl | exact Or.inr rfl))
        (qss_cons (qs_set (i := 5) sc_law.nd rfl (Or.inl rfl) (pe_op op_add pe_int (qe_call G__law_take (hr.mono (by decide)) (by rfl) T.m__law_take T.k__law_take T.bd__law_take .nil pass0 (qa (pv 1 (by rfl) (by walk_at "vis") (by decide) (by decide)) (qa pe_int qa_nil (by rfl)) (by rfl)) (by decide) (by rfl) (by rfl))) (by rfl) (by first | exact Or.inl rfl | exact Or.inr rfl))
        (qss_cons (by
        refine' qs_setComp (i := 6) (NC := ["_law_one", "_law_asked_here"]) (fr := [none, some 4]) sc_law.nd rfl (Or.inl rfl) ?B3 rfl ?hi3 ?hg3 ?ht3 ?he3 ?hsw3 (by intro _; rfl) (by first | exact Or.inl rfl | exact Or.inr rfl)
        case B3 => exact ⟨rfl, rfl, by decide +kernel, by decide +kernel, rfl, ⟨trivial, ⟨rfl, rfl, Or.inl rfl⟩, trivial⟩⟩
        case hi3 => exact (qi_range1 (by rfl) T.b_range (qa (pv 3 (by rfl) (by walk_at "vis") (by decide) (by decide)) qa_nil (by rfl)) (by rfl))
        case hg3 => intro _ _ _; exact (pg_name (i := 0) (show (["_law_one", "_law_asked_here"] : List Str).Nodup by decide +kernel) rfl (Or.inl rfl) (by first | exact Or.inl rfl | exact Or.inr rfl))
        case ht3 => intro _ _ _; exact (pf_one (pt_cmpR (on_notInK (K := K) (by rfl)) (pv 0 (by rfl) (by walk_at "vis") (by decide) (by decide)) (pv 1 (by rfl) (by walk_at "vis") (by decide) (by decide)) (by with_unfolding_all rfl)))
        case he3 => intro _ _ _; exact (pv 0 (by rfl) (by walk_at "vis") (by decide) (by decide))
        case hsw3 => rfl)
        (qss_cons (qs_set (i := 7) sc_law.nd rfl (Or.inl rfl) pe_non (by rfl) (by first | exact Or.inl rfl | exact Or.inr rfl))
        (qss_cons (qs_if (pt_cmpR op_ge (qe_callB cn_len (by rfl) T.b_len (by decide +kernel) (qa (pv 6 (by rfl) (by walk_at "vis") (by decide) (by decide)) qa_nil (by rfl)) (by decide) (by decide) (by rfl) (by rfl)) (pv 5 (by rfl) (by walk_at "vis") (by decide) (by decide)) (nomark _))
          (qss_one (qs_set (i := 7) sc_law.nd rfl (Or.inl rfl) (qe_callTy (cn_tupleA (K := K) (by rfl)) (by rfl) T.b_tuple (by decide +kernel) (qa (pe_slice (sl_listA (K := K) (by rfl)) (pv 6 (by rfl) (by walk_at "vis") (by decide) (by decide)) po_none (po_some (pv 5 (by rfl) (by walk_at "vis") (by decide) (by decide)))) qa_nil (by rfl)) (by decide) (by decide) (by rfl) (by rfl)) (by rfl) (by first | exact Or.inl rfl | exact Or.inr rfl)))
          qss_nil)
        (qss_one (qs_if (pw_or (pt_not (pt_val (qe_call G__law_same (hr.mono (by decide)) (by rfl) T.m__law_same T.k__law_same T.bd__law_same .nil pass0 (qa (qe_callX G_avoiding (hr.mono (by decide)) (by rfl) T.m_avoiding T.k_avoiding T.bd_avoiding .nil px0 (qa (pv 3 (by rfl) (by walk_at "vis") (by decide) (by decide)) (qa (pv 4 (by rfl) (by walk_at "vis") (by decide) (by decide)) (qa (pv 5 (by rfl) (by walk_at "vis") (by decide) (by decide)) qa_nil (by rfl)) (by rfl)) (by rfl)) (by decide) (by rfl) (by rfl)) (qa (pv 7 (by rfl) (by walk_at "vis") (by decide) (by decide)) qa_nil (by rfl)) (by rfl)) (by decide) (by rfl) (by rfl)) (by intro _; rfl))) (pw_or1 (pt_not (pt_val (qe_call G__law_wrong (hr.mono (by decide)) (by rfl) T.m__law_wrong T.k__law_wrong T.bd__law_wrong .nil pass0 (qa (pv 1 (by rfl) (by walk_at "vis") (by decide) (by decide)) (qa (pv 3 (by rfl) (by walk_at "vis") (by decide) (by decide)) (qa (pv 4 (by rfl) (by walk_at "vis") (by decide) (by decide)) (qa (pv 5 (by rfl) (by walk_at "vis") (by decide) (by decide)) qa_nil (by rfl)) (by rfl)) (by rfl)) (by rfl)) (by decide) (by rfl) (by rfl)) (by intro _; rfl))))).pt
          (qss_one (qs_ret pe_bl))
          qss_nil)))))))) (by intro _; rfl))
      (qss_one (qs_ret (pe_and (qe_call G__law_same (hr.mono (by decide)) (by rfl) T.m__law_same T.k__law_same T.bd__law_same .nil pass0 (qa (qe_callX G_avoiding (hr.mono (by decide)) (by rfl) T.m_avoiding T.k_avoiding T.bd_avoiding .nil px0 (qa pe_int (qa (qe_tupA qa_nil) (qa pe_int qa_nil (by rfl)) (by rfl)) (by rfl)) (by decide) (by rfl) (by rfl)) (qa (qe_tupA (qa pe_int (qa pe_int (qa pe_int (qa pe_int (qa pe_int (qa pe_int (qa pe_int (qa pe_int qa_nil (by rfl)) (by rfl)) (by rfl)) (by rfl)) (by rfl)) (by rfl)) (by rfl)) (by rfl))) qa_nil (by rfl)) (by rfl)) (by decide) (by rfl) (by rfl)) (pe_one (pe_cmpR on_isN (qe_callX G_avoiding (hr.mono (by decide)) (by rfl) T.m_avoiding T.k_avoiding T.bd_avoiding .nil px0 (qa pe_int (qa (qe_tupA (qa pe_int qa_nil (by rfl))) (qa pe_int qa_nil (by rfl)) (by rfl)) (by rfl)) (by decide) (by rfl) (by rfl)) pe_non (nomark _)))))))), ?_⟩
    try dsimp only [cxOf]
    walk_at "rq"
    refine ⟨p, ns, rfl, hq, hl, fun st c r H1 S1 s1 n1 => ?_⟩
    walk_at "rq"
    refine ⟨by decide, by decide, ?_⟩
    refine for_rangeW (fun i σ' H' => ∃ o2 o3 o4 o5 o6 o7 : Option V, σ' = [some (.ref p), some (.ref st), o2, o3, o4, o5, o6, o7] ∧ Dk H' st c r (100 * i)) ?_ ?_ ?_
    · exact ⟨none, none, none, none, none, none, rfl, S1⟩
    · rintro i σ' H8 hi ⟨o2, o3, o4, o5, o6, o7, rfl, S8⟩
      have hi4 : i < 8 := hi
      walk_at "rq"
      refine ⟨st, c, r, _, 8, rfl, S8, by omega, by decide, by decide, fun u1 H9 a1 b1 S9 x9 => ?_⟩
      walk_at "rq"
      obtain ⟨m, rfl⟩ := Int.eq_ofNat_of_zero_le a1
      rw [show (1 : Int) + (m : Int) = ((1 + m : Nat) : Int) by omega]
      refine ⟨st, c, r, _, 1 + m, rfl, S9, by omega, by omega, by omega, fun q as H10 ho hq10 dq nq S10 x10 => ?_⟩
      walk_at "rq"
      refine ⟨st, c, r, _, 8, rfl, S10, by omega, by decide, by decide, fun u2 H11 a2 b2 S11 x11 => ?_⟩
      walk_at "rq"
      obtain ⟨n, rfl⟩ := Int.eq_ofNat_of_zero_le a2
      rw [show (1 : Int) + (n : Int) = ((1 + n : Nat) : Int) by omega]
      generalize hm' : 1 + m = mm
      generalize hn' : 1 + n = nn
      have m1 : 1 ≤ mm := by omega
      have m2 : mm ≤ 8 := by omega
      have n1 : 1 ≤ nn := by omega
      have n2 : nn ≤ 8 := by omega
      subst hm' hn'
      refine ⟨by omega, by omega, fun acc na ka => ?_⟩
      have e0 : ((1 + m : Nat) : Int).toNat = 1 + m := Int.toNat_natCast _
      rw [e0]
      have hq11 : SqT K H11 q (as.map V.int) := x11.tup hq10 (nin_pr dq)
      refine comp_byF (1 + m) (small1000 (by omega)) (fun i vs σc H' => Same H11 H' ∧ (∃ o, σc = [o, some (.ref q)]) ∧ vs = (Mt.freeL i as).map V.int) ?_ ?_ ?_
      · exact ⟨Same.upd na, ⟨none, rfl⟩, rfl⟩
      · rintro i vs σc H' hi hl ha ⟨sm, ⟨o, rfl⟩, rfl⟩
        refine ⟨hi, ?_⟩
        rintro x H2 ⟨rfl, rfl⟩ R S hR hS
        have hq2 := sm.tupS hq11
        walk_at "rq"
        refine rd_notInT hq2 rfl (flat_ints _) ?_
        rw [inV_ints]
        have ez : (0 : Int) + (i : Int) = i := by omega
        rw [ez]
        by_cases hm : (i : Int) ∈ as
        · rw [decide_eq_true hm]
          walk_at "rq"
          refine hS _ _ ha ⟨sm, ⟨_, rfl⟩, ?_⟩
          rw [Mt.freeL_succ, if_pos hm, List.append_nil]
        · rw [decide_eq_false hm]
          walk_at "rq"
          refine hR _ _ _ ha ⟨fun b u e => ?_, ⟨_, rfl⟩, ?_⟩
          · rw [upd_ne (ne_of_none e na)]; exact sm b u e
          · rw [Mt.freeL_succ, if_neg hm, List.map_append]; rfl
      · rintro vs σc H12 hl ha ⟨sm, _, rfl⟩
        refine ⟨Nat.le_refl _, ?_⟩
        have hL : SqL K H12 acc ((Mt.freeL (1 + m) as).map V.int) := SqL.of ha
        walk_at "rq"
        rw [List.length_map]
        have fin : ∀ {H13 : Hp}, Same H11 H13 → ∀ (QQ : VK), (∀ H14, Dk H14 st c r (100 * (i + 1)) → QQ (.bl true) H14) → sp_law_wrong K a ([.ref st, .int ((1 + m : Nat) : Int), .ref q, .int ((1 + n : Nat) : Int)] ++ []) H13 QQ E0 := fun s QQ kk =>
          ⟨st, c, r, _, q, as, 1 + m, 1 + n, rfl, S11.same s, by omega, s.tupS hq11, dq, ho, m1, m2, n1, n2, fun H14 S14 _ => kk H14 (S14.mono (by omega))⟩
        refine rd_ite2 (fun hc => ?_) (fun hc => ?_)
        · have hge : 1 + n ≤ (Mt.freeL (1 + m) as).length := by have := of_decide_eq_true hc; omega
          walk_at "rq"
          intro l2 H13 nl2 s13 g13
          rw [cutV_take, ← List.map_take] at g13
          refine rd_nil ?_
          refine rd_tupleAL (SqL.of g13) fun l3 H14 _ s14 hq14 => ?_
          walk_at "rq"
          have s1114 : Same H11 H14 := sm.trans (s13.trans s14)
          refine ⟨[], _, _, _, .int _, .int _, rfl, .int _, .int _, .inr (.inr (.inr ⟨q, as, 1 + m, 1 + n, rfl, rfl, rfl, m1, m2, n1, n2, s1114.tupS hq11, ho, fun _ q15 H15 _ s15 hq15 => ?_, fun z => by omega⟩))⟩
          walk_at "rq"
          refine ⟨[], _, _, .tuple (((Mt.freeL (1 + m) as).take (1 + n)).map PyData.int), rfl, .tup hq15 (by simp) (Mt.dtInts _), .tup (s15.tupS hq14) (by simp) (Mt.dtInts _), Mt.tupB_ints _, by show PyData.depthAll _ + 1 < 3; rw [depthL]; decide, fun H16 s16 => ?_⟩
          walk_at "rq"
          refine fin (s1114.trans (s15.trans s16)) _ fun H17 S17 => ?_
          walk_at "rq"
          exact ⟨_, _, _, _, _, _, rfl, S17⟩
        · have hlt : (Mt.freeL (1 + m) as).length < 1 + n := by have := of_decide_eq_false hc; omega
          walk_at "rq"
          refine ⟨[], _, _, _, .int _, .int _, rfl, .int _, .int _, .inr (.inr (.inr ⟨q, as, 1 + m, 1 + n, rfl, rfl, rfl, m1, m2, n1, n2, sm.tupS hq11, ho, fun z => by omega, fun _ H15 s15 => ?_⟩))⟩
          walk_at "rq"
          refine ⟨[], _, _, .none, rfl, .non, .non, rfl, by decide, fun H16 s16 => ?_⟩
          walk_at "rq"
          refine fin (sm.trans (s15.trans s16)) _ fun H17 S17 => ?_
          walk_at "rq"
          exact ⟨_, _, _, _, _, _, rfl, S17⟩
    · rintro σ' H8 ⟨o2, o3, o4, o5, o6, o7, rfl, S8⟩
      walk_at "rq"
      refine ⟨sz (by simp), fun t9 H9 n9 s9 g9 => ?_⟩
      walk_at "rq"
      have f8 : Mt.freeL 8 [] = [0, 1, 2, 3, 4, 5, 6, 7] := by decide +kernel
      refine ⟨[], _, _, _, .int 8, .int 8, rfl, .int _, .int _, .inr (.inr (.inr ⟨t9, [], 8, 8, rfl, rfl, rfl, by decide, by decide, by decide, by decide, SqT.of g9, ⟨List.nodup_nil, fun a ha => by cases ha⟩, fun _ q10 H10 _ s10 hq10 => ?_, fun z => by rw [f8] at z; simp at z⟩))⟩
      rw [f8] at hq10
      walk_at "rq"
      refine ⟨sz (by simp), fun t11 H11 n11 s11 g11 => ?_⟩
      walk_at "rq"
      refine ⟨[], _, _, .tuple ([0, 1, 2, 3, 4, 5, 6, 7].map PyData.int), rfl, .tup (s11.tupS hq10) (by simp) (Mt.dtInts _), .tup (SqT.of g11) (by simp) (Mt.dtInts [0, 1, 2, 3, 4, 5, 6, 7]), Mt.tupB_ints _, by decide, fun H12 s12 => ?_⟩
      walk_at "rq"
      refine ⟨sz (by simp), fun t13 H13 n13 s13 g13 => ?_⟩
      walk_at "rq"
      refine ⟨[], _, _, _, .int 1, .int 1, rfl, .int _, .int _, .inr (.inr (.inr ⟨t13, [0], 1, 1, rfl, rfl, rfl, by decide, by decide, by decide, by decide, SqT.of g13, ⟨by decide, fun a ha => by simp at ha; subst ha; decide⟩, fun z => absurd z (by decide +kernel), fun _ H14 s14 => ?_⟩))⟩
      walk_at "rq"
      exact k _

end
theorem txt_mk {P : Program} {K : PySem.W.Frag} {h : Heap} {mg : Str → Option Value} (X : K.In h) (G : h.Ns mainGlobals mg)
    {f_is_number : Addr} {od_is_number an_is_number : Option Addr} {sl_is_number : Array (Option Value)} {oc_is_number kV_is_number dc_is_number pm_is_number cd_is_number ct_is_number : Value}
    {f_is_within : Addr} {od_is_within an_is_within : Option Addr} {sl_is_within : Array (Option Value)} {oc_is_within kV_is_within dc_is_within pm_is_within cd_is_within ct_is_within : Value}
    {f_require_within : Addr} {od_require_within an_require_within : Option Addr} {sl_require_within : Array (Option Value)} {oc_require_within kV_require_within dc_require_within pm_require_within cd_require_within ct_require_within : Value}
    {f_is_house : Addr} {od_is_house an_is_house : Option Addr} {sl_is_house : Array (Option Value)} {oc_is_house kV_is_house dc_is_house pm_is_house cd_is_house ct_is_house : Value}
    {f_require_house : Addr} {od_require_house an_require_house : Option Addr} {sl_require_house : Array (Option Value)} {oc_require_house kV_require_house dc_require_house pm_require_house cd_require_house ct_require_house : Value}
    {f_require_asked : Addr} {od_require_asked an_require_asked : Option Addr} {sl_require_asked : Array (Option Value)} {oc_require_asked kV_require_asked dc_require_asked pm_require_asked cd_require_asked ct_require_asked : Value}
    {f_avoiding : Addr} {od_avoiding an_avoiding : Option Addr} {sl_avoiding : Array (Option Value)} {oc_avoiding kV_avoiding dc_avoiding pm_avoiding cd_avoiding ct_avoiding : Value}
    {f_law_deck : Addr} {od_law_deck an_law_deck : Option Addr} {sl_law_deck : Array (Option Value)} {oc_law_deck kV_law_deck dc_law_deck pm_law_deck cd_law_deck ct_law_deck : Value}
    {f_law_take : Addr} {od_law_take an_law_take : Option Addr} {sl_law_take : Array (Option Value)} {oc_law_take kV_law_take dc_law_take pm_law_take cd_law_take ct_law_take : Value}
    {f_law_same : Addr} {od_law_same an_law_same : Option Addr} {sl_law_same : Array (Option Value)} {oc_law_same kV_law_same dc_law_same pm_law_same cd_law_same ct_law_same : Value}
    {f_law_asked : Addr} {od_law_asked an_law_asked : Option Addr} {sl_law_asked : Array (Option Value)} {oc_law_asked kV_law_asked dc_law_asked pm_law_asked cd_law_asked ct_law_asked : Value}
    {f_law_odd : Addr} {od_law_odd an_law_odd : Option Addr} {sl_law_odd : Array (Option Value)} {oc_law_odd kV_law_odd dc_law_odd pm_law_odd cd_law_odd ct_law_odd : Value}
    {f_law_refused : Addr} {od_law_refused an_law_refused : Option Addr} {sl_law_refused : Array (Option Value)} {oc_law_refused kV_law_refused dc_law_refused pm_law_refused cd_law_refused ct_law_refused : Value}
    {f_law_wrong : Addr} {od_law_wrong an_law_wrong : Option Addr} {sl_law_wrong : Array (Option Value)} {oc_law_wrong kV_law_wrong dc_law_wrong pm_law_wrong cd_law_wrong ct_law_wrong : Value}
    {f_law : Addr} {od_law an_law : Option Addr} {sl_law : Array (Option Value)} {oc_law kV_law dc_law pm_law cd_law ct_law : Value}
    {C_LineError : Addr}
    {C_NoCount : Addr}
    {C_NoHouse : Addr}
    {C_NoPlace : Addr}
    {C_NoRow : Addr}
    {C_NoRule : Addr}
    {I_NoCount cda_NoCount cc_NoCount : Addr} {oJ_NoCount aJ_NoCount oK_NoCount oL_NoCount : Option Addr} {sJ_NoCount sK_NoCount sL_NoCount : Array (Option Value)} {kJ_NoCount dJ_NoCount pJ_NoCount tJ_NoCount cK_NoCount cL_NoCount : Value} {vK_NoCount : Array Value} {fi_NoCount : Str} {ti_NoCount : Tok}
    {I_NoHouse cda_NoHouse cc_NoHouse : Addr} {oJ_NoHouse aJ_NoHouse oK_NoHouse oL_NoHouse : Option Addr} {sJ_NoHouse sK_NoHouse sL_NoHouse : Array (Option Value)} {kJ_NoHouse dJ_NoHouse pJ_NoHouse tJ_NoHouse cK_NoHouse cL_NoHouse : Value} {vK_NoHouse : Array Value} {fi_NoHouse : Str} {ti_NoHouse : Tok}
    {u_HOUSES : Value}
    (a_is_number : PySem.W.nsIn K mainGlobals "is_number" = some (some (.ref f_is_number)))
    (l_is_number : K.lookup f_is_number = some ⟨oc_is_number, od_is_number, .func (PySem.W.fnOf "is_number" "is_number" (defArgs s_is_number) (defBody s_is_number) (defScope s_is_number) .none kV_is_number dc_is_number pm_is_number an_is_number cd_is_number ct_is_number), sl_is_number⟩)
    (c_is_number : PySem.W.codeIn K cd_is_number "is_number" = true)
    (k_is_number : PySem.W.keepIn K (.ref f_is_number) = true)
    (a_is_within : PySem.W.nsIn K mainGlobals "is_within" = some (some (.ref f_is_within)))
    (l_is_within : K.lookup f_is_within = some ⟨oc_is_within, od_is_within, .func (PySem.W.fnOf "is_within" "is_within" (defArgs s_is_within) (defBody s_is_within) (defScope s_is_within) .none kV_is_within dc_is_within pm_is_within an_is_within cd_is_within ct_is_within), sl_is_within⟩)
    (c_is_within : PySem.W.codeIn K cd_is_within "is_within" = true)
    (k_is_within : PySem.W.keepIn K (.ref f_is_within) = true)
    (a_require_within : PySem.W.nsIn K mainGlobals "require_within" = some (some (.ref f_require_within)))
    (l_require_within : K.lookup f_require_within = some ⟨oc_require_within, od_require_within, .func (PySem.W.fnOf "require_within" "require_within" (defArgs s_require_within) (defBody s_require_within) (defScope s_require_within) .none kV_require_within dc_require_within pm_require_within an_require_within cd_require_within ct_require_within), sl_require_within⟩)
    (c_require_within : PySem.W.codeIn K cd_require_within "require_within" = true)
    (k_require_within : PySem.W.keepIn K (.ref f_require_within) = true)
    (a_is_house : PySem.W.nsIn K mainGlobals "is_house" = some (some (.ref f_is_house)))
    (l_is_house : K.lookup f_is_house = some ⟨oc_is_house, od_is_house, .func (PySem.W.fnOf "is_house" "is_house" (defArgs s_is_house) (defBody s_is_house) (defScope s_is_house) .none kV_is_house dc_is_house pm_is_house an_is_house cd_is_house ct_is_house), sl_is_house⟩)
    (c_is_house : PySem.W.codeIn K cd_is_house "is_house" = true)
    (k_is_house : PySem.W.keepIn K (.ref f_is_house) = true)
    (a_require_house : PySem.W.nsIn K mainGlobals "require_house" = some (some (.ref f_require_house)))
    (l_require_house : K.lookup f_require_house = some ⟨oc_require_house, od_require_house, .func (PySem.W.fnOf "require_house" "require_house" (defArgs s_require_house) (defBody s_require_house) (defScope s_require_house) .none kV_require_house dc_require_house pm_require_house an_require_house cd_require_house ct_require_house), sl_require_house⟩)
    (c_require_house : PySem.W.codeIn K cd_require_house "require_house" = true)
    (k_require_house : PySem.W.keepIn K (.ref f_require_house) = true)
    (a_require_asked : PySem.W.nsIn K mainGlobals "require_asked" = some (some (.ref f_require_asked)))
    (l_require_asked : K.lookup f_require_asked = some ⟨oc_require_asked, od_require_asked, .func (PySem.W.fnOf "require_asked" "require_asked" (defArgs s_require_asked) (defBody s_require_asked) (defScope s_require_asked) .none kV_require_asked dc_require_asked pm_require_asked an_require_asked cd_require_asked ct_require_asked), sl_require_asked⟩)
    (c_require_asked : PySem.W.codeIn K cd_require_asked "require_asked" = true)
    (k_require_asked : PySem.W.keepIn K (.ref f_require_asked) = true)
    (a_avoiding : PySem.W.nsIn K mainGlobals "avoiding" = some (some (.ref f_avoiding)))
    (l_avoiding : K.lookup f_avoiding = some ⟨oc_avoiding, od_avoiding, .func (PySem.W.fnOf "avoiding" "avoiding" (defArgs s_avoiding) (defBody s_avoiding) (defScope s_avoiding) .none kV_avoiding dc_avoiding pm_avoiding an_avoiding cd_avoiding ct_avoiding), sl_avoiding⟩)
    (c_avoiding : PySem.W.codeIn K cd_avoiding "avoiding" = true)
    (k_avoiding : PySem.W.keepIn K (.ref f_avoiding) = true)
    (a_law_deck : PySem.W.nsIn K mainGlobals "_law_deck" = some (some (.ref f_law_deck)))
    (l_law_deck : K.lookup f_law_deck = some ⟨oc_law_deck, od_law_deck, .func (PySem.W.fnOf "_law_deck" "_law_deck" (defArgs s_law_deck) (defBody s_law_deck) (defScope s_law_deck) .none kV_law_deck dc_law_deck pm_law_deck an_law_deck cd_law_deck ct_law_deck), sl_law_deck⟩)
    (c_law_deck : PySem.W.codeIn K cd_law_deck "_law_deck" = true)
    (k_law_deck : PySem.W.keepIn K (.ref f_law_deck) = true)
    (a_law_take : PySem.W.nsIn K mainGlobals "_law_take" = some (some (.ref f_law_take)))
    (l_law_take : K.lookup f_law_take = some ⟨oc_law_take, od_law_take, .func (PySem.W.fnOf "_law_take" "_law_take" (defArgs s_law_take) (defBody s_law_take) (defScope s_law_take) .none kV_law_take dc_law_take pm_law_take an_law_take cd_law_take ct_law_take), sl_law_take⟩)
    (c_law_take : PySem.W.codeIn K cd_law_take "_law_take" = true)
    (k_law_take : PySem.W.keepIn K (.ref f_law_take) = true)
    (a_law_same : PySem.W.nsIn K mainGlobals "_law_same" = some (some (.ref f_law_same)))
    (l_law_same : K.lookup f_law_same = some ⟨oc_law_same, od_law_same, .func (PySem.W.fnOf "_law_same" "_law_same" (defArgs s_law_same) (defBody s_law_same) (defScope s_law_same) .none kV_law_same dc_law_same pm_law_same an_law_same cd_law_same ct_law_same), sl_law_same⟩)
    (c_law_same : PySem.W.codeIn K cd_law_same "_law_same" = true)
    (k_law_same : PySem.W.keepIn K (.ref f_law_same) = true)
    (a_law_asked : PySem.W.nsIn K mainGlobals "_law_asked" = some (some (.ref f_law_asked)))
    (l_law_asked : K.lookup f_law_asked = some ⟨oc_law_asked, od_law_asked, .func (PySem.W.fnOf "_law_asked" "_law_asked" (defArgs s_law_asked) (defBody s_law_asked) (defScope s_law_asked) .none kV_law_asked dc_law_asked pm_law_asked an_law_asked cd_law_asked ct_law_asked), sl_law_asked⟩)
    (c_law_asked : PySem.W.codeIn K cd_law_asked "_law_asked" = true)
    (k_law_asked : PySem.W.keepIn K (.ref f_law_asked) = true)
    (a_law_odd : PySem.W.nsIn K mainGlobals "_law_odd" = some (some (.ref f_law_odd)))
    (l_law_odd : K.lookup f_law_odd = some ⟨oc_law_odd, od_law_odd, .func (PySem.W.fnOf "_law_odd" "_law_odd" (defArgs s_law_odd) (defBody s_law_odd) (defScope s_law_odd) .none kV_law_odd dc_law_odd pm_law_odd an_law_odd cd_law_odd ct_law_odd), sl_law_odd⟩)
    (c_law_odd : PySem.W.codeIn K cd_law_odd "_law_odd" = true)
    (k_law_odd : PySem.W.keepIn K (.ref f_law_odd) = true)
    (a_law_refused : PySem.W.nsIn K mainGlobals "_law_refused" = some (some (.ref f_law_refused)))
    (l_law_refused : K.lookup f_law_refused = some ⟨oc_law_refused, od_law_refused, .func (PySem.W.fnOf "_law_refused" "_law_refused" (defArgs s_law_refused) (defBody s_law_refused) (defScope s_law_refused) .none kV_law_refused dc_law_refused pm_law_refused an_law_refused cd_law_refused ct_law_refused), sl_law_refused⟩)
    (c_law_refused : PySem.W.codeIn K cd_law_refused "_law_refused" = true)
    (k_law_refused : PySem.W.keepIn K (.ref f_law_refused) = true)
    (a_law_wrong : PySem.W.nsIn K mainGlobals "_law_wrong" = some (some (.ref f_law_wrong)))
    (l_law_wrong : K.lookup f_law_wrong = some ⟨oc_law_wrong, od_law_wrong, .func (PySem.W.fnOf "_law_wrong" "_law_wrong" (defArgs s_law_wrong) (defBody s_law_wrong) (defScope s_law_wrong) .none kV_law_wrong dc_law_wrong pm_law_wrong an_law_wrong cd_law_wrong ct_law_wrong), sl_law_wrong⟩)
    (c_law_wrong : PySem.W.codeIn K cd_law_wrong "_law_wrong" = true)
    (k_law_wrong : PySem.W.keepIn K (.ref f_law_wrong) = true)
    (a_law : PySem.W.nsIn K mainGlobals "law" = some (some (.ref f_law)))
    (l_law : K.lookup f_law = some ⟨oc_law, od_law, .func (PySem.W.fnOf "law" "law" (defArgs s_law) (defBody s_law) (defScope s_law) .none kV_law dc_law pm_law an_law cd_law ct_law), sl_law⟩)
    (c_law : PySem.W.codeIn K cd_law "law" = true)
    (k_law : PySem.W.keepIn K (.ref f_law) = true)
    (z_ValueError : PySem.W.nsIn K mainGlobals "ValueError" = some none)
    (z_bool : PySem.W.nsIn K mainGlobals "bool" = some none)
    (z_enumerate : PySem.W.nsIn K mainGlobals "enumerate" = some none)
    (z_int : PySem.W.nsIn K mainGlobals "int" = some none)
    (z_isinstance : PySem.W.nsIn K mainGlobals "isinstance" = some none)
    (z_len : PySem.W.nsIn K mainGlobals "len" = some none)
    (z_list : PySem.W.nsIn K mainGlobals "list" = some none)
    (z_range : PySem.W.nsIn K mainGlobals "range" = some none)
    (z_str : PySem.W.nsIn K mainGlobals "str" = some none)
    (z_tuple : PySem.W.nsIn K mainGlobals "tuple" = some none)
    (z_zip : PySem.W.nsIn K mainGlobals "zip" = some none)
    (vC_LineError : PySem.W.nsIn K mainGlobals "LineError" = some (some (.ref C_LineError)))
    (vC_NoCount : PySem.W.nsIn K mainGlobals "NoCount" = some (some (.ref C_NoCount)))
    (vC_NoHouse : PySem.W.nsIn K mainGlobals "NoHouse" = some (some (.ref C_NoHouse)))
    (vC_NoPlace : PySem.W.nsIn K mainGlobals "NoPlace" = some (some (.ref C_NoPlace)))
    (vC_NoRow : PySem.W.nsIn K mainGlobals "NoRow" = some (some (.ref C_NoRow)))
    (vC_NoRule : PySem.W.nsIn K mainGlobals "NoRule" = some (some (.ref C_NoRule)))
    (zsu : PySem.W.nsIn K mainGlobals "super" = some none)
    (ztp : (P.main.scope.names.lookup ("super" : Str)).isSome = false)
    (fI_NoCount : PySem.W.findIn K (.ref C_NoCount) "__init__" = some (some (.ref I_NoCount)))
    (lI_NoCount : K.lookup I_NoCount = some ⟨.type "function", oJ_NoCount, .func (PySem.W.ksFn "__init__" "NoCount.__init__" (defArgs t_NoCount) (defBody t_NoCount) (defScope t_NoCount) .none kJ_NoCount dJ_NoCount pJ_NoCount aJ_NoCount (.ref cda_NoCount) tJ_NoCount cc_NoCount), sJ_NoCount⟩)
    (cI_NoCount : PySem.W.codeIn K (.ref cda_NoCount) "NoCount.__init__" = true)
    (hI_NoCount : K.lookup cda_NoCount = some ⟨cK_NoCount, oK_NoCount, .fields vK_NoCount, sK_NoCount⟩)
    (vI_NoCount : vK_NoCount[2]? = some (.str fi_NoCount ti_NoCount))
    (eI_NoCount : ((P.main.file : Str) == fi_NoCount) = true)
    (gI_NoCount : K.lookup cc_NoCount = some ⟨cL_NoCount, oL_NoCount, .cell (some (.ref C_NoCount)), sL_NoCount⟩)
    (xk_NoCount : xk1In K C_NoCount C_LineError "what" = true)
    (xi_NoCount : xcIn K C_NoCount (some (.ref I_NoCount)) = true)
    (kC_NoCount : PySem.W.keepIn K (.ref C_NoCount) = true)
    (fI_NoHouse : PySem.W.findIn K (.ref C_NoHouse) "__init__" = some (some (.ref I_NoHouse)))
    (lI_NoHouse : K.lookup I_NoHouse = some ⟨.type "function", oJ_NoHouse, .func (PySem.W.ksFn "__init__" "NoHouse.__init__" (defArgs t_NoHouse) (defBody t_NoHouse) (defScope t_NoHouse) .none kJ_NoHouse dJ_NoHouse pJ_NoHouse aJ_NoHouse (.ref cda_NoHouse) tJ_NoHouse cc_NoHouse), sJ_NoHouse⟩)
    (cI_NoHouse : PySem.W.codeIn K (.ref cda_NoHouse) "NoHouse.__init__" = true)
    (hI_NoHouse : K.lookup cda_NoHouse = some ⟨cK_NoHouse, oK_NoHouse, .fields vK_NoHouse, sK_NoHouse⟩)
    (vI_NoHouse : vK_NoHouse[2]? = some (.str fi_NoHouse ti_NoHouse))
    (eI_NoHouse : ((P.main.file : Str) == fi_NoHouse) = true)
    (gI_NoHouse : K.lookup cc_NoHouse = some ⟨cL_NoHouse, oL_NoHouse, .cell (some (.ref C_NoHouse)), sL_NoHouse⟩)
    (xk_NoHouse : xk1In K C_NoHouse C_LineError "house" = true)
    (xi_NoHouse : xcIn K C_NoHouse (some (.ref I_NoHouse)) = true)
    (kC_NoHouse : PySem.W.keepIn K (.ref C_NoHouse) = true)
    (xg_NoCount : xgIn K C_NoCount = true)
    (ex_NoCount_LineError : PySem.W.exmOne K (.ref C_NoCount) (.ref C_LineError) = some true)
    (is_NoCount_NoCount : PySem.W.kitOne K (.ref C_NoCount) (.ref C_NoCount) = some true)
    (is_NoCount_NoHouse : PySem.W.kitOne K (.ref C_NoCount) (.ref C_NoHouse) = some false)
    (is_NoCount_NoPlace : PySem.W.kitOne K (.ref C_NoCount) (.ref C_NoPlace) = some false)
    (is_NoCount_NoRow : PySem.W.kitOne K (.ref C_NoCount) (.ref C_NoRow) = some false)
    (is_NoCount_NoRule : PySem.W.kitOne K (.ref C_NoCount) (.ref C_NoRule) = some false)
    (is_NoCount_ValueError : PySem.W.kitOne K (.ref C_NoCount) (.type "ValueError") = some true)
    (xg_NoHouse : xgIn K C_NoHouse = true)
    (ex_NoHouse_LineError : PySem.W.exmOne K (.ref C_NoHouse) (.ref C_LineError) = some true)
    (is_NoHouse_NoCount : PySem.W.kitOne K (.ref C_NoHouse) (.ref C_NoCount) = some false)
    (is_NoHouse_NoHouse : PySem.W.kitOne K (.ref C_NoHouse) (.ref C_NoHouse) = some true)
    (is_NoHouse_NoPlace : PySem.W.kitOne K (.ref C_NoHouse) (.ref C_NoPlace) = some false)
    (is_NoHouse_NoRow : PySem.W.kitOne K (.ref C_NoHouse) (.ref C_NoRow) = some false)
    (is_NoHouse_NoRule : PySem.W.kitOne K (.ref C_NoHouse) (.ref C_NoRule) = some false)
    (is_NoHouse_ValueError : PySem.W.kitOne K (.ref C_NoHouse) (.type "ValueError") = some true)
    (v_HOUSES : PySem.W.nsIn K mainGlobals "HOUSES" = some (some u_HOUSES))
    (r_HOUSES : RelV (.int 8) u_HOUSES) :
    ∃ a, Txt P K mg a := by
  exact ⟨⟨f_is_number, PySem.W.fnOf "is_number" "is_number" (defArgs s_is_number) (defBody s_is_number) (defScope s_is_number) .none kV_is_number dc_is_number pm_is_number an_is_number cd_is_number ct_is_number, f_is_within, PySem.W.fnOf "is_within" "is_within" (defArgs s_is_within) (defBody s_is_within) (defScope s_is_within) .none kV_is_within dc_is_within pm_is_within an_is_within cd_is_within ct_is_within, f_require_within, PySem.W.fnOf "require_within" "require_within" (defArgs s_require_within) (defBody s_require_within) (defScope s_require_within) .none kV_require_within dc_require_within pm_require_within an_require_within cd_require_within ct_require_within, f_is_house, PySem.W.fnOf "is_house" "is_house" (defArgs s_is_house) (defBody s_is_house) (defScope s_is_house) .none kV_is_house dc_is_house pm_is_house an_is_house cd_is_house ct_is_house, f_require_house, PySem.W.fnOf "require_house" "require_house" (defArgs s_require_house) (defBody s_require_house) (defScope s_require_house) .none kV_require_house dc_require_house pm_require_house an_require_house cd_require_house ct_require_house, f_require_asked, PySem.W.fnOf "require_asked" "require_asked" (defArgs s_require_asked) (defBody s_require_asked) (defScope s_require_asked) .none kV_require_asked dc_require_asked pm_require_asked an_require_asked cd_require_asked ct_require_asked, f_avoiding, PySem.W.fnOf "avoiding" "avoiding" (defArgs s_avoiding) (defBody s_avoiding) (defScope s_avoiding) .none kV_avoiding dc_avoiding pm_avoiding an_avoiding cd_avoiding ct_avoiding, f_law_deck, PySem.W.fnOf "_law_deck" "_law_deck" (defArgs s_law_deck) (defBody s_law_deck) (defScope s_law_deck) .none kV_law_deck dc_law_deck pm_law_deck an_law_deck cd_law_deck ct_law_deck, f_law_take, PySem.W.fnOf "_law_take" "_law_take" (defArgs s_law_take) (defBody s_law_take) (defScope s_law_take) .none kV_law_take dc_law_take pm_law_take an_law_take cd_law_take ct_law_take, f_law_same, PySem.W.fnOf "_law_same" "_law_same" (defArgs s_law_same) (defBody s_law_same) (defScope s_law_same) .none kV_law_same dc_law_same pm_law_same an_law_same cd_law_same ct_law_same, f_law_asked, PySem.W.fnOf "_law_asked" "_law_asked" (defArgs s_law_asked) (defBody s_law_asked) (defScope s_law_asked) .none kV_law_asked dc_law_asked pm_law_asked an_law_asked cd_law_asked ct_law_asked, f_law_odd, PySem.W.fnOf "_law_odd" "_law_odd" (defArgs s_law_odd) (defBody s_law_odd) (defScope s_law_odd) .none kV_law_odd dc_law_odd pm_law_odd an_law_odd cd_law_odd ct_law_odd, f_law_refused, PySem.W.fnOf "_law_refused" "_law_refused" (defArgs s_law_refused) (defBody s_law_refused) (defScope s_law_refused) .none kV_law_refused dc_law_refused pm_law_refused an_law_refused cd_law_refused ct_law_refused, f_law_wrong, PySem.W.fnOf "_law_wrong" "_law_wrong" (defArgs s_law_wrong) (defBody s_law_wrong) (defScope s_law_wrong) .none kV_law_wrong dc_law_wrong pm_law_wrong an_law_wrong cd_law_wrong ct_law_wrong, f_law, PySem.W.fnOf "law" "law" (defArgs s_law) (defBody s_law) (defScope s_law) .none kV_law dc_law pm_law an_law cd_law ct_law, u_HOUSES, C_LineError, C_NoCount, C_NoHouse, C_NoPlace, C_NoRow, C_NoRule, I_NoCount, I_NoHouse⟩,
    ⟨PySem.W.mg_of X G vC_LineError,
     PySem.W.mg_of X G vC_NoCount,
     PySem.W.mg_of X G vC_NoHouse,
     PySem.W.mg_of X G vC_NoPlace,
     PySem.W.mg_of X G vC_NoRow,
     PySem.W.mg_of X G vC_NoRule,
     xini_mk ib_NoCount xk_NoCount xi_NoCount kC_NoCount zsu ztp lI_NoCount cI_NoCount hI_NoCount vI_NoCount eI_NoCount gI_NoCount,
     xini_mk ib_NoHouse xk_NoHouse xi_NoHouse kC_NoHouse zsu ztp lI_NoHouse cI_NoHouse hI_NoHouse vI_NoHouse eI_NoHouse gI_NoHouse,
     xg_of xg_NoCount,
     ex_NoCount_LineError,
     is_NoCount_NoCount,
     is_NoCount_NoHouse,
     is_NoCount_NoPlace,
     is_NoCount_NoRow,
     is_NoCount_NoRule,
     is_NoCount_ValueError,
     xg_of xg_NoHouse,
     ex_NoHouse_LineError,
     is_NoHouse_NoCount,
     is_NoHouse_NoHouse,
     is_NoHouse_NoPlace,
     is_NoHouse_NoRow,
     is_NoHouse_NoRule,
     is_NoHouse_ValueError,
     ⟨PySem.W.mg_of X G v_HOUSES, r_HOUSES⟩,
     PySem.W.mg_none_of X G z_ValueError,
     PySem.W.mg_none_of X G z_bool,
     PySem.W.mg_none_of X G z_enumerate,
     PySem.W.mg_none_of X G z_int,
     PySem.W.mg_none_of X G z_isinstance,
     PySem.W.mg_none_of X G z_len,
     PySem.W.mg_none_of X G z_list,
     PySem.W.mg_none_of X G z_range,
     PySem.W.mg_none_of X G z_str,
     PySem.W.mg_none_of X G z_tuple,
     PySem.W.mg_none_of X G z_zip,
     fun_mk (st := s_is_number) l_is_number c_is_number k_is_number,
     PySem.W.mg_of X G a_is_number,
     k_is_number,
     (fun_mk (st := s_is_number) l_is_number c_is_number k_is_number).binds (ps := ["thing"]) fun _ _ _ _ _ _ us hl => match us, hl with | [_], _ => rfl,
     fun_mk (st := s_is_within) l_is_within c_is_within k_is_within,
     PySem.W.mg_of X G a_is_within,
     k_is_within,
     (fun_mk (st := s_is_within) l_is_within c_is_within k_is_within).binds (ps := ["thing", "least", "most"]) fun _ _ _ _ _ _ us hl => match us, hl with | [_, _, _], _ => rfl,
     fun_mk (st := s_require_within) l_require_within c_require_within k_require_within,
     PySem.W.mg_of X G a_require_within,
     k_require_within,
     (fun_mk (st := s_require_within) l_require_within c_require_within k_require_within).binds (ps := ["thing", "least", "most", "what"]) fun _ _ _ _ _ _ us hl => match us, hl with | [_, _, _, _], _ => rfl,
     fun_mk (st := s_is_house) l_is_house c_is_house k_is_house,
     PySem.W.mg_of X G a_is_house,
     k_is_house,
     (fun_mk (st := s_is_house) l_is_house c_is_house k_is_house).kbinds (ps := ["thing", "houses"]) (ks := ["houses"]) rfl fun _ _ _ _ _ _ _ _ => rfl,
     fun_mk (st := s_require_house) l_require_house c_require_house k_require_house,
     PySem.W.mg_of X G a_require_house,
     k_require_house,
     (fun_mk (st := s_require_house) l_require_house c_require_house k_require_house).kbinds (ps := ["thing", "houses"]) (ks := ["houses"]) rfl fun _ _ _ _ _ _ _ _ => rfl,
     fun_mk (st := s_require_asked) l_require_asked c_require_asked k_require_asked,
     PySem.W.mg_of X G a_require_asked,
     k_require_asked,
     (fun_mk (st := s_require_asked) l_require_asked c_require_asked k_require_asked).binds (ps := ["asked", "houses"]) fun _ _ _ _ _ _ us hl => match us, hl with | [_, _], _ => rfl,
     fun_mk (st := s_avoiding) l_avoiding c_avoiding k_avoiding,
     PySem.W.mg_of X G a_avoiding,
     k_avoiding,
     (fun_mk (st := s_avoiding) l_avoiding c_avoiding k_avoiding).binds (ps := ["houses", "asked", "need"]) fun _ _ _ _ _ _ us hl => match us, hl with | [_, _, _], _ => rfl,
     fun_mk (st := s_law_deck) l_law_deck c_law_deck k_law_deck,
     PySem.W.mg_of X G a_law_deck,
     k_law_deck,
     (fun_mk (st := s_law_deck) l_law_deck c_law_deck k_law_deck).binds (ps := ["_law_script"]) fun _ _ _ _ _ _ us hl => match us, hl with | [_], _ => rfl,
     fun_mk (st := s_law_take) l_law_take c_law_take k_law_take,
     PySem.W.mg_of X G a_law_take,
     k_law_take,
     (fun_mk (st := s_law_take) l_law_take c_law_take k_law_take).binds (ps := ["_law_deck_here", "_law_many"]) fun _ _ _ _ _ _ us hl => match us, hl with | [_, _], _ => rfl,
     fun_mk (st := s_law_same) l_law_same c_law_same k_law_same,
     PySem.W.mg_of X G a_law_same,
     k_law_same,
     (fun_mk (st := s_law_same) l_law_same c_law_same k_law_same).binds (ps := ["_law_found", "_law_due"]) fun _ _ _ _ _ _ us hl => match us, hl with | [_, _], _ => rfl,
     fun_mk (st := s_law_asked) l_law_asked c_law_asked k_law_asked,
     PySem.W.mg_of X G a_law_asked,
     k_law_asked,
     (fun_mk (st := s_law_asked) l_law_asked c_law_asked k_law_asked).binds (ps := ["_law_deck_here", "_law_many"]) fun _ _ _ _ _ _ us hl => match us, hl with | [_, _], _ => rfl,
     fun_mk (st := s_law_odd) l_law_odd c_law_odd k_law_odd,
     PySem.W.mg_of X G a_law_odd,
     k_law_odd,
     (fun_mk (st := s_law_odd) l_law_odd c_law_odd k_law_odd).binds (ps := ["_law_deck_here", "_law_least", "_law_most"]) fun _ _ _ _ _ _ us hl => match us, hl with | [_, _, _], _ => rfl,
     fun_mk (st := s_law_refused) l_law_refused c_law_refused k_law_refused,
     PySem.W.mg_of X G a_law_refused,
     k_law_refused,
     (fun_mk (st := s_law_refused) l_law_refused c_law_refused k_law_refused).binds (ps := ["_law_handed", "_law_word", "_law_field"]) fun _ _ _ _ _ _ us hl => match us, hl with | [_, _, _], _ => rfl,
     fun_mk (st := s_law_wrong) l_law_wrong c_law_wrong k_law_wrong,
     PySem.W.mg_of X G a_law_wrong,
     k_law_wrong,
     (fun_mk (st := s_law_wrong) l_law_wrong c_law_wrong k_law_wrong).binds (ps := ["_law_deck_here", "_law_many", "_law_asked_here", "_law_wanted"]) fun _ _ _ _ _ _ us hl => match us, hl with | [_, _, _, _], _ => rfl,
     fun_mk (st := s_law) l_law c_law k_law,
     PySem.W.mg_of X G a_law,
     k_law,
     (fun_mk (st := s_law) l_law c_law k_law).binds (ps := ["_law_script"]) fun _ _ _ _ _ _ us hl => match us, hl with | [_], _ => rfl,
     fun s u => .of_eq rfl⟩⟩
theorem all_ok {P : Program} {w : World} {K : PySem.W.Frag} {mg : Str → Option Value} {base : Heap} {a : Adr} (T : Txt P K mg a) : FnOk P w K mg base CX0 9 a.f_law a.d_law ["_law_script"] (sp_law K) := by
  have G_is_number : FnOk P w K mg base CX0 1 a.f_is_number a.d_is_number ["thing"] (sp_is_number K) := ok_is_number T 
  have G__law_deck : FnOk P w K mg base CX0 1 a.f_law_deck a.d_law_deck ["_law_script"] (sp_law_deck K) := ok_law_deck T 
  have G__law_take : FnOk P w K mg base CX0 1 a.f_law_take a.d_law_take ["_law_deck_here", "_law_many"] (sp_law_take K) := ok_law_take T 
  have G_is_within : FnOk P w K mg base CX0 2 a.f_is_within a.d_is_within ["thing", "least", "most"] (sp_is_within K) := ok_is_within T G_is_number
  have G__law_asked : FnOk P w K mg base CX0 2 a.f_law_asked a.d_law_asked ["_law_deck_here", "_law_many"] (sp_law_asked K) := ok_law_asked T G__law_take
  have G__law_odd : FnOk P w K mg base CX0 2 a.f_law_odd a.d_law_odd ["_law_deck_here", "_law_least", "_law_most"] (sp_law_odd K) := ok_law_odd T G__law_take
  have G_require_within : FnOk P w K mg base (CX1 P w) 3 a.f_require_within a.d_require_within ["thing", "least", "most", "what"] (sp_require_within K a) := ok_require_within T G_is_within
  have G_is_house : FnOk P w K mg base CX0 3 a.f_is_house a.d_is_house ["thing", "houses"] (sp_is_house K) := ok_is_house T G_is_within
  have G__law_same : FnOk P w K mg base CX0 3 a.f_law_same a.d_law_same ["_law_found", "_law_due"] (sp_law_same K) := ok_law_same T 
  have G_require_house : FnOk P w K mg base (CX1 P w) 4 a.f_require_house a.d_require_house ["thing", "houses"] (sp_require_house K a) := ok_require_house T G_is_house
  have G_require_asked : FnOk P w K mg base (CX1 P w) 5 a.f_require_asked a.d_require_asked ["asked", "houses"] (sp_require_asked K a) := ok_require_asked T G_require_house
  have G_avoiding : FnOk P w K mg base (CX1 P w) 6 a.f_avoiding a.d_avoiding ["houses", "asked", "need"] (sp_avoiding K a) := ok_avoiding T G_require_asked G_require_within
  have G__law_refused : FnOk P w K mg base CX0 7 a.f_law_refused a.d_law_refused ["_law_handed", "_law_word", "_law_field"] (sp_law_refused K a) := ok_law_refused T G__law_same G_avoiding
  have G__law_wrong : FnOk P w K mg base CX0 8 a.f_law_wrong a.d_law_wrong ["_law_deck_here", "_law_many", "_law_asked_here", "_law_wanted"] (sp_law_wrong K a) := ok_law_wrong T G__law_odd G__law_refused G__law_take
  have G_law : FnOk P w K mg base CX0 9 a.f_law a.d_law ["_law_script"] (sp_law K) := ok_law T G__law_asked G__law_deck G__law_same G__law_take G__law_wrong G_avoiding
  exact G_law
end My
open PySem PySem.W PyProof.Rows
set_option maxRecDepth 100000 in
set_option maxHeartbeats 0 in
theorem PySem.Challenge.cw_laterline_k35_avoiding_told_holds : PySem.Challenge.rw_laterline_k35_avoiding_told.Holds := by
  w_on; o_law; k_head; (case hw => w_witness2)
  k_fill
  refine L2.walk_ofK (l := PySem.Challenge.rw_laterline_k35_avoiding_told) (n := 63) (k := 9) (x := "_law_script") (CX := L2.CX0) (sp := My.sp_law) rfl (by decide) rfl ⟨rfl, by decide, by decide, rfl⟩ (fun w h Y => PySem.W.kIn_of Y) ?F ?S ?C
  case F =>
    intro w mg fa h KX G hmg
    have T : ∃ a, My.Txt (PySem.Challenge.rw_laterline_k35_avoiding_told).prog (L2.KOf KX) mg a := by
      dsimp only [L2.KOf]
      refine' My.txt_mk KX G ?a_is_number ?l_is_number ?c_is_number ?k_is_number ?a_is_within ?l_is_within ?c_is_within ?k_is_within ?a_require_within ?l_require_within ?c_require_within ?k_require_within ?a_is_house ?l_is_house ?c_is_house ?k_is_house ?a_require_house ?l_require_house ?c_require_house ?k_require_house ?a_require_asked ?l_require_asked ?c_require_asked ?k_require_asked ?a_avoiding ?l_avoiding ?c_avoiding ?k_avoiding ?a_law_deck ?l_law_deck ?c_law_deck ?k_law_deck ?a_law_take ?l_law_take ?c_law_take ?k_law_take ?a_law_same ?l_law_same ?c_law_same ?k_law_same ?a_law_asked ?l_law_asked ?c_law_asked ?k_law_asked ?a_law_odd ?l_law_odd ?c_law_odd ?k_law_odd ?a_law_refused ?l_law_refused ?c_law_refused ?k_law_refused ?a_law_wrong ?l_law_wrong ?c_law_wrong ?k_law_wrong ?a_law ?l_law ?c_law ?k_law ?z_ValueError ?z_bool ?z_enumerate ?z_int ?z_isinstance ?z_len ?z_list ?z_range ?z_str ?z_tuple ?z_zip ?vC_LineError ?vC_NoCount ?vC_NoHouse ?vC_NoPlace ?vC_NoRow ?vC_NoRule ?zsu ?rr_ztp ?fI_NoCount ?lI_NoCount ?cI_NoCount ?hI_NoCount ?rf_vI_NoCount ?rr_eI_NoCount ?gI_NoCount ?rr_xk_NoCount ?rr_xi_NoCount ?kC_NoCount ?fI_NoHouse ?lI_NoHouse ?cI_NoHouse ?hI_NoHouse ?rf_vI_NoHouse ?rr_eI_NoHouse ?gI_NoHouse ?rr_xk_NoHouse ?rr_xi_NoHouse ?kC_NoHouse ?rr_xg_NoCount ?rr_ex_NoCount_LineError ?rr_is_NoCount_NoCount ?rr_is_NoCount_NoHouse ?rr_is_NoCount_NoPlace ?rr_is_NoCount_NoRow ?rr_is_NoCount_NoRule ?rr_is_NoCount_ValueError ?rr_xg_NoHouse ?rr_ex_NoHouse_LineError ?rr_is_NoHouse_NoCount ?rr_is_NoHouse_NoHouse ?rr_is_NoHouse_NoPlace ?rr_is_NoHouse_NoRow ?rr_is_NoHouse_NoRule ?rr_is_NoHouse_ValueError ?v_HOUSES ?r_HOUSES
      (case a_is_number => k_is)
      (case l_is_number => k_is)
      (case c_is_number => k_is)
      (case k_is_number => k_is)
      (case a_is_within => k_is)
      (case l_is_within => k_is)
      (case c_is_within => k_is)
      (case k_is_within => k_is)
      (case a_require_within => k_is)
      (case l_require_within => k_is)
      (case c_require_within => k_is)
      (case k_require_within => k_is)
      (case a_is_house => k_is)
      (case l_is_house => k_is)
      (case c_is_house => k_is)
      (case k_is_house => k_is)
      (case a_require_house => k_is)
      (case l_require_house => k_is)
      (case c_require_house => k_is)
      (case k_require_house => k_is)
      (case a_require_asked => k_is)
      (case l_require_asked => k_is)
      (case c_require_asked => k_is)
      (case k_require_asked => k_is)
      (case a_avoiding => k_is)
      (case l_avoiding => k_is)
      (case c_avoiding => k_is)
      (case k_avoiding => k_is)
      (case a_law_deck => k_is)
      (case l_law_deck => k_is)
      (case c_law_deck => k_is)
      (case k_law_deck => k_is)
      (case a_law_take => k_is)
      (case l_law_take => k_is)
      (case c_law_take => k_is)
      (case k_law_take => k_is)
      (case a_law_same => k_is)
      (case l_law_same => k_is)
      (case c_law_same => k_is)
      (case k_law_same => k_is)
      (case a_law_asked => k_is)
      (case l_law_asked => k_is)
      (case c_law_asked => k_is)
      (case k_law_asked => k_is)
      (case a_law_odd => k_is)
      (case l_law_odd => k_is)
      (case c_law_odd => k_is)
      (case k_law_odd => k_is)
      (case a_law_refused => k_is)
      (case l_law_refused => k_is)
      (case c_law_refused => k_is)
      (case k_law_refused => k_is)
      (case a_law_wrong => k_is)
      (case l_law_wrong => k_is)
      (case c_law_wrong => k_is)
      (case k_law_wrong => k_is)
      (case a_law => k_is)
      (case l_law => k_is)
      (case c_law => k_is)
      (case k_law => k_is)
      (case z_ValueError => k_is)
      (case z_bool => k_is)
      (case z_enumerate => k_is)
      (case z_int => k_is)
      (case z_isinstance => k_is)
      (case z_len => k_is)
      (case z_list => k_is)
      (case z_range => k_is)
      (case z_str => k_is)
      (case z_tuple => k_is)
      (case z_zip => k_is)
      (case vC_LineError => k_is)
      (case vC_NoCount => k_is)
      (case vC_NoHouse => k_is)
      (case vC_NoPlace => k_is)
      (case vC_NoRow => k_is)
      (case vC_NoRule => k_is)
      (case zsu => k_is)
      (case rr_ztp => kernel_rfl)
      (case fI_NoCount => k_is)
      (case lI_NoCount => k_is)
      (case cI_NoCount => k_is)
      (case hI_NoCount => k_is)
      (case rf_vI_NoCount => exact rfl)
      (case rr_eI_NoCount => kernel_rfl)
      (case gI_NoCount => k_is)
      (case rr_xk_NoCount => kernel_rfl)
      (case rr_xi_NoCount => kernel_rfl)
      (case kC_NoCount => k_is)
      (case fI_NoHouse => k_is)
      (case lI_NoHouse => k_is)
      (case cI_NoHouse => k_is)
      (case hI_NoHouse => k_is)
      (case rf_vI_NoHouse => exact rfl)
      (case rr_eI_NoHouse => kernel_rfl)
      (case gI_NoHouse => k_is)
      (case rr_xk_NoHouse => kernel_rfl)
      (case rr_xi_NoHouse => kernel_rfl)
      (case kC_NoHouse => k_is)
      (case rr_xg_NoCount => kernel_rfl)
      (case rr_ex_NoCount_LineError => kernel_rfl)
      (case rr_is_NoCount_NoCount => kernel_rfl)
      (case rr_is_NoCount_NoHouse => kernel_rfl)
      (case rr_is_NoCount_NoPlace => kernel_rfl)
      (case rr_is_NoCount_NoRow => kernel_rfl)
      (case rr_is_NoCount_NoRule => kernel_rfl)
      (case rr_is_NoCount_ValueError => kernel_rfl)
      (case rr_xg_NoHouse => kernel_rfl)
      (case rr_ex_NoHouse_LineError => kernel_rfl)
      (case rr_is_NoHouse_NoCount => kernel_rfl)
      (case rr_is_NoHouse_NoHouse => kernel_rfl)
      (case rr_is_NoHouse_NoPlace => kernel_rfl)
      (case rr_is_NoHouse_NoRow => kernel_rfl)
      (case rr_is_NoHouse_NoRule => kernel_rfl)
      (case rr_is_NoHouse_ValueError => kernel_rfl)
      (case v_HOUSES => k_is)
      (case r_HOUSES => exact ⟨_, rfl⟩)
    obtain ⟨a, T⟩ := T
    have e0 := hmg.symm.trans T.m_law
    cases e0
    exact ⟨_, T.bl_law, fun base kb nb => My.all_ok T⟩
  case S => exact fun K H a ns hl hO hS => ⟨a, ns, rfl, hS, hl, fun _ => rfl⟩
  case C => exact fun _ _ _ _ z => z
