import PyProof.Rows.All
import Wide.All
import OpenK.AllK
import Wide.FinOn
import Lean
import PyProof.EqAt
import PyProof.EqKinds
import PyProof.TupleCall
import KE.KTryMore
import PyProof.NsDelKeeps
import OpenK.KOwn
import PyProof.ExcClass3
import KE.KSuper
import PyProof.InstStoreFacts
import PyProof.ExcArgsOwn
import PyProof.ExcAttrAll.ValueError
import KE.KIsAll
import PyProof.EnumIter
import KE.KStar
import PySem.Challenge.RW_laterline_k15_histories_extended
set_option Elab.async false
set_option linter.all false
set_option maxRecDepth 100000
namespace Hd
open PySem PySem.W
noncomputable def topT (tb : String → Option Builtin) (p : Program) (w : World) (n₀ : Nat) (ann : Option Value) : Nat → SharedT → Thread → Option SharedT
  | 0, _, _ => none
  | n + 1, s, t => match through t with
    | true => some s
    | false => match stepOk n₀ ann t with
      | false => none
      | true => match stepT (denote tb) p w s t with
        | some (s', t') => topT tb p w n₀ ann n s' t'
        | none => none
theorem topT_spec {tb : String → Option Builtin} {p : Program} {w : World} {n₀ : Nat} {ann : Option Value} : ∀ {n : Nat} {s s' : SharedT} {t : Thread}, topT tb p w n₀ ann n s t = some s' → topRun tb p w n₀ ann n s.abs t = some s'.abs
  | 0, _, _, _, h => by cases h
  | n + 1, s, s', t, h => by
    unfold topT at h
    unfold topRun
    cases e1 : through t with
    | true => rw [e1] at h; cases h; rfl
    | false =>
      rw [e1] at h
      cases e2 : stepOk n₀ ann t with
      | false => rw [e2] at h; cases h
      | true =>
        rw [e2] at h
        dsimp only at h ⊢
        cases e3 : stepT (denote tb) p w s t with
        | none => rw [e3] at h; cases h
        | some q =>
          obtain ⟨s1, t1⟩ := q
          rw [e3] at h
          rw [stepT_spec e3]
          exact topT_spec h
noncomputable def btOf (l : List Obj) : BT := (l.foldl (fun (q : BT × Nat) o => (q.1.ins q.2 o, q.2 + 1)) (BT.nil, 0)).1
noncomputable def start0 (P : Params) (os : OsState) : SharedT := ⟨btOf (boot_heap P).objs.toList, (boot_heap P).objs.size, (boot_heap P).life, Array.mk [], boot_drawn, boot_toks, os⟩
theorem start_abs (P : Params) (os : OsState) : (start0 P os).abs = ⟨boot_heap P, Array.mk [], boot_drawn, boot_toks, os⟩ := by kernel_rfl
theorem boot_is (P : Params) : ((boot_heap P).isNs mainGlobals && (Array.mk [] : Array GenState).size == 0) = true := by kernel_rfl
theorem left_of {p q : Program} {loose : List Str} {Xt : Shared → Bool} {α : Type} {Yf : Shared → α} {Ya : World → α} {N : Nat} (ho : opening p = plainProg p.main.scope.names) (hN : Nat.ble 600 N = true) (hf : ∀ s, fenceModules? p s = some s)
    (run : ∀ (w : World) (os : OsState), (topT treeTable p w (boot_heap w.params).objs.size ((boot_heap w.params).nsMap mainGlobals "__annotations__") N (start0 w.params os) (topStub p)).map (fun s =>
        ((staticsOk (importedModules p.main.body) (boot_heap w.params) s.abs.heap && namesBound p s.abs.heap && gensDone s.abs && laidKept (boot_heap w.params) s.abs.heap), openSeen q loose (importedModules p.main.body) Xt true s.abs, Yf s.abs)) = some (true, openGood q loose, Ya w)) :
    LeftO p q loose Xt Yf Ya N := fun w => by
  obtain ⟨⟨h, gs, d, k, os⟩, e, e'⟩ := Option.map_eq_some_iff.mp (boot_open (N := N) ho hN hf w)
  obtain ⟨rfl, rfl, rfl, rfl⟩ : h = boot_heap w.params ∧ gs = Array.mk [] ∧ d = boot_drawn ∧ k = boot_toks := by simpa using e'
  obtain ⟨s, r1, r2⟩ := Option.map_eq_some_iff.mp (run w os)
  obtain ⟨l1, l2, l3⟩ : _ ∧ _ ∧ _ := by simpa only [Prod.mk.injEq] using r2
  have r := topT_spec r1
  rw [start_abs] at r
  have t : topFrom treeTable p w N ⟨boot_heap w.params, Array.mk [], boot_drawn, boot_toks, os⟩ = some s.abs := by
    unfold topFrom
    dsimp only
    rw [boot_is, r]
    show (match staticsOk (importedModules p.main.body) (boot_heap w.params) s.abs.heap && namesBound p s.abs.heap && gensDone s.abs && laidKept (boot_heap w.params) s.abs.heap with | true => some s.abs | false => none) = _
    rw [l1]
  unfold openEnds
  rw [e]
  show (topFrom treeTable p w N _).map _ = _
  rw [t]
  exact congrArg some (Prod.ext l2 l3)
noncomputable def inCls (s : Stmt) (j : Nat) : Stmt := match s with
  | .ClassDef _ _ _ b _ _ _ _ _ _ _ => b.getD j (.Pass ⟨0, 0, 0, 0⟩)
  | z => z
noncomputable def dArgs (s : Stmt) : Arguments := match s with
  | .FunctionDef _ a _ _ _ _ _ _ _ _ => a
  | _ => ⟨[], [], none, [], [], none, []⟩
noncomputable def dBody (s : Stmt) : List Stmt := match s with
  | .FunctionDef _ _ b _ _ _ _ _ _ _ => b
  | _ => []
noncomputable def dScope (s : Stmt) : Scope := match s with
  | .FunctionDef _ _ _ _ _ _ c _ _ _ => c
  | _ => { kind := .function, names := [], isGenerator := false, isCoroutine := false }
end Hd

namespace My
open PySem PyProof.Rows
noncomputable def top (i : Nat) : Stmt := PySem.Challenge.pw_laterline_k15_histories_extended.main.body.getD i (.Pass ⟨0, 0, 0, 0⟩)
noncomputable abbrev qS (s : String) : Str := Str.ofString s
noncomputable abbrev vS (s : String) (t : Nat) : Value := .str (Str.ofString s) t
noncomputable abbrev dE (P : Params) (s : String) (t : Nat) (v : Value) : DictEntry := ⟨PyData.keyHash P (Str.ofString s), .str (Str.ofString s) t, v⟩
noncomputable abbrev tO (xs : Array Value) : PySem.Obj := ⟨.type "tuple", none, .seq xs 0, #[]⟩
noncomputable abbrev oO (c : Value) (d : Data) : PySem.Obj := ⟨c, none, d, #[]⟩
noncomputable def KF : PySem.Params → PySem.W.Frag := fun P =>
  (nat_lit 2, (oO Value.none (Data.dict #[] 0))) ::
  (nat_lit 3, (oO (.type "dict") (Data.dict #[(dE P "__name__" 165 (vS "law_laterline_k15_histories_extended" 521)), (dE P "__doc__" 166 Value.none), (dE P "__package__" 167 Value.none), (dE P "__loader__" 168 (Value.builtin "__main__.__loader__#opaque")), (dE P "__spec__" 169 Value.none), (dE P "__annotations__" 170 (.ref 6)), (dE P "__builtins__" 171 (.ref 4)), (dE P "__file__" 173 (vS "/claim/cut.py" 172)), (dE P "__cached__" 174 Value.none), (dE P "LineError" 206 (.ref 24)), (dE P "NoRow" 231 (.ref 46)), (dE P "NoHistory" 256 (.ref 67)), (dE P "NoPlace" 283 (.ref 88)), (dE P "TooEarly" 310 (.ref 109)), (dE P "TooOld" 337 (.ref 130)), (dE P "Gap" 364 (.ref 151)), (dE P "Elder" 391 (.ref 172)), (dE P "Full" 418 (.ref 193)), (dE P "NoCount" 445 (.ref 214)), (dE P "LAST_PLACE" 451 (.int 1000000 450)), (dE P "is_number" 458 (.ref 223)), (dE P "is_within" 467 (.ref 230)), (dE P "is_place" 474 (.ref 237)), (dE P "LINES" 478 (.int 60 477)), (dE P "LAST_LINE" 482 (.int 1000000000 481)), (dE P "is_line" 489 (.ref 244)), (dE P "is_line_and_place" 496 (.ref 251)), (dE P "is_history" 502 (.ref 256)), (dE P "require_history" 509 (.ref 263)), (dE P "extended" 520 (.ref 270)), (dE P "_law_state" 530 (.ref 277)), (dE P "_law_next" 541 (.ref 284)), (dE P "_law_history" 553 (.ref 291)), (dE P "_law_alike" 563 (.ref 298)), (dE P "_law_error" 573 (.ref 305)), (dE P "_law_names" 579 (.ref 310)), (dE P "_law_refused" 590 (.ref 317)), (dE P "_law_due" 601 (.ref 324)), (dE P "_law_right" 614 (.ref 331)), (dE P "law" 633 (.ref 338))] 40))) ::
  (nat_lit 15, (tO #[(.type "ValueError")])) ::
  (nat_lit 22, (tO #[])) ::
  (nat_lit 23, (oO (.type "dict") (Data.dict #[(dE P "__module__" 196 (vS "laterline.errors" 187)), (dE P "__firstlineno__" 200 (.int 2 199)), (dE P "__static_attributes__" 201 (.ref 22)), (dE P "__weakref__" 203 (.ref 25)), (dE P "__doc__" 204 Value.none)] 3))) ::
  (nat_lit 24, (Obj.mk (.type "type") none (Data.cls (ClassData.mk (qS "LineError") [(.type "ValueError")] [(.ref 24), (.type "ValueError"), (.type "Exception"), (.type "BaseException"), (.type "object")] 23 (qS "LineError") Bool.true [] [(.ref 46), (.ref 67), (.ref 88), (.ref 109), (.ref 130), (.ref 151), (.ref 172), (.ref 193), (.ref 214)] Bool.false none Bool.false)) #[(some (.ref 15)), none, (some (vS "LineError" 189)), (some (vS "LineError" 197)), (some (Value.builtin "ValueError.__new__")), (some (Value.bool Bool.true))])) ::
  (nat_lit 25, (oO (.type "getset_descriptor") (Data.fields #[(vS "__weakref__" 202), (.ref 24), (Value.builtin "ExceptionGroup.__weakref__"), Value.none]))) ::
  (nat_lit 28, (tO #[(.ref 24)])) ::
  (nat_lit 31, (oO (.type "cell") (Data.cell (some (.ref 46))))) ::
  (nat_lit 36, (tO #[(.ref 31)])) ::
  (nat_lit 37, (tO #[(vS "__class__" 222)])) ::
  (nat_lit 39, (tO #[(vS "self" 223)])) ::
  (nat_lit 40, (tO #[])) ::
  (nat_lit 42, (oO (.type "code") (Data.fields #[(vS "__init__" 219), (vS "NoRow.__init__" 220), (vS "/claim/cut.py" 221), (.int 6 0), (.int 1 0), (.int 0 0), (.int 0 0), (.int 3 0), (.ref 37), (Value.bool Bool.true), (.int 181 0), (.ref 38), Value.none, (.ref 39), (.ref 40), (.ref 41), (.int 224 0), (.int 6 0), (vS "/claim/cut.py" 225)]))) ::
  (nat_lit 43, (oO (.type "function") (Data.func (FuncData.mk (qS "__init__") (qS "NoRow.__init__") (Hd.dArgs (Hd.inCls (top 2) 0)) (.stmts (Hd.dBody (Hd.inCls (top 2) 0))) (Hd.dScope (Hd.inCls (top 2) 0)) 3 [((qS "__class__"), 31)] Value.none Value.none Value.none (vS "laterline.errors" 187) none (.ref 42) (.ref 36) 0)))) ::
  (nat_lit 44, (tO #[])) ::
  (nat_lit 45, (oO (.type "dict") (Data.dict #[(dE P "__module__" 214 (vS "laterline.errors" 187)), (dE P "__firstlineno__" 218 (.int 4 217)), (dE P "__init__" 226 (.ref 43)), (dE P "__static_attributes__" 227 (.ref 44)), (dE P "__doc__" 229 Value.none)] 3))) ::
  (nat_lit 46, (Obj.mk (.type "type") none (Data.cls (ClassData.mk (qS "NoRow") [(.ref 24)] [(.ref 46), (.ref 24), (.type "ValueError"), (.type "Exception"), (.type "BaseException"), (.type "object")] 45 (qS "NoRow") Bool.true [] [] Bool.false none Bool.false)) #[(some (.ref 28)), none, (some (vS "NoRow" 207)), (some (vS "NoRow" 215)), (some (Value.builtin "ValueError.__new__")), (some (Value.bool Bool.true))])) ::
  (nat_lit 49, (tO #[(.ref 24)])) ::
  (nat_lit 52, (oO (.type "cell") (Data.cell (some (.ref 67))))) ::
  (nat_lit 57, (tO #[(.ref 52)])) ::
  (nat_lit 58, (tO #[(vS "__class__" 247)])) ::
  (nat_lit 60, (tO #[(vS "self" 248)])) ::
  (nat_lit 61, (tO #[])) ::
  (nat_lit 63, (oO (.type "code") (Data.fields #[(vS "__init__" 244), (vS "NoHistory.__init__" 245), (vS "/claim/cut.py" 246), (.int 10 0), (.int 1 0), (.int 0 0), (.int 0 0), (.int 3 0), (.ref 58), (Value.bool Bool.true), (.int 181 0), (.ref 59), Value.none, (.ref 60), (.ref 61), (.ref 62), (.int 249 0), (.int 10 0), (vS "/claim/cut.py" 250)]))) ::
  (nat_lit 64, (oO (.type "function") (Data.func (FuncData.mk (qS "__init__") (qS "NoHistory.__init__") (Hd.dArgs (Hd.inCls (top 3) 0)) (.stmts (Hd.dBody (Hd.inCls (top 3) 0))) (Hd.dScope (Hd.inCls (top 3) 0)) 3 [((qS "__class__"), 52)] Value.none Value.none Value.none (vS "laterline.errors" 187) none (.ref 63) (.ref 57) 0)))) ::
  (nat_lit 65, (tO #[])) ::
  (nat_lit 66, (oO (.type "dict") (Data.dict #[(dE P "__module__" 239 (vS "laterline.errors" 187)), (dE P "__firstlineno__" 243 (.int 8 242)), (dE P "__init__" 251 (.ref 64)), (dE P "__static_attributes__" 252 (.ref 65)), (dE P "__doc__" 254 Value.none)] 3))) ::
  (nat_lit 67, (Obj.mk (.type "type") none (Data.cls (ClassData.mk (qS "NoHistory") [(.ref 24)] [(.ref 67), (.ref 24), (.type "ValueError"), (.type "Exception"), (.type "BaseException"), (.type "object")] 66 (qS "NoHistory") Bool.true [] [] Bool.false none Bool.false)) #[(some (.ref 49)), none, (some (vS "NoHistory" 232)), (some (vS "NoHistory" 240)), (some (Value.builtin "ValueError.__new__")), (some (Value.bool Bool.true))])) ::
  (nat_lit 70, (tO #[(.ref 24)])) ::
  (nat_lit 73, (oO (.type "cell") (Data.cell (some (.ref 88))))) ::
  (nat_lit 78, (tO #[(.ref 73)])) ::
  (nat_lit 79, (tO #[(vS "__class__" 272)])) ::
  (nat_lit 81, (tO #[(vS "self" 273), (vS "place" 274)])) ::
  (nat_lit 82, (tO #[])) ::
  (nat_lit 84, (oO (.type "code") (Data.fields #[(vS "__init__" 269), (vS "NoPlace.__init__" 270), (vS "/claim/cut.py" 271), (.int 14 0), (.int 2 0), (.int 0 0), (.int 0 0), (.int 3 0), (.ref 79), (Value.bool Bool.true), (.int 181 0), (.ref 80), Value.none, (.ref 81), (.ref 82), (.ref 83), (.int 275 0), (.int 14 0), (vS "/claim/cut.py" 276)]))) ::
  (nat_lit 85, (oO (.type "function") (Data.func (FuncData.mk (qS "__init__") (qS "NoPlace.__init__") (Hd.dArgs (Hd.inCls (top 4) 0)) (.stmts (Hd.dBody (Hd.inCls (top 4) 0))) (Hd.dScope (Hd.inCls (top 4) 0)) 3 [((qS "__class__"), 73)] Value.none Value.none Value.none (vS "laterline.errors" 187) none (.ref 84) (.ref 78) 0)))) ::
  (nat_lit 86, (tO #[(vS "place" 278)])) ::
  (nat_lit 87, (oO (.type "dict") (Data.dict #[(dE P "__module__" 264 (vS "laterline.errors" 187)), (dE P "__firstlineno__" 268 (.int 12 267)), (dE P "__init__" 277 (.ref 85)), (dE P "__static_attributes__" 279 (.ref 86)), (dE P "__doc__" 281 Value.none)] 3))) ::
  (nat_lit 88, (Obj.mk (.type "type") none (Data.cls (ClassData.mk (qS "NoPlace") [(.ref 24)] [(.ref 88), (.ref 24), (.type "ValueError"), (.type "Exception"), (.type "BaseException"), (.type "object")] 87 (qS "NoPlace") Bool.true [] [] Bool.false none Bool.false)) #[(some (.ref 70)), none, (some (vS "NoPlace" 257)), (some (vS "NoPlace" 265)), (some (Value.builtin "ValueError.__new__")), (some (Value.bool Bool.true))])) ::
  (nat_lit 91, (tO #[(.ref 24)])) ::
  (nat_lit 94, (oO (.type "cell") (Data.cell (some (.ref 109))))) ::
  (nat_lit 99, (tO #[(.ref 94)])) ::
  (nat_lit 100, (tO #[(vS "__class__" 299)])) ::
  (nat_lit 102, (tO #[(vS "self" 300), (vS "place" 301)])) ::
  (nat_lit 103, (tO #[])) ::
  (nat_lit 105, (oO (.type "code") (Data.fields #[(vS "__init__" 296), (vS "TooEarly.__init__" 297), (vS "/claim/cut.py" 298), (.int 19 0), (.int 2 0), (.int 0 0), (.int 0 0), (.int 3 0), (.ref 100), (Value.bool Bool.true), (.int 181 0), (.ref 101), Value.none, (.ref 102), (.ref 103), (.ref 104), (.int 302 0), (.int 19 0), (vS "/claim/cut.py" 303)]))) ::
  (nat_lit 106, (oO (.type "function") (Data.func (FuncData.mk (qS "__init__") (qS "TooEarly.__init__") (Hd.dArgs (Hd.inCls (top 5) 0)) (.stmts (Hd.dBody (Hd.inCls (top 5) 0))) (Hd.dScope (Hd.inCls (top 5) 0)) 3 [((qS "__class__"), 94)] Value.none Value.none Value.none (vS "laterline.errors" 187) none (.ref 105) (.ref 99) 0)))) ::
  (nat_lit 107, (tO #[(vS "place" 305)])) ::
  (nat_lit 108, (oO (.type "dict") (Data.dict #[(dE P "__module__" 291 (vS "laterline.errors" 187)), (dE P "__firstlineno__" 295 (.int 17 294)), (dE P "__init__" 304 (.ref 106)), (dE P "__static_attributes__" 306 (.ref 107)), (dE P "__doc__" 308 Value.none)] 3))) ::
  (nat_lit 109, (Obj.mk (.type "type") none (Data.cls (ClassData.mk (qS "TooEarly") [(.ref 24)] [(.ref 109), (.ref 24), (.type "ValueError"), (.type "Exception"), (.type "BaseException"), (.type "object")] 108 (qS "TooEarly") Bool.true [] [] Bool.false none Bool.false)) #[(some (.ref 91)), none, (some (vS "TooEarly" 284)), (some (vS "TooEarly" 292)), (some (Value.builtin "ValueError.__new__")), (some (Value.bool Bool.true))])) ::
  (nat_lit 112, (tO #[(.ref 24)])) ::
  (nat_lit 115, (oO (.type "cell") (Data.cell (some (.ref 130))))) ::
  (nat_lit 120, (tO #[(.ref 115)])) ::
  (nat_lit 121, (tO #[(vS "__class__" 326)])) ::
  (nat_lit 123, (tO #[(vS "self" 327), (vS "since" 328)])) ::
  (nat_lit 124, (tO #[])) ::
  (nat_lit 126, (oO (.type "code") (Data.fields #[(vS "__init__" 323), (vS "TooOld.__init__" 324), (vS "/claim/cut.py" 325), (.int 24 0), (.int 2 0), (.int 0 0), (.int 0 0), (.int 3 0), (.ref 121), (Value.bool Bool.true), (.int 181 0), (.ref 122), Value.none, (.ref 123), (.ref 124), (.ref 125), (.int 329 0), (.int 24 0), (vS "/claim/cut.py" 330)]))) ::
  (nat_lit 127, (oO (.type "function") (Data.func (FuncData.mk (qS "__init__") (qS "TooOld.__init__") (Hd.dArgs (Hd.inCls (top 6) 0)) (.stmts (Hd.dBody (Hd.inCls (top 6) 0))) (Hd.dScope (Hd.inCls (top 6) 0)) 3 [((qS "__class__"), 115)] Value.none Value.none Value.none (vS "laterline.errors" 187) none (.ref 126) (.ref 120) 0)))) ::
  (nat_lit 128, (tO #[(vS "since" 332)])) ::
  (nat_lit 129, (oO (.type "dict") (Data.dict #[(dE P "__module__" 318 (vS "laterline.errors" 187)), (dE P "__firstlineno__" 322 (.int 22 321)), (dE P "__init__" 331 (.ref 127)), (dE P "__static_attributes__" 333 (.ref 128)), (dE P "__doc__" 335 Value.none)] 3))) ::
  (nat_lit 130, (Obj.mk (.type "type") none (Data.cls (ClassData.mk (qS "TooOld") [(.ref 24)] [(.ref 130), (.ref 24), (.type "ValueError"), (.type "Exception"), (.type "BaseException"), (.type "object")] 129 (qS "TooOld") Bool.true [] [] Bool.false none Bool.false)) #[(some (.ref 112)), none, (some (vS "TooOld" 311)), (some (vS "TooOld" 319)), (some (Value.builtin "ValueError.__new__")), (some (Value.bool Bool.true))])) ::
  (nat_lit 133, (tO #[(.ref 24)])) ::
  (nat_lit 136, (oO (.type "cell") (Data.cell (some (.ref 151))))) ::
  (nat_lit 141, (tO #[(.ref 136)])) ::
  (nat_lit 142, (tO #[(vS "__class__" 353)])) ::
  (nat_lit 144, (tO #[(vS "self" 354), (vS "place" 355)])) ::
  (nat_lit 145, (tO #[])) ::
  (nat_lit 147, (oO (.type "code") (Data.fields #[(vS "__init__" 350), (vS "Gap.__init__" 351), (vS "/claim/cut.py" 352), (.int 29 0), (.int 2 0), (.int 0 0), (.int 0 0), (.int 3 0), (.ref 142), (Value.bool Bool.true), (.int 181 0), (.ref 143), Value.none, (.ref 144), (.ref 145), (.ref 146), (.int 356 0), (.int 29 0), (vS "/claim/cut.py" 357)]))) ::
  (nat_lit 148, (oO (.type "function") (Data.func (FuncData.mk (qS "__init__") (qS "Gap.__init__") (Hd.dArgs (Hd.inCls (top 7) 0)) (.stmts (Hd.dBody (Hd.inCls (top 7) 0))) (Hd.dScope (Hd.inCls (top 7) 0)) 3 [((qS "__class__"), 136)] Value.none Value.none Value.none (vS "laterline.errors" 187) none (.ref 147) (.ref 141) 0)))) ::
  (nat_lit 149, (tO #[(vS "place" 359)])) ::
  (nat_lit 150, (oO (.type "dict") (Data.dict #[(dE P "__module__" 345 (vS "laterline.errors" 187)), (dE P "__firstlineno__" 349 (.int 27 348)), (dE P "__init__" 358 (.ref 148)), (dE P "__static_attributes__" 360 (.ref 149)), (dE P "__doc__" 362 Value.none)] 3))) ::
  (nat_lit 151, (Obj.mk (.type "type") none (Data.cls (ClassData.mk (qS "Gap") [(.ref 24)] [(.ref 151), (.ref 24), (.type "ValueError"), (.type "Exception"), (.type "BaseException"), (.type "object")] 150 (qS "Gap") Bool.true [] [] Bool.false none Bool.false)) #[(some (.ref 133)), none, (some (vS "Gap" 338)), (some (vS "Gap" 346)), (some (Value.builtin "ValueError.__new__")), (some (Value.bool Bool.true))])) ::
  (nat_lit 154, (tO #[(.ref 24)])) ::
  (nat_lit 157, (oO (.type "cell") (Data.cell (some (.ref 172))))) ::
  (nat_lit 162, (tO #[(.ref 157)])) ::
  (nat_lit 163, (tO #[(vS "__class__" 380)])) ::
  (nat_lit 165, (tO #[(vS "self" 381), (vS "wanted" 382)])) ::
  (nat_lit 166, (tO #[])) ::
  (nat_lit 168, (oO (.type "code") (Data.fields #[(vS "__init__" 377), (vS "Elder.__init__" 378), (vS "/claim/cut.py" 379), (.int 34 0), (.int 2 0), (.int 0 0), (.int 0 0), (.int 3 0), (.ref 163), (Value.bool Bool.true), (.int 181 0), (.ref 164), Value.none, (.ref 165), (.ref 166), (.ref 167), (.int 383 0), (.int 34 0), (vS "/claim/cut.py" 384)]))) ::
  (nat_lit 169, (oO (.type "function") (Data.func (FuncData.mk (qS "__init__") (qS "Elder.__init__") (Hd.dArgs (Hd.inCls (top 8) 0)) (.stmts (Hd.dBody (Hd.inCls (top 8) 0))) (Hd.dScope (Hd.inCls (top 8) 0)) 3 [((qS "__class__"), 157)] Value.none Value.none Value.none (vS "laterline.errors" 187) none (.ref 168) (.ref 162) 0)))) ::
  (nat_lit 170, (tO #[(vS "wanted" 386)])) ::
  (nat_lit 171, (oO (.type "dict") (Data.dict #[(dE P "__module__" 372 (vS "laterline.errors" 187)), (dE P "__firstlineno__" 376 (.int 32 375)), (dE P "__init__" 385 (.ref 169)), (dE P "__static_attributes__" 387 (.ref 170)), (dE P "__doc__" 389 Value.none)] 3))) ::
  (nat_lit 172, (Obj.mk (.type "type") none (Data.cls (ClassData.mk (qS "Elder") [(.ref 24)] [(.ref 172), (.ref 24), (.type "ValueError"), (.type "Exception"), (.type "BaseException"), (.type "object")] 171 (qS "Elder") Bool.true [] [] Bool.false none Bool.false)) #[(some (.ref 154)), none, (some (vS "Elder" 365)), (some (vS "Elder" 373)), (some (Value.builtin "ValueError.__new__")), (some (Value.bool Bool.true))])) ::
  (nat_lit 175, (tO #[(.ref 24)])) ::
  (nat_lit 178, (oO (.type "cell") (Data.cell (some (.ref 193))))) ::
  (nat_lit 183, (tO #[(.ref 178)])) ::
  (nat_lit 184, (tO #[(vS "__class__" 407)])) ::
  (nat_lit 186, (tO #[(vS "self" 408), (vS "what" 409)])) ::
  (nat_lit 187, (tO #[])) ::
  (nat_lit 189, (oO (.type "code") (Data.fields #[(vS "__init__" 404), (vS "Full.__init__" 405), (vS "/claim/cut.py" 406), (.int 39 0), (.int 2 0), (.int 0 0), (.int 0 0), (.int 3 0), (.ref 184), (Value.bool Bool.true), (.int 181 0), (.ref 185), Value.none, (.ref 186), (.ref 187), (.ref 188), (.int 410 0), (.int 39 0), (vS "/claim/cut.py" 411)]))) ::
  (nat_lit 190, (oO (.type "function") (Data.func (FuncData.mk (qS "__init__") (qS "Full.__init__") (Hd.dArgs (Hd.inCls (top 9) 0)) (.stmts (Hd.dBody (Hd.inCls (top 9) 0))) (Hd.dScope (Hd.inCls (top 9) 0)) 3 [((qS "__class__"), 178)] Value.none Value.none Value.none (vS "laterline.errors" 187) none (.ref 189) (.ref 183) 0)))) ::
  (nat_lit 191, (tO #[(vS "what" 413)])) ::
  (nat_lit 192, (oO (.type "dict") (Data.dict #[(dE P "__module__" 399 (vS "laterline.errors" 187)), (dE P "__firstlineno__" 403 (.int 37 402)), (dE P "__init__" 412 (.ref 190)), (dE P "__static_attributes__" 414 (.ref 191)), (dE P "__doc__" 416 Value.none)] 3))) ::
  (nat_lit 193, (Obj.mk (.type "type") none (Data.cls (ClassData.mk (qS "Full") [(.ref 24)] [(.ref 193), (.ref 24), (.type "ValueError"), (.type "Exception"), (.type "BaseException"), (.type "object")] 192 (qS "Full") Bool.true [] [] Bool.false none Bool.false)) #[(some (.ref 175)), none, (some (vS "Full" 392)), (some (vS "Full" 400)), (some (Value.builtin "ValueError.__new__")), (some (Value.bool Bool.true))])) ::
  (nat_lit 196, (tO #[(.ref 24)])) ::
  (nat_lit 199, (oO (.type "cell") (Data.cell (some (.ref 214))))) ::
  (nat_lit 204, (tO #[(.ref 199)])) ::
  (nat_lit 205, (tO #[(vS "__class__" 434)])) ::
  (nat_lit 207, (tO #[(vS "self" 435), (vS "what" 436)])) ::
  (nat_lit 208, (tO #[])) ::
  (nat_lit 210, (oO (.type "code") (Data.fields #[(vS "__init__" 431), (vS "NoCount.__init__" 432), (vS "/claim/cut.py" 433), (.int 44 0), (.int 2 0), (.int 0 0), (.int 0 0), (.int 3 0), (.ref 205), (Value.bool Bool.true), (.int 181 0), (.ref 206), Value.none, (.ref 207), (.ref 208), (.ref 209), (.int 437 0), (.int 44 0), (vS "/claim/cut.py" 438)]))) ::
  (nat_lit 211, (oO (.type "function") (Data.func (FuncData.mk (qS "__init__") (qS "NoCount.__init__") (Hd.dArgs (Hd.inCls (top 10) 0)) (.stmts (Hd.dBody (Hd.inCls (top 10) 0))) (Hd.dScope (Hd.inCls (top 10) 0)) 3 [((qS "__class__"), 199)] Value.none Value.none Value.none (vS "laterline.errors" 187) none (.ref 210) (.ref 204) 0)))) ::
  (nat_lit 212, (tO #[(vS "what" 440)])) ::
  (nat_lit 213, (oO (.type "dict") (Data.dict #[(dE P "__module__" 426 (vS "laterline.errors" 187)), (dE P "__firstlineno__" 430 (.int 42 429)), (dE P "__init__" 439 (.ref 211)), (dE P "__static_attributes__" 441 (.ref 212)), (dE P "__doc__" 443 Value.none)] 3))) ::
  (nat_lit 214, (Obj.mk (.type "type") none (Data.cls (ClassData.mk (qS "NoCount") [(.ref 24)] [(.ref 214), (.ref 24), (.type "ValueError"), (.type "Exception"), (.type "BaseException"), (.type "object")] 213 (qS "NoCount") Bool.true [] [] Bool.false none Bool.false)) #[(some (.ref 196)), none, (some (vS "NoCount" 419)), (some (vS "NoCount" 427)), (some (Value.builtin "ValueError.__new__")), (some (Value.bool Bool.true))])) ::
  (nat_lit 217, (tO #[])) ::
  (nat_lit 219, (tO #[(vS "thing" 455)])) ::
  (nat_lit 220, (tO #[])) ::
  (nat_lit 222, (oO (.type "code") (Data.fields #[(vS "is_number" 452), (vS "is_number" 453), (vS "/claim/cut.py" 454), (.int 49 0), (.int 1 0), (.int 0 0), (.int 0 0), (.int 3 0), (.ref 217), (Value.bool Bool.true), (.int 181 0), (.ref 218), Value.none, (.ref 219), (.ref 220), (.ref 221), (.int 456 0), (.int 49 0), (vS "/claim/cut.py" 457)]))) ::
  (nat_lit 223, (oO (.type "function") (Data.func (FuncData.mk (qS "is_number") (qS "is_number") (Hd.dArgs (top 13)) (.stmts (Hd.dBody (top 13))) (Hd.dScope (top 13)) 3 [] Value.none Value.none Value.none (vS "laterline.counts" 446) none (.ref 222) Value.none 0)))) ::
  (nat_lit 224, (tO #[])) ::
  (nat_lit 226, (tO #[(vS "thing" 462), (vS "least" 463), (vS "most" 464)])) ::
  (nat_lit 227, (tO #[])) ::
  (nat_lit 229, (oO (.type "code") (Data.fields #[(vS "is_within" 459), (vS "is_within" 460), (vS "/claim/cut.py" 461), (.int 51 0), (.int 3 0), (.int 0 0), (.int 0 0), (.int 3 0), (.ref 224), (Value.bool Bool.true), (.int 181 0), (.ref 225), Value.none, (.ref 226), (.ref 227), (.ref 228), (.int 465 0), (.int 51 0), (vS "/claim/cut.py" 466)]))) ::
  (nat_lit 230, (oO (.type "function") (Data.func (FuncData.mk (qS "is_within") (qS "is_within") (Hd.dArgs (top 14)) (.stmts (Hd.dBody (top 14))) (Hd.dScope (top 14)) 3 [] Value.none Value.none Value.none (vS "laterline.counts" 446) none (.ref 229) Value.none 0)))) ::
  (nat_lit 231, (tO #[])) ::
  (nat_lit 233, (tO #[(vS "thing" 471)])) ::
  (nat_lit 234, (tO #[])) ::
  (nat_lit 236, (oO (.type "code") (Data.fields #[(vS "is_place" 468), (vS "is_place" 469), (vS "/claim/cut.py" 470), (.int 53 0), (.int 1 0), (.int 0 0), (.int 0 0), (.int 3 0), (.ref 231), (Value.bool Bool.true), (.int 181 0), (.ref 232), Value.none, (.ref 233), (.ref 234), (.ref 235), (.int 472 0), (.int 53 0), (vS "/claim/cut.py" 473)]))) ::
  (nat_lit 237, (oO (.type "function") (Data.func (FuncData.mk (qS "is_place") (qS "is_place") (Hd.dArgs (top 15)) (.stmts (Hd.dBody (top 15))) (Hd.dScope (top 15)) 3 [] Value.none Value.none Value.none (vS "laterline.counts" 446) none (.ref 236) Value.none 0)))) ::
  (nat_lit 238, (tO #[])) ::
  (nat_lit 240, (tO #[(vS "thing" 486)])) ::
  (nat_lit 241, (tO #[])) ::
  (nat_lit 243, (oO (.type "code") (Data.fields #[(vS "is_line" 483), (vS "is_line" 484), (vS "/claim/cut.py" 485), (.int 58 0), (.int 1 0), (.int 0 0), (.int 0 0), (.int 3 0), (.ref 238), (Value.bool Bool.true), (.int 181 0), (.ref 239), Value.none, (.ref 240), (.ref 241), (.ref 242), (.int 487 0), (.int 58 0), (vS "/claim/cut.py" 488)]))) ::
  (nat_lit 244, (oO (.type "function") (Data.func (FuncData.mk (qS "is_line") (qS "is_line") (Hd.dArgs (top 19)) (.stmts (Hd.dBody (top 19))) (Hd.dScope (top 19)) 3 [] Value.none Value.none Value.none (vS "laterline.lines" 475) none (.ref 243) Value.none 0)))) ::
  (nat_lit 245, (tO #[])) ::
  (nat_lit 247, (tO #[(vS "thing" 493)])) ::
  (nat_lit 248, (tO #[])) ::
  (nat_lit 250, (oO (.type "code") (Data.fields #[(vS "is_line_and_place" 490), (vS "is_line_and_place" 491), (vS "/claim/cut.py" 492), (.int 60 0), (.int 1 0), (.int 0 0), (.int 0 0), (.int 3 0), (.ref 245), (Value.bool Bool.true), (.int 181 0), (.ref 246), Value.none, (.ref 247), (.ref 248), (.ref 249), (.int 494 0), (.int 60 0), (vS "/claim/cut.py" 495)]))) ::
  (nat_lit 251, (oO (.type "function") (Data.func (FuncData.mk (qS "is_line_and_place") (qS "is_line_and_place") (Hd.dArgs (top 20)) (.stmts (Hd.dBody (top 20))) (Hd.dScope (top 20)) 3 [] Value.none Value.none Value.none (vS "laterline.lines" 475) none (.ref 250) Value.none 0)))) ::
  (nat_lit 252, (tO #[])) ::
  (nat_lit 255, (oO (.type "code") (Data.fields #[(vS "is_history" 497), (vS "is_history" 498), (vS "/claim/cut.py" 499), (.int 62 0), (.int 1 0), (.int 0 0), (.int 0 0), (.int 3 0), (.ref 252), (Value.bool Bool.true), (.int 181 0), (.ref 253), Value.none, Value.none, Value.none, (.ref 254), (.int 500 0), (.int 62 0), (vS "/claim/cut.py" 501)]))) ::
  (nat_lit 256, (oO (.type "function") (Data.func (FuncData.mk (qS "is_history") (qS "is_history") (Hd.dArgs (top 21)) (.stmts (Hd.dBody (top 21))) (Hd.dScope (top 21)) 3 [] Value.none Value.none Value.none (vS "laterline.lines" 475) none (.ref 255) Value.none 0)))) ::
  (nat_lit 257, (tO #[])) ::
  (nat_lit 259, (tO #[(vS "thing" 506)])) ::
  (nat_lit 260, (tO #[])) ::
  (nat_lit 262, (oO (.type "code") (Data.fields #[(vS "require_history" 503), (vS "require_history" 504), (vS "/claim/cut.py" 505), (.int 68 0), (.int 1 0), (.int 0 0), (.int 0 0), (.int 3 0), (.ref 257), (Value.bool Bool.true), (.int 181 0), (.ref 258), Value.none, (.ref 259), (.ref 260), (.ref 261), (.int 507 0), (.int 68 0), (vS "/claim/cut.py" 508)]))) ::
  (nat_lit 263, (oO (.type "function") (Data.func (FuncData.mk (qS "require_history") (qS "require_history") (Hd.dArgs (top 22)) (.stmts (Hd.dBody (top 22))) (Hd.dScope (top 22)) 3 [] Value.none Value.none Value.none (vS "laterline.lines" 475) none (.ref 262) Value.none 0)))) ::
  (nat_lit 264, (tO #[])) ::
  (nat_lit 266, (tO #[(vS "history" 513), (vS "line" 514), (vS "fork" 515), (vS "last_line" 516), (vS "last_fork" 517)])) ::
  (nat_lit 267, (tO #[])) ::
  (nat_lit 269, (oO (.type "code") (Data.fields #[(vS "extended" 510), (vS "extended" 511), (vS "/claim/cut.py" 512), (.int 71 0), (.int 3 0), (.int 0 0), (.int 0 0), (.int 3 0), (.ref 264), (Value.bool Bool.true), (.int 181 0), (.ref 265), Value.none, (.ref 266), (.ref 267), (.ref 268), (.int 518 0), (.int 71 0), (vS "/claim/cut.py" 519)]))) ::
  (nat_lit 270, (oO (.type "function") (Data.func (FuncData.mk (qS "extended") (qS "extended") (Hd.dArgs (top 23)) (.stmts (Hd.dBody (top 23))) (Hd.dScope (top 23)) 3 [] Value.none Value.none Value.none (vS "laterline.lines" 475) none (.ref 269) Value.none 0)))) ::
  (nat_lit 271, (tO #[])) ::
  (nat_lit 273, (tO #[(vS "_law_script" 526), (vS "_law_cells" 527)])) ::
  (nat_lit 274, (tO #[])) ::
  (nat_lit 276, (oO (.type "code") (Data.fields #[(vS "_law_state" 523), (vS "_law_state" 524), (vS "/claim/cut.py" 525), (.int 82 0), (.int 1 0), (.int 0 0), (.int 0 0), (.int 3 0), (.ref 271), (Value.bool Bool.true), (.int 181 0), (.ref 272), Value.none, (.ref 273), (.ref 274), (.ref 275), (.int 528 0), (.int 82 0), (vS "/claim/cut.py" 529)]))) ::
  (nat_lit 277, (oO (.type "function") (Data.func (FuncData.mk (qS "_law_state") (qS "_law_state") (Hd.dArgs (top 25)) (.stmts (Hd.dBody (top 25))) (Hd.dScope (top 25)) 3 [] Value.none Value.none Value.none (vS "law_laterline_k15_histories_extended" 521) none (.ref 276) Value.none 0)))) ::
  (nat_lit 278, (tO #[])) ::
  (nat_lit 280, (tO #[(vS "_law_state_here" 534), (vS "_law_below" 535), (vS "_law_found" 536), (vS "_law_cells" 537), (vS "_law_cell" 538)])) ::
  (nat_lit 281, (tO #[])) ::
  (nat_lit 283, (oO (.type "code") (Data.fields #[(vS "_law_next" 531), (vS "_law_next" 532), (vS "/claim/cut.py" 533), (.int 87 0), (.int 2 0), (.int 0 0), (.int 0 0), (.int 3 0), (.ref 278), (Value.bool Bool.true), (.int 181 0), (.ref 279), Value.none, (.ref 280), (.ref 281), (.ref 282), (.int 539 0), (.int 87 0), (vS "/claim/cut.py" 540)]))) ::
  (nat_lit 284, (oO (.type "function") (Data.func (FuncData.mk (qS "_law_next") (qS "_law_next") (Hd.dArgs (top 26)) (.stmts (Hd.dBody (top 26))) (Hd.dScope (top 26)) 3 [] Value.none Value.none Value.none (vS "law_laterline_k15_histories_extended" 521) none (.ref 283) Value.none 0)))) ::
  (nat_lit 285, (tO #[])) ::
  (nat_lit 287, (tO #[(vS "_law_state_here" 545), (vS "_law_many" 546), (vS "_law_wide" 547), (vS "_law_line" 548), (vS "_law_found" 549), (vS "_law_k" 550)])) ::
  (nat_lit 288, (tO #[])) ::
  (nat_lit 290, (oO (.type "code") (Data.fields #[(vS "_law_history" 542), (vS "_law_history" 543), (vS "/claim/cut.py" 544), (.int 100 0), (.int 1 0), (.int 0 0), (.int 0 0), (.int 3 0), (.ref 285), (Value.bool Bool.true), (.int 181 0), (.ref 286), Value.none, (.ref 287), (.ref 288), (.ref 289), (.int 551 0), (.int 100 0), (vS "/claim/cut.py" 552)]))) ::
  (nat_lit 291, (oO (.type "function") (Data.func (FuncData.mk (qS "_law_history") (qS "_law_history") (Hd.dArgs (top 27)) (.stmts (Hd.dBody (top 27))) (Hd.dScope (top 27)) 3 [] Value.none Value.none Value.none (vS "law_laterline_k15_histories_extended" 521) none (.ref 290) Value.none 0)))) ::
  (nat_lit 292, (tO #[])) ::
  (nat_lit 294, (tO #[(vS "_law_found" 557), (vS "_law_due_here" 558), (vS "_law_one" 559), (vS "_law_other" 560)])) ::
  (nat_lit 295, (tO #[])) ::
  (nat_lit 297, (oO (.type "code") (Data.fields #[(vS "_law_alike" 554), (vS "_law_alike" 555), (vS "/claim/cut.py" 556), (.int 111 0), (.int 2 0), (.int 0 0), (.int 0 0), (.int 3 0), (.ref 292), (Value.bool Bool.true), (.int 181 0), (.ref 293), Value.none, (.ref 294), (.ref 295), (.ref 296), (.int 561 0), (.int 111 0), (vS "/claim/cut.py" 562)]))) ::
  (nat_lit 298, (oO (.type "function") (Data.func (FuncData.mk (qS "_law_alike") (qS "_law_alike") (Hd.dArgs (top 28)) (.stmts (Hd.dBody (top 28))) (Hd.dScope (top 28)) 3 [] Value.none Value.none Value.none (vS "law_laterline_k15_histories_extended" 521) none (.ref 297) Value.none 0)))) ::
  (nat_lit 299, (tO #[])) ::
  (nat_lit 301, (tO #[(vS "_law_call" 567), (vS "_law_handed" 568), (vS "_law_caught" 569), (vS "_law_error_here" 570)])) ::
  (nat_lit 302, (tO #[])) ::
  (nat_lit 304, (oO (.type "code") (Data.fields #[(vS "_law_error" 564), (vS "_law_error" 565), (vS "/claim/cut.py" 566), (.int 128 0), (.int 2 0), (.int 0 0), (.int 0 0), (.int 3 0), (.ref 299), (Value.bool Bool.true), (.int 181 0), (.ref 300), Value.none, (.ref 301), (.ref 302), (.ref 303), (.int 571 0), (.int 128 0), (vS "/claim/cut.py" 572)]))) ::
  (nat_lit 305, (oO (.type "function") (Data.func (FuncData.mk (qS "_law_error") (qS "_law_error") (Hd.dArgs (top 29)) (.stmts (Hd.dBody (top 29))) (Hd.dScope (top 29)) 3 [] Value.none Value.none Value.none (vS "law_laterline_k15_histories_extended" 521) none (.ref 304) Value.none 0)))) ::
  (nat_lit 306, (tO #[])) ::
  (nat_lit 309, (oO (.type "code") (Data.fields #[(vS "_law_names" 574), (vS "_law_names" 575), (vS "/claim/cut.py" 576), (.int 144 0), (.int 1 0), (.int 0 0), (.int 0 0), (.int 3 0), (.ref 306), (Value.bool Bool.true), (.int 181 0), (.ref 307), Value.none, Value.none, Value.none, (.ref 308), (.int 577 0), (.int 144 0), (vS "/claim/cut.py" 578)]))) ::
  (nat_lit 310, (oO (.type "function") (Data.func (FuncData.mk (qS "_law_names") (qS "_law_names") (Hd.dArgs (top 30)) (.stmts (Hd.dBody (top 30))) (Hd.dScope (top 30)) 3 [] Value.none Value.none Value.none (vS "law_laterline_k15_histories_extended" 521) none (.ref 309) Value.none 0)))) ::
  (nat_lit 311, (tO #[])) ::
  (nat_lit 313, (tO #[(vS "_law_call" 583), (vS "_law_handed" 584), (vS "_law_name" 585), (vS "_law_caught" 586), (vS "_law_turn" 587)])) ::
  (nat_lit 314, (tO #[])) ::
  (nat_lit 316, (oO (.type "code") (Data.fields #[(vS "_law_refused" 580), (vS "_law_refused" 581), (vS "/claim/cut.py" 582), (.int 150 0), (.int 3 0), (.int 0 0), (.int 0 0), (.int 3 0), (.ref 311), (Value.bool Bool.true), (.int 181 0), (.ref 312), Value.none, (.ref 313), (.ref 314), (.ref 315), (.int 588 0), (.int 150 0), (vS "/claim/cut.py" 589)]))) ::
  (nat_lit 317, (oO (.type "function") (Data.func (FuncData.mk (qS "_law_refused") (qS "_law_refused") (Hd.dArgs (top 31)) (.stmts (Hd.dBody (top 31))) (Hd.dScope (top 31)) 3 [] Value.none Value.none Value.none (vS "law_laterline_k15_histories_extended" 521) none (.ref 316) Value.none 0)))) ::
  (nat_lit 318, (tO #[])) ::
  (nat_lit 320, (tO #[(vS "_law_history_here" 594), (vS "_law_line" 595), (vS "_law_fork" 596), (vS "_law_odd_line" 597), (vS "_law_odd_fork" 598)])) ::
  (nat_lit 321, (tO #[])) ::
  (nat_lit 323, (oO (.type "code") (Data.fields #[(vS "_law_due" 591), (vS "_law_due" 592), (vS "/claim/cut.py" 593), (.int 157 0), (.int 5 0), (.int 0 0), (.int 0 0), (.int 3 0), (.ref 318), (Value.bool Bool.true), (.int 181 0), (.ref 319), Value.none, (.ref 320), (.ref 321), (.ref 322), (.int 599 0), (.int 157 0), (vS "/claim/cut.py" 600)]))) ::
  (nat_lit 324, (oO (.type "function") (Data.func (FuncData.mk (qS "_law_due") (qS "_law_due") (Hd.dArgs (top 32)) (.stmts (Hd.dBody (top 32))) (Hd.dScope (top 32)) 3 [] Value.none Value.none Value.none (vS "law_laterline_k15_histories_extended" 521) none (.ref 323) Value.none 0)))) ::
  (nat_lit 325, (tO #[])) ::
  (nat_lit 327, (tO #[(vS "_law_history_here" 605), (vS "_law_line" 606), (vS "_law_fork" 607), (vS "_law_odd_line" 608), (vS "_law_odd_fork" 609), (vS "_law_due_here" 610), (vS "_law_error_here" 611)])) ::
  (nat_lit 328, (tO #[])) ::
  (nat_lit 330, (oO (.type "code") (Data.fields #[(vS "_law_right" 602), (vS "_law_right" 603), (vS "/claim/cut.py" 604), (.int 165 0), (.int 5 0), (.int 0 0), (.int 0 0), (.int 3 0), (.ref 325), (Value.bool Bool.true), (.int 181 0), (.ref 326), Value.none, (.ref 327), (.ref 328), (.ref 329), (.int 612 0), (.int 165 0), (vS "/claim/cut.py" 613)]))) ::
  (nat_lit 331, (oO (.type "function") (Data.func (FuncData.mk (qS "_law_right") (qS "_law_right") (Hd.dArgs (top 33)) (.stmts (Hd.dBody (top 33))) (Hd.dScope (top 33)) 3 [] Value.none Value.none Value.none (vS "law_laterline_k15_histories_extended" 521) none (.ref 330) Value.none 0)))) ::
  (nat_lit 332, (tO #[])) ::
  (nat_lit 334, (tO #[(vS "_law_script" 618), (vS "_law_state_here" 619), (vS "_law_odd" 620), (vS "_law_turn" 621), (vS "_law_history_here" 622), (vS "_law_last" 623), (vS "_law_ahead" 624), (vS "_law_lines" 625), (vS "_law_forks" 626), (vS "_law_line" 627), (vS "_law_fork" 628), (vS "_law_strange" 629), (vS "_law_none" 630)])) ::
  (nat_lit 335, (tO #[])) ::
  (nat_lit 337, (oO (.type "code") (Data.fields #[(vS "law" 615), (vS "law" 616), (vS "/claim/cut.py" 617), (.int 171 0), (.int 1 0), (.int 0 0), (.int 0 0), (.int 3 0), (.ref 332), (Value.bool Bool.true), (.int 181 0), (.ref 333), Value.none, (.ref 334), (.ref 335), (.ref 336), (.int 631 0), (.int 171 0), (vS "/claim/cut.py" 632)]))) ::
  (nat_lit 338, (oO (.type "function") (Data.func (FuncData.mk (qS "law") (qS "law") (Hd.dArgs (top 34)) (.stmts (Hd.dBody (top 34))) (Hd.dScope (top 34)) 3 [] Value.none Value.none Value.none (vS "law_laterline_k15_histories_extended" 521) none (.ref 337) Value.none 0)))) :: []
noncomputable def KA : List Addr := [nat_lit 2, nat_lit 3, nat_lit 15, nat_lit 22, nat_lit 23, nat_lit 24, nat_lit 25, nat_lit 28, nat_lit 31, nat_lit 36, nat_lit 37, nat_lit 39, nat_lit 40, nat_lit 42, nat_lit 43, nat_lit 44, nat_lit 45, nat_lit 46, nat_lit 49, nat_lit 52, nat_lit 57, nat_lit 58, nat_lit 60, nat_lit 61, nat_lit 63, nat_lit 64, nat_lit 65, nat_lit 66, nat_lit 67, nat_lit 70, nat_lit 73, nat_lit 78, nat_lit 79, nat_lit 81, nat_lit 82, nat_lit 84, nat_lit 85, nat_lit 86, nat_lit 87, nat_lit 88, nat_lit 91, nat_lit 94, nat_lit 99, nat_lit 100, nat_lit 102, nat_lit 103, nat_lit 105, nat_lit 106, nat_lit 107, nat_lit 108, nat_lit 109, nat_lit 112, nat_lit 115, nat_lit 120, nat_lit 121, nat_lit 123, nat_lit 124, nat_lit 126, nat_lit 127, nat_lit 128, nat_lit 129, nat_lit 130, nat_lit 133, nat_lit 136, nat_lit 141, nat_lit 142, nat_lit 144, nat_lit 145, nat_lit 147, nat_lit 148, nat_lit 149, nat_lit 150, nat_lit 151, nat_lit 154, nat_lit 157, nat_lit 162, nat_lit 163, nat_lit 165, nat_lit 166, nat_lit 168, nat_lit 169, nat_lit 170, nat_lit 171, nat_lit 172, nat_lit 175, nat_lit 178, nat_lit 183, nat_lit 184, nat_lit 186, nat_lit 187, nat_lit 189, nat_lit 190, nat_lit 191, nat_lit 192, nat_lit 193, nat_lit 196, nat_lit 199, nat_lit 204, nat_lit 205, nat_lit 207, nat_lit 208, nat_lit 210, nat_lit 211, nat_lit 212, nat_lit 213, nat_lit 214, nat_lit 217, nat_lit 219, nat_lit 220, nat_lit 222, nat_lit 223, nat_lit 224, nat_lit 226, nat_lit 227, nat_lit 229, nat_lit 230, nat_lit 231, nat_lit 233, nat_lit 234, nat_lit 236, nat_lit 237, nat_lit 238, nat_lit 240, nat_lit 241, nat_lit 243, nat_lit 244, nat_lit 245, nat_lit 247, nat_lit 248, nat_lit 250, nat_lit 251, nat_lit 252, nat_lit 255, nat_lit 256, nat_lit 257, nat_lit 259, nat_lit 260, nat_lit 262, nat_lit 263, nat_lit 264, nat_lit 266, nat_lit 267, nat_lit 269, nat_lit 270, nat_lit 271, nat_lit 273, nat_lit 274, nat_lit 276, nat_lit 277, nat_lit 278, nat_lit 280, nat_lit 281, nat_lit 283, nat_lit 284, nat_lit 285, nat_lit 287, nat_lit 288, nat_lit 290, nat_lit 291, nat_lit 292, nat_lit 294, nat_lit 295, nat_lit 297, nat_lit 298, nat_lit 299, nat_lit 301, nat_lit 302, nat_lit 304, nat_lit 305, nat_lit 306, nat_lit 309, nat_lit 310, nat_lit 311, nat_lit 313, nat_lit 314, nat_lit 316, nat_lit 317, nat_lit 318, nat_lit 320, nat_lit 321, nat_lit 323, nat_lit 324, nat_lit 325, nat_lit 327, nat_lit 328, nat_lit 330, nat_lit 331, nat_lit 332, nat_lit 334, nat_lit 335, nat_lit 337, nat_lit 338]
theorem ke : ∀ P, KA = (KF P).map (·.1) := fun _ => by kernel_rfl
noncomputable def vw : Program := { PySem.Challenge.pw_laterline_k15_histories_extended with main := { PySem.Challenge.pw_laterline_k15_histories_extended.main with body := [top 1, top 2, top 3, top 4, top 5, top 6, top 7, top 8, top 9, top 10, top 12, top 13, top 14, top 15, top 17, top 18, top 19, top 20, top 21, top 22, top 23, top 25, top 26, top 27, top 28, top 29, top 30, top 31, top 32, top 33, top 34] } }
noncomputable def lv : List (Str × PySem.W.WData) := [("LAST_PLACE", (.int 1000000)), ("LAST_LINE", (.int 1000000000))]
noncomputable def lo : List Str := ["LAST_PLACE", "LAST_LINE"]
noncomputable def xt : Shared → Bool := fun s => PySem.W.xlAt vw lv s && PySem.W.recOk (PySem.W.RowW.records (PySem.W.OpenRow.toRowW (PySem.W.OpenLaw.row PySem.Challenge.rw_laterline_k15_histories_extended))) s
set_option maxHeartbeats 0 in
theorem ran : ∀ (w : World) (os : OsState), (Hd.topT PySem.treeTable PySem.Challenge.pw_laterline_k15_histories_extended w (PySem.W.boot_heap w.params).objs.size ((PySem.W.boot_heap w.params).nsMap mainGlobals "__annotations__") 6466 (Hd.start0 w.params os) (PySem.W.topStub PySem.Challenge.pw_laterline_k15_histories_extended)).map (fun s =>
    ((PySem.W.staticsOk (importedModules PySem.Challenge.pw_laterline_k15_histories_extended.main.body) (PySem.W.boot_heap w.params) s.abs.heap && PySem.W.namesBound PySem.Challenge.pw_laterline_k15_histories_extended s.abs.heap && PySem.W.gensDone s.abs && PySem.W.laidKept (PySem.W.boot_heap w.params) s.abs.heap), PySem.W.openSeen vw lo (importedModules PySem.Challenge.pw_laterline_k15_histories_extended.main.body) xt true s.abs, (PySem.W.kHook KF KA ke).obs s.abs)) = some (true, PySem.W.openGood vw lo, (PySem.W.kHook KF KA ke).val w) := by
  intro w os
  kernel_rfl
theorem left : PySem.W.LeftO PySem.Challenge.pw_laterline_k15_histories_extended vw lo xt (PySem.W.kHook KF KA ke).obs (PySem.W.kHook KF KA ke).val 6466 := Hd.left_of (by kernel_rfl) (by decide) (fun _ => by kernel_rfl) ran
end My
set_option maxRecDepth 100000
namespace L2
open PySem PySem.Spec PyProof.Rows

noncomputable abbrev Key := Sum Int Str
noncomputable def keyIs : Key → Value → Bool
  | .inl k, v => Value.isInt k v
  | .inr x, v => Value.isStrOf x v
noncomputable def keyH (w : World) : Key → Int
  | .inl k => hashInt k
  | .inr x => hashStr w x
theorem keyIs_shape : ∀ {k : Key} {v : Value}, keyIs k v = true → (∃ i t, k = Sum.inl i ∧ v = Value.int i t) ∨ (∃ x t, k = Sum.inr x ∧ v = Value.str x t)
  | .inl i, v, h => by
    obtain ⟨t, e⟩ := Value.isInt_shape (k := i) (v := v) h
    exact .inl ⟨i, t, rfl, e⟩
  | .inr x, v, h => by
    obtain ⟨t, e⟩ := Value.isStrOf_shape (x := x) (v := v) h
    exact .inr ⟨x, t, rfl, e⟩
theorem key_ll (a b : Int) : decide ((Sum.inl a : Key) = Sum.inl b) = (a == b) := by
  by_cases e : a = b
  · subst e; simp
  · have h : ¬ (Sum.inl a : Key) = Sum.inl b := fun q => e (Sum.inl.inj q)
    rw [decide_eq_false h]
    exact (beq_eq_false_iff_ne.mpr e).symm
theorem key_rr (a b : Str) : decide ((Sum.inr a : Key) = Sum.inr b) = decide (a = b) := by
  by_cases e : a = b
  · subst e; simp
  · have h : ¬ (Sum.inr a : Key) = Sum.inr b := fun q => e (Sum.inr.inj q)
    rw [decide_eq_false h, decide_eq_false e]
theorem key_lr (a : Int) (b : Str) : decide ((Sum.inl a : Key) = Sum.inr b) = false := decide_eq_false (fun q => nomatch q)
theorem key_rl (a : Str) (b : Int) : decide ((Sum.inr a : Key) = Sum.inl b) = false := decide_eq_false (fun q => nomatch q)

noncomputable def mixKind (prog : Program) (w : World) : PySem.KeyKind prog w Key where
  is := keyIs
  hash := keyH w
  inj := fun v a b ha hb => by
    rcases keyIs_shape ha with ⟨i, t, rfl, rfl⟩ | ⟨x, t, rfl, rfl⟩
    · rcases keyIs_shape hb with ⟨j, u, rfl, e⟩ | ⟨y, u, rfl, e⟩
      · injection e with e1 _; rw [e1]
      · exact nomatch e
    · rcases keyIs_shape hb with ⟨j, u, rfl, e⟩ | ⟨y, u, rfl, e⟩
      · exact nomatch e
      · injection e with e1 _; rw [e1]
  byValue := fun k v h => by
    rcases keyIs_shape h with ⟨i, t, rfl, rfl⟩ | ⟨x, t, rfl, rfl⟩ <;> rfl
  pyHash := fun hv h => by
    rcases keyIs_shape hv with ⟨i, t, rfl, rfl⟩ | ⟨x, t, rfl, rfl⟩
    · exact wpAny_pyHash_int h
    · exact wpAny_pyHash_str h
  eqBool := fun hu hv h => by
    rcases keyIs_shape hu with ⟨i, t, rfl, rfl⟩ | ⟨x, t, rfl, rfl⟩
    · rcases keyIs_shape hv with ⟨j, u, rfl, rfl⟩ | ⟨y, u, rfl, rfl⟩
      · rw [key_ll] at h; exact wpAny_eqBool_int h
      · rw [key_lr] at h; exact SeqAt.EqAt.int_str i t y u _ _ _ _ h
    · rcases keyIs_shape hv with ⟨j, u, rfl, rfl⟩ | ⟨y, u, rfl, rfl⟩
      · rw [key_rl] at h; exact SeqAt.EqAt.str_int x t j u _ _ _ _ h
      · rw [key_rr] at h; exact wpAny_eqBool_str h
  «strs» := fun k x t v h => by
    rcases keyIs_shape h with ⟨i, u, rfl, e⟩ | ⟨y, u, rfl, e⟩
    · exact nomatch e
    · injection e with e1 _
      subst e1
      cases v <;> rfl

end L2

namespace L2
open PySem PySem.Spec PyProof.Rows

inductive V where
  | non | bl (b : Bool) | int (i : Int) | str (x : Str) | byt (b : Array UInt8) | flt (b : UInt64) | ref (a : Addr) | ty (n : String)
  deriving DecidableEq

noncomputable def RelV : V → Value → Prop
  | .non, u => u = Value.none
  | .bl b, u => u = Value.bool b
  | .int i, u => ∃ t, u = Value.int i t
  | .str x, u => ∃ t, u = Value.str x t
  | .byt b, u => ∃ t, u = Value.bytes b t
  | .flt b, u => ∃ t, u = Value.float b t
  | .ref a, u => u = Value.ref a
  | .ty n, u => u = Value.type n

noncomputable abbrev Vals : List V → List Value → Prop := Paired RelV
theorem Vals.length {xs : List V} {us : List Value} (r : Vals xs us) : xs.length = us.length := Paired.length r
theorem Vals.get : ∀ {xs : List V} {us : List Value} {i : Nat} {x : V}, Vals xs us → xs[i]? = some x → ∃ u, us[i]? = some u ∧ RelV x u
  | _, _, _, _, .nil, e => by simp at e
  | _, _, 0, _, .cons r _, e => by simp at e; subst e; exact ⟨_, rfl, r⟩
  | _, _, i + 1, x, .cons _ t, e => by
    obtain ⟨u, h1, h2⟩ := Vals.get (i := i) (x := x) t (by simpa using e)
    exact ⟨u, by simpa using h1, h2⟩
theorem Vals.set {x : V} {u : Value} (r : RelV x u) : ∀ {xs : List V} {us : List Value} (i : Nat), Vals xs us → Vals (xs.set i x) (us.set i u)
  | _, _, _, .nil => .nil
  | _, _, 0, .cons _ t => .cons r t
  | _, _, i + 1, .cons q t => .cons q (Vals.set r i t)
theorem Vals.append : ∀ {xs ys : List V} {us ws : List Value}, Vals xs us → Vals ys ws → Vals (xs ++ ys) (us ++ ws)
  | _, _, _, _, .nil, s => s
  | _, _, _, _, .cons r t, s => .cons r (Vals.append t s)
theorem Vals.take : ∀ {xs : List V} {us : List Value} (n : Nat), Vals xs us → Vals (xs.take n) (us.take n)
  | _, _, 0, _ => .nil
  | _, _, _ + 1, .nil => .nil
  | _, _, n + 1, .cons r t => .cons r (Vals.take n t)
theorem Vals.drop : ∀ {xs : List V} {us : List Value} (n : Nat), Vals xs us → Vals (xs.drop n) (us.drop n)
  | _, _, 0, r => r
  | _, _, _ + 1, .nil => .nil
  | _, _, n + 1, .cons _ t => Vals.drop n t
noncomputable def RelO : Option V → Option Value → Prop
  | some v, some u => RelV v u
  | none, none => True
  | _, _ => False
noncomputable def KV {κ : Type} : List (κ × V) → List (κ × Value) → Prop := Paired fun (p : κ × V) (q : κ × Value) => p.1 = q.1 ∧ RelV p.2 q.2

noncomputable def kV : Key → V
  | .inl i => .int i
  | .inr x => .str x

inductive HO where
  | lst (xs : List V)
  | tup (xs : List V)
  | dK (kvs : List (Key × V)) | dT (kvs : List (List Key × V))
  | set (S : Int → Bool) (n : Nat)
  | ins (C dx : Addr) (fs : List (Str × V))
  | own (x : Addr)
  | xd (fs : List (Str × V))
  | met (f x : Addr)
  | rng (lo hi : Int)
  | frz (o : Obj) (u : HO)
  | tbl (ps : Array Value)
  | ext (φ : Heap → Prop)

noncomputable abbrev Hp := Addr → Option HO
noncomputable def upd (H : Hp) (a : Addr) (o : HO) : Hp := fun b => if b = a then some o else H b
theorem upd_same {H : Hp} {a : Addr} {o : HO} : upd H a o a = some o := by unfold upd; rw [if_pos rfl]
theorem upd_ne {H : Hp} {a b : Addr} {o : HO} (h : b ≠ a) : upd H a o b = H b := by unfold upd; rw [if_neg h]
theorem upd_upd {H : Hp} {a : Addr} {o u : HO} : upd (upd H a o) a u = upd H a u := by
  funext b; unfold upd; split <;> rfl
theorem ne_of_none {H : Hp} {a b : Addr} {o : HO} (h : H a = some o) (h' : H b = none) : a ≠ b := by
  intro e; subst e; rw [h] at h'; cases h'

section
variable (P : Program) (w : World)
noncomputable def ObjOk (H : Hp) (h : Heap) (a : Addr) : HO → Prop
  | .lst xs => xs.length ≤ sizeLine ∧ ∃ (its : List Value) (n : Nat), Vals xs its ∧ h.get? a = some { cls := .type "list", data := .seq its.toArray n }
  | .tup xs => xs.length ≤ sizeLine ∧ ∃ its : List Value, Vals xs its ∧ IsTup h a its.toArray
  | .dK kvs => kvs.length ≤ sizeLine ∧ (a == sysModules) = false ∧ ∃ vs, KV kvs vs ∧ h.DictOf (mixKind P w) a vs
  | .dT kvs => kvs.length ≤ sizeLine ∧ (a == sysModules) = false ∧ ∃ xs : List (List Key × Addr × Value),
      Paired (fun (p : List Key × V) (q : List Key × Addr × Value) => p.1 = q.1 ∧ H q.2.1 = some (.tup (p.1.map kV)) ∧ RelV p.2 q.2.2) kvs xs ∧
      ∃ o es ep, h.get? a = some o ∧ o.ExactDict ∧ o.data = .dict es ep ∧ es.toList = xs.map (entryOfKey (tupleKind (mixKind P w))) ∧ (xs.map (·.1)).Nodup
  | .set S n => h.SetOf (intKind P w) a S n
  | .ins C dx fs => H dx = some (.own a) ∧ fs.length ≤ 1000 ∧ dx ≠ a ∧ h.get? a = some (PySem.W.instObj C dx) ∧
      ∃ mA, h.Ns1 dx mA ∧ (∀ f, RelO (fs.lookup f) (mA f)) ∧ PySem.Within mA (fs.map (·.1))
  | .own _ => ∃ o, h.get? a = some o
  | .xd fs => ∃ mA, h.Ns1 a mA ∧ ∀ f, RelO (fs.lookup f) (mA f)
  | .rng lo hi => ∃ t u v, h.get? a = some { cls := .type "range", data := .fields #[.int lo t, .int hi u, .int 1 v] }
  | .frz o u => h.get? a = some o ∧ ObjOk H h a u
  | .tbl ps => h.get? a = some { cls := .none, data := .fields ps }
  | .met f x => h.get? a = some (PySem.W.methodObj (.ref f) (.ref x))
  | .ext φ => φ h ∧ (∃ o, h.get? a = some o) ∧ ∀ h1 h2 : Heap, φ h1 → (∀ o, h1.get? a = some o → h2.get? a = some o) → φ h2
noncomputable def HOk (H : Hp) (h : Heap) : Prop := ∀ a o, H a = some o → ObjOk P w H h a o
end

section
variable {P : Program} {w : World} {H H' : Hp} {h h' : Heap} {a : Addr} {o : HO}
theorem ObjOk.lt (x : ObjOk P w H h a o) : a < h.objs.size := by
  cases o with
  | lst xs => obtain ⟨_, _, _, _, e⟩ := x; exact Heap.lt_size e
  | tup xs => obtain ⟨_, _, _, p⟩ := x; exact p.lt
  | dK kvs => obtain ⟨_, _, _, _, o, _, _, e, _⟩ := x; exact Heap.lt_size e
  | dT kvs => obtain ⟨_, _, _, _, o, _, _, e, _⟩ := x; exact Heap.lt_size e
  | set S n => obtain ⟨o, _, _, _, e, _⟩ := x; exact Heap.lt_size e
  | ins C dx fs => obtain ⟨_, _, _, e, _⟩ := x; exact Heap.lt_size e
  | own y => obtain ⟨_, e⟩ := x; exact Heap.lt_size e
  | xd fs => obtain ⟨_, ⟨_, _, _, e, _⟩, _⟩ := x; exact Heap.lt_size e
  | rng lo hi => obtain ⟨_, _, _, e⟩ := x; exact Heap.lt_size e
  | frz ob u => obtain ⟨e, _⟩ := x; exact Heap.lt_size e
  | tbl ps => exact Heap.lt_size (show h.get? a = some _ from x)
  | met f y => exact Heap.lt_size (show h.get? a = some _ from x)
  | ext φ => obtain ⟨_, ⟨_, e⟩, _⟩ := x; exact Heap.lt_size e
theorem Paired.mapP {α β : Type} {F G : α → β → Prop} : ∀ {l₁ : List α} {l₂ : List β}, Paired F l₁ l₂ → (∀ a b, F a b → G a b) → Paired G l₁ l₂
  | _, _, .nil, _ => .nil
  | _, _, .cons r t, f => .cons (f _ _ r) (Paired.mapP t f)
theorem ObjOk.stay (x : ObjOk P w H h a o) (k : ∀ b u, (b = a ∨ H b = some (.own a)) → h.get? b = some u → h'.get? b = some u)
    (ho : ∀ b, H b = some (.own a) → H' b = some (.own a)) (ht : ∀ b xs, H b = some (.tup xs) → H' b = some (.tup xs)) : ObjOk P w H' h' a o := by
  induction o with
  | lst xs => obtain ⟨z, its, n, r, e⟩ := x; exact ⟨z, its, n, r, k _ _ (.inl rfl) e⟩
  | tup xs => obtain ⟨z, its, r, ob, e, c⟩ := x; exact ⟨z, its, r, ob, k _ _ (.inl rfl) e, c⟩
  | dK kvs => obtain ⟨z, y, vs, r, ob, es, ep, e, c⟩ := x; exact ⟨z, y, vs, r, ob, es, ep, k _ _ (.inl rfl) e, c⟩
  | dT kvs =>
    obtain ⟨z, y, xs, r, ob, es, ep, e, c⟩ := x
    exact ⟨z, y, xs, Paired.mapP r fun p q z => ⟨z.1, ht _ _ z.2.1, z.2.2⟩, ob, es, ep, k _ _ (.inl rfl) e, c⟩
  | set S n => obtain ⟨ob, es, ep, t, e, c⟩ := x; exact ⟨ob, es, ep, t, k _ _ (.inl rfl) e, c⟩
  | ins C dx fs =>
    obtain ⟨d, z, ne, e, mA, ⟨od, es, ep, e2, c⟩, r⟩ := x
    exact ⟨ho _ d, z, ne, k _ _ (.inl rfl) e, mA, ⟨od, es, ep, k _ _ (.inr d) e2, c⟩, r⟩
  | own y => obtain ⟨ob, e⟩ := x; exact ⟨ob, k _ _ (.inl rfl) e⟩
  | xd fs => obtain ⟨mA, ⟨od, es, ep, e, c⟩, r⟩ := x; exact ⟨mA, ⟨od, es, ep, k _ _ (.inl rfl) e, c⟩, r⟩
  | rng lo hi => obtain ⟨t, u, v, e⟩ := x; exact ⟨t, u, v, k _ _ (.inl rfl) e⟩
  | frz ob u ih => obtain ⟨e, q⟩ := x; exact ⟨k _ _ (.inl rfl) e, ih q⟩
  | tbl ps =>
    have e : h.get? a = some { cls := .none, data := .fields ps } := x
    show h'.get? a = some { cls := .none, data := .fields ps }
    exact k a _ (.inl rfl) e
  | met f y =>
    have e : h.get? a = some (PySem.W.methodObj (.ref f) (.ref y)) := x
    show h'.get? a = some (PySem.W.methodObj (.ref f) (.ref y))
    exact k a _ (.inl rfl) e
  | ext φ => obtain ⟨p, ⟨o, e⟩, st⟩ := x; exact ⟨st _ _ p fun o q => k _ _ (.inl rfl) q, ⟨o, k _ _ (.inl rfl) e⟩, st⟩
theorem HOk.lt (x : HOk P w H h) (e : H a = some o) : a < h.objs.size := (x a o e).lt
theorem HOk.fresh (x : HOk P w H h) (e : h.objs.size ≤ a) : H a = none := by
  cases q : H a with
  | none => rfl
  | some u => exact absurd (Nat.lt_of_lt_of_le (x.lt q) e) (Nat.lt_irrefl _)
theorem HOk.kept (x : HOk P w H h) (k : ∀ b u, h.get? b = some u → h'.get? b = some u) : HOk P w H h' := fun a o e =>
  (x a o e).stay (fun b u _ q => k b u q) (fun _ q => q) fun _ _ q => q
theorem HOk.laid (x : HOk P w H h) (k : ∀ b u, h.get? b = some u → h'.get? b = some u) (hp : h.objs.size ≤ a) (new : ObjOk P w (upd H a o) h' a o) : HOk P w (upd H a o) h' := fun b u e => by
  have hn := x.fresh hp
  by_cases hb : b = a
  · subst hb; rw [upd_same] at e; cases e; exact new
  · rw [upd_ne hb] at e
    exact (x b u e).stay (fun c v _ q => k c v q) (fun c q => by rw [upd_ne (ne_of_none q hn)]; exact q) fun c xs q => by rw [upd_ne (ne_of_none q hn)]; exact q
end

noncomputable def Rd (H : Hp) (a : Addr) (u : HO) : Prop := H a = some u ∨ ∃ o, H a = some (.frz o u)
theorem Rd.of {H : Hp} {a : Addr} {u : HO} (h : H a = some u) : Rd H a u := .inl h
theorem Rd.ok {P : Program} {w : World} {H : Hp} {h : Heap} {a : Addr} {u : HO} (r : Rd H a u) (x : HOk P w H h) : ObjOk P w H h a u := by
  rcases r with r | ⟨o, r⟩
  · exact x a u r
  · obtain ⟨_, q⟩ := x a _ r
    exact q
noncomputable def Mut : Option HO → Prop
  | some (.lst _) => True
  | some (.dK _) => True
  | some (.dT _) => True
  | some (.set _ _) => True
  | some (.ins _ _ _) => True
  | some (.ext _) => True
  | _ => False
section
variable {P : Program} {w : World} {H : Hp} {h h' : Heap} {x e : Addr} {o' : HO}
theorem HOk.write (ok : HOk P w H h) (mu : Mut (H x)) (he : e = x ∨ H e = some (.own x)) (k : ∀ b u, b ≠ e → h.get? b = some u → h'.get? b = some u) (heo : ∃ u, h'.get? e = some u)
    (new : ObjOk P w (upd H x o') h' x o') : HOk P w (upd H x o') h' := fun b u q => by
  have nown : ∀ c y, H c = some (.own y) → c ≠ x := fun c y r z => by subst z; rw [r] at mu; exact mu
  have ntup : ∀ c xs, H c = some (.tup xs) → c ≠ x := fun c xs r z => by subst z; rw [r] at mu; exact mu
  by_cases hb : b = x
  · subst hb; rw [upd_same] at q; cases q; exact new
  · rw [upd_ne hb] at q
    by_cases hbe : b = e
    · have q' : H b = some (.own x) := by
        rcases he with z | z
        · exact absurd (hbe.trans z) hb
        · rw [hbe]; exact z
      rw [q] at q'; cases q'
      obtain ⟨v, hv⟩ := heo
      exact ⟨v, by rw [hbe]; exact hv⟩
    · refine (ok b u q).stay (fun c v hc r => k c v ?_ r) (fun c r => by rw [upd_ne (nown c b r)]; exact r) fun c xs r => by rw [upd_ne (ntup c xs r)]; exact r
      rcases hc with rfl | hc
      · exact hbe
      · rintro rfl
        rcases he with z | z
        · exact nown c b hc z
        · rw [hc] at z; cases z; exact hb rfl
end

structure Un (fs ex : List Addr) (H H' : Hp) (h h' : Heap) : Prop where
  keep : ∀ b o, h.get? b = some o → H b = none → b ∉ fs → b ∉ ex → h'.get? b = some o
  slot : ∀ b o, h.get? b = some o → H b = none → b ∈ fs → b ∉ ex → ∃ sl, h'.get? b = some { o with slots := sl }
  free : ∀ b o, h.get? b = some o → H b = none → b ∉ ex → H' b = none
  there : ∀ b o, h.get? b = some o → b ∉ ex → ∃ o', h'.get? b = some o'
  tups : ∀ b xs, H b = some (.tup xs) → H' b = some (.tup xs)
  frzs : ∀ b o u, H b = some (.frz o u) → H' b = some (.frz o u)
  tbls : ∀ b ps, H b = some (.tbl ps) → ∃ more, H' b = some (.tbl (ps ++ more))
section
variable {fs fs' ex ex' : List Addr} {H H1 H2 : Hp} {h h1 h2 h' : Heap} {a x e : Addr} {o : HO}
theorem Un.any (u : Un fs ex H H1 h h1) {b : Addr} {ob : Obj} (q : h.get? b = some ob) (n : H b = none) (hx : b ∉ ex) : ∃ sl, h1.get? b = some { ob with slots := sl } := by
  by_cases hb : b ∈ fs
  · exact u.slot b ob q n hb hx
  · exact ⟨ob.slots, u.keep b ob q n hb hx⟩
theorem Un.trans (a : Un fs ex H H1 h h1) (b : Un fs ex H1 H2 h1 h2) : Un fs ex H H2 h h2 where
  keep := fun c ob q n hc hx => b.keep c ob (a.keep c ob q n hc hx) (a.free c ob q n hx) hc hx
  slot := fun c ob q n hc hx => by
    obtain ⟨sl, e1⟩ := a.slot c ob q n hc hx
    obtain ⟨sl', e2⟩ := b.slot c _ e1 (a.free c ob q n hx) hc hx
    exact ⟨sl', e2⟩
  free := fun c ob q n hx => by
    obtain ⟨o', e1⟩ := a.there c ob q hx
    exact b.free c o' e1 (a.free c ob q n hx) hx
  there := fun c ob q hx => by
    obtain ⟨o', e1⟩ := a.there c ob q hx
    exact b.there c o' e1 hx
  tups := fun c xs q => b.tups c xs (a.tups c xs q)
  frzs := fun c ob xs q => b.frzs c ob xs (a.frzs c ob xs q)
  tbls := fun c ps q => by
    obtain ⟨m1, e1⟩ := a.tbls c ps q
    obtain ⟨m2, e2⟩ := b.tbls c _ e1
    exact ⟨m1 ++ m2, by rw [e2, Array.append_assoc]⟩
theorem Un.kept (k : ∀ b u, h.get? b = some u → h'.get? b = some u) : Un fs ex H H h h' :=
  ⟨fun b ob q _ _ _ => k b ob q, fun b ob q _ _ _ => ⟨ob.slots, k b ob q⟩, fun _ _ _ n _ => n, fun b ob q _ => ⟨ob, k b ob q⟩, fun _ _ q => q, fun _ _ _ q => q, fun _ ps q => ⟨#[], by rw [q]; simp⟩⟩
theorem Un.refl : Un fs ex H H h h := Un.kept fun _ _ q => q
theorem Un.laid (k : ∀ b u, h.get? b = some u → h'.get? b = some u) (hp : h.objs.size ≤ a) (hn : H a = none) : Un fs ex H (upd H a o) h h' where
  keep := fun b u q _ _ _ => k b u q
  slot := fun b u q _ _ _ => ⟨u.slots, k b u q⟩
  free := fun b u q n _ => by rw [upd_ne (Nat.ne_of_lt (Nat.lt_of_lt_of_le (Heap.lt_size q) hp))]; exact n
  there := fun b u q _ => ⟨u, k b u q⟩
  tups := fun b xs q => by rw [upd_ne (ne_of_none q hn)]; exact q
  frzs := fun b u xs q => by rw [upd_ne (ne_of_none q hn)]; exact q
  tbls := fun b ps q => ⟨#[], by rw [upd_ne (ne_of_none q hn), q]; simp⟩
theorem Un.write (mu : Mut (H x)) (he : e = x ∨ H e = some (.own x)) (k : ∀ b u, b ≠ e → h.get? b = some u → h'.get? b = some u) (heo : ∃ u, h'.get? e = some u) : Un fs ex H (upd H x o) h h' := by
  have hx : ∀ b, H b = none → b ≠ x := fun b n z => by subst z; rw [n] at mu; exact mu
  have hb : ∀ b, H b = none → b ≠ e := fun b n z => by
    subst z
    rcases he with r | r
    · exact hx b n r
    · rw [n] at r; cases r
  have hm : ∀ b u, H b = some u → ¬ Mut (some u) → b ≠ x := fun b u q nm z => by subst z; rw [q] at mu; exact nm mu
  refine ⟨fun b u q n _ _ => k b u (hb b n) q, fun b u q n _ _ => ⟨u.slots, k b u (hb b n) q⟩, fun b u q n _ => by rw [upd_ne (hx b n)]; exact n, fun b u q _ => ?_,
    fun b xs q => by rw [upd_ne (hm b _ q fun z => z)]; exact q, fun b u xs q => by rw [upd_ne (hm b _ q fun z => z)]; exact q, fun b ps q => ⟨#[], by rw [upd_ne (hm b _ q fun z => z), q]; simp⟩⟩
  by_cases hbe : b = e
  · subst hbe; exact heo
  · exact ⟨u, k b u hbe q⟩
theorem Un.mono (u : Un fs ex H H1 h h1) (hs : ∀ b ∈ fs, b ∈ fs') (hx : ∀ b ∈ ex, b ∈ ex') : Un fs' ex' H H1 h h1 :=
  ⟨fun b ob q n hb he => u.keep b ob q n (fun z => hb (hs b z)) fun z => he (hx b z), fun _ _ q n _ he => u.any q n fun z => he (hx _ z), fun b ob q n he => u.free b ob q n fun z => he (hx b z), fun b ob q he => u.there b ob q fun z => he (hx b z), u.tups, u.frzs, u.tbls⟩
end

noncomputable def trk (h : Heap) (H : Hp) : List Addr := (List.range h.objs.size).filter fun a => (H a).isSome
noncomputable def hidT (h : Heap) (H : Hp) : Heap := PySem.W.hideAll h (trk h H)
theorem hidT_size (h : Heap) (H : Hp) : (hidT h H).objs.size = h.objs.size := PySem.W.hideAll_size _ _
theorem hidT_get {h : Heap} {H : Hp} {b : Addr} {o : Obj} (e : h.get? b = some o) (n : H b = none) : (hidT h H).get? b = some o :=
  PySem.W.hideAll_get _ e fun hm => by
    have q : (H b).isSome = true := (List.mem_filter.mp hm).2
    rw [n] at q; simp at q
theorem of_hidT {h : Heap} {H : Hp} {b : Addr} {o : Obj} (e : (hidT h H).get? b = some o) : h.get? b = some o ∧ H b = none := by
  have e' : h.get? b = some o := PySem.W.of_hideAll (trk h H) e
  refine ⟨e', ?_⟩
  cases q : H b with
  | none => rfl
  | some x =>
    have hm : b ∈ trk h H := List.mem_filter.mpr ⟨List.mem_range.mpr (Heap.lt_size e'), by simp [q]⟩
    have z : (hidT h H).get? b = none := PySem.W.hideAll_none (trk h H) hm
    rw [z] at e; cases e

noncomputable def allNews (g h : Heap) (L : Addr) : List (Addr × Obj) := (List.range h.objs.size).filterMap fun a => if a = L ∨ (g.get? a).isSome = true then none else (h.get? a).map fun o => (a, o)
noncomputable def rest (g h : Heap) (L d : Addr) : List (Addr × Obj) := (allNews g h L).filter fun p => decide (p.1 ≠ d)
end L2

namespace L2
open PySem PySem.Spec PyProof.Rows

structure Mod (K : PySem.W.Frag) (mg : Str → Option Value) (base : Heap) : Prop where
  kin : K.In base
  glob : base.Ns mainGlobals mg
  blt : ∃ mb, base.Ns builtinsNs mb ∧ ∀ x : Str, x ≠ "__name__" → mb x = bootBuiltins x
  nolimit : base.NoLimit

structure Cx where
  prog : Program
  w : World
  K : PySem.W.Frag
  mg : Str → Option Value
  base : Heap
  A : Around
  N : List Str
  s₀ : Shared
  H₀ : Hp
  env : Env
  outer : List Env
  stack : List Env
  ex : List Addr
  fn : Str → Bool
  calm : Bool
  pn : List (Addr × Obj)
  xe : Value → Shared → Prop
noncomputable def frs (l : List Env) : List Addr := l.filterMap (·.frame)
noncomputable abbrev Cx.fs (X : Cx) : List Addr := frs X.outer

noncomputable def Vis (sc : Scope) (x : Str) : Prop := sc.names.lookup x = some .local ∨ sc.names.lookup x = some .cell ∨ sc.names.lookup x = some .free
noncomputable def Loc (sc : Scope) (x : Str) : Prop := sc.names.lookup x = some .local ∨ sc.names.lookup x = some .cell
noncomputable def Look (env : Env) (h : Heap) (m : Str → Option Value) (x : Str) (u : Value) : Prop :=
  (env.kindOf x = some .local ∧ m x = some u) ∨ ((env.kindOf x = some .cell ∨ env.kindOf x = some .free) ∧ ∃ c, env.cells.lookup x = some c ∧ h.IsCell c (some u))

structure Cx.Ok (X : Cx) : Prop where
  mod : Mod X.K X.mg X.base
  kind : X.env.scope.kind = .function
  glob : X.env.globals = mainGlobals
  blt : X.env.builtins = builtinsNs
  above : X.s₀.heap.objs.size ≤ X.env.locals
  inj : ∀ x y c, X.env.cells.lookup x = some c → X.env.cells.lookup y = some c → x = y
  has : ∀ x, (X.env.kindOf x = some .cell ∨ X.env.kindOf x = some .free) → ∃ c, X.env.cells.lookup x = some c
  cab : ∀ x c, X.fn x = true → X.env.cells.lookup x = some c → X.s₀.heap.objs.size ≤ c
  hd : X.calm = true → X.A.handled = none
  frames : X.A.frames = some X.stack
  stk : X.stack = X.outer ∨ (X.stack = X.env :: X.outer ∧ X.env.frame = some X.env.locals)
  exf : ∀ b ∈ X.ex, b ≠ X.env.locals ∧ ∀ x c, X.env.cells.lookup x = some c → c ≠ b
  bs : ∀ b o, X.base.get? b = some o → X.s₀.heap.get? b = some o ∧ X.H₀ b = none
  bsz : X.base.objs.size ≤ X.s₀.heap.objs.size
  noex : ∀ b o, X.base.get? b = some o → b ∉ X.ex
  exfs : ∀ b ∈ X.ex, b ∉ X.fs
  funs : X.s₀.heap.FunFrames X.base X.outer
  frf : ∀ b ∈ X.fs, X.H₀ b = none

structure Inv (X : Cx) (pins : List (Addr × Obj)) (σ : List (Option V)) (H : Hp) (s : Shared) : Prop where
  ok : X.Ok
  os : s.os = X.s₀.os
  bare : AllBare s.gens
  base : Un X.fs X.ex X.H₀ H X.s₀.heap s.heap
  loc : ∃ m, s.heap.Ns X.env.locals m ∧ ∀ (i : Nat) (x : Str) (v : V), X.N[i]? = some x → σ[i]? = some (some v) → Vis X.env.scope x → ∃ u, RelV v u ∧ Look X.env s.heap m x u
  cell : ∀ x c, X.env.cells.lookup x = some c → ∃ v, s.heap.IsCell c v
  free : H X.env.locals = none
  freeC : ∀ x c, X.env.cells.lookup x = some c → H c = none
  pin : ∀ p ∈ X.pn ++ pins, s.heap.get? p.1 = some p.2 ∧ H p.1 = none ∧ p.1 ≠ X.env.locals ∧ p.1 ∉ X.fs ∧ ∀ v, p.2.data ≠ .cell v
  hok : HOk X.prog X.w H s.heap
  len : σ.length = X.N.length

section
variable {X : Cx} {pins : List (Addr × Obj)} {σ : List (Option V)} {H H' : Hp} {s : Shared} {h' : Heap}

theorem Cx.Ok.nofr (ok : X.Ok) {b : Addr} {o : Obj} (e : X.base.get? b = some o) : b ∉ X.fs := fun hb => by
  have := (ok.funs.mem hb).1
  rw [e] at this; cases this
theorem Inv.bs (I : Inv X pins σ H s) : ∀ b o, X.base.get? b = some o → s.heap.get? b = some o ∧ H b = none := fun b o e =>
  ⟨I.base.keep b o (I.ok.bs b o e).1 (I.ok.bs b o e).2 (I.ok.nofr e) (I.ok.noex b o e), I.base.free b o (I.ok.bs b o e).1 (I.ok.bs b o e).2 (I.ok.noex b o e)⟩
theorem Inv.bk (I : Inv X pins σ H s) : ∀ b o, X.base.get? b = some o → s.heap.get? b = some o := fun b o e => (I.bs b o e).1
theorem Inv.mod (I : Inv X pins σ H s) : Mod X.K X.mg X.base := I.ok.mod
theorem Inv.kIn (I : Inv X pins σ H s) : X.K.In s.heap := I.ok.mod.kin.keeps I.bk
theorem Inv.nolimit (I : Inv X pins σ H s) : s.heap.NoLimit := I.ok.mod.nolimit.keeps I.bk
theorem Inv.fr (I : Inv X pins σ H s) : ∃ m, Fr X.base X.env.locals s.heap m :=
  let ⟨m, hn, _⟩ := I.loc
  ⟨m, hn, I.bk, Nat.le_trans I.ok.bsz I.ok.above⟩
theorem Inv.lt (I : Inv X pins σ H s) : X.env.locals < s.heap.objs.size := let ⟨_, hn, _⟩ := I.loc; hn.lt
theorem Inv.sz (I : Inv X pins σ H s) : X.s₀.heap.objs.size ≤ s.heap.objs.size := Nat.le_trans I.ok.above (Nat.le_of_lt I.lt)
theorem Inv.nofs (I : Inv X pins σ H s) {a : Addr} (h : s.heap.objs.size ≤ a) : a ∉ X.fs := fun hb => by
  obtain ⟨_, o, ho, _⟩ := I.ok.funs.mem hb
  exact absurd (Nat.lt_of_lt_of_le (Heap.lt_size ho) (Nat.le_trans I.sz h)) (Nat.lt_irrefl _)
theorem Inv.cne (I : Inv X pins σ H s) : ∀ x c, X.env.cells.lookup x = some c → c ≠ X.env.locals := fun x c e z => by
  obtain ⟨v, o, ho, hd⟩ := I.cell x c e
  obtain ⟨m, ⟨o', es, ep, ho', hd', _⟩, _⟩ := I.loc
  rw [z, ho'] at ho; cases ho; rw [hd'] at hd; cases hd
theorem Inv.funs (I : Inv X pins σ H s) : s.heap.FunFrames X.base X.outer := by
  have all : ∀ (l : List Env), (∀ b ∈ frs l, b ∈ X.fs) → X.s₀.heap.FunFrames X.base l → s.heap.FunFrames X.base l := by
    intro l
    induction l with
    | nil => intro _ _; trivial
    | cons env r ih =>
      intro hs hl
      obtain ⟨hk, ⟨L, o, hf, hn, ho, hd⟩, hr⟩ := hl
      have hL : L ∈ X.fs := hs L (by unfold frs; rw [List.filterMap_cons, hf]; exact List.mem_cons_self)
      obtain ⟨sl, e⟩ := I.base.slot L o ho (I.ok.frf L hL) hL fun z => I.ok.exfs L z hL
      exact ⟨hk, ⟨L, _, hf, hn, e, hd⟩, ih (fun b hb => hs b (by unfold frs; rw [List.filterMap_cons, hf]; exact List.mem_cons_of_mem _ hb)) hr⟩
  exact all X.outer (fun _ hb => hb) I.ok.funs

theorem Inv.stack (I : Inv X pins σ H s) : s.heap.FunFrames X.base X.stack := by
  rcases I.ok.stk with e | ⟨e, hf⟩
  · rw [e]; exact I.funs
  · rw [e]
    obtain ⟨m, hn, _⟩ := I.loc
    refine .cons (by rw [I.ok.kind]; decide) hf hn ?_ I.funs
    exact Heap.get?_none_of_le (Nat.le_trans I.ok.bsz I.ok.above)
theorem Inv.stkSub (I : Inv X pins σ H s) : ∀ b ∈ frs X.stack, b ∈ X.env.locals :: X.fs := fun b hb => by
  rcases I.ok.stk with e | ⟨e, hf⟩
  · rw [e] at hb; exact List.mem_cons_of_mem _ hb
  · rw [e] at hb
    unfold frs at hb
    rw [List.filterMap_cons, hf] at hb
    exact hb
theorem Inv.stkFree (I : Inv X pins σ H s) : ∀ b ∈ frs X.stack, H b = none := fun b hb => by
  rcases List.mem_cons.mp (I.stkSub b hb) with e | hb
  · rw [e]; exact I.free
  · obtain ⟨_, o, ho, _⟩ := I.ok.funs.mem hb
    exact I.base.free b o ho (I.ok.frf b hb) fun z => I.ok.exfs b z hb

theorem Inv.step {g' : Array GenState} {t' : Nat} {d' : Drawn} {ch : List Addr} (I : Inv X pins σ H s)
    (hch : ∀ b ∈ ch, (b ∈ X.ex ∨ X.s₀.heap.objs.size ≤ b) ∧ b ≠ X.env.locals ∧ (∀ x c, X.env.cells.lookup x = some c → c ≠ b) ∧ ∀ p ∈ X.pn ++ pins, p.1 ≠ b)
    (keep : ∀ b o, b ≠ X.env.locals → b ∉ X.fs → b ∉ ch → s.heap.get? b = some o → H b = none → h'.get? b = some o)
    (slot : ∀ b o, b ≠ X.env.locals → b ∈ X.fs → b ∉ ch → s.heap.get? b = some o → H b = none → ∃ sl, h'.get? b = some { o with slots := sl }) (free : ∀ b o, b ∉ ch → s.heap.get? b = some o → H b = none → H' b = none)
    (there : ∀ b o, b ∉ ch → s.heap.get? b = some o → ∃ o', h'.get? b = some o')
    (tups : ∀ b xs, H b = some (.tup xs) → H' b = some (.tup xs)) (frzs : ∀ b o u, H b = some (.frz o u) → H' b = some (.frz o u)) (tbls : ∀ b ps, H b = some (.tbl ps) → ∃ more, H' b = some (.tbl (ps ++ more)))
    (ns : ∀ m, s.heap.Ns X.env.locals m → h'.Ns X.env.locals m) (hok : HOk X.prog X.w H' h') (hg : AllBare g') :
    Inv X pins σ H' { s with heap := h', gens := g', drawn := d', toks := t' } := by
  have neL : ∀ b o, X.s₀.heap.get? b = some o → b ≠ X.env.locals := fun b o e => Nat.ne_of_lt (Nat.lt_of_lt_of_le (Heap.lt_size e) I.ok.above)
  have neC : ∀ b o, X.s₀.heap.get? b = some o → b ∉ X.ex → b ∉ ch := fun b o e hx hb => by
    rcases (hch b hb).1 with z | z
    · exact hx z
    · exact absurd (Nat.lt_of_lt_of_le (Heap.lt_size e) z) (Nat.lt_irrefl _)
  have cellK : ∀ x c, X.env.cells.lookup x = some c → ∀ v, s.heap.IsCell c v → h'.IsCell c v := fun x c e v ⟨o, ho, hd⟩ => by
    have nch : c ∉ ch := fun z => (hch c z).2.2.1 x c e rfl
    by_cases hc : c ∈ X.fs
    · obtain ⟨sl, q⟩ := slot c o (I.cne x c e) hc nch ho (I.freeC x c e)
      exact ⟨_, q, hd⟩
    · exact ⟨o, keep c o (I.cne x c e) hc nch ho (I.freeC x c e), hd⟩
  refine ⟨I.ok, I.os, hg, ⟨fun b o e n hb hx => ?_, fun b o e n hb hx => ?_, fun b o e n hx => ?_, fun b o e hx => ?_, fun b xs e => tups b xs (I.base.tups b xs e), fun b o xs e => frzs b o xs (I.base.frzs b o xs e), fun b ps e => ?_⟩, ?_, fun x c e => ?_, ?_, fun x c e => ?_, fun p hp => ?_, hok, I.len⟩
  · exact keep b o (neL b o e) hb (neC b o e hx) (I.base.keep b o e n hb hx) (I.base.free b o e n hx)
  · obtain ⟨sl, e1⟩ := I.base.slot b o e n hb hx
    obtain ⟨sl', e2⟩ := slot b _ (neL b o e) hb (neC b o e hx) e1 (I.base.free b o e n hx)
    exact ⟨sl', e2⟩
  · obtain ⟨o', e1⟩ := I.base.there b o e hx
    exact free b o' (neC b o e hx) e1 (I.base.free b o e n hx)
  · obtain ⟨o', e1⟩ := I.base.there b o e hx
    exact there b o' (neC b o e hx) e1
  · obtain ⟨m1, e1⟩ := I.base.tbls b ps e
    obtain ⟨m2, e2⟩ := tbls b _ e1
    exact ⟨m1 ++ m2, by rw [e2, Array.append_assoc]⟩
  · obtain ⟨m, hn, hl⟩ := I.loc
    refine ⟨m, ns m hn, fun i x v e1 e2 e3 => ?_⟩
    obtain ⟨u, r, l⟩ := hl i x v e1 e2 e3
    refine ⟨u, r, ?_⟩
    rcases l with l | ⟨k, c, e, z⟩
    · exact .inl l
    · exact .inr ⟨k, c, e, cellK x c e _ z⟩
  · obtain ⟨v, z⟩ := I.cell x c e
    exact ⟨v, cellK x c e v z⟩
  · obtain ⟨m, ⟨o, _, _, ho, _⟩, _⟩ := I.loc
    exact free _ o (fun z => (hch _ z).2.1 rfl) ho I.free
  · obtain ⟨v, o, ho, hd⟩ := I.cell x c e
    exact free c o (fun z => (hch c z).2.2.1 x c e rfl) ho (I.freeC x c e)
  · obtain ⟨e, n, ne, nf, d⟩ := I.pin p hp
    have nch : p.1 ∉ ch := fun z => (hch p.1 z).2.2.2 p hp rfl
    exact ⟨keep p.1 p.2 ne nf nch e n, free p.1 p.2 nch e n, ne, nf, d⟩
theorem Inv.un {t' : Nat} (I : Inv X pins σ H s) (u : Un X.fs [] H H' s.heap h') (hok : HOk X.prog X.w H' h') : Inv X pins σ H' { s with heap := h', toks := t' } := by
  obtain ⟨m, ⟨o, es, ep, ho, r⟩, _⟩ := id I.loc
  obtain ⟨sl, hL⟩ := u.any ho I.free (by simp)
  exact I.step (g' := s.gens) (d' := s.drawn) (ch := []) (fun _ z => nomatch z) (fun b o _ hb _ e n => u.keep b o e n hb (by simp)) (fun b o _ hb _ e n => u.slot b o e n hb (by simp)) (fun b o _ e n => u.free b o e n (by simp)) (fun b o _ e => u.there b o e (by simp)) u.tups u.frzs u.tbls (fun m' hm => by
    obtain ⟨o', es', ep', ho', r'⟩ := hm
    rw [ho] at ho'; cases ho'
    exact ⟨_, es', ep', hL, r'⟩) hok I.bare
theorem Inv.call {g' : Array GenState} {t' : Nat} {d' : Drawn} {ch : List Addr} (I : Inv X pins σ H s) (u : Un (frs X.stack) ch H H' s.heap h') (hok : HOk X.prog X.w H' h') (hg : AllBare g')
    (hch : ∀ b ∈ ch, (b ∈ X.ex ∨ X.s₀.heap.objs.size ≤ b) ∧ b ≠ X.env.locals ∧ (∀ x c, X.env.cells.lookup x = some c → c ≠ b) ∧ ∀ p ∈ X.pn ++ pins, p.1 ≠ b) :
    Inv X pins σ H' { s with heap := h', gens := g', drawn := d', toks := t' } := by
  obtain ⟨m, ⟨o, es, ep, ho, r⟩, _⟩ := id I.loc
  obtain ⟨sl, hL⟩ := u.any ho I.free fun z => (hch _ z).2.1 rfl
  exact I.step (ch := ch) hch (fun b o hL hb hc e n => u.keep b o e n (fun z => (List.mem_cons.mp (I.stkSub b z)).elim hL hb) hc) (fun b o _ _ hc e n => u.any e n hc) (fun b o hc e n => u.free b o e n hc) (fun b o hc e => u.there b o e hc) u.tups u.frzs u.tbls (fun m' hm => by
    obtain ⟨o', es', ep', ho', r'⟩ := hm
    rw [ho] at ho'; cases ho'
    exact ⟨_, es', ep', hL, r'⟩) hok hg
theorem Inv.turned {t' : Nat} {it : Addr} (I : Inv X pins σ H s) (k : ∀ b o, b ≠ it → s.heap.get? b = some o → h'.get? b = some o) (hn : H it = none) (hL : it ≠ X.env.locals)
    (h1 : it ∈ X.ex ∨ X.s₀.heap.objs.size ≤ it) (h2 : ∀ x c, X.env.cells.lookup x = some c → c ≠ it) (h3 : ∀ p ∈ X.pn ++ pins, p.1 ≠ it) : Inv X pins σ H { s with heap := h', toks := t' } := by
  have nit : ∀ b u, H b = some u → b ≠ it := fun b u e z => by rw [z, hn] at e; cases e
  refine I.step (g' := s.gens) (d' := s.drawn) (ch := [it]) (fun b hb => ?_) (fun b o _ _ hc e _ => k b o (fun z => hc (by simp [z])) e) (fun b o _ _ hc e _ => ⟨o.slots, k b o (fun z => hc (by simp [z])) e⟩) (fun _ _ _ _ n => n)
    (fun b o hc e => ⟨o, k b o (fun z => hc (by simp [z])) e⟩) (fun _ _ e => e) (fun _ _ _ e => e) (fun b ps e => ⟨#[], by rw [e]; simp⟩) (fun m hm => ?_) (fun b u e => ?_) I.bare
  · have e : b = it := by simpa using hb
    subst e
    exact ⟨h1, hL, h2, h3⟩
  · obtain ⟨o, es, ep, ho, r⟩ := hm
    exact ⟨o, es, ep, k _ o (Ne.symm hL) ho, r⟩
  · refine (I.hok b u e).stay (fun c v hc q => k c v ?_ q) (fun _ q => q) fun _ _ q => q
    rcases hc with z | z
    · rw [z]; exact nit b u e
    · exact nit c _ z
theorem Inv.tok (I : Inv X pins σ H s) (t : Nat) : Inv X pins σ H { s with toks := t } := I.un (h' := s.heap) (t' := t) Un.refl I.hok
theorem Inv.kept {t' : Nat} (I : Inv X pins σ H s) (k : ∀ b u, s.heap.get? b = some u → h'.get? b = some u) : Inv X pins σ H { s with heap := h', toks := t' } := I.un (Un.kept k) (I.hok.kept k)
theorem Inv.laid {a : Addr} {o : HO} {t' : Nat} (I : Inv X pins σ H s) (k : ∀ b u, s.heap.get? b = some u → h'.get? b = some u) (hp : s.heap.objs.size ≤ a) (new : ObjOk X.prog X.w (upd H a o) h' a o) :
    Inv X pins σ (upd H a o) { s with heap := h', toks := t' } := I.un (Un.laid k hp (I.hok.fresh hp)) (I.hok.laid k hp new)
theorem Inv.write {x e : Addr} {o : HO} {t' : Nat} (I : Inv X pins σ H s) (mu : Mut (H x)) (he : e = x ∨ H e = some (.own x)) (k : ∀ b u, b ≠ e → s.heap.get? b = some u → h'.get? b = some u) (heo : ∃ u, h'.get? e = some u)
    (new : ObjOk X.prog X.w (upd H x o) h' x o) : Inv X pins σ (upd H x o) { s with heap := h', toks := t' } := I.un (Un.write mu he k heo) (I.hok.write mu he k heo new)
theorem Inv.pins_of {pins' : List (Addr × Obj)} (I : Inv X pins σ H s) (h : ∀ p ∈ pins', s.heap.get? p.1 = some p.2 ∧ H p.1 = none ∧ p.1 ≠ X.env.locals ∧ p.1 ∉ X.fs ∧ ∀ v, p.2.data ≠ .cell v) : Inv X pins' σ H s :=
  ⟨I.ok, I.os, I.bare, I.base, I.loc, I.cell, I.free, I.freeC, fun p hp => (List.mem_append.mp hp).elim (fun z => I.pin p (List.mem_append_left _ z)) (h p), I.hok, I.len⟩

theorem nodup_ix {N : List Str} (hN : N.Nodup) {i j : Nat} {x : Str} (a : N[i]? = some x) (b : N[j]? = some x) : i = j := by
  obtain ⟨h1, e1⟩ := List.getElem?_eq_some_iff.mp a
  obtain ⟨h2, e2⟩ := List.getElem?_eq_some_iff.mp b
  exact (List.getElem_inj hN).mp (e1.trans e2.symm)

theorem store_ok2 {M : Model} {A : Around} {E : Value → Shared → Prop} {i : Nat} {x : Str} {v : V} {u : Value} {Q : Unit → Shared → Prop} (I : Inv X pins σ H s) (hN : X.N.Nodup) (hi : X.N[i]? = some x) (hx : Loc X.env.scope x) (r : RelV v u)
    (h : ∀ s', Inv X pins (σ.set i (some v)) H s' → (∃ a, Heap.SameBut a s.heap s'.heap ∧ (a = X.env.locals ∨ X.env.cells.lookup x = some a)) → Q () s') (hf : X.fn x = true ∨ X.env.scope.names.lookup x = some .local := by first | exact .inl rfl | exact .inr rfl | assumption) : wpAny M A (storeName X.env x u) Q E s := by
  obtain ⟨m, hn, hl⟩ := id I.loc
  have hcls : (X.env.scope.kind == .class || (X.env.scope.kind == .module && X.env.locals != X.env.globals)) = false := by rw [I.ok.kind]; rfl
  have hiσ : i < σ.length := by rw [I.len]; exact (List.getElem?_eq_some_iff.mp hi).1
  have cne := I.cne
  have tracked : ∀ {a : Addr} {h' : Heap}, (∃ o, s.heap.get? a = some o ∧ H a = none) → Heap.SameBut a s.heap h' → HOk X.prog X.w H h' := fun {a h'} ha hs b ob e => by
    obtain ⟨_, _, hfree⟩ := ha
    refine (I.hok b ob e).stay (fun c w' hc q => (hs.2 c ?_).trans q) (fun _ q => q) fun _ _ q => q
    rintro rfl
    rcases hc with rfl | hc
    · rw [hfree] at e; cases e
    · rw [hfree] at hc; cases hc
  rcases hx with hk | hk
  · refine wpAny_storeName_local hk hn (fun h' hn' hs => ?_) hcls
    obtain ⟨oL, _, _, hoL, _⟩ := id hn
    refine h _ ⟨I.ok, I.os, I.bare, ⟨fun b o e n hb hx => ?_, fun b o e n hb hx => ?_, I.base.free, fun b o e hx => ?_, I.base.tups, I.base.frzs, I.base.tbls⟩, ⟨_, hn', fun j y v' e1 e2 e3 => ?_⟩, fun y c e => ?_, I.free, I.freeC, fun p hp => ?_, tracked ⟨oL, hoL, I.free⟩ hs, by simpa using I.len⟩ ⟨_, hs, .inl rfl⟩
    · exact (hs.2 b (Nat.ne_of_lt (Nat.lt_of_lt_of_le (Heap.lt_size e) I.ok.above))).trans (I.base.keep b o e n hb hx)
    · obtain ⟨sl, e1⟩ := I.base.slot b o e n hb hx
      exact ⟨sl, (hs.2 b (Nat.ne_of_lt (Nat.lt_of_lt_of_le (Heap.lt_size e) I.ok.above))).trans e1⟩
    · obtain ⟨o', e1⟩ := I.base.there b o e hx
      exact ⟨o', (hs.2 b (Nat.ne_of_lt (Nat.lt_of_lt_of_le (Heap.lt_size e) I.ok.above))).trans e1⟩
    · by_cases hj : j = i
      · subst hj
        rw [hi] at e1; cases e1
        rw [List.getElem?_set_self hiσ] at e2
        cases e2
        exact ⟨u, r, .inl ⟨hk, by simp⟩⟩
      · rw [List.getElem?_set_ne (Ne.symm hj)] at e2
        obtain ⟨u', r', q⟩ := hl j y v' e1 e2 e3
        refine ⟨u', r', ?_⟩
        rcases q with ⟨k, e⟩ | ⟨k, c, e, z⟩
        · refine .inl ⟨k, ?_⟩
          have : y ≠ x := fun e => hj (nodup_ix hN e1 (e ▸ hi))
          simp [this, e]
        · exact .inr ⟨k, c, e, z.sameBut hs (cne y c e)⟩
    · obtain ⟨w', z⟩ := I.cell y c e
      exact ⟨w', z.sameBut hs (cne y c e)⟩
    · obtain ⟨e, n, ne, nf, d⟩ := I.pin p hp
      exact ⟨(hs.2 p.1 ne).trans e, n, ne, nf, d⟩
  · have hfn : X.fn x = true := by
      rcases hf with z | z
      · exact z
      · rw [z] at hk; cases hk
    obtain ⟨c, hc⟩ := I.ok.has x (.inl hk)
    obtain ⟨w', z⟩ := I.cell x c hc
    refine wpAny_storeName_cell I.ok.kind hk hc z (fun h' hc' hs => ?_)
    obtain ⟨oc, hoc, hocd⟩ := id z
    refine h { s with heap := h' } ⟨I.ok, I.os, I.bare, ⟨fun b o e n hb hx => ?_, fun b o e n hb hx => ?_, I.base.free, fun b o e hx => ?_, I.base.tups, I.base.frzs, I.base.tbls⟩, ⟨m, hn.sameBut hs (Ne.symm (cne x c hc)), fun j y v' e1 e2 e3 => ?_⟩, fun y c' e => ?_, I.free, I.freeC, fun p hp => ?_, tracked ⟨oc, hoc, I.freeC x c hc⟩ hs, by simpa using I.len⟩ ⟨c, hs, .inr hc⟩
    · exact (hs.2 b (Nat.ne_of_lt (Nat.lt_of_lt_of_le (Heap.lt_size e) (I.ok.cab x c hfn hc)))).trans (I.base.keep b o e n hb hx)
    · obtain ⟨sl, e1⟩ := I.base.slot b o e n hb hx
      exact ⟨sl, (hs.2 b (Nat.ne_of_lt (Nat.lt_of_lt_of_le (Heap.lt_size e) (I.ok.cab x c hfn hc)))).trans e1⟩
    · obtain ⟨o', e1⟩ := I.base.there b o e hx
      exact ⟨o', (hs.2 b (Nat.ne_of_lt (Nat.lt_of_lt_of_le (Heap.lt_size e) (I.ok.cab x c hfn hc)))).trans e1⟩
    · by_cases hj : j = i
      · subst hj
        rw [hi] at e1; cases e1
        rw [List.getElem?_set_self hiσ] at e2
        cases e2
        exact ⟨u, r, .inr ⟨.inl hk, c, hc, hc'⟩⟩
      · rw [List.getElem?_set_ne (Ne.symm hj)] at e2
        obtain ⟨u', r', q⟩ := hl j y v' e1 e2 e3
        refine ⟨u', r', ?_⟩
        rcases q with q | ⟨k, c', e, z'⟩
        · exact .inl q
        · refine .inr ⟨k, c', e, z'.sameBut hs ?_⟩
          rintro rfl
          exact hj (nodup_ix hN e1 (I.ok.inj _ _ _ e hc ▸ hi))
    · by_cases hcc : c' = c
      · subst hcc; exact ⟨_, hc'⟩
      · obtain ⟨w2, z2⟩ := I.cell y c' e
        exact ⟨w2, z2.sameBut hs hcc⟩
    · obtain ⟨e, n, ne, nf, d⟩ := I.pin p hp
      refine ⟨(hs.2 p.1 ?_).trans e, n, ne, nf, d⟩
      intro q
      rw [q, hoc] at e
      have q' : oc = p.2 := Option.some.inj e
      exact d w' (by rw [← q']; exact hocd)
theorem store_ok {M : Model} {A : Around} {E : Value → Shared → Prop} {i : Nat} {x : Str} {v : V} {u : Value} {Q : Unit → Shared → Prop} (I : Inv X pins σ H s) (hN : X.N.Nodup) (hi : X.N[i]? = some x) (hx : Loc X.env.scope x) (r : RelV v u)
    (h : ∀ s', Inv X pins (σ.set i (some v)) H s' → Q () s') (hf : X.fn x = true ∨ X.env.scope.names.lookup x = some .local := by first | exact .inl rfl | exact .inr rfl | assumption) : wpAny M A (storeName X.env x u) Q E s :=
  store_ok2 I hN hi hx r (fun s' I' _ => h s' I') hf
end

noncomputable abbrev XK := Value → Option Addr → Hp → Prop
noncomputable abbrev St := List (Option V)
noncomputable abbrev VK := V → Hp → Prop
noncomputable abbrev TE := St → Hp → VK → Prop
noncomputable abbrev TT := St → Hp → (Bool → Hp → Prop) → Prop
noncomputable abbrev TA := St → Hp → (List V → Hp → Prop) → Prop
structure Ends where
  nx : St → Hp → Prop
  rt : VK
  bk : St → Hp → Prop := fun _ _ => False
  ct : St → Hp → Prop := fun _ _ => False
noncomputable abbrev TS := Ends → St → Hp → Prop

noncomputable def EP (X : Cx) (pins : List (Addr × Obj)) (σ : St) (Q : VK) (u : Value) (s' : Shared) : Prop := ∃ v H', Inv X pins σ H' s' ∧ RelV v u ∧ Q v H'
noncomputable def TP (X : Cx) (pins : List (Addr × Obj)) (σ : St) (Q : Bool → Hp → Prop) (b : Bool) (s' : Shared) : Prop := ∃ H', Inv X pins σ H' s' ∧ Q b H'
noncomputable def AP (X : Cx) (pins : List (Addr × Obj)) (σ : St) (Q : List V → Hp → Prop) (us : List Value) (s' : Shared) : Prop := ∃ vs H', Inv X pins σ H' s' ∧ Vals vs us ∧ Q vs H'
noncomputable def SP (X : Cx) (pins : List (Addr × Obj)) (D : Ends) (f : Flow) (s' : Shared) : Prop :=
  match f with
  | .next => ∃ σ' H', Inv X pins σ' H' s' ∧ D.nx σ' H'
  | .brk => ∃ σ' H', Inv X pins σ' H' s' ∧ D.bk σ' H'
  | .cont => ∃ σ' H', Inv X pins σ' H' s' ∧ D.ct σ' H'
  | .ret u => ∃ v σ' H', Inv X pins σ' H' s' ∧ RelV v u ∧ D.rt v H'

noncomputable def PE (X : Cx) (e : Expr) (t : TE) : Prop :=
  ∀ (pins : List (Addr × Obj)) (s : Shared) (σ : St) (H : Hp) (Q : VK), Inv X pins σ H s → t σ H Q → wpAny (model X.prog X.w) X.A (eval e X.env) (EP X pins σ Q) X.xe s
noncomputable def PT (X : Cx) (e : Expr) (t : TT) : Prop :=
  ∀ (pins : List (Addr × Obj)) (s : Shared) (σ : St) (H : Hp) (Q : Bool → Hp → Prop), Inv X pins σ H s → t σ H Q → wpAny (model X.prog X.w) X.A (isTrue e X.env (eval e X.env)) (TP X pins σ Q) X.xe s
noncomputable def PW (X : Cx) (e : Expr) (t : TT) : Prop :=
  ∀ (whole : Sem Value) (pins : List (Addr × Obj)) (s : Shared) (σ : St) (H : Hp) (Q : Bool → Hp → Prop), Inv X pins σ H s → t σ H Q → wpAny (model X.prog X.w) X.A (isTrue e X.env whole) (TP X pins σ Q) X.xe s
theorem PW.pt {X : Cx} {e : Expr} {t : TT} (h : PW X e t) : PT X e t := h _
noncomputable def PA (X : Cx) (es : List Expr) (t : TA) : Prop :=
  ∀ (pos : Pos) (pins : List (Addr × Obj)) (s : Shared) (σ : St) (H : Hp) (Q : List V → Hp → Prop), Inv X pins σ H s → t σ H Q → wpAny (model X.prog X.w) X.A (spliced (backTo pos (starEach es X.env))) (AP X pins σ Q) X.xe s
noncomputable def PS (X : Cx) (st : Stmt) (t : TS) : Prop :=
  ∀ (pins : List (Addr × Obj)) (s : Shared) (σ : St) (H : Hp) (D : Ends), Inv X pins σ H s → t D σ H → wpAny (model X.prog X.w) X.A (exec st X.env) (SP X pins D) X.xe s
noncomputable def PSs (X : Cx) (st : List Stmt) (t : TS) : Prop :=
  ∀ (pins : List (Addr × Obj)) (s : Shared) (σ : St) (H : Hp) (D : Ends), Inv X pins σ H s → t D σ H → wpAny (model X.prog X.w) X.A (execs st X.env) (SP X pins D) X.xe s
theorem thn {α : Type} {t : Sem α} {Q Q' : α → Shared → Prop} {M : Model} {A : Around} {E : Value → Shared → Prop} {s : Shared} (h : wpAny M A t Q E s) (hQ : ∀ a s, Q a s → Q' a s) : wpAny M A t Q' E s := wpAny_mono h hQ fun _ _ x => x
end L2

namespace L2
open PySem PySem.Spec PyProof.Rows
section
variable {X : Cx}

noncomputable def tVar (i : Nat) : TE := fun σ H Q => ∃ v, σ[i]? = some (some v) ∧ Q v H
noncomputable def tC (v : V) : TE := fun _ H Q => Q v H
theorem pe_var {i : Nat} {x : Str} {pos : Pos} (hN : X.N[i]? = some x) (hv : Vis X.env.scope x) (hd : (x == ("__debug__" : Str)) = false := by decide) (hcd : (x == ("__classdict__" : Str)) = false := by decide) : PE X (.Name x pos) (tVar i) := by
  intro pins s σ H Q I h
  obtain ⟨v, e, h⟩ := h
  obtain ⟨m, hn, hl⟩ := I.loc
  obtain ⟨u, r, l⟩ := hl i x v hN e hv
  have fin : EP X pins σ Q u s := ⟨v, H, I, r, h⟩
  rcases l with ⟨hk, hm⟩ | ⟨hk, c, hc, hcell⟩
  · exact wpAny_Name (wpAny_loadName_local I.ok.kind hk hn hm fin) hd
  · rcases hk with hk | hk
    · exact wpAny_Name (wpAny_loadName_cell I.ok.kind hk hc hcell fin) hd
    · exact wpAny_Name (wpAny_loadName_free I.ok.kind hk hc hcell fin hcd) hd
theorem pe_int {i j pos} : PE X (.Constant (.int i) j pos) (tC (.int i)) := fun _ _ _ H _ I h => wpAny_Constant_int ⟨.int i, H, I.tok _, ⟨_, rfl⟩, h⟩
theorem pe_bl {b j pos} : PE X (.Constant (.bool b) j pos) (tC (.bl b)) := fun _ _ _ H _ I h => Constant_bool ⟨.bl b, H, I, rfl, h⟩
theorem pe_non {j pos} : PE X (.Constant .none j pos) (tC .non) := fun _ _ _ H _ I h => Constant_none ⟨.non, H, I, rfl, h⟩
theorem pe_str {x j pos} : PE X (.Constant (.str x) j pos) (tC (.str x)) := fun _ _ _ H _ I h => Calls.Constant_str ⟨.str x, H, I.tok _, ⟨_, rfl⟩, h⟩

noncomputable def Gl (X : Cx) (x : Str) : Prop := X.env.kindOf x = some .globalImplicit
theorem ld_glob {E : Value → Shared → Prop} {pins : List (Addr × Obj)} {s : Shared} {σ : St} {H : Hp} {x : Str} {u : Value} {pos : Pos} {Q : Value → Shared → Prop} (I : Inv X pins σ H s) (hg : Gl X x) (hm : X.mg x = some u) (h : Q u s)
    (hd : (x == ("__debug__" : Str)) = false := by decide) : wpAny (model X.prog X.w) X.A (eval (.Name x pos) X.env) Q E s :=
  Calls.Name_function_global I.ok.kind hg (Calls.loadGlobal_global (by rw [I.ok.glob]; exact I.mod.glob.keeps I.bk) hm h) hd
theorem ld_blt {E : Value → Shared → Prop} {pins : List (Addr × Obj)} {s : Shared} {σ : St} {H : Hp} {x : Str} {u : Value} {pos : Pos} {Q : Value → Shared → Prop} (I : Inv X pins σ H s) (hg : Gl X x) (hm : X.mg x = none) (hv : bootBuiltins x = some u) (h : Q u s)
    (hn : x ≠ "__name__" := by decide) (hd : (x == ("__debug__" : Str)) = false := by decide) : wpAny (model X.prog X.w) X.A (eval (.Name x pos) X.env) Q E s := by
  obtain ⟨mb, h1, h2⟩ := I.mod.blt
  exact Calls.Name_function_global I.ok.kind hg (Calls.loadGlobal_builtin (by rw [I.ok.glob]; exact I.mod.glob.keeps I.bk) hm (by rw [I.ok.blt]; exact h1.keeps I.bk) ((h2 x hn).trans hv) h) hd
theorem pe_glob {x : Str} {v : V} {u : Value} {pos : Pos} (hg : Gl X x) (hm : X.mg x = some u) (r : RelV v u) (hd : (x == ("__debug__" : Str)) = false := by decide) : PE X (.Name x pos) (tC v) :=
  fun _ _ _ H _ I h => ld_glob I hg hm ⟨v, H, I, r, h⟩ hd
theorem pe_bltn {x : Str} {v : V} {u : Value} {pos : Pos} (hg : Gl X x) (hm : X.mg x = none) (hv : bootBuiltins x = some u) (r : RelV v u) (hn : x ≠ "__name__" := by decide) (hd : (x == ("__debug__" : Str)) = false := by decide) : PE X (.Name x pos) (tC v) :=
  fun _ _ _ H _ I h => ld_blt I hg hm hv ⟨v, H, I, r, h⟩ hn hd

noncomputable def t2I (ta tb : TE) (k : Int → Int → Hp → Prop) : St → Hp → Prop := fun σ H => ta σ H fun x H1 => tb σ H1 fun y H2 => ∃ i j, x = .int i ∧ y = .int j ∧ k i j H2
noncomputable def tAdd (ta tb : TE) : TE := fun σ H Q => t2I ta tb (fun i j H2 => Q (.int (i + j)) H2) σ H
noncomputable def tSub (ta tb : TE) : TE := fun σ H Q => t2I ta tb (fun i j H2 => Q (.int (i - j)) H2) σ H
noncomputable def tMul (ta tb : TE) : TE := fun σ H Q => t2I ta tb (fun i j H2 => (-(2 ^ 64) < i ∧ i < 2 ^ 64) ∧ Q (.int (i * j)) H2) σ H
variable {a b : Expr} {ta tb : TE} {pos : Pos}
noncomputable def PC (X : Cx) (op : CmpOp) (a b : Expr) (t : TE) : Prop :=
  ∀ (pins : List (Addr × Obj)) (s : Shared) (σ : St) (H : Hp) (Q : VK), Inv X pins σ H s → t σ H Q →
    wpAny (model X.prog X.w) X.A (eval a X.env) (fun v s₁ => wpAny (model X.prog X.w) X.A (eval b X.env) (fun u s₂ => wpAny (model X.prog X.w) X.A (compareOp op v u) (EP X pins σ Q) X.xe s₂) X.xe s₁) X.xe s
noncomputable def tCmp (p : Int → Int → Bool) (ta tb : TE) : TE := fun σ H Q => t2I ta tb (fun i j H2 => Q (.bl (p i j)) H2) σ H
noncomputable abbrev tLt : TE → TE → TE := tCmp fun i j => decide (i < j)
noncomputable abbrev tLe : TE → TE → TE := tCmp fun i j => decide (i ≤ j)
noncomputable abbrev tGt : TE → TE → TE := tCmp fun i j => decide (j < i)
noncomputable abbrev tGe : TE → TE → TE := tCmp fun i j => decide (j ≤ i)
noncomputable abbrev tEqI : TE → TE → TE := tCmp fun i j => decide (i = j)
noncomputable abbrev tNeI : TE → TE → TE := tCmp fun i j => !decide (i = j)
noncomputable def tIsN (ta : TE) : TE := fun σ H Q => ta σ H fun x H1 => Q (.bl (decide (x = .non))) H1
noncomputable def tNotN (ta : TE) : TE := fun σ H Q => ta σ H fun x H1 => Q (.bl (!decide (x = .non))) H1
noncomputable def tB (t : TE) : TT := fun σ H Q => t σ H fun x H1 => ∃ c, x = .bl c ∧ Q c H1
theorem pt_val {e : Expr} {t : TE} (h : PE X e t) (he : ∀ whole, isTrue e X.env whole = (do let v ← whole; standAt e.pos; holding [v] (truthy v)) := by intro _; rfl) : PT X e (tB t) := by
  intro pins s σ H Q I hw
  refine isTrue_plain (thn (h pins s σ H _ I hw) fun v s1 ⟨x, H1, I1, r1, q1⟩ => ?_) (he _)
  obtain ⟨d, rfl, q⟩ := q1
  cases r1
  exact wpAny_truthy_bool ⟨H1, I1, q⟩

variable {tA tB' : TT} {rest : List Expr}
noncomputable def tAnd (t u : TT) : TT := fun σ H Q => t σ H fun c H1 => if c = true then u σ H1 Q else Q false H1
noncomputable def tOr (t u : TT) : TT := fun σ H Q => t σ H fun c H1 => if c = true then Q true H1 else u σ H1 Q
noncomputable def tNot (t : TT) : TT := fun σ H Q => t σ H fun c H1 => Q (!c) H1
theorem pw_and1 (ha : PT X a tA) : PW X (.BoolOp .And [a] pos) tA := by
  intro wh pins s σ H Q I h
  refine isTrue_and (thn (ha pins s σ H Q I h) fun c s1 e => ?_)
  cases c with
  | true => exact isTrue_and_nil e
  | false => exact e
theorem pw_or1 (ha : PT X a tA) : PW X (.BoolOp .Or [a] pos) tA := by
  intro wh pins s σ H Q I h
  refine isTrue_or (thn (ha pins s σ H Q I h) fun c s1 e => ?_)
  cases c with
  | false => exact isTrue_or_nil e
  | true => exact e
theorem pw_and (ha : PT X a tA) (hb : PW X (.BoolOp .And (b :: rest) pos) tB') : PW X (.BoolOp .And (a :: b :: rest) pos) (tAnd tA tB') := by
  intro wh pins s σ H Q I h
  refine isTrue_and (thn (ha pins s σ H _ I h) fun c s1 ⟨H1, I1, q1⟩ => ?_)
  cases c with
  | true => exact hb wh pins s1 σ H1 Q I1 q1
  | false => exact ⟨H1, I1, q1⟩
theorem pw_or (ha : PT X a tA) (hb : PW X (.BoolOp .Or (b :: rest) pos) tB') : PW X (.BoolOp .Or (a :: b :: rest) pos) (tOr tA tB') := by
  intro wh pins s σ H Q I h
  refine isTrue_or (thn (ha pins s σ H _ I h) fun c s1 ⟨H1, I1, q1⟩ => ?_)
  cases c with
  | true => exact ⟨H1, I1, q1⟩
  | false => exact hb wh pins s1 σ H1 Q I1 q1
theorem pt_not (ha : PT X a tA) : PT X (.UnaryOp .Not a pos) (tNot tA) := by
  intro pins s σ H Q I h
  exact isTrue_not (ha pins s σ H (fun c H1 => Q (!c) H1) I h)
noncomputable def tAndV (ta tb : TE) : TE := fun σ H Q => ta σ H fun x H1 => ∃ c, x = .bl c ∧ if c = true then tb σ H1 Q else Q (.bl false) H1
noncomputable def tOrV (ta tb : TE) : TE := fun σ H Q => ta σ H fun x H1 => ∃ c, x = .bl c ∧ if c = true then Q (.bl true) H1 else tb σ H1 Q
noncomputable def tNotV (ta : TE) : TE := fun σ H Q => ta σ H fun x H1 => ∃ c, x = .bl c ∧ Q (.bl (!c)) H1
theorem pe_one {op} {t : TE} (h : PE X a t) : PE X (.BoolOp op [a] pos) t := fun pins s σ H Q I hw => BoolOp_one (h pins s σ H Q I hw)
theorem pe_and (ha : PE X a ta) (hb : PE X (.BoolOp .And (b :: rest) pos) tb) : PE X (.BoolOp .And (a :: b :: rest) pos) (tAndV ta tb) := by
  intro pins s σ H Q I h
  refine BoolOp_and (thn (ha pins s σ H _ I h) fun v s1 ⟨x, H1, I1, r1, q1⟩ => ?_)
  obtain ⟨c, rfl, q1⟩ := q1
  cases r1
  refine wpAny_truthy_bool ?_
  cases c with
  | true => exact hb pins s1 σ H1 Q I1 q1
  | false => exact ⟨.bl false, H1, I1, rfl, q1⟩
theorem pe_not (ha : PE X a ta) : PE X (.UnaryOp .Not a pos) (tNotV ta) := by
  intro pins s σ H Q I h
  refine UnaryOp_ (thn (ha pins s σ H _ I h) fun v s1 ⟨x, H1, I1, r1, q1⟩ => ?_)
  obtain ⟨c, rfl, q1⟩ := q1
  cases r1
  exact not_of (wpAny_truthy_bool ⟨.bl (!c), H1, I1, rfl, q1⟩)
noncomputable def tIf (t : TT) (ta tb : TE) : TE := fun σ H Q => t σ H fun c H1 => if c = true then ta σ H1 Q else tb σ H1 Q
end
end L2

namespace L2
open PySem PySem.Spec PyProof.Rows

noncomputable def SqL (K : PySem.W.Frag) (H : Hp) (a : Addr) (xs : List V) : Prop :=
  Rd H a (.lst xs) ∨
    ∃ (o : Obj) (its : Array Value) (n : Nat), K.lookup a = some o ∧ o.cls = .type "list" ∧ o.dict = none ∧ o.data = .seq its n ∧ its.size ≤ sizeLine ∧ Vals xs its.toList
noncomputable def SqT (K : PySem.W.Frag) (H : Hp) (a : Addr) (xs : List V) : Prop :=
  Rd H a (.tup xs) ∨
    ∃ (o : Obj) (its : Array Value) (n : Nat), K.lookup a = some o ∧ o.cls = .type "tuple" ∧ o.data = .seq its n ∧ its.size ≤ sizeLine ∧ Vals xs its.toList
noncomputable def absV : Value → Option V
  | .none => some .non
  | .bool b => some (.bl b)
  | .int i _ => some (.int i)
  | .str x _ => some (.str x)
  | .bytes b _ => some (.byt b)
  | .float b _ => some (.flt b)
  | .ref a => some (.ref a)
  | .type n => some (.ty n)
  | _ => none
theorem RelV.abs {x : V} {u : Value} (r : RelV x u) : absV u = some x := by
  cases x with
  | non => cases r; rfl
  | bl _ => cases r; rfl
  | int _ => obtain ⟨t, rfl⟩ := r; rfl
  | str _ => obtain ⟨t, rfl⟩ := r; rfl
  | byt _ => obtain ⟨t, rfl⟩ := r; rfl
  | flt _ => obtain ⟨t, rfl⟩ := r; rfl
  | ref _ => cases r; rfl
  | ty _ => cases r; rfl
theorem RelV.inj {x y : V} {u : Value} (r : RelV x u) (q : RelV y u) : x = y := Option.some.inj (r.abs.symm.trans q.abs)
theorem Vals.inj : ∀ {xs ys : List V} {us : List Value}, Vals xs us → Vals ys us → xs = ys
  | _, _, _, .nil, .nil => rfl
  | _, _, _, .cons r t, .cons r' t' => by rw [r.inj r', Vals.inj t t']
section
variable {X : Cx} {pins : List (Addr × Obj)} {σ : St} {H : Hp} {s : Shared} {a : Addr} {xs ys : List V}
theorem SqL.of {K : PySem.W.Frag} (h : H a = some (.lst xs)) : SqL K H a xs := .inl (.inl h)
theorem SqT.of {K : PySem.W.Frag} (h : H a = some (.tup xs)) : SqT K H a xs := .inl (.inl h)
theorem Inv.list (I : Inv X pins σ H s) (h : SqL X.K H a xs) : ∃ its : List Value, Vals xs its ∧ PlainL s.heap a its.toArray ∧ xs.length ≤ sizeLine := by
  rcases h with h | ⟨o, its, n, hk, hc, hd, hs, hz, r⟩
  · obtain ⟨z, its, n, r, e⟩ := h.ok I.hok
    exact ⟨its, r, ⟨_, n, e, rfl, rfl, rfl⟩, z⟩
  · refine ⟨its.toList, r, ⟨o, n, I.kIn a o hk, hc, hd, by simpa using hs⟩, ?_⟩
    have e := r.length
    simp only [Array.length_toList] at e
    omega
theorem Inv.tuple (I : Inv X pins σ H s) (h : SqT X.K H a xs) : ∃ its : List Value, Vals xs its ∧ IsTup s.heap a its.toArray ∧ xs.length ≤ sizeLine := by
  rcases h with h | ⟨o, its, n, hk, hc, hs, hz, r⟩
  · obtain ⟨z, its, r, p⟩ := h.ok I.hok
    exact ⟨its, r, p, z⟩
  · refine ⟨its.toList, r, ⟨o, I.kIn a o hk, hc, n, by simpa using hs⟩, ?_⟩
    have e := r.length
    simp only [Array.length_toList] at e
    omega
theorem Inv.list_inj (I : Inv X pins σ H s) (h : SqL X.K H a xs) (h' : SqL X.K H a ys) : xs = ys := by
  obtain ⟨its, r, ⟨o, n, e, _, _, d⟩, _⟩ := I.list h
  obtain ⟨its', r', ⟨o', n', e', _, _, d'⟩, _⟩ := I.list h'
  rw [e] at e'; cases e'
  rw [d] at d'
  injection d' with d1 _
  have : its = its' := by simpa using congrArg Array.toList d1
  subst this
  exact r.inj r'
theorem Inv.tuple_inj (I : Inv X pins σ H s) (h : SqT X.K H a xs) (h' : SqT X.K H a ys) : xs = ys := by
  obtain ⟨its, r, ⟨o, e, _, n, d⟩, _⟩ := I.tuple h
  obtain ⟨its', r', ⟨o', e', _, n', d'⟩, _⟩ := I.tuple h'
  rw [e] at e'; cases e'
  rw [d] at d'
  injection d' with d1 _
  have : its = its' := by simpa using congrArg Array.toList d1
  subst this
  exact r.inj r'
end

noncomputable abbrev Cx.wish (X : Cx) (E : Value → Shared → Prop) : Cx := { X with xe := E }
noncomputable abbrev Cx.nox (X : Cx) : Cx := X.wish fun _ _ => False
theorem Cx.Ok.wish {X : Cx} (ok : X.Ok) (E : Value → Shared → Prop) : (X.wish E).Ok :=
  ⟨ok.mod, ok.kind, ok.glob, ok.blt, ok.above, ok.inj, ok.has, ok.cab, ok.hd, ok.frames, ok.stk, ok.exf, ok.bs, ok.bsz, ok.noex, ok.exfs, ok.funs, ok.frf⟩
theorem Cx.Ok.unwish {X : Cx} {E : Value → Shared → Prop} (ok : (X.wish E).Ok) : X.Ok :=
  ⟨ok.mod, ok.kind, ok.glob, ok.blt, ok.above, ok.inj, ok.has, ok.cab, ok.hd, ok.frames, ok.stk, ok.exf, ok.bs, ok.bsz, ok.noex, ok.exfs, ok.funs, ok.frf⟩
section
variable {X : Cx} {pins : List (Addr × Obj)} {σ : St} {H : Hp} {s : Shared} {E : Value → Shared → Prop}
theorem Inv.wish (I : Inv X pins σ H s) (E : Value → Shared → Prop) : Inv (X.wish E) pins σ H s := ⟨I.ok.wish E, I.os, I.bare, I.base, I.loc, I.cell, I.free, I.freeC, I.pin, I.hok, I.len⟩
theorem Inv.unwish (I : Inv (X.wish E) pins σ H s) : Inv X pins σ H s := ⟨I.ok.unwish, I.os, I.bare, I.base, I.loc, I.cell, I.free, I.freeC, I.pin, I.hok, I.len⟩
theorem SP.unwish {D : Ends} {f : Flow} {s' : Shared} (h : SP (X.wish E) pins D f s') : SP X pins D f s' := by
  cases f with
  | next => obtain ⟨σ', H', I, q⟩ := h; exact ⟨σ', H', I.unwish, q⟩
  | brk => obtain ⟨σ', H', I, q⟩ := h; exact ⟨σ', H', I.unwish, q⟩
  | cont => obtain ⟨σ', H', I, q⟩ := h; exact ⟨σ', H', I.unwish, q⟩
  | ret u => obtain ⟨v, σ', H', I, r, q⟩ := h; exact ⟨v, σ', H', I.unwish, r, q⟩
theorem PE.nox {e : Expr} {t : TE} (h : PE X.nox e t) : PE X e t := fun pins s σ H Q I hw =>
  wpAny_mono (h pins s σ H Q (I.wish _) hw) (fun _ _ ⟨v, H', I', r, q⟩ => ⟨v, H', I'.unwish, r, q⟩) fun _ _ z => False.elim z
theorem PT.nox {e : Expr} {t : TT} (h : PT X.nox e t) : PT X e t := fun pins s σ H Q I hw =>
  wpAny_mono (h pins s σ H Q (I.wish _) hw) (fun _ _ ⟨H', I', q⟩ => ⟨H', I'.unwish, q⟩) fun _ _ z => False.elim z
theorem PSs.nox {st : List Stmt} {t : TS} (h : PSs X.nox st t) : PSs X st t := fun pins s σ H D I hw =>
  wpAny_mono (h pins s σ H D (I.wish _) hw) (fun _ _ q => q.unwish) fun _ _ z => False.elim z
end

section
variable {X : Cx} {st : Stmt} {rest : List Stmt} {t u : TS} {e : Expr} {te : TE} {pos : Pos}
noncomputable def tNext : TS := fun D σ H => D.nx σ H
noncomputable def tSeq (t u : TS) : TS := fun D σ H => t { D with nx := u D } σ H
theorem pss_nil : PSs X [] tNext := fun _ _ σ H _ I h => wpAny_execs_nil ⟨σ, H, I, h⟩
theorem pss_cons (h1 : PS X st t) (h2 : PSs X rest u) : PSs X (st :: rest) (tSeq t u) := by
  intro pins s σ H D I h
  refine wpAny_execs_cons (thn (h1 pins s σ H { D with nx := u D } I h) fun f s1 q => ?_)
  cases f with
  | next =>
    obtain ⟨σ', H', I', q⟩ := q
    exact h2 pins s1 σ' H' D I' q
  | ret v => exact q
  | brk => exact q
  | cont => exact q
theorem pss_one (h1 : PS X st t) : PSs X [st] t := by
  intro pins s σ H D I h
  refine wpAny_execs_cons (thn (h1 pins s σ H D I h) fun f s1 q => ?_)
  cases f with
  | next => exact wpAny_execs_nil q
  | ret v => exact q
  | brk => exact q
  | cont => exact q
noncomputable def tBreak : TS := fun D σ H => D.bk σ H
noncomputable def tCont : TS := fun D σ H => D.ct σ H
theorem Inv.quiet {pins : List (Addr × Obj)} {σ : St} {H : Hp} {s : Shared} (I : Inv X pins σ H s) : interactive X.env = false := by simp [interactive, I.ok.kind]
noncomputable def tDrop (te : TE) : TS := fun D σ H => te σ H fun _ H1 => D.nx σ H1
theorem ps_expr (he : PE X e te) (hs : swapsWith e none pos.line X.env = pure false := by rfl) : PS X (.Expr e pos) (tDrop te) := by
  intro pins s σ H D I h
  exact wpAny_Expr_any (thn (he pins s σ H _ I h) fun v s1 ⟨x, H1, I1, r1, q1⟩ => ⟨σ, H1, I1, q1⟩) I.quiet hs
noncomputable def tRet (te : TE) : TS := fun D σ H => te σ H D.rt
theorem ps_ret (he : PE X e te) : PS X (.Return (some e) pos) (tRet te) := by
  intro pins s σ H D I h
  exact wpAny_Return_some (thn (he pins s σ H _ I h) fun v s1 ⟨x, H1, I1, r1, q1⟩ => ⟨x, σ, H1, I1, r1, q1⟩)
noncomputable def tRetN : TS := fun D _ H => D.rt .non H
noncomputable def tIfS (c : TT) (t u : TS) : TS := fun D σ H => c σ H fun b H1 => if b = true then t D σ H1 else u D σ H1
theorem ps_if {c : Expr} {a b : List Stmt} {tc : TT} (hc : PT X c tc) (ha : PSs X a t) (hb : PSs X b u) : PS X (.If c a b pos) (tIfS tc t u) := by
  intro pins s σ H D I h
  refine wpAny_If (thn (hc pins s σ H _ I h) fun d s1 ⟨H1, I1, q1⟩ => ?_)
  cases d with
  | true => exact ha pins s1 σ H1 D I1 q1
  | false => exact hb pins s1 σ H1 D I1 q1
noncomputable def tNever : TS := fun _ _ _ => False
theorem pss_never {sts : List Stmt} : PSs X sts tNever := fun _ _ _ _ _ _ h => h.elim
end

noncomputable abbrev TG := V → St → Hp → (St → Hp → Prop) → Prop
noncomputable abbrev TGs := List V → St → Hp → (St → Hp → Prop) → Prop
noncomputable def PG (X : Cx) (target : Expr) (t : TG) : Prop :=
  ∀ (pins : List (Addr × Obj)) (s : Shared) (σ : St) (H : Hp) (v : V) (u : Value) (Q : St → Hp → Prop), Inv X pins σ H s → RelV v u → t v σ H Q →
    wpAny (model X.prog X.w) X.A (assign target X.env u) (fun _ s' => ∃ σ' H', Inv X pins σ' H' s' ∧ Q σ' H') X.xe s
noncomputable def PGs (X : Cx) (ts : List Expr) (t : TGs) : Prop :=
  ∀ (pins : List (Addr × Obj)) (s : Shared) (σ : St) (H : Hp) (vs : List V) (us : List Value) (Q : St → Hp → Prop), Inv X pins σ H s → Vals vs us → t vs σ H Q →
    wpAny (model X.prog X.w) X.A (assignInOrder ((assignEach ts X.env).map (·.2)) us) (fun _ s' => ∃ σ' H', Inv X pins σ' H' s' ∧ Q σ' H') X.xe s
noncomputable abbrev TSet := V → V → V → Hp → (Hp → Prop) → Prop
noncomputable def PSet (X : Cx) (t : TSet) : Prop :=
  ∀ (pins : List (Addr × Obj)) (s : Shared) (σ : St) (H : Hp) (o i v : V) (ov iv u : Value) (Q : Hp → Prop), Inv X pins σ H s → RelV o ov → RelV i iv → RelV v u → t o i v H Q →
    wpAny (model X.prog X.w) X.A (setItem ov iv u) (fun _ s' => ∃ H', Inv X pins σ H' s' ∧ Q H') X.xe s
noncomputable abbrev TIp := V → V → Hp → VK → Prop
noncomputable def PIp (X : Cx) (op : Operator) (t : TIp) : Prop :=
  ∀ (pins : List (Addr × Obj)) (s : Shared) (σ : St) (H : Hp) (x y : V) (v u : Value) (Q : VK), Inv X pins σ H s → RelV x v → RelV y u → t x y H Q →
    wpAny (model X.prog X.w) X.A (inplaceOp op v u) (EP X pins σ Q) X.xe s
section
variable {X : Cx} {pos : Pos}
noncomputable def gName (i : Nat) : TG := fun v σ H Q => Q (σ.set i (some v)) H
theorem pg_name {i : Nat} {x : Str} (hN : X.N.Nodup) (hi : X.N[i]? = some x) (hx : Loc X.env.scope x) (hf : X.fn x = true ∨ X.env.scope.names.lookup x = some .local := by first | exact .inl rfl | exact .inr rfl | assumption) : PG X (.Name x pos) (gName i) := by
  intro pins s σ H v u Q I r h
  exact wpAny_assign_Name (store_ok I hN hi hx r (fun s' I' => ⟨_, H, I', h⟩) hf)
noncomputable def gNil : TGs := fun vs σ H Q => vs = [] ∧ Q σ H
noncomputable def gCons (t : TG) (u : TGs) : TGs := fun vs σ H Q => ∃ v r, vs = v :: r ∧ t v σ H fun σ' H' => u r σ' H' Q
theorem pgs_nil : PGs X [] gNil := by
  intro pins s σ H vs us Q I r h
  obtain ⟨e, h⟩ := h
  subst e
  cases r
  exact assignInOrder_nil ⟨σ, H, I, h⟩
theorem pgs_cons {e : Expr} {es : List Expr} {t : TG} {u : TGs} (h1 : PG X e t) (h2 : PGs X es u)
    (hs : (assignEach (e :: es) X.env).map (·.2) = assign e X.env :: (assignEach es X.env).map (·.2) := by rfl) : PGs X (e :: es) (gCons t u) := by
  intro pins s σ H vs us Q I r h
  obtain ⟨v, vr, e1, h⟩ := h
  subst e1
  cases r with
  | cons r rr =>
    rw [hs]
    refine assignInOrder_cons (thn (h1 pins s σ H _ _ _ I r h) fun _ s1 ⟨σ1, H1, I1, q1⟩ => ?_)
    exact h2 pins s1 σ1 H1 _ _ Q I1 rr q1
noncomputable def gTup (K : PySem.W.Frag) (n : Nat) (t : TGs) : TG := fun v σ H Q => ∃ a xs, v = .ref a ∧ SqT K H a xs ∧ xs.length = n ∧ t xs σ H Q
theorem pg_tup {es : List Expr} {k : Nat} {t : TGs} {n : Nat} (hc : X.calm = true) (h : PGs X es t)
    (hn : (assignEach es X.env).length = n := by rfl) (hst : (assignEach es X.env).findIdx? (·.1) = none := by rfl) : PG X (.Tuple es k pos) (gTup X.K n t) := by
  intro pins s σ H v u Q I r hw
  obtain ⟨a, xs, e1, hq, hl, hw⟩ := hw
  subst e1
  cases r
  obtain ⟨its, rv, ht, hz⟩ := I.tuple hq
  refine assign_Tuple_tuple (I.ok.hd hc) ht (by simp [hn, ← hl, rv.length]) hst fun h' hx => ?_
  have I1 : Inv X pins σ H { s with heap := h' } := I.kept (t' := s.toks) fun b o e => hx b o (Nat.ne_of_lt (Heap.lt_size e)) e
  exact h pins _ σ H xs _ Q I1 (by simpa using rv) hw
noncomputable def gSub (to ti : TE) (t : TSet) : TG := fun v σ H Q => to σ H fun o H1 => ti σ H1 fun i H2 => t o i v H2 fun H3 => Q σ H3
theorem pg_sub {o i : Expr} {to ti : TE} {t : TSet} (ho : PE X o to) (hi : PE X i ti) (hs : PSet X t)
    (ha : ∀ v, assign (.Subscript o i pos) X.env v = (do
      let ov ← holding [v] (eval o X.env)
      let iv ← holding [v, ov] (eval i X.env)
      standAt pos
      holding [v, ov, iv] (setItem ov iv v)
      release [v, ov, iv] []) := by intro _; rfl) : PG X (.Subscript o i pos) (gSub to ti t) := by
  intro pins s σ H v u Q I r h
  rw [ha]
  refine wpAny_bind (wpAny_holding (thn (ho pins s σ H _ I h) fun ov s1 ⟨x, H1, I1, r1, q1⟩ => ?_))
  refine wpAny_bind (wpAny_holding (thn (hi pins s1 σ H1 _ I1 q1) fun iv s2 ⟨y, H2, I2, r2, q2⟩ => ?_))
  refine wpAny_bind (wpAny_standAt (wpAny_bind (wpAny_holding (thn (hs pins s2 σ H2 x y v ov iv u _ I2 r1 r2 r q2) fun _ s3 ⟨H3, I3, q3⟩ => ?_))))
  exact wpAny_release ⟨σ, H3, I3, q3⟩
noncomputable def tAsg (te : TE) (g : TG) : TS := fun D σ H => te σ H fun x H1 => g x σ H1 D.nx
theorem ps_asg {tg e : Expr} {te : TE} {g : TG} (he : PE X e te) (hg : PG X tg g) (hs : swapsWithSole [tg] e pos.line X.env = pure false := by rfl) (hw : swappedStores [tg] e X.env = pure none := by rfl)
    (h1 : (assignEach [tg] X.env).map (·.2) = [assign tg X.env] := by rfl) : PS X (.Assign [tg] e pos) (tAsg te g) := by
  intro pins s σ H D I h
  refine wpAny_Assign_stores (thn (he pins s σ H _ I h) fun v s1 ⟨x, H1, I1, r1, q1⟩ => ?_) hs hw
  rw [h1]
  exact thn (hg pins s1 σ H1 x v _ I1 r1 q1) fun _ s2 q => q
theorem ps_set {i : Nat} {x : Str} {e : Expr} {te : TE} {pos' : Pos} (hN : X.N.Nodup) (hi : X.N[i]? = some x) (hx : Loc X.env.scope x) (he : PE X e te) (hs : swapsWith e (some (.Name x pos')) pos.line X.env = pure false := by rfl) (hf : X.fn x = true ∨ X.env.scope.names.lookup x = some .local := by first | exact .inl rfl | exact .inr rfl | assumption) :
    PS X (.Assign [.Name x pos'] e pos) (tAsg te (gName i)) := by
  intro pins s σ H D I h
  refine wpAny_Assign_Name (thn (he pins s σ H _ I h) fun v s1 ⟨y, H1, I1, r1, q1⟩ => ?_) hs
  exact store_ok I1 hN hi hx r1 (fun s2 I2 => ⟨_, H1, I2, q1⟩) hf
noncomputable def tPar (i j : Nat) (ta : TA) : TS := fun D σ H => ta σ H fun vs H1 => ∃ v w, vs = [v, w] ∧ D.nx ((σ.set i (some v)).set j (some w)) H1
noncomputable def tAug (i : Nat) (te : TE) (ti : TIp) : TS := fun D σ H => ∃ x, σ[i]? = some (some x) ∧ te σ H fun y H1 => ti x y H1 fun z H2 => D.nx (σ.set i (some z)) H2
noncomputable def tAugS (to ti te : TE) (tget : V → V → Hp → VK → Prop) (tip : TIp) (tset : TSet) : TS := fun D σ H => to σ H fun o H1 => ti σ H1 fun i H2 => tget o i H2 fun x H3 => te σ H3 fun y H4 => tip x y H4 fun z H5 => tset o i z H5 fun H6 => D.nx σ H6
noncomputable def PGet (X : Cx) (t : V → V → Hp → VK → Prop) : Prop :=
  ∀ (pins : List (Addr × Obj)) (s : Shared) (σ : St) (H : Hp) (o i : V) (ov iv : Value) (Q : VK), Inv X pins σ H s → RelV o ov → RelV i iv → t o i H Q →
    wpAny (model X.prog X.w) X.A (getItem ov iv) (EP X pins σ Q) X.xe s
noncomputable def ipI (f : Int → Int → Int) : TIp := fun x y H Q => ∃ i j, x = .int i ∧ y = .int j ∧ Q (.int (f i j)) H
end

section
variable {X : Cx} {pos : Pos}
noncomputable def tWhile (c : TT) (tb : TS) : TS := fun D σ H => ∃ W : Nat → St → Hp → Prop, (∃ m, W m σ H) ∧ ∀ m σ H, W m σ H →
  c σ H fun b H1 => if b = true then ∃ N : St → Hp → Prop, (∀ σ' H', N σ' H' → ∃ m', m' < m ∧ W m' σ' H') ∧ tb { D with nx := N, ct := N, bk := D.nx } σ H1 else D.nx σ H1
end

structure It where
  go : Nat → Hp → Prop
  yld : Nat → Hp → V → Hp → Prop
  stop : Nat → Hp → Prop
noncomputable def FpOk (X : Cx) (pins : List (Addr × Obj)) (H : Hp) (b : Addr) : Prop :=
  H b = none ∧ b ≠ X.env.locals ∧ b ∉ X.fs ∧ (b ∈ X.ex ∨ X.s₀.heap.objs.size ≤ b) ∧ (∀ x c, X.env.cells.lookup x = some c → c ≠ b) ∧ ∀ p ∈ X.pn ++ pins, p.1 ≠ b
theorem Inv.fpOk {X : Cx} {pins : List (Addr × Obj)} {σ : St} {H H' : Hp} {s : Shared} {b : Addr} (I : Inv X pins σ H s) (hb : s.heap.objs.size ≤ b) (hn : H' b = none) : FpOk X pins H' b := by
  refine ⟨hn, Nat.ne_of_gt (Nat.lt_of_lt_of_le I.lt hb), I.nofs hb, .inr (Nat.le_trans I.sz hb), fun x c e z => ?_, fun p hp z => ?_⟩
  · obtain ⟨v, q⟩ := I.cell x c e
    exact absurd (Nat.lt_of_lt_of_le q.lt (by rw [z]; exact hb)) (Nat.lt_irrefl _)
  · exact absurd (Nat.lt_of_lt_of_le (Heap.lt_size (I.pin p hp).1) (by rw [z]; exact hb)) (Nat.lt_irrefl _)
structure Turn (P : Program) (w : World) (K : PySem.W.Frag) (tg : Expr) (J : It) (fp : List Addr) (it : Addr) (tn : Nat → Heap → Prop) : Prop where
  mem : it ∈ fp
  obj : ∀ i h, tn i h → ∀ b ∈ fp, ∃ o, h.get? b = some o ∧ ∀ v, o.data ≠ .cell v
  keep : ∀ i h h', tn i h → (∀ b ∈ fp, ∀ o, h.get? b = some o → h'.get? b = some o) → tn i h'
  item : ∀ (X : Cx), X.prog = P → X.w = w → X.K = K → X.calm = true → ∀ (i : Nat) (pins : List (Addr × Obj)) (s : Shared) (σ : St) (H : Hp) (E : Value → Shared → Prop), Inv X pins σ H s → (∀ b ∈ fp, FpOk X pins H b) → tn i s.heap → J.go i H →
    wpAny (model P w) X.A (pyNext (.ref it)) (fun r s1 => ∃ u, r = some u ∧
      wpAny (model P w) X.A (letOwnedTupleGo tg (.ref it) u) (fun _ s2 => ∃ x H', Inv X pins σ H' s2 ∧ RelV x u ∧ J.yld i H x H' ∧ tn (i + 1) s2.heap ∧ ∀ b ∈ fp, H' b = none) E s1) E s
  done : ∀ (X : Cx), X.prog = P → X.w = w → X.K = K → X.calm = true → ∀ (i : Nat) (pins : List (Addr × Obj)) (s : Shared) (σ : St) (H : Hp) (E : Value → Shared → Prop), Inv X pins σ H s → (∀ b ∈ fp, FpOk X pins H b) → tn i s.heap → J.stop i H →
    wpAny (model P w) X.A (pyNext (.ref it)) (fun r s1 => r = none ∧ Inv X pins σ H s1) E s
  self : ∀ (A : Around) (i : Nat) (s : Shared) (Q : Value → Shared → Prop) (E : Value → Shared → Prop), tn i s.heap → Q (.ref it) s → wpAny (model P w) A (pyIter (.ref it)) Q E s
noncomputable abbrev TI := St → Hp → (It → Hp → Prop) → Prop
noncomputable def PIE (X : Cx) (pins : List (Addr × Obj)) (σ : St) (tg : Expr) (R : It → Hp → Prop) (itv : Value) (s2 : Shared) : Prop :=
  ∃ (it : Addr) (fp : List Addr) (tn : Nat → Heap → Prop) (J : It) (H' : Hp), itv = .ref it ∧ Inv X pins σ H' s2 ∧ Turn X.prog X.w X.K tg J fp it tn ∧ tn 0 s2.heap ∧ (∀ b ∈ fp, FpOk X pins H' b) ∧ R J H'
noncomputable def PI (X : Cx) (tg iter : Expr) (wi : TI) : Prop :=
  ∀ (pins : List (Addr × Obj)) (s : Shared) (σ : St) (H : Hp) (R : It → Hp → Prop), Inv X pins σ H s → wi σ H R →
    wpAny (model X.prog X.w) X.A (eval iter X.env) (fun v s1 => wpAny (model X.prog X.w) X.A (pyIter v) (PIE X pins σ tg R) X.xe s1) X.xe s

theorem go_of {M : Model} {A : Around} {E : Value → Shared → Prop} {s : Shared} {tg : Expr} {it : Addr} {u : Value} {o : Obj} {n : String} {vs : Array Value} {Q : Unit → Shared → Prop} (ho : s.heap.get? it = some o) (hc : o.cls = .type n) (hd : o.data = .fields vs)
    (hn : ["enumerate", "zip", "dict_itemiterator", "dict_reverseitemiterator", "odict_iterator", "itertools.zip_longest", "itertools.pairwise"].contains n = false) (hQ : Q () s) : wpAny M A (letOwnedTupleGo tg (.ref it) u) Q E s := by
  unfold letOwnedTupleGo
  cases tg <;> first
    | exact wpAny_pure hQ
    | (cases u <;> first
        | exact wpAny_pure hQ
        | (refine wpAny_bind (wpAny_load ho ?_)
           rw [hc, hd]
           show wpAny M A (if (["enumerate", "zip", "dict_itemiterator", "dict_reverseitemiterator", "odict_iterator", "itertools.zip_longest", "itertools.pairwise"].contains n && vs[0]? == some (rawInt _)) = true then _ else _) Q E s
           rw [if_neg (by intro h; rw [hn, Bool.false_and] at h; cases h)]
           exact wpAny_pure hQ))

noncomputable def Itl (K : PySem.W.Frag) (a : Addr) : It :=
  ⟨fun i H => ∃ xs x, SqL K H a xs ∧ xs[i]? = some x, fun i H x H' => H' = H ∧ ∀ xs, SqL K H a xs → xs[i]? = some x, fun i H => ∃ xs, SqL K H a xs ∧ xs.length ≤ i⟩
noncomputable def Itt (K : PySem.W.Frag) (a : Addr) : It :=
  ⟨fun i H => ∃ xs x, SqT K H a xs ∧ xs[i]? = some x, fun i H x H' => H' = H ∧ ∀ xs, SqT K H a xs → xs[i]? = some x, fun i H => ∃ xs, SqT K H a xs ∧ xs.length ≤ i⟩
noncomputable def Itr (lo : Int) (n : Nat) : It := ⟨fun i _ => i < n, fun i H x H' => H' = H ∧ x = .int (lo + i), fun i _ => n ≤ i⟩
theorem turn_tuple {P : Program} {w : World} {K : PySem.W.Frag} {tg : Expr} (a it : Addr) : Turn P w K tg (Itt K a) [it] it (fun i h => h.IsTupleIter it a i) where
  mem := by simp
  obj := fun i h st b hb => by
    have e : b = it := by simpa using hb
    subst e
    obtain ⟨o, e, c, d⟩ := st
    exact ⟨o, e, fun v z => by rw [d] at z; cases z⟩
  keep := fun i h h' st k => st.at fun o e => k it (by simp) o e
  item := by
    intro X hP hw hK hc i pins s σ H E I hf st hg
    subst hP hw hK
    obtain ⟨xs, x, hq, hx⟩ := hg
    obtain ⟨its, rv, p, hz⟩ := I.tuple hq
    obtain ⟨u, hu, ru⟩ := rv.get hx
    obtain ⟨f0, f1, f2, f3, f4, f5⟩ := hf it (by simp)
    refine wpAny_pyNext_tuple_item st (show s.heap.IsTuple a its.toArray from p) (x := u) (by simpa using hu) fun h' st' sb => ?_
    have I1 : Inv X pins σ H { s with heap := h' } := I.turned (t' := s.toks) (fun b o hb e => (sb.2 b hb).trans e) f0 f1 f3 f4 f5
    obtain ⟨o, e, c, d⟩ := id st'
    exact ⟨u, rfl, go_of (s := { s with heap := h' }) e c d (by decide) ⟨x, H, I1, ru, ⟨rfl, fun ys hy => by rw [I.tuple_inj hy hq]; exact hx⟩, st', fun b hb => (hf b hb).1⟩⟩
  done := by
    intro X hP hw hK hc i pins s σ H E I hf st hg
    subst hP hw hK
    obtain ⟨xs, hq, hx⟩ := hg
    obtain ⟨its, rv, p, hz⟩ := I.tuple hq
    obtain ⟨f0, f1, f2, f3, f4, f5⟩ := hf it (by simp)
    have hl := rv.length
    exact wpAny_pyNext_tuple_end (I.ok.hd hc) st (show s.heap.IsTuple a its.toArray from p) (by simp; omega) fun h' eb => ⟨rfl, I.turned (t' := s.toks) (fun b o hb e => eb b o hb e) f0 f1 f3 f4 f5⟩
  self := fun _ _ _ _ _ st h => wpAny_pyIter_tupleiter st h
theorem turn_range {P : Program} {w : World} {K : PySem.W.Frag} {tg : Expr} (it : Addr) (lo : Int) (n : Nat) : Turn P w K tg (Itr lo n) [it] it (fun i h => IsRangeIter h it (lo + (i : Nat) * 1) ((n : Int) - (i : Nat)) 1) where
  mem := by simp
  obj := fun i h st b hb => by
    have e : b = it := by simpa using hb
    subst e
    exact ⟨_, st, fun v z => by
      have z' : Data.fields _ = Data.cell v := z
      cases z'⟩
  keep := fun i h h' st k => k it (by simp) _ st
  item := by
    intro X hP hw hK hc i pins s σ H E I hf st hg
    subst hP hw hK
    obtain ⟨f0, f1, f2, f3, f4, f5⟩ := hf it (by simp)
    have W := Walks.range (prog := X.prog) (w := X.w) (I.ok.hd hc) it lo 1 n
    refine W.item i s _ _ hg st fun v h' tk hv st' kk => ?_
    obtain ⟨t, rfl⟩ := hv
    have I1 : Inv X pins σ H { s with heap := h', toks := tk } := I.turned (fun b o hb e => kk b o (by simpa using hb) e) f0 f1 f3 f4 f5
    refine ⟨_, rfl, go_of (s := { s with heap := h', toks := tk }) (n := "range_iterator") st' rfl rfl (by decide) ⟨.int (lo + i), H, I1, ⟨t, ?_⟩, ⟨rfl, rfl⟩, st', fun b hb => (hf b hb).1⟩⟩
    rw [Int.mul_one]
  done := by
    intro X hP hw hK hc i pins s σ H E I hf st hg
    subst hP hw hK
    obtain ⟨f0, f1, f2, f3, f4, f5⟩ := hf it (by simp)
    exact wpAny_pyNext_range_end (I.ok.hd hc) st (by have : n ≤ i := hg; omega) fun h' eb => ⟨rfl, I.turned (t' := s.toks) (fun b o hb e => eb b o hb e) f0 f1 f3 f4 f5⟩
  self := fun _ _ _ _ _ st h => wpAny_pyIter_rangeiter st h
end L2

namespace L2
open PySem PySem.Spec PyProof.Rows
section
variable {X : Cx} {tg : Expr}
noncomputable def iList (K : PySem.W.Frag) (tl : TE) : TI := fun σ H R => tl σ H fun x H1 => ∃ a, x = .ref a ∧ (∃ xs, SqL K H1 a xs) ∧ R (Itl K a) H1
noncomputable def iTup (K : PySem.W.Frag) (tl : TE) : TI := fun σ H R => tl σ H fun x H1 => ∃ a, x = .ref a ∧ (∃ xs, SqT K H1 a xs) ∧ R (Itt K a) H1
theorem pi_tup {l : Expr} {tl : TE} (hl : PE X l tl) : PI X tg l (iTup X.K tl) := by
  intro pins s σ H R I h
  refine thn (hl pins s σ H _ I h) fun v s1 ⟨x, H1, I1, r1, q1⟩ => ?_
  obtain ⟨a, e, ⟨xs, hq⟩, q⟩ := q1
  subst e
  cases r1
  obtain ⟨its, rv, p, hz⟩ := I1.tuple hq
  refine wpAny_pyIter_tuple (show s1.heap.IsTuple a its.toArray from p) ?_
  refine ⟨s1.heap.objs.size, [s1.heap.objs.size], _, _, H1, rfl, I1.kept (t' := s1.toks) fun b o e => Heap.get?_push_of_some _ e, turn_tuple a _, ⟨_, Heap.get?_push_size _ rfl, rfl, rfl⟩, fun b hb => ?_, q⟩
  have e : b = s1.heap.objs.size := by simpa using hb
  subst e
  exact I1.fpOk (Nat.le_refl _) (I1.hok.fresh (Nat.le_refl _))
theorem range_it {pins : List (Addr × Obj)} {σ : St} {H : Hp} {s : Shared} {R : It → Hp → Prop} {E : Value → Shared → Prop} {lo hi : Int} {t u v : Tok} {tk : Nat} (I : Inv X pins σ H s) (h1 : -(2 ^ 62) ≤ lo) (h2 : lo < 2 ^ 62) (h3 : -(2 ^ 62) ≤ hi) (h4 : hi < 2 ^ 62)
    (q : R (Itr lo (hi - lo).toNat) H) : wpAny (model X.prog X.w) X.A (pyIter (.ref s.heap.objs.size)) (PIE X pins σ tg R) E { s with heap := s.heap.push { cls := .type "range", data := .fields #[.int lo t, .int hi u, .int 1 v] }, toks := tk } := by
  refine wpAny_pyIter_range (IsRange.new ..) (small_one h1 h2 h3 h4) ?_
  have I1 : Inv X pins σ H { s with heap := s.heap.push { cls := .type "range", data := .fields #[.int lo t, .int hi u, .int 1 v] }, toks := tk } := I.kept fun b o e => Heap.get?_push_of_some _ e
  refine ⟨(s.heap.push { cls := .type "range", data := .fields #[.int lo t, .int hi u, .int 1 v] }).objs.size, [(s.heap.push { cls := .type "range", data := .fields #[.int lo t, .int hi u, .int 1 v] }).objs.size], _, _, H, rfl,
    I1.kept (t' := tk) fun b o e => Heap.get?_push_of_some _ e, turn_range _ lo (hi - lo).toNat, ?_, fun b hb => ?_, q⟩
  · have e1 : lo + ((0 : Nat) : Int) * 1 = lo := by simp
    have e2 : (((hi - lo).toNat : Nat) : Int) - ((0 : Nat) : Int) = Builtin.Range.rangeSize lo hi 1 := by rw [rangeSize_one]; split <;> omega
    show IsRangeIter _ _ (lo + ((0 : Nat) : Int) * 1) ((((hi - lo).toNat : Nat) : Int) - ((0 : Nat) : Int)) 1
    rw [e1, e2]
    exact Heap.get?_push_size _ rfl
  · have e : b = (s.heap.push { cls := .type "range", data := .fields #[.int lo t, .int hi u, .int 1 v] }).objs.size := by simpa using hb
    subst e
    exact I1.fpOk (Nat.le_refl _) (I1.hok.fresh (Nat.le_refl _))
noncomputable def iRng1 (ta : TA) : TI := fun σ H R => ta σ H fun vs H1 => ∃ j : Int, vs = [.int j] ∧ -(2 ^ 62) ≤ j ∧ j < 2 ^ 62 ∧ R (Itr 0 j.toNat) H1
noncomputable def iRng2 (ta : TA) : TI := fun σ H R => ta σ H fun vs H1 => ∃ i j : Int, vs = [.int i, .int j] ∧ (-(2 ^ 62) ≤ i ∧ i < 2 ^ 62 ∧ -(2 ^ 62) ≤ j ∧ j < 2 ^ 62) ∧ R (Itr i (j - i).toNat) H1
theorem pi_range1 {a : Expr} {ta : TA} {p pos : Pos} (hg : Gl X "range") (hm : X.mg "range" = none) (ha : PA X [a] ta) (hs : starEach [a] X.env = [(false, eval a X.env)] := by rfl) : PI X tg (.Call (.Name "range" p) [a] [] pos) (iRng1 ta) := by
  intro pins s σ H R I h
  refine Call_ (ld_blt I hg hm boot_range (PyProof.Rows.callWith_type1 (thn (ha pos pins s σ H _ I h) fun us s1 ⟨vs, H1, I1, r1, q1⟩ => ?_) hs rfl))
  obtain ⟨j, e, q1, q2, q⟩ := q1
  subst e
  cases r1 with
  | cons r rr =>
    cases rr
    obtain ⟨t, rfl⟩ := r
    exact call_range_1 (range_it I1 (by omega) (by omega) q1 q2 (by simpa using q))
noncomputable def tFor (wi : TI) (g : TG) (tb : TS) : TS := fun D σ H => wi σ H fun J H1 => ∃ W : Nat → Nat → St → Hp → Prop, (∃ m, W 0 m σ H1) ∧ ∀ i m σ H, W i m σ H →
  (J.stop i H ∧ D.nx σ H) ∨ (J.go i H ∧ ∃ N : St → Hp → Prop, (∀ σ' H', N σ' H' → ∃ m', m' < m ∧ W (i + 1) m' σ' H') ∧ ∀ x H', J.yld i H x H' → g x σ H' fun σ2 H2 => tb { D with nx := N, ct := N, bk := D.nx } σ2 H2)
noncomputable def pinsAt (fp : List Addr) (h : Heap) : List (Addr × Obj) := fp.filterMap fun b => (h.get? b).map fun o => (b, o)
theorem mem_pinsAt {fp : List Addr} {h : Heap} {b : Addr} {o : Obj} (hb : b ∈ fp) (e : h.get? b = some o) : (b, o) ∈ pinsAt fp h := List.mem_filterMap.mpr ⟨b, hb, by rw [e]; rfl⟩
theorem of_pinsAt {fp : List Addr} {h : Heap} {p : Addr × Obj} (hp : p ∈ pinsAt fp h) : p.1 ∈ fp ∧ h.get? p.1 = some p.2 := by
  obtain ⟨b, hb, e⟩ := List.mem_filterMap.mp hp
  cases q : h.get? b with
  | none => rw [q] at e; cases e
  | some o =>
    rw [q] at e
    have e' : (b, o) = p := Option.some.inj e
    subst e'
    exact ⟨hb, q⟩
theorem Inv.pinned {pins : List (Addr × Obj)} {σ : St} {H : Hp} {s : Shared} {fp : List Addr} (I : Inv X pins σ H s) (hf : ∀ b ∈ fp, FpOk X pins H b) (ho : ∀ b ∈ fp, ∃ o, s.heap.get? b = some o ∧ ∀ v, o.data ≠ .cell v) : Inv X (pins ++ pinsAt fp s.heap) σ H s :=
  I.pins_of fun p hp => (List.mem_append.mp hp).elim (fun z => I.pin p (List.mem_append_right _ z)) fun z => by
    obtain ⟨hb, e⟩ := of_pinsAt z
    obtain ⟨f0, f1, f2, _⟩ := hf p.1 hb
    obtain ⟨o, e', d⟩ := ho p.1 hb
    rw [e] at e'; cases e'
    exact ⟨e, f0, f1, f2, d⟩
theorem Inv.unpinned {pins pl : List (Addr × Obj)} {σ : St} {H : Hp} {s : Shared} (I : Inv X (pins ++ pl) σ H s) : Inv X pins σ H s := I.pins_of fun p hp => I.pin p (List.mem_append_right _ (List.mem_append_left _ hp))
theorem ps_for {iter : Expr} {body : List Stmt} {wi : TI} {g : TG} {tb : TS} {pos : Pos} (hp : PassesOwn (model X.prog X.w) X.A X.env X.xe) (hc : X.calm = true) (hi : PI X tg iter wi) (hg : PG X tg g) (hb : PSs X body tb)
    (hs : ∀ x, foldedSetIterable iter X.env x = pure x := by intro _; rfl) : PS X (.For tg iter body [] pos) (tFor wi g tb) := by
  intro pins s σ H D I h
  refine wpAny_For (thn (hi pins s σ H _ I h) fun v s1 h1 => thn h1 fun itv s2 h2 => ?_) hs
  obtain ⟨it, fp, tn, J, H2, e, I2, T, st2, f2, W, ⟨m0, w0⟩, turn⟩ := h2
  subst e
  -- what stays true of the iterator's objects through the loop
  have stat : ∀ {H' : Hp}, (∀ b ∈ fp, H' b = none) → ∀ b ∈ fp, FpOk X pins H' b := fun hn b hb => ⟨hn b hb, (f2 b hb).2⟩
  refine codeAny_forLoop_any (fun n s' => ∃ i σ' H', Inv X pins σ' H' s' ∧ tn i s'.heap ∧ (∀ b ∈ fp, H' b = none) ∧ W i n σ' H') ?_ m0 ⟨0, σ, H2, I2, st2, fun b hb => (f2 b hb).1, w0⟩
  rintro n s3 ⟨i, σ3, H3, I3, st3, fr3, w3⟩
  rcases turn i n σ3 H3 w3 with ⟨stop, qn⟩ | ⟨go, N, hN, step⟩
  · refine wpAny_passesOwn hp (thn (T.done X rfl rfl rfl hc i pins s3 σ3 H3 X.xe I3 (stat fr3) st3 stop) fun r s4 ⟨hr, I4⟩ => ?_)
    subst hr
    exact wpAny_execs_nil ⟨σ3, H3, I4, qn⟩
  · refine wpAny_passesOwn hp (thn (T.item X rfl rfl rfl hc i pins s3 σ3 H3 X.xe I3 (stat fr3) st3 go) fun r s4 ⟨u, hr, h4⟩ => ?_)
    subst hr
    refine wpAny_passesOwn hp (thn h4 fun _ s5 ⟨x, H5, I5, r5, y5, st5, fr5⟩ => ?_)
    have I5' := I5.pinned (stat fr5) (T.obj _ _ st5)
    refine wpAny_passesOwn hp (thn (hg _ s5 σ3 H5 x u _ I5' r5 (step x H5 y5)) fun _ s6 ⟨σ6, H6, I6, q6⟩ => ?_)
    refine wpAny_passesOwn hp (thn (hb _ s6 σ6 H6 _ I6 q6) fun f s7 q7 => ?_)
    have again : ∀ {σ7 : St} {H7 : Hp}, Inv X (pins ++ pinsAt fp s5.heap) σ7 H7 s7 → N σ7 H7 → ∃ m, m < n ∧ ∃ i σ' H', Inv X pins σ' H' s7 ∧ tn i s7.heap ∧ (∀ b ∈ fp, H' b = none) ∧ W i m σ' H' := fun {σ7 H7} I7 n7 => by
      obtain ⟨m', hm, w7⟩ := hN σ7 H7 n7
      refine ⟨m', hm, i + 1, σ7, H7, I7.unpinned, T.keep _ _ _ st5 fun b hb o e => (I7.pin (b, o) (List.mem_append_right _ (List.mem_append_right _ (mem_pinsAt hb e)))).1, fun b hb => ?_, w7⟩
      obtain ⟨o, e, d⟩ := T.obj _ _ st5 b hb
      exact (I7.pin (b, o) (List.mem_append_right _ (List.mem_append_right _ (mem_pinsAt hb e)))).2.1
    cases f with
    | next => obtain ⟨σ7, H7, I7, n7⟩ := q7; exact again I7 n7
    | cont => obtain ⟨σ7, H7, I7, n7⟩ := q7; exact again I7 n7
    | brk => obtain ⟨σ7, H7, I7, q7⟩ := q7; exact ⟨σ7, H7, I7.unpinned, q7⟩
    | ret v => obtain ⟨x7, σ7, H7, I7, r7, q7⟩ := q7; exact ⟨x7, σ7, H7, I7.unpinned, r7, q7⟩
end

theorem for_range {lo : Int} {n : Nat} {g : TG} {tb : TS} {D : Ends} {σ : St} {H : Hp} (Pv : Nat → St → Hp → Prop) (h0 : Pv 0 σ H)
    (hs : ∀ i σ H, i < n → Pv i σ H → g (.int (lo + i)) σ H fun σ2 H2 => tb { D with nx := Pv (i + 1), ct := Pv (i + 1), bk := D.nx } σ2 H2) (hd : ∀ σ H, Pv n σ H → D.nx σ H) :
    ∃ W : Nat → Nat → St → Hp → Prop, (∃ m, W 0 m σ H) ∧ ∀ i m σ H, W i m σ H →
      ((Itr lo n).stop i H ∧ D.nx σ H) ∨ ((Itr lo n).go i H ∧ ∃ N : St → Hp → Prop, (∀ σ' H', N σ' H' → ∃ m', m' < m ∧ W (i + 1) m' σ' H') ∧ ∀ x H', (Itr lo n).yld i H x H' → g x σ H' fun σ2 H2 => tb { D with nx := N, ct := N, bk := D.nx } σ2 H2) := by
  refine ⟨fun i m σ H => m = n - i ∧ i ≤ n ∧ Pv i σ H, ⟨n, by simp, Nat.zero_le _, h0⟩, ?_⟩
  rintro i m σ H ⟨rfl, hi, p⟩
  by_cases hlt : i < n
  · refine .inr ⟨hlt, Pv (i + 1), fun σ' H' p' => ⟨n - (i + 1), by omega, rfl, hlt, p'⟩, fun x H' y => ?_⟩
    obtain ⟨e, y⟩ := y
    subst e y
    exact hs i σ _ hlt p
  · have e : i = n := by omega
    subst e
    exact .inl ⟨Nat.le_refl _, hd σ H p⟩
end L2

namespace L2
open PySem PySem.Spec PyProof.Rows

noncomputable abbrev R2 := V → V → Hp → VK → Prop
noncomputable def OpR (X : Cx) (f : Value → Value → Sem Value) (r : R2) : Prop :=
  ∀ (pins : List (Addr × Obj)) (s : Shared) (σ : St) (H : Hp) (x y : V) (v u : Value) (Q : VK), Inv X pins σ H s → RelV x v → RelV y u → r x y H Q →
    wpAny (model X.prog X.w) X.A (f v u) (EP X pins σ Q) X.xe s
noncomputable def UnR (X : Cx) (f : Value → Sem Value) (r : V → Hp → VK → Prop) : Prop :=
  ∀ (pins : List (Addr × Obj)) (s : Shared) (σ : St) (H : Hp) (x : V) (v : Value) (Q : VK), Inv X pins σ H s → RelV x v → r x H Q →
    wpAny (model X.prog X.w) X.A (f v) (EP X pins σ Q) X.xe s
noncomputable def CallR (X : Cx) (f : Value) (r : List V → Hp → VK → Prop) : Prop :=
  ∀ (pins : List (Addr × Obj)) (s : Shared) (σ : St) (H : Hp) (xs : List V) (us : List Value) (Q : VK), Inv X pins σ H s → Vals xs us → r xs H Q →
    wpAny (model X.prog X.w) X.A (call f us) (EP X pins σ Q) X.xe s
noncomputable def TruR (X : Cx) (r : V → Hp → (Bool → Hp → Prop) → Prop) : Prop :=
  ∀ (pins : List (Addr × Obj)) (s : Shared) (σ : St) (H : Hp) (x : V) (v : Value) (Q : Bool → Hp → Prop), Inv X pins σ H s → RelV x v → r x H Q →
    wpAny (model X.prog X.w) X.A (truthy v) (TP X pins σ Q) X.xe s

noncomputable def tOp (r : R2) (ta tb : TE) : TE := fun σ H Q => ta σ H fun x H1 => tb σ H1 fun y H2 => r x y H2 Q
noncomputable def tUn (r : V → Hp → VK → Prop) (ta : TE) : TE := fun σ H Q => ta σ H fun x H1 => r x H1 Q
noncomputable def rI (C : Int → Int → Prop) (g : Int → Int → V) : R2 := fun x y H Q => ∃ i j, x = .int i ∧ y = .int j ∧ C i j ∧ Q (g i j) H
noncomputable def rI0 (g : Int → Int → V) : R2 := fun x y H Q => ∃ i j, x = .int i ∧ y = .int j ∧ Q (g i j) H
noncomputable def rU (g : Int → V) : V → Hp → VK → Prop := fun x H Q => ∃ i, x = .int i ∧ Q (g i) H

section
variable {X : Cx} {a b c : Expr} {ta tb tc : TE} {pos : Pos}

theorem binT (ha : PE X a ta) (hb : PE X b tb) {pins : List (Addr × Obj)} {s : Shared} {σ : St} {H : Hp} {R : V → V → Hp → Prop} (I : Inv X pins σ H s)
    (h : ta σ H fun x H1 => tb σ H1 fun y H2 => R x y H2) {Q : Value → Shared → Prop} {f : Value → Value → Sem Value}
    (hf : ∀ v u s2 x y H2, Inv X pins σ H2 s2 → RelV x v → RelV y u → R x y H2 → wpAny (model X.prog X.w) X.A (f v u) Q X.xe s2) :
    wpAny (model X.prog X.w) X.A (eval a X.env) (fun v s₁ => wpAny (model X.prog X.w) X.A (eval b X.env) (fun u s₂ => wpAny (model X.prog X.w) X.A (f v u) Q X.xe s₂) X.xe s₁) X.xe s := by
  refine thn (ha pins s σ H _ I h) fun v s1 ⟨x, H1, I1, r1, q1⟩ => ?_
  refine thn (hb pins s1 σ H1 _ I1 q1) fun u s2 ⟨y, H2, I2, r2, q2⟩ => ?_
  exact hf v u s2 x y H2 I2 r1 r2 q2

theorem pe_op {op : Operator} {r : R2} (ho : OpR X (binaryOp op) r) (ha : PE X a ta) (hb : PE X b tb) : PE X (.BinOp a op b pos) (tOp r ta tb) := by
  intro pins s σ H Q I h
  exact wpAny_BinOp (binT ha hb I h fun v u s2 x y H2 I2 rx ry q => ho pins s2 σ H2 x y v u Q I2 rx ry q)
theorem pe_un {op : UnaryOp} {r : V → Hp → VK → Prop} (ho : UnR X (unaryOp op) r) (ha : PE X a ta) : PE X (.UnaryOp op a pos) (tUn r ta) := by
  intro pins s σ H Q I h
  exact UnaryOp_ (thn (ha pins s σ H _ I h) fun v s1 ⟨x, H1, I1, r1, q1⟩ => ho pins s1 σ H1 x v Q I1 r1 q1)
theorem opI {f : Value → Value → Sem Value} {C : Int → Int → Prop} {g : Int → Int → Int}
    (rule : ∀ (i j : Int) (t u : Tok) (s : Shared) (Q : Value → Shared → Prop) (E : Value → Shared → Prop), C i j → Q (.int (g i j) s.toks) { s with toks := s.toks + 1 } → wpAny (model X.prog X.w) X.A (f (.int i t) (.int j u)) Q E s) :
    OpR X f (rI C fun i j => .int (g i j)) := by
  intro pins s σ H x y v u Q I rx ry h
  obtain ⟨i, j, rfl, rfl, hc, q⟩ := h
  obtain ⟨t, rfl⟩ := rx
  obtain ⟨t', rfl⟩ := ry
  exact rule i j t t' s _ _ hc ⟨.int (g i j), H, I.tok _, ⟨_, rfl⟩, q⟩
theorem opI0 {f : Value → Value → Sem Value} {g : Int → Int → Int}
    (rule : ∀ (i j : Int) (t u : Tok) (s : Shared) (Q : Value → Shared → Prop) (E : Value → Shared → Prop), Q (.int (g i j) s.toks) { s with toks := s.toks + 1 } → wpAny (model X.prog X.w) X.A (f (.int i t) (.int j u)) Q E s) :
    OpR X f (rI0 fun i j => .int (g i j)) := by
  intro pins s σ H x y v u Q I rx ry h
  obtain ⟨i, j, rfl, rfl, q⟩ := h
  obtain ⟨t, rfl⟩ := rx
  obtain ⟨t', rfl⟩ := ry
  exact rule i j t t' s _ _ ⟨.int (g i j), H, I.tok _, ⟨_, rfl⟩, q⟩
theorem opB0 {f : Value → Value → Sem Value} {g : Int → Int → Bool}
    (rule : ∀ (i j : Int) (t u : Tok) (s : Shared) (Q : Value → Shared → Prop) (E : Value → Shared → Prop), Q (.bool (g i j)) s → wpAny (model X.prog X.w) X.A (f (.int i t) (.int j u)) Q E s) :
    OpR X f (rI0 fun i j => .bl (g i j)) := by
  intro pins s σ H x y v u Q I rx ry h
  obtain ⟨i, j, rfl, rfl, q⟩ := h
  obtain ⟨t, rfl⟩ := rx
  obtain ⟨t', rfl⟩ := ry
  exact rule i j t t' s _ _ ⟨.bl (g i j), H, I, rfl, q⟩

noncomputable def CDiv (i j : Int) : Prop := 0 < j ∧ j < 1073741824
noncomputable def CDivN (i j : Int) : Prop := j ≠ 0 ∧ j.natAbs < 1073741824
noncomputable def CPow (i j : Int) : Prop := 0 ≤ j ∧ j ≤ 1000000 ∧ i.natAbs < 2 ^ 64
noncomputable def CMul (i j : Int) : Prop := (-(2 ^ 64) < i ∧ i < 2 ^ 64) ∨ (-(2 ^ 64) < j ∧ j < 2 ^ 64)
theorem CMul.ok {i j : Int} (h : CMul i j) : IntMulOk i j := by
  rcases h with ⟨h1, h2⟩ | ⟨h1, h2⟩
  · exact .of_left (intBits_le_64 h1 h2)
  · exact .of_right (intBits_le_64 h1 h2)
theorem op_add : OpR X (binaryOp .Add) (rI0 fun i j => .int (i + j)) := opI0 fun _ _ _ _ _ _ _ q => add_int q
theorem op_sub : OpR X (binaryOp .Sub) (rI0 fun i j => .int (i - j)) := opI0 fun _ _ _ _ _ _ _ q => sub_int q
theorem op_mul : OpR X (binaryOp .Mult) (rI CMul fun i j => .int (i * j)) := opI fun _ _ _ _ _ _ _ hc q => mul_int q hc.ok
theorem op_fdiv : OpR X (binaryOp .FloorDiv) (rI CDiv fun i j => .int (i / j)) := opI fun i j _ _ _ _ _ hc q => by
  have h1 : (0 : Int) < j := hc.1
  have h2 : j < 1073741824 := hc.2
  exact floordiv_int (by omega) (by rw [Int.fdiv_eq_ediv_of_nonneg i (by omega)]; exact q) (.inl (PyProof.noPylong_small (by omega)))
theorem op_mod : OpR X (binaryOp .Mod) (rI (fun _ j => 0 < j) fun i j => .int (i % j)) := opI fun i j _ _ _ _ _ hc q => by
  have h1 : (0 : Int) < j := hc
  exact mod_int' (by omega) (by rw [Int.fmod_eq_emod_of_nonneg i (by omega)]; exact q)
theorem op_pow : OpR X (binaryOp .Pow) (rI CPow fun i j => .int (i ^ j.toNat)) := opI fun _ _ _ _ _ _ _ hc q => pow_int_small hc.1 hc.2.1 hc.2.2 q
theorem unI {f : Value → Sem Value} {g : Int → Int}
    (rule : ∀ (i : Int) (t : Tok) (s : Shared) (Q : Value → Shared → Prop) (E : Value → Shared → Prop), Q (.int (g i) s.toks) { s with toks := s.toks + 1 } → wpAny (model X.prog X.w) X.A (f (.int i t)) Q E s) :
    UnR X f (rU fun i => .int (g i)) := by
  intro pins s σ H x v Q I rx h
  obtain ⟨i, rfl, q⟩ := h
  obtain ⟨t, rfl⟩ := rx
  exact rule i t s _ _ ⟨.int (g i), H, I.tok _, ⟨_, rfl⟩, q⟩
theorem un_neg : UnR X (unaryOp .USub) (rU fun i => .int (-i)) := unI fun _ _ _ _ _ q => neg_int q
end

noncomputable def scal : V → V → Bool
  | .non, .non => true | .non, .int _ => true | .int _, .non => true | .non, .bl _ => true | .bl _, .non => true | .non, .str _ => true | .str _, .non => true
  | .int _, .int _ => true | .bl _, .bl _ => true | .str _, .str _ => true | .byt _, .byt _ => true
  | .int _, .str _ => true | .str _, .int _ => true | .bl _, .str _ => true | .str _, .bl _ => true
  | _, _ => false
noncomputable def rEq : R2 := fun x y H Q => scal x y = true ∧ Q (.bl (decide (x = y))) H
noncomputable def rNe : R2 := fun x y H Q => scal x y = true ∧ Q (.bl (!decide (x = y))) H

theorem dec_int {i j : Int} : decide (V.int i = V.int j) = (i == j) := by
  rw [Bool.eq_iff_iff]
  simp
theorem dec_bl {i j : Bool} : decide (V.bl i = V.bl j) = (i == j) := by
  rw [Bool.eq_iff_iff]
  simp
theorem dec_str {i j : Str} : decide (V.str i = V.str j) = (i == j) := by
  rw [Bool.eq_iff_iff]
  simp
theorem dec_byt {i j : Array UInt8} : decide (V.byt i = V.byt j) = (i.toList == j.toList) := by
  rw [Bool.eq_iff_iff]
  cases i
  cases j
  simp

section
variable {X : Cx} {a b c : Expr} {ta tb tc : TE} {pos : Pos}
theorem fin_bl {pins : List (Addr × Obj)} {σ : St} {H : Hp} {s : Shared} {Q : VK} {k k' : Bool} (I : Inv X pins σ H s) (q : Q (.bl k) H) (e : k = k') : EP X pins σ Q (.bool k') s := by
  subst e
  exact ⟨.bl k, H, I, rfl, q⟩
theorem op_eq : OpR X (compareOp .Eq) rEq := by
  intro pins s σ H x y v u Q I rx ry h
  obtain ⟨hs, q⟩ := h
  cases x with
  | non =>
    cases rx
    cases y with
    | non => cases ry; exact PySem.EqNone.eq_none_none (fin_bl I q (by simp))
    | bl j => cases ry; exact PySem.EqNone.eq_none_bool (fin_bl I q (by simp))
    | int j => obtain ⟨t', rfl⟩ := ry; exact PySem.EqNone.eq_none_int (fin_bl I q (by simp))
    | str j => obtain ⟨t', rfl⟩ := ry; exact PySem.EqNone.eq_none_str (fin_bl I q (by simp))
    | _ => exact absurd (show false = true from hs) Bool.false_ne_true
  | bl i =>
    cases rx
    cases y with
    | non => cases ry; exact PySem.EqNone.eq_bool_none (fin_bl I q (by simp))
    | bl j => cases ry; exact eq_bool (fin_bl I q dec_bl)
    | str j => obtain ⟨t', rfl⟩ := ry; exact PySem.EqMixed.eq_bool_str (fin_bl I q (by simp))
    | _ => exact absurd (show false = true from hs) Bool.false_ne_true
  | int i =>
    obtain ⟨t, rfl⟩ := rx
    cases y with
    | non => cases ry; exact PySem.EqNone.eq_int_none (fin_bl I q (by simp))
    | int j => obtain ⟨t', rfl⟩ := ry; exact eq_int (fin_bl I q dec_int)
    | str j => obtain ⟨t', rfl⟩ := ry; exact PySem.EqMixed.eq_int_str (fin_bl I q (by simp))
    | _ => exact absurd (show false = true from hs) Bool.false_ne_true
  | str i =>
    obtain ⟨t, rfl⟩ := rx
    cases y with
    | non => cases ry; exact PySem.EqNone.eq_str_none (fin_bl I q (by simp))
    | bl j => cases ry; exact PySem.EqMixed.eq_str_bool (fin_bl I q (by simp))
    | int j => obtain ⟨t', rfl⟩ := ry; exact PySem.EqMixed.eq_str_int (fin_bl I q (by simp))
    | str j => obtain ⟨t', rfl⟩ := ry; exact eq_str (fin_bl I q dec_str)
    | _ => exact absurd (show false = true from hs) Bool.false_ne_true
  | byt i =>
    obtain ⟨t, rfl⟩ := rx
    cases y with
    | byt j => obtain ⟨t', rfl⟩ := ry; exact PySem.W.eq_bytes (fin_bl I q dec_byt)
    | _ => exact absurd (show false = true from hs) Bool.false_ne_true
  | _ => cases y <;> exact absurd (show false = true from hs) Bool.false_ne_true
theorem op_ne : OpR X (compareOp .NotEq) rNe := by
  intro pins s σ H x y v u Q I rx ry h
  obtain ⟨hs, q⟩ := h
  cases x with
  | non =>
    cases rx
    cases y with
    | non => cases ry; exact PySem.EqNone.ne_none_none (fin_bl I q (by simp))
    | bl j => cases ry; exact PySem.EqNone.ne_none_bool (fin_bl I q (by simp))
    | int j => obtain ⟨t', rfl⟩ := ry; exact PySem.EqNone.ne_none_int (fin_bl I q (by simp))
    | str j => obtain ⟨t', rfl⟩ := ry; exact PySem.EqNone.ne_none_str (fin_bl I q (by simp))
    | _ => exact absurd (show false = true from hs) Bool.false_ne_true
  | bl i =>
    cases rx
    cases y with
    | non => cases ry; exact PySem.EqNone.ne_bool_none (fin_bl I q (by simp))
    | bl j => cases ry; exact ne_bool (fin_bl I q (congrArg not dec_bl))
    | str j => obtain ⟨t', rfl⟩ := ry; exact PySem.EqMixed.ne_bool_str (fin_bl I q (by simp))
    | _ => exact absurd (show false = true from hs) Bool.false_ne_true
  | int i =>
    obtain ⟨t, rfl⟩ := rx
    cases y with
    | non => cases ry; exact PySem.EqNone.ne_int_none (fin_bl I q (by simp))
    | int j => obtain ⟨t', rfl⟩ := ry; exact ne_int (fin_bl I q (congrArg not dec_int))
    | str j => obtain ⟨t', rfl⟩ := ry; exact PySem.EqMixed.ne_int_str (fin_bl I q (by simp))
    | _ => exact absurd (show false = true from hs) Bool.false_ne_true
  | str i =>
    obtain ⟨t, rfl⟩ := rx
    cases y with
    | non => cases ry; exact PySem.EqNone.ne_str_none (fin_bl I q (by simp))
    | bl j => cases ry; exact PySem.EqMixed.ne_str_bool (fin_bl I q (by simp))
    | int j => obtain ⟨t', rfl⟩ := ry; exact PySem.EqMixed.ne_str_int (fin_bl I q (by simp))
    | str j => obtain ⟨t', rfl⟩ := ry; exact ne_str (fin_bl I q (congrArg not dec_str))
    | _ => exact absurd (show false = true from hs) Bool.false_ne_true
  | byt i =>
    obtain ⟨t, rfl⟩ := rx
    cases y with
    | byt j => obtain ⟨t', rfl⟩ := ry; exact PySem.W.ne_bytes (fin_bl I q (congrArg not dec_byt))
    | _ => exact absurd (show false = true from hs) Bool.false_ne_true
  | _ => cases y <;> exact absurd (show false = true from hs) Bool.false_ne_true

theorem op_lt : OpR X (compareOp .Lt) (rI0 fun i j => .bl (decide (i < j))) := opB0 fun _ _ _ _ _ _ _ q => lt_int q
theorem op_le : OpR X (compareOp .LtE) (rI0 fun i j => .bl (decide (i ≤ j))) := opB0 fun _ _ _ _ _ _ _ q => le_int q
theorem op_gt : OpR X (compareOp .Gt) (rI0 fun i j => .bl (decide (j < i))) := opB0 fun _ _ _ _ _ _ _ q => gt_int q
theorem op_ge : OpR X (compareOp .GtE) (rI0 fun i j => .bl (decide (j ≤ i))) := opB0 fun _ _ _ _ _ _ _ q => ge_int q
theorem op_isN : OpR X (compareOp .Is) (fun x y H Q => y = .non ∧ Q (.bl (decide (x = .non))) H) := by
  intro pins s σ H x y v u Q I rx ry h
  obtain ⟨rfl, q⟩ := h
  cases ry
  refine is_none_gen (fin_bl I q ?_)
  cases x <;> first
    | (cases rx; rfl)
    | (obtain ⟨t, rfl⟩ := rx; rfl)
theorem op_notN : OpR X (compareOp .IsNot) (fun x y H Q => y = .non ∧ Q (.bl (!decide (x = .non))) H) := by
  intro pins s σ H x y v u Q I rx ry h
  obtain ⟨rfl, q⟩ := h
  cases ry
  refine isnot_none_gen (fin_bl I q ?_)
  cases x <;> first
    | (cases rx; rfl)
    | (obtain ⟨t, rfl⟩ := rx; rfl)

noncomputable def isObj : HO → Bool
  | .lst _ => true
  | .ins _ _ _ => true
  | _ => false
theorem nomark (b : Expr) {op : CmpOp} (h : op ≠ .In := by decide) (h2 : op ≠ .NotIn := by decide) : behindInMarks op b = false := by
  have e1 : (op == CmpOp.In) = false := by cases op <;> first | rfl | exact absurd rfl h
  have e2 : (op == CmpOp.NotIn) = false := by cases op <;> first | rfl | exact absurd rfl h2
  cases b <;> simp [behindInMarks, e1, e2]
theorem pe_cmpR {op : CmpOp} {r : R2} (ho : OpR X (compareOp op) r) (ha : PE X a ta) (hb : PE X b tb) (hm : behindInMarks op b = false) : PE X (.Compare a [op] [b] pos) (tOp r ta tb) := by
  intro pins s σ H Q I h
  exact wpAny_Compare1 (binT ha hb I h fun v u s2 x y H2 I2 rx ry q => ho pins s2 σ H2 x y v u Q I2 rx ry q) hm
noncomputable def tTest (t : TE) : TT := fun σ H Q => t σ H fun x H' => ∃ k, x = .bl k ∧ Q k H'
theorem pt_cmpR {op : CmpOp} {r : R2} (ho : OpR X (compareOp op) r) (ha : PE X a ta) (hb : PE X b tb) (hm : behindInMarks op b = false) : PT X (.Compare a [op] [b] pos) (tTest (tOp r ta tb)) := by
  intro pins s σ H Q I h
  refine wpAny_isTrue_Compare1 (thn (ha pins s σ H _ I h) fun v s1 ⟨x, H1, I1, r1, q1⟩ => thn (hb pins s1 σ H1 _ I1 q1) fun u s2 ⟨y, H2, I2, r2, q2⟩ =>
    thn (ho pins s2 σ H2 x y v u _ I2 r1 r2 q2) fun c s3 ⟨z, H3, I3, r3, k, e, q3⟩ => ?_) hm
  subst e
  cases r3
  exact wpAny_truthy_bool ⟨H3, I3, q3⟩
noncomputable def tChain (r r' : R2) (ta tb tc : TE) : TE := fun σ H Q => ta σ H fun x H1 => tb σ H1 fun y H2 => r x y H2 fun z H3 => ∃ k, z = .bl k ∧
  (if k = true then tc σ H3 fun w' H4 => r' y w' H4 Q else Q (.bl false) H3)
theorem pe_chain {op op' : CmpOp} {r r' : R2} (ho : OpR X (compareOp op) r) (ho' : OpR X (compareOp op') r') (ha : PE X a ta) (hb : PE X b tb) (hc : PE X c tc)
    (hm : lastMarks [op, op'] [b, c] = false := by with_unfolding_all rfl) : PE X (.Compare a [op, op'] [b, c] pos) (tChain r r' ta tb tc) := by
  intro pins s σ H Q I h
  refine Compare_chain (thn (ha pins s σ H _ I h) fun v s1 ⟨x, H1, I1, r1, q1⟩ => chain_link (thn (hb pins s1 σ H1 _ I1 q1) fun u s2 ⟨y, H2, I2, r2, q2⟩ =>
    thn (ho pins s2 σ H2 x y v u _ I2 r1 r2 q2) fun d s3 ⟨z, H3, I3, r3, k, e, q3⟩ => ?_)) hm
  subst e
  cases r3
  refine wpAny_truthy_bool ?_
  cases k with
  | false => exact ite_ff ⟨.bl false, H3, I3, rfl, q3⟩
  | true => exact ite_tt (chain_last (thn (hc pins s3 σ H3 _ I3 q3) fun w' s4 ⟨z', H4, I4, r4, q4⟩ => ho' pins s4 σ H4 y z' u w' Q I4 r2 r4 q4))
theorem pt_chain {op op' : CmpOp} {r r' : R2} (ho : OpR X (compareOp op) r) (ho' : OpR X (compareOp op') r') (ha : PE X a ta) (hb : PE X b tb) (hc : PE X c tc)
    (hm : lastMarks [op, op'] [b, c] = false := by with_unfolding_all rfl) : PT X (.Compare a [op, op'] [b, c] pos) (tTest (tChain r r' ta tb tc)) := by
  intro pins s σ H Q I h
  refine isTrue_chain (thn (ha pins s σ H _ I h) fun v s1 ⟨x, H1, I1, r1, q1⟩ => test_link (thn (hb pins s1 σ H1 _ I1 q1) fun u s2 ⟨y, H2, I2, r2, q2⟩ =>
    thn (ho pins s2 σ H2 x y v u _ I2 r1 r2 q2) fun d s3 ⟨z, H3, I3, r3, k, e, q3⟩ => ?_)) hm
  subst e
  cases r3
  refine wpAny_truthy_bool ?_
  cases k with
  | false =>
    obtain ⟨k', e', q'⟩ := q3
    cases e'
    exact ite_ff ⟨H3, I3, q'⟩
  | true =>
    refine ite_tt (test_last (thn (hc pins s3 σ H3 _ I3 q3) fun w' s4 ⟨z', H4, I4, r4, q4⟩ => thn (ho' pins s4 σ H4 y z' u w' _ I4 r2 r4 q4) fun d' s5 ⟨z2, H5, I5, r5, k2, e2, q5⟩ => ?_))
    subst e2
    cases r5
    exact wpAny_truthy_bool ⟨H5, I5, q5⟩

noncomputable def TruV (K : PySem.W.Frag) (x : V) (H : Hp) (k : Bool) : Prop :=
  match x with
  | .non => k = false
  | .bl b => k = b
  | .int i => k = (i != 0)
  | .str y => y.length ≤ sizeLine ∧ k = ((y.length : Int) != 0)
  | .byt y => y.size ≤ sizeLine ∧ k = ((y.size : Int) != 0)
  | .ref p => (∃ xs, SqL K H p xs ∧ k = !xs.isEmpty) ∨ (∃ xs, SqT K H p xs ∧ k = !xs.isEmpty) ∨ ∃ kvs, H p = some (.dK kvs) ∧ k = !kvs.isEmpty
  | _ => False
theorem line63 : (sizeLine : Nat) < 2 ^ 63 := by rw [sizeLine_eq]; decide
noncomputable def PlainIxT (b : Expr) : Prop := ∀ o i, subscripted b false o i = operate [o, i] (getItem o i)
theorem vals1 {x : V} {us : List Value} (r : Vals [x] us) : ∃ u, us = [u] ∧ RelV x u := by
  cases r with
  | cons r1 r2 => cases r2; exact ⟨_, rfl, r1⟩
theorem vals2 {x y : V} {us : List Value} (r : Vals [x, y] us) : ∃ u w', us = [u, w'] ∧ RelV x u ∧ RelV y w' := by
  cases r with
  | cons r1 r2 =>
    cases r2 with
    | cons r3 r4 => cases r4; exact ⟨_, _, rfl, r1, r3⟩
theorem call_min2 (hc : X.calm = true) : CallR X (.builtin "min") (fun xs H Q => ∃ i j, xs = [.int i, .int j] ∧ Q (.int (if j < i then j else i)) H) := by
  intro pins s σ H xs us Q I r h
  obtain ⟨i, j, rfl, q⟩ := h
  obtain ⟨u, w', rfl, ⟨t, rfl⟩, ⟨t', rfl⟩⟩ := vals2 r
  refine min_two_ints (I.ok.hd hc) fun h' tk k => ⟨_, H, I.kept k, ?_, q⟩
  by_cases hj : j < i
  · rw [if_pos hj, if_pos hj]; exact ⟨_, rfl⟩
  · rw [if_neg hj, if_neg hj]; exact ⟨_, rfl⟩
noncomputable def LenV (K : PySem.W.Frag) (x : V) (H : Hp) (n : Nat) : Prop :=
  match x with
  | .str y => y.length ≤ sizeLine ∧ n = y.length
  | .byt y => y.size ≤ sizeLine ∧ n = y.size
  | .ref p => (∃ xs, SqL K H p xs ∧ n = xs.length) ∨ ∃ xs, SqT K H p xs ∧ n = xs.length
  | _ => False
end
end L2

namespace L2
open PySem PySem.Spec PyProof.Rows

structure ObjM (h : Heap) (x dx C : Addr) (mA : Str → Option Value) : Prop where
  obj : h.get? x = some (PySem.W.instObj C dx)
  ns : h.Ns1 dx mA
  ne : dx ≠ x

section
variable {prog : Program} {w : World} {A : Around} {E : Value → Shared → Prop} {s : Shared} {K : PySem.W.Frag} {x dx C f : Addr} {mA : Str → Option Value} {name : Str} {v : Value}

end

noncomputable def putF (f : Str) (v : V) : List (Str × V) → List (Str × V)
  | [] => [(f, v)]
  | (g, x) :: r => if g = f then (g, v) :: r else (g, x) :: putF f v r
section
variable {P : Program} {w : World} {H H' : Hp} {h h' : Heap} {a C dx : Addr} {fs fs' : List (Str × V)}
end

structure Cls (K : PySem.W.Frag) (C : Addr) : Prop where
  pg : PySem.W.plainGet K C Str.empty = true
  hd : PySem.W.hasDictIn K C = true
  po : PySem.W.plainOver K C = true
  sa : PySem.W.findIn K (.ref C) "__setattr__" = some (some (.builtin "object.__setattr__"))
theorem Cls.get {K : PySem.W.Frag} {C : Addr} (c : Cls K C) (f : Str) : PySem.W.plainGet K C f = true := c.pg
noncomputable def NoAttr (K : PySem.W.Frag) (C : Addr) (f : Str) : Prop := PySem.W.findIn K (.ref C) f = some none
structure Con (K : PySem.W.Frag) (C : Addr) (f : Str) (v : V) (u : Value) : Prop where
  at_ : PySem.W.findIn K (.ref C) f = some (some u)
  rel : RelV v u
  get : PySem.W.specialIn K u "__get__" = some none
  cp : PySem.W.copiedNames.contains f = false
structure Meth (K : PySem.W.Frag) (C : Addr) (m : Str) (f : Addr) : Prop where
  at_ : PySem.W.findIn K (.ref C) m = some (some (.ref f))
  fn : PySem.W.isFn K (.ref f) = true
  kp : PySem.W.keepIn K (.ref f) = true

section
variable {X : Cx} {pins : List (Addr × Obj)} {σ : St} {H : Hp} {s : Shared} {a C dx : Addr} {fs : List (Str × V)} {f : Str} {v : V} {A : Around} {E : Value → Shared → Prop}

theorem attr_of {prog : Program} {w : World} {env : Env} {e : Expr} {f : Str} {pos : Pos} {s : Shared} {Q : Value → Shared → Prop} (hb : attributeBase e f env (eval e env) = eval e env)
    (h : wpAny (model prog w) A (eval e env) (fun o s₁ => wpAny (model prog w) A (getAttr o f true) Q E s₁) E s) : wpAny (model prog w) A (eval (.Attribute e f pos) env) Q E s :=
  Attribute_any_ h (by rw [arm_eval_Attribute, hb])
end

noncomputable def tFld (K : PySem.W.Frag) (ta : TE) (f : Str) : TE := fun σ H Q => ta σ H fun x H1 => ∃ a C dx fs v, x = .ref a ∧ H1 a = some (.ins C dx fs) ∧ Cls K C ∧ NoAttr K C f ∧ fs.lookup f = some v ∧ Q v H1
noncomputable def tCon (K : PySem.W.Frag) (ta : TE) (f : Str) : TE := fun σ H Q => ta σ H fun x H1 => ∃ a C dx fs v u, x = .ref a ∧ H1 a = some (.ins C dx fs) ∧ Cls K C ∧ Con K C f v u ∧ fs.lookup f = none ∧ Q v H1
noncomputable def sFld (K : PySem.W.Frag) (ta tv : TE) (f : Str) : TS := fun D σ H => tv σ H fun y H1 => ta σ H1 fun x H2 => ∃ a C dx fs, x = .ref a ∧ H2 a = some (.ins C dx fs) ∧ Cls K C ∧ NoAttr K C f ∧ fs.length < 1000 ∧
  D.nx σ (upd H2 a (.ins C dx (putF f y fs)))
noncomputable def InOp (X : Cx) (op : Operator) (rd : V → V → Hp → VK → Prop) : Prop :=
  ∀ (pins : List (Addr × Obj)) (s : Shared) (σ : St) (H : Hp) (x y : V) (u v : Value) (Q : VK), Inv X pins σ H s → RelV x u → RelV y v → rd x y H Q → wpAny (model X.prog X.w) X.A (inplaceOp op u v) (EP X pins σ Q) X.xe s
noncomputable def sFldAug (K : PySem.W.Frag) (ta tv : TE) (rd : V → V → Hp → VK → Prop) (f : Str) : TS := fun D σ H => ta σ H fun x H1 => ∃ a C dx fs v, x = .ref a ∧ H1 a = some (.ins C dx fs) ∧ Cls K C ∧ NoAttr K C f ∧ fs.lookup f = some v ∧
  tv σ H1 fun y H2 => rd v y H2 fun z H3 => ∃ dx' fs', H3 a = some (.ins C dx' fs') ∧ fs'.length < 1000 ∧ D.nx σ (upd H3 a (.ins C dx' (putF f z fs')))

section
variable {X : Cx} {o e value : Expr} {f : Str} {pos pos' tpos : Pos} {ta tv : TE}
noncomputable def rAdd : V → V → Hp → VK → Prop := fun x y H Q => ∃ i j, x = .int i ∧ y = .int j ∧ Q (.int (i + j)) H
noncomputable def rSub : V → V → Hp → VK → Prop := fun x y H Q => ∃ i j, x = .int i ∧ y = .int j ∧ Q (.int (i - j)) H
end

section
variable {X : Cx} {pins : List (Addr × Obj)} {σ : St} {H : Hp} {s : Shared} {A : Around} {E : Value → Shared → Prop} {Q : Value → Shared → Prop} {c : Value} {b : Bool}
inductive TyOf (K : PySem.W.Frag) (H : Hp) : V → Value → Prop where
  | non : TyOf K H .non (.type "NoneType")
  | bl (x : Bool) : TyOf K H (.bl x) (.type "bool")
  | int (i : Int) : TyOf K H (.int i) (.type "int")
  | str (x : Str) : TyOf K H (.str x) (.type "str")
  | flt (x : UInt64) : TyOf K H (.flt x) (.type "float")
  | lst {a : Addr} {xs : List V} (e : H a = some (.lst xs)) : TyOf K H (.ref a) (.type "list")
  | frz {a : Addr} {o : Obj} {xs : List V} (e : H a = some (.frz o (.lst xs))) : TyOf K H (.ref a) (.type "list")
  | tup {a : Addr} {xs : List V} (e : H a = some (.tup xs)) : TyOf K H (.ref a) (.type "tuple")
  | dK {a : Addr} {kvs : List (Key × V)} (e : H a = some (.dK kvs)) : TyOf K H (.ref a) (.type "dict")
  | dT {a : Addr} {kvs : List (List Key × V)} (e : H a = some (.dT kvs)) : TyOf K H (.ref a) (.type "dict")
  | ins {a C dx : Addr} {fs : List (Str × V)} (e : H a = some (.ins C dx fs)) (cl : Cls K C) (ha : PySem.W.findIn K (.ref C) "__class__" = some (some (.builtin "object.__class__")))
      (hn : PySem.W.specialIn K (.builtin "object.__class__") "__get__" = some (some (.builtin "getset_descriptor.__get__"))) (htk : PySem.W.takesIn K (.builtin "object.__class__") = some true)
      (hm : PySem.W.mroIn K C (.type "object") = some true) : TyOf K H (.ref a) (.ref C)
end
end L2

namespace L2
open PySem PySem.Spec PyProof.Rows

structure Room (k : Nat) (A : Around) : Prop where
  hd : A.handled = none
  dp : A.depth + 3 * k + 5 < recursionLimit
  un : A.units + 16 * k + 200 < cLine
  gd : A.guards = some []
theorem Room.mono {j k : Nat} {A : Around} (r : Room k A) (h : j ≤ k) : Room j A := ⟨r.hd, by have := r.dp; omega, by have := r.un; omega, r.gd⟩
theorem Room.deeper {k : Nat} {A : Around} (r : Room (k + 1) A) (env : Env) : Room k (A.deeper env) :=
  ⟨r.hd, by have := r.dp; show A.depth + 1 + 3 * k + 5 < _; omega, by have := r.un; show A.units + 3 + 16 * k + 200 < _; omega, r.gd⟩
theorem Room.in1 {k : Nat} {A : Around} (r : Room (k + 1) A) : Room k A.in1 :=
  ⟨r.hd, by have := r.dp; show A.depth + 3 * k + 5 < _; omega, by have := r.un; show A.units + 1 + 16 * k + 200 < _; omega, r.gd⟩
theorem make_depth {A : Around} {C : Addr} {us : List Value} {kw : List (Str × Value)} : (A.under (.builtin "type.__call__" ⟨.ref C :: us, kw⟩)).depth = A.depth + 1 := by
  first | rfl | simp [Around.under, Code.weight, Code.isCreation, Code.isGuard, Code.isCaller, Code.frames, Code.isFrame, guardIds]
theorem make_units {A : Around} {C : Addr} {us : List Value} {kw : List (Str × Value)} : (A.under (.builtin "type.__call__" ⟨.ref C :: us, kw⟩)).units = A.units + 1 := by
  first | rfl | simp [Around.under, Code.cUnits, Code.frames, Code.isFrame]
theorem make_guards {A : Around} {C : Addr} {us : List Value} {kw : List (Str × Value)} (h : A.guards = some []) : (A.under (.builtin "type.__call__" ⟨.ref C :: us, kw⟩)).guards = some [] := by
  first | exact h | (simpa [Around.under, Code.weight, Code.isCreation, Code.isGuard, Code.isCaller, Code.frames, Code.isFrame, guardIds] using h)
theorem Room.make {k : Nat} {A : Around} (r : Room (k + 1) A) (C : Addr) (us : List Value) (kw : List (Str × Value)) : Room k (A.under (.builtin "type.__call__" ⟨.ref C :: us, kw⟩)) :=
  ⟨r.hd, by have := r.dp; rw [make_depth]; omega, by have := r.un; rw [make_units]; omega, make_guards r.gd⟩
theorem Room.depth {k : Nat} {A : Around} (r : Room k A) : A.depth < recursionLimit := by have := r.dp; omega
theorem Room.units {k : Nat} {A : Around} (r : Room k A) : A.units + 64 < cLine := by have := r.un; omega
noncomputable def tNil : TA := fun _ H Q => Q [] H
noncomputable def tCons (ta : TE) (tr : TA) : TA := fun σ H Q => ta σ H fun x H1 => tr σ H1 fun xs H2 => Q (x :: xs) H2
section
variable {X : Cx} {e : Expr} {es : List Expr} {te : TE} {t : TA} {pos : Pos}
theorem pa_nil : PA X [] tNil := fun _ _ _ _ H Q I h => Calls.spliced_nil ⟨[], H, I, .nil, h⟩
theorem pa_cons (ha : PE X e te) (hr : PA X es t) (hs : starEach (e :: es) X.env = (false, eval e X.env) :: starEach es X.env := by rfl) : PA X (e :: es) (tCons te t) := by
  intro pos pins s σ H Q I h
  rw [hs]
  show wpAny _ _ (spliced ((false, eval e X.env) :: backTo pos (starEach es X.env))) _ _ s
  refine Calls.spliced_cons (thn (ha pins s σ H _ I h) fun u s1 ⟨x, H1, I1, r1, q1⟩ => ?_)
  exact thn (hr pos pins s1 σ H1 _ I1 q1) fun us s2 ⟨xs, H2, I2, r2, q2⟩ => ⟨x :: xs, H2, I2, .cons r1 r2, q2⟩

noncomputable def tTup (t : TA) : TE := fun σ H Q => t σ H fun xs H1 => xs.length ≤ sizeLine ∧ ∀ p, H1 p = none → Q (.ref p) (upd H1 p (.tup xs))
noncomputable def tLst (t : TA) : TE := fun σ H Q => t σ H fun xs H1 => xs.length ≤ sizeLine ∧ ∀ p, H1 p = none → Q (.ref p) (upd H1 p (.lst xs))
theorem pe_tup {x1} (h : PA X es t) : PE X (.Tuple es x1 pos) (tTup t) := by
  intro pins s σ H Q I hq
  refine wpAny_Tuple_spliced (thn (h pos pins s σ H _ I hq) fun us s1 ⟨xs, H1, I1, r, z, q⟩ => ⟨by rw [← r.length]; exact z, ?_⟩)
  have hf : H1 s1.heap.objs.size = none := I1.hok.fresh (Nat.le_refl _)
  refine ⟨.ref s1.heap.objs.size, upd H1 s1.heap.objs.size (.tup xs), I1.laid (t' := s1.toks) (fun b u e => Heap.get?_push_of_some _ e) (Nat.le_refl _) ?_, rfl, q _ hf⟩
  exact ⟨z, us, r, ⟨_, Heap.get?_push_size _ rfl, rfl, _, rfl⟩⟩
theorem pe_lst (h : PA X es t) : PE X (.List es pos) (tLst t) := by
  intro pins s σ H Q I hq
  refine wpAny_List_spliced (thn (h pos pins s σ H _ I hq) fun us s1 ⟨xs, H1, I1, r, z, q⟩ => ⟨by rw [← r.length]; exact z, ?_⟩)
  have hf : H1 s1.heap.objs.size = none := I1.hok.fresh (Nat.le_refl _)
  refine ⟨.ref s1.heap.objs.size, upd H1 s1.heap.objs.size (.lst xs), I1.laid (t' := s1.toks) (fun b u e => Heap.get?_push_of_some _ e) (Nat.le_refl _) ?_, rfl, q _ hf⟩
  exact ⟨z, us, 0, r, Heap.get?_push_size _ rfl⟩
end

noncomputable abbrev Sp := List V → Hp → VK → XK → Prop
noncomputable abbrev CXT := List Env → Hp → Shared → XK → Value → Shared → Prop

structure Env0 (P : Program) (w : World) (K : PySem.W.Frag) (mg : Str → Option Value) (base : Heap) (A : Around) (outer : List Env) (s : Shared) (H : Hp) : Prop where
  frames : A.frames = some outer
  mod : Mod K mg base
  bs : ∀ b o, base.get? b = some o → s.heap.get? b = some o ∧ H b = none
  bsz : base.objs.size ≤ s.heap.objs.size
  funs : s.heap.FunFrames base outer
  frf : ∀ b ∈ frs outer, H b = none
  hok : HOk P w H s.heap
  bare : AllBare s.gens
noncomputable def CE (outer : List Env) (P : Program) (w : World) (H : Hp) (s : Shared) (Q : VK) (u : Value) (s' : Shared) : Prop :=
  ∃ v H', s'.os = s.os ∧ AllBare s'.gens ∧ Un (frs outer) [] H H' s.heap s'.heap ∧ HOk P w H' s'.heap ∧ RelV v u ∧ Q v H'
noncomputable def CR (CX : CXT) (outer : List Env) (P : Program) (w : World) (H : Hp) (s : Shared) (Q : VK) (E : XK) (r : Result) (s' : Shared) : Prop :=
  match r with
  | .ok (.ret u) => CE outer P w H s Q u s'
  | .ok _ => False
  | .error e => CX outer H s E e s'
structure FnOk (P : Program) (w : World) (K : PySem.W.Frag) (mg : Str → Option Value) (base : Heap) (CX : CXT) (k : Nat) (f : Addr) (fd : FuncData) (ps : List Str) (sp : Sp) : Prop where
  len : ∀ vs H Q E, sp vs H Q E → vs.length = ps.length
  run : ∀ (A : Around) (outer : List Env) (s : Shared) (H : Hp) (args : Args) (us : List Value) (vs : List V) (Q : VK) (E : XK), Room k A → Env0 P w K mg base A outer s H → BindsTo s fd args (ps.zip us) → Vals vs us → sp vs H Q E →
    codeAny (model P w) A (.call (.ref f) args) (CR CX outer P w H s Q E) s
theorem FnOk.mono {P : Program} {w : World} {K : PySem.W.Frag} {mg : Str → Option Value} {base : Heap} {CX : CXT} {j k : Nat} {f : Addr} {fd : FuncData} {ps : List Str} {sp : Sp} (F : FnOk P w K mg base CX j f fd ps sp) (h : j ≤ k) :
    FnOk P w K mg base CX k f fd ps sp := ⟨F.len, fun A outer s H args us vs Q E hr => F.run A outer s H args us vs Q E (hr.mono h)⟩
theorem FnOk.imp {P : Program} {w : World} {K : PySem.W.Frag} {mg : Str → Option Value} {base : Heap} {CX : CXT} {k : Nat} {f : Addr} {fd : FuncData} {ps : List Str} {sp sp' : Sp} (F : FnOk P w K mg base CX k f fd ps sp)
    (h : ∀ vs H Q E, sp' vs H Q E → sp vs H Q E) : FnOk P w K mg base CX k f fd ps sp' :=
  ⟨fun vs H Q E q => F.len vs H Q E (h _ _ _ _ q), fun A outer s H args us vs Q E hr he hb hv hs => F.run A outer s H args us vs Q E hr he hb hv (h _ _ _ _ hs)⟩

theorem Env0.make {P : Program} {w : World} {K : PySem.W.Frag} {mg : Str → Option Value} {base : Heap} {A : Around} {outer : List Env} {s : Shared} {H : Hp} (e : Env0 P w K mg base A outer s H) (C : Addr) (us : List Value) (kw : List (Str × Value)) :
    Env0 P w K mg base (A.under (.builtin "type.__call__" ⟨.ref C :: us, kw⟩)) outer s H := ⟨by first | exact e.frames | (simpa [Around.under, Code.envs, Code.isFrame, pushEnvs] using e.frames), e.mod, e.bs, e.bsz, e.funs, e.frf, e.hok, e.bare⟩
theorem Env0.in1 {P : Program} {w : World} {K : PySem.W.Frag} {mg : Str → Option Value} {base : Heap} {A : Around} {outer : List Env} {s : Shared} {H : Hp} (e : Env0 P w K mg base A outer s H) :
    Env0 P w K mg base A.in1 outer s H := ⟨e.frames, e.mod, e.bs, e.bsz, e.funs, e.frf, e.hok, e.bare⟩

section
variable {X : Cx} {pins : List (Addr × Obj)} {σ : St} {H : Hp} {s s' : Shared}
theorem Inv.env0 (I : Inv X pins σ H s) : Env0 X.prog X.w X.K X.mg X.base X.A X.stack s H :=
  ⟨I.ok.frames, I.ok.mod, I.bs, Nat.le_trans I.ok.bsz I.sz, I.stack, I.stkFree, I.hok, I.bare⟩
theorem Inv.after {Q : VK} {u : Value} (I : Inv X pins σ H s) (h : CE X.stack X.prog X.w H s Q u s') : EP X pins σ Q u s' := by
  obtain ⟨v, H', os, bare, un, hok, r, q⟩ := h
  obtain ⟨hh, g, d, t, os'⟩ := s'
  obtain rfl : os' = s.os := os
  exact ⟨v, H', I.call (h' := hh) (g' := g) (d' := d) (t' := t) (ch := []) un hok bare (fun b z => absurd z (by simp)), r, q⟩
end

noncomputable def tCall (sp : Sp) (dvs : List V) (E : XK) (t : TA) : TE := fun σ H Q => t σ H fun vs H1 => sp (vs ++ dvs) H1 Q E
noncomputable def tMeth (C : Addr) (m : Str) (sp : Sp) (dvs : List V) (E : XK) (ta : TE) (t : TA) : TE := fun σ H Q => ta σ H fun x H1 => ∃ a dx fs, x = .ref a ∧ H1 a = some (.ins C dx fs) ∧ fs.lookup m = none ∧
  t σ H1 fun vs H2 => sp (x :: (vs ++ dvs)) H2 Q E
noncomputable def tMake (C : Addr) (sp : Sp) (dvs : List V) (E : XK) (t : TA) : TE := fun σ H Q => t σ H fun vs H1 => ∀ x dx, H1 x = none → H1 dx = none → dx ≠ x →
  sp (.ref x :: (vs ++ dvs)) (upd (upd H1 dx (.own x)) x (.ins C dx [])) (fun v H2 => v = .non ∧ Q (.ref x) H2) E

noncomputable def Binds (K : PySem.W.Frag) (fd : FuncData) (ps : List Str) (ds : List Value) : Prop :=
  ∀ (s : Shared) (us : List Value), K.In s.heap → (us ++ ds).length = ps.length → BindsTo s fd ⟨us, []⟩ (ps.zip (us ++ ds))
theorem Binds.all {K : PySem.W.Frag} {fd : FuncData} {ps : List Str} (h : ∀ us : List Value, us.length = ps.length → bindArgs fd ⟨us, []⟩ = pure (ps.zip us)) : Binds K fd ps [] := fun s us _ hl => by
  rw [List.append_nil] at hl ⊢
  exact .of_eq (h us hl)

noncomputable def Passes (CX : CXT) (X : Cx) (E : XK) : Prop := ∀ (pins : List (Addr × Obj)) (σ : St) (H : Hp) (s : Shared) (e : Value) (s' : Shared), Inv X pins σ H s → CX X.stack H s E e s' → X.xe e s'

section
variable {X : Cx} {CX : CXT} {k : Nat} {f C : Addr} {fd : FuncData} {ps : List Str} {sp : Sp} {dvs : List V} {ds : List Value} {E : XK} {x m : Str} {p pos apos : Pos} {e o : Expr} {es : List Expr} {ta : TE} {t : TA}

theorem run_fn {pins : List (Addr × Obj)} {σ : St} {H : Hp} {s : Shared} {Q : VK} {us : List Value} {vs : List V} (F : FnOk X.prog X.w X.K X.mg X.base CX k f fd ps sp) (hr : Room k X.A) (hb : Binds X.K fd ps ds) (hd : Vals dvs ds) (hx : Passes CX X E)
    (I : Inv X pins σ H s) (r : Vals vs us) (h : sp (vs ++ dvs) H Q E) : wpAny (model X.prog X.w) X.A (call (.ref f) us) (EP X pins σ Q) X.xe s := by
  have r2 : Vals (vs ++ dvs) (us ++ ds) := r.append hd
  have hl : (us ++ ds).length = ps.length := by rw [← r2.length]; exact F.len _ _ _ _ h
  refine wpAny_call (codeAny_mono (F.run X.A X.stack s H ⟨us, []⟩ (us ++ ds) (vs ++ dvs) Q E hr I.env0 (hb s us I.kIn hl) r2 h) fun r s' hq => ?_)
  cases r with
  | error e => exact hx pins σ H s e s' I hq
  | ok fl =>
    cases fl with
    | ret u => exact I.after hq
    | next => exact False.elim hq
    | brk => exact False.elim hq
    | cont => exact False.elim hq

theorem pe_call (F : FnOk X.prog X.w X.K X.mg X.base CX k f fd ps sp) (hr : Room k X.A) (hg : Gl X x) (hm : X.mg x = some (.ref f)) (hk : PySem.W.keepIn X.K (.ref f) = true) (hb : Binds X.K fd ps ds) (hd : Vals dvs ds) (hx : Passes CX X E)
    (ha : PA X (e :: es) t) (hdb : (x == ("__debug__" : Str)) = false := by decide) (he : starEach (e :: es) X.env = (false, eval e X.env) :: starEach es X.env := by rfl) (hpl : (backTo pos (starEach es X.env)).any (·.1) = false := by rfl) :
    PE X (.Call (.Name x p) (e :: es) [] pos) (tCall sp dvs E t) := by
  intro pins s σ H Q I h
  refine wpAny_Call_Name_kw (ld_glob I hg hm ?_ hdb)
  refine PySem.W.callWith_K (h₀ := X.base) I.ok.mod.kin hk (thn (ha pos pins s σ H _ I h) fun us s1 ⟨vs, H1, I1, r, q⟩ => ⟨I1.kIn, ?_⟩) he hpl
  exact run_fn F hr hb hd hx I1 r q
structure Mk (K : PySem.W.Frag) (C f : Addr) : Prop where
  makes : PySem.W.makesIn K C = true
  init : PySem.W.findIn K (.ref C) "__init__" = some (some (.ref f))
  fn : PySem.W.isFn K (.ref f) = true
  kp : PySem.W.keepIn K (.ref C) = true

end

noncomputable def PK (X : Cx) (kws : List Keyword) (t : TA) : Prop :=
  ∀ (pos : Pos) (pins : List (Addr × Obj)) (s : Shared) (σ : St) (H : Hp) (Q : List V → Hp → Prop), Inv X pins σ H s → t σ H Q → wpAny (model X.prog X.w) X.A (evalAll ((backToKw pos (keywordEach kws X.env)).map (·.2))) (AP X pins σ Q) X.xe s
section
variable {X : Cx} {CX : CXT} {k : Nat} {f C : Addr} {fd : FuncData} {ps ks : List Str} {sp : Sp} {E : XK} {x m : Str} {p pos apos kpos : Pos} {e o : Expr} {es : List Expr} {kws : List Keyword} {te ta : TE} {t tk : TA} {nm : Option Str}
structure KBinds (K : PySem.W.Frag) (fd : FuncData) (ps ks : List Str) (g : List Value → List Value → List Value) (gV : List V → List V → List V) : Prop where
  to : ∀ (s : Shared) (us ws : List Value), K.In s.heap → (g us ws).length = ps.length → BindsTo s fd ⟨us, ks.zip ws⟩ (ps.zip (g us ws))
  rel : ∀ {vs : List V} {us : List Value} {zs : List V} {ws : List Value}, Vals vs us → Vals zs ws → Vals (gV vs zs) (g us ws)
noncomputable def tCallK (sp : Sp) (gV : List V → List V → List V) (E : XK) (t tk : TA) : TE := fun σ H Q => t σ H fun vs H1 => tk σ H1 fun zs H2 => sp (gV vs zs) H2 Q E
variable {g : List Value → List Value → List Value} {gV : List V → List V → List V}
end

structure FnScope (N P : List Str) (sc : Scope) : Prop where
  kind : sc.kind = .function
  co : sc.isCoroutine = false
  gen : sc.isGenerator = false
  nd : N.Nodup
  pre : N.take P.length = P
  par : ∀ x ∈ P, sc.names.lookup x = some .local ∨ sc.names.lookup x = some .cell
  nofree : ∀ y ∈ sc.names, y.2 ≠ .free

theorem bindL_out {kindOf : Str → Option NameKind} {x : Str} : ∀ {binds : List (Str × Value)} {m : Str → Option Value}, (∀ v, (x, v) ∉ binds) → bindL kindOf binds m x = m x
  | [], _, _ => rfl
  | (n, v) :: r, m, h => by
    unfold bindL
    rw [bindL_out fun w hw => h w (List.mem_cons_of_mem _ hw)]
    split
    · have : x ≠ n := by rintro rfl; exact h v List.mem_cons_self
      simp [this]
    · rfl
theorem bindC_out {kindOf : Str → Option NameKind} {x : Str} : ∀ {binds : List (Str × Value)} {m : Str → Option Value}, (∀ v, (x, v) ∉ binds) → bindC kindOf binds m x = m x
  | [], _, _ => rfl
  | (n, v) :: r, m, h => by
    unfold bindC
    rw [bindC_out fun w hw => h w (List.mem_cons_of_mem _ hw)]
    split
    · rfl
    · have : x ≠ n := by rintro rfl; exact h v List.mem_cons_self
      simp [this]
theorem bindL_get {kindOf : Str → Option NameKind} {x : Str} {v : Value} : ∀ {P : List Str} {vs : List Value} {i : Nat} {m : Str → Option Value}, P.Nodup → P[i]? = some x → vs[i]? = some v → kindOf x = some .local →
    bindL kindOf (P.zip vs) m x = some v
  | [], _, _, _, _, h, _, _ => by simp at h
  | _ :: _, [], _, _, _, _, h, _ => by simp at h
  | p :: P, w :: vs, 0, m, nd, h1, h2, hk => by
    simp at h1 h2; subst h1; subst h2
    show bindL kindOf ((p, w) :: P.zip vs) m p = _
    unfold bindL
    rw [bindL_out fun v hv => (List.nodup_cons.mp nd).1 (List.of_mem_zip hv).1, if_pos hk]
    simp
  | p :: P, w :: vs, i + 1, m, nd, h1, h2, hk => by
    show bindL kindOf ((p, w) :: P.zip vs) m x = _
    unfold bindL
    exact bindL_get (i := i) (List.nodup_cons.mp nd).2 (by simpa using h1) (by simpa using h2) hk
theorem bindC_get {kindOf : Str → Option NameKind} {x : Str} {v : Value} : ∀ {P : List Str} {vs : List Value} {i : Nat} {m : Str → Option Value}, P.Nodup → P[i]? = some x → vs[i]? = some v → kindOf x ≠ some .local →
    bindC kindOf (P.zip vs) m x = some v
  | [], _, _, _, _, h, _, _ => by simp at h
  | _ :: _, [], _, _, _, _, h, _ => by simp at h
  | p :: P, w :: vs, 0, m, nd, h1, h2, hk => by
    simp at h1 h2; subst h1; subst h2
    show bindC kindOf ((p, w) :: P.zip vs) m p = _
    unfold bindC
    rw [bindC_out fun v hv => (List.nodup_cons.mp nd).1 (List.of_mem_zip hv).1, if_neg hk]
    simp
  | p :: P, w :: vs, i + 1, m, nd, h1, h2, hk => by
    show bindC kindOf ((p, w) :: P.zip vs) m x = _
    unfold bindC
    exact bindC_get (i := i) (List.nodup_cons.mp nd).2 (by simpa using h1) (by simpa using h2) hk

noncomputable def start (N : List Str) (vs : List V) : St := vs.map some ++ List.replicate (N.length - vs.length) none

noncomputable def cxOf (CX : CXT) (P : Program) (w : World) (K : PySem.W.Frag) (mg : Str → Option Value) (base : Heap) (N : List Str) (qual : Str) (scope : Scope) (f : Addr) (cd : Value) (A : Around) (outer : List Env) (s : Shared) (H : Hp) (E : XK) : Cx where
  prog := P
  w := w
  K := K
  mg := mg
  base := base
  A := A.deeper (envOfC qual scope s.heap.objs.size f cd)
  N := N
  s₀ := s
  H₀ := H
  env := envOfC qual scope s.heap.objs.size f cd
  outer := outer
  stack := envOfC qual scope s.heap.objs.size f cd :: outer
  ex := []
  calm := true
  fn := fun _ => true
  pn := []
  xe := fun e s' => wpAny (model P w) (A.deeper (envOfC qual scope s.heap.objs.size f cd)) (leaving (envOfC qual scope s.heap.objs.size f cd) e) (fun _ s'' => CX outer H s E e s'') (fun e' s'' => CX outer H s E e' s'') s'

theorem cell_has {sc : Scope} {n : Nat} {x : Str} (h : sc.names.lookup x = some .cell) : ∃ c, (cellsFrom n sc.names []).lookup x = some c := by
  have q := PySem.W.cellsFrom_some sc.names n [] (.inl h)
  exact Option.isSome_iff_exists.mp q

theorem inv_start {CX : CXT} {P : Program} {w : World} {K : PySem.W.Frag} {mg : Str → Option Value} {base : Heap} {N ps : List Str} {qual : Str} {scope : Scope} {f : Addr} {cd : Value} {A : Around} {outer : List Env} {s s1 : Shared} {H : Hp} {E : XK} {us : List Value} {vs : List V}
    (S : FnScope N ps scope) (hd : A.handled = none) (e0 : Env0 P w K mg base A outer s H) (hl : vs.length = ps.length) (r : Vals vs us)
    (x : InCallC s s.heap.objs.size (bindL (envOfC qual scope s.heap.objs.size f cd).kindOf (ps.zip us) fun _ => none) (cellsFrom (s.heap.objs.size + 1) scope.names []) (bindC (envOfC qual scope s.heap.objs.size f cd).kindOf (ps.zip us) fun _ => none) s1) :
    Inv (cxOf CX P w K mg base N qual scope f cd A outer s H E) [] (start N vs) H s1 := by
  have hpl : ps.length ≤ N.length := by have := congrArg List.length S.pre; rw [List.length_take] at this; omega
  obtain ⟨h1, tk, rfl, hk⟩ := x.done
  have noA : ∀ b : Addr, b ∉ (cxOf CX P w K mg base N qual scope f cd A outer s H E).ex := fun b z => absurd (show b ∈ ([] : List Addr) from z) (by simp)
  refine ⟨⟨e0.mod, S.kind, rfl, rfl, Nat.le_refl _, fun y z c h1 h2 => ?_, fun y hy => ?_, fun y c _ h => ?_, fun _ => hd, Around.frames_deeper e0.frames, .inr ⟨rfl, rfl⟩, fun b z => absurd z (noA b), e0.bs, e0.bsz, fun b _ _ => noA b, fun b z => absurd z (noA b), e0.funs, e0.frf⟩,
    rfl, e0.bare, Un.kept hk, ⟨_, x.toInCall.ns, fun i y v h1 h2 h3 => ?_⟩, fun y c h => ⟨_, x.cell y c h⟩, e0.hok.fresh (Nat.le_refl _), fun y c h => ?_, fun p hp => absurd (show p ∈ ([] : List (Addr × Obj)) from hp) (by simp), e0.hok.kept hk, ?_⟩
  · exact name_of_addr x.apart (PySem.mem_of_lookup h1) (PySem.mem_of_lookup h2)
  · have hy : scope.names.lookup y = some .cell ∨ scope.names.lookup y = some .free := hy
    rcases hy with hy | hy
    · exact cell_has hy
    · exact absurd rfl (S.nofree _ (PySem.mem_of_lookup hy))
  · exact Nat.le_of_lt (x.above y c (PySem.mem_of_lookup h))
  · have hi : i < vs.length := by
      unfold start at h2
      by_cases hi : i < vs.length
      · exact hi
      · rw [List.getElem?_append_right (by simpa using hi)] at h2
        rw [List.getElem?_replicate] at h2
        split at h2 <;> cases h2
    have ha : vs[i]? = some v := by
      unfold start at h2
      rw [List.getElem?_append_left (by simpa using hi), List.getElem?_map] at h2
      cases e : vs[i]? with
      | none => rw [e] at h2; cases h2
      | some a => rw [e] at h2; cases h2; rfl
    obtain ⟨u, hu, rv⟩ := r.get ha
    have hp : ps[i]? = some y := by
      rw [← S.pre, List.getElem?_take_of_lt (by omega)]; exact h1
    have ndP : ps.Nodup := by rw [← S.pre]; exact S.nd.sublist (List.take_sublist _ _)
    refine ⟨u, rv, ?_⟩
    rcases S.par y (List.mem_of_getElem? hp) with k | k
    · exact .inl ⟨k, bindL_get ndP hp hu k⟩
    · obtain ⟨c, e⟩ := cell_has (n := s.heap.objs.size + 1) k
      refine .inr ⟨.inl k, c, e, ?_⟩
      have q := x.cell y c e
      rw [bindC_get ndP hp hu (by show scope.names.lookup y ≠ _; rw [k]; decide)] at q
      exact q
  · exact e0.hok.fresh (Nat.le_of_lt (x.above y c (PySem.mem_of_lookup h)))
  · unfold start
    show _ = N.length
    rw [List.length_append, List.length_map, List.length_replicate]
    omega

theorem fn_of {CX : CXT} {P : Program} {w : World} {K : PySem.W.Frag} {mg : Str → Option Value} {base : Heap} {k : Nat} {f : Addr} {name qual : Str} {params : Arguments} {body : List Stmt} {scope : Scope} {dV kV doc pm cdv ct oc : Value} {an od : Option Addr}
    {osl : Array (Option Value)} {N ps : List Str} {sp : Sp} (lk : K.lookup f = some ⟨oc, od, .func (PySem.W.fnOf name qual params body scope dV kV doc pm an cdv ct), osl⟩) (hcd : PySem.W.codeIn K cdv qual = true) (S : FnScope N ps scope)
    (len : ∀ vs H Q E, sp vs H Q E → vs.length = ps.length)
    (hbody : ∀ (A : Around) (outer : List Env) (s : Shared) (H : Hp) (vs : List V) (Q : VK) (E : XK), Room k (A.deeper (envOfC qual scope s.heap.objs.size f cdv)) → sp vs H Q E →
      ∃ t, PSs (cxOf CX P w K mg base N qual scope f cdv A outer s H E) body t ∧ t { nx := fun _ H' => Q .non H', rt := Q } (start N vs) H) :
    FnOk P w K mg base CX (k + 1) f (PySem.W.fnOf name qual params body scope dV kV doc pm an cdv ct) ps sp := by
  refine ⟨len, fun A outer s H args us vs Q E hr e0 hb r hsp => ?_⟩
  have hl := len _ _ _ _ hsp
  have KX : K.In s.heap := e0.mod.kin.keeps fun b o e => (e0.bs b o e).1
  have lim : s.heap.NoLimit := e0.mod.nolimit.keeps fun b o e => (e0.bs b o e).1
  have hkind : ∀ y ∈ ps.zip us, scope.names.lookup y.1 = some .local ∨ (scope.names.lookup y.1 = some .cell ∧ ((cellsFrom (s.heap.objs.size + 1) scope.names []).lookup y.1).isSome = true) := fun ⟨n, v⟩ hy => by
    rcases S.par n (List.of_mem_zip hy).1 with q | q
    · exact .inl q
    · exact .inr ⟨q, PySem.W.cellsFrom_some _ _ _ (.inl q)⟩
  refine codeAny_call_function hr.depth (KX _ _ lk) rfl S.co S.gen rfl (PySem.W.codeRec_of KX hcd) (hb _ _ _ _ ?_)
  refine wpAny_newFunctionEnv_cells S.kind hkind fun env he s1 x => ?_
  subst he
  refine ⟨lim.keeps x.toInCall.keep, codeAny_func ?_⟩
  obtain ⟨t, ht, hq⟩ := hbody A outer s H vs Q E (hr.deeper _) hsp
  have I : Inv (cxOf CX P w K mg base N qual scope f cdv A outer s H E) [] (start N vs) H s1 := inv_start S hr.hd e0 hl r x
  refine wpAny_mono (ht [] s1 (start N vs) H _ I hq) (fun fl s' hs => ?_) fun e s' hs => hs
  have fin : ∀ {σ' : St} {H' : Hp} {v : V} {u : Value}, Inv (cxOf CX P w K mg base N qual scope f cdv A outer s H E) [] σ' H' s' → RelV v u → Q v H' → CE outer P w H s Q u s' :=
    fun {σ' H' v u} J rv q => ⟨v, H', J.os, J.bare, J.base, J.hok, rv, q⟩
  cases fl with
  | ret u =>
    obtain ⟨v, σ', H', J, rv, q⟩ := hs
    exact fin J rv q
  | next =>
    obtain ⟨σ', H', J, q⟩ := hs
    exact fin (v := V.non) (u := Value.none) J rfl q
  | brk =>
    obtain ⟨_, _, _, q⟩ := hs
    exact False.elim q
  | cont =>
    obtain ⟨_, _, _, q⟩ := hs
    exact False.elim q
end L2

namespace L2
open PySem PySem.Spec PyProof.Rows
section
variable {X : Cx} {x : Str} {p pos : Pos} {e : Expr} {es : List Expr} {t : TA} {id T : String} {r : List V → Hp → VK → Prop}

noncomputable def tCB (r : List V → Hp → VK → Prop) (t : TA) : TE := fun σ H Q => t σ H fun vs H1 => r vs H1 Q
theorem pe_callB (hc : CallR X (.builtin id) r) (hg : Gl X x) (hm : X.mg x = none) (hv : bootBuiltins x = some (.builtin id)) (ha : PA X (e :: es) t) (hn : x ≠ "__name__" := by decide) (hdb : (x == ("__debug__" : Str)) = false := by decide)
    (he : starEach (e :: es) X.env = (false, eval e X.env) :: starEach es X.env := by rfl) (hpl : (backTo pos (starEach es X.env)).any (·.1) = false := by rfl) : PE X (.Call (.Name x p) (e :: es) [] pos) (tCB r t) := by
  intro pins s σ H Q I h
  refine wpAny_Call_Name_kw (ld_blt I hg hm hv ?_ hn hdb)
  exact PyProof.Rows.callWith_builtin1 (thn (ha pos pins s σ H _ I h) fun us s1 ⟨vs, H1, I1, r1, q1⟩ => hc pins s1 σ H1 vs us Q I1 r1 q1) he hpl
theorem pe_callTy (hc : CallR X (.type T) r) (hg : Gl X x) (hm : X.mg x = none) (hv : bootBuiltins x = some (.type T)) (ha : PA X (e :: es) t) (hn : x ≠ "__name__" := by decide) (hdb : (x == ("__debug__" : Str)) = false := by decide)
    (he : starEach (e :: es) X.env = (false, eval e X.env) :: starEach es X.env := by rfl) (hpl : (backTo pos (starEach es X.env)).any (·.1) = false := by rfl) : PE X (.Call (.Name x p) (e :: es) [] pos) (tCB r t) := by
  intro pins s σ H Q I h
  refine wpAny_Call_Name_kw (ld_blt I hg hm hv ?_ hn hdb)
  exact PyProof.Rows.callWith_type1 (thn (ha pos pins s σ H _ I h) fun us s1 ⟨vs, H1, I1, r1, q1⟩ => hc pins s1 σ H1 vs us Q I1 r1 q1) he hpl
end
end L2

namespace HT
open PySem PyProof.Rows

noncomputable def lexLt : List Int → List Int → Bool
  | [], [] => false
  | [], _ :: _ => true
  | _ :: _, [] => false
  | x :: xs, y :: ys => if x = y then lexLt xs ys else decide (x < y)
section
open PySem.SeqAt
open PySem.AutoSeq1 (wpAny_loadPart')
open PySem.MeetsSeq PySem.MeetsSeq2 PySem.MeetsSeq3

end

section
variable {prog : Program} {w : World} {A : Around} {E : Value → Shared → Prop} {s : Shared}

theorem cat_tup {t b : Addr} {vs ws : List Value} {Q : Value → Shared → Prop} (ht : IsTup s.heap t vs.toArray) (hb : IsTup s.heap b ws.toArray) (hv : vs ≠ [])
    (h1 : ws = [] → Q (.ref t) s) (h2 : ws ≠ [] → Q (.ref s.heap.objs.size) { s with heap := s.heap.push { cls := .type "tuple", data := .seq (vs ++ ws).toArray } })
    (hsz : vs.length + ws.length ≤ sizeLine) : wpAny (model prog w) A (binaryOp .Add (.ref t) (.ref b)) Q E s := by
  obtain ⟨⟨cls, dd, data, sl⟩, ho, hc, n, hd⟩ := id ht
  obtain ⟨⟨cls2, dd2, data2, sl2⟩, ho2, hc2, n2, hd2⟩ := id hb
  simp only at hc hd hc2 hd2
  subst hc hd hc2 hd2
  have e : vs.toArray ++ ws.toArray = (vs ++ ws).toArray := by simp
  by_cases hw : ws = []
  · exact concat_meets ⟨_, ho, rfl⟩ ⟨_, ho2, rfl⟩ noFill_tuple_add seq_tuple_add PySem.F.slot_tuple_add PySem.F.entry_tuple_add (PySem.F.args_tuple_add_2 _ _)
      (tuple_addW1 t b vs.toArray ws.toArray n n2 dd dd2 sl sl2 (by simpa using hv) (by simp [hw])) ⟨ho, ho2, h1 hw⟩
  · refine concat_meets ⟨_, ho, rfl⟩ ⟨_, ho2, rfl⟩ noFill_tuple_add seq_tuple_add PySem.F.slot_tuple_add PySem.F.entry_tuple_add (PySem.F.args_tuple_add_2 _ _)
      (tuple_addW2 t b vs.toArray ws.toArray n n2 dd dd2 sl sl2 (by simpa using hv) (by simpa using hw) (by rw [List.size_toArray, List.size_toArray]; exact hsz)) ⟨ho, ho2, ?_⟩
    rw [e]
    exact h2 hw

noncomputable def sIx (n d : Nat) : Option Int → Nat
  | none => d
  | some v => if v < 0 then (v + (n : Int)).toNat else min v.toNat n
theorem sIx_none (n d : Nat) : sIx n d none = d := rfl
theorem sIx_nat (n d k : Nat) : sIx n d (some (k : Int)) = min k n := by
  show (if (k : Int) < 0 then ((k : Int) + (n : Int)).toNat else min (k : Int).toNat n) = min k n
  rw [if_neg (by omega), Int.toNat_natCast]
theorem sIx_le (n d : Nat) (hd : d ≤ n) (o : Option Int) : sIx n d o ≤ n := by
  cases o with
  | none => exact hd
  | some v =>
    show (if v < 0 then (v + (n : Int)).toNat else min v.toNat n) ≤ n
    by_cases hv : v < 0
    · rw [if_pos hv]; omega
    · rw [if_neg hv]; exact Nat.min_le_right _ _
theorem clip_eq (v : Int) (n d : Nat) : (if v < 0 then max (v + (n : Int)) 0 else min v (n : Int)) = ((sIx n d (some v) : Nat) : Int) := by
  show (if v < 0 then max (v + (n : Int)) 0 else min v (n : Int)) = (((if v < 0 then (v + (n : Int)).toNat else min v.toNat n) : Nat) : Int)
  by_cases hv : v < 0
  · simp only [if_pos hv]; omega
  · simp only [if_neg hv]; omega
theorem adjust_gen (lo hi : Option Int) (n : Nat) : Builtin.Slice.sliceAdjust lo hi 1 (n : Int) = (((sIx n 0 lo : Nat) : Int), ((sIx n n hi : Nat) : Int)) := by
  have h1 : ¬ ((1 : Int) < 0) := by omega
  unfold Builtin.Slice.sliceAdjust
  simp only [h1, if_false]
  refine Prod.ext ?_ ?_
  · cases lo with
    | none => rfl
    | some v => exact clip_eq v n 0
  · cases hi with
    | none => rfl
    | some v => exact clip_eq v n n
theorem places_gen (i j : Nat) : Builtin.Slice.slicePlaces (i : Int) (j : Int) 1 = j - i := by
  unfold Builtin.Slice.slicePlaces
  have h1 : (1 : Int) > 0 := by omega
  simp only [h1, if_true, Int.ediv_one]
  split <;> omega
theorem slicePart_ {v : Value} {o : Option Int} {Q : Option Int → Shared → Prop} (p : IsPart v o) (h : Q o s) : wpAny (model prog w) A (Builtin.Slice.slicePartIndex v) Q E s := by
  cases p with
  | none => exact slicePart_none h
  | int i t => exact slicePart_int h
theorem sliceApplied_gen {sl : Addr} {vl vu : Value} {lo hi : Option Int} {n : Nat} {Q : Int × Int × Nat → Shared → Prop} (hs : s.heap.IsSliceOf sl vl vu .none) (pl : IsPart vl lo) (pu : IsPart vu hi)
    (h : Q (((sIx n 0 lo : Nat) : Int), 1, sIx n n hi - sIx n 0 lo) s) : wpAny (model prog w) A (Builtin.Slice.sliceApplied (.ref sl) (pure (n : Int))) Q E s := by
  obtain ⟨os, hos, hcs, hds⟩ := id hs
  unfold Builtin.Slice.sliceApplied Builtin.Slice.sliceFields
  refine wpAny_bind (wpAny_bind (wpAny_field hos hds (x := vl) rfl (wpAny_bind (wpAny_field hos hds (x := vu) rfl (wpAny_bind (wpAny_field hos hds (x := .none) rfl (wpAny_pure ?_)))))))
  refine wpAny_bind (slicePart_none ?_)
  show wpAny _ _ (if ((1 : Int) == 0) = true then _ else _) _ _ s
  rw [if_neg (by decide)]
  refine wpAny_bind (slicePart_ pl (wpAny_bind (slicePart_ pu (wpAny_bind (wpAny_pure ?_)))))
  show wpAny _ _ (match Builtin.Slice.sliceAdjust lo hi 1 (n : Int) with | (lo, hi) => pure (lo, (1 : Int), Builtin.Slice.slicePlaces lo hi 1)) _ _ s
  rw [adjust_gen lo hi n]
  show wpAny _ _ (pure (((sIx n 0 lo : Nat) : Int), (1 : Int), Builtin.Slice.slicePlaces ((sIx n 0 lo : Nat) : Int) ((sIx n n hi : Nat) : Int) 1)) _ _ s
  rw [places_gen]
  exact wpAny_pure h
theorem pick_gen (xs : Array Value) (i k : Nat) : ((List.range k).filterMap fun (m : Nat) => xs[((i : Int) + (m : Int) * 1).toNat]?).toArray = ((xs.toList.drop i).take k).toArray := by
  have e : (fun (m : Nat) => xs[((i : Int) + (m : Int) * 1).toNat]?) = fun m => xs[i + m]? := by
    funext m
    have : ((i : Int) + (m : Int) * 1).toNat = i + m := by omega
    rw [this]
  rw [e]
  have := pick_run xs i k
  rw [List.filterMap_map] at this
  have e2 : ((fun x => xs[x]?) ∘ fun x => i + x) = fun m => xs[i + m]? := rfl
  rw [e2] at this
  rw [this]

theorem getItem_tuple_cut {t sl : Addr} {items : Array Value} {vl vu : Value} {lo hi : Option Int} {Q : Value → Shared → Prop} (ht : IsTup s.heap t items) (hs : s.heap.IsSliceOf sl vl vu .none) (pl : IsPart vl lo) (pu : IsPart vu hi)
    (hw : ¬ (sIx items.size 0 lo = 0 ∧ sIx items.size items.size hi = items.size))
    (h : Q (.ref s.heap.objs.size) { s with heap := s.heap.push { cls := .type "tuple", data := .seq ((items.toList.drop (sIx items.size 0 lo)).take (sIx items.size items.size hi - sIx items.size 0 lo)).toArray } })
    (hsz : items.size ≤ sizeLine) : wpAny (model prog w) A (getItem (.ref t) (.ref sl)) Q E s := by
  have htake : sizeOk (.seq ((items.toList.drop (sIx items.size 0 lo)).take (sIx items.size items.size hi - sIx items.size 0 lo)).toArray) := by
    show ((items.toList.drop (sIx items.size 0 lo)).take (sIx items.size items.size hi - sIx items.size 0 lo)).toArray.size ≤ sizeLine
    rw [List.size_toArray, List.length_take, List.length_drop, Array.length_toList]
    omega
  have hj : sIx items.size items.size hi ≤ items.size := sIx_le _ _ (Nat.le_refl _) hi
  obtain ⟨os, hos, hcs, hds⟩ := id hs
  have hTs : s.TypeIs (.ref sl) "slice" := ⟨os, hos, hcs⟩
  unfold getItem
  try with_reducible refine wpAny_holding ?_
  first | refine wpAny_bind (wpAny_pure ?_) | skip
  refine wpAny_bind (wpAny_sequenceKey ht.typeIs (by decide) ?_)
  refine wpAny_bind (wpAny_callSpecial?_slot (name := Str.ofString "__getitem__") ht.typeIs PyProof.Rows.slot_tuple_getitem
    (wpAny_call_entry PyProof.Rows.slot_tuple_getitem ht.typeIs entry_tuple_getitem ?_ (args_tuple_getitem _ _)))
  show wpAny _ _ (Builtin.Tuple.tupleItemsOf (.ref t) >>= _) _ _ s
  refine wpAny_bind (tupleItemsOf_ ht ?_)
  refine wpAny_bind (wpAny_typeOf hTs ?_)
  rw [if_pos (by decide)]
  refine wpAny_bind (sliceApplied_gen hs pl pu ?_)
  have hno : ¬ ((((sIx items.size 0 lo : Nat) : Int) == 0 && (1 : Int) == 1 && (sIx items.size items.size hi - sIx items.size 0 lo) == items.size) = true) := by
    intro q
    rw [Bool.and_eq_true, Bool.and_eq_true] at q
    have q1 : ((sIx items.size 0 lo : Nat) : Int) = 0 := eq_of_beq q.1.1
    have q2 : sIx items.size items.size hi - sIx items.size 0 lo = items.size := eq_of_beq q.2
    exact hw ⟨by omega, by omega⟩
  show wpAny _ _ (if (((sIx items.size 0 lo : Nat) : Int) == 0 && (1 : Int) == 1 && (sIx items.size items.size hi - sIx items.size 0 lo) == items.size) = true then _ else _) _ _ s
  rw [if_neg hno, pick_gen]
  first
    | exact wpAny_bind (m := Builtin.Tuple.tupleExact _) (wpAny_newObj_type (wpAny_pure ⟨_, rfl, wpAny_pure h⟩) htake)
    | exact wpAny_bind (m := Builtin.Tuple.tupleExact _) (wpAny_newObj_type (wpAny_bind (wpAny_pure (wpAny_pure ⟨_, rfl, wpAny_pure h⟩))) htake)
    | exact wpAny_bind (wpAny_bind (m := Builtin.Tuple.tupleExact _) (wpAny_newObj_type (wpAny_pure (wpAny_pure ⟨_, rfl, wpAny_pure h⟩)) htake))
    | exact wpAny_bind (wpAny_bind (m := Builtin.Tuple.tupleExact _) (wpAny_newObj_type (wpAny_pure ⟨_, rfl, wpAny_pure h⟩) htake))
end
end HT

namespace L2
open PySem PySem.Spec PyProof.Rows

noncomputable abbrev TO := St → Hp → (Option Int → Hp → Prop) → Prop
noncomputable def PO (X : Cx) (e : Option Expr) (t : TO) : Prop :=
  ∀ (pins : List (Addr × Obj)) (s : Shared) (σ : St) (H : Hp) (Q : Option Int → Hp → Prop), Inv X pins σ H s → t σ H Q →
    wpAny (model X.prog X.w) X.A (evalPart e X.env) (fun u s' => ∃ o H', Inv X pins σ H' s' ∧ IsPart u o ∧ Q o H') X.xe s
noncomputable def tNoPart : TO := fun _ H Q => Q none H
noncomputable def tPart (t : TE) : TO := fun σ H Q => t σ H fun x H1 => ∃ i, x = .int i ∧ Q (some i) H1

section
variable {X : Cx} {e : Expr} {te : TE} {lo hi : Option Expr} {tl th : TO} {pos p2 : Pos}

theorem po_none : PO X none tNoPart := by
  intro pins s σ H Q I h
  rw [evalPart_none]
  exact wpAny_pure ⟨none, H, I, .none, h⟩
theorem po_some (h : PE X e te) : PO X (some e) (tPart te) := by
  intro pins s σ H Q I hw
  rw [evalPart_some]
  refine thn (h pins s σ H _ I hw) fun u s1 ⟨x, H1, I1, r1, q1⟩ => ?_
  obtain ⟨i, rfl, q⟩ := q1
  obtain ⟨t, rfl⟩ := r1
  exact ⟨some i, H1, I1, .int i t, q⟩

noncomputable def SlR (X : Cx) (r : V → Option Int → Option Int → Hp → VK → Prop) : Prop :=
  ∀ (pins : List (Addr × Obj)) (s : Shared) (σ : St) (H : Hp) (x : V) (v vl vu : Value) (lo hi : Option Int) (sl : Addr) (Q : VK), Inv X pins σ H s → RelV x v → s.heap.IsSliceOf sl vl vu .none → IsPart vl lo → IsPart vu hi → r x lo hi H Q →
    ∃ T id, typeLookup (.type T) "__getitem__" = pure (some (.builtin id)) ∧ s.TypeIs v T ∧ wpAny (model X.prog X.w) X.A (getItem v (.ref sl)) (EP X pins σ Q) X.xe s
noncomputable def tSl (r : V → Option Int → Option Int → Hp → VK → Prop) (te : TE) (tl th : TO) : TE := fun σ H Q => te σ H fun x H1 => tl σ H1 fun l H2 => th σ H2 fun u H3 => r x l u H3 Q
theorem pe_slice {r : V → Option Int → Option Int → Hp → VK → Prop} (hr : SlR X r) (he : PE X e te) (hl : PO X lo tl) (hu : PO X hi th) : PE X (.Subscript e (.Slice lo hi none p2) pos) (tSl r te tl th) := by
  intro pins s σ H Q I h
  refine Subscript_ (thn (he pins s σ H _ I h) fun v s1 ⟨x, H1, I1, r1, q1⟩ => ?_)
  refine wpAny_Slice (thn (hl pins s1 σ H1 _ I1 q1) fun vl s2 ⟨l, H2, I2, pl, q2⟩ => thn (hu pins s2 σ H2 _ I2 q2) fun vu s3 ⟨u, H3, I3, pu, q3⟩ => ?_)
  rw [evalPart_none]
  refine wpAny_pure ?_
  have I4 : Inv X pins σ H3 { s3 with heap := s3.heap.push { cls := .type "slice", data := .fields #[vl, vu, .none] } } := I3.kept (t' := s3.toks) fun b ob q => Heap.get?_push_of_some _ q
  obtain ⟨T, id, hT, ht, hg⟩ := hr pins { s3 with heap := s3.heap.push { cls := .type "slice", data := .fields #[vl, vu, .none] } } σ H3 x v vl vu l u s3.heap.objs.size Q I4 r1 (Heap.IsSliceOf.new ..) pl pu q3
  show wpAny (model X.prog X.w) X.A (subscriptTail e (.Slice lo hi none p2) v (.ref s3.heap.objs.size)) (EP X pins σ Q) X.xe { s3 with heap := s3.heap.push { cls := .type "slice", data := .fields #[vl, vu, .none] } }
  exact tail_any (ops := [.ref s3.heap.objs.size, v]) ht hT hg (by with_unfolding_all rfl)

noncomputable def cutV (xs : List V) (lo hi : Option Int) : List V := (xs.drop (HT.sIx xs.length 0 lo)).take (HT.sIx xs.length xs.length hi - HT.sIx xs.length 0 lo)
theorem cutV_length (xs : List V) (lo hi : Option Int) : (cutV xs lo hi).length ≤ xs.length := by
  unfold cutV
  rw [List.length_take, List.length_drop]
  omega
noncomputable def rSlT (K : PySem.W.Frag) : V → Option Int → Option Int → Hp → VK → Prop := fun x lo hi H Q => ∃ a xs, x = .ref a ∧ SqT K H a xs ∧
  ¬ (HT.sIx xs.length 0 lo = 0 ∧ HT.sIx xs.length xs.length hi = xs.length) ∧ ∀ p, H p = none → Q (.ref p) (upd H p (.tup (cutV xs lo hi)))
theorem sl_tup : SlR X (rSlT X.K) := by
  intro pins s σ H x v vl vu lo hi sl Q I rx hs pl pu h
  obtain ⟨a, xs, rfl, hx, hw, q⟩ := h
  cases rx
  obtain ⟨its, r, ht, hz⟩ := I.tuple hx
  have hlen : its.toArray.size = xs.length := by rw [List.size_toArray]; exact r.length.symm
  refine ⟨"tuple", _, PyProof.Rows.slot_tuple_getitem.lookup, ht.typeIs, ?_⟩
  refine HT.getItem_tuple_cut ht hs pl pu (by rw [hlen]; exact hw) ?_ (by rw [hlen]; exact hz)
  rw [hlen]
  refine ⟨.ref s.heap.objs.size, _, I.laid (t' := s.toks) (o := .tup (cutV xs lo hi)) (fun b ob q => Heap.get?_push_of_some _ q) (Nat.le_refl _) ?_, rfl, q _ (I.hok.fresh (Nat.le_refl _))⟩
  exact ⟨Nat.le_trans (cutV_length xs lo hi) hz, _, (r.drop (HT.sIx xs.length 0 lo)).take (HT.sIx xs.length xs.length hi - HT.sIx xs.length 0 lo), IsTup.new _ _⟩

noncomputable def rLtT (K : PySem.W.Frag) : R2 := fun x y H Q => ∃ a b ns ms, x = .ref a ∧ y = .ref b ∧ SqT K H a (ns.map V.int) ∧ SqT K H b (ms.map V.int) ∧ Q (.bl (HT.lexLt ns ms)) H
noncomputable def rCatT (K : PySem.W.Frag) : R2 := fun x y H Q => ∃ a b xs ys, x = .ref a ∧ y = .ref b ∧ SqT K H a xs ∧ SqT K H b ys ∧ xs ≠ [] ∧ xs.length + ys.length ≤ sizeLine ∧
  (ys = [] → Q (.ref a) H) ∧ (ys ≠ [] → ∀ p, H p = none → Q (.ref p) (upd H p (.tup (xs ++ ys))))
theorem Vals.nil_iff {xs : List V} {us : List Value} (r : Vals xs us) : us = [] ↔ xs = [] := by
  cases r with
  | nil => simp
  | cons _ _ => simp
theorem op_catT : OpR X (binaryOp .Add) (rCatT X.K) := by
  intro pins s σ H x y v u Q I rx ry h
  obtain ⟨a, b, xs, ys, rfl, rfl, ha, hb, hx, hz, q1, q2⟩ := h
  cases rx
  cases ry
  obtain ⟨its, r1, p1, _⟩ := I.tuple ha
  obtain ⟨its2, r2, p2, _⟩ := I.tuple hb
  refine HT.cat_tup p1 p2 (fun z => hx (r1.nil_iff.mp z)) (fun z => ⟨.ref a, H, I, rfl, q1 (r2.nil_iff.mp z)⟩) (fun z => ?_) (by rw [← r1.length, ← r2.length]; exact hz)
  refine ⟨.ref s.heap.objs.size, _, I.laid (t' := s.toks) (o := .tup (xs ++ ys)) (fun b ob q => Heap.get?_push_of_some _ q) (Nat.le_refl _) ?_, rfl, q2 (fun w => z (r2.nil_iff.mpr w)) _ (I.hok.fresh (Nat.le_refl _))⟩
  exact ⟨by rw [List.length_append]; exact hz, _, r1.append r2, IsTup.new _ _⟩
end
end L2

namespace L2
open PySem PySem.Spec PyProof.Rows

noncomputable def ixN (n : Nat) (i : Int) : Option Nat := if 0 ≤ i then (if i < n then some i.toNat else none) else if -(n : Int) ≤ i then some (i + n).toNat else none
noncomputable def atI {α : Type} (xs : List α) (i : Int) : Option α := (ixN xs.length i).bind fun j => xs[j]?
theorem ixN_seq {n : Nat} {i : Int} {j : Nat} (h : ixN n i = some j) : seqIndex? i n = some j ∧ j < n ∧ -(n : Int) ≤ i ∧ i < n := by
  unfold ixN at h
  by_cases h0 : 0 ≤ i
  · rw [if_pos h0] at h
    by_cases h1 : i < n
    · rw [if_pos h1] at h
      have e : i.toNat = j := Option.some.inj h
      exact ⟨by rw [seqIndex_of h0 h1, e], by omega, by omega, h1⟩
    · rw [if_neg h1] at h; cases h
  · rw [if_neg h0] at h
    by_cases h1 : -(n : Int) ≤ i
    · rw [if_pos h1] at h
      have e : (i + n).toNat = j := Option.some.inj h
      exact ⟨by rw [seqIndex_neg (by omega) h1, e], by omega, h1, by omega⟩
    · rw [if_neg h1] at h; cases h
theorem atI_get {α : Type} {xs : List α} {i : Int} {v : α} (h : atI xs i = some v) : ∃ j, seqIndex? i xs.length = some j ∧ xs[j]? = some v ∧ j < xs.length ∧ -(xs.length : Int) ≤ i ∧ i < xs.length := by
  unfold atI at h
  cases e : ixN xs.length i with
  | none => rw [e] at h; cases h
  | some j =>
    rw [e] at h
    obtain ⟨h1, h2, h3, h4⟩ := ixN_seq e
    exact ⟨j, h1, h, h2, h3, h4⟩
theorem atI_nat {α : Type} {xs : List α} {j : Nat} {v : α} (h : xs[j]? = some v) : atI xs (j : Int) = some v := by
  have hj : j < xs.length := (List.getElem?_eq_some_iff.mp h).1
  have e : ixN xs.length (j : Int) = some j := by
    unfold ixN
    rw [if_pos (by omega), if_pos (by omega)]; simp
  unfold atI; rw [e]; exact h
theorem atI_last {α : Type} (xs : List α) (v : α) : atI (xs ++ [v]) (-1) = some v := by
  have hl : (xs ++ [v]).length = xs.length + 1 := by simp
  have e : ixN (xs ++ [v]).length (-1) = some xs.length := by
    unfold ixN
    rw [hl, if_neg (by decide), if_pos (by omega)]
    congr 1
    omega
  unfold atI
  rw [e]
  show (xs ++ [v])[xs.length]? = some v
  simp

noncomputable def PlainIx (b : Expr) : Prop := ∀ o i, subscripted b false o i = operate [o, i] (getItem o i)
noncomputable def IxR (X : Cx) (r : R2) : Prop :=
  ∀ (value slice : Expr) (pins : List (Addr × Obj)) (s : Shared) (σ : St) (H : Hp) (x y : V) (v u : Value) (Q : VK), Inv X pins σ H s → RelV x v → RelV y u → r x y H Q →
    subscripted slice false v u = operate [v, u] (getItem v u) → wpAny (model X.prog X.w) X.A (subscriptTail value slice v u) (EP X pins σ Q) X.xe s
noncomputable def MtR (X : Cx) (id : String) (r : V → List V → Hp → VK → Prop) : Prop :=
  ∀ (pins : List (Addr × Obj)) (s : Shared) (σ : St) (H : Hp) (x : V) (xs : List V) (v : Value) (us : List Value) (Q : VK), Inv X pins σ H s → RelV x v → Vals xs us → r x xs H Q →
    wpAny (model X.prog X.w) X.A (call (.builtin id) (v :: us)) (EP X pins σ Q) X.xe s
section
variable {X : Cx} {a b : Expr} {ta tb : TE} {pos : Pos}
theorem pe_ix {r : R2} (hr : IxR X r) (ha : PE X a ta) (hb : PE X b tb) (hs : PlainIx b) : PE X (.Subscript a b pos) (tOp r ta tb) := by
  intro pins s σ H Q I h
  exact Subscript_ (binT ha hb I h fun v u s2 x y H2 I2 rx ry q => hr a b pins s2 σ H2 x y v u Q I2 rx ry q (hs _ _))

noncomputable def rIxL (K : PySem.W.Frag) : R2 := fun x y H Q => ∃ p xs i v, x = .ref p ∧ y = .int i ∧ SqL K H p xs ∧ atI xs i = some v ∧ Q v H
noncomputable def rIxT (K : PySem.W.Frag) : R2 := fun x y H Q => ∃ p xs i v, x = .ref p ∧ y = .int i ∧ SqT K H p xs ∧ atI xs i = some v ∧ Q v H
noncomputable def rIxS : R2 := fun x y H Q => ∃ z i c, x = .str z ∧ y = .int i ∧ z.length ≤ sizeLine ∧ atI z.cps.toList i = some c ∧ Q (.str ⟨#[c]⟩) H
theorem ix_list : IxR X (rIxL X.K) := by
  intro value slice pins s σ H x y v u Q I rx ry h hs
  obtain ⟨p, xs, i, z, rfl, rfl, hq, he, q⟩ := h
  cases rx
  obtain ⟨t, rfl⟩ := ry
  obtain ⟨its, r, pl, hz⟩ := I.list hq
  obtain ⟨j, h1, h2, h3, h4, h5⟩ := atI_get he
  obtain ⟨w, ew, rw'⟩ := r.get h2
  have hl := r.length
  have hn := line63
  have fin : EP X pins σ Q w s := ⟨z, H, I, rw', q⟩
  by_cases h0 : 0 ≤ i
  · have hj : i.toNat = j := by
      rw [seqIndex_of h0 h5] at h1
      exact Option.some.inj h1
    exact item_listR pl.isList h0 (by omega) (by rw [hj]; simpa using ew) fin hs
  · have hj : (i + (its.toArray.size : Int)).toNat = j := by
      rw [seqIndex_neg (by omega) h4] at h1
      rw [List.size_toArray, ← hl]
      exact Option.some.inj h1
    exact subscriptTail_builtinR (x := w) pl.isList.typeIs slot_list_getitem.lookup
      (wpAny_getItem_list_neg (Q := fun r s' => r = w ∧ EP X pins σ Q r s') pl.isList (by omega) (by rw [List.size_toArray] <;> omega) (by omega) (by rw [hj]; simpa using ew) ⟨rfl, fin⟩) hs
theorem ix_tup : IxR X (rIxT X.K) := by
  intro value slice pins s σ H x y v u Q I rx ry h hs
  obtain ⟨p, xs, i, z, rfl, rfl, hq, he, q⟩ := h
  cases rx
  obtain ⟨t, rfl⟩ := ry
  obtain ⟨its, r, pl, hz⟩ := I.tuple hq
  obtain ⟨j, h1, h2, h3, h4, h5⟩ := atI_get he
  obtain ⟨w, ew, rw'⟩ := r.get h2
  have hl := r.length
  have hn := line63
  have fin : EP X pins σ Q w s := ⟨z, H, I, rw', q⟩
  exact subscriptTail_builtinR (x := w) pl.typeIs slot_tuple_getitem.lookup
    (getItem_tuple (j := j) (Q := fun r s' => r = w ∧ EP X pins σ Q r s') pl (by omega) (by omega) (by rw [List.size_toArray, ← hl]; exact h1) (by simpa using ew) ⟨rfl, fin⟩) hs
noncomputable def rIx (K : PySem.W.Frag) : R2 := fun x y H Q => rIxL K x y H Q ∨ rIxT K x y H Q ∨ rIxS x y H Q
theorem mapSeq_set (its : List Value) (n j : Nat) (u : Value) : Obj.mapSeq (·.setIfInBounds j u) { cls := .type "list", data := .seq its.toArray n } = { cls := .type "list", data := .seq (its.set j u).toArray n } := by
  simp [Obj.mapSeq]
theorem Inv.lst {pins : List (Addr × Obj)} {σ : St} {H : Hp} {s : Shared} {p : Addr} {xs : List V} (I : Inv X pins σ H s) (h : H p = some (.lst xs)) :
    ∃ (its : List Value) (n : Nat), Vals xs its ∧ s.heap.get? p = some { cls := .type "list", data := .seq its.toArray n } ∧ xs.length ≤ sizeLine := by
  obtain ⟨z, its, n, r, e⟩ := I.hok p _ h
  exact ⟨its, n, r, e, z⟩
theorem Inv.lstUpd {pins : List (Addr × Obj)} {σ : St} {H : Hp} {s : Shared} {p : Addr} {xs ys : List V} {its its' : List Value} {n n' : Nat} {f : Obj → Obj} (I : Inv X pins σ H s) (h : H p = some (.lst xs))
    (ho : s.heap.get? p = some { cls := .type "list", data := .seq its.toArray n }) (hf : f { cls := .type "list", data := .seq its.toArray n } = { cls := .type "list", data := .seq its'.toArray n' }) (r : Vals ys its') (hz : ys.length ≤ sizeLine) (t : Nat) :
    Inv X pins σ (upd H p (.lst ys)) { s with heap := s.heap.update p f, toks := t } := by
  have e : (s.heap.update p f).get? p = some { cls := .type "list", data := .seq its'.toArray n' } := by
    rw [Heap.get?_update_self f ho (by rw [hf] <;> rfl), hf]
  refine I.write (x := p) (e := p) (by rw [h]; trivial) (.inl rfl) (fun b u hb q => (Heap.get?_update_other _ _ (Ne.symm hb)).trans q) ⟨_, e⟩ ?_
  exact ⟨hz, its', n', r, e⟩
noncomputable def rSetL : V → V → V → Hp → (Hp → Prop) → Prop := fun o i v H Q => ∃ p xs k j, o = .ref p ∧ i = .int k ∧ H p = some (.lst xs) ∧ ixN xs.length k = some j ∧ Q (upd H p (.lst (xs.set j v)))
theorem set_list : PSet X rSetL := by
  intro pins s σ H o i v ov iv u Q I ro ri rv h
  obtain ⟨p, xs, k, j, rfl, rfl, hp, hj, q⟩ := h
  cases ro
  obtain ⟨t, rfl⟩ := ri
  obtain ⟨its, n, r, ho, hz⟩ := I.lst hp
  obtain ⟨h1, h2, h3, h4⟩ := ixN_seq hj
  have hl := r.length
  have hn := line63
  have I' : Inv X pins σ (upd H p (.lst (xs.set j v))) { s with heap := s.heap.update p (Obj.mapSeq (·.setIfInBounds j u)) } :=
    I.lstUpd hp ho (mapSeq_set its n j u) (r.set rv j) (by rw [List.length_set]; exact hz) s.toks
  by_cases h0 : 0 ≤ k
  · have hk : k.toNat = j := by
      rw [seqIndex_of h0 h4] at h1
      exact Option.some.inj h1
    exact PySem.W.ki_setAt ho h0 (by omega) (by rw [List.size_toArray, ← hl]; exact h4) (by rw [hk]; exact ⟨_, I', q⟩)
  · have hk : (k + (its.toArray.size : Int)).toNat = j := by
      rw [seqIndex_neg (by omega) h3] at h1
      rw [List.size_toArray, ← hl]
      exact Option.some.inj h1
    exact PySem.W.ki_setBack ho (by omega) (by rw [List.size_toArray, ← hl]; exact h3) (by omega) (by rw [hk]; exact ⟨_, I', q⟩)

theorem slice_bounds (lo hi : Option Int) (n : Nat) : (sliceBounds lo hi none n).1 = ((HT.sIx n 0 lo : Nat) : Int) ∧ (sliceBounds lo hi none n).2.1 = ((HT.sIx n n hi : Nat) : Int) ∧ (sliceBounds lo hi none n).2.2 = 1 := by
  refine ⟨?_, ?_, rfl⟩
  · cases lo with
    | none => simp [sliceBounds, HT.sIx]
    | some i =>
      simp only [sliceBounds, HT.sIx, Option.getD_none, show (1 : Int) > 0 by decide, if_true]
      by_cases h : i < 0
      · simp only [h, if_true] <;> omega
      · simp only [h, if_false] <;> omega
  · cases hi with
    | none => simp [sliceBounds, HT.sIx]
    | some i =>
      simp only [sliceBounds, HT.sIx, Option.getD_none, show (1 : Int) > 0 by decide, if_true]
      by_cases h : i < 0
      · simp only [h, if_true] <;> omega
      · simp only [h, if_false] <;> omega
theorem slicePick_cut (its : List Value) (lo hi : Option Int) : slicePick its.toArray lo hi none = ((its.drop (HT.sIx its.length 0 lo)).take (HT.sIx its.length its.length hi - HT.sIx its.length 0 lo)).toArray := by
  obtain ⟨h1, h2, h3⟩ := slice_bounds lo hi its.toArray.size
  unfold slicePick
  rw [h1, h2, h3]
  simp only [sliceRange_one, pick_run, List.size_toArray] <;> rfl
noncomputable def rSlL (K : PySem.W.Frag) : V → Option Int → Option Int → Hp → VK → Prop := fun x lo hi H Q => ∃ a xs, x = .ref a ∧ SqL K H a xs ∧ ∀ p, H p = none → Q (.ref p) (upd H p (.lst (cutV xs lo hi)))
theorem sl_list : SlR X (rSlL X.K) := by
  intro pins s σ H x v vl vu lo hi sl Q I rx hs pl pu h
  obtain ⟨a, xs, rfl, hx, q⟩ := h
  cases rx
  obtain ⟨its, r, ht, hz⟩ := I.list hx
  have hlen := r.length
  refine ⟨"list", _, slot_list_getitem.lookup, ht.isList.typeIs, ?_⟩
  refine wpAny_getItem_list_slice ht.isList hs pl pu .none (by simp) ?_ (by rw [List.size_toArray] <;> omega)
  rw [slicePick_cut, ← hlen]
  refine ⟨.ref s.heap.objs.size, _, I.laid (t' := s.toks) (o := .lst (cutV xs lo hi)) (fun b ob q => Heap.get?_push_of_some _ q) (Nat.le_refl _) ?_, rfl, q _ (I.hok.fresh (Nat.le_refl _))⟩
  exact ⟨Nat.le_trans (cutV_length xs lo hi) hz, _, 0, (r.drop (HT.sIx xs.length 0 lo)).take (HT.sIx xs.length xs.length hi - HT.sIx xs.length 0 lo), Heap.get?_push_size _ rfl⟩

noncomputable def flatV : V → Bool
  | .non => true
  | .bl _ => true
  | .int _ => true
  | .str _ => true
  | _ => false
noncomputable def eqV : V → V → Bool
  | .non, .non => true
  | .bl a, .bl b => a == b
  | .bl a, .int b => (if a then 1 else 0) == b
  | .int a, .bl b => a == (if b then 1 else 0)
  | .int a, .int b => a == b
  | .str a, .str b => a == b
  | _, _ => false
noncomputable def eqU (x : V) (u : Value) : Bool := match u with
  | .none => eqV .non x
  | .bool b => eqV (.bl b) x
  | .int i _ => eqV (.int i) x
  | .str z _ => eqV (.str z) x
  | _ => false
noncomputable def inV (x : V) (xs : List V) : Bool := xs.any fun y => eqV y x
noncomputable def rIn (K : PySem.W.Frag) (neg : Bool) : R2 := fun x y H Q => ∃ p xs, y = .ref p ∧ (SqL K H p xs ∨ SqT K H p xs) ∧ flatV x = true ∧ xs.all flatV = true ∧ Q (.bl (if neg then !inV x xs else inV x xs)) H
theorem call_len_seq : CallR X (.builtin "len") (fun xs H Q => ∃ p ys, xs = [.ref p] ∧ (SqL X.K H p ys ∨ SqT X.K H p ys) ∧ Q (.int ys.length) H) := by
  intro pins s σ H xs us Q I r h
  obtain ⟨p, ys, rfl, hq, q⟩ := h
  obtain ⟨u, rfl, rx⟩ := vals1 r
  cases rx
  have hn := line63
  rcases hq with hq | hq
  · obtain ⟨its, r', pl, hz⟩ := I.list hq
    have hlen := r'.length
    exact Calls.call_len_list pl.isList (by simp only [List.size_toArray] <;> omega) ⟨.int ys.length, H, I.tok _, ⟨s.toks + 1, by rw [List.size_toArray, hlen]⟩, q⟩
  · obtain ⟨its, r', pl, hz⟩ := I.tuple hq
    have hlen := r'.length
    exact len_tuple pl (by simp only [List.size_toArray] <;> omega) ⟨.int ys.length, H, I.tok _, ⟨s.toks + 1, by rw [List.size_toArray, hlen]⟩, q⟩
theorem call_list_of : CallR X (.type "list") (fun xs H Q => ∃ p ys, xs = [.ref p] ∧ (SqL X.K H p ys ∨ SqT X.K H p ys) ∧ ∀ l, H l = none → Q (.ref l) (upd H l (.lst ys))) := by
  intro pins s σ H xs us Q I r h
  obtain ⟨p, ys, rfl, hq, q⟩ := h
  obtain ⟨u, rfl, rx⟩ := vals1 r
  cases rx
  have fin : ∀ (its : List Value), Vals ys its → ys.length ≤ sizeLine → ∀ (h' : Heap) (c' : Nat), (∀ b o', s.heap.get? b = some o' → h'.get? b = some o') →
      h'.get? s.heap.objs.size = some { cls := .type "list", dict := none, data := .seq its.toArray c', slots := #[] } → EP X pins σ Q (.ref s.heap.objs.size) { s with heap := h' } := fun its r' hz h' c' kp e =>
    ⟨.ref s.heap.objs.size, _, I.laid (t' := s.toks) kp (Nat.le_refl _) (show ObjOk X.prog X.w _ h' _ (.lst ys) from ⟨hz, its, c', r', e⟩), rfl, q _ (I.hok.fresh (Nat.le_refl _))⟩
  rcases hq with hq | hq
  · obtain ⟨its, r', pl, hz⟩ := I.list hq
    have hlen := r'.length
    obtain ⟨o, ho, hc, n, hd⟩ := pl.isList
    exact call_list_seq p (.inl rfl) ho hc hd (fun h' c' kp e => fin its r' hz h' c' kp e) (by simp only [List.size_toArray] <;> omega)
  · obtain ⟨its, r', pl, hz⟩ := I.tuple hq
    have hlen := r'.length
    obtain ⟨o, ho, hc, n, hd⟩ := pl
    exact call_list_seq p (.inr rfl) ho hc hd (fun h' c' kp e => fin its r' hz h' c' kp e) (by simp only [List.size_toArray] <;> omega)
theorem call_tuple_of : CallR X (.type "tuple") (fun xs H Q => ∃ p ys, xs = [.ref p] ∧ ((SqL X.K H p ys ∧ ∀ l, H l = none → Q (.ref l) (upd H l (.tup ys))) ∨ (SqT X.K H p ys ∧ Q (.ref p) H))) := by
  intro pins s σ H xs us Q I r h
  obtain ⟨p, ys, rfl, h⟩ := h
  obtain ⟨u, rfl, rx⟩ := vals1 r
  cases rx
  rcases h with ⟨hq, q⟩ | ⟨hq, q⟩
  · obtain ⟨its, r', pl, hz⟩ := I.list hq
    have hlen := r'.length
    refine call_tuple_list pl.isList (fun h' kp => ?_) (by simp only [List.size_toArray] <;> omega)
    have I1 : Inv X pins σ H { s with heap := h' } := I.kept (t' := s.toks) kp
    have I2 : Inv X pins σ (upd H h'.objs.size (.tup ys)) { s with heap := h'.push { cls := .type "tuple", data := .seq its.toArray } } :=
      I1.laid (t' := s.toks) (fun b o e => Heap.get?_push_of_some _ e) (Nat.le_refl _) (show ObjOk X.prog X.w _ _ _ (.tup ys) from ⟨hz, its, r', IsTup.new _ _⟩)
    exact ⟨.ref h'.objs.size, _, I2, rfl, q _ (I1.hok.fresh (Nat.le_refl _))⟩
  · obtain ⟨its, r', pl, hz⟩ := I.tuple hq
    exact call_tuple_same pl ⟨.ref p, H, I, rfl, q⟩

noncomputable def tyV (K : PySem.W.Frag) (T : String) (x : V) (H : Hp) : Prop := match x with
  | .str _ => T = "str"
  | .int _ => T = "int"
  | .ref p => (T = "list" ∧ ∃ xs, SqL K H p xs) ∨ (T = "tuple" ∧ ∃ o, K.lookup p = some o ∧ o.cls = .type "tuple" ∧ o.dict = none) ∨
      (T = "dict" ∧ ((∃ kvs, H p = some (.dK kvs)) ∨ ∃ kvs, H p = some (.dT kvs))) ∨ (T = "set" ∧ ∃ S n, H p = some (.set S n))
  | _ => False
theorem tyV_is {pins : List (Addr × Obj)} {σ : St} {H : Hp} {s : Shared} {T : String} {x : V} {v : Value} (I : Inv X pins σ H s) (r : RelV x v) (ty : tyV X.K T x H) :
    s.TypeIs v T ∧ ∀ a, v = .ref a → ∃ ob, s.heap.get? a = some ob ∧ ob.dict = none := by
  cases x with
  | str z =>
    obtain ⟨t, rfl⟩ := r
    cases (show T = "str" from ty)
    exact ⟨typeIs_str s z t, fun _ e => nomatch e⟩
  | int i =>
    obtain ⟨t, rfl⟩ := r
    cases (show T = "int" from ty)
    exact ⟨typeIs_int s i t, fun _ e => nomatch e⟩
  | ref p =>
    cases r
    rcases ty with ⟨rfl, xs, hq⟩ | ⟨rfl, o, hk, hc, hd⟩ | ⟨rfl, hk⟩ | ⟨rfl, S, n, hk⟩
    · obtain ⟨its, _, pl, _⟩ := I.list hq
      refine ⟨pl.isList.typeIs, fun a e => ?_⟩
      cases e
      obtain ⟨o, n, e, c, hd, _⟩ := pl
      exact ⟨o, e, hd⟩
    · refine ⟨⟨o, I.kIn p o hk, hc⟩, fun a e => ?_⟩
      cases e
      exact ⟨o, I.kIn _ o hk, hd⟩
    · have z : ∃ o, s.heap.get? p = some o ∧ o.ExactDict := by
        rcases hk with ⟨kvs, hk⟩ | ⟨kvs, hk⟩
        · obtain ⟨_, _, _, _, o, _, _, e, ex, _⟩ := I.hok p _ hk
          exact ⟨o, e, ex⟩
        · obtain ⟨_, _, _, _, o, _, _, e, ex, _⟩ := I.hok p _ hk
          exact ⟨o, e, ex⟩
      obtain ⟨o, e, ex⟩ := z
      refine ⟨⟨o, e, ex.1⟩, fun a e2 => ?_⟩
      cases e2
      exact ⟨o, e, ex.2.1⟩
    · obtain ⟨o, _, _, _, e, ex, _⟩ := I.hok p _ hk
      refine ⟨⟨o, e, ex.1⟩, fun a e2 => ?_⟩
      cases e2
      exact ⟨o, e, ex.2.1⟩
  | _ => exact False.elim ty
noncomputable def tBM0 (K : PySem.W.Frag) (T : String) (r : V → List V → Hp → VK → Prop) (to : TE) : TE := fun σ H Q => to σ H fun x H1 => tyV K T x H1 ∧ r x [] H1 Q
noncomputable def tBM (K : PySem.W.Frag) (T : String) (r : V → List V → Hp → VK → Prop) (to : TE) (t : TA) : TE := fun σ H Q => to σ H fun x H1 => tyV K T x H1 ∧ t σ H1 fun xs H2 => r x xs H2 Q
variable {o e : Expr} {es : List Expr} {to : TE} {t : TA} {name : Str} {apos cpos : Pos} {T id : String} {r : V → List V → Hp → VK → Prop}
theorem pe_bm (pa : PlainAttrs T) (slot : Slot T name id) (hty : typeOf (.builtin id) = pure (.type "method_descriptor")) (hm : MtR X id r) (ho : PE X o to) (ha : PA X (e :: es) t)
    (hbase : attributeBase o name X.env (eval o X.env) = eval o X.env := by rfl)
    (hfew : ((backTo cpos (starEach (e :: es) X.env)).all (fun x => !x.1) && (backToKw cpos (keywordEach [] X.env)).all (fun x => x.1.isSome)
      && decide ((e :: es).length + ([] : List Keyword).length + (if ([] : List Keyword).isEmpty then 0 else 1) < 30)) = true := by rfl)
    (hline : (apos.endLine == cpos.line) = true := by rfl) (hs : starEach (e :: es) X.env = (false, eval e X.env) :: starEach es X.env := by rfl) (hplain : (backTo cpos (starEach es X.env)).any (·.1) = false := by rfl) :
    PE X (.Call (.Attribute o name apos) (e :: es) [] cpos) (tBM X.K T r to t) := by
  intro pins s σ H Q I h
  refine wpAny_Call_method_late hbase hfew hline rfl (thn (ho pins s σ H _ I h) fun v s1 ⟨x, H1, I1, r1, ty, q1⟩ => ?_)
  obtain ⟨h1, h2⟩ := tyV_is I1 r1 ty
  refine ⟨T, id, pa, slot, hty, h1, h2, ?_⟩
  have hA := ha cpos pins s1 σ H1 _ I1 q1
  rw [hs] at hA ⊢
  refine Calls.callWith_builtin (by show (false || (backTo cpos (starEach es X.env)).any (·.1)) = false; rw [hplain] <;> rfl) (Calls.evalArgs_plain ?_)
  exact thn hA fun us s2 ⟨vs, H2, I2, r2, q2⟩ => hm pins s2 σ H2 x vs v us Q I2 r1 r2 q2
/- xs.append(e), list.index on a module's tuple .. are MtR facts of 06m -/
end
end L2

namespace L2
open PySem PySem.Spec PyProof.Rows

noncomputable def MtM (X : Cx) (id : String) (r : V → List V → Hp → VK → Prop) : Prop :=
  ∀ (pins : List (Addr × Obj)) (s : Shared) (σ : St) (H : Hp) (x : V) (xs : List V) (v : Value) (us : List Value) (Q : VK), Inv X pins σ H s → RelV x v → Vals xs us → r x xs H Q →
    wpAny (model X.prog X.w) X.A (call (.builtin id) (v :: us)) (EP X pins σ Q) X.xe s

theorem Vals.one : ∀ {x : V} {us : List Value}, Vals [x] us → ∃ u, us = [u] ∧ RelV x u
  | _, _, .cons r .nil => ⟨_, rfl, r⟩
theorem Vals.zero : ∀ {us : List Value}, Vals [] us → us = []
  | _, .nil => rfl
theorem Vals.dropLast {xs : List V} {us : List Value} (h : Vals xs us) : Vals xs.dropLast us.dropLast := by
  induction h with
  | nil => exact .nil
  | cons r t ih =>
    cases t with
    | nil => exact .nil
    | cons q t' => exact .cons r ih
theorem Vals.eraseIdx : ∀ {xs : List V} {us : List Value} (i : Nat), Vals xs us → Vals (xs.eraseIdx i) (us.eraseIdx i)
  | _, _, _, .nil => .nil
  | _, _, 0, .cons _ t => t
  | _, _, i + 1, .cons r t => .cons r (Vals.eraseIdx i t)
theorem Vals.reverse {xs : List V} {us : List Value} (h : Vals xs us) : Vals xs.reverse us.reverse := by
  induction h with
  | nil => exact .nil
  | cons r t ih => rw [List.reverse_cons, List.reverse_cons]; exact Vals.append ih (.cons r .nil)
section
variable {X : Cx} {pins : List (Addr × Obj)} {σ : St} {H : Hp} {s : Shared} {l b : Addr} {xs ys zs : List V}

theorem Inv.lset {its its' : List Value} {n : Nat} {f : Array Value → Array Value} {t' : Nat} (I : Inv X pins σ H s) (hH : H l = some (.lst xs))
    (e : s.heap.get? l = some { cls := .type "list", data := .seq its.toArray n }) (hf : f its.toArray = its'.toArray) (hv : Vals ys its') (hz : ys.length ≤ sizeLine) :
    Inv X pins σ (upd H l (.lst ys)) { s with heap := s.heap.update l (Obj.mapSeq f), toks := t' } := by
  have q := PySem.IsL.update e f
  rw [hf] at q
  refine I.write (x := l) (e := l) (by rw [hH]; exact trivial) (.inl rfl) (fun b' u hb hu => (Heap.get?_update_other s.heap (Obj.mapSeq f) (Ne.symm hb)).trans hu) ⟨_, q⟩ ?_
  exact ⟨hz, its', _, hv, q⟩
theorem Inv.lnew {its : List Value} {t' : Nat} (I : Inv X pins σ H s) (hv : Vals ys its) (hz : ys.length ≤ sizeLine) :
    Inv X pins σ (upd H s.heap.objs.size (.lst ys)) { s with heap := s.heap.push { cls := .type "list", data := .seq its.toArray }, toks := t' } :=
  I.laid (fun _ _ q => Heap.get?_push_of_some _ q) (Nat.le_refl _) ⟨hz, its, 0, hv, Heap.get?_push_size _ rfl⟩
theorem Inv.fresh (I : Inv X pins σ H s) : H s.heap.objs.size = none := I.hok.fresh (Nat.le_refl _)
theorem Inv.lstM (I : Inv X pins σ H s) (hH : H l = some (.lst xs)) : xs.length ≤ sizeLine ∧ ∃ (its : List Value) (n : Nat), Vals xs its ∧ xs.length = its.length ∧ s.heap.get? l = some { cls := .type "list", data := .seq its.toArray n } := by
  obtain ⟨z, its, n, r, e⟩ := I.hok l _ hH
  exact ⟨z, its, n, r, r.length, e⟩

theorem notLongL {n : Nat} (h : n ≤ sizeLine) : Builtin.List.listTooLong n = false := by
  unfold Builtin.List.listTooLong
  exact decide_eq_false (by omega)
end

section
variable {X : Cx}

noncomputable def rAppend : V → List V → Hp → VK → Prop := fun x vs H Q => ∃ l xs y, x = .ref l ∧ vs = [y] ∧ H l = some (.lst xs) ∧ xs.length < sizeLine ∧ Q .non (upd H l (.lst (xs ++ [y])))
theorem mt_append : MtM X "list.append" rAppend := by
  intro pins s σ H x vs v us Q I rx rv h
  obtain ⟨l, xs, y, rfl, rfl, hH, hz, q⟩ := h
  cases rx
  obtain ⟨u, rfl, ru⟩ := rv.one
  obtain ⟨z, its, n, r, hl, e⟩ := I.lstM hH
  refine call_meets F.slot_list_append ⟨_, e, rfl⟩ F.entry_list_append (F.args_list_append_2 _ _) (PySem.list_append l its.toArray n u (by rw [List.size_toArray]; omega)) ⟨e, ?_⟩
  refine ⟨.non, _, I.lset (its' := its ++ [u]) hH e (by simp) (r.append (.cons ru .nil)) ?_, rfl, q⟩
  rw [List.length_append, List.length_singleton]
  omega

noncomputable def rExtend : V → List V → Hp → VK → Prop := fun x vs H Q => ∃ l b xs zs, x = .ref l ∧ vs = [.ref b] ∧ H l = some (.lst xs) ∧ H b = some (.lst zs) ∧ xs.length + zs.length ≤ sizeLine ∧ Q .non (upd H l (.lst (xs ++ zs)))
noncomputable def rPop : V → List V → Hp → VK → Prop := fun x vs H Q => ∃ l xs y, x = .ref l ∧ vs = [] ∧ H l = some (.lst xs) ∧ xs[xs.length - 1]? = some y ∧ Q y (upd H l (.lst xs.dropLast))
noncomputable def rPopAt : V → List V → Hp → VK → Prop := fun x vs H Q => ∃ l xs i k y, x = .ref l ∧ vs = [.int i] ∧ H l = some (.lst xs) ∧ -(2 ^ 63) ≤ i ∧ i < 2 ^ 63 ∧ seqIndex? i xs.length = some k ∧ xs[k]? = some y ∧ Q y (upd H l (.lst (xs.eraseIdx k)))
noncomputable def rReverse : V → List V → Hp → VK → Prop := fun x vs H Q => ∃ l xs, x = .ref l ∧ vs = [] ∧ H l = some (.lst xs) ∧ Q .non (upd H l (.lst xs.reverse))
noncomputable def rClear : V → List V → Hp → VK → Prop := fun x vs H Q => ∃ l xs, x = .ref l ∧ vs = [] ∧ H l = some (.lst xs) ∧ Q .non (upd H l (.lst []))
noncomputable def rCat : R2 := fun x y H Q => ∃ l b xs zs, x = .ref l ∧ y = .ref b ∧ H l = some (.lst xs) ∧ H b = some (.lst zs) ∧ xs.length + zs.length ≤ sizeLine ∧ ∀ p, H p = none → Q (.ref p) (upd H p (.lst (xs ++ zs)))
theorem op_cat : OpR X (binaryOp .Add) rCat := by
  intro pins s σ H x y v u Q I rx ry h
  obtain ⟨l, b, xs, zs, rfl, rfl, hH, hB, hz, q⟩ := h
  cases rx
  cases ry
  obtain ⟨z, its, n, r, hl, e⟩ := I.lstM hH
  obtain ⟨z2, its2, n2, r2, hl2, e2⟩ := I.lstM hB
  refine PySem.P.add_list e e2 ?_ (by rw [List.size_toArray, List.size_toArray]; omega)
  have ea : its.toArray ++ its2.toArray = (its ++ its2).toArray := by simp
  rw [ea]
  exact ⟨.ref _, _, I.lnew (t' := s.toks) (r.append r2) (by rw [List.length_append]; omega), rfl, q _ I.fresh⟩
noncomputable def rRep : R2 := fun x y H Q => ∃ l k xs, x = .ref l ∧ y = .int k ∧ H l = some (.lst xs) ∧ -(2 ^ 63) ≤ k ∧ k < 2 ^ 63 ∧ xs.length * k.toNat ≤ sizeLine ∧
  ∀ p, H p = none → Q (.ref p) (upd H p (.lst (List.replicate k.toNat xs).flatten))
end

section
variable {prog : Program} {w : World} {A : Around} {E : Value → Shared → Prop} {s : Shared}
theorem bounds_run {a c n : Nat} (hac : a ≤ c) (hc : c ≤ n) : sliceBounds (some (a : Int)) (some (c : Int)) none n = ((a : Int), (c : Int), 1) := by
  simp only [sliceBounds, Option.getD_none]
  have h1 : ¬ ((a : Int) < 0) := by omega
  have h2 : ¬ ((c : Int) < 0) := by omega
  simp only [h1, h2, if_false, show (1 : Int) > 0 by decide, if_true]
  congr 1
  · omega
  · congr 1; omega
set_option maxRecDepth 100000 in
theorem setItem_slice {l b sl : Addr} {items new : Array Value} {n n2 : Nat} {vl vu : Value} {a c : Nat} {Q : Unit → Shared → Prop}
    (e : s.heap.get? l = some { cls := .type "list", data := .seq items n }) (e2 : s.heap.get? b = some { cls := .type "list", data := .seq new n2 }) (hne : l ≠ b)
    (hs : s.heap.IsSliceOf sl vl vu .none) (pl : IsPart vl (some (a : Int))) (pu : IsPart vu (some (c : Int))) (hac : a ≤ c) (hc : c ≤ items.size)
    (hsz : items.size + new.size ≤ sizeLine) (h : Q () { s with heap := s.heap.update l (Obj.mapSeq fun xs => xs.extract 0 a ++ new ++ xs.extract c xs.size) }) :
    wpAny (model prog w) A (setItem (.ref l) (.ref sl) (.ref b)) Q E s := by
  have hl : s.heap.IsList l items := PySem.IsL.isList e
  have hb : s.heap.IsList b new := PySem.IsL.isList e2
  obtain ⟨os, hos, hcs, hds⟩ := id hs
  have hTs : s.TypeIs (.ref sl) "slice" := ⟨os, hos, hcs⟩
  have hstep : ¬ ((rawPart none == rawInt 0) = true) := Bool.false_ne_true
  have hsame : Builtin.List.listSameRef (.ref l) (.ref b) = false := by
    unfold Builtin.List.listSameRef
    exact beq_eq_false_iff_ne.mpr hne
  have hmax : (max (a : Int) (c : Int)).toNat = c := by omega
  have hz' : ((fun xs : Array Value => xs.extract 0 a ++ new ++ xs.extract c xs.size) items).size ≤ sizeLine + 1 := by
    simp only [Array.size_append, Array.size_extract]
    omega
  unfold setItem
  try with_reducible refine wpAny_holding ?_
  first | refine wpAny_bind (wpAny_pure ?_) | skip
  refine wpAny_bind (wpAny_sequenceKey hl.typeIs (by decide) ?_)
  refine wpAny_bind (wpAny_callSpecial?_slot (name := Str.ofString "__setitem__") hl.typeIs slot_list_setitem
    (wpAny_call_entry slot_list_setitem hl.typeIs entry_list_setitem ?_ (args_list_setitem _ _ _)))
  show wpAny _ _ (Builtin.List.listSubscript? (.ref sl) >>= _) _ _ s
  refine wpAny_bind ?_
  unfold Builtin.List.listSubscript?
  refine wpAny_bind (wpAny_specialOf hTs slice_no_index ?_)
  simp only [Option.isNone_none, if_true]
  refine wpAny_pure ?_
  show wpAny _ _ (typeOf (.ref sl) >>= _) _ _ s
  refine wpAny_bind (wpAny_typeOf hTs ?_)
  first
    | rw [if_neg (by decide)]
    | refine PySem.W.KFB.if_not (by decide) ?_
  rw [listSliceParts_eq]
  refine wpAny_bind (wpAny_bind (wpAny_field hos hds (x := .none) rfl (wpAny_bind (wpAny_listPart .none ?_))))
  rw [if_neg hstep]
  refine wpAny_bind (wpAny_field hos hds (x := vl) rfl (wpAny_bind (wpAny_listPart pl ?_)))
  refine wpAny_bind (wpAny_field hos hds (x := vu) rfl (wpAny_bind (wpAny_listPart pu (wpAny_pure ?_))))
  first
    | simp only [hsame, Bool.false_eq_true, if_false]
    | refine PySem.W.KFB.if_not hsame ?_
    | (dsimp only
       rw [if_neg (by rw [hsame]; exact Bool.false_ne_true)])
  refine wpAny_bind (m := Builtin.List.listAllItems (.ref b) "must assign iterable to extended slice") ?_
  unfold Builtin.List.listAllItems
  refine wpAny_bind (wpAny_typeOf hb.typeIs ?_)
  first
    | refine PySem.W.KFB.if_so (by decide) ?_
    | rw [if_pos (by decide)]
    | simp only [beq_self_eq_true, Bool.true_or, if_true]
  unfold Builtin.List.listItems
  refine wpAny_bind (wpAny_seqItems e2 rfl (wpAny_pure ?_))
  refine wpAny_bind (wpAny_bind (wpAny_seqItems e rfl (wpAny_pure ?_)))
  refine wpAny_bind (wpAny_of_eq ((sliceIndices_raw (some (a : Int)) (some (c : Int)) none items.size (by simp)).trans (congrArg (pure : Int × Int × Int → Sem (Int × Int × Int)) (bounds_run hac hc))) ?_)
  show wpAny _ _ (if ((1 : Int) == 1) = true then _ else _) _ _ s
  rw [if_pos (by decide)]
  refine wpAny_bind (wpAny_rule ?_)
  first
    | simp only [notLongL hsz, Bool.false_eq_true, if_false]
    | refine PySem.W.KFB.if_not (notLongL hsz) ?_
  first | refine wpAny_bind (wpAny_pure ?_) | skip
  show wpAny _ _ (updateSeq l (fun xs => xs.extract 0 ((a : Int)).toNat ++ new ++ xs.extract (max (a : Int) (c : Int)).toNat xs.size) >>= _) _ _ s
  rw [hmax, Int.toNat_natCast]
  refine wpAny_bind (wpAny_updateSeq (hz := Nat.le_trans (Nat.le_add_right _ _) hsz) (_hz' := hz') e rfl ?_)
  refine wpAny_bind (wpAny_letGo ?_)
  first
    | exact wpAny_bind (wpAny_pure (wpAny_pure ⟨.none, rfl, wpAny_pure h⟩))
    | exact wpAny_pure ⟨.none, rfl, wpAny_pure h⟩
end

section
variable {X : Cx}
end
end L2

namespace Att
open PySem PySem.W PySem.Calls PyProof.Rows

theorem ints_of_wellAll {P : Params} {h : Heap} : ∀ (ns : List Int) (vs : List Value), WellAll P h vs (ns.map WData.int) → IntsAre vs ns := by
  intro ns
  induction ns with
  | nil =>
    intro vs w
    rw [List.map_nil] at w
    cases w
    exact .nil
  | cons n ns ih =>
    intro vs w
    rw [List.map_cons] at w
    cases w with
    | cons a b =>
      cases a
      exact .cons _ _ (ih _ b)

theorem script_of {l : OpenLaw} {n : Nat} (hn : l.most = some n) {P : Params} {h : Heap} {args : List WData} {vals : List Value}
    (hpre : l.row.toRowW.claim.pre args = true) (hwl : WellAll P h vals args) :
    ∃ a vs ns, vals = [Value.ref a] ∧ args = [WData.list (ns.map WData.int)] ∧ h.get? a = some { cls := .type "list", data := .seq vs.toArray } ∧ IntsAre vs ns ∧ ns.length ≤ n := by
  have hsh : WShape.hasAll [] args [.list .int] = true := (pre_splitW hpre).1
  have hc : l.pre.holds [] { args := args } = true := (pre_splitW hpre).2
  obtain ⟨d, r, rfl, h1, h2⟩ := hasAllW_cons hsh
  obtain rfl := hasAllW_nil h2
  obtain ⟨xs, rfl, h3⟩ := hasW_list h1
  obtain ⟨ns, rfl⟩ := items_int h3
  have hlen : ns.length ≤ n := by
    unfold OpenLaw.pre at hc
    have h4 : (WTm.not (.lt (.lit (.int (n : Int))) (.len (.arg 0)))).holds [] { args := [.list (ns.map .int)] } = true := by
      have h4 := (holds_andW hc).1
      rw [hn] at h4
      exact h4
    have h5 := condW_of h4 (w_not (w_lt w_lit (w_len_list (w_arg rfl))))
    rw [List.length_map] at h5
    refine Nat.le_of_not_lt fun q => ?_
    have q' : (n : Int) < ((ns.length : Nat) : Int) := by omega
    first
      | (rw [decide_eq_true q'] at h5; exact absurd h5 (by decide))
      | (simp at h5; omega)
  cases hwl with
  | cons w1 w2 =>
    cases w2
    cases w1 with
    | list ho hall => exact ⟨_, _, ns, rfl, rfl, ho, ints_of_wellAll ns _ hall, hlen⟩

theorem post_true (l : OpenLaw) (args : List WData) : l.row.toRowW.claim.post args (.bool true) args = true :=
  postW_of (r := l.row.toRowW) (X := (true == true))
    (show WShape.has [] (.bool true) .bool = true by first | rfl | decide | simp [WShape.has, WShape.arms, WShape.armsAll])
    (show (WTm.eq .res (.lit (.bool true))).value [] { args := args, res := some (.bool true), after := args } = some (.bool (true == true)) from w_eq_bool (w_res rfl) w_lit) rfl

theorem attach_call {l : OpenLaw} {n : Nat} {q : Program} {loose : List Str} {XP : (Str → Option Value) → Heap → Prop} {YP : World → Heap → Prop} {d : DefRec}
    (hn : l.most = some n) (hdf : d.params.defaults = [])
    (call : ∀ (w : World) (s₀ s₁ : Shared) (mg mb : Str → Option Value) (fa : Addr) (o : Obj) (pm cd doc : Value) (a : Addr) (vs : List Value) (ns : List Int),
      Ground q loose [] XP w s₀ mg mb s₁.heap → YP w s₁.heap →
      s₁.heap.get? fa = some o → o.data = .func (docDef d.name d.params d.body d.scope pm cd doc) → s₁.heap.CodeRec cd d.name → mg d.name = some (.ref fa) →
      s₁.heap.get? a = some { cls := .type "list", data := .seq vs.toArray } → IntsAre vs ns → ns.length ≤ n → s₁.gens = #[] →
      codeAny (model l.prog w) callerA (.call (.ref fa) ⟨[.ref a], []⟩) (fun r s' => r = .ok (.ret (.bool true)) ∧ OldK s₁.heap s'.heap ∧ s'.os = s₁.os ∧ AllBare s'.gens) s₁) :
    WalkO q loose XP YP l.row.toRowW d [] (fun f vs => PySem.call f vs) := by
  intro w s₀ s₁ mg mb G Y fa o pm cd doc dV kV ho hd hcd hD hmg hg args vals as hpre hlay hrd hwl hlo
  obtain rfl : dV = .none := Dflts.none hD hdf
  obtain rfl : kV = .none := Dflts.noKw hD
  obtain ⟨a, vs, ns, rfl, rfl, hobj, hints, hlen⟩ := script_of hn hpre hwl
  refine enter_call (codeAny_mono (call w s₀ s₁ mg mb fa o pm cd doc a vs ns G Y ho (fd_plain hd) hcd hmg hobj hints hlen hg) fun r s' hq => ?_)
  obtain ⟨rfl, h2, h3, h4⟩ := hq
  exact ⟨.inl ⟨.bool true, .bool true, [], rfl, fun _ => rfl, .bool true, post_true l _, fun _ => ⟨List.Pairwise.nil, fun _ hm => (nomatch hm)⟩⟩, h2, h3, h4⟩

section
variable {prog : Program} {w : World} {A : Around} {E : Value → Shared → Prop} {s : Shared} {K : Frag}

noncomputable def noObjs (h : Heap) : Heap := { h with objs := #[] }
noncomputable def ledger (h : Heap) (L d : Addr) : List (Addr × Obj) := (List.range h.objs.size).filterMap fun a => if a = L ∨ a = d then none else (h.get? a).map fun o => (a, o)
end
end Att

namespace L2
open PySem PySem.Spec PyProof.Rows

theorem vals_ints : ∀ {vs : List Value} {ns : List Int}, IntsAre vs ns → Vals (ns.map V.int) vs
  | _, _, .nil => .nil
  | _, _, .cons n t h => .cons ⟨t, rfl⟩ (vals_ints h)

noncomputable def Only (H : Hp) : Prop := ∀ b, H b = none ∨ ∃ o xs, H b = some (.frz o (.lst xs))

theorem law_call {P : Program} {w : World} {K : PySem.W.Frag} {mg mb : Str → Option Value} {CX : CXT} {k : Nat} {fa a : Addr} {fd : FuncData} {x : Str} {sp : Sp} {s₁ : Shared} {vs : List Value} {ns : List Int}
    (KX : K.In s₁.heap) (hns : s₁.heap.Ns mainGlobals mg) (hb : s₁.heap.Ns builtinsNs mb) (hbb : ∀ x : Str, x ≠ "__name__" → mb x = bootBuiltins x) (hlim : s₁.heap.NoLimit) (hg : s₁.gens = #[])
    (ha : s₁.heap.get? a = some { cls := .type "list", data := .seq vs.toArray }) (hi : IntsAre vs ns) (hl : ns.length ≤ sizeLine) (hr : Room k callerA)
    (F : ∀ base : Heap, K.In base → base.Ns mainGlobals mg → FnOk P w K mg base CX k fa fd [x] sp) (hbind : ∀ (s : Shared) (u : Value), BindsTo s fd ⟨[u], []⟩ [(x, u)])
    (hsp : ∀ H : Hp, Only H → SqL K H a (ns.map V.int) → sp [.ref a] H (fun v _ => v = .bl true) fun _ _ _ => False)
    (hCX : ∀ H e s', CX [] H s₁ (fun _ _ _ => False) e s' → False) :
    codeAny (model P w) callerA (.call (.ref fa) ⟨[.ref a], []⟩) (fun r s' => r = .ok (.ret (.bool true)) ∧ OldK s₁.heap s'.heap ∧ s'.os = s₁.os ∧ AllBare s'.gens) s₁ := by
  have rv := vals_ints hi
  have lenV := hi.length
  -- from an abstract heap in which nothing but the script may be tracked
  have core : ∀ H : Hp, Only H → SqL K H a (ns.map V.int) → HOk P w H s₁.heap → (∀ b, H b ≠ none → b = a) → (H a ≠ none → K.lookup a = none) →
      codeAny (model P w) callerA (.call (.ref fa) ⟨[.ref a], []⟩) (fun r s' => r = .ok (.ret (.bool true)) ∧ OldK s₁.heap s'.heap ∧ s'.os = s₁.os ∧ AllBare s'.gens) s₁ := by
    intro H hO hS hok hA hK
    have base_of : ∀ {b : Addr} {o : Obj}, s₁.heap.get? b = some o → H b = none → (hidT s₁.heap H).get? b = some o := fun e n => hidT_get e n
    have noA : ∀ {b : Addr} {o : Obj} {es : Array DictEntry} {ep : Nat}, s₁.heap.get? b = some o → o.data = .dict es ep → H b = none := fun {b o es ep} e d => by
      cases q : H b with
      | none => rfl
      | some u =>
        have e' : b = a := hA b (by rw [q]; simp)
        subst e'
        rw [ha] at e; cases e
        have d' : Data.seq vs.toArray _ = Data.dict es ep := d
        cases d'
    have nsK : ∀ {b : Addr} {m : Str → Option Value}, s₁.heap.Ns b m → (hidT s₁.heap H).Ns b m := fun {b m} ⟨o, es, ep, e, d, r⟩ => ⟨o, es, ep, base_of e (noA e d), d, r⟩
    have hKb : K.In (hidT s₁.heap H) := fun b o e => base_of (KX b o e) (by
      cases q : H b with
      | none => rfl
      | some u =>
        have e' : b = a := hA b (by rw [q]; simp)
        subst e'
        rw [hK (by rw [q]; simp)] at e; cases e)
    have hM : Mod K mg (hidT s₁.heap H) := ⟨hKb, nsK hns, ⟨mb, nsK hb, hbb⟩, let ⟨mc, h1, h2⟩ := hlim; ⟨mc, nsK h1, h2⟩⟩
    have e0 : Env0 P w K mg (hidT s₁.heap H) callerA [] s₁ H := ⟨rfl, hM, fun b o e => of_hidT e, Nat.le_of_eq (hidT_size _ _), trivial, fun b hb => absurd (show b ∈ ([] : List Addr) from hb) (by simp), hok, .of_eq hg⟩
    refine codeAny_mono ((F _ hKb (nsK hns)).run callerA [] s₁ H ⟨[.ref a], []⟩ [.ref a] [.ref a] _ _ hr e0 (hbind s₁ (.ref a)) (.cons rfl .nil) (hsp H hO hS)) fun r s' h => ?_
    cases r with
    | error e => exact (hCX H e s' h).elim
    | ok fl =>
      cases fl with
      | next => exact False.elim h
      | brk => exact False.elim h
      | cont => exact False.elim h
      | ret u =>
        obtain ⟨v, H', os, bare, un, hok', r', q⟩ := h
        have q' : v = .bl true := q
        subst q'
        obtain rfl : u = Value.bool true := r'
        refine ⟨rfl, OldK.of_keep fun b o e => ?_, os, bare⟩
        cases q : H b with
        | none => exact un.keep b o e q (by intro z; exact absurd (show b ∈ ([] : List Addr) from z) (by simp)) (by simp)
        | some u =>
          rcases hO b with z | ⟨ob, xs, z⟩
          · rw [q] at z; cases z
          · have z2 := un.frzs b ob _ z
            obtain ⟨e1, _⟩ := hok b _ z
            obtain ⟨e2, _⟩ := hok' b _ z2
            rw [e] at e1; cases e1
            exact e2
  cases hk : K.lookup a with
  | some o =>
    -- the script is one of the module's own objects
    have e := KX a o hk
    rw [ha] at e
    cases e
    refine core (fun _ => none) (fun _ => .inl rfl) (.inr ⟨_, vs.toArray, _, hk, rfl, rfl, rfl, by rw [List.size_toArray, lenV]; exact hl, by simpa using rv⟩) (fun b u z => by have z' : (none : Option HO) = some u := z; cases z') (fun b z => absurd rfl z) fun z => absurd rfl z
  | none =>
    refine core (fun b => if b = a then some (.frz { cls := .type "list", data := .seq vs.toArray } (.lst (ns.map V.int))) else none) (fun b => ?_) (.inl (.inr ⟨{ cls := .type "list", data := .seq vs.toArray }, if_pos rfl⟩)) (fun b u z => ?_) (fun b z => ?_) fun _ => hk
    · by_cases hb : b = a
      · exact .inr ⟨_, _, if_pos hb⟩
      · exact .inl (if_neg hb)
    · by_cases hb : b = a
      · have z' := (if_pos hb).symm.trans z
        cases z'
        subst hb
        exact ⟨ha, by rw [List.length_map]; exact hl, vs, _, rv, ha⟩
      · have z' := (if_neg hb).symm.trans z
        cases z'
    · by_cases hb : b = a
      · exact hb
      · exact absurd (if_neg hb) z
end L2

namespace L2
open PySem PySem.Spec PyProof.Rows

noncomputable abbrev KOf {K : PySem.W.Frag} {h : Heap} (_ : K.In h) : PySem.W.Frag := K

theorem walk_of {l : PySem.W.OpenLaw} {n k : Nat} {q : Program} {loose : List Str} {XP : (Str → Option Value) → Heap → Prop} {YP : World → Heap → Prop} {d : DefRec} {K : Params → PySem.W.Frag} {CX : World → CXT} {sp : World → Sp} {x : Str}
    (hn : l.most = some n) (hn2 : n ≤ sizeLine) (hdf : d.params.defaults = []) (hr : Room k callerA)
    (hY : ∀ (w : World) (h : Heap), YP w h → (K w.params).In h)
    (F : ∀ (w : World) (mg : Str → Option Value) (fa : Addr) (h : Heap), (K w.params).In h → h.Ns mainGlobals mg → mg d.name = some (.ref fa) →
      ∃ fd : FuncData, (∀ (s : Shared) (u : Value), BindsTo s fd ⟨[u], []⟩ [(x, u)]) ∧
        ∀ base : Heap, (K w.params).In base → base.Ns mainGlobals mg → FnOk l.prog w (K w.params) mg base (CX w) k fa fd [x] (sp w))
    (hsp : ∀ (w : World) (H : Hp) (a : Addr) (ns : List Int), ns.length ≤ n → Only H → SqL (K w.params) H a (ns.map V.int) → sp w [.ref a] H (fun v _ => v = .bl true) fun _ _ _ => False)
    (hCX : ∀ (w : World) (H : Hp) (s : Shared) (e : Value) (s' : Shared), CX w [] H s (fun _ _ _ => False) e s' → False) :
    PySem.W.WalkO q loose XP YP l.row.toRowW d [] (fun f vs => PySem.call f vs) := by
  refine Att.attach_call hn hdf fun w s₀ s₁ mg mb fa o pm cd doc a vs ns G Y ho hd hcd hmg hobj hints hlen hg => ?_
  have KX := hY w _ Y
  obtain ⟨fd, hb, hF⟩ := F w mg fa _ KX G.T.g hmg
  exact law_call KX G.T.g G.T.b G.T.builtins G.T.nolimit hg hobj hints (Nat.le_trans hlen hn2) hr hF hb (fun H hO hS => hsp w H a ns hlen hO hS) fun H e s' => hCX w H s₁ e s'
theorem walk_ofK {l : PySem.W.OpenLaw} {n k : Nat} {q : Program} {loose : List Str} {XP : (Str → Option Value) → Heap → Prop} {YP : World → Heap → Prop} {d : DefRec} {K : Params → PySem.W.Frag} {CX : CXT} {sp : PySem.W.Frag → Sp} {x : Str}
    (hn : l.most = some n) (hn2 : n ≤ sizeLine) (hdf : d.params.defaults = []) (hr : Room k callerA)
    (hY : ∀ (w : World) (h : Heap), YP w h → (K w.params).In h)
    (F : ∀ (w : World) (mg : Str → Option Value) (fa : Addr) (h : Heap), (K w.params).In h → h.Ns mainGlobals mg → mg d.name = some (.ref fa) →
      ∃ fd : FuncData, (∀ (s : Shared) (u : Value), BindsTo s fd ⟨[u], []⟩ [(x, u)]) ∧
        ∀ base : Heap, (K w.params).In base → base.Ns mainGlobals mg → FnOk l.prog w (K w.params) mg base CX k fa fd [x] (sp (K w.params)))
    (hsp : ∀ (K : PySem.W.Frag) (H : Hp) (a : Addr) (ns : List Int), ns.length ≤ n → Only H → SqL K H a (ns.map V.int) → sp K [.ref a] H (fun v _ => v = .bl true) fun _ _ _ => False)
    (hCX : ∀ (H : Hp) (s : Shared) (e : Value) (s' : Shared), CX [] H s (fun _ _ _ => False) e s' → False) :
    PySem.W.WalkO q loose XP YP l.row.toRowW d [] (fun f vs => PySem.call f vs) :=
  walk_of (K := K) (CX := fun _ => CX) (sp := fun w => sp (K w.params)) hn hn2 hdf hr hY F (fun w H a ns h1 h2 h3 => hsp (K w.params) H a ns h1 h2 h3) fun _ H s e s' => hCX H s e s'
end L2



namespace L2
open PySem PySem.Spec PyProof.Rows

noncomputable def inClass (s : Stmt) (j : Nat) : Stmt := match s with
  | .ClassDef _ _ _ body _ _ _ _ _ _ _ => body.getD j (.Pass ⟨0, 0, 0, 0⟩)
  | _ => .Pass ⟨0, 0, 0, 0⟩
noncomputable def defArgs (s : Stmt) : Arguments := match s with
  | .FunctionDef _ a _ _ _ _ _ _ _ _ => a
  | _ => { posonlyargs := [], args := [], vararg := none, kwonlyargs := [], kw_defaults := [], kwarg := none, defaults := [] }
noncomputable def defBody (s : Stmt) : List Stmt := match s with
  | .FunctionDef _ _ b _ _ _ _ _ _ _ => b
  | _ => []
noncomputable def defScope (s : Stmt) : Scope := match s with
  | .FunctionDef _ _ _ _ _ _ sc _ _ _ => sc
  | _ => { kind := .function, names := [], isGenerator := false, isCoroutine := false }

noncomputable abbrev CX0 : CXT := fun _ _ _ _ _ _ => False
noncomputable abbrev E0 : XK := fun _ _ _ => False
theorem pass0 {X : Cx} : Passes CX0 X E0 := fun _ _ _ _ _ _ _ h => h.elim

structure Fun (K : PySem.W.Frag) (x qual : Str) (st : Stmt) (f : Addr) (fd : FuncData) : Prop where
  ex : ∃ (oc : Value) (od : Option Addr) (kV doc pm : Value) (an : Option Addr) (cdv ct : Value) (osl : Array (Option Value)),
    fd = PySem.W.fnOf x qual (defArgs st) (defBody st) (defScope st) .none kV doc pm an cdv ct ∧ K.lookup f = some ⟨oc, od, .func fd, osl⟩ ∧ PySem.W.codeIn K cdv qual = true
  kp : PySem.W.keepIn K (.ref f) = true
section
variable {P : Program} {w : World} {K : PySem.W.Frag} {mg : Str → Option Value} {base : Heap}
theorem Fun.ok {x qual : Str} {st : Stmt} {f : Addr} {fd : FuncData} {N ps : List Str} {k : Nat} {sp : Sp} (F : Fun K x qual st f fd) (S : FnScope N ps (defScope st)) (len : ∀ vs H Q E, sp vs H Q E → vs.length = ps.length)
    (hbody : ∀ (cdv : Value) (A : Around) (outer : List Env) (s : Shared) (H : Hp) (vs : List V) (Q : VK) (E : XK), Room k (A.deeper (envOfC qual (defScope st) s.heap.objs.size f cdv)) → sp vs H Q E →
      ∃ t, PSs (cxOf CX0 P w K mg base N qual (defScope st) f cdv A outer s H E).nox (defBody st) t ∧ t { nx := fun _ H' => Q .non H', rt := Q } (start N vs) H) : FnOk P w K mg base CX0 (k + 1) f fd ps sp := by
  obtain ⟨oc, od, kV, doc, pm, an, cdv, ct, osl, rfl, lk, hcd⟩ := F.ex
  refine fn_of lk hcd S len fun A outer s H vs Q E hr hsp => ?_
  obtain ⟨t, h, q⟩ := hbody cdv A outer s H vs Q E hr hsp
  exact ⟨t, h.nox, q⟩
theorem Fun.binds {x qual : Str} {st : Stmt} {f : Addr} {fd : FuncData} {ps : List Str} (F : Fun K x qual st f fd)
    (h : ∀ (kV doc pm : Value) (an : Option Addr) (cdv ct : Value) (us : List Value), us.length = ps.length → bindArgs (PySem.W.fnOf x qual (defArgs st) (defBody st) (defScope st) .none kV doc pm an cdv ct) ⟨us, []⟩ = pure (ps.zip us)) : Binds K fd ps [] := by
  obtain ⟨oc, od, kV, doc, pm, an, cdv, ct, osl, rfl, lk, hcd⟩ := F.ex
  exact .all (h kV doc pm an cdv ct)
theorem fun_mk {x qual : Str} {st : Stmt} {f : Addr} {oc : Value} {od an : Option Addr} {osl : Array (Option Value)} {kV doc pm cdv ct : Value} (l : K.lookup f = some ⟨oc, od, .func (PySem.W.fnOf x qual (defArgs st) (defBody st) (defScope st) .none kV doc pm an cdv ct), osl⟩)
    (c : PySem.W.codeIn K cdv qual = true) (k : PySem.W.keepIn K (.ref f) = true) : Fun K x qual st f (PySem.W.fnOf x qual (defArgs st) (defBody st) (defScope st) .none kV doc pm an cdv ct) := ⟨⟨oc, od, kV, doc, pm, an, cdv, ct, osl, rfl, l, c⟩, k⟩
end
section
variable {X : Cx}
theorem pv (i : Nat) {x : Str} {pos : Pos} (hN : X.N[i]? = some x := by rfl) (hv : Vis X.env.scope x := by first | exact Or.inl rfl | exact Or.inr (Or.inl rfl) | exact Or.inr (Or.inr rfl)) (hd : (x == ("__debug__" : Str)) = false := by decide)
    (hcd : (x == ("__classdict__" : Str)) = false := by decide) : PE X (.Name x pos) (tVar i) := pe_var hN hv hd hcd
end

noncomputable def Same (H H' : Hp) : Prop := ∀ b o, H b = some o → H' b = some o
theorem Same.refl (H : Hp) : Same H H := fun _ _ h => h
theorem Same.trans {H H1 H2 : Hp} (a : Same H H1) (b : Same H1 H2) : Same H H2 := fun c o h => b c o (a c o h)
theorem Same.free {H H' : Hp} (e : Same H H') {l : Addr} (h : H' l = Option.none) : H l = Option.none := by
  cases q : H l with
  | none => rfl
  | some o =>
    rw [e l o q] at h
    cases h
theorem Same.seq {K : PySem.W.Frag} {H H' : Hp} {a : Addr} {xs : List V} (e : Same H H') (h : SqL K H a xs) : SqL K H' a xs := by
  rcases h with (h | ⟨o, h⟩) | h
  · exact .inl (.inl (e _ _ h))
  · exact .inl (.inr ⟨o, e _ _ h⟩)
  · exact .inr h

end L2

set_option maxRecDepth 100000
namespace L2
open PySem PySem.Spec PyProof.Rows

section
variable {κ : Type} [DecidableEq κ]
noncomputable def valV (kvs : List (κ × V)) (k : κ) : Option V := (kvs.find? fun kv => decide (kv.1 = k)).map (·.2)
noncomputable def putK (kvs : List (κ × V)) (k : κ) (v : V) : List (κ × V) :=
  if (kvs.any fun kv => decide (kv.1 = k)) = true then kvs.map (fun kv => if kv.1 = k then (kv.1, v) else kv) else kvs ++ [(k, v)]
noncomputable def dropK (kvs : List (κ × V)) (k : κ) : List (κ × V) := kvs.filter fun kv => decide (kv.1 ≠ k)

theorem valV_pos {p : κ × V} {r : List (κ × V)} {k : κ} (e : p.1 = k) : valV (p :: r) k = some p.2 := by simp [valV, List.find?_cons, e]
theorem valV_neg {p : κ × V} {r : List (κ × V)} {k : κ} (e : ¬ p.1 = k) : valV (p :: r) k = valV r k := by simp [valV, List.find?_cons, e]
theorem RelO.getD {o : Option V} {u : Option Value} {d : V} {d' : Value} (r : RelO o u) (rd : RelV d d') : RelV (o.getD d) (u.getD d') := by
  cases o with
  | none => cases u with
    | none => exact rd
    | some _ => exact (show False from r).elim
  | some _ => cases u with
    | none => exact (show False from r).elim
    | some _ => exact r

theorem KV.val {kvs : List (κ × V)} {vs : List (κ × Value)} (r : KV kvs vs) (k : κ) : RelO (valV kvs k) (valueAt vs k) := by
  unfold KV at r
  induction r with
  | nil => exact True.intro
  | @cons p q ps qs h t ih =>
    obtain ⟨h1, h2⟩ := h
    by_cases e : p.1 = k
    · have e' : q.1 = k := h1.symm.trans e
      have b : valueAt (q :: qs) k = some q.2 := by simp [valueAt, List.find?_cons, e']
      rw [valV_pos e, b]; exact h2
    · have e' : ¬ q.1 = k := fun z => e (h1.trans z)
      have b : valueAt (q :: qs) k = valueAt qs k := by simp [valueAt, List.find?_cons, e']
      rw [valV_neg e, b]; exact ih
theorem KV.any {kvs : List (κ × V)} {vs : List (κ × Value)} (r : KV kvs vs) (k : κ) : (kvs.any fun kv => decide (kv.1 = k)) = vs.any fun kv => decide (kv.1 = k) := by
  unfold KV at r
  induction r with
  | nil => rfl
  | cons h t ih => rw [List.any_cons, List.any_cons, ih, h.1]
theorem KV.drop {kvs : List (κ × V)} {vs : List (κ × Value)} (r : KV kvs vs) (k : κ) : KV (dropK kvs k) (without vs k) := by
  unfold KV at r ⊢
  unfold dropK without
  induction r with
  | nil => exact .nil
  | @cons p q ps qs h t ih =>
    obtain ⟨h1, h2⟩ := h
    rw [List.filter_cons, List.filter_cons]
    by_cases e : p.1 = k
    · have a : ¬ decide (p.1 ≠ k) = true := by simp [e]
      have b : ¬ decide (q.1 ≠ k) = true := by simp [h1.symm.trans e]
      rw [if_neg a, if_neg b]; exact ih
    · have e' : ¬ q.1 = k := fun z => e (h1.trans z)
      have a : decide (p.1 ≠ k) = true := by simp [e]
      have b : decide (q.1 ≠ k) = true := by simp [e']
      rw [if_pos a, if_pos b]; exact .cons ⟨h1, h2⟩ ih
theorem KV.keys {kvs : List (κ × V)} {vs : List (κ × Value)} (r : KV kvs vs) : kvs.map (·.1) = vs.map (·.1) := by
  unfold KV at r
  induction r with
  | nil => rfl
  | cons h t ih => rw [List.map_cons, List.map_cons, ih, h.1]
theorem KV.length {kvs : List (κ × V)} {vs : List (κ × Value)} (r : KV kvs vs) : kvs.length = vs.length := Paired.length r
end


noncomputable abbrev KT (H : Hp) : List (List Key × V) → List (List Key × Addr × Value) → Prop := Paired fun p q => p.1 = q.1 ∧ H q.2.1 = some (.tup (p.1.map kV)) ∧ RelV p.2 q.2.2
theorem KT.val {H : Hp} {kvs : List (List Key × V)} {xs : List (List Key × Addr × Value)} (r : KT H kvs xs) (k : List Key) : RelO (valV kvs k) ((atKey xs k).map (·.2)) := by
  induction r with
  | nil => exact True.intro
  | @cons p q ps qs h t ih =>
    obtain ⟨h1, _, h2⟩ := h
    by_cases e : p.1 = k
    · have e' : q.1 = k := h1.symm.trans e
      have b : atKey (q :: qs) k = some q.2 := by simp [atKey, List.find?_cons, e']
      rw [valV_pos e, b]; exact h2
    · have e' : ¬ q.1 = k := fun z => e (h1.trans z)
      have b : atKey (q :: qs) k = atKey qs k := by simp [atKey, List.find?_cons, e']
      rw [valV_neg e, b]; exact ih
theorem KT.keeps {H H' : Hp} {kvs : List (List Key × V)} {xs : List (List Key × Addr × Value)} (r : KT H kvs xs) (ht : ∀ b ys, H b = some (.tup ys) → H' b = some (.tup ys)) : KT H' kvs xs :=
  Paired.mapP r fun _ _ z => ⟨z.1, ht _ _ z.2.1, z.2.2⟩

section
variable {P : Program} {w : World} {H : Hp} {h : Heap} {a : Addr}
end

noncomputable def DGet (H : Hp) (a : Addr) (y : V) (r : Option V) : Prop :=
  (∃ kvs k, Rd H a (.dK kvs) ∧ y = kV k ∧ r = valV kvs k) ∨ ∃ kvs k b, Rd H a (.dT kvs) ∧ y = .ref b ∧ H b = some (.tup (k.map kV)) ∧ r = valV kvs k
noncomputable def DPut (H : Hp) (a : Addr) (y v : V) (H' : Hp) : Prop :=
  (∃ kvs k, H a = some (.dK kvs) ∧ y = kV k ∧ kvs.length < sizeLine ∧ H' = upd H a (.dK (putK kvs k v))) ∨
  ∃ kvs k b, H a = some (.dT kvs) ∧ y = .ref b ∧ H b = some (.tup (k.map kV)) ∧ kvs.length < sizeLine ∧ H' = upd H a (.dT (putK kvs k v))
theorem DGet.k {H : Hp} {a : Addr} {kvs : List (Key × V)} {k : Key} (e : H a = some (.dK kvs)) : DGet H a (kV k) (valV kvs k) := .inl ⟨kvs, k, .inl e, rfl, rfl⟩
theorem DGet.t {H : Hp} {a b : Addr} {kvs : List (List Key × V)} {k : List Key} (e : H a = some (.dT kvs)) (eb : H b = some (.tup (k.map kV))) : DGet H a (.ref b) (valV kvs k) := .inr ⟨kvs, k, b, .inl e, rfl, eb, rfl⟩
theorem DPut.k {H : Hp} {a : Addr} {kvs : List (Key × V)} {k : Key} {v : V} (e : H a = some (.dK kvs)) (hl : kvs.length < sizeLine) : DPut H a (kV k) v (upd H a (.dK (putK kvs k v))) := .inl ⟨kvs, k, e, rfl, hl, rfl⟩
theorem DPut.t {H : Hp} {a b : Addr} {kvs : List (List Key × V)} {k : List Key} {v : V} (e : H a = some (.dT kvs)) (eb : H b = some (.tup (k.map kV))) (hl : kvs.length < sizeLine) :
    DPut H a (.ref b) v (upd H a (.dT (putK kvs k v))) := .inr ⟨kvs, k, b, e, rfl, eb, hl, rfl⟩


section
variable {X : Cx} {pins : List (Addr × Obj)} {σ : St} {H : Hp} {s : Shared} {a : Addr} {y v : V} {u r : Value} {o : Option V} {A : Around} {E : Value → Shared → Prop}

theorem Inv.big (I : Inv X pins σ H s) : sysModules < s.heap.objs.size := by
  have h : mainGlobals < s.heap.objs.size := (I.mod.glob.keeps I.bk).lt
  exact Nat.lt_trans (by decide) h

end

section
variable {X : Cx} {pins : List (Addr × Obj)} {σ : St} {H : Hp} {s : Shared} {a : Addr} {kvs : List (Key × V)} {k : Key} {u : Value} {A : Around} {E : Value → Shared → Prop}
end


noncomputable def NoSl (i : Expr) : Prop := ∀ ov iv, subscripted i false ov iv = operate [ov, iv] (getItem ov iv)
noncomputable def tDGet (td ty : TE) : TE := fun σ H Q => td σ H fun x H1 => ty σ H1 fun y H2 => ∃ a v, x = .ref a ∧ DGet H2 a y (some v) ∧ Q v H2
noncomputable def tDIn (ty td : TE) : TE := fun σ H Q => ty σ H fun y H1 => td σ H1 fun x H2 => ∃ a o, x = .ref a ∧ DGet H2 a y o ∧ Q (.bl o.isSome) H2
noncomputable def tDNotIn (ty td : TE) : TE := fun σ H Q => ty σ H fun y H1 => td σ H1 fun x H2 => ∃ a o, x = .ref a ∧ DGet H2 a y o ∧ Q (.bl (!o.isSome)) H2
noncomputable def sDPut (td ty tv : TE) : TS := fun D σ H => tv σ H fun v H1 => td σ H1 fun x H2 => ty σ H2 fun y H3 => ∃ a H4, x = .ref a ∧ DPut H3 a y v H4 ∧ D.nx σ H4
noncomputable def sDAug (td ty tv : TE) (rd : V → V → Hp → VK → Prop) : TS := fun D σ H => td σ H fun x H1 => ty σ H1 fun y H2 => ∃ a v, x = .ref a ∧ DGet H2 a y (some v) ∧
  tv σ H2 fun y2 H3 => rd v y2 H3 fun z H4 => ∃ H5, DPut H4 a y z H5 ∧ D.nx σ H5
noncomputable def sDDel (td ty : TE) : TS := fun D σ H => td σ H fun x H1 => ty σ H1 fun y H2 => ∃ a kvs k, x = .ref a ∧ H2 a = some (.dK kvs) ∧ y = kV k ∧ (valV kvs k).isSome = true ∧ D.nx σ (upd H2 a (.dK (dropK kvs k)))

section
variable {X : Cx} {o i e value : Expr} {pos pos' tpos : Pos} {td ty tv : TE}
end


theorem dk_empty {P : Program} {w : World} {H : Hp} (h : Heap) (hb : sysModules < h.objs.size) : ObjOk P w H (h.push { cls := .type "dict", data := .dict #[] }) h.objs.size (.dK []) :=
  ⟨Nat.zero_le _, beq_eq_false_iff_ne.mpr (Ne.symm (Nat.ne_of_lt hb)), [], .nil, Heap.DictOf.new h⟩
noncomputable def tDNewK : TE := fun _ H Q => ∀ p, H p = none → Q (.ref p) (upd H p (.dK []))
noncomputable def tDNewT : TE := fun _ H Q => ∀ p, H p = none → Q (.ref p) (upd H p (.dT []))
section
variable {X : Cx} {pos : Pos}
theorem pe_dnewK : PE X (.Dict [] [] pos) tDNewK := fun pins s σ H Q I h =>
  wpAny_Dict_empty ⟨.ref s.heap.objs.size, _, I.laid (a := s.heap.objs.size) (o := .dK []) (t' := s.toks) (fun _ _ q => Heap.get?_push_of_some _ q) (Nat.le_refl _) (dk_empty s.heap I.big), rfl, h _ (I.hok.fresh (Nat.le_refl _))⟩
end

noncomputable def tPairs : List (TE × TE) → St → Hp → (List (V × V) → Hp → Prop) → Prop
  | [], _, H, Q => Q [] H
  | (tk, tv) :: r, σ, H, Q => tk σ H fun x H1 => tv σ H1 fun y H2 => tPairs r σ H2 fun ps H3 => Q ((x, y) :: ps) H3
noncomputable abbrev VV : List (V × V) → List (Value × Value) → Prop := Paired fun p q => RelV p.1 q.1 ∧ RelV p.2 q.2
noncomputable def PPs (X : Cx) (pos : Pos) (keys : List (Option Expr)) (values : List Expr) (trs : List (TE × TE)) : Prop :=
  ∀ (pins : List (Addr × Obj)) (s : Shared) (σ : St) (H : Hp) (Q : List (V × V) → Hp → Prop), Inv X pins σ H s → tPairs trs σ H Q →
    wpAny (model X.prog X.w) X.A (evalPairs (pairTrees keys values X.env pos)) (fun vs s' => ∃ ps H', Inv X pins σ H' s' ∧ VV ps vs ∧ Q ps H') X.xe s
noncomputable def mergeK (kvs more : List (Key × V)) : List (Key × V) := more.foldl (fun acc kv => putK acc kv.1 kv.2) kvs
noncomputable def tDisp (trs : List (TE × TE)) : TE := fun σ H Q => ∀ p, H p = none → tPairs trs σ (upd H p (.dK [])) fun ps H2 => H2 p = some (.dK []) ∧ ∃ kvs : List (Key × V), ps = kvs.map (fun kv => (kV kv.1, kv.2)) ∧ kvs.length ≤ 15 ∧ Q (.ref p) (upd H2 p (.dK (mergeK [] kvs)))
structure M1 (X : Cx) (o : Expr) (m : Str) (apos : Pos) (e : Expr) (cpos : Pos) : Prop where
  base : attributeBase o m X.env (eval o X.env) = eval o X.env
  few : ((backTo cpos (starEach [e] X.env)).all (fun x => !x.1) && (backToKw cpos (keywordEach [] X.env)).all (fun x => x.1.isSome)
    && decide (([e] : List Expr).length + ([] : List Keyword).length + (if ([] : List Keyword).isEmpty then 0 else 1) < 30)) = true
  line : (apos.endLine == cpos.line) = true
  trees : backTo cpos (starEach [e] X.env) = [(false, eval e X.env)]
structure M2 (X : Cx) (o : Expr) (m : Str) (apos : Pos) (e f : Expr) (cpos : Pos) : Prop where
  base : attributeBase o m X.env (eval o X.env) = eval o X.env
  few : ((backTo cpos (starEach [e, f] X.env)).all (fun x => !x.1) && (backToKw cpos (keywordEach [] X.env)).all (fun x => x.1.isSome)
    && decide (([e, f] : List Expr).length + ([] : List Keyword).length + (if ([] : List Keyword).isEmpty then 0 else 1) < 30)) = true
  line : (apos.endLine == cpos.line) = true
  trees : backTo cpos (starEach [e, f] X.env) = [(false, eval e X.env), (false, eval f X.env)]

noncomputable def IsD (H : Hp) (a : Addr) : Prop := (∃ kvs, Rd H a (.dK kvs)) ∨ ∃ kvs, Rd H a (.dT kvs)
section
variable {X : Cx} {pins : List (Addr × Obj)} {σ : St} {H : Hp} {s : Shared} {a : Addr} {y d : V} {u r : Value} {o : Option V} {A : Around} {E : Value → Shared → Prop}
end

noncomputable def tDGet1 (td ty : TE) : TE := fun σ H Q => td σ H fun x H1 => ∃ a, x = .ref a ∧ IsD H1 a ∧ ty σ H1 fun y H2 => ∃ o, DGet H2 a y o ∧ Q (o.getD .non) H2
noncomputable def tDGet2 (td ty tx : TE) : TE := fun σ H Q => td σ H fun x H1 => ∃ a, x = .ref a ∧ IsD H1 a ∧ ty σ H1 fun y H2 => tx σ H2 fun z H3 => ∃ o, DGet H3 a y o ∧ Q (o.getD z) H3
noncomputable def tDPop1 (td ty : TE) : TE := fun σ H Q => td σ H fun x H1 => ∃ a, x = .ref a ∧ IsD H1 a ∧ ty σ H1 fun y H2 => ∃ kvs k v, H2 a = some (.dK kvs) ∧ y = kV k ∧ valV kvs k = some v ∧ Q v (upd H2 a (.dK (dropK kvs k)))
noncomputable def tDPop2 (td ty tx : TE) : TE := fun σ H Q => td σ H fun x H1 => ∃ a, x = .ref a ∧ IsD H1 a ∧ ty σ H1 fun y H2 => tx σ H2 fun z H3 => ∃ kvs k, H3 a = some (.dK kvs) ∧ y = kV k ∧
  (∀ v, valV kvs k = some v → Q v (upd H3 a (.dK (dropK kvs k)))) ∧ (valV kvs k = none → Q z H3)
section
variable {X : Cx} {o e f : Expr} {apos cpos : Pos} {td ty tx : TE}
end

section
variable {X : Cx} {pins : List (Addr × Obj)} {σ : St} {H : Hp} {s : Shared} {a : Addr} {kvs : List (Key × V)} {A : Around} {E : Value → Shared → Prop}
end


section
variable {X : Cx} {pins : List (Addr × Obj)} {σ : St} {H : Hp} {s : Shared} {a : Addr} {y : V} {u : Value} {A : Around} {E : Value → Shared → Prop}
end
end L2
namespace L2
open PySem PySem.Spec PyProof.Rows
section
variable {X : Cx}
end
section
variable {κ : Type} [DecidableEq κ]
end
end L2

set_option maxRecDepth 100000
namespace Zt
open PySem PySem.Spec

structure Src (i : Addr) (fp : List Addr) (S : Nat → Heap → Prop) (nth : Nat → Option Value) : Prop where
  mem : i ∈ fp
  stay : ∀ k h h', S k h → (∀ b ∈ fp, ∀ o, h.get? b = some o → h'.get? b = some o) → S k h'
  obj : ∀ k h, S k h → ∃ o, h.get? i = some o ∧ ∀ v, o.data ≠ .cell v
  item : ∀ {prog : Program} {w : World} {A : Around} {E : Value → Shared → Prop} {s : Shared} {Q : Value → Shared → Prop} {k : Nat} {x : Value}, S k s.heap → nth k = some x →
    (∀ h', S (k + 1) h' → Heap.SameBut i s.heap h' → Q x { s with heap := h' }) → wpAny (model prog w) A (Builtin.SmallTypes.nextOf (.ref i)) Q E s
  fin : ∀ {prog : Program} {w : World} {A : Around} {E : Value → Shared → Prop} {s : Shared} {Q : Value → Shared → Prop} {k : Nat}, A.handled = none → S k s.heap → nth k = none →
    (∀ h' e, Heap.ExtBut i s.heap h' → (∃ o, h'.get? e = some o ∧ o.cls = .type "StopIteration") → E (.ref e) { s with heap := h' }) → wpAny (model prog w) A (Builtin.SmallTypes.nextOf (.ref i)) Q E s

theorem srcT (i t : Addr) (hne : t ≠ i) (its : Array Value) : Src i [i, t] (fun k h => h.IsTupleIter i t k ∧ h.IsTuple t its) (fun k => its[k]?) where
  mem := List.mem_cons_self
  stay := by
    rintro k h h' ⟨⟨o, e, r⟩, ⟨o2, e2, r2⟩⟩ hk
    exact ⟨⟨o, hk i (by simp) o e, r⟩, ⟨o2, hk t (by simp) o2 e2, r2⟩⟩
  obj := by
    rintro k h ⟨⟨o, e, c, d⟩, _⟩
    exact ⟨o, e, fun v z => by rw [d] at z; cases z⟩
  item := by
    rintro prog w A E s Q k x ⟨hit, ht⟩ hx hQ
    obtain ⟨o, ho, hc, hd⟩ := id hit; obtain ⟨ol, hol, hlc, nl, hdl⟩ := id ht
    unfold Builtin.SmallTypes.nextOf
    refine wpAny_bind (wpAny_callSpecial?_slot (name := Str.ofString "__next__") hit.typeIs F.slot_tuple_iterator_next (wpAny_call_entry F.slot_tuple_iterator_next hit.typeIs F.entry_tuple_iterator_next ?_ (F.args_tuple_iterator_next_1 _)))
    show wpAny _ _ (field (.ref i) 0 >>= _) _ _ s; refine wpAny_bind (wpAny_field ho hd (x := .ref t) rfl ?_)
    show wpAny _ _ (if (Value.ref t == Value.none) = true then _ else _) _ _ s; rw [if_neg (show ¬ ((Value.ref t == Value.none) = true) from Bool.false_ne_true)]
    show wpAny _ _ (field (.ref i) 1 >>= _) _ _ s; refine wpAny_bind (wpAny_field ho hd (x := .int k 0) rfl ?_)
    show wpAny _ _ (seqItems? (.ref t) >>= _) _ _ s; refine wpAny_bind (wpAny_seqItems hol hdl ?_)
    simp only [Int.toNat_natCast, hx]
    refine wpAny_bind (wpAny_setField ho hd (by simp) (wpAny_pure ⟨x, rfl, wpAny_pure (hQ _ ⟨?_, ht.extBut (Heap.SameBut.update ..).extBut hne⟩ (Heap.SameBut.update ..))⟩))
    refine ⟨_, Heap.get?_update_self _ ho (Obj.isFreed_of_fields (Obj.data_mapFields hd _)), (Obj.cls_mapFields ..).trans hc, ?_⟩
    rw [Obj.data_mapFields hd]; simp [rawInt]
  fin := by
    rintro prog w A E s Q k hh ⟨hit, ht⟩ hx hE
    obtain ⟨o, ho, hc, hd⟩ := id hit; obtain ⟨ol, hol, hlc, nl, hdl⟩ := id ht
    unfold Builtin.SmallTypes.nextOf
    refine wpAny_bind (wpAny_callSpecial?_slot (name := Str.ofString "__next__") hit.typeIs F.slot_tuple_iterator_next (wpAny_call_entry F.slot_tuple_iterator_next hit.typeIs F.entry_tuple_iterator_next ?_ (F.args_tuple_iterator_next_1 _)))
    show wpAny _ _ (field (.ref i) 0 >>= _) _ _ s; refine wpAny_bind (wpAny_field ho hd (x := .ref t) rfl ?_)
    show wpAny _ _ (if (Value.ref t == Value.none) = true then _ else _) _ _ s; rw [if_neg (show ¬ ((Value.ref t == Value.none) = true) from Bool.false_ne_true)]
    show wpAny _ _ (field (.ref i) 1 >>= _) _ _ s; refine wpAny_bind (wpAny_field ho hd (x := .int k 0) rfl ?_)
    show wpAny _ _ (seqItems? (.ref t) >>= _) _ _ s; refine wpAny_bind (wpAny_seqItems hol hdl ?_)
    simp only [Int.toNat_natCast, hx]
    refine wpAny_bind (wpAny_rule (wpAny_bind (wpAny_setField ho hd (by simp) ?_))); show wpAny _ _ (newExc (.type "StopIteration") [] >>= _) _ _ _
    refine wpAny_bind ?_; simp only [newExc, newTuple]; refine wpAny_bind (wpAny_newObj_type ?_ (by size_fits))
    refine wpAny_bind (m := firstArgMember _ _) (wpAny_of_eq (a := Value.none) (by first | rfl | (simp only [firstArgMember]; rfl)) ?_); refine wpAny_newObj_type ?_ (by size_fits)
    simp only [raiseNew]; refine wpAny_bind (wpAny_handled ?_); first | rw [show A.in1.handled = none from hh] | rw [hh]
    refine wpAny_bind (wpAny_pure (wpAny_throw ?_)); exact hE _ _ (((Heap.SameBut.update ..).extBut.push _).push _) ⟨_, Heap.get?_push_size _ rfl, rfl⟩

structure Apart (z TI TO i1 i2 : Addr) (f1 f2 : List Addr) : Prop where
  TIz : TI ≠ z
  TOz : TO ≠ z
  i1z : i1 ≠ z
  i2z : i2 ≠ z
  TITO : TI ≠ TO
  TIi1 : TI ≠ i1
  TIi2 : TI ≠ i2
  TOi1 : TO ≠ i1
  TOi2 : TO ≠ i2
  i12 : i1 ≠ i2
  z1 : z ∉ f1
  z2 : z ∉ f2
  o1 : TO ∉ f1
  o2 : TO ∉ f2
  c12 : i1 ∉ f2
  c21 : i2 ∉ f1

section
variable {prog : Program} {w : World} {A : Around} {E : Value → Shared → Prop} {s : Shared} {z TI TO i1 i2 : Addr} {f1 f2 : List Addr} {S1 S2 : Nat → Heap → Prop} {n1 n2 : Nat → Option Value} {k1 k2 : Nat} {a b : Value}
theorem Src.but {i : Addr} {fp : List Addr} {S : Nat → Heap → Prop} {nth : Nat → Option Value} (R : Src i fp S nth) {k : Nat} {h h' : Heap} {c : Addr} (st : S k h) (e : Heap.ExtBut c h h') (hc : c ∉ fp) : S k h' :=
  R.stay k h h' st fun b hb o q => e b o (fun z => hc (z ▸ hb)) q

theorem next_item {x y : Value} {Q : Value → Shared → Prop} (R1 : Src i1 f1 S1 n1) (R2 : Src i2 f2 S2 n2) (D : Apart z TI TO i1 i2 f1 f2)
    (hz : IsZip s.heap z TI TO .none) (hTI : IsPair s.heap TI (.ref i1) (.ref i2)) (hTO : IsPair s.heap TO a b) (h1 : S1 k1 s.heap) (h2 : S2 k2 s.heap) (hx : n1 k1 = some x) (hy : n2 k2 = some y)
    (hQ : ∀ h', IsZip h' z TI TO (rawInt s.heap.objs.size) → IsPair h' TO x y → S1 (k1 + 1) h' → S2 (k2 + 1) h' → IsPair h' s.heap.objs.size x y →
      (∀ c o, c ≠ z → c ≠ TO → c ≠ i1 → c ≠ i2 → s.heap.get? c = some o → h'.get? c = some o) → Q (.ref s.heap.objs.size) { s with heap := h' }) :
    wpAny (model prog w) A (Builtin.«zip.__next__» ⟨[.ref z], []⟩) (fun fin s' => ∃ v, fin = .done (.ret v) ∧ Q v s') E s := by
  show wpAny _ _ (field (.ref z) 2 >>= _) _ _ _; refine wpAny_bind (wpAny_field hz rfl (x := .bool false) rfl ?_)
  show wpAny _ _ (field (.ref z) 3 >>= _) _ _ _; refine wpAny_bind (wpAny_field hz rfl (x := .ref TI) rfl ?_); refine wpAny_bind (wpAny_seqItems hTI rfl ?_)
  show wpAny _ _ (Builtin.SmallTypes.ownedTupleIsFree (.ref z) >>= _) _ _ _; refine wpAny_bind ?_; unfold Builtin.SmallTypes.ownedTupleIsFree
  refine wpAny_bind (wpAny_field hz rfl (x := .none) rfl (wpAny_pure ?_)); simp only [if_true]; refine wpAny_bind (wpAny_rule ?_)
  refine wpAny_bind (wpAny_field hz rfl (x := .ref TO) rfl ?_); refine wpAny_bind (wpAny_setField_rec hz (by simp) fun h₁ hz₁ hs₁ => ?_)
  replace hz₁ : IsZip h₁ z TI TO .ellipsis := hz₁
  refine wpAny_bind ?_; simp only [List.zipIdx_cons, List.zipIdx_nil, List.forIn_cons, List.forIn_nil]
  refine wpAny_bind (wpAny_bind (wpAny_onRaise ?_)); show wpAny _ _ (Builtin.SmallTypes.nextOf (.ref i1) >>= _) _ _ _
  refine wpAny_bind (R1.item (R1.but h1 hs₁.extBut D.z1) hx fun h₂ g1 hs₂ => wpAny_pure ?_)
  have t2 : IsPair h₂ TO a b := hs₂.extBut _ _ D.TOi1 (hs₁.extBut _ _ D.TOz hTO)
  refine wpAny_bind (wpAny_seqItems t2 rfl ?_); refine wpAny_bind (wpAny_updateSeq_pair t2 fun h₃ t3 hs₃ => ?_)
  replace t3 : IsPair h₃ TO x b := t3
  refine wpAny_bind (wpAny_letGo (wpAny_pure ?_)); refine wpAny_bind (wpAny_bind (wpAny_onRaise ?_)); show wpAny _ _ (Builtin.SmallTypes.nextOf (.ref i2) >>= _) _ _ _
  refine wpAny_bind (R2.item (R2.but (R2.but (R2.but h2 hs₁.extBut D.z2) hs₂.extBut D.c12) hs₃.extBut D.o2) hy fun h₄ g2 hs₄ => wpAny_pure ?_)
  have t4 : IsPair h₄ TO x b := hs₄.extBut _ _ D.TOi2 t3
  refine wpAny_bind (wpAny_seqItems t4 rfl ?_); refine wpAny_bind (wpAny_updateSeq_pair t4 fun h₅ t5 hs₅ => ?_)
  replace t5 : IsPair h₅ TO x y := t5
  refine wpAny_bind (wpAny_letGo (wpAny_pure (wpAny_pure ?_))); refine wpAny_bind (wpAny_seqItems t5 rfl ?_); refine wpAny_bind (wpAny_newTuple ?_)
  have hsz : h₅.objs.size = s.heap.objs.size := by rw [hs₅.1, hs₄.1, hs₃.1, hs₂.1, hs₁.1]
  have z5 : IsZip h₅ z TI TO .ellipsis := hs₅.extBut _ _ D.TOz.symm (hs₄.extBut _ _ D.i2z.symm (hs₃.extBut _ _ D.TOz.symm (hs₂.extBut _ _ D.i1z.symm hz₁)))
  have k5 : ∀ c o, c ≠ z → c ≠ TO → c ≠ i1 → c ≠ i2 → s.heap.get? c = some o → h₅.get? c = some o := fun c o c1 c2 c3 c4 e =>
    hs₅.extBut _ _ c2 (hs₄.extBut _ _ c4 (hs₃.extBut _ _ c2 (hs₂.extBut _ _ c3 (hs₁.extBut _ _ c1 e))))
  have e1 : S1 (k1 + 1) h₅ := R1.but (R1.but (R1.but g1 hs₃.extBut D.o1) hs₄.extBut D.c21) hs₅.extBut D.o1
  have e2 : S2 (k2 + 1) h₅ := R2.but g2 hs₅.extBut D.o2
  have lz : z < h₅.objs.size := Heap.lt_size z5
  show wpAny _ _ (Builtin.SmallTypes.ownedTupleHandOut (.ref z) (.ref h₅.objs.size) >>= _) _ _ _; refine wpAny_bind ?_; unfold Builtin.SmallTypes.ownedTupleHandOut
  have z6 : IsZip (h₅.push { cls := .type "tuple", data := .seq #[x, y] }) z TI TO .ellipsis := Heap.get?_push_of_some _ z5
  refine wpAny_bind (wpAny_setField_rec z6 (by simp) fun h₇ z7 hs₇ => ?_)
  replace z7 : IsZip h₇ z TI TO (rawInt h₅.objs.size) := z7
  refine wpAny_setField_rec z7 (by simp) fun h₈ z8 hs₈ => ?_
  replace z8 : IsZip h₈ z TI TO (rawInt h₅.objs.size) := z8
  have up : ∀ c o, c ≠ z → h₅.get? c = some o → h₈.get? c = some o := fun c o c1 e => hs₈.extBut _ _ c1 (hs₇.extBut _ _ c1 (Heap.get?_push_of_some _ e))
  have t8 : IsPair h₈ h₅.objs.size x y := hs₈.extBut _ _ (Nat.ne_of_gt lz) (hs₇.extBut _ _ (Nat.ne_of_gt lz) (Heap.get?_push_size _ rfl))
  rw [hsz] at z8 t8
  refine wpAny_pure ⟨_, rfl, ?_⟩; show Q (.ref h₅.objs.size) _; rw [hsz]
  exact hQ h₈ z8 (up _ _ D.TOz t5) (R1.stay _ _ _ e1 fun c hc o e => up c o (fun q => D.z1 (q ▸ hc)) e) (R2.stay _ _ _ e2 fun c hc o e => up c o (fun q => D.z2 (q ▸ hc)) e) t8 fun c o c1 c2 c3 c4 e => up c o c1 (k5 c o c1 c2 c3 c4 e)

theorem next_end {Q : Fin → Shared → Prop} (hh : A.handled = none) (R1 : Src i1 f1 S1 n1) (R2 : Src i2 f2 S2 n2) (D : Apart z TI TO i1 i2 f1 f2)
    (hz : IsZip s.heap z TI TO .none) (hTI : IsPair s.heap TI (.ref i1) (.ref i2)) (hTO : IsPair s.heap TO a b) (h1 : S1 k1 s.heap) (h2 : S2 k2 s.heap) (hend : n1 k1 = none ∨ n2 k2 = none)
    (hE : ∀ h' e, (∀ c o, c ≠ z → c ≠ TO → c ≠ i1 → c ≠ i2 → s.heap.get? c = some o → h'.get? c = some o) → (∃ o, h'.get? e = some o ∧ o.cls = .type "StopIteration") → E (.ref e) { s with heap := h' }) :
    wpAny (model prog w) A (Builtin.«zip.__next__» ⟨[.ref z], []⟩) Q E s := by
  show wpAny _ _ (field (.ref z) 2 >>= _) _ _ _; refine wpAny_bind (wpAny_field hz rfl (x := .bool false) rfl ?_)
  show wpAny _ _ (field (.ref z) 3 >>= _) _ _ _; refine wpAny_bind (wpAny_field hz rfl (x := .ref TI) rfl ?_); refine wpAny_bind (wpAny_seqItems hTI rfl ?_)
  show wpAny _ _ (Builtin.SmallTypes.ownedTupleIsFree (.ref z) >>= _) _ _ _; refine wpAny_bind ?_; unfold Builtin.SmallTypes.ownedTupleIsFree
  refine wpAny_bind (wpAny_field hz rfl (x := .none) rfl (wpAny_pure ?_)); simp only [if_true]; refine wpAny_bind (wpAny_rule ?_)
  refine wpAny_bind (wpAny_field hz rfl (x := .ref TO) rfl ?_); refine wpAny_bind (wpAny_setField_rec hz (by simp) fun h₁ hz₁ hs₁ => ?_)
  replace hz₁ : IsZip h₁ z TI TO .ellipsis := hz₁
  refine wpAny_bind ?_; simp only [List.zipIdx_cons, List.zipIdx_nil, List.forIn_cons, List.forIn_nil]
  refine wpAny_bind (wpAny_bind (wpAny_onRaise ?_)); show wpAny _ _ (Builtin.SmallTypes.nextOf (.ref i1) >>= _) _ _ _
  cases hx : n1 k1 with
  | none =>
    refine wpAny_bind (R1.fin hh (R1.but h1 hs₁.extBut D.z1) hx fun h₂ e hs₂ he => ?_)
    obtain ⟨oe, hoe, hce⟩ := he
    have hz₂ : IsZip h₂ z TI TO .ellipsis := hs₂ _ _ D.i1z.symm hz₁
    have hez : e ≠ z := fun x => by subst x; rw [hz₂] at hoe; cases hoe; simp at hce
    exact wpAny_setField_rec hz₂ (by simp) fun h₃ _ hs₃ => hE h₃ e (fun c o c1 _ c3 _ x => hs₃.extBut _ _ c1 (hs₂ _ _ c3 (hs₁.extBut _ _ c1 x))) ⟨oe, hs₃.extBut _ _ hez hoe, hce⟩
  | some x =>
    have hy : n2 k2 = none := by
      rcases hend with h | h
      · rw [hx] at h; cases h
      · exact h
    refine wpAny_bind (R1.item (R1.but h1 hs₁.extBut D.z1) hx fun h₂ g1 hs₂ => wpAny_pure ?_)
    have t2 : IsPair h₂ TO a b := hs₂.extBut _ _ D.TOi1 (hs₁.extBut _ _ D.TOz hTO)
    refine wpAny_bind (wpAny_seqItems t2 rfl ?_); refine wpAny_bind (wpAny_updateSeq_pair t2 fun h₃ t3 hs₃ => ?_)
    refine wpAny_bind (wpAny_letGo (wpAny_pure ?_)); refine wpAny_bind (wpAny_bind (wpAny_onRaise ?_)); show wpAny _ _ (Builtin.SmallTypes.nextOf (.ref i2) >>= _) _ _ _
    refine wpAny_bind (R2.fin hh (R2.but (R2.but (R2.but h2 hs₁.extBut D.z2) hs₂.extBut D.c12) hs₃.extBut D.o2) hy fun h₄ e hs₄ he => ?_)
    obtain ⟨oe, hoe, hce⟩ := he
    have hz₄ : IsZip h₄ z TI TO .ellipsis := hs₄ _ _ D.i2z.symm (hs₃.extBut _ _ D.TOz.symm (hs₂.extBut _ _ D.i1z.symm hz₁))
    have hez : e ≠ z := fun x => by subst x; rw [hz₄] at hoe; cases hoe; simp at hce
    exact wpAny_setField_rec hz₄ (by simp) fun h₅ _ hs₅ => hE h₅ e (fun c o c1 c2 c3 c4 x => hs₅.extBut _ _ c1 (hs₄ _ _ c4 (hs₃.extBut _ _ c2 (hs₂.extBut _ _ c3 (hs₁.extBut _ _ c1 x))))) ⟨oe, hs₅.extBut _ _ hez hoe, hce⟩

theorem py_item {x y : Value} {Q : Option Value → Shared → Prop} (R1 : Src i1 f1 S1 n1) (R2 : Src i2 f2 S2 n2) (D : Apart z TI TO i1 i2 f1 f2)
    (hz : IsZip s.heap z TI TO .none) (hTI : IsPair s.heap TI (.ref i1) (.ref i2)) (hTO : IsPair s.heap TO a b) (h1 : S1 k1 s.heap) (h2 : S2 k2 s.heap) (hx : n1 k1 = some x) (hy : n2 k2 = some y)
    (hQ : ∀ h', IsZip h' z TI TO (rawInt s.heap.objs.size) → IsPair h' TO x y → S1 (k1 + 1) h' → S2 (k2 + 1) h' → IsPair h' s.heap.objs.size x y →
      (∀ c o, c ≠ z → c ≠ TO → c ≠ i1 → c ≠ i2 → s.heap.get? c = some o → h'.get? c = some o) → Q (some (.ref s.heap.objs.size)) { s with heap := h' }) :
    wpAny (model prog w) A (pyNext (.ref z)) Q E s := by
  have hT : s.TypeIs (.ref z) "zip" := ⟨_, hz, rfl⟩
  unfold pyNext
  exact wpAny_bind (wpAny_attempt (wpAny_callSpecial?_slot (name := Str.ofString "__next__") hT F.slot_zip_next (wpAny_call_entry F.slot_zip_next hT F.entry_zip_next
      (next_item R1 R2 D hz hTI hTO h1 h2 hx hy fun h' a1 a2 a3 a4 a5 a7 => wpAny_pure (hQ h' a1 a2 a3 a4 a5 a7)) (F.args_zip_next_1 _))))
theorem py_end {Q : Option Value → Shared → Prop} (hh : A.handled = none) (R1 : Src i1 f1 S1 n1) (R2 : Src i2 f2 S2 n2) (D : Apart z TI TO i1 i2 f1 f2)
    (hz : IsZip s.heap z TI TO .none) (hTI : IsPair s.heap TI (.ref i1) (.ref i2)) (hTO : IsPair s.heap TO a b) (h1 : S1 k1 s.heap) (h2 : S2 k2 s.heap) (hend : n1 k1 = none ∨ n2 k2 = none)
    (hQ : ∀ h', (∀ c o, c ≠ z → c ≠ TO → c ≠ i1 → c ≠ i2 → s.heap.get? c = some o → h'.get? c = some o) → Q none { s with heap := h' }) : wpAny (model prog w) A (pyNext (.ref z)) Q E s := by
  have hT : s.TypeIs (.ref z) "zip" := ⟨_, hz, rfl⟩
  unfold pyNext
  refine wpAny_bind (wpAny_attempt (wpAny_callSpecial?_slot (name := Str.ofString "__next__") hT F.slot_zip_next
    (wpAny_call_entry F.slot_zip_next hT F.entry_zip_next (next_end hh R1 R2 D hz hTI hTO h1 h2 hend fun h' e hk he => ?_) (F.args_zip_next_1 _))))
  obtain ⟨o, ho, hc⟩ := he
  exact wpAny_bind (wpAny_isInstance (T := "StopIteration") (b := true) ⟨o, ho, hc⟩ isSubtype_stop (wpAny_pure (hQ _ hk)))
end

noncomputable abbrev g1 (h : Heap) (l1 : Addr) : Heap := h.push { cls := .type "tuple_iterator", data := .fields #[.ref l1, .int 0 0] }
noncomputable abbrev g2 (h : Heap) (l1 l2 : Addr) : Heap := (g1 h l1).push { cls := .type "tuple_iterator", data := .fields #[.ref l2, .int 0 0] }
noncomputable abbrev g3 (h : Heap) (l1 l2 : Addr) : Heap := (g2 h l1 l2).push { cls := .type "tuple", data := .seq #[.ref h.objs.size, .ref (g1 h l1).objs.size] }
noncomputable abbrev g4 (h : Heap) (l1 l2 : Addr) : Heap := (g3 h l1 l2).push { cls := .type "tuple", data := .seq #[.none, .none] }
noncomputable abbrev g5 (h : Heap) (l1 l2 : Addr) : Heap := (g4 h l1 l2).push { cls := .type "zip", data := .fields #[.none, .bool false, .bool false, .ref (g2 h l1 l2).objs.size, .ref (g3 h l1 l2).objs.size] }

theorem meets_new (l1 l2 : Addr) (xs ys : Array Value) :
    Meets (Builtin.«zip.__new__» ⟨[.type "zip", .ref l1, .ref l2], []⟩) (fun _ R s => s.heap.IsTuple l1 xs ∧ s.heap.IsTuple l2 ys ∧
      R (.ok (.ret (.ref (g4 s.heap l1 l2).objs.size))) { s with heap := g5 s.heap l1 l2 }) :=
  .of_wp fun prog w A R s h => by
    obtain ⟨hp, g, d, tk, os⟩ := s; obtain ⟨hl1, hl2, h⟩ := h
    have hsub := sub_zip
    have hL1 : Heap.IsTuple (Shared.heap ⟨hp, g, d, tk, os⟩) l1 xs := hl1
    have hL2 : Heap.IsTuple (Shared.heap ⟨hp.push { cls := .type "tuple_iterator", data := .fields #[.ref l1, .int 0 0] }, g, d, tk, os⟩) l2 ys := Heap.IsTuple.push hl2 _
    wp_walk using wpAny_pyIter_tuple hL1, wpAny_pyIter_tuple hL2
    exact ⟨_, rfl, h⟩

theorem call_zip {prog : Program} {w : World} {A : Around} {E : Value → Shared → Prop} {s : Shared} {l1 l2 : Addr} {xs ys : Array Value} {Q : Value → Shared → Prop} (hl1 : s.heap.IsTuple l1 xs) (hl2 : s.heap.IsTuple l2 ys)
    (h : ∀ h', IsZip h' (s.heap.objs.size + 4) (s.heap.objs.size + 2) (s.heap.objs.size + 3) .none → IsPair h' (s.heap.objs.size + 2) (.ref s.heap.objs.size) (.ref (s.heap.objs.size + 1)) →
      IsPair h' (s.heap.objs.size + 3) .none .none → h'.IsTupleIter s.heap.objs.size l1 0 → h'.IsTupleIter (s.heap.objs.size + 1) l2 0 →
      (∀ c o, s.heap.get? c = some o → h'.get? c = some o) → Q (.ref (s.heap.objs.size + 4)) { s with heap := h' }) :
    wpAny (model prog w) A (call (.type "zip") [.ref l1, .ref l2]) Q E s := by
  refine callType_new F.called_zip (by decide) (F.typeCall_zip_2 _ _) (F.newCall_zip_2 _ _) (fun obj => F.args_object_init_3 obj _ _) F.entry_zip_new (meets_new l1 l2 xs ys) ⟨hl1, hl2, ?_⟩
  have z1 : (g1 s.heap l1).objs.size = s.heap.objs.size + 1 := Heap.size_push ..
  have z2 : (g2 s.heap l1 l2).objs.size = s.heap.objs.size + 2 := by rw [Heap.size_push, z1]
  have z3 : (g3 s.heap l1 l2).objs.size = s.heap.objs.size + 3 := by rw [Heap.size_push, z2]
  have z4 : (g4 s.heap l1 l2).objs.size = s.heap.objs.size + 4 := by rw [Heap.size_push, z3]
  have q5 : (g5 s.heap l1 l2).get? (g4 s.heap l1 l2).objs.size = some _ := Heap.get?_push_size _ rfl
  have q4 : (g5 s.heap l1 l2).get? (g3 s.heap l1 l2).objs.size = some _ := Heap.get?_push_of_some _ (Heap.get?_push_size _ rfl)
  have q3 : (g5 s.heap l1 l2).get? (g2 s.heap l1 l2).objs.size = some _ := Heap.get?_push_of_some _ (Heap.get?_push_of_some _ (Heap.get?_push_size _ rfl))
  have q2 : (g5 s.heap l1 l2).get? (g1 s.heap l1).objs.size = some _ := Heap.get?_push_of_some _ (Heap.get?_push_of_some _ (Heap.get?_push_of_some _ (Heap.get?_push_size _ rfl)))
  have q1 : (g5 s.heap l1 l2).get? s.heap.objs.size = some _ := Heap.get?_push_of_some _ (Heap.get?_push_of_some _ (Heap.get?_push_of_some _ (Heap.get?_push_of_some _ (Heap.get?_push_size _ rfl))))
  show _ ∧ _
  rw [z2, z3, z4] at q5; rw [z1, z2] at q3; rw [z3] at q4; rw [z1] at q2; rw [z4]
  exact ⟨⟨_, q5, rfl⟩, h _ q5 q3 q4 ⟨_, q1, rfl, rfl⟩ ⟨_, q2, rfl, rfl⟩ fun c o x =>
    Heap.get?_push_of_some _ (Heap.get?_push_of_some _ (Heap.get?_push_of_some _ (Heap.get?_push_of_some _ (Heap.get?_push_of_some _ x))))⟩
end Zt

namespace L2
open PySem PySem.Spec PyProof.Rows
theorem Inv.spun {X : Cx} {pins : List (Addr × Obj)} {σ : St} {H : Hp} {s : Shared} {h' : Heap} {t' : Nat} {ch : List Addr} (I : Inv X pins σ H s) (hch : ∀ b ∈ ch, FpOk X pins H b)
    (k : ∀ b o, b ∉ ch → s.heap.get? b = some o → h'.get? b = some o) : Inv X pins σ H { s with heap := h', toks := t' } := by
  have nit : ∀ b u, H b = some u → b ∉ ch := fun b u e z => by rw [(hch b z).1] at e; cases e
  refine I.step (g' := s.gens) (d' := s.drawn) (ch := ch) (fun b hb => ?_) (fun b o _ _ hc e _ => k b o hc e) (fun b o _ _ hc e _ => ⟨o.slots, k b o hc e⟩) (fun _ _ _ _ n => n)
    (fun b o hc e => ⟨o, k b o hc e⟩) (fun _ _ e => e) (fun _ _ _ e => e) (fun b ps e => ⟨#[], by rw [e]; simp⟩) (fun m hm => ?_) (fun b u e => ?_) I.bare
  · obtain ⟨f0, f1, f2, f3, f4, f5⟩ := hch b hb
    exact ⟨f3, f1, f4, f5⟩
  · obtain ⟨o, es, ep, ho, r⟩ := hm
    exact ⟨o, es, ep, k _ o (fun z => (hch _ z).2.1 rfl) ho, r⟩
  · refine (I.hok b u e).stay (fun c v hc q => k c v ?_ q) (fun _ q => q) fun _ _ q => q
    rcases hc with z | z
    · rw [z]; exact nit b u e
    · exact nit c _ z
theorem Inv.track {X : Cx} {pins : List (Addr × Obj)} {σ : St} {H : Hp} {s s1 : Shared} {a : Addr} {o : HO} (I : Inv X pins σ H s) (J : Inv X pins σ H s1) (ha : s.heap.objs.size ≤ a) (new : ObjOk X.prog X.w (upd H a o) s1.heap a o) :
    Inv X pins σ (upd H a o) s1 := by
  have hn : H a = none := I.hok.fresh ha
  have ne : ∀ b u, s.heap.get? b = some u → b ≠ a := fun b u e => Nat.ne_of_lt (Nat.lt_of_lt_of_le (Heap.lt_size e) ha)
  have h0 : X.s₀.heap.objs.size ≤ a := Nat.le_trans I.sz ha
  have ne0 : ∀ b u, X.s₀.heap.get? b = some u → b ≠ a := fun b u e => Nat.ne_of_lt (Nat.lt_of_lt_of_le (Heap.lt_size e) h0)
  refine ⟨J.ok, J.os, J.bare, ⟨J.base.keep, J.base.slot, fun b u e n hx => ?_, J.base.there, fun b xs e => ?_, fun b u v e => ?_, fun b ps e => ?_⟩, J.loc, J.cell, ?_, fun x c e => ?_, fun p hp => ?_, fun b u e => ?_, J.len⟩
  · rw [upd_ne (ne0 b u e)]; exact J.base.free b u e n hx
  · have q := J.base.tups b xs e
    rw [upd_ne (ne_of_none q hn)]; exact q
  · have q := J.base.frzs b u v e
    rw [upd_ne (ne_of_none q hn)]; exact q
  · obtain ⟨m, q⟩ := J.base.tbls b ps e
    exact ⟨m, by rw [upd_ne (ne_of_none q hn)]; exact q⟩
  · obtain ⟨m, ⟨ob, _, _, e, _⟩, _⟩ := I.loc
    rw [upd_ne (ne _ _ e)]; exact J.free
  · obtain ⟨v, ob, e1, _⟩ := I.cell x c e
    rw [upd_ne (ne _ _ e1)]; exact J.freeC x c e
  · obtain ⟨q1, q2, q3, q4, q5⟩ := J.pin p hp
    exact ⟨q1, by rw [upd_ne (ne _ _ (I.pin p hp).1)]; exact q2, q3, q4, q5⟩
  · by_cases hb : b = a
    · subst hb; rw [upd_same] at e; cases e; exact new
    · rw [upd_ne hb] at e
      exact (J.hok b u e).stay (fun c v _ q => q) (fun c q => by rw [upd_ne (ne_of_none q hn)]; exact q) fun c xs q => by rw [upd_ne (ne_of_none q hn)]; exact q

noncomputable def Itz (K : PySem.W.Frag) (a b : Addr) : It :=
  ⟨fun i H => ∃ xs ys x y, SqT K H a xs ∧ SqT K H b ys ∧ xs[i]? = some x ∧ ys[i]? = some y,
   fun i H v H' => ∃ p x y, H p = none ∧ (∀ xs, SqT K H a xs → xs[i]? = some x) ∧ (∀ ys, SqT K H b ys → ys[i]? = some y) ∧ v = .ref p ∧ H' = upd H p (.tup [x, y]),
   fun i H => ∃ xs ys, SqT K H a xs ∧ SqT K H b ys ∧ (xs.length ≤ i ∨ ys.length ≤ i)⟩
theorem turn_zip {P : Program} {w : World} {K : PySem.W.Frag} {es : List Expr} {k : Nat} {ps : Pos} {z TI TO i1 i2 a b : Addr}
    (na : a ≠ i1) (nb : b ≠ i2) (D : Zt.Apart z TI TO i1 i2 [i1, a] [i2, b]) :
    Turn P w K (.Tuple es k ps) (Itz K a b) [z, TI, TO, i1, i2] z (fun n h => IsZip h z TI TO .none ∧ IsPair h TI (.ref i1) (.ref i2) ∧ (∃ u v, IsPair h TO u v) ∧ h.IsTupleIter i1 a n ∧ h.IsTupleIter i2 b n) where
  mem := by simp
  obj := by
    rintro n h ⟨hz, hTI, ⟨u, v, hTO⟩, ⟨o1, e1, c1, d1⟩, ⟨o2, e2, c2, d2⟩⟩ c hc
    simp only [List.mem_cons, List.not_mem_nil, or_false] at hc
    rcases hc with rfl | rfl | rfl | rfl | rfl
    · exact ⟨_, hz, fun v q => nomatch q⟩
    · exact ⟨_, hTI, fun v q => nomatch q⟩
    · exact ⟨_, hTO, fun v q => nomatch q⟩
    · exact ⟨o1, e1, fun v q => by rw [d1] at q; cases q⟩
    · exact ⟨o2, e2, fun v q => by rw [d2] at q; cases q⟩
  keep := by
    rintro n h h' ⟨hz, hTI, ⟨u, v, hTO⟩, ⟨o1, e1, r1⟩, ⟨o2, e2, r2⟩⟩ kp
    exact ⟨kp z (by simp) _ hz, kp TI (by simp) _ hTI, ⟨u, v, kp TO (by simp) _ hTO⟩, ⟨o1, kp i1 (by simp) _ e1, r1⟩, ⟨o2, kp i2 (by simp) _ e2, r2⟩⟩
  item := by
    intro X hP hw hK hc i pins s σ H E I hf st hg
    subst hP hw hK
    obtain ⟨hz, hTI, ⟨u, v, hTO⟩, hi1, hi2⟩ := st
    obtain ⟨xs, ys, x, y, qx, qy, hx, hy⟩ := hg
    obtain ⟨us, rx, px, zx⟩ := I.tuple qx
    obtain ⟨ws, ry, py, zy⟩ := I.tuple qy
    obtain ⟨ux, hux, rux⟩ := rx.get hx
    obtain ⟨uy, huy, ruy⟩ := ry.get hy
    refine Zt.py_item (Zt.srcT i1 a na us.toArray) (Zt.srcT i2 b nb ws.toArray) D hz hTI hTO ⟨hi1, px⟩ ⟨hi2, py⟩ (x := ux) (y := uy) (by simpa using hux) (by simpa using huy) fun h' z1 t1 s1 s2 t2 kp => ⟨_, rfl, ?_⟩
    refine wpAny_letOwnedTupleGo_zip (s := { s with heap := h' }) z1 fun h'' z2 sb => ?_
    have kp2 : ∀ c o, c ∉ [z, TI, TO, i1, i2] → s.heap.get? c = some o → h''.get? c = some o := fun c o hc e => by
      simp only [List.mem_cons, List.not_mem_nil, or_false, not_or] at hc
      exact sb.extBut _ _ hc.1 (kp c o hc.1 hc.2.2.1 hc.2.2.2.1 hc.2.2.2.2 e)
    have nz : s.heap.objs.size ≠ z := Nat.ne_of_gt (Heap.lt_size hz)
    have J : Inv X pins σ H { s with heap := h'' } := I.spun (t' := s.toks) hf kp2
    have t3 : IsPair h'' s.heap.objs.size ux uy := sb.extBut _ _ nz t2
    refine ⟨.ref s.heap.objs.size, upd H s.heap.objs.size (.tup [x, y]), I.track J (Nat.le_refl _) ⟨by show 2 ≤ sizeLine; decide, [ux, uy], .cons rux (.cons ruy .nil), ⟨_, t3, rfl, _, rfl⟩⟩, rfl, ⟨_, x, y, I.hok.fresh (Nat.le_refl _), fun zs h => ?_, fun zs h => ?_, rfl, rfl⟩, ?_, fun c hc => ?_⟩
    · rw [I.tuple_inj h qx]; exact hx
    · rw [I.tuple_inj h qy]; exact hy
    · exact ⟨z2, sb.extBut _ _ D.TIz (kp TI _ D.TIz D.TITO D.TIi1 D.TIi2 hTI), ⟨ux, uy, sb.extBut _ _ D.TOz t1⟩, s1.1.extBut sb.extBut D.i1z, s2.1.extBut sb.extBut D.i2z⟩
    · have e : c ≠ s.heap.objs.size := by
        simp only [List.mem_cons, List.not_mem_nil, or_false] at hc
        obtain ⟨o1, e1, _⟩ := hi1; obtain ⟨o2, e2, _⟩ := hi2
        rcases hc with rfl | rfl | rfl | rfl | rfl
        · exact Nat.ne_of_lt (Heap.lt_size hz)
        · exact Nat.ne_of_lt (Heap.lt_size hTI)
        · exact Nat.ne_of_lt (Heap.lt_size hTO)
        · exact Nat.ne_of_lt (Heap.lt_size e1)
        · exact Nat.ne_of_lt (Heap.lt_size e2)
      rw [upd_ne e]; exact (hf c hc).1
  done := by
    intro X hP hw hK hc i pins s σ H E I hf st hg
    subst hP hw hK
    obtain ⟨hz, hTI, ⟨u, v, hTO⟩, hi1, hi2⟩ := st
    obtain ⟨xs, ys, qx, qy, hend⟩ := hg
    obtain ⟨us, rx, px, zx⟩ := I.tuple qx
    obtain ⟨ws, ry, py, zy⟩ := I.tuple qy
    have lx := rx.length
    have ly := ry.length
    refine Zt.py_end (I.ok.hd hc) (Zt.srcT i1 a na us.toArray) (Zt.srcT i2 b nb ws.toArray) D hz hTI hTO ⟨hi1, px⟩ ⟨hi2, py⟩ (k1 := i) (k2 := i) (hend.imp (fun h => by simp; omega) (fun h => by simp; omega)) fun h' kp => ⟨rfl, ?_⟩
    refine I.spun (t' := s.toks) hf fun c o hc e => ?_
    simp only [List.mem_cons, List.not_mem_nil, or_false, not_or] at hc
    exact kp c o hc.1 hc.2.2.1 hc.2.2.2.1 hc.2.2.2.2 e
  self := by
    rintro A n s Q E ⟨hz, _⟩ h
    exact wpAny_pyIter_zip hz h
noncomputable def iZip (K : PySem.W.Frag) (ta : TA) : TI := fun σ H R => ta σ H fun vs H1 => ∃ a b, vs = [.ref a, .ref b] ∧ (∃ xs, SqT K H1 a xs) ∧ (∃ ys, SqT K H1 b ys) ∧ R (Itz K a b) H1
theorem pi_zip {X : Cx} {es : List Expr} {k : Nat} {ps p pos : Pos} {e1 e2 : Expr} {ta : TA} (hg : Gl X "zip") (hm : X.mg "zip" = none) (ha : PA X [e1, e2] ta)
    (hs : starEach [e1, e2] X.env = [(false, eval e1 X.env), (false, eval e2 X.env)] := by rfl) (hs2 : starEach [e2] X.env = [(false, eval e2 X.env)] := by rfl) (hv : bootBuiltins "zip" = some (.type "zip") := by decide +kernel) :
    PI X (.Tuple es k ps) (.Call (.Name "zip" p) [e1, e2] [] pos) (iZip X.K ta) := by
  intro pins s σ H R I h
  refine Call_ (ld_blt I hg hm hv (PyProof.Rows.callWith_type1 (thn (ha pos pins s σ H _ I h) fun us s1 ⟨vs, H1, I1, r1, q1⟩ => ?_) (by rw [hs, hs2]) (by rw [hs2]; rfl)))
  obtain ⟨a, b, e, ⟨xs, qx⟩, ⟨ys, qy⟩, q⟩ := q1
  subst e
  obtain ⟨u, v, rfl, ra, rb⟩ := vals2 r1
  cases ra
  cases rb
  obtain ⟨us, rx, px, zx⟩ := I1.tuple qx
  obtain ⟨ws, ry, py, zy⟩ := I1.tuple qy
  refine Zt.call_zip (xs := us.toArray) (ys := ws.toArray) px py fun h' hz hTI hTO h1 h2 kp => ?_
  refine wpAny_pyIter_zip (s := { s1 with heap := h' }) hz ?_
  have la : a < s1.heap.objs.size := by obtain ⟨o, e, _⟩ := px; exact Heap.lt_size e
  have lb : b < s1.heap.objs.size := by obtain ⟨o, e, _⟩ := py; exact Heap.lt_size e
  have J : Inv X pins σ H1 { s1 with heap := h' } := I1.kept (t' := s1.toks) kp
  refine ⟨_, [s1.heap.objs.size + 4, s1.heap.objs.size + 2, s1.heap.objs.size + 3, s1.heap.objs.size, s1.heap.objs.size + 1], _, Itz X.K a b, H1, rfl, J, turn_zip (a := a) (b := b) (Nat.ne_of_lt la) (Nat.ne_of_lt (Nat.lt_succ_of_lt lb)) ?_, ⟨hz, hTI, ⟨_, _, hTO⟩, h1, h2⟩, fun c hc => ?_, q⟩
  · generalize s1.heap.objs.size = n at la lb
    constructor <;> (try simp only [List.mem_cons, List.not_mem_nil, or_false, not_or, ne_eq]) <;> (unfold Addr at *; omega)
  · have le : s1.heap.objs.size ≤ c := by
      simp only [List.mem_cons, List.not_mem_nil, or_false] at hc
      rcases hc with rfl | rfl | rfl | rfl | rfl
      · exact Nat.le_add_right _ _
      · exact Nat.le_add_right _ _
      · exact Nat.le_add_right _ _
      · exact Nat.le_refl _
      · exact Nat.le_add_right _ _
    exact I1.fpOk le (I1.hok.fresh le)
end L2

set_option maxRecDepth 100000
namespace L2
open PySem PySem.Spec PyProof.Rows

noncomputable def clsOf (cells : List (Str × Addr)) : List (Str × NameKind) → List (Str × Addr) → Option (List (Str × Addr))
  | [], acc => some acc
  | (n, k) :: r, acc => if (k == .free) = true then (match cells.lookup n with | some a => clsOf cells r ((n, a) :: acc) | none => none) else clsOf cells r acc

theorem clsOf_loop {env : Env} : ∀ (ns : List (Str × NameKind)) (acc cl : List (Str × Addr)), clsOf env.cells ns acc = some cl →
    (forIn ns acc fun (x : Str × NameKind) (cs : List (Str × Addr)) => (if (x.2 == .free) = true then (do let a ← cellOf env x.1; pure (ForInStep.yield ((x.1, a) :: cs))) else pure (ForInStep.yield cs) : Sem _)) = pure cl
  | [], acc, cl, h => by
    simp only [clsOf, Option.some.injEq] at h
    subst h; rfl
  | (n, k) :: r, acc, cl, h => by
    rw [List.forIn_cons]
    unfold clsOf at h
    by_cases hk : (k == NameKind.free) = true
    · rw [if_pos hk] at h
      simp only [hk, if_true]
      cases e : env.cells.lookup n with
      | none => rw [e] at h; cases h
      | some a =>
        rw [e] at h
        have ih := clsOf_loop r ((n, a) :: acc) cl h
        simp only [cellOf, e, pure_bind]
        exact ih
    · rw [if_neg hk] at h
      simp only [hk, if_false, pure_bind]
      exact clsOf_loop r acc cl h
theorem closure_of {env : Env} {sc : Scope} {cl : List (Str × Addr)} (h : clsOf env.cells sc.names [] = some cl) : closureFor sc env = pure cl := by
  have e := clsOf_loop (env := env) sc.names [] cl h
  unfold closureFor
  have e2 := congrArg (fun m : Sem (List (Str × Addr)) => m >>= fun r => (pure r : Sem (List (Str × Addr)))) e
  simp only [pure_bind] at e2
  refine Eq.trans ?_ e2
  rfl
theorem clsOf_sub {cells : List (Str × Addr)} : ∀ (ns : List (Str × NameKind)) (acc cl : List (Str × Addr)), clsOf cells ns acc = some cl → (∀ x c, acc.lookup x = some c → cells.lookup x = some c) → ∀ x c, cl.lookup x = some c → cells.lookup x = some c
  | [], acc, cl, h, ha => by
    simp only [clsOf, Option.some.injEq] at h
    subst h; exact ha
  | (n, k) :: r, acc, cl, h, ha => by
    unfold clsOf at h
    by_cases hk : (k == NameKind.free) = true
    · rw [if_pos hk] at h
      cases e : cells.lookup n with
      | none => rw [e] at h; cases h
      | some a =>
        rw [e] at h
        refine clsOf_sub r ((n, a) :: acc) cl h fun x c q => ?_
        rw [List.lookup_cons] at q
        cases hx : x == n with
        | true =>
          rw [hx] at q
          have e' : x = n := by simpa using hx
          subst e'
          cases q; exact e
        | false => rw [hx] at q; exact ha x c q
    · rw [if_neg hk] at h
      exact clsOf_sub r acc cl h ha
theorem clsOf_has {cells : List (Str × Addr)} : ∀ (ns : List (Str × NameKind)) (acc cl : List (Str × Addr)), clsOf cells ns acc = some cl → (∀ x, (∃ c, acc.lookup x = some c) → ∃ c, cl.lookup x = some c) ∧ ∀ y ∈ ns, y.2 = .free → ∃ c, cl.lookup y.1 = some c
  | [], acc, cl, h => by
    simp only [clsOf, Option.some.injEq] at h
    subst h; exact ⟨fun x q => q, fun y hy => by simp at hy⟩
  | (n, k) :: r, acc, cl, h => by
    unfold clsOf at h
    by_cases hk : (k == NameKind.free) = true
    · rw [if_pos hk] at h
      cases e : cells.lookup n with
      | none => rw [e] at h; cases h
      | some a =>
        rw [e] at h
        obtain ⟨h1, h2⟩ := clsOf_has r ((n, a) :: acc) cl h
        have up : ∀ x, (∃ c, acc.lookup x = some c) → ∃ c, ((n, a) :: acc).lookup x = some c := fun x ⟨c, q⟩ => by
          rw [List.lookup_cons]
          cases hx : x == n with
          | true => exact ⟨a, rfl⟩
          | false => exact ⟨c, q⟩
        refine ⟨fun x q => h1 x (up x q), fun y hy hf => ?_⟩
        rcases List.mem_cons.mp hy with rfl | hy
        · exact h1 n ⟨a, by simp [List.lookup_cons]⟩
        · exact h2 y hy hf
    · rw [if_neg hk] at h
      obtain ⟨h1, h2⟩ := clsOf_has r acc cl h
      refine ⟨h1, fun y hy hf => ?_⟩
      rcases List.mem_cons.mp hy with rfl | hy
      · exact absurd (show (k == NameKind.free) = true by have : k = .free := hf; subst this; rfl) hk
      · exact h2 y hy hf

theorem relabel_free {env : Env} : ∀ {names : List (Str × NameKind)} {x : Str}, names.lookup x = some .free →
    (names.map fun (n, k) => if (k == NameKind.free && env.scope.kind == .function && env.kindOf n == some .cell) then (n, NameKind.cell) else (n, k)).lookup x = some .cell ∨
    (names.map fun (n, k) => if (k == NameKind.free && env.scope.kind == .function && env.kindOf n == some .cell) then (n, NameKind.cell) else (n, k)).lookup x = some .free
  | [], _, h => by simp at h
  | (n, k) :: r, x, h => by
    have ih := @relabel_free env r x
    rw [List.map_cons]
    dsimp only
    cases hx : x == n with
    | true =>
      simp only [List.lookup_cons, hx] at h
      cases h
      by_cases hc : (NameKind.free == NameKind.free && env.scope.kind == .function && env.kindOf n == some .cell) = true
      · refine .inl ?_
        rw [if_pos hc, List.lookup_cons, hx]
      · refine .inr ?_
        rw [if_neg hc, List.lookup_cons, hx]
    | false =>
      simp only [List.lookup_cons, hx] at h
      by_cases hc : (k == NameKind.free && env.scope.kind == .function && env.kindOf n == some .cell) = true
      · rw [if_pos hc]; simp only [List.lookup_cons, hx]; exact ih h
      · rw [if_neg hc]; simp only [List.lookup_cons, hx]; exact ih h
theorem relabel_back {env : Env} : ∀ {names : List (Str × NameKind)} {x : Str} {kd : NameKind}, (kd = .cell ∨ kd = .free) →
    (names.map fun (n, k) => if (k == NameKind.free && env.scope.kind == .function && env.kindOf n == some .cell) then (n, NameKind.cell) else (n, k)).lookup x = some kd → ∃ y ∈ names, y.1 = x ∧ (y.2 = .free ∨ y.2 = .cell)
  | [], _, _, _, h => by simp at h
  | (n, k) :: r, x, kd, hkd, h => by
    have ih := @relabel_back env r x kd hkd
    rw [List.map_cons] at h
    dsimp only at h
    cases hx : x == n with
    | true =>
      have e : x = n := by simpa using hx
      subst e
      refine ⟨(x, k), by simp, rfl, ?_⟩
      by_cases hc : (k == NameKind.free && env.scope.kind == .function && env.kindOf x == some .cell) = true
      · refine .inl ?_
        simp only [Bool.and_eq_true] at hc
        simpa using hc.1.1
      · rw [if_neg hc] at h
        simp only [List.lookup_cons, beq_self_eq_true, Option.some.injEq] at h
        subst h
        exact hkd.symm
    | false =>
      have h' : (r.map fun (n, k) => if (k == NameKind.free && env.scope.kind == .function && env.kindOf n == some .cell) then (n, NameKind.cell) else (n, k)).lookup x = some kd := by
        by_cases hc : (k == NameKind.free && env.scope.kind == .function && env.kindOf n == some .cell) = true
        · rw [if_pos hc] at h; simp only [List.lookup_cons, hx] at h; exact h
        · rw [if_neg hc] at h; simp only [List.lookup_cons, hx] at h; exact h
      obtain ⟨y, hy, q⟩ := ih h'
      exact ⟨y, List.mem_cons_of_mem _ hy, q⟩

noncomputable def cxC (X : Cx) (sc : Scope) (cl : List (Str × Addr)) (NC : List Str) (fp : List Addr) (s : Shared) (H : Hp) : Cx where
  prog := X.prog
  w := X.w
  K := X.K
  mg := X.mg
  base := X.base
  A := X.A
  N := NC
  s₀ := s
  H₀ := H
  env := compEnvC sc cl s.heap.objs.size X.env
  outer := X.stack
  stack := X.stack
  ex := fp
  fn := fun _ => false
  calm := X.calm
  pn := []
  xe := fun _ _ => False
noncomputable def OutOk (X : Cx) (sc : Scope) : List Str → List (Option Nat) → Prop
  | x :: xs, o :: os => (match o with | none => True | some j => X.N[j]? = some x ∧ sc.names.lookup x = some .free ∧ (X.env.scope.names.lookup x = some .cell ∨ X.env.scope.names.lookup x = some .free)) ∧ OutOk X sc xs os
  | _, _ => True
theorem OutOk.at {X : Cx} {sc : Scope} : ∀ {NC : List Str} {fr : List (Option Nat)}, OutOk X sc NC fr → ∀ (i : Nat) (x : Str) (j : Nat), NC[i]? = some x → fr[i]? = some (some j) →
    X.N[j]? = some x ∧ sc.names.lookup x = some .free ∧ (X.env.scope.names.lookup x = some .cell ∨ X.env.scope.names.lookup x = some .free)
  | [], _, _, i, x, j, h1, _ => by simp at h1
  | _ :: _, [], _, i, x, j, _, h2 => by simp at h2
  | y :: ys, o :: os, h, 0, x, j, h1, h2 => by
    simp only [List.getElem?_cons_zero, Option.some.injEq] at h1 h2
    subst h1 h2
    exact h.1
  | y :: ys, o :: os, h, i + 1, x, j, h1, h2 => OutOk.at h.2 i x j (by simpa using h1) (by simpa using h2)
structure Blk (X : Cx) (sc : Scope) (cl : List (Str × Addr)) (NC : List Str) (fr : List (Option Nat)) : Prop where
  kind : sc.kind = .function
  cls : clsOf X.env.cells sc.names [] = some cl
  nocell : ∀ y ∈ sc.names, y.2 ≠ .cell
  names : ∀ y ∈ sc.names, y.2 = .local → sc.names.lookup y.1 = some .local
  len : fr.length = NC.length
  out : OutOk X sc NC fr
noncomputable def stC (fr : List (Option Nat)) (σ : St) : St := fr.map fun o => o.bind fun j => (σ[j]?).join
theorem blk_start {X : Cx} {sc : Scope} {cl : List (Str × Addr)} {NC : List Str} {fr : List (Option Nat)} {pins : List (Addr × Obj)} {σ : St} {H : Hp} {s s4 : Shared} {fp : List Addr} (B : Blk X sc cl NC fr)
    (I : Inv X pins σ H s) (hf : ∀ b ∈ fp, FpOk X pins H b) (hlt : ∀ b ∈ fp, b < s.heap.objs.size) (hns : ∃ m, s4.heap.Ns s.heap.objs.size m) (hk : ∀ b o, s.heap.get? b = some o → s4.heap.get? b = some o) (hos : s4.os = s.os) (hg : s4.gens = s.gens) :
    Inv (cxC X sc cl NC fp s H) [] (stC fr σ) H s4 := by
  have sub := clsOf_sub sc.names [] cl B.cls (fun x c q => by simp at q)
  have has := (clsOf_has sc.names [] cl B.cls).2
  have nloc : ∀ x c, cl.lookup x = some c → c < s.heap.objs.size := fun x c e => by
    obtain ⟨v, o, q, _⟩ := I.cell x c (sub x c e)
    exact Heap.lt_size q
  refine ⟨⟨I.ok.mod, B.kind, I.ok.glob, I.ok.blt, Nat.le_refl _, fun x y c h1 h2 => I.ok.inj x y c (sub x c h1) (sub y c h2), fun x hx => ?_, fun x c hx _ => (nomatch hx), I.ok.hd, I.ok.frames, .inl rfl, fun b hb => ⟨?_, fun x c e => ?_⟩, I.bs, Nat.le_trans I.ok.bsz I.sz, fun b o e hb => ?_, fun b hb => ?_, I.stack, I.stkFree⟩,
    hos, by rw [hg]; exact I.bare, Un.kept hk, ?_, fun x c e => ?_, I.hok.fresh (Nat.le_refl _), fun x c e => I.freeC x c (sub x c e), fun p hp => absurd (show p ∈ ([] : List (Addr × Obj)) from hp) (by simp), I.hok.kept hk, ?_⟩
  · have h' : ∃ y ∈ sc.names, y.1 = x ∧ (y.2 = .free ∨ y.2 = .cell) := by
      rcases hx with q | q
      · exact relabel_back (.inl rfl) q
      · exact relabel_back (.inr rfl) q
    obtain ⟨y, hy, rfl, q⟩ := h'
    rcases q with q | q
    · exact has y hy q
    · exact absurd q (B.nocell y hy)
  · exact Nat.ne_of_lt (hlt b hb)
  · intro z
    obtain ⟨f0, f1, f2, f3, f4, f5⟩ := hf b hb
    exact f4 x c (sub x c e) z
  · obtain ⟨f0, f1, f2, f3, f4, f5⟩ := hf b hb
    rcases f3 with q | q
    · exact I.ok.noex b o e q
    · exact absurd (Nat.lt_of_lt_of_le (Heap.lt_size e) I.ok.bsz) (Nat.not_lt.mpr q)
  · intro z
    obtain ⟨f0, f1, f2, f3, f4, f5⟩ := hf b hb
    rcases List.mem_cons.mp (I.stkSub b z) with q | q
    · exact f1 q
    · exact f2 q
  · obtain ⟨m, hm⟩ := hns
    refine ⟨m, hm, fun i x v h1 h2 h3 => ?_⟩
    unfold stC at h2
    rw [List.getElem?_map] at h2
    cases e : fr[i]? with
    | none => rw [e] at h2; cases h2
    | some oj =>
      rw [e] at h2
      cases oj with
      | none => cases h2
      | some j =>
        have h2' : (σ[j]?).join = some v := Option.some.inj h2
        have h4 : σ[j]? = some (some v) := by
          cases q : σ[j]? with
          | none => rw [q] at h2'; cases h2'
          | some o => rw [q] at h2'; exact congrArg some h2'
        obtain ⟨n1, n2, n3⟩ := B.out.at i x j h1 e
        obtain ⟨m0, hm0, hl⟩ := I.loc
        obtain ⟨u, r, l⟩ := hl j x v n1 h4 (n3.elim (fun q => .inr (.inl q)) fun q => .inr (.inr q))
        refine ⟨u, r, .inr ⟨relabel_free n2, ?_⟩⟩
        rcases l with ⟨k1, _⟩ | ⟨_, c, c1, c2⟩
        · have k1' : X.env.scope.names.lookup x = some .local := k1
          rcases n3 with q | q <;> (rw [q] at k1'; cases k1')
        · obtain ⟨c', e'⟩ := has (x, .free) (PySem.mem_of_lookup n2) rfl
          have q := sub x c' e'
          rw [c1] at q; cases q
          obtain ⟨o, ho, hd⟩ := c2
          exact ⟨c, e', o, hk _ _ ho, hd⟩
  · obtain ⟨v, o, q, d⟩ := I.cell x c (sub x c e)
    exact ⟨v, o, hk _ _ q, d⟩
  · show (stC fr σ).length = NC.length
    unfold stC
    rw [List.length_map]; exact B.len

theorem comp_turns {prog : Program} {w : World} {A : Around} {R : Result → Shared → Prop} {s : Shared} {elt target iter : Expr} {ifs : List Expr} {scope : Scope} {pos : Pos} {it acc : Value} {env : Env} (J : Nat → Shared → Prop)
    (turn : ∀ n s, J n s → wpAny (model prog w) A (pyNext it) (fun r s1 => match r with
      | none => R (.ok .next) s1
      | some v => wpAny (model prog w) A (letOwnedTupleGo target it v) (fun _ s2 => wpAny (model prog w) A (assign target env v) (fun _ s3 =>
          wpAny (model prog w) A (compTests ifs env) (fun ok s4 => if ok = true then wpAny (model prog w) A (eval elt env) (fun x s5 =>
              wpAny (model prog w) A (call (.builtin "list.append") [acc, x]) (fun _ s6 => ∃ m, m < n ∧ J m s6) (fun _ _ => False) s5) (fun _ _ => False) s4
            else ∃ m, m < n ∧ J m s4) (fun _ _ => False) s3) (fun _ _ => False) s2) (fun _ _ => False) s1) (fun _ _ => False) s)
    (n : Nat) (h : J n s) : codeAny (model prog w) A (.compLoop (.ListComp elt [⟨target, iter, ifs, 0⟩] scope pos) 0 it acc env) R s := by
  refine codeAny_loop rfl J (fun n s hJ => ?_) n h
  show wpAny _ A ((compTurn (.ListComp elt [⟨target, iter, ifs, 0⟩] scope pos) 0 it acc env).onRaise (fun x => do noteFrame x env; theTreesLotGoes x)) _ _ s
  refine wpAny_noted ?_
  have wk : ∀ {α : Type} {t : Sem α} {Q Q' : α → Shared → Prop} {E : Value → Shared → Prop} {s : Shared}, wpAny (model prog w) A t Q (fun _ _ => False) s → (∀ a s, Q a s → Q' a s) → wpAny (model prog w) A t Q' E s := fun h q => wpAny_mono h q fun _ _ f => f.elim
  rw [compTurn_list]
  refine wpAny_bind (wpAny_standAt (wpAny_bind (wk (turn n s hJ) fun r s1 h1 => ?_)))
  cases r with
  | none => exact wpAny_pure h1
  | some v =>
    refine wpAny_bind (wk h1 fun _ s2 h2 => wpAny_bind (wk h2 fun _ s3 h3 => ?_))
    have h3' : wpAny (model prog w) A (forIn ifs true fun c r => if r = true then do let ok ← isTrue c env (eval c env); pure (ForInStep.yield ok) else pure (ForInStep.yield r)) (fun ok s4 => if ok = true then wpAny (model prog w) A (eval elt env) (fun x s5 =>
              wpAny (model prog w) A (call (.builtin "list.append") [acc, x]) (fun _ s6 => ∃ m, m < n ∧ J m s6) (fun _ _ => False) s5) (fun _ _ => False) s4
            else ∃ m, m < n ∧ J m s4) (fun _ _ => False) s3 := by
      have e : compTests ifs env = (forIn ifs true fun c r => if r = true then do let ok ← isTrue c env (eval c env); pure (ForInStep.yield ok) else pure (ForInStep.yield r)) >>= pure := by rfl
      rw [e, bind_pure] at h3
      exact h3
    refine wpAny_bind (wk h3' fun ok s4 h4 => ?_)
    cases ok with
    | false => exact wpAny_pure ⟨rfl, h4⟩
    | true => exact wpAny_bind (wpAny_bind (wk h4 fun x s5 h5 => wpAny_bind (wk h5 fun _ s6 h6 => wpAny_pure (wpAny_pure ⟨rfl, h6⟩))))

noncomputable def PF (X : Cx) (ifs : List Expr) (t : TT) : Prop :=
  ∀ (pins : List (Addr × Obj)) (s : Shared) (σ : St) (H : Hp) (Q : Bool → Hp → Prop), Inv X pins σ H s → t σ H Q → wpAny (model X.prog X.w) X.A (compTests ifs X.env) (TP X pins σ Q) X.xe s
noncomputable def tYes : TT := fun _ H Q => Q true H
theorem pf_nil {X : Cx} : PF X [] tYes := fun _ _ _ H _ I h => wpAny_pure ⟨H, I, h⟩
theorem pf_one {X : Cx} {c : Expr} {t : TT} (h : PT X c t) : PF X [c] t := fun pins s σ H Q I hw => by
  have e : compTests [c] X.env = (forIn [c] true fun c r => if r = true then do let ok ← isTrue c X.env (eval c X.env); pure (ForInStep.yield ok) else pure (ForInStep.yield r)) >>= pure := by rfl
  rw [e, bind_pure]
  exact wpAny_tests_one (h pins s σ H Q I hw)

noncomputable def tComp (K : PySem.W.Frag) (fr : List (Option Nat)) (wi : TI) (g : TG) (tt : TT) (te : TE) : TE := fun σ H Q => wi σ H fun J H1 => ∀ acc, H1 acc = none → K.lookup acc = none →
  ∃ W : Nat → Nat → St → Hp → Prop, (∃ m, W 0 m (stC fr σ) (upd H1 acc (.lst []))) ∧ ∀ i m σc H, W i m σc H →
    (J.stop i H ∧ Q (.ref acc) H) ∨ (J.go i H ∧ ∃ N : St → Hp → Prop, (∀ σ' H', N σ' H' → ∃ m', m' < m ∧ W (i + 1) m' σ' H') ∧ ∀ x H', J.yld i H x H' → g x σc H' fun σ2 H2 => tt σ2 H2 fun b H3 =>
      if b = true then te σ2 H3 fun v H4 => ∃ xs, H4 acc = some (.lst xs) ∧ xs.length < sizeLine ∧ N σ2 (upd H4 acc (.lst (xs ++ [v]))) else N σ2 H3)

section
variable {X : Cx} {sc : Scope} {cl : List (Str × Addr)} {NC : List Str} {fr : List (Option Nat)} {elt target iter : Expr} {ifs : List Expr} {pos : Pos} {wi : TI} {g : TG} {tt : TT} {te : TE}
theorem comp_core {pins : List (Addr × Obj)} {s : Shared} {σ : St} {H : Hp} {Q : VK} {RR : Value → Addr → Result → Shared → Prop} (B : Blk X sc cl NC fr) (hc : X.calm = true) (hi : PI X target iter wi)
    (hg : ∀ fp s H, PG (cxC X sc cl NC fp s H) target g) (ht : ∀ fp s H, PF (cxC X sc cl NC fp s H) ifs tt) (he : ∀ fp s H, PE (cxC X sc cl NC fp s H) elt te)
    (I : Inv X pins σ H s) (h : tComp X.K fr wi g tt te σ H Q)
    (hRR : ∀ acc C s' H', Q (.ref acc) H' → (∃ m, s'.heap.Ns C m) → Inv X pins σ H' s' → FpOk X pins H' C → RR (.ref acc) C (.ok .next) s') :
    wpAny (model X.prog X.w) X.A (eval iter X.env) (fun x s1 => wpAny (model X.prog X.w) X.A (pyIter x) (fun it s2 => wpAny (model X.prog X.w) X.A (newList []) (fun acc s3 =>
      wpAny (model X.prog X.w) X.A (newFunctionEnv sc X.env.globals cl [] X.env.qual none .none (some X.env)) (fun cenv s4 =>
        codeAny (model X.prog X.w) X.A (.compStart (.ListComp elt [⟨target, iter, ifs, 0⟩] sc pos) 0 it acc { cenv with scope := relabel sc X.env }) (RR acc cenv.locals) s4) X.xe s3) X.xe s2) X.xe s1) X.xe s := by
  refine thn (hi pins s σ H _ I h) fun v s1 h1 => thn h1 fun itv s2 h2 => ?_
  obtain ⟨it, fp, tn, J, H2, e, I2, T, st2, f2, K⟩ := h2
  subst e
  have nk : X.K.lookup s2.heap.objs.size = none := by
    cases q : X.K.lookup s2.heap.objs.size with
    | none => rfl
    | some o => exact absurd (Heap.lt_size (I2.kIn _ o q)) (Nat.lt_irrefl _)
  obtain ⟨W, ⟨m0, w0⟩, turn⟩ := K s2.heap.objs.size (I2.hok.fresh (Nat.le_refl _)) nk
  have I3 : Inv X pins σ (upd H2 s2.heap.objs.size (.lst [])) { s2 with heap := s2.heap.push { cls := .type "list", dict := none, data := .seq ([] : List Value).toArray } } :=
    I2.laid (t' := s2.toks) (fun b u e => Heap.get?_push_of_some _ e) (Nat.le_refl _) ⟨Nat.zero_le _, [], 0, .nil, Heap.get?_push_size _ rfl⟩
  have lt2 : ∀ b ∈ fp, b < s2.heap.objs.size := fun b hb => by
    obtain ⟨o, e, _⟩ := T.obj _ _ st2 b hb
    exact Heap.lt_size e
  have f3 : ∀ b ∈ fp, FpOk X pins (upd H2 s2.heap.objs.size (.lst [])) b := fun b hb => ⟨by rw [upd_ne (Nat.ne_of_lt (lt2 b hb))]; exact (f2 b hb).1, (f2 b hb).2⟩
  refine wpAny_newObj_type (wpAny_newFunctionEnv B.nocell (by intro y hy; simp at hy) (fun h4 hns4 hsb4 => ?_) B.kind)
  dsimp only at hns4 hsb4 ⊢
  generalize hs3 : ({ s2 with heap := s2.heap.push { cls := .type "list", dict := none, data := .seq ([] : List Value).toArray } } : Shared) = s3 at I3 ⊢
  have hh3 : s3.heap = s2.heap.push { cls := .type "list", dict := none, data := .seq ([] : List Value).toArray } := by rw [← hs3]
  have z3 : s3.heap.objs.size = s2.heap.objs.size + 1 := by rw [hh3, Heap.size_push]
  rw [← hh3] at hns4 hsb4 ⊢
  have k4 : ∀ b o, s3.heap.get? b = some o → h4.get? b = some o := fun b o e => hsb4.extBut b o (Nat.ne_of_lt (Heap.lt_size e)) (Heap.get?_push_of_some _ e)
  have lt3 : ∀ b ∈ fp, b < s3.heap.objs.size := fun b hb => by rw [z3]; exact Nat.lt_succ_of_lt (lt2 b hb)
  have start : ∀ s4 : Shared, s4 = { s2 with heap := h4, toks := s2.toks + ([] : List (Str × Value)).length } → codeAny (model X.prog X.w) X.A (.compLoop (.ListComp elt [⟨target, iter, ifs, 0⟩] sc pos) 0 (.ref it) (.ref s2.heap.objs.size) (compEnvC sc cl s3.heap.objs.size X.env)) (RR (.ref s2.heap.objs.size) s3.heap.objs.size) s4 := by
    rintro s4 rfl
    have I4 : Inv (cxC X sc cl NC fp s3 (upd H2 s2.heap.objs.size (.lst []))) [] (stC fr σ) (upd H2 s2.heap.objs.size (.lst [])) { s2 with heap := h4, toks := s2.toks + ([] : List (Str × Value)).length } :=
      blk_start B I3 f3 lt3 ⟨_, hns4⟩ k4 (by rw [← hs3]) (by rw [← hs3])
    have st4 : tn 0 h4 := T.keep _ _ _ st2 fun b hb o e => k4 b o (by rw [hh3]; exact Heap.get?_push_of_some _ e)
    have stat : ∀ {H' : Hp}, (∀ b ∈ fp, H' b = none) → ∀ b ∈ fp, FpOk (cxC X sc cl NC fp s3 (upd H2 s2.heap.objs.size (.lst []))) [] H' b := fun hn b hb =>
      ⟨hn b hb, (I4.ok.exf b hb).1, I4.ok.exfs b hb, .inl hb, (I4.ok.exf b hb).2, fun p hp => absurd (show p ∈ ([] : List (Addr × Obj)) from hp) (by simp)⟩
    refine comp_turns (fun n s' => ∃ i σ' H', Inv (cxC X sc cl NC fp s3 (upd H2 s2.heap.objs.size (.lst []))) [] σ' H' s' ∧ tn i s'.heap ∧ (∀ b ∈ fp, H' b = none) ∧ W i n σ' H') ?_ m0 ⟨0, _, _, I4, st4, fun b hb => (f3 b hb).1, w0⟩
    rintro n s5 ⟨i, σ5, H5, I5, st5, fr5, w5⟩
    rcases turn i n σ5 H5 w5 with ⟨stop, qn⟩ | ⟨go, N, hN, step⟩
    · refine thn (T.done (cxC X sc cl NC fp s3 (upd H2 s2.heap.objs.size (.lst []))) rfl rfl rfl hc i [] s5 σ5 H5 _ I5 (stat fr5) st5 stop) fun r s6 ⟨hr, I6⟩ => ?_
      subst hr
      have hC : H5 s3.heap.objs.size = none := I6.free
      refine hRR _ _ s6 H5 qn (let ⟨m, hm, _⟩ := I6.loc; ⟨m, hm⟩) ?_ (I3.fpOk (Nat.le_refl _) hC)
      have un : Un (frs X.stack) fp (upd H2 s2.heap.objs.size (.lst [])) H5 s3.heap s6.heap := I6.base
      have eo : s6.os = s3.os := I6.os
      have hb6 := I6.bare
      have hk6 : HOk X.prog X.w H5 s6.heap := I6.hok
      obtain ⟨hh6, g6, d6, t6, os6⟩ := s6
      dsimp only at eo
      subst eo
      exact I3.call (h' := hh6) (g' := g6) (d' := d6) (t' := t6) (ch := fp) un hk6 hb6 fun b hb => ⟨(f3 b hb).2.2.2.1, (f3 b hb).2.1, (f3 b hb).2.2.2.2.1, (f3 b hb).2.2.2.2.2⟩
    · refine thn (T.item (cxC X sc cl NC fp s3 (upd H2 s2.heap.objs.size (.lst []))) rfl rfl rfl hc i [] s5 σ5 H5 _ I5 (stat fr5) st5 go) fun r s6 ⟨u, hr, h6⟩ => ?_
      subst hr
      refine thn h6 fun _ s7 ⟨x, H7, I7, r7, y7, st7, fr7⟩ => ?_
      have I7' := I7.pinned (stat fr7) (T.obj _ _ st7)
      refine thn (hg fp s3 _ _ s7 σ5 H7 x u _ I7' r7 (step x H7 y7)) fun _ s8 ⟨σ8, H8, I8, q8⟩ => ?_
      refine thn (ht fp s3 _ _ s8 σ8 H8 _ I8 q8) fun b s9 ⟨H9, I9, q9⟩ => ?_
      have again : ∀ {s10 : Shared} {σ7 : St} {H10 : Hp}, Inv (cxC X sc cl NC fp s3 (upd H2 s2.heap.objs.size (.lst []))) ([] ++ pinsAt fp s7.heap) σ7 H10 s10 → N σ7 H10 →
          ∃ m, m < n ∧ ∃ i σ' H', Inv (cxC X sc cl NC fp s3 (upd H2 s2.heap.objs.size (.lst []))) [] σ' H' s10 ∧ tn i s10.heap ∧ (∀ b ∈ fp, H' b = none) ∧ W i m σ' H' := fun {s10 σ7 H10} I10 n7 => by
        obtain ⟨m', hm, w7⟩ := hN σ7 H10 n7
        refine ⟨m', hm, i + 1, σ7, H10, I10.unpinned, T.keep _ _ _ st7 fun b hb o e => (I10.pin (b, o) (List.mem_append_right _ (List.mem_append_right _ (mem_pinsAt hb e)))).1, fun b hb => ?_, w7⟩
        obtain ⟨o, e, d⟩ := T.obj _ _ st7 b hb
        exact (I10.pin (b, o) (List.mem_append_right _ (List.mem_append_right _ (mem_pinsAt hb e)))).2.1
      cases b with
      | false => exact again I9 q9
      | true =>
        refine thn (he fp s3 _ _ s9 σ8 H9 _ I9 q9) fun y s10 ⟨v, H10, I10, r10, xs, q1, q2, q3⟩ => ?_
        refine thn (mt_append (X := cxC X sc cl NC fp s3 (upd H2 s2.heap.objs.size (.lst []))) _ s10 σ8 H10 (.ref s2.heap.objs.size) [v] (.ref s2.heap.objs.size) [y] (fun z H' => N σ8 H') I10 rfl (.cons r10 .nil) ⟨_, xs, v, rfl, rfl, q1, q2, q3⟩) fun z s11 ⟨_, H11, I11, _, q11⟩ => ?_
        exact again I11 q11
  exact codeAny_compStart_list (start _ rfl) (T.self _ _ _ _ _ (T.keep _ _ _ st2 fun b hb o e => k4 b o (by rw [hh3]; exact Heap.get?_push_of_some _ e)) (start _ rfl))
theorem pe_comp (B : Blk X sc cl NC fr) (hc : X.calm = true) (hi : PI X target iter wi) (hg : ∀ fp s H, PG (cxC X sc cl NC fp s H) target g) (ht : ∀ fp s H, PF (cxC X sc cl NC fp s H) ifs tt) (he : ∀ fp s H, PE (cxC X sc cl NC fp s H) elt te)
    (hs : ∀ x, foldedSetIterable iter X.env x = pure x := by intro _; rfl) : PE X (.ListComp elt [⟨target, iter, ifs, 0⟩] sc pos) (tComp X.K fr wi g tt te) := by
  intro pins s σ H Q I h
  rw [eval_ListComp]
  refine wpAny_comprehension_free (use := none) rfl hs (closure_of B.cls) B.kind B.names ?_
  refine comp_core (RR := fun acc C => compPost (model X.prog X.w) X.A X.xe none (EP X pins σ Q) acc C) B hc hi hg ht he I h ?_
  rintro acc C s' H' q ⟨m, hn⟩ I' ⟨f0, f1, f2, f3, f4, f5⟩
  exact ⟨m, hn, fun h' sb => ⟨.ref acc, H', I'.turned (t' := s'.toks) (fun b o hb e => sb.extBut b o hb e) f0 f1 f3 f4 f5, rfl, q⟩⟩
end
end L2

set_option maxRecDepth 100000
namespace L2
open PySem PySem.Spec PyProof.Rows

theorem Same.upd {H : Hp} {p : Addr} {o : HO} (h : H p = none) : Same H (upd H p o) := fun b u e => by rw [upd_ne (ne_of_none e h)]; exact e
theorem Same.tupS {K : PySem.W.Frag} {H H' : Hp} {a : Addr} {xs : List V} (e : Same H H') (h : SqT K H a xs) : SqT K H' a xs := by
  rcases h with (h | ⟨o, h⟩) | h
  · exact .inl (.inl (e _ _ h))
  · exact .inl (.inr ⟨o, e _ _ h⟩)
  · exact .inr h

theorem tup_whole {prog : Program} {w : World} {A : Around} {E : Value → Shared → Prop} {s : Shared} {t sl : Addr} {items : Array Value} {vl vu : Value} {lo hi : Option Int} {Q : Value → Shared → Prop} (ht : IsTup s.heap t items) (hs : s.heap.IsSliceOf sl vl vu .none) (pl : IsPart vl lo) (pu : IsPart vu hi)
    (hw : HT.sIx items.size 0 lo = 0 ∧ HT.sIx items.size items.size hi = items.size) (h : Q (.ref t) s) : wpAny (model prog w) A (getItem (.ref t) (.ref sl)) Q E s := by
  obtain ⟨os, hos, hcs, hds⟩ := id hs
  have hTs : s.TypeIs (.ref sl) "slice" := ⟨os, hos, hcs⟩
  unfold getItem
  try with_reducible refine wpAny_holding ?_
  first | refine wpAny_bind (wpAny_pure ?_) | skip
  refine wpAny_bind (wpAny_sequenceKey ht.typeIs (by decide) ?_)
  refine wpAny_bind (wpAny_callSpecial?_slot (name := Str.ofString "__getitem__") ht.typeIs PyProof.Rows.slot_tuple_getitem (wpAny_call_entry PyProof.Rows.slot_tuple_getitem ht.typeIs entry_tuple_getitem ?_ (args_tuple_getitem _ _)))
  show wpAny _ _ (Builtin.Tuple.tupleItemsOf (.ref t) >>= _) _ _ s
  refine wpAny_bind (tupleItemsOf_ ht ?_)
  refine wpAny_bind (wpAny_typeOf hTs ?_)
  rw [if_pos (by decide)]
  refine wpAny_bind (HT.sliceApplied_gen hs pl pu ?_)
  show wpAny _ _ (if (((HT.sIx items.size 0 lo : Nat) : Int) == 0 && (1 : Int) == 1 && (HT.sIx items.size items.size hi - HT.sIx items.size 0 lo) == items.size) = true then _ else _) _ _ s
  rw [if_pos (by rw [hw.1, hw.2]; simp)]
  refine wpAny_bind ?_
  unfold Builtin.Tuple.tupleIsExact
  refine wpAny_bind (wpAny_typeOf ht.typeIs (wpAny_pure ?_))
  rw [if_pos (by decide)]
  exact wpAny_bind (wpAny_rule (wpAny_pure ⟨_, rfl, wpAny_pure h⟩))
theorem cutV_whole {xs : List V} {lo hi : Option Int} (hw : HT.sIx xs.length 0 lo = 0 ∧ HT.sIx xs.length xs.length hi = xs.length) : cutV xs lo hi = xs := by
  unfold cutV
  rw [hw.1, hw.2]; simp
noncomputable def rSlG (K : PySem.W.Frag) : V → Option Int → Option Int → Hp → VK → Prop := fun x lo hi H Q => ∃ a xs, x = .ref a ∧ SqT K H a xs ∧ ∀ p H', (p = a ∨ H p = none) → Same H H' → SqT K H' p (cutV xs lo hi) → Q (.ref p) H'
section
variable {X : Cx}
theorem sl_tupG : SlR X (rSlG X.K) := by
  intro pins s σ H x v vl vu lo hi sl Q I rx hs pl pu h
  obtain ⟨a, xs, rfl, hx, q⟩ := h
  by_cases hw : HT.sIx xs.length 0 lo = 0 ∧ HT.sIx xs.length xs.length hi = xs.length
  · cases rx
    obtain ⟨its, r, ht, hz⟩ := I.tuple hx
    have hlen : its.toArray.size = xs.length := by rw [List.size_toArray]; exact r.length.symm
    refine ⟨"tuple", _, PyProof.Rows.slot_tuple_getitem.lookup, ht.typeIs, ?_⟩
    refine tup_whole ht hs pl pu (by rw [hlen]; exact hw) ⟨.ref a, H, I, rfl, q a H (.inl rfl) (Same.refl H) ?_⟩
    rw [cutV_whole hw]; exact hx
  · exact sl_tup pins s σ H _ v vl vu lo hi sl Q I rx hs pl pu ⟨a, xs, rfl, hx, hw, fun p hp => q p _ (.inr hp) (Same.upd hp) (SqT.of upd_same)⟩

noncomputable def rCatG (K : PySem.W.Frag) : R2 := fun x y H Q => ∃ a b xs ys, x = .ref a ∧ y = .ref b ∧ SqT K H a xs ∧ SqT K H b ys ∧ xs.length + ys.length ≤ sizeLine ∧ ∀ p H', (p = a ∨ p = b ∨ H p = none) → Same H H' → SqT K H' p (xs ++ ys) → Q (.ref p) H'
theorem op_catG : OpR X (binaryOp .Add) (rCatG X.K) := by
  intro pins s σ H x y v u Q I rx ry h
  obtain ⟨a, b, xs, ys, rfl, rfl, ha, hb, hz, q⟩ := h
  by_cases hx : xs = []
  · subst hx
    cases rx
    cases ry
    obtain ⟨its, r1, p1, _⟩ := I.tuple ha
    obtain ⟨its2, r2, p2, _⟩ := I.tuple hb
    have e1 := r1.nil_iff.mpr rfl
    subst e1
    obtain ⟨⟨cls, dd, data, sl⟩, ho, hc, n, hd⟩ := id p1
    obtain ⟨⟨cls2, dd2, data2, sl2⟩, ho2, hc2, n2, hd2⟩ := id p2
    simp only at hc hd hc2 hd2
    subst hc hd hc2 hd2
    exact concat_meets ⟨_, ho, rfl⟩ ⟨_, ho2, rfl⟩ noFill_tuple_add seq_tuple_add PySem.F.slot_tuple_add PySem.F.entry_tuple_add (PySem.F.args_tuple_add_2 _ _)
      (tuple_addW0 a b _ _ n n2 dd dd2 sl sl2 (by simp)) ⟨ho, ho2, ⟨.ref b, H, I, rfl, q b H (.inr (.inl rfl)) (Same.refl H) hb⟩⟩
  · exact op_catT pins s σ H _ _ v u Q I rx ry ⟨a, b, xs, ys, rfl, rfl, ha, hb, hx, hz, fun e => q a H (.inl rfl) (Same.refl H) (by rw [e, List.append_nil]; exact ha), fun _ p hp => q p _ (.inr (.inr hp)) (Same.upd hp) (SqT.of upd_same)⟩

theorem all_range_map (bs : List Bool) (f : Nat → Bool) (hf : ∀ i b, bs[i]? = some b → f i = b) : (List.range bs.length).all f = bs.all id := by
  induction bs generalizing f with
  | nil => rfl
  | cons b bs ih =>
    rw [List.length_cons, List.range_succ_eq_map, List.all_cons, List.all_map, List.all_cons, hf 0 b rfl]
    have := ih (fun i => f (i + 1)) fun i b' h => hf (i + 1) b' (by simpa using h)
    rw [← this]; rfl
theorem call_all (hc : X.calm = true) : CallR X (.builtin "all") (fun xs H Q => ∃ (p : Addr) (bs : List Bool), xs = [.ref p] ∧ SqL X.K H p (bs.map V.bl) ∧ Q (.bl (bs.all id)) H) := by
  intro pins s σ H xs us Q I r h
  obtain ⟨p, bs, rfl, hq, q⟩ := h
  obtain ⟨u, rfl, ru⟩ := vals1 r
  cases ru
  obtain ⟨its, rv, pl, hz⟩ := I.list hq
  have hl := rv.length
  rw [List.length_map] at hl
  refine call_all_walk (wpAny_pyIter_list pl.isList ?_)
  have hne : p ≠ s.heap.objs.size := by
    obtain ⟨o, n, e, _⟩ := pl
    exact Nat.ne_of_lt (Heap.lt_size e)
  refine ⟨_, _, _, _, _, _, fun i => (bs[i]?).getD true, rfl, Walks.list (A := X.A.in1) (show X.A.in1.handled = none from I.ok.hd hc) s.heap.objs.size p hne its.toArray, ⟨⟨_, Heap.get?_push_size _ rfl, rfl, rfl⟩, pl.isList.push _⟩, fun i v s' Q' E' hP hQ => ?_, fun h' tk hk => ?_⟩
  · have hb : ∃ b, bs[i]? = some b ∧ v = .bool b := by
      have hi : i < its.length := by
        have := (Array.getElem?_eq_some_iff.mp hP).1
        simpa using this
      have e1 : (bs.map V.bl)[i]? = some (.bl bs[i]) := by simp
      obtain ⟨u, hu, ru⟩ := rv.get e1
      have : its.toArray[i]? = some u := by simpa using hu
      rw [hP] at this; cases this
      exact ⟨bs[i], by simp, ru⟩
    obtain ⟨b, hb, rfl⟩ := hb
    dsimp only at hQ
    rw [hb] at hQ
    exact wpAny_truthy_bool hQ
  · have e : (List.range its.toArray.size).all (fun i => (bs[i]?).getD true) = bs.all id := by
      rw [List.size_toArray, ← hl]
      exact all_range_map bs _ fun i b h => by rw [h]; rfl
    rw [e]
    refine ⟨.bl (bs.all id), H, ?_, rfl, q⟩
    refine Inv.spun (s := s) (t' := tk) (ch := [s.heap.objs.size]) I (fun b hb => ?_) fun b o hb e => hk b o hb (Heap.get?_push_of_some _ e)
    have eb : b = s.heap.objs.size := by simpa using hb
    subst eb
    exact I.fpOk (Nat.le_refl _) (I.hok.fresh (Nat.le_refl _))

noncomputable def subT (T n : String) : Option Bool := if (Value.type T == Value.type n) = true then some true else if PySem.W.kitMeta n = true then (PySem.fastBuiltinMro T).map (·.contains (.type n)) else none
inductive TyS (K : PySem.W.Frag) (H : Hp) : V → String → Prop
  | non : TyS K H .non "NoneType"
  | bl (b : Bool) : TyS K H (.bl b) "bool"
  | int (i : Int) : TyS K H (.int i) "int"
  | str (x : Str) : TyS K H (.str x) "str"
  | lst {a : Addr} {xs : List V} (h : SqL K H a xs) : TyS K H (.ref a) "list"
  | tup {a : Addr} {xs : List V} (h : SqT K H a xs) : TyS K H (.ref a) "tuple"
  | dk {a : Addr} {kvs : List (Key × V)} (h : H a = some (.dK kvs)) : TyS K H (.ref a) "dict"
theorem call_isi : CallR X (.builtin "isinstance") (fun xs H Q => ∃ x T n b, xs = [x, .ty n] ∧ TyS X.K H x T ∧ subT T n = some b ∧ Q (.bl b) H) := by
  intro pins s σ H xs us Q I r h
  obtain ⟨x, T, n, b, rfl, ty, hs, q⟩ := h
  obtain ⟨u, w, rfl, ru, rw_⟩ := vals2 r
  cases rw_
  have e : PySem.W.kitOne X.K (.type T) (.type n) = some b := hs
  have fin : ∀ tk, EP X pins σ Q (.bool b) { s with toks := tk } := fun tk => ⟨.bl b, H, I.tok tk, rfl, q⟩
  cases ty with
  | non => cases ru; exact PySem.W.kia_one PySem.W.kitx_none I.kIn True.intro e (fun z => nomatch z) fin
  | bl y => cases ru; exact PySem.W.kia_one PySem.W.kitx_bool I.kIn True.intro e (fun z => nomatch z) fin
  | int i => obtain ⟨t, rfl⟩ := ru; exact PySem.W.kia_one PySem.W.kitx_int I.kIn True.intro e (fun z => nomatch z) fin
  | str y => obtain ⟨t, rfl⟩ := ru; exact PySem.W.kia_one PySem.W.kitx_str I.kIn True.intro e (fun z => nomatch z) fin
  | lst hq =>
    cases ru
    obtain ⟨its, _, ⟨o, nn, e1, e2, _⟩, _⟩ := I.list hq
    exact PySem.W.kia_one PySem.W.kitx_list I.kIn ⟨o, e1, e2⟩ e (fun z => nomatch z) fin
  | tup hq =>
    cases ru
    obtain ⟨its, _, ⟨o, e1, e2, _⟩, _⟩ := I.tuple hq
    exact PySem.W.kia_one PySem.W.kitx_tuple I.kIn ⟨o, e1, e2⟩ e (fun z => nomatch z) fin
  | @dk a kvs hq =>
    cases ru
    obtain ⟨_, _, vs, _, o, es, ep, h1, h2, _⟩ := (show ObjOk X.prog X.w H s.heap a (.dK kvs) from I.hok a _ hq)
    exact PySem.W.kia_one PySem.W.kitx_dict I.kIn ⟨o, h1, h2.1⟩ e (fun z => nomatch z) fin
noncomputable def isB (T n : String) : Bool := T == n || (T == "bool" && n == "int")
theorem subT_tab : ∀ T ∈ ["NoneType", "bool", "int", "str", "list", "tuple", "dict"], ∀ n ∈ ["int", "bool", "str", "tuple", "list", "dict"], subT T n = some (isB T n) := by decide +kernel
end
end L2

set_option maxRecDepth 100000
namespace L2
open PySem PySem.Spec PyProof.Rows

noncomputable def Ext (N : List Addr) (H H' : Hp) : Prop := ∀ b o, H b = some o → b ∉ N → H' b = some o
theorem Ext.refl {N : List Addr} (H : Hp) : Ext N H H := fun _ _ h _ => h
theorem Ext.trans {N : List Addr} {H H1 H2 : Hp} (a : Ext N H H1) (b : Ext N H1 H2) : Ext N H H2 := fun c o h n => b c o (a c o h n) n
theorem Ext.same {N : List Addr} {H H' : Hp} (a : Same H H') : Ext N H H' := fun c o h _ => a c o h
theorem Ext.new {N : List Addr} {H : Hp} {p : Addr} {o : HO} (h : H p = none) : Ext N H (upd H p o) := Ext.same (Same.upd h)
theorem Ext.at {N : List Addr} {H : Hp} {p : Addr} {o : HO} (h : p ∈ N) : Ext N H (L2.upd H p o) := fun c u e n => by rw [upd_ne (show c ≠ p from fun z => n (by rw [z]; exact h))]; exact e
theorem Ext.tup {N : List Addr} {K : PySem.W.Frag} {H H' : Hp} {a : Addr} {xs : List V} (e : Ext N H H') (h : SqT K H a xs) (n : a ∉ N) : SqT K H' a xs := by
  rcases h with (h | ⟨o, h⟩) | h
  · exact .inl (.inl (e _ _ h n))
  · exact .inl (.inr ⟨o, e _ _ h n⟩)
  · exact .inr h
theorem Ext.lst {N : List Addr} {K : PySem.W.Frag} {H H' : Hp} {a : Addr} {xs : List V} (e : Ext N H H') (h : SqL K H a xs) (n : a ∉ N) : SqL K H' a xs := by
  rcases h with (h | ⟨o, h⟩) | h
  · exact .inl (.inl (e _ _ h n))
  · exact .inl (.inr ⟨o, e _ _ h n⟩)
  · exact .inr h
theorem Ext.free {N : List Addr} {H H' : Hp} (e : Ext N H H') {p : Addr} (h : H' p = none) (n : p ∉ N) : H p = none := by
  cases q : H p with
  | none => rfl
  | some o => rw [e p o q n] at h; cases h

noncomputable def kD : Key → PyData
  | .inl i => .int i
  | .inr x => .str x
mutual
inductive Dt (K : PySem.W.Frag) (N : List Addr) (H : Hp) : V → PyData → Prop
  | non : Dt K N H .non .none
  | bl (b : Bool) : Dt K N H (.bl b) (.bool b)
  | int (i : Int) : Dt K N H (.int i) (.int i)
  | str (x : Str) : Dt K N H (.str x) (.str x)
  | tup {a : Addr} {xs : List V} {ds : List PyData} (h : SqT K H a xs) (n : a ∉ N) (r : DtAll K N H xs ds) : Dt K N H (.ref a) (.tuple ds)
  | lst {a : Addr} {xs : List V} {ds : List PyData} (h : SqL K H a xs) (n : a ∉ N) (r : DtAll K N H xs ds) : Dt K N H (.ref a) (.list ds)
  | dk0 {a : Addr} (h : H a = some (.dK [])) (n : a ∉ N) : Dt K N H (.ref a) (.dict [])
  | dk1 {a : Addr} {k : Key} {v : V} {d : PyData} (h : H a = some (.dK [(k, v)])) (n : a ∉ N) (r : Dt K N H v d) : Dt K N H (.ref a) (.dict [(kD k, d)])
inductive DtAll (K : PySem.W.Frag) (N : List Addr) (H : Hp) : List V → List PyData → Prop
  | nil : DtAll K N H [] []
  | cons {v : V} {d : PyData} {vs : List V} {ds : List PyData} (h : Dt K N H v d) (r : DtAll K N H vs ds) : DtAll K N H (v :: vs) (d :: ds)
end
section
variable {K : PySem.W.Frag} {N : List Addr} {H H' : Hp}
mutual
theorem Dt.ext (e : Ext N H H') : ∀ {v : V} {d : PyData}, Dt K N H v d → Dt K N H' v d
  | _, _, .non => .non
  | _, _, .bl b => .bl b
  | _, _, .int i => .int i
  | _, _, .str x => .str x
  | _, _, .tup h n r => .tup (e.tup h n) n (DtAll.ext e r)
  | _, _, .lst h n r => .lst (e.lst h n) n (DtAll.ext e r)
  | _, _, .dk0 h n => .dk0 (e _ _ h n) n
  | _, _, .dk1 h n r => .dk1 (e _ _ h n) n (Dt.ext e r)
theorem DtAll.ext (e : Ext N H H') : ∀ {vs : List V} {ds : List PyData}, DtAll K N H vs ds → DtAll K N H' vs ds
  | _, _, .nil => .nil
  | _, _, .cons h r => .cons (Dt.ext e h) (DtAll.ext e r)
end
theorem DtAll.length : ∀ {vs : List V} {ds : List PyData}, DtAll K N H vs ds → vs.length = ds.length
  | _, _, .nil => rfl
  | _, _, .cons _ r => by rw [List.length_cons, List.length_cons, DtAll.length r]
theorem DtAll.get : ∀ {vs : List V} {ds : List PyData} {i : Nat} {v : V}, DtAll K N H vs ds → vs[i]? = some v → ∃ d, ds[i]? = some d ∧ Dt K N H v d
  | _, _, _, _, .nil, e => by simp at e
  | _, _, 0, _, .cons h _, e => by simp at e; subst e; exact ⟨_, rfl, h⟩
  | _, _, i + 1, v, .cons _ r, e => by
    obtain ⟨d, h1, h2⟩ := DtAll.get (i := i) (v := v) r (by simpa using e)
    exact ⟨d, by simpa using h1, h2⟩
theorem DtAll.getD : ∀ {vs : List V} {ds : List PyData} {i : Nat} {d : PyData}, DtAll K N H vs ds → ds[i]? = some d → ∃ v, vs[i]? = some v ∧ Dt K N H v d
  | _, _, _, _, .nil, e => by simp at e
  | _, _, 0, _, .cons h _, e => by simp at e; subst e; exact ⟨_, rfl, h⟩
  | _, _, i + 1, d, .cons _ r, e => by
    obtain ⟨v, h1, h2⟩ := DtAll.getD (i := i) (d := d) r (by simpa using e)
    exact ⟨v, by simpa using h1, h2⟩
theorem DtAll.append : ∀ {vs ws : List V} {ds es : List PyData}, DtAll K N H vs ds → DtAll K N H ws es → DtAll K N H (vs ++ ws) (ds ++ es)
  | _, _, _, _, .nil, s => s
  | _, _, _, _, .cons h r, s => .cons h (DtAll.append r s)
theorem DtAll.take : ∀ {vs : List V} {ds : List PyData} (n : Nat), DtAll K N H vs ds → DtAll K N H (vs.take n) (ds.take n)
  | _, _, 0, _ => .nil
  | _, _, _ + 1, .nil => .nil
  | _, _, n + 1, .cons h r => .cons h (DtAll.take n r)
theorem DtAll.drop : ∀ {vs : List V} {ds : List PyData} (n : Nat), DtAll K N H vs ds → DtAll K N H (vs.drop n) (ds.drop n)
  | _, _, 0, r => r
  | _, _, _ + 1, .nil => .nil
  | _, _, n + 1, .cons _ r => DtAll.drop n r
noncomputable def cutD (ds : List PyData) (lo hi : Option Int) : List PyData := (ds.drop (HT.sIx ds.length 0 lo)).take (HT.sIx ds.length ds.length hi - HT.sIx ds.length 0 lo)
theorem DtAll.cut {vs : List V} {ds : List PyData} (lo hi : Option Int) (r : DtAll K N H vs ds) : DtAll K N H (cutV vs lo hi) (cutD ds lo hi) := by
  unfold cutV cutD
  rw [r.length]
  exact (r.drop _).take _
theorem Dt.ty {v : V} {d : PyData} (h : Dt K N H v d) : TyS K H v (match d with | .none => "NoneType" | .bool _ => "bool" | .int _ => "int" | .str _ => "str" | .list _ => "list" | .tuple _ => "tuple" | .dict _ => "dict") := by
  cases h with
  | non => exact .non
  | bl b => exact .bl b
  | int i => exact .int i
  | str x => exact .str x
  | tup h n r => exact .tup h
  | lst h n r => exact .lst h
  | dk0 h n => exact .dk h
  | dk1 h n r => exact .dk h
end
section
variable {X : Cx} {pins : List (Addr × Obj)} {σ : St} {H : Hp} {s : Shared} {N : List Addr}
mutual
theorem Dt.reads (I : Inv X pins σ H s) : ∀ {v : V} {d : PyData} {u : Value}, Dt X.K N H v d → RelV v u → ∃ as, Reads s.heap u d as ∧ (sysModules ∈ N ∨ d = .dict [] → sysModules ∉ as)
  | _, _, _, .non, r => by cases r; exact ⟨_, .none, fun _ => by simp⟩
  | _, _, _, .bl b, r => by cases r; exact ⟨_, .bool b, fun _ => by simp⟩
  | _, _, _, .int i, r => by obtain ⟨t, rfl⟩ := r; exact ⟨_, .int i t, fun _ => by simp⟩
  | _, _, _, .str x, r => by obtain ⟨t, rfl⟩ := r; exact ⟨_, .str x t, fun _ => by simp⟩
  | _, _, _, .tup h n q, r => by
    cases r
    obtain ⟨its, rv, ⟨o, e1, e2, m, e3⟩, _⟩ := I.tuple h
    obtain ⟨as, ra, sm⟩ := DtAll.reads I q rv
    refine ⟨as, .tuple e1 e2 e3 (by simpa using ra), fun z => ?_⟩
    rcases z with z | z
    · exact sm z
    · cases z
  | _, _, _, .lst h n q, r => by
    cases r
    obtain ⟨its, rv, ⟨o, m, e1, e2, e3, e4⟩, _⟩ := I.list h
    obtain ⟨as, ra, sm⟩ := DtAll.reads I q rv
    refine ⟨_, .list e1 e2 e4 (by simpa using ra), fun z => ?_⟩
    rcases z with z | z
    · intro y
      rcases List.mem_cons.mp y with y | y
      · exact n (y ▸ z)
      · exact sm z y
    · cases z
  | _, _, _, .dk0 (a := a) h n, r => by
    cases r
    obtain ⟨_, hsm, vs, kv, o, es, ep, e1, e2, e3, e4, e5, e6⟩ := (show ObjOk X.prog X.w H s.heap a (.dK []) from I.hok a _ h)
    have ev : vs = [] := by cases kv; rfl
    subst ev
    have ee : es.toList = [] := by
      cases q : es.toList with
      | nil => rfl
      | cons x r => rw [q] at e5; cases e5
    refine ⟨[a], ?_, fun _ => ?_⟩
    · have := Reads.dict (h := s.heap) (a := a) (o := o) (es := es) (n := ep) (kvs := []) (as := []) (bs := []) e1 e2.1 e3 (by rw [ee]; exact .nil) (by rw [ee]; exact .nil)
      simpa using this
    · intro z
      have z' : sysModules = a := by simpa using z
      rw [z'] at hsm
      simp at hsm
  | _, _, _, .dk1 (a := a) (k := k) (v := v) (d := d) h n q, r => by
    cases r
    obtain ⟨_, hsm, vs, kv, o, es, ep, e1, e2, e3, e4, e5, e6⟩ := (show ObjOk X.prog X.w H s.heap a (.dK [(k, v)]) from I.hok a _ h)
    obtain ⟨u, rfl, ru⟩ : ∃ u, vs = [(k, u)] ∧ RelV v u := by
      cases kv with
      | @cons p q ps qs h1 h2 =>
        cases h2
        obtain ⟨q1, q2⟩ := q
        obtain ⟨h3, h4⟩ := h1
        dsimp only at h3 h4
        subst h3
        exact ⟨q2, rfl, h4⟩
    obtain ⟨en, ee, ek, ev⟩ : ∃ en, es.toList = [en] ∧ keyIs k en.key = true ∧ en.val = u := by
      generalize es.toList = el at e5
      cases e5 with
      | cons h1 h2 h3 => cases h3; exact ⟨_, rfl, h1, h2⟩
    obtain ⟨as, ra, sm⟩ := Dt.reads I q ru
    obtain ⟨ks, rk, hk⟩ : ∃ ks, Reads s.heap en.key (kD k) ks ∧ ks = [] := by
      rcases keyIs_shape ek with ⟨i, t, rfl, e⟩ | ⟨x, t, rfl, e⟩
      · exact ⟨[], by rw [e]; exact .int i t, rfl⟩
      · exact ⟨[], by rw [e]; exact .str x t, rfl⟩
    subst hk
    have rv : Reads s.heap en.val d as := by rw [ev]; exact ra
    refine ⟨_, Reads.dict (h := s.heap) (a := a) (o := o) (es := es) (n := ep) (kvs := [(kD k, d)]) e1 e2.1 e3 (by rw [ee]; exact .cons rk .nil) (by rw [ee]; exact .cons rv .nil), fun z => ?_⟩
    rcases z with z | z
    · intro y
      simp only [List.append_nil, List.nil_append, List.cons_append] at y
      rcases List.mem_cons.mp y with y | y
      · rw [← y] at hsm; simp at hsm
      · exact sm (.inl z) y
    · cases z
theorem DtAll.reads (I : Inv X pins σ H s) : ∀ {vs : List V} {ds : List PyData} {us : List Value}, DtAll X.K N H vs ds → Vals vs us → ∃ as, ReadsAll s.heap us ds as ∧ (sysModules ∈ N → sysModules ∉ as)
  | _, _, _, .nil, .nil => ⟨_, .nil, fun _ => by simp⟩
  | _, _, _, .cons h q, .cons r t => by
    obtain ⟨as, ra, sa⟩ := Dt.reads I h r
    obtain ⟨bs, rb, sb⟩ := DtAll.reads I q t
    refine ⟨_, .cons ra rb, fun z y => ?_⟩
    rcases List.mem_append.mp y with y | y
    · exact sa (.inl z) y
    · exact sb z y
end
end

structure Shw (d : PyData) : Prop where
  sh : d.showable = true
  dp : d.depth ≤ 30
  ln : d.shown.length ≤ sizeLine
  nd : d.hasDict = false ∨ d = .dict []
section
variable {X : Cx} {N : List Addr}
theorem op_eqD {k : Nat} (hr : Room k X.A) : OpR X (compareOp .Eq) (fun x y H Q => ∃ d e, Dt X.K N H x d ∧ Dt X.K N H y e ∧ SeqAt.shaped d = true ∧ SeqAt.shaped e = true ∧ Q (.bl (PyData.eqv d e)) H) := by
  intro pins s σ H x y v u Q I rx ry h
  obtain ⟨d, e, hd, he, sd, se, q⟩ := h
  obtain ⟨as, ra, _⟩ := hd.reads I rx
  obtain ⟨bs, rb, _⟩ := he.reads I ry
  exact SeqAt.compareEq_shaped ra rb sd se hr.units ⟨.bl _, H, I, rfl, q⟩
theorem op_neD {k : Nat} (hr : Room k X.A) : OpR X (compareOp .NotEq) (fun x y H Q => ∃ d e, Dt X.K N H x d ∧ Dt X.K N H y e ∧ SeqAt.shaped d = true ∧ SeqAt.shaped e = true ∧ Q (.bl (!PyData.eqv d e)) H) := by
  intro pins s σ H x y v u Q I rx ry h
  obtain ⟨d, e, hd, he, sd, se, q⟩ := h
  obtain ⟨as, ra, _⟩ := hd.reads I rx
  obtain ⟨bs, rb, _⟩ := he.reads I ry
  exact SeqAt.compareNe_shaped ra rb sd se hr.units ⟨.bl _, H, I, rfl, q⟩
end
end L2

namespace L2
open PySem PySem.Spec PyProof.Rows
section
variable {D : Ends} {σ : St} {H : Hp} {t u : TS} {te ta tb tc : TE} {c tA tB' : TT} {g : TG} {gs : TGs} {Q : VK} {K : PySem.W.Frag} {i : Nat} {v : V} {vs : List V}
theorem rd_seq (h : t { D with nx := u D } σ H) : tSeq t u D σ H := h
theorem rd_if (h : c σ H fun b H1 => if b = true then t D σ H1 else u D σ H1) : tIfS c t u D σ H := h
theorem rd_asg (h : te σ H fun x H1 => g x σ H1 D.nx) : tAsg te g D σ H := h
theorem rd_drop (h : te σ H fun _ H1 => D.nx σ H1) : tDrop te D σ H := h
theorem rd_ret (h : te σ H D.rt) : tRet te D σ H := h
theorem rd_next (h : D.nx σ H) : tNext D σ H := h
theorem rd_op {r : R2} (h : ta σ H fun x H1 => tb σ H1 fun y H2 => r x y H2 Q) : tOp r ta tb σ H Q := h
theorem rd_un {r : V → Hp → VK → Prop} (h : ta σ H fun x H1 => r x H1 Q) : tUn r ta σ H Q := h
theorem rd_var (e : σ[i]? = some (some v)) (h : Q v H) : tVar i σ H Q := ⟨v, e, h⟩
theorem rd_c (h : Q v H) : tC v σ H Q := h
theorem rd_I0 {f : Int → Int → V} {i j : Int} (h : Q (f i j) H) : rI0 f (.int i) (.int j) H Q := ⟨i, j, rfl, rfl, h⟩
theorem rd_I {C : Int → Int → Prop} {f : Int → Int → V} {i j : Int} (hc : C i j) (h : Q (f i j) H) : rI C f (.int i) (.int j) H Q := ⟨i, j, rfl, rfl, hc, h⟩
theorem rd_U {f : Int → V} {i : Int} (h : Q (f i) H) : rU f (.int i) H Q := ⟨i, rfl, h⟩
theorem rd_test {Q : Bool → Hp → Prop} (h : te σ H fun x H' => ∃ k, x = .bl k ∧ Q k H') : tTest te σ H Q := h
theorem rd_tB {Q : Bool → Hp → Prop} (h : te σ H fun x H' => ∃ k, x = .bl k ∧ Q k H') : tB te σ H Q := h
theorem rd_bl' {P : Bool → Prop} {k : Bool} (h : P k) : ∃ k', V.bl k = .bl k' ∧ P k' := ⟨k, rfl, h⟩
theorem rd_eq {x y : V} (hs : scal x y = true) (h : Q (.bl (decide (x = y))) H) : rEq x y H Q := ⟨hs, h⟩
theorem rd_ne {x y : V} (hs : scal x y = true) (h : Q (.bl (!decide (x = y))) H) : rNe x y H Q := ⟨hs, h⟩
theorem rd_ixL {p : Addr} {xs : List V} {i : Int} (hq : SqL K H p xs) (ha : atI xs i = some v) (h : Q v H) : rIxL K (.ref p) (.int i) H Q := ⟨p, xs, i, v, rfl, rfl, hq, ha, h⟩
theorem rd_ixT {p : Addr} {xs : List V} {i : Int} (hq : SqT K H p xs) (ha : atI xs i = some v) (h : Q v H) : rIxT K (.ref p) (.int i) H Q := ⟨p, xs, i, v, rfl, rfl, hq, ha, h⟩
theorem rd_name {Q : St → Hp → Prop} (h : Q (σ.set i (some v)) H) : gName i v σ H Q := h
theorem rd_sub {to ti : TE} {s : TSet} {Q : St → Hp → Prop} (h : to σ H fun o H1 => ti σ H1 fun i H2 => s o i v H2 fun H3 => Q σ H3) : gSub to ti s v σ H Q := h
theorem rd_setL {p : Addr} {xs : List V} {k : Int} {j : Nat} {Q : Hp → Prop} (hp : H p = some (.lst xs)) (hi : ixN xs.length k = some j) (h : Q (upd H p (.lst (xs.set j v)))) : rSetL (.ref p) (.int k) v H Q := ⟨p, xs, k, j, rfl, rfl, hp, hi, h⟩
theorem rd_CB {r : List V → Hp → VK → Prop} {ta : TA} (h : ta σ H fun vs H1 => r vs H1 Q) : tCB r ta σ H Q := h
theorem rd_nil {Q : List V → Hp → Prop} (h : Q [] H) : tNil σ H Q := h
theorem rd_cons {tr : TA} {Q : List V → Hp → Prop} (h : ta σ H fun x H1 => tr σ H1 fun xs H2 => Q (x :: xs) H2) : tCons ta tr σ H Q := h
theorem rd_and {Q : Bool → Hp → Prop} (h : tA σ H fun c H1 => if c = true then tB' σ H1 Q else Q false H1) : tAnd tA tB' σ H Q := h
theorem rd_or {Q : Bool → Hp → Prop} (h : tA σ H fun c H1 => if c = true then Q true H1 else tB' σ H1 Q) : tOr tA tB' σ H Q := h
theorem rd_not {Q : Bool → Hp → Prop} (h : tA σ H fun c H1 => Q (!c) H1) : tNot tA σ H Q := h
theorem rd_andV (h : ta σ H fun x H1 => ∃ c, x = .bl c ∧ if c = true then tb σ H1 Q else Q (.bl false) H1) : tAndV ta tb σ H Q := h
theorem rd_orV (h : ta σ H fun x H1 => ∃ c, x = .bl c ∧ if c = true then Q (.bl true) H1 else tb σ H1 Q) : tOrV ta tb σ H Q := h
theorem rd_notV (h : ta σ H fun x H1 => ∃ c, x = .bl c ∧ Q (.bl (!c)) H1) : tNotV ta σ H Q := h
theorem rd_ifE (h : c σ H fun c H1 => if c = true then ta σ H1 Q else tb σ H1 Q) : tIf c ta tb σ H Q := h
theorem rd_call {sp : Sp} {dvs : List V} {E : XK} {ta : TA} (h : ta σ H fun vs H1 => sp (vs ++ dvs) H1 Q E) : tCall sp dvs E ta σ H Q := h
theorem rd_tup {ta : TA} (h : ta σ H fun xs H1 => xs.length ≤ sizeLine ∧ ∀ p, H1 p = none → Q (.ref p) (upd H1 p (.tup xs))) : tTup ta σ H Q := h
theorem rd_lst {ta : TA} (h : ta σ H fun xs H1 => xs.length ≤ sizeLine ∧ ∀ p, H1 p = none → Q (.ref p) (upd H1 p (.lst xs))) : tLst ta σ H Q := h
theorem rd_chain {r r' : R2} (h : ta σ H fun x H1 => tb σ H1 fun y H2 => r x y H2 fun z H3 => ∃ k, z = .bl k ∧ if k = true then tc σ H3 fun w H4 => r' y w H4 Q else Q (.bl false) H3) : tChain r r' ta tb tc σ H Q := h
theorem rd_sl {r : V → Option Int → Option Int → Hp → VK → Prop} {tl th : TO} (h : te σ H fun x H1 => tl σ H1 fun l H2 => th σ H2 fun u H3 => r x l u H3 Q) : tSl r te tl th σ H Q := h
theorem rd_nopart {Q : Option Int → Hp → Prop} (h : Q none H) : tNoPart σ H Q := h
theorem rd_part {Q : Option Int → Hp → Prop} (h : te σ H fun x H1 => ∃ i, x = .int i ∧ Q (some i) H1) : tPart te σ H Q := h
theorem rd_int {P : Int → Prop} {i : Int} (h : P i) : ∃ i', V.int i = .int i' ∧ P i' := ⟨i, rfl, h⟩
theorem rd_slL {p : Addr} {xs : List V} {lo hi : Option Int} (hq : SqL K H p xs) (h : ∀ l, H l = none → Q (.ref l) (upd H l (.lst (cutV xs lo hi)))) : rSlL K (.ref p) lo hi H Q := ⟨p, xs, rfl, hq, h⟩
theorem rd_slG {p : Addr} {xs : List V} {lo hi : Option Int} (hq : SqT K H p xs) (h : ∀ q H', (q = p ∨ H q = none) → Same H H' → SqT K H' q (cutV xs lo hi) → Q (.ref q) H') : rSlG K (.ref p) lo hi H Q := ⟨p, xs, rfl, hq, h⟩
theorem rd_catG {p q : Addr} {xs ys : List V} (h1 : SqT K H p xs) (h2 : SqT K H q ys) (hz : xs.length + ys.length ≤ sizeLine) (h : ∀ r H', (r = p ∨ r = q ∨ H r = none) → Same H H' → SqT K H' r (xs ++ ys) → Q (.ref r) H') : rCatG K (.ref p) (.ref q) H Q := ⟨p, q, xs, ys, rfl, rfl, h1, h2, hz, h⟩
theorem rd_tupT {t : TGs} {n : Nat} {p : Addr} {xs : List V} {Q : St → Hp → Prop} (hq : SqT K H p xs) (hl : xs.length = n) (h : t xs σ H Q) : gTup K n t (.ref p) σ H Q := ⟨p, xs, rfl, hq, hl, h⟩
theorem rd_gnil {Q : St → Hp → Prop} (h : Q σ H) : gNil [] σ H Q := ⟨rfl, h⟩
theorem rd_gcons {t : TG} {u : TGs} {v : V} {r : List V} {Q : St → Hp → Prop} (h : t v σ H fun σ' H' => u r σ' H' Q) : gCons t u (v :: r) σ H Q := ⟨v, r, rfl, h⟩
theorem rd_BM {T : String} {r : V → List V → Hp → VK → Prop} {to : TE} {t : TA} (h : to σ H fun x H1 => tyV K T x H1 ∧ t σ H1 fun xs H2 => r x xs H2 Q) : tBM K T r to t σ H Q := h
theorem rd_append {l : Addr} {xs : List V} {y : V} (h1 : H l = some (.lst xs)) (hz : xs.length < sizeLine) (h : Q .non (upd H l (.lst (xs ++ [y])))) : rAppend (.ref l) [y] H Q := ⟨l, xs, y, rfl, rfl, h1, hz, h⟩
theorem rd_rng1 {ta : TA} {R : It → Hp → Prop} (h : ta σ H fun vs H1 => ∃ j : Int, vs = [.int j] ∧ -(2 ^ 62) ≤ j ∧ j < 2 ^ 62 ∧ R (Itr 0 j.toNat) H1) : iRng1 ta σ H R := h
theorem rd_rngV {j : Int} {P : Int → Prop} (h : P j) : ∃ j' : Int, [V.int j] = [.int j'] ∧ P j' := ⟨j, rfl, h⟩
theorem rd_ilist {tl : TE} {R : It → Hp → Prop} (h : tl σ H fun x H1 => ∃ a, x = .ref a ∧ (∃ xs, SqL K H1 a xs) ∧ R (Itl K a) H1) : iList K tl σ H R := h
theorem rd_itup {tl : TE} {R : It → Hp → Prop} (h : tl σ H fun x H1 => ∃ a, x = .ref a ∧ (∃ xs, SqT K H1 a xs) ∧ R (Itt K a) H1) : iTup K tl σ H R := h
end
noncomputable abbrev TR := List V → Hp → VK → Prop
noncomputable def rLen (K : PySem.W.Frag) : TR := fun xs H Q => ∃ p ys, xs = [.ref p] ∧ (SqL K H p ys ∨ SqT K H p ys) ∧ Q (.int ys.length) H
noncomputable def rLenS : TR := fun xs H Q => ∃ z, xs = [.str z] ∧ z.length ≤ sizeLine ∧ Q (.int z.length) H
noncomputable def rIsi (K : PySem.W.Frag) : TR := fun xs H Q => ∃ x T n b, xs = [x, .ty n] ∧ TyS K H x T ∧ subT T n = some b ∧ Q (.bl b) H
noncomputable def rAll (K : PySem.W.Frag) : TR := fun xs H Q => ∃ (p : Addr) (bs : List Bool), xs = [.ref p] ∧ SqL K H p (bs.map V.bl) ∧ Q (.bl (bs.all id)) H
noncomputable def rRepr (K : PySem.W.Frag) : TR := fun xs H Q => ∃ (N : List Addr) (x : V) (d : PyData), xs = [x] ∧ Dt K N H x d ∧ Shw d ∧ Q (.str d.shown) H
noncomputable def rListOf (K : PySem.W.Frag) : TR := fun xs H Q => ∃ p ys, xs = [.ref p] ∧ (SqL K H p ys ∨ SqT K H p ys) ∧ ∀ l, H l = none → Q (.ref l) (upd H l (.lst ys))
noncomputable def rTupleOf (K : PySem.W.Frag) : TR := fun xs H Q => ∃ p ys, xs = [.ref p] ∧ ((SqL K H p ys ∧ ∀ l, H l = none → Q (.ref l) (upd H l (.tup ys))) ∨ (SqT K H p ys ∧ Q (.ref p) H))
noncomputable def rMin : TR := fun xs H Q => ∃ i j, xs = [.int i, .int j] ∧ Q (.int (if j < i then j else i)) H
noncomputable def rMax : TR := fun xs H Q => ∃ i j, xs = [.int i, .int j] ∧ Q (.int (if j > i then j else i)) H
noncomputable def rStr : TR := fun xs H Q => ∃ i, xs = [.int i] ∧ i.natAbs.log2 < 1920 ∧ Q (.str (toString i)) H
noncomputable def rEqD (K : PySem.W.Frag) : R2 := fun x y H Q => ∃ (N : List Addr) (d e : PyData), Dt K N H x d ∧ Dt K N H y e ∧ SeqAt.shaped d = true ∧ SeqAt.shaped e = true ∧ Q (.bl (PyData.eqv d e)) H
noncomputable def rNeD (K : PySem.W.Frag) : R2 := fun x y H Q => ∃ (N : List Addr) (d e : PyData), Dt K N H x d ∧ Dt K N H y e ∧ SeqAt.shaped d = true ∧ SeqAt.shaped e = true ∧ Q (.bl (!PyData.eqv d e)) H
noncomputable def rIsN : R2 := fun x y H Q => y = .non ∧ Q (.bl (decide (x = .non))) H
noncomputable def rNotN : R2 := fun x y H Q => y = .non ∧ Q (.bl (!decide (x = .non))) H
section
variable {X : Cx}
theorem cn_len : CallR X (.builtin "len") (rLen X.K) := call_len_seq
theorem cn_isi : CallR X (.builtin "isinstance") (rIsi X.K) := call_isi
theorem cn_all (hc : X.calm = true) : CallR X (.builtin "all") (rAll X.K) := call_all hc
theorem cn_list : CallR X (.type "list") (rListOf X.K) := call_list_of
theorem cn_tuple : CallR X (.type "tuple") (rTupleOf X.K) := call_tuple_of
theorem cn_min (hc : X.calm = true) : CallR X (.builtin "min") rMin := call_min2 hc
theorem on_eqD {k : Nat} (hr : Room k X.A) : OpR X (compareOp .Eq) (rEqD X.K) := fun pins s σ H x y v u Q I rx ry ⟨N, d, e, h⟩ => op_eqD (N := N) hr pins s σ H x y v u Q I rx ry ⟨d, e, h⟩
theorem on_neD {k : Nat} (hr : Room k X.A) : OpR X (compareOp .NotEq) (rNeD X.K) := fun pins s σ H x y v u Q I rx ry ⟨N, d, e, h⟩ => op_neD (N := N) hr pins s σ H x y v u Q I rx ry ⟨d, e, h⟩
theorem on_isN : OpR X (compareOp .Is) rIsN := op_isN
theorem on_notN : OpR X (compareOp .IsNot) rNotN := op_notN
end
section
variable {H : Hp} {Q : VK} {K : PySem.W.Frag} {N : List Addr} {p : Addr} {xs : List V}
theorem rd_lenL (hq : SqL K H p xs) (h : Q (.int xs.length) H) : rLen K [.ref p] H Q := ⟨p, xs, rfl, .inl hq, h⟩
theorem rd_lenT (hq : SqT K H p xs) (h : Q (.int xs.length) H) : rLen K [.ref p] H Q := ⟨p, xs, rfl, .inr hq, h⟩
theorem rd_isi {x : V} {T n : String} {b : Bool} (ty : TyS K H x T) (hs : subT T n = some b) (h : Q (.bl b) H) : rIsi K [x, .ty n] H Q := ⟨x, T, n, b, rfl, ty, hs, h⟩
theorem rd_eqD {x y : V} {d e : PyData} (hd : Dt K N H x d) (he : Dt K N H y e) (h1 : SeqAt.shaped d = true) (h2 : SeqAt.shaped e = true) (h : Q (.bl (PyData.eqv d e)) H) : rEqD K x y H Q := ⟨N, d, e, hd, he, h1, h2, h⟩
theorem rd_neD {x y : V} {d e : PyData} (hd : Dt K N H x d) (he : Dt K N H y e) (h1 : SeqAt.shaped d = true) (h2 : SeqAt.shaped e = true) (h : Q (.bl (!PyData.eqv d e)) H) : rNeD K x y H Q := ⟨N, d, e, hd, he, h1, h2, h⟩
theorem rd_listL (hq : SqL K H p xs) (h : ∀ l, H l = none → Q (.ref l) (upd H l (.lst xs))) : rListOf K [.ref p] H Q := ⟨p, xs, rfl, .inl hq, h⟩
theorem rd_listT (hq : SqT K H p xs) (h : ∀ l, H l = none → Q (.ref l) (upd H l (.lst xs))) : rListOf K [.ref p] H Q := ⟨p, xs, rfl, .inr hq, h⟩
theorem rd_tupleL (hq : SqL K H p xs) (h : ∀ l, H l = none → Q (.ref l) (upd H l (.tup xs))) : rTupleOf K [.ref p] H Q := ⟨p, xs, rfl, .inl ⟨hq, h⟩⟩
theorem rd_all {bs : List Bool} (hq : SqL K H p (bs.map V.bl)) (h : Q (.bl (bs.all id)) H) : rAll K [.ref p] H Q := ⟨p, bs, rfl, hq, h⟩
theorem rd_min {i j : Int} (h : Q (.int (if j < i then j else i)) H) : rMin [.int i, .int j] H Q := ⟨i, j, rfl, h⟩
theorem rd_max {i j : Int} (h : Q (.int (if j > i then j else i)) H) : rMax [.int i, .int j] H Q := ⟨i, j, rfl, h⟩
theorem rd_str {i : Int} (hl : i.natAbs.log2 < 1920) (h : Q (.str (toString i)) H) : rStr [.int i] H Q := ⟨i, rfl, hl, h⟩
theorem rd_isN {x : V} (h : Q (.bl (decide (x = .non))) H) : rIsN x .non H Q := ⟨rfl, h⟩
theorem rd_notN {x : V} (h : Q (.bl (!decide (x = .non))) H) : rNotN x .non H Q := ⟨rfl, h⟩
end
theorem atI_in {α : Type} {xs : List α} {i : Int} (h0 : 0 ≤ i) (h1 : i < xs.length) : ∃ v, atI xs i = some v ∧ xs[i.toNat]? = some v := by
  obtain ⟨n, rfl⟩ := Int.eq_ofNat_of_zero_le h0
  have hn : n < xs.length := by omega
  exact ⟨xs[n], atI_nat (by simp [hn]), by simp [hn]⟩
theorem atI_ints {ns : List Int} {i : Int} (h0 : 0 ≤ i) (h1 : i < ns.length) : ∃ n, atI (ns.map V.int) i = some (.int n) ∧ n ∈ ns := by
  obtain ⟨v, h2, h3⟩ := atI_in (xs := ns.map V.int) h0 (by simpa using h1)
  rw [List.getElem?_map] at h3
  cases e : ns[i.toNat]? with
  | none => rw [e] at h3; cases h3
  | some n => rw [e] at h3; cases h3; exact ⟨n, h2, List.mem_of_getElem? e⟩
noncomputable def CompW (σ0 : St) (J : It) (H1 : Hp) (acc : Addr) (g : TG) (tt : TT) (te : TE) (Q : VK) : Prop := ∃ W : Nat → Nat → St → Hp → Prop, (∃ m, W 0 m σ0 (upd H1 acc (.lst []))) ∧ ∀ i m σc H, W i m σc H →
    (J.stop i H ∧ Q (.ref acc) H) ∨ (J.go i H ∧ ∃ N : St → Hp → Prop, (∀ σ' H', N σ' H' → ∃ m', m' < m ∧ W (i + 1) m' σ' H') ∧ ∀ x H', J.yld i H x H' → g x σc H' fun σ2 H2 => tt σ2 H2 fun b H3 =>
      if b = true then te σ2 H3 fun v H4 => ∃ xs, H4 acc = some (.lst xs) ∧ xs.length < sizeLine ∧ N σ2 (upd H4 acc (.lst (xs ++ [v]))) else N σ2 H3)
noncomputable def ForW (J : It) (g : TG) (tb : TS) (D : Ends) (σ : St) (H : Hp) : Prop := ∃ W : Nat → Nat → St → Hp → Prop, (∃ m, W 0 m σ H) ∧ ∀ i m σ H, W i m σ H →
  (J.stop i H ∧ D.nx σ H) ∨ (J.go i H ∧ ∃ N : St → Hp → Prop, (∀ σ' H', N σ' H' → ∃ m', m' < m ∧ W (i + 1) m' σ' H') ∧ ∀ x H', J.yld i H x H' → g x σ H' fun σ2 H2 => tb { D with nx := N, ct := N, bk := D.nx } σ2 H2)
section
variable {J : It} {H1 : Hp} {acc : Addr} {σ0 : St} {g : TG} {te : TE} {Q : VK}
theorem comp_by (n : Nat) (hn : n < sizeLine) (Pv : Nat → List V → St → Hp → Prop) (h0 : Pv 0 [] σ0 (upd H1 acc (.lst [])))
    (hgo : ∀ i vs σc H, i < n → vs.length = i → H acc = some (.lst vs) → Pv i vs σc H → J.go i H ∧ ∀ x H', J.yld i H x H' → ∀ R : St → V → Hp → Prop,
      (∀ σ2 v H4, H4 acc = some (.lst vs) → Pv (i + 1) (vs ++ [v]) σ2 (upd H4 acc (.lst (vs ++ [v]))) → R σ2 v H4) → g x σc H' fun σ2 H2 => te σ2 H2 (R σ2))
    (hst : ∀ vs σc H, vs.length = n → H acc = some (.lst vs) → Pv n vs σc H → J.stop n H ∧ Q (.ref acc) H) :
    CompW σ0 J H1 acc g tYes te Q := by
  refine ⟨fun i m σc H => m = n - i ∧ i ≤ n ∧ ∃ vs, vs.length = i ∧ H acc = some (.lst vs) ∧ Pv i vs σc H, ⟨n, by simp, Nat.zero_le _, [], rfl, upd_same, h0⟩, ?_⟩
  rintro i m σc H ⟨rfl, hi, vs, hl, ha, hp⟩
  by_cases hlt : i < n
  · obtain ⟨g1, g2⟩ := hgo i vs σc H hlt hl ha hp
    refine .inr ⟨g1, fun σ' H' => i + 1 ≤ n ∧ ∃ vs, vs.length = i + 1 ∧ H' acc = some (.lst vs) ∧ Pv (i + 1) vs σ' H', fun σ' H' q => ⟨n - (i + 1), by omega, rfl, q⟩, fun x H' y => ?_⟩
    simp only [tYes, if_true]
    exact g2 x H' y (fun σ2 v H4 => ∃ xs, H4 acc = some (.lst xs) ∧ xs.length < sizeLine ∧ (i + 1 ≤ n ∧ ∃ vs, vs.length = i + 1 ∧ (upd H4 acc (.lst (xs ++ [v]))) acc = some (.lst vs) ∧ Pv (i + 1) vs σ2 (upd H4 acc (.lst (xs ++ [v])))))
      fun σ2 v H4 q1 q2 => ⟨vs, q1, by omega, hlt, vs ++ [v], by simp [hl], upd_same, q2⟩
  · have e : i = n := by omega
    subst e
    exact .inl (hst vs σc H hl ha hp)
end
theorem rd_comp {K : PySem.W.Frag} {fr : List (Option Nat)} {wi : TI} {g : TG} {tt : TT} {te : TE} {σ : St} {H : Hp} {Q : VK} (h : wi σ H fun J H1 => ∀ acc, H1 acc = none → K.lookup acc = none → CompW (stC fr σ) J H1 acc g tt te Q) : tComp K fr wi g tt te σ H Q := h
theorem rd_for {wi : TI} {g : TG} {tb : TS} {D : Ends} {σ : St} {H : Hp} (h : wi σ H fun J H1 => ForW J g tb D σ H1) : tFor wi g tb D σ H := h
theorem for_rangeW {lo : Int} {n : Nat} {g : TG} {tb : TS} {D : Ends} {σ : St} {H : Hp} (Pv : Nat → St → Hp → Prop) (h0 : Pv 0 σ H)
    (hs : ∀ i σ H, i < n → Pv i σ H → g (.int (lo + i)) σ H fun σ2 H2 => tb { D with nx := Pv (i + 1), ct := Pv (i + 1), bk := D.nx } σ2 H2) (hd : ∀ σ H, Pv n σ H → D.nx σ H) : ForW (Itr lo n) g tb D σ H := for_range Pv h0 hs hd
theorem rd_izip {K : PySem.W.Frag} {ta : TA} {σ : St} {H : Hp} {R : It → Hp → Prop} (h : ta σ H fun vs H1 => ∃ a b, vs = [.ref a, .ref b] ∧ (∃ xs, SqT K H1 a xs) ∧ (∃ ys, SqT K H1 b ys) ∧ R (Itz K a b) H1) : iZip K ta σ H R := h
theorem subT_of {T n : String} (h1 : T ∈ ["NoneType", "bool", "int", "str", "list", "tuple", "dict"]) (h2 : n ∈ ["int", "bool", "str", "tuple", "list", "dict"]) : subT T n = some (isB T n) := subT_tab T h1 n h2
noncomputable def tyN : PyData → String
  | .none => "NoneType"
  | .bool _ => "bool"
  | .int _ => "int"
  | .str _ => "str"
  | .list _ => "list"
  | .tuple _ => "tuple"
  | .dict _ => "dict"
theorem tyN_in (d : PyData) : tyN d ∈ ["NoneType", "bool", "int", "str", "list", "tuple", "dict"] := by cases d <;> simp [tyN]
theorem Dt.tyn {K : PySem.W.Frag} {N : List Addr} {H : Hp} {v : V} {d : PyData} (h : Dt K N H v d) : TyS K H v (tyN d) := by
  cases h with
  | non => exact .non
  | bl b => exact .bl b
  | int i => exact .int i
  | str x => exact .str x
  | tup h n r => exact .tup h
  | lst h n r => exact .lst h
  | dk0 h n => exact .dk h
  | dk1 h n r => exact .dk h
noncomputable def isTupD : PyData → Bool
  | .tuple _ => true
  | _ => false
noncomputable def isIntD : PyData → Bool
  | .int _ => true
  | .bool _ => true
  | _ => false
noncomputable def isBoolD : PyData → Bool
  | .bool _ => true
  | _ => false
noncomputable def isStrD : PyData → Bool
  | .str _ => true
  | _ => false
noncomputable def isListD : PyData → Bool
  | .list _ => true
  | _ => false
section
variable {K : PySem.W.Frag} {N : List Addr} {H : Hp} {x : V} {d : PyData} {Q : VK}
theorem rd_isiTup (hd : Dt K N H x d) (h : Q (.bl (isTupD d)) H) : rIsi K [x, .ty "tuple"] H Q := by
  refine rd_isi hd.tyn (subT_of (tyN_in d) (by simp)) ?_
  have e : isB (tyN d) "tuple" = isTupD d := by cases d <;> (dsimp only [tyN, isTupD, isIntD, isBoolD, isStrD, isListD]; decide)
  rw [e]; exact h
theorem rd_isiInt (hd : Dt K N H x d) (h : Q (.bl (isIntD d)) H) : rIsi K [x, .ty "int"] H Q := by
  refine rd_isi hd.tyn (subT_of (tyN_in d) (by simp)) ?_
  have e : isB (tyN d) "int" = isIntD d := by cases d <;> (dsimp only [tyN, isTupD, isIntD, isBoolD, isStrD, isListD]; decide)
  rw [e]; exact h
theorem rd_isiBool (hd : Dt K N H x d) (h : Q (.bl (isBoolD d)) H) : rIsi K [x, .ty "bool"] H Q := by
  refine rd_isi hd.tyn (subT_of (tyN_in d) (by simp)) ?_
  have e : isB (tyN d) "bool" = isBoolD d := by cases d <;> (dsimp only [tyN, isTupD, isIntD, isBoolD, isStrD, isListD]; decide)
  rw [e]; exact h
theorem rd_isiStr (hd : Dt K N H x d) (h : Q (.bl (isStrD d)) H) : rIsi K [x, .ty "str"] H Q := by
  refine rd_isi hd.tyn (subT_of (tyN_in d) (by simp)) ?_
  have e : isB (tyN d) "str" = isStrD d := by cases d <;> (dsimp only [tyN, isTupD, isIntD, isBoolD, isStrD, isListD]; decide)
  rw [e]; exact h
theorem rd_isiList (hd : Dt K N H x d) (h : Q (.bl (isListD d)) H) : rIsi K [x, .ty "list"] H Q := by
  refine rd_isi hd.tyn (subT_of (tyN_in d) (by simp)) ?_
  have e : isB (tyN d) "list" = isListD d := by cases d <;> (dsimp only [tyN, isTupD, isIntD, isBoolD, isStrD, isListD]; decide)
  rw [e]; exact h
end
theorem rd_iteT {i : Decidable (true = true)} {A B : Prop} (h : A) : @ite Prop (true = true) i A B := by rw [if_pos rfl]; exact h
theorem rd_iteF {i : Decidable (false = true)} {A B : Prop} (h : B) : @ite Prop (false = true) i A B := by rw [if_neg Bool.false_ne_true]; exact h
theorem rd_ite2 {c : Bool} {i : Decidable (c = true)} {A B : Prop} (h1 : c = true → A) (h2 : c = false → B) : @ite Prop (c = true) i A B := by
  cases c with
  | true => rw [if_pos rfl]; exact h1 rfl
  | false => rw [if_neg Bool.false_ne_true]; exact h2 rfl
theorem Same.upd2 {H H' : Hp} {p : Addr} {o : HO} (s : Same H H') (h : H p = none) : Same H (L2.upd H' p o) := fun b u e => by rw [upd_ne (ne_of_none e h)]; exact s b u e
theorem Ext.upd2 {N : List Addr} {H H' : Hp} {p : Addr} {o : HO} (s : Ext N H H') (h : H p = none) : Ext N H (L2.upd H' p o) := fun b u e n => by rw [upd_ne (ne_of_none e h)]; exact s b u e n
theorem Dt.pair {K : PySem.W.Frag} {N : List Addr} {H : Hp} {v : V} {a b : Int} (h : Dt K N H v (.tuple [.int a, .int b])) : ∃ p, v = .ref p ∧ SqT K H p [.int a, .int b] ∧ p ∉ N := by
  cases h with
  | tup h n r =>
    cases r with
    | cons h1 r => cases r with
      | cons h2 r => cases r; cases h1; cases h2; exact ⟨_, rfl, h, n⟩
theorem DtAll.at {K : PySem.W.Frag} {N : List Addr} {H : Hp} {vs : List V} {ds : List PyData} {i : Nat} (r : DtAll K N H vs ds) (h : i < ds.length) : ∃ v d, vs[i]? = some v ∧ ds[i]? = some d ∧ Dt K N H v d := by
  have e : ds[i]? = some ds[i] := by simp [h]
  obtain ⟨v, h1, h2⟩ := r.getD e
  exact ⟨v, ds[i], h1, e, h2⟩
theorem cutV_tail (xs : List V) : cutV xs (some 1) none = xs.drop 1 := by
  unfold cutV
  have e : HT.sIx xs.length 0 (some 1) = min 1 xs.length := HT.sIx_nat _ _ 1
  rw [e, HT.sIx_none]
  cases xs with
  | nil => simp
  | cons x r => rw [List.length_cons, Nat.min_eq_left (by omega)]; simp
section
variable {X : Cx} {K : PySem.W.Frag}
theorem ix_listK (h : X.K = K) : IxR X (rIxL K) := h ▸ ix_list
theorem ix_tupK (h : X.K = K) : IxR X (rIxT K) := h ▸ ix_tup
theorem cn_lenK (h : X.K = K) : CallR X (.builtin "len") (rLen K) := h ▸ cn_len
theorem pg_tupK {es : List Expr} {k : Nat} {t : TGs} {n : Nat} {pos : Pos} (hK : X.K = K) (hc : X.calm = true) (h : PGs X es t)
    (hn : (assignEach es X.env).length = n := by rfl) (hst : (assignEach es X.env).findIdx? (·.1) = none := by rfl) : PG X (.Tuple es k pos) (gTup K n t) := hK ▸ pg_tup hc h hn hst
end
end L2

namespace L2
open PySem
structure StOk (K : PySem.W.Frag) (H : Hp) (st : Addr) : Prop where
  ex : ∃ (c : Addr) (cs : List Int) (p q r : Int), H st = some (.lst [.ref c, .int p, .int q, .int r]) ∧ H c = some (.lst (cs.map V.int)) ∧ c ≠ st ∧ 1 ≤ cs.length ∧ cs.length ≤ 63 ∧ 0 ≤ p ∧ 0 ≤ q ∧ 0 ≤ r ∧ r < 2147483647
theorem StOk.ext {K : PySem.W.Frag} {H H' : Hp} {st : Addr} (h : StOk K H st) (e : ∀ b o, H b = some o → H' b = some o) : StOk K H' st := by
  obtain ⟨c, cs, p, q, r, h1, h2, h3⟩ := h.ex
  exact ⟨c, cs, p, q, r, e _ _ h1, e _ _ h2, h3⟩
theorem sz {n : Nat} (h : n ≤ 1000) : n ≤ sizeLine := Nat.le_trans h (by decide)
end L2
namespace Mt
open PySem
noncomputable def numD : PyData → Bool
  | .int _ => true
  | _ => false
noncomputable def withinD (a b : Int) : PyData → Bool
  | .int i => decide (a ≤ i) && decide (i ≤ b)
  | _ => false
noncomputable def begunD : PyData → Bool
  | .tuple [x, y] => withinD 0 1000000000 x && withinD 0 1000000 y
  | _ => false
noncomputable def chk : Int → Int → List PyData → Bool
  | _, _, [] => true
  | l, f, .tuple [.int a, .int b] :: r => decide (l < a) && decide (a ≤ 1000000000) && decide (f ≤ b) && decide (b ≤ 1000000) && chk a b r
  | _, _, _ :: _ => false
noncomputable def first0 : List PyData → Bool
  | .tuple [.int _, .int b] :: _ => decide (b = 0)
  | _ => false
noncomputable def histD : PyData → Bool
  | .tuple ds => decide (1 ≤ ds.length) && decide (ds.length ≤ 60) && chk (-1) 0 ds && first0 ds
  | _ => false
theorem begun_shape {d : PyData} (h : begunD d = true) : ∃ a b, d = .tuple [.int a, .int b] ∧ 0 ≤ a ∧ a ≤ 1000000000 ∧ 0 ≤ b ∧ b ≤ 1000000 := by
  unfold begunD at h
  split at h
  · rename_i x y
    simp only [Bool.and_eq_true] at h
    obtain ⟨h1, h2⟩ := h
    unfold withinD at h1 h2
    split at h1
    · split at h2
      · rename_i i _ j
        simp only [Bool.and_eq_true, decide_eq_true_eq] at h1 h2
        exact ⟨_, _, rfl, h1.1, h1.2, h2.1, h2.2⟩
      · cases h2
    · cases h1
  · cases h
theorem chk_cons_int (l f a b : Int) (r : List PyData) : chk l f (.tuple [.int a, .int b] :: r) = (decide (l < a) && decide (a ≤ 1000000000) && decide (f ≤ b) && decide (b ≤ 1000000) && chk a b r) := by
  simp only [chk]
theorem chk_begun : ∀ {ds : List PyData} {l f : Int}, -1 ≤ l → 0 ≤ f → chk l f ds = true → ds.all begunD = true
  | [], _, _, _, _, _ => rfl
  | d :: r, l, f, hl, hf, h => by
    unfold chk at h
    split at h
    · rename_i heq; cases heq
    · rename_i a b r' heq
      cases heq
      simp only [Bool.and_eq_true, decide_eq_true_eq] at h
      obtain ⟨⟨⟨⟨h1, h2⟩, h3⟩, h4⟩, h5⟩ := h
      rw [List.all_cons, chk_begun (by omega) (by omega) h5]
      simp only [begunD, withinD, Bool.and_eq_true, decide_eq_true_eq, Bool.and_true]
      exact ⟨⟨by omega, h2⟩, by omega, h4⟩
    · cases h
noncomputable def rise (ds : List PyData) (i : Nat) : Bool :=
  match ds[i]?, ds[i + 1]? with
  | some (.tuple [.int a, .int b]), some (.tuple [.int c, .int d]) => decide (a < c) && decide (b ≤ d)
  | _, _ => false
theorem chk_rise : ∀ {ds : List PyData} {l f a b : Int} {r : List PyData}, ds = .tuple [.int a, .int b] :: r → ds.all begunD = true → (chk l f ds = (decide (l < a) && decide (f ≤ b) && (List.range r.length).all (rise ds)))
  | _, l, f, a, b, [], rfl, h => by
    rw [List.all_cons] at h
    simp only [begunD, withinD, Bool.and_eq_true, decide_eq_true_eq] at h
    rw [chk_cons_int]
    simp [chk, h.1.1.2, h.1.2.2]
  | _, l, f, a, b, d :: r, rfl, h => by
    have h0 := h
    rw [List.all_cons, Bool.and_eq_true] at h
    obtain ⟨h1, h2⟩ := h
    have h2' := h2
    rw [List.all_cons, Bool.and_eq_true] at h2
    obtain ⟨c, e, rfl, _⟩ := begun_shape h2.1
    simp only [begunD, withinD, Bool.and_eq_true, decide_eq_true_eq] at h1
    rw [chk_cons_int, chk_rise (l := a) (f := b) rfl h2', List.length_cons, List.range_succ_eq_map, List.all_cons, List.all_map]
    have e1 : rise (.tuple [.int a, .int b] :: .tuple [.int c, .int e] :: r) 0 = (decide (a < c) && decide (b ≤ e)) := by simp [rise]
    have e2 : (rise (.tuple [.int a, .int b] :: .tuple [.int c, .int e] :: r) ∘ Nat.succ) = rise (.tuple [.int c, .int e] :: r) := by
      funext i; simp [rise]
    rw [e1, e2, decide_eq_true h1.1.2, decide_eq_true h1.2.2]
    simp only [Bool.and_true]
theorem hist_of_begun {ds : List PyData} (h1 : 1 ≤ ds.length) (h2 : ds.length ≤ 60) (hb : ds.all begunD = true) (hf : first0 ds = true) : histD (.tuple ds) = (List.range (ds.length - 1)).all (rise ds) := by
  cases ds with
  | nil => simp at h1
  | cons d r =>
    have hb' := hb
    rw [List.all_cons, Bool.and_eq_true] at hb'
    obtain ⟨a, b, rfl, g1, g2, g3, g4⟩ := begun_shape hb'.1
    have e : decide (-1 < a) = true := decide_eq_true (by omega)
    have e' : decide (0 ≤ b) = true := decide_eq_true g3
    simp only [histD, hf, Bool.true_and, Bool.and_true, chk_rise (l := -1) (f := 0) rfl hb, e, e', decide_eq_true h1, decide_eq_true h2]
    rfl
theorem hist_not_begun {ds : List PyData} (hb : ds.all begunD = false) : histD (.tuple ds) = false := by
  cases h : histD (.tuple ds) with
  | false => rfl
  | true =>
    simp only [histD, Bool.and_eq_true, decide_eq_true_eq] at h
    rw [chk_begun (by omega) (by omega) h.1.2] at hb
    cases hb
theorem p9 : (10 : Int) ^ (9 : Int).toNat = 1000000000 := by decide
theorem p6 : (10 : Int) ^ (6 : Int).toNat = 1000000 := by decide
end Mt

set_option maxRecDepth 100000
namespace Mt
open PySem L2
structure Itm (w k : Nat) (d : PyData) : Prop where
  sh : d.showable = true
  lv : d.leavesShort 60 = true
  wt : d.weight ≤ w
  dp : d.depth ≤ k
  nd : d.hasDict = false
theorem Itm.mono {w w' k k' : Nat} {d : PyData} (h : Itm w k d) (h1 : w ≤ w') (h2 : k ≤ k') : Itm w' k' d := ⟨h.sh, h.lv, Nat.le_trans h.wt h1, Nat.le_trans h.dp h2, h.nd⟩
noncomputable def cpsOk (x : Str) : Prop := (x.cps.toList.all fun c => decide (c < 16 ^ 8)) = true
noncomputable def pr (p : Int × Int) : PyData := .tuple [.int p.1, .int p.2]
noncomputable def okP : Int → Int → List (Int × Int) → Prop
  | _, _, [] => True
  | l, f, (a, b) :: r => l < a ∧ a ≤ 1000000000 ∧ f ≤ b ∧ b ≤ 1000000 ∧ okP a b r
theorem okP_snoc : ∀ {l f : Int} {hs : List (Int × Int)} {a b c d : Int}, okP l f (hs ++ [(a, b)]) → a < c → c ≤ 1000000000 → b ≤ d → d ≤ 1000000 → okP l f (hs ++ [(a, b)] ++ [(c, d)])
  | l, f, [], a, b, c, d, h, h1, h2, h3, h4 => ⟨h.1, h.2.1, h.2.2.1, h.2.2.2.1, h1, h2, h3, h4, trivial⟩
  | l, f, (x, y) :: r, a, b, c, d, h, h1, h2, h3, h4 => ⟨h.1, h.2.1, h.2.2.1, h.2.2.2.1, okP_snoc h.2.2.2.2 h1 h2 h3 h4⟩
theorem okP_bound : ∀ {l f : Int} {hs : List (Int × Int)}, -1 ≤ l → 0 ≤ f → okP l f hs → ∀ p ∈ hs, 0 ≤ p.1 ∧ p.1 ≤ 1000000000 ∧ 0 ≤ p.2 ∧ p.2 ≤ 1000000
  | l, f, [], _, _, _, p, hp => by simp at hp
  | l, f, (a, b) :: r, hl, hf, h, p, hp => by
    obtain ⟨h1, h2, h3, h4, h5⟩ := h
    rcases List.mem_cons.mp hp with rfl | hp
    · exact ⟨by show 0 ≤ a; omega, h2, by show 0 ≤ b; omega, h4⟩
    · exact okP_bound (by omega) (by omega) h5 p hp
theorem chk_okP : ∀ {l f : Int} {hs : List (Int × Int)}, okP l f hs → chk l f (hs.map pr) = true
  | l, f, [], _ => rfl
  | l, f, (a, b) :: r, h => by
    obtain ⟨h1, h2, h3, h4, h5⟩ := h
    rw [List.map_cons]
    show chk l f (.tuple [.int a, .int b] :: r.map pr) = true
    rw [chk_cons_int, chk_okP h5]
    simp [h1, h2, h3, h4]
structure HOK (hs : List (Int × Int)) : Prop where
  len1 : 1 ≤ hs.length
  len2 : hs.length ≤ 60
  ok : okP (-1) 0 hs
  zero : ∃ a r, hs = (a, 0) :: r
theorem HOK.hist {hs : List (Int × Int)} (h : HOK hs) : histD (.tuple (hs.map pr)) = true := by
  obtain ⟨a, r, rfl⟩ := h.zero
  have h1 := h.len1
  have h2 := h.len2
  simp only [histD, chk_okP h.ok, List.length_map, decide_eq_true h1, decide_eq_true h2]
  rfl
theorem HOK.bound {hs : List (Int × Int)} (h : HOK hs) : ∀ p ∈ hs, 0 ≤ p.1 ∧ p.1 ≤ 1000000000 ∧ 0 ≤ p.2 ∧ p.2 ≤ 1000000 := okP_bound (by decide) (by decide) h.ok
end Mt
namespace L2
open PySem
theorem sub_not {N N' : List Addr} (h : ∀ b ∈ N', b ∈ N) {a : Addr} (n : a ∉ N) : a ∉ N' := fun z => n (h a z)
mutual
theorem Dt.weaken {K : PySem.W.Frag} {N N' : List Addr} {H : Hp} (h : ∀ b ∈ N', b ∈ N) : ∀ {v : V} {d : PyData}, Dt K N H v d → Dt K N' H v d
  | _, _, .non => .non
  | _, _, .bl b => .bl b
  | _, _, .int i => .int i
  | _, _, .str x => .str x
  | _, _, .tup q n r => .tup q (sub_not h n) (DtAll.weaken h r)
  | _, _, .lst q n r => .lst q (sub_not h n) (DtAll.weaken h r)
  | _, _, .dk0 q n => .dk0 q (sub_not h n)
  | _, _, .dk1 q n r => .dk1 q (sub_not h n) (Dt.weaken h r)
theorem DtAll.weaken {K : PySem.W.Frag} {N N' : List Addr} {H : Hp} (h : ∀ b ∈ N', b ∈ N) : ∀ {vs : List V} {ds : List PyData}, DtAll K N H vs ds → DtAll K N' H vs ds
  | _, _, .nil => .nil
  | _, _, .cons q r => .cons (Dt.weaken h q) (DtAll.weaken h r)
end
theorem StOk.at {K : PySem.W.Frag} {H : Hp} {st : Addr} (h : StOk K H st) : ∃ xs, H st = some (.lst xs) := by
  obtain ⟨c, cs, p, q, r, h1, _⟩ := h.ex
  exact ⟨_, h1⟩
theorem StOk.new {K : PySem.W.Frag} {H : Hp} {st p : Addr} {o : HO} (h : StOk K H st) (n : H p = none) : StOk K (upd H p o) st := h.ext (Same.upd n)
theorem StOk.ne {K : PySem.W.Frag} {H : Hp} {st p : Addr} (h : StOk K H st) (n : H p = none) : p ≠ st := by
  obtain ⟨xs, e⟩ := h.at
  exact fun z => by rw [z, e] at n; cases n
theorem DtAll.snoc {K : PySem.W.Frag} {N : List Addr} {H : Hp} : ∀ {ds : List PyData} {d : PyData} {vs : List V}, DtAll K N H vs (ds ++ [d]) → ∃ ws v, vs = ws ++ [v] ∧ DtAll K N H ws ds ∧ Dt K N H v d
  | [], d, _, .cons h .nil => ⟨[], _, rfl, .nil, h⟩
  | _ :: ds, d, _, .cons h r => by
    obtain ⟨ws, v, rfl, h1, h2⟩ := DtAll.snoc r
    exact ⟨_ :: ws, v, rfl, .cons h h1, h2⟩
theorem at3 {a b c : Int} {i : Int} (h0 : 0 ≤ i) (h1 : i < 3) : ∃ w, atI [V.int a, V.int b, V.int c] i = some (.int w) ∧ (w = a ∨ w = b ∨ w = c) := by
  have : i = 0 ∨ i = 1 ∨ i = 2 := by omega
  rcases this with rfl | rfl | rfl
  · exact ⟨a, rfl, .inl rfl⟩
  · exact ⟨b, rfl, .inr (.inl rfl)⟩
  · exact ⟨c, rfl, .inr (.inr rfl)⟩
theorem mul_le {a b m n : Int} (h0 : 0 ≤ a) (h1 : a ≤ m) (h2 : 0 ≤ b) (h3 : b ≤ n) : 0 ≤ a * b ∧ a * b ≤ m * n :=
  ⟨Int.mul_nonneg h0 h2, Int.mul_le_mul h1 h3 h2 (by omega)⟩
theorem rd_seqK {t u : TS} {D : Ends} {σ : St} {H : Hp} (P : St → Hp → Prop) (hu : ∀ σ' H', P σ' H' → u D σ' H') (h : (∀ σ' H', P σ' H' → u D σ' H') → t { D with nx := u D } σ H) : tSeq t u D σ H := h hu
theorem DtAll.atI {K : PySem.W.Frag} {N : List Addr} {H : Hp} {vs : List V} {ds : List PyData} {i : Int} (r : DtAll K N H vs ds) (h0 : 0 ≤ i) (h1 : i < ds.length) : ∃ v d, L2.atI vs i = some v ∧ d ∈ ds ∧ Dt K N H v d := by
  obtain ⟨n, rfl⟩ := Int.eq_ofNat_of_zero_le h0
  obtain ⟨v, d, e1, e2, e3⟩ := r.at (i := n) (by omega)
  exact ⟨v, d, atI_nat e1, List.mem_of_getElem? e2, e3⟩
noncomputable def tTupA (t : TA) : TE := fun σ H Q => t σ H fun xs H1 => xs.length ≤ sizeLine ∧ ∀ p H', H1 p = none → Same H1 H' → H' p = some (.tup xs) → Q (.ref p) H'
noncomputable def tLstA (t : TA) : TE := fun σ H Q => t σ H fun xs H1 => xs.length ≤ sizeLine ∧ ∀ p H', H1 p = none → Same H1 H' → H' p = some (.lst xs) → Q (.ref p) H'
noncomputable def tDNewA : TE := fun _ H Q => ∀ p H', H p = none → Same H H' → H' p = some (.dK []) → Q (.ref p) H'
noncomputable def rCatA : R2 := fun x y H Q => ∃ l b xs zs, x = .ref l ∧ y = .ref b ∧ H l = some (.lst xs) ∧ H b = some (.lst zs) ∧ xs.length + zs.length ≤ sizeLine ∧ ∀ p H', H p = none → Same H H' → H' p = some (.lst (xs ++ zs)) → Q (.ref p) H'
noncomputable def rSlA (K : PySem.W.Frag) : V → Option Int → Option Int → Hp → VK → Prop := fun x lo hi H Q => ∃ a xs, x = .ref a ∧ SqL K H a xs ∧ ∀ p H', H p = none → Same H H' → H' p = some (.lst (cutV xs lo hi)) → Q (.ref p) H'
noncomputable def rListA (K : PySem.W.Frag) : TR := fun xs H Q => ∃ p ys, xs = [.ref p] ∧ (SqL K H p ys ∨ SqT K H p ys) ∧ ∀ l H', H l = none → Same H H' → H' l = some (.lst ys) → Q (.ref l) H'
noncomputable def rTupleA (K : PySem.W.Frag) : TR := fun xs H Q => ∃ p ys, xs = [.ref p] ∧ (SqL K H p ys ∨ SqT K H p ys) ∧ ∀ l H', (l = p ∨ H l = none) → Same H H' → SqT K H' l ys → Q (.ref l) H'
section
open PyProof.Rows
variable {X : Cx} {es : List Expr} {t : TA} {pos : Pos} {K : PySem.W.Frag}
theorem pe_tupA {x1} (h : PA X es t) : PE X (.Tuple es x1 pos) (tTupA t) := by
  intro pins s σ H Q I hq
  refine wpAny_Tuple_spliced (thn (h pos pins s σ H _ I hq) fun us s1 ⟨xs, H1, I1, r, z, q⟩ => ⟨by rw [← r.length]; exact z, ?_⟩)
  have hf : H1 s1.heap.objs.size = none := I1.hok.fresh (Nat.le_refl _)
  exact ⟨.ref s1.heap.objs.size, upd H1 s1.heap.objs.size (.tup xs), I1.laid (t' := s1.toks) (fun b u e => Heap.get?_push_of_some _ e) (Nat.le_refl _) ⟨z, us, r, ⟨_, Heap.get?_push_size _ rfl, rfl, _, rfl⟩⟩, rfl, q _ _ hf (Same.upd hf) upd_same⟩
theorem pe_lstA (h : PA X es t) : PE X (.List es pos) (tLstA t) := by
  intro pins s σ H Q I hq
  refine wpAny_List_spliced (thn (h pos pins s σ H _ I hq) fun us s1 ⟨xs, H1, I1, r, z, q⟩ => ⟨by rw [← r.length]; exact z, ?_⟩)
  have hf : H1 s1.heap.objs.size = none := I1.hok.fresh (Nat.le_refl _)
  exact ⟨.ref s1.heap.objs.size, upd H1 s1.heap.objs.size (.lst xs), I1.laid (t' := s1.toks) (fun b u e => Heap.get?_push_of_some _ e) (Nat.le_refl _) ⟨z, us, 0, r, Heap.get?_push_size _ rfl⟩, rfl, q _ _ hf (Same.upd hf) upd_same⟩
theorem pe_dnewA : PE X (.Dict [] [] pos) tDNewA := fun pins s σ H Q I h => pe_dnewK pins s σ H Q I fun p hp => h p _ hp (Same.upd hp) upd_same
theorem op_catA : OpR X (binaryOp .Add) rCatA := fun pins s σ H x y v u Q I rx ry ⟨l, b, xs, zs, h1, h2, h3, h4, h5, h6⟩ => op_cat pins s σ H x y v u Q I rx ry ⟨l, b, xs, zs, h1, h2, h3, h4, h5, fun p hp => h6 p _ hp (Same.upd hp) upd_same⟩
theorem cn_listA (hK : X.K = K) : CallR X (.type "list") (rListA K) := fun pins s σ H xs us Q I r ⟨p, ys, h1, h2, h3⟩ => cn_list pins s σ H xs us Q I r ⟨p, ys, h1, by rw [hK]; exact h2, fun l hl => h3 l _ hl (Same.upd hl) upd_same⟩
end
section
variable {σ : St} {H : Hp} {Q : VK} {K : PySem.W.Frag} {ta : TA} {p q : Addr} {xs ys : List V}
theorem rd_tupA (h : ta σ H fun xs H1 => xs.length ≤ sizeLine ∧ ∀ p H', H1 p = none → Same H1 H' → H' p = some (.tup xs) → Q (.ref p) H') : tTupA ta σ H Q := h
theorem rd_lstA (h : ta σ H fun xs H1 => xs.length ≤ sizeLine ∧ ∀ p H', H1 p = none → Same H1 H' → H' p = some (.lst xs) → Q (.ref p) H') : tLstA ta σ H Q := h
theorem rd_dnewA (h : ∀ p H', H p = none → Same H H' → H' p = some (.dK []) → Q (.ref p) H') : tDNewA σ H Q := h
theorem rd_catA (h1 : H p = some (.lst xs)) (h2 : H q = some (.lst ys)) (hz : xs.length + ys.length ≤ sizeLine) (h : ∀ r H', H r = none → Same H H' → H' r = some (.lst (xs ++ ys)) → Q (.ref r) H') : rCatA (.ref p) (.ref q) H Q := ⟨p, q, xs, ys, rfl, rfl, h1, h2, hz, h⟩
theorem rd_slA {lo hi : Option Int} (hq : SqL K H p xs) (h : ∀ l H', H l = none → Same H H' → H' l = some (.lst (cutV xs lo hi)) → Q (.ref l) H') : rSlA K (.ref p) lo hi H Q := ⟨p, xs, rfl, hq, h⟩
theorem rd_listAL (hq : SqL K H p xs) (h : ∀ l H', H l = none → Same H H' → H' l = some (.lst xs) → Q (.ref l) H') : rListA K [.ref p] H Q := ⟨p, xs, rfl, .inl hq, h⟩
theorem rd_listAT (hq : SqT K H p xs) (h : ∀ l H', H l = none → Same H H' → H' l = some (.lst xs) → Q (.ref l) H') : rListA K [.ref p] H Q := ⟨p, xs, rfl, .inr hq, h⟩
theorem rd_tupleAL (hq : SqL K H p xs) (h : ∀ l H', (l = p ∨ H l = none) → Same H H' → SqT K H' l xs → Q (.ref l) H') : rTupleA K [.ref p] H Q := ⟨p, xs, rfl, .inl hq, h⟩
end
theorem StOk.same {K : PySem.W.Frag} {H H' : Hp} {st : Addr} (h : StOk K H st) (e : Same H H') : StOk K H' st := h.ext e
structure Trk (K : PySem.W.Frag) (N : List Addr) (H : Hp) (st : Addr) : Prop where
  so : StOk K H st
  mem : st ∈ N
  tr : ∀ b ∈ N, H b ≠ none
theorem Trk.same {K : PySem.W.Frag} {N : List Addr} {H H' : Hp} {st : Addr} (h : Trk K N H st) (e : Same H H') : Trk K N H' st := ⟨h.so.same e, h.mem, fun b hb z => h.tr b hb (e.free z)⟩
theorem Trk.ext {K : PySem.W.Frag} {N : List Addr} {H H' : Hp} {st : Addr} (h : Trk K N H st) (S : StOk K H' st) (e : Ext [st] H H') : Trk K N H' st := ⟨S, h.mem, fun b hb z => by
  by_cases q : b = st
  · subst q
    obtain ⟨xs, e'⟩ := S.at
    rw [e'] at z; cases z
  · exact h.tr b hb (e.free z (by simpa using q))⟩
mutual
theorem Dt.fresh {K : PySem.W.Frag} {N : List Addr} {H : Hp} {p : Addr} (h : H p = none) (k : K.lookup p = none) : ∀ {v : V} {d : PyData}, Dt K N H v d → Dt K (p :: N) H v d
  | _, _, .non => .non
  | _, _, .bl b => .bl b
  | _, _, .int i => .int i
  | _, _, .str x => .str x
  | _, _, .tup q n r => .tup q (by
      rw [List.mem_cons, not_or]
      refine ⟨?_, n⟩
      rintro rfl
      rcases q with (q | ⟨o, q⟩) | ⟨o, its, m, q, _⟩
      · rw [h] at q; cases q
      · rw [h] at q; cases q
      · rw [k] at q; cases q) (DtAll.fresh h k r)
  | _, _, .lst q n r => .lst q (by
      rw [List.mem_cons, not_or]
      refine ⟨?_, n⟩
      rintro rfl
      rcases q with (q | ⟨o, q⟩) | ⟨o, its, m, q, _⟩
      · rw [h] at q; cases q
      · rw [h] at q; cases q
      · rw [k] at q; cases q) (DtAll.fresh h k r)
  | _, _, .dk0 q n => .dk0 q (by
      rw [List.mem_cons, not_or]
      refine ⟨?_, n⟩
      rintro rfl
      rw [h] at q; cases q)
  | _, _, .dk1 q n r => .dk1 q (by
      rw [List.mem_cons, not_or]
      refine ⟨?_, n⟩
      rintro rfl
      rw [h] at q; cases q) (Dt.fresh h k r)
theorem DtAll.fresh {K : PySem.W.Frag} {N : List Addr} {H : Hp} {p : Addr} (h : H p = none) (k : K.lookup p = none) : ∀ {vs : List V} {ds : List PyData}, DtAll K N H vs ds → DtAll K (p :: N) H vs ds
  | _, _, .nil => .nil
  | _, _, .cons q r => .cons (Dt.fresh h k q) (DtAll.fresh h k r)
end
theorem Ext.mono {N N' : List Addr} {H H' : Hp} (e : Ext N H H') (h : ∀ b ∈ N, b ∈ N') : Ext N' H H' := fun b u q n => e b u q fun z => n (h b z)
theorem Ext.up {N : List Addr} {st : Addr} {H H' : Hp} (e : Ext [st] H H') (h : st ∈ N) : Ext N H H' := e.mono fun b hb => by
  have : b = st := by simpa using hb
  rw [this]; exact h
theorem StOk.acc {K : PySem.W.Frag} {H : Hp} {st acc : Addr} {vs : List V} {o : HO} (S : StOk K H st) (n : acc ≠ st) (ha : H acc = some (.lst vs)) (hr : ∀ v ∈ vs, ∃ q, v = .ref q) : StOk K (upd H acc o) st := by
  obtain ⟨c, cs, p, q, r, h1, h2, h3, h4, h5⟩ := S.ex
  refine ⟨c, cs, p, q, r, by rw [upd_ne (Ne.symm n)]; exact h1, ?_, h3, h4, h5⟩
  have ncf : c ≠ acc := fun z => by
    subst z
    rw [ha] at h2
    have e : vs = cs.map V.int := by injection h2 with h2; injection h2
    cases cs with
    | nil => simp at h4
    | cons i cs =>
      obtain ⟨q, hq⟩ := hr (.int i) (by rw [e]; simp)
      cases hq
  rw [upd_ne ncf]; exact h2
theorem Trk.one {K : PySem.W.Frag} {H : Hp} {st : Addr} (S : StOk K H st) : Trk K [st] H st := ⟨S, by simp, fun b hb => by
  simp only [List.mem_cons, List.not_mem_nil, or_false] at hb
  subst hb
  obtain ⟨xs, e⟩ := S.at
  rw [e]; simp⟩
end L2

namespace L2
open PySem PySem.Spec PyProof.Rows
noncomputable def notStar : Expr → Bool
  | .Starred .. => false
  | _ => true
noncomputable def noStars : List Expr → Bool
  | [] => true
  | e :: r => notStar e && noStars r
theorem star_ne {e : Expr} {r : List Expr} {env : Env} (h : notStar e = true) : starEach (e :: r) env = (false, eval e env) :: starEach r env := by
  cases e <;> first | rfl | cases h
theorem stars_any {pos : Pos} {env : Env} : ∀ {es : List Expr}, noStars es = true → (backTo pos (starEach es env)).any (·.1) = false
  | [], _ => rfl
  | e :: r, h => by
    simp only [noStars, Bool.and_eq_true] at h
    rw [star_ne h.1]
    show (false || (backTo pos (starEach r env)).any (·.1)) = false
    rw [stars_any h.2]; rfl
section
variable {X : Cx} {e : Expr} {es : List Expr} {te : TE} {t : TA} {pos p : Pos} {CX : CXT} {k : Nat} {f : Addr} {fd : FuncData} {ps : List Str} {sp : Sp} {dvs : List V} {ds : List Value} {E : XK} {x : Str} {id Ty : String} {r : List V → Hp → VK → Prop}
theorem paN (ha : PE X e te) (hr : PA X es t) (h : notStar e = true := by rfl) : PA X (e :: es) (tCons te t) := pa_cons ha hr (star_ne h)
theorem peN_call (F : FnOk X.prog X.w X.K X.mg X.base CX k f fd ps sp) (hr : Room k X.A) (hg : Gl X x) (hm : X.mg x = some (.ref f)) (hk : PySem.W.keepIn X.K (.ref f) = true) (hb : Binds X.K fd ps ds) (hd : Vals dvs ds) (hx : Passes CX X E)
    (ha : PA X (e :: es) t) (hdb : (x == ("__debug__" : Str)) = false := by decide) (h1 : notStar e = true := by rfl) (h2 : noStars es = true := by rfl) : PE X (.Call (.Name x p) (e :: es) [] pos) (tCall sp dvs E t) :=
  pe_call F hr hg hm hk hb hd hx ha hdb (star_ne h1) (stars_any h2)
theorem peN_callB (hc : CallR X (.builtin id) r) (hg : Gl X x) (hm : X.mg x = none) (hv : bootBuiltins x = some (.builtin id)) (ha : PA X (e :: es) t) (hn : x ≠ "__name__" := by decide) (hdb : (x == ("__debug__" : Str)) = false := by decide)
    (h1 : notStar e = true := by rfl) (h2 : noStars es = true := by rfl) : PE X (.Call (.Name x p) (e :: es) [] pos) (tCB r t) := pe_callB hc hg hm hv ha hn hdb (star_ne h1) (stars_any h2)
theorem peN_callTy (hc : CallR X (.type Ty) r) (hg : Gl X x) (hm : X.mg x = none) (hv : bootBuiltins x = some (.type Ty)) (ha : PA X (e :: es) t) (hn : x ≠ "__name__" := by decide) (hdb : (x == ("__debug__" : Str)) = false := by decide)
    (h1 : notStar e = true := by rfl) (h2 : noStars es = true := by rfl) : PE X (.Call (.Name x p) (e :: es) [] pos) (tCB r t) := pe_callTy hc hg hm hv ha hn hdb (star_ne h1) (stars_any h2)
end
end L2
namespace L2
open PySem PySem.Spec PyProof.Rows
structure PAs (X : Cx) (es : List Expr) (t : TA) : Prop where
  run : PA X es t
section
variable {X : Cx} {e o : Expr} {es : List Expr} {te to : TE} {t : TA} {pos p apos cpos : Pos} {CX : CXT} {k : Nat} {f : Addr} {fd : FuncData} {ps : List Str} {sp : Sp} {dvs : List V} {ds : List Value} {E : XK} {x name : Str} {id Ty T : String} {r : List V → Hp → VK → Prop} {rm : V → List V → Hp → VK → Prop}
theorem qa_nil : PAs X [] tNil := ⟨pa_nil⟩
theorem qa (ha : PE X e te) (hr : PAs X es t) (h : notStar e = true) : PAs X (e :: es) (tCons te t) := ⟨paN ha hr.run h⟩
theorem qe_tup {x1} (h : PAs X es t) : PE X (.Tuple es x1 pos) (tTup t) := pe_tup h.run
theorem qe_lst (h : PAs X es t) : PE X (.List es pos) (tLst t) := pe_lst h.run
theorem qe_tupA {x1} (h : PAs X es t) : PE X (.Tuple es x1 pos) (tTupA t) := pe_tupA h.run
theorem qe_lstA (h : PAs X es t) : PE X (.List es pos) (tLstA t) := pe_lstA h.run
theorem qe_call (F : FnOk X.prog X.w X.K X.mg X.base CX k f fd ps sp) (hr : Room k X.A) (hg : Gl X x) (hm : X.mg x = some (.ref f)) (hk : PySem.W.keepIn X.K (.ref f) = true) (hb : Binds X.K fd ps ds) (hd : Vals dvs ds) (hx : Passes CX X E)
    (ha : PAs X (e :: es) t) (hdb : (x == ("__debug__" : Str)) = false) (h1 : notStar e = true) (h2 : noStars es = true) : PE X (.Call (.Name x p) (e :: es) [] pos) (tCall sp dvs E t) := peN_call F hr hg hm hk hb hd hx ha.run hdb h1 h2
theorem qe_callB (hc : CallR X (.builtin id) r) (hg : Gl X x) (hm : X.mg x = none) (hv : bootBuiltins x = some (.builtin id)) (ha : PAs X (e :: es) t) (hn : x ≠ "__name__") (hdb : (x == ("__debug__" : Str)) = false)
    (h1 : notStar e = true) (h2 : noStars es = true) : PE X (.Call (.Name x p) (e :: es) [] pos) (tCB r t) := peN_callB hc hg hm hv ha.run hn hdb h1 h2
theorem qe_callTy (hc : CallR X (.type Ty) r) (hg : Gl X x) (hm : X.mg x = none) (hv : bootBuiltins x = some (.type Ty)) (ha : PAs X (e :: es) t) (hn : x ≠ "__name__") (hdb : (x == ("__debug__" : Str)) = false)
    (h1 : notStar e = true) (h2 : noStars es = true) : PE X (.Call (.Name x p) (e :: es) [] pos) (tCB r t) := peN_callTy hc hg hm hv ha.run hn hdb h1 h2
theorem qe_append (ho : PE X o to) (ha : PAs X (e :: es) t) (hbase : attributeBase o "append" X.env (eval o X.env) = eval o X.env) (h1 : notStar e = true) (h2 : noStars es = true)
    (hfew : ((backTo cpos (starEach (e :: es) X.env)).all (fun x => !x.1) && (backToKw cpos (keywordEach [] X.env)).all (fun x => x.1.isSome) && decide ((e :: es).length + ([] : List Keyword).length + (if ([] : List Keyword).isEmpty then 0 else 1) < 30)) = true)
    (hline : (apos.endLine == cpos.line) = true) : PE X (.Call (.Attribute o "append" apos) (e :: es) [] cpos) (tBM X.K "list" rAppend to t) :=
  pe_bm PySem.F.plainAttrs_list PySem.F.slot_list_append PySem.F.type_list_append mt_append ho ha.run hbase hfew hline (star_ne h1) (stars_any h2)
variable {tg a b : Expr} {ta : TA}
theorem qi_range1 (hg : Gl X "range") (hm : X.mg "range" = none) (ha : PAs X [a] ta) (h1 : notStar a = true) : PI X tg (.Call (.Name "range" p) [a] [] pos) (iRng1 ta) := pi_range1 hg hm ha.run (star_ne h1)
theorem qi_zip {es : List Expr} {k : Nat} {ps : Pos} (hg : Gl X "zip") (hm : X.mg "zip" = none) (ha : PAs X [a, b] ta) (h1 : notStar a = true) (h2 : notStar b = true) : PI X (.Tuple es k ps) (.Call (.Name "zip" p) [a, b] [] pos) (iZip X.K ta) :=
  pi_zip hg hm ha.run (by rw [star_ne h1, star_ne h2]; rfl) (by rw [star_ne h2]; rfl) (by decide +kernel)
end
end L2
namespace L2
open PySem PySem.Spec PyProof.Rows
structure PSw (X : Cx) (st : Stmt) (t : TS) : Prop where
  run : PS X st t
structure PSsw (X : Cx) (sts : List Stmt) (t : TS) : Prop where
  run : PSs X sts t
section
variable {X : Cx} {st : Stmt} {rest body a b : List Stmt} {t u tb : TS} {e tg c iter elt target : Expr} {es ifs : List Expr} {te : TE} {tc tt : TT} {g : TG} {ta : TA} {wi : TI} {pos pos' spos : Pos} {i : Nat} {x : Str}
theorem qss_nil : PSsw X [] tNext := ⟨pss_nil⟩
theorem qss_one (h : PSw X st t) : PSsw X [st] t := ⟨pss_one h.run⟩
theorem qss_cons (h1 : PSw X st t) (h2 : PSsw X rest u) : PSsw X (st :: rest) (tSeq t u) := ⟨pss_cons h1.run h2.run⟩
theorem qs_ret (he : PE X e te) : PSw X (.Return (some e) pos) (tRet te) := ⟨ps_ret he⟩
theorem qs_if (hc : PT X c tc) (ha : PSsw X a t) (hb : PSsw X b u) : PSw X (.If c a b pos) (tIfS tc t u) := ⟨ps_if hc ha.run hb.run⟩
theorem qs_expr (he : PE X e te) (hs : swapsWith e none pos.line X.env = pure false) : PSw X (.Expr e pos) (tDrop te) := ⟨ps_expr he hs⟩
theorem qs_set (hN : X.N.Nodup) (hi : X.N[i]? = some x) (hx : Loc X.env.scope x) (he : PE X e te) (hs : swapsWith e (some (.Name x pos')) pos.line X.env = pure false) (hf : X.fn x = true ∨ X.env.scope.names.lookup x = some .local) :
    PSw X (.Assign [.Name x pos'] e pos) (tAsg te (gName i)) := ⟨ps_set hN hi hx he hs hf⟩
theorem qs_setLA (hN : X.N.Nodup) (hi : X.N[i]? = some x) (hx : Loc X.env.scope x) (h : PAs X es ta) (hf : X.fn x = true ∨ X.env.scope.names.lookup x = some .local) :
    PSw X (.Assign [.Name x pos'] (.List es spos) pos) (tAsg (tLstA ta) (gName i)) := ⟨ps_set hN hi hx (pe_lstA h.run) rfl hf⟩
theorem qs_asg (he : PE X e te) (hg : PG X tg g) (hs : swapsWithSole [tg] e pos.line X.env = pure false) (hw : swappedStores [tg] e X.env = pure none) (h1 : (assignEach [tg] X.env).map (·.2) = [assign tg X.env]) : PSw X (.Assign [tg] e pos) (tAsg te g) := ⟨ps_asg he hg hs hw h1⟩
theorem qs_for (hp : PassesOwn (model X.prog X.w) X.A X.env X.xe) (hc : X.calm = true) (hi : PI X tg iter wi) (hg : PG X tg g) (hb : PSsw X body tb) (hs : ∀ x, foldedSetIterable iter X.env x = pure x) : PSw X (.For tg iter body [] pos) (tFor wi g tb) := ⟨ps_for hp hc hi hg hb.run hs⟩
end
end L2
namespace L2
open PySem
theorem exW {X : Cx} {sts : List Stmt} {P : TS → Prop} (h : ∃ t, PSsw X sts t ∧ P t) : ∃ t, PSs X sts t ∧ P t := let ⟨t, h1, h2⟩ := h; ⟨t, h1.run, h2⟩
end L2

set_option maxRecDepth 100000
namespace HT
open PySem PyProof.Rows
section
open PySem.SeqAt
open PySem.AutoSeq1 (wpAny_loadPart')
open PySem.MeetsSeq PySem.MeetsSeq2 PySem.MeetsSeq3
end
section
variable {prog : Program} {w : World} {A : Around} {E : Value → Shared → Prop} {s : Shared}
end
end HT
namespace L2
open PySem PySem.Spec PyProof.Rows
noncomputable def rGtT (K : PySem.W.Frag) : R2 := fun x y H Q => ∃ a b ns ms, x = .ref a ∧ y = .ref b ∧ SqT K H a (ns.map V.int) ∧ SqT K H b (ms.map V.int) ∧ Q (.bl (HT.lexLt ms ns)) H
noncomputable def rIsnB : R2 := fun x y H Q => ∃ a b, x = .bl a ∧ y = .bl b ∧ Q (.bl (a != b)) H
noncomputable def rIsB : R2 := fun x y H Q => ∃ a b, x = .bl a ∧ y = .bl b ∧ Q (.bl (a == b)) H
section
variable {X : Cx}
end
section
variable {H : Hp} {Q : VK} {K : PySem.W.Frag} {p q : Addr} {ns ms : List Int}
theorem rd_isnB {a b : Bool} (h : Q (.bl (a != b)) H) : rIsnB (.bl a) (.bl b) H Q := ⟨a, b, rfl, rfl, h⟩
theorem rd_isB {a b : Bool} (h : Q (.bl (a == b)) H) : rIsB (.bl a) (.bl b) H Q := ⟨a, b, rfl, rfl, h⟩
end
theorem for_zipW {K : PySem.W.Frag} {a b : Addr} {xs ys : List V} {g : TG} {tb : TS} {D : Ends} {σ : St} {H : Hp} (hxy : xs.length = ys.length) (Pv : Nat → St → Hp → Prop) (h0 : Pv 0 σ H) (hl : ∀ i σ H, i ≤ xs.length → Pv i σ H → SqT K H a xs ∧ SqT K H b ys)
    (hs : ∀ i x y p σ H, xs[i]? = some x → ys[i]? = some y → H p = none → Pv i σ H → g (.ref p) σ (upd H p (.tup [x, y])) fun σ2 H2 => tb { D with nx := Pv (i + 1), ct := Pv (i + 1), bk := D.nx } σ2 H2) (hd : ∀ σ H, Pv xs.length σ H → D.nx σ H) : ForW (Itz K a b) g tb D σ H := by
  refine ⟨fun i m σ H => m = xs.length - i ∧ i ≤ xs.length ∧ Pv i σ H, ⟨xs.length, by simp, Nat.zero_le _, h0⟩, ?_⟩
  rintro i m σ H ⟨rfl, hi, p⟩
  obtain ⟨q1, q2⟩ := hl i σ H hi p
  by_cases hlt : i < xs.length
  · refine .inr ⟨⟨xs, ys, xs[i], ys[i], q1, q2, by simp [hlt], by simp⟩, Pv (i + 1), fun σ' H' p' => ⟨xs.length - (i + 1), by omega, rfl, hlt, p'⟩, ?_⟩
    rintro x H' ⟨r, x1, y1, hn, hx, hy, rfl, rfl⟩
    exact hs i x1 y1 r σ _ (hx xs q1) (hy ys q2) hn p
  · have e : i = xs.length := by omega
    subst e
    exact .inl ⟨⟨xs, ys, q1, q2, .inl (Nat.le_refl _)⟩, hd σ H p⟩
theorem Inv.nk {X : Cx} {pins : List (Addr × Obj)} {σ : St} {H : Hp} {s : Shared} (I : Inv X pins σ H s) : X.K.lookup s.heap.objs.size = none := by
  cases q : X.K.lookup s.heap.objs.size with
  | none => rfl
  | some o => exact absurd (Heap.lt_size (I.kIn _ o q)) (Nat.lt_irrefl _)
noncomputable def rListF (K : PySem.W.Frag) : TR := fun xs H Q => ∃ p ys, xs = [.ref p] ∧ (SqL K H p ys ∨ SqT K H p ys) ∧ ∀ l, H l = none → K.lookup l = none → Q (.ref l) (upd H l (.lst ys))
theorem rd_listFL {K : PySem.W.Frag} {H : Hp} {Q : VK} {p : Addr} {xs : List V} (hq : SqL K H p xs) (h : ∀ l, H l = none → K.lookup l = none → Q (.ref l) (upd H l (.lst xs))) : rListF K [.ref p] H Q := ⟨p, xs, rfl, .inl hq, h⟩
theorem rd_listFT {K : PySem.W.Frag} {H : Hp} {Q : VK} {p : Addr} {xs : List V} (hq : SqT K H p xs) (h : ∀ l, H l = none → K.lookup l = none → Q (.ref l) (upd H l (.lst xs))) : rListF K [.ref p] H Q := ⟨p, xs, rfl, .inr hq, h⟩
end L2
namespace L2
theorem rd_iteG {c A B : Prop} {i : Decidable c} (h : @ite Prop c i A B) : @ite Prop c i A B := h
end L2

set_option maxRecDepth 100000
namespace Mt
open PySem L2
noncomputable def stepL (pl : Int) (a : Int) (p : Int × Int) : Int := if p.2 < pl then p.1 else a
noncomputable def line0 (hs : List (Int × Int)) : Int := match hs with | [] => 0 | p :: _ => p.1
noncomputable def lineOf (hs : List (Int × Int)) (pl : Int) : Int := hs.foldl (stepL pl) (line0 hs)
noncomputable def stand (hs : List (Int × Int)) (e : Int) : Int × Int := if 0 < e then (lineOf hs e, e) else (-1, 0)
mutual
noncomputable def tupOnly : PyData → Bool
  | .none => true
  | .int _ => true
  | .str _ => true
  | .tuple es => tupOnlyAll es
  | _ => false
noncomputable def tupOnlyAll : List PyData → Bool
  | [] => true
  | e :: es => tupOnly e && tupOnlyAll es
end
noncomputable def isNoneD : PyData → Bool
  | .none => true
  | _ => false
noncomputable def intEq (j : Int) : PyData → Bool
  | .int i => decide (i = j)
  | _ => false
noncomputable def strEq (t : Str) : PyData → Bool
  | .str u => decide (u = t)
  | _ => false
noncomputable def subs : PyData → Option (List PyData)
  | .tuple ds => some ds
  | _ => none
mutual
noncomputable def alikeD : PyData → PyData → Bool
  | .none, d => isNoneD d
  | .int j, d => intEq j d
  | .str t, d => strEq t d
  | .tuple es, d => match subs d with
    | some ds => alikeAll es ds
    | none => false
  | _, _ => false
noncomputable def alikeAll : List PyData → List PyData → Bool
  | [], ds => ds.isEmpty
  | e :: es, ds => match ds with
    | [] => false
    | d :: ds => alikeD e d && alikeAll es ds
end
theorem alikeAll_len : ∀ {es ds : List PyData}, alikeAll es ds = true → ds.length = es.length
  | [], [], _ => rfl
  | [], _ :: _, h => by simp [alikeAll] at h
  | _ :: _, [], h => by simp [alikeAll] at h
  | e :: es, d :: ds, h => by
    simp only [alikeAll, Bool.and_eq_true] at h
    rw [List.length_cons, List.length_cons, alikeAll_len h.2]
theorem alikeAll_true : ∀ {es ds : List PyData}, ds.length = es.length → (∀ (i : Nat) (d e : PyData), ds[i]? = some d → es[i]? = some e → alikeD e d = true) → alikeAll es ds = true
  | [], [], _, _ => by simp [alikeAll]
  | [], _ :: _, h, _ => by simp at h
  | _ :: _, [], h, _ => by simp at h
  | e :: es, d :: ds, h, g => by
    simp only [alikeAll, Bool.and_eq_true]
    exact ⟨g 0 d e rfl rfl, alikeAll_true (by simpa using h) fun i d' e' h1 h2 => g (i + 1) d' e' (by simpa using h1) (by simpa using h2)⟩
theorem alikeAll_false : ∀ {es ds : List PyData} {i : Nat} {d e : PyData}, ds[i]? = some d → es[i]? = some e → alikeD e d = false → alikeAll es ds = false
  | [], _, _, _, _, _, h, _ => by simp at h
  | _ :: _, [], _, _, _, h, _, _ => by simp at h
  | e :: es, d :: ds, 0, _, _, h1, h2, h3 => by
    simp at h1 h2; subst h1 h2
    simp [alikeAll, h3]
  | e :: es, d :: ds, i + 1, d', e', h1, h2, h3 => by
    simp only [alikeAll, alikeAll_false (i := i) (by simpa using h1) (by simpa using h2) h3, Bool.and_false]
theorem tupOnly_at : ∀ {es : List PyData} {e : PyData}, tupOnlyAll es = true → e ∈ es → tupOnly e = true
  | x :: es, e, h, m => by
    simp only [tupOnlyAll, Bool.and_eq_true] at h
    rcases List.mem_cons.mp m with rfl | m
    · exact h.1
    · exact tupOnly_at h.2 m
theorem depth_at : ∀ {es : List PyData} {e : PyData} {n : Nat}, PyData.depthAll es ≤ n → e ∈ es → e.depth ≤ n
  | x :: es, e, n, h, m => by
    simp only [PyData.depthAll] at h
    rcases List.mem_cons.mp m with rfl | m
    · exact Nat.le_trans (Nat.le_max_left _ _) h
    · exact depth_at (Nat.le_trans (Nat.le_max_right _ _) h) m
theorem alike_pair (a b c d : Int) : alikeD (.tuple [.int a, .int b]) (.tuple [.int c, .int d]) = (decide (c = a) && decide (d = b)) := by
  simp [alikeD, subs, alikeAll, intEq]
theorem okP_last : ∀ {l f : Int} {ini : List (Int × Int)} {a b : Int}, okP l f (ini ++ [(a, b)]) → ∀ p ∈ ini ++ [(a, b)], p.1 ≤ a
  | l, f, [], a, b, h, p, hp => by
    have : p = (a, b) := by simpa using hp
    rw [this]; exact Int.le_refl _
  | l, f, (x, y) :: r, a, b, h, p, hp => by
    have h5 : okP x y (r ++ [(a, b)]) := h.2.2.2.2
    have hlt : ∀ {l f : Int} {r : List (Int × Int)}, okP l f (r ++ [(a, b)]) → l < a := fun {l f r} => by
      intro q
      induction r generalizing l f with
      | nil => exact q.1
      | cons z r ih => exact Int.lt_trans q.1 (ih q.2.2.2.2)
    rcases List.mem_cons.mp hp with rfl | hp
    · exact Int.le_of_lt (hlt h5)
    · exact okP_last h5 p hp
theorem snoc_of {α : Type} {xs : List α} (h : 1 ≤ xs.length) : ∃ ini x, xs = ini ++ [x] := ⟨xs.dropLast, xs.getLast (by intro z; rw [z] at h; simp at h), (List.dropLast_concat_getLast _).symm⟩
end Mt

set_option maxRecDepth 100000
namespace L2
open PySem PySem.Spec PyProof.Rows

noncomputable def Aloft (N : Addr → Prop) (h : Heap) (e : Addr) (C : Value) (dx : Option Addr) (fl : Value) : Prop :=
  ∃ oe vs, h.get? e = some oe ∧ oe.cls = C ∧ oe.dict = dx ∧ oe.data = .fields vs ∧ 1 < vs.size ∧
    (vs[1]? = some .none ∧ fl = .none ∨ ∃ T oT ts, vs[1]? = some (.ref T) ∧ N T ∧ T ≠ e ∧ h.get? T = some oT ∧ oT.data = .fields ts ∧ ts[3]? = some fl)
theorem dict_mapF (o : Obj) (f : Array Value → Array Value) : (o.mapFields f).dict = o.dict := by
  obtain ⟨c, d, dt, sl⟩ := o
  cases dt <;> rfl
noncomputable def Stn (N : Addr → Prop) (fs : List Addr) (e : Addr) (h h' : Heap) : Prop :=
  ∀ b o, b ≠ e → ¬ N b → h.get? b = some o → (∃ sl, h'.get? b = some { o with slots := sl }) ∧ (b ∉ fs → h'.get? b = some o)
theorem Stn.refl {N : Addr → Prop} {fs : List Addr} {e : Addr} {h : Heap} : Stn N fs e h h := fun b o _ _ q => ⟨⟨o.slots, q⟩, fun _ => q⟩
theorem Stn.trans {N : Addr → Prop} {fs : List Addr} {e : Addr} {h h1 h2 : Heap} (a : Stn N fs e h h1) (b : Stn N fs e h1 h2) : Stn N fs e h h2 := fun c o n1 n2 q => by
  obtain ⟨⟨sl, q1⟩, k1⟩ := a c o n1 n2 q
  obtain ⟨⟨sl2, q2⟩, _⟩ := b c _ n1 n2 q1
  exact ⟨⟨sl2, q2⟩, fun hc => (b c o n1 n2 (k1 hc)).2 hc⟩

section
variable {M : Model} {A : Around} {E : Value → Shared → Prop} {s : Shared} {N : Addr → Prop} {base : Heap} {env : Env} {outer : List Env} {L e : Addr} {C : Value} {dx : Option Addr}

theorem stn_turn {T : Addr} {f : Obj → Obj} {h : Heap} (hN : N T) : Stn N fs e h (h.update T f) := fun b o n1 n2 q => by
  have : T ≠ b := fun z => n2 (z ▸ hN)
  exact ⟨⟨o.slots, (Heap.get?_update_other _ _ this).trans q⟩, fun _ => (Heap.get?_update_other _ _ this).trans q⟩

theorem mark_on {head : Value} {hadNext : Bool} {oe : Obj} {vs : Array Value} {Q : Unit → Shared → Prop} (hA : A.frames = some (env :: outer)) (hF : s.heap.FunFrames base (env :: outer)) (hL : env.frame = some L)
    (new : ∀ b, s.heap.objs.size ≤ b → N b) (nf : ∀ b ∈ frs (env :: outer), b ≠ e ∧ ¬ N b) (q0 : s.heap.get? e = some oe) (q1 : oe.cls = C) (q2 : oe.dict = dx) (q3 : oe.data = .fields vs) (q4 : 1 < vs.size)
    (k : ∀ h', Aloft N h' e C dx (rawInt L) → Stn N (frs (env :: outer)) e s.heap h' → h'.FunFrames base (env :: outer) → Q () { s with heap := h' }) :
    wpAny M A (do setField (.ref e) 1 (← EntryCells.newEntry head (← frameOf env) .none (rawInt L) .none (← entryPlaceOf L hadNext))) Q E s := by
  refine wpAny_bind (wpAny_frameOf_fun hA hF hL fun g x => ?_)
  refine wpAny_bind (wpAny_entryPlaceOf fun pl p => ?_)
  have k1 : g.get? e = some oe := (x.2.1 e fun z => (nf e z).1 rfl).trans q0
  have z1 : g.objs.size = s.heap.objs.size := x.1
  unfold EntryCells.newEntry newFields
  refine wpAny_bind (wpAny_newObj_type ?_ (p.sizeOk5 _ _ _ _ _))
  generalize hob : ({ cls := .type "traceback", dict := none, data := .fields ([head, .ref L, .none, rawInt L, .none] ++ (if pl.isEmpty then List.replicate 6 Value.none else pl)).toArray } : Obj) = ob
  have k2 := Heap.get?_push_of_some (h := g) ob k1
  have eT : g.objs.size ≠ e := Nat.ne_of_gt (Heap.lt_size k1)
  have obf : ob.isFreed = false := by rw [← hob]; rfl
  have t2 : (g.push ob).get? g.objs.size = some ob := Heap.get?_push_size g obf
  refine wpAny_setField k2 q3 q4 (k _ ?_ ?_ ?_)
  · have d3 := Obj.data_mapFields q3 (·.setIfInBounds 1 (Value.ref g.objs.size))
    refine ⟨_, _, Heap.get?_update_self _ k2 (Obj.isFreed_of_fields d3), (Obj.cls_mapFields _ _).trans q1, (dict_mapF _ _).trans q2, d3, by simpa using q4, .inr ⟨g.objs.size, ob, _, by simp [q4], new _ (by omega), eT, (Heap.get?_update_other _ _ (Ne.symm eT)).trans t2, by rw [← hob], ?_⟩⟩
    first | (simp; done) | (rcases p with rfl | ⟨_, _, _, _, _, _, _, rfl⟩ <;> simp)
  · intro b o n1 n2 q
    have nT : g.objs.size ≠ b := by rw [z1]; exact Nat.ne_of_gt (Heap.lt_size q)
    obtain ⟨sl, r⟩ := x.2.2 b o q
    exact ⟨⟨sl, (Heap.get?_update_other _ _ (Ne.symm n1)).trans (Heap.get?_push_of_some _ r)⟩, fun nb => (Heap.get?_update_other _ _ (Ne.symm n1)).trans (Heap.get?_push_of_some _ ((x.2.1 b nb).trans q))⟩
  · have hg := hF.of_slotsOnly x
    refine hg.of_keeps fun b o q nd => ?_
    by_cases hb : b = e
    · subst hb
      rw [k1] at q; cases q
      exact absurd q3 (nd vs)
    · exact ⟨o, (Heap.get?_update_other _ _ (Ne.symm hb)).trans (Heap.get?_push_of_some _ q), rfl⟩
theorem frames_turn {T : Addr} {oT : Obj} {ts : Array Value} {f : Obj → Obj} {h : Heap} (q : h.get? T = some oT) (hd : oT.data = .fields ts) (hF : h.FunFrames base l) : (h.update T f).FunFrames base l :=
  hF.of_keeps fun b o r nd => by
    have : T ≠ b := fun z => by subst z; rw [q] at r; cases r; exact nd ts hd
    exact ⟨o, (Heap.get?_update_other _ _ this).trans r, rfl⟩

theorem land {l : List Env} {fl : Value} {Q : Unit → Shared → Prop} (hF : s.heap.FunFrames base l) (a : Aloft N s.heap e C dx fl)
    (k : ∀ h', Aloft N h' e C dx .none → Stn N fs e s.heap h' → h'.FunFrames base l → Q () { s with heap := h' }) : wpAny M A (setFlight (.ref e) none) Q E s := by
  obtain ⟨oe, vs, q0, q1, q2, q3, q4, r⟩ := a
  unfold setFlight
  rcases r with ⟨r, _⟩ | ⟨T, oT, ts, r1, r2, r3, r4, r5, r6⟩
  · refine wpAny_bind (wpAny_field q0 q3 r ?_)
    rw [if_neg (by decide)]
    exact wpAny_pure (k s.heap ⟨oe, vs, q0, q1, q2, q3, q4, .inl ⟨r, rfl⟩⟩ Stn.refl hF)
  · refine wpAny_bind (wpAny_field q0 q3 r1 ?_)
    rw [if_pos (by simp)]
    have h3 : 3 < ts.size := (Array.getElem?_eq_some_iff.mp r6).1
    refine wpAny_setField r4 r5 h3 (k _ ⟨oe, vs, (Heap.get?_update_other _ _ r3).trans q0, q1, q2, q3, q4, .inr ⟨T, _, _, r1, r2, r3, Heap.get?_update_self _ r4 (Obj.isFreed_of_fields (Obj.data_mapFields r5 _)), Obj.data_mapFields r5 _, by simp [h3]⟩⟩ (stn_turn r2) (frames_turn r4 r5 hF))

theorem note_on {Q : Unit → Shared → Prop} (hA : A.frames = some (env :: outer)) (hF : s.heap.FunFrames base (env :: outer)) (hL : env.frame = some L)
    (new : ∀ b, s.heap.objs.size ≤ b → N b) (nf : ∀ b ∈ frs (env :: outer), b ≠ e ∧ ¬ N b) (a : Aloft N s.heap e C dx .none)
    (k : ∀ h', Aloft N h' e C dx (rawInt L) → Stn N (frs (env :: outer)) e s.heap h' → h'.FunFrames base (env :: outer) → Q () { s with heap := h' }) : wpAny M A (noteFrame (.ref e) env) Q E s := by
  obtain ⟨oe, vs, q0, q1, q2, q3, q4, r⟩ := a
  unfold noteFrame
  simp only [hL]
  rcases r with ⟨r, _⟩ | ⟨T, oT, ts, r1, r2, r3, r4, r5, r6⟩
  · refine wpAny_bind (wpAny_field q0 q3 r ?_)
    rw [if_neg (by decide)]
    exact mark_on hA hF hL new nf q0 q1 q2 q3 q4 k
  · refine wpAny_bind (wpAny_field q0 q3 r1 ?_)
    rw [if_pos (by simp)]
    refine wpAny_bind (wpAny_field r4 r5 r6 ?_)
    rw [if_neg (by simp [rawInt])]
    have h3 : 3 < ts.size := (Array.getElem?_eq_some_iff.mp r6).1
    refine wpAny_bind (wpAny_setField r4 r5 h3 ?_)
    refine mark_on (s := { s with heap := s.heap.update T (Obj.mapFields (·.setIfInBounds 3 Value.none)) }) hA (frames_turn r4 r5 hF) hL (fun b z => new b ?_) nf ((Heap.get?_update_other _ _ r3).trans q0) q1 q2 q3 q4 fun h' a1 a2 a3 => k h' a1 ((stn_turn r2).trans a2) a3
    simpa using z

theorem leave_on {Q : Unit → Shared → Prop} (hA : A.frames = some (env :: outer)) (hF : s.heap.FunFrames base (env :: outer)) (hL : env.frame = some L)
    (new : ∀ b, s.heap.objs.size ≤ b → N b) (nf : ∀ b ∈ frs (env :: outer), b ≠ e ∧ ¬ N b) (a : Aloft N s.heap e C dx .none)
    (k : ∀ h', Aloft N h' e C dx .none → Stn N (frs (env :: outer)) e s.heap h' → Q () { s with heap := h' }) : wpAny M A (leaving env (.ref e)) Q E s := by
  unfold leaving
  refine wpAny_bind (note_on hA hF hL new nf a fun h1 a1 a2 a3 => ?_)
  exact land (s := { s with heap := h1 }) a3 a1 fun h2 b1 b2 _ => k h2 b1 (a2.trans b2)
end
end L2

set_option maxRecDepth 100000
namespace L2
open PySem PySem.Spec PyProof.Rows

noncomputable def Since (h₀ : Heap) (H : Hp) (b : Addr) : Prop := h₀.get? b = none ∧ H b = none
noncomputable def CX1 (P : Program) (w : World) : CXT := fun outer H s E e s' =>
  ∃ (a : Addr) (C : Value) (dx : Option Addr) (H' : Hp), e = .ref a ∧ s'.os = s.os ∧ AllBare s'.gens ∧ Un (frs outer) [] H H' s.heap s'.heap ∧ HOk P w H' s'.heap ∧ Since s.heap H' a ∧ Aloft (Since s.heap H') s'.heap a C dx .none ∧ E C dx H'
theorem Aloft.mono {N N' : Addr → Prop} {h : Heap} {e : Addr} {C : Value} {dx : Option Addr} {fl : Value} (a : Aloft N h e C dx fl) (k : ∀ b, N b → N' b) : Aloft N' h e C dx fl := by
  obtain ⟨oe, vs, q0, q1, q2, q3, q4, r⟩ := a
  refine ⟨oe, vs, q0, q1, q2, q3, q4, ?_⟩
  rcases r with r | ⟨T, oT, ts, r1, r2, r⟩
  · exact .inl r
  · exact .inr ⟨T, oT, ts, r1, k _ r2, r⟩
theorem since_of {P : Program} {w : World} {H H' : Hp} {h h' : Heap} {fs : List Addr} (u : Un fs [] H H' h h') (hok : HOk P w H' h') : ∀ b, h'.objs.size ≤ b → Since h H' b := fun b z => by
  refine ⟨?_, hok.fresh z⟩
  cases q : h.get? b with
  | none => rfl
  | some o =>
    obtain ⟨o', q'⟩ := u.there b o q (by simp)
    exact absurd (Nat.lt_of_lt_of_le (Heap.lt_size q') z) (Nat.lt_irrefl _)
theorem hok_stn {P : Program} {w : World} {H : Hp} {h h' : Heap} {N : Addr → Prop} {fs : List Addr} {e : Addr} (hok : HOk P w H h) (st : Stn N fs e h h') (hN : ∀ b, N b → H b = none) (he : H e = none) (hf : ∀ b ∈ fs, H b = none) : HOk P w H h' := fun a o q =>
  (hok a o q).stay (fun b u hb r => by
    have nb : H b ≠ none := by
      rcases hb with rfl | hb
      · rw [q]; simp
      · rw [hb]; simp
    exact (st b u (fun z => nb (z ▸ he)) (fun z => nb (hN b z)) r).2 fun z => nb (hf b z)) (fun _ q => q) fun _ _ q => q

section
variable {P : Program} {w : World} {X : Cx} {pins : List (Addr × Obj)} {σ : St} {H H' : Hp} {s s' : Shared} {e : Addr} {C : Value} {dx : Option Addr}
theorem Inv.stn {h' : Heap} (I : Inv X pins σ H s) (st : Stn N (frs X.stack) e s.heap h') (hN : ∀ b, N b → H b = none ∧ s₁.heap.get? b = none) (he : H e = none ∧ s₁.heap.get? e = none)
    (I₁ : Inv X pins σ H₁ s₁) (un : Un (frs X.stack) [] H₁ H s₁.heap s.heap) : Inv X pins σ H { s with heap := h' } := by
  have k : ∀ b o, s₁.heap.get? b = some o → ∀ o', s.heap.get? b = some o' → (∃ sl, h'.get? b = some { o' with slots := sl }) ∧ (b ∉ frs X.stack → h'.get? b = some o') := fun b o q o' q' =>
    st b o' (fun z => by rw [z, he.2] at q; cases q) (fun z => by rw [(hN b z).2] at q; cases q) q'
  have hu : Un (frs X.stack) [] H₁ H s₁.heap h' := by
    refine ⟨fun b o q n hb hx => ?_, fun b o q n hb hx => ?_, un.free, fun b o q hx => ?_, un.tups, un.frzs, un.tbls⟩
    · exact (k b o q o (un.keep b o q n hb hx)).2 hb
    · obtain ⟨sl, r⟩ := un.slot b o q n hb hx
      exact (k b o q _ r).1
    · obtain ⟨o', r⟩ := un.there b o q hx
      obtain ⟨sl, r2⟩ := (k b o q o' r).1
      exact ⟨_, r2⟩
  have ok : HOk X.prog X.w H h' := hok_stn I.hok st (fun b z => (hN b z).1) he.1 I.stkFree
  obtain ⟨hh, g, d, t, os⟩ := s
  have e1 : os = s₁.os := I.os.trans I₁.os.symm
  subst e1
  have fin := Inv.call (s := s₁) (h' := h') (g' := g) (t' := t) (d' := d) (ch := []) I₁ hu ok I.bare (fun b z => absurd z (by simp))
  exact fin

theorem Inv.cx1 (I : Inv X pins σ H s) (h : Un (frs X.stack) [] H H' s.heap s'.heap) (ho : s'.os = s.os) (hb : AllBare s'.gens) (hk : HOk X.prog X.w H' s'.heap) : Inv X pins σ H' s' := by
  obtain ⟨hh, g, d, t, os'⟩ := s'
  obtain rfl : os' = s.os := ho
  exact I.call (h' := hh) (g' := g) (d' := d) (t' := t) (ch := []) h hk hb (fun b z => absurd z (by simp))
theorem Inv.nfr (I : Inv X pins σ H s) (he : s.heap.get? e = none) : ∀ b ∈ frs X.stack, b ≠ e ∧ ¬ Since s.heap H' b := fun b hb => by
  obtain ⟨_, o, q, _⟩ := I.stack.mem hb
  exact ⟨fun z => (by rw [z, he] at q; cases q), fun z => (by rw [z.1] at q; cases q)⟩
end

theorem pass1 {P : Program} {w : World} {K : PySem.W.Frag} {mg : Str → Option Value} {base : Heap} {N : List Str} {qual : Str} {scope : Scope} {f : Addr} {cd : Value} {A : Around} {outer : List Env} {s₀ : Shared} {H₀ : Hp} {E : XK} :
    Passes (CX1 P w) (cxOf (CX1 P w) P w K mg base N qual scope f cd A outer s₀ H₀ E) E := by
  intro pins σ H s e s' I h
  obtain ⟨a, C, dx, H', rfl, o1, b1, un, hok, na, al, q⟩ := h
  have J := I.cx1 un o1 b1 hok
  refine leave_on (N := Since s.heap H') (base := base) (outer := outer) (L := s₀.heap.objs.size) I.ok.frames J.stack rfl (since_of un hok) (I.nfr na.1) al fun h' al' st => ?_
  have J2 : Inv (cxOf (CX1 P w) P w K mg base N qual scope f cd A outer s₀ H₀ E) pins σ H' { s' with heap := h' } := J.stn (s₁ := s) (H₁ := H) st (fun b z => ⟨z.2, z.1⟩) ⟨na.2, na.1⟩ I un
  have old : ∀ b, s.heap.get? b = none → s₀.heap.get? b = none := fun b z => by
    cases r : s₀.heap.get? b with
    | none => rfl
    | some o =>
      obtain ⟨o', r'⟩ := I.base.there b o r (by show b ∉ ([] : List Addr); simp)
      rw [z] at r'; cases r'
  exact ⟨a, C, dx, H', rfl, J2.os, J2.bare, J2.base, J2.hok, ⟨old a na.1, na.2⟩, al'.mono fun b z => ⟨old b z.1, z.2⟩, q⟩
end L2

set_option maxRecDepth 100000
namespace L2
open PySem PySem.Spec PyProof.Rows

noncomputable def Px (X : Cx) (XR : St → XK) : Prop := ∀ (pins : List (Addr × Obj)) (σ : St) (H : Hp) (s : Shared) (e : Value) (s' : Shared), Inv X pins σ H s → CX1 X.prog X.w X.stack H s (XR σ) e s' → X.xe e s'
theorem px1 {P : Program} {w : World} {K : PySem.W.Frag} {mg : Str → Option Value} {base : Heap} {N : List Str} {qual : Str} {scope : Scope} {f : Addr} {cd : Value} {A : Around} {outer : List Env} {s₀ : Shared} {H₀ : Hp} {E : XK} :
    Px (cxOf (CX1 P w) P w K mg base N qual scope f cd A outer s₀ H₀ E) (fun _ => E) := fun pins σ H s e s' I h => pass1 pins σ H s e s' I h

noncomputable def tCallX (sp : Sp) (dvs : List V) (XR : St → XK) (t : TA) : TE := fun σ H Q => t σ H fun vs H1 => sp (vs ++ dvs) H1 Q (XR σ)
section
variable {X : Cx} {e : Expr} {es : List Expr} {t : TA} {pos p : Pos} {k : Nat} {f : Addr} {fd : FuncData} {ps : List Str} {sp : Sp} {dvs : List V} {ds : List Value} {XR : St → XK} {x : Str}
theorem run_fnX {pins : List (Addr × Obj)} {σ : St} {H : Hp} {s : Shared} {Q : VK} {us : List Value} {vs : List V} (F : FnOk X.prog X.w X.K X.mg X.base (CX1 X.prog X.w) k f fd ps sp) (hr : Room k X.A) (hb : Binds X.K fd ps ds) (hd : Vals dvs ds) (hx : Px X XR)
    (I : Inv X pins σ H s) (r : Vals vs us) (h : sp (vs ++ dvs) H Q (XR σ)) : wpAny (model X.prog X.w) X.A (call (.ref f) us) (EP X pins σ Q) X.xe s := by
  have r2 : Vals (vs ++ dvs) (us ++ ds) := r.append hd
  have hl : (us ++ ds).length = ps.length := by rw [← r2.length]; exact F.len _ _ _ _ h
  refine wpAny_call (codeAny_mono (F.run X.A X.stack s H ⟨us, []⟩ (us ++ ds) (vs ++ dvs) Q (XR σ) hr I.env0 (hb s us I.kIn hl) r2 h) fun r s' hq => ?_)
  cases r with
  | error e => exact hx pins σ H s e s' I hq
  | ok fl =>
    cases fl with
    | ret u => exact I.after hq
    | next => exact False.elim hq
    | brk => exact False.elim hq
    | cont => exact False.elim hq
theorem qe_callX (F : FnOk X.prog X.w X.K X.mg X.base (CX1 X.prog X.w) k f fd ps sp) (hr : Room k X.A) (hg : Gl X x) (hm : X.mg x = some (.ref f)) (hk : PySem.W.keepIn X.K (.ref f) = true) (hb : Binds X.K fd ps ds) (hd : Vals dvs ds) (hx : Px X XR)
    (ha : PAs X (e :: es) t) (hdb : (x == ("__debug__" : Str)) = false) (h1 : notStar e = true) (h2 : noStars es = true) : PE X (.Call (.Name x p) (e :: es) [] pos) (tCallX sp dvs XR t) := by
  intro pins s σ H Q I h
  refine wpAny_Call_Name_kw (ld_glob I hg hm ?_ hdb)
  refine PySem.W.callWith_K (h₀ := X.base) I.ok.mod.kin hk (thn (ha.run pos pins s σ H _ I h) fun us s1 ⟨vs, H1, I1, r, q⟩ => ⟨I1.kIn, ?_⟩) (star_ne h1) (stars_any h2)
  exact run_fnX F hr hb hd hx I1 r q
end

theorem Fun.okX {P : Program} {w : World} {K : PySem.W.Frag} {mg : Str → Option Value} {base : Heap} {x qual : Str} {st : Stmt} {f : Addr} {fd : FuncData} {N ps : List Str} {k : Nat} {sp : Sp} (F : Fun K x qual st f fd) (S : FnScope N ps (defScope st)) (len : ∀ vs H Q E, sp vs H Q E → vs.length = ps.length)
    (hbody : ∀ (cdv : Value) (A : Around) (outer : List Env) (s : Shared) (H : Hp) (vs : List V) (Q : VK) (E : XK), Room k (A.deeper (envOfC qual (defScope st) s.heap.objs.size f cdv)) → sp vs H Q E →
      ∃ t, PSs (cxOf (CX1 P w) P w K mg base N qual (defScope st) f cdv A outer s H E) (defBody st) t ∧ t { nx := fun _ H' => Q .non H', rt := Q } (start N vs) H) : FnOk P w K mg base (CX1 P w) (k + 1) f fd ps sp := by
  obtain ⟨oc, od, kV, doc, pm, an, cdv, ct, osl, rfl, lk, hcd⟩ := F.ex
  exact fn_of lk hcd S len fun A outer s H vs Q E hr hsp => hbody cdv A outer s H vs Q E hr hsp

noncomputable def Cx.tr (X : Cx) (xe' : Value → Shared → Prop) (pn' : List (Addr × Obj)) : Cx := { X with xe := xe', pn := X.pn ++ pn' }
noncomputable def Cx.su (X : Cx) (e : Addr) : Cx := { X with A := X.A.mark (some (.ref e)), calm := false, xe := fun _ _ => False }
section
variable {X : Cx} {pins pins' pn' : List (Addr × Obj)} {σ : St} {H : Hp} {s : Shared} {xe' : Value → Shared → Prop} {e : Addr}
theorem Cx.Ok.tr (ok : X.Ok) : (X.tr xe' pn').Ok := ⟨ok.mod, ok.kind, ok.glob, ok.blt, ok.above, ok.inj, ok.has, ok.cab, ok.hd, ok.frames, ok.stk, ok.exf, ok.bs, ok.bsz, ok.noex, ok.exfs, ok.funs, ok.frf⟩
theorem Cx.Ok.su (ok : X.Ok) : (X.su e).Ok := ⟨ok.mod, ok.kind, ok.glob, ok.blt, ok.above, ok.inj, ok.has, ok.cab, fun z => (by cases z), ok.frames, ok.stk, ok.exf, ok.bs, ok.bsz, ok.noex, ok.exfs, ok.funs, ok.frf⟩
theorem Inv.tr (I : Inv X pins σ H s) : Inv (X.tr xe' pins) [] σ H s := ⟨I.ok.tr, I.os, I.bare, I.base, I.loc, I.cell, I.free, I.freeC, fun p hp => I.pin p (by simpa [Cx.tr] using hp), I.hok, I.len⟩
theorem Inv.untr (ok : X.Ok) (I : Inv (X.tr xe' pins) pins' σ H s) : Inv X pins σ H s := ⟨ok, I.os, I.bare, I.base, I.loc, I.cell, I.free, I.freeC, fun p hp => I.pin p (List.mem_append_left _ hp), I.hok, I.len⟩
theorem Inv.su (I : Inv X pins σ H s) : Inv (X.su e) pins σ H s := ⟨I.ok.su, I.os, I.bare, I.base, I.loc, I.cell, I.free, I.freeC, I.pin, I.hok, I.len⟩
theorem Inv.unsu (ok : X.Ok) (I : Inv (X.su e) pins σ H s) : Inv X pins σ H s := ⟨ok, I.os, I.bare, I.base, I.loc, I.cell, I.free, I.freeC, I.pin, I.hok, I.len⟩
theorem Inv.gone {h' : Heap} {m : Str → Option Value} {v : Option Value} {i : Nat} {x : Str} {t' : Nat} (I : Inv X pins σ H s) (hN : X.N.Nodup) (hi : X.N[i]? = some x) (hn : s.heap.Ns X.env.locals m) (hm : ∀ (i : Nat) (y : Str) (v : V), X.N[i]? = some y → σ[i]? = some (some v) → Vis X.env.scope y → ∃ u, RelV v u ∧ Look X.env s.heap m y u)
    (hn' : h'.Ns X.env.locals (fun y => if y = x then v else m y)) (sb : Heap.SameBut X.env.locals s.heap h') : Inv X pins (σ.set i none) H { s with heap := h', toks := t' } := by
  have hL : ∃ o, s.heap.get? X.env.locals = some o ∧ H X.env.locals = none := by
    obtain ⟨o, _, _, ho, _⟩ := id hn
    exact ⟨o, ho, I.free⟩
  have old : ∀ b o, X.s₀.heap.get? b = some o → b ≠ X.env.locals := fun b o z => Nat.ne_of_lt (Nat.lt_of_lt_of_le (Heap.lt_size z) I.ok.above)
  refine ⟨I.ok, I.os, I.bare, ⟨fun b o z n hb hx => (sb.2 b (old b o z)).trans (I.base.keep b o z n hb hx), fun b o z n hb hx => ?_, I.base.free, fun b o z hx => ?_, I.base.tups, I.base.frzs, I.base.tbls⟩, ⟨_, hn', fun j y v' e1 e2 e3 => ?_⟩, fun y c z => ?_, I.free, I.freeC, fun p hp => ?_, fun b ob z => ?_, by simpa using I.len⟩
  · obtain ⟨sl, q⟩ := I.base.slot b o z n hb hx
    exact ⟨sl, (sb.2 b (old b o z)).trans q⟩
  · obtain ⟨o', q⟩ := I.base.there b o z hx
    exact ⟨o', (sb.2 b (old b o z)).trans q⟩
  · by_cases hj : j = i
    · subst hj
      have hlt : j < σ.length := by rw [I.len]; exact (List.getElem?_eq_some_iff.mp hi).1
      rw [List.getElem?_set_self hlt] at e2
      cases e2
    · rw [List.getElem?_set_ne (Ne.symm hj)] at e2
      obtain ⟨u, r, l⟩ := hm j y v' e1 e2 e3
      refine ⟨u, r, ?_⟩
      rcases l with ⟨k, q⟩ | ⟨k, c, q, z⟩
      · have : y ≠ x := fun z => hj (nodup_ix hN e1 (z ▸ hi))
        exact .inl ⟨k, by simp [this, q]⟩
      · exact .inr ⟨k, c, q, z.sameBut sb (I.cne y c q)⟩
  · obtain ⟨w', q⟩ := I.cell y c z
    exact ⟨w', q.sameBut sb (I.cne y c z)⟩
  · obtain ⟨q, n, ne, nf, d⟩ := I.pin p hp
    exact ⟨(sb.2 p.1 ne).trans q, n, ne, nf, d⟩
  · refine (I.hok b ob z).stay (fun c w' hc q => (sb.2 c ?_).trans q) (fun _ q => q) fun _ _ q => q
    rintro rfl
    rcases hc with rfl | hc
    · rw [I.free] at z; cases z
    · rw [I.free] at hc; cases hc
end
end L2

set_option maxRecDepth 100000
namespace L2
open PySem PySem.Spec PyProof.Rows
noncomputable def ExcIs (a : Addr) (C : Value) (dx : Option Addr) (h : Heap) : Prop := ∃ oe vs, h.get? a = some oe ∧ oe.cls = C ∧ oe.dict = dx ∧ oe.data = .fields vs
theorem ExcIs.ok {P : Program} {w : World} {H : Hp} {h : Heap} {a : Addr} {C : Value} {dx : Option Addr} (x : ExcIs a C dx h) : ObjOk P w H h a (.ext (ExcIs a C dx)) := by
  obtain ⟨oe, vs, q, r⟩ := id x
  refine ⟨x, ⟨oe, q⟩, fun h1 h2 ⟨oe', vs', q', r'⟩ k => ⟨oe', vs', k _ q', r'⟩⟩
noncomputable def Ends.un (D : Ends) (i : Nat) : Ends := { nx := fun σ2 H2 => D.nx (σ2.set i none) H2, rt := D.rt, bk := fun σ2 H2 => D.bk (σ2.set i none) H2, ct := fun σ2 H2 => D.ct (σ2.set i none) H2 }
noncomputable def tTry (K : PySem.W.Frag) (B : Addr) (i : Nat) (tb : (St → XK) → TS) (ts : TS) : TS := fun D σ H =>
  tb (fun σ' C dx H' => PySem.W.exmOne K C (.ref B) = some true ∧ ∀ a, H' a = none → ts (D.un i) (σ'.set i (some (.ref a))) (upd H' a (.ext (ExcIs a C dx)))) D σ H

theorem looks_cls {M : Model} {h : Heap} {e : Addr} {oe : Obj} (q : h.get? e = some oe) : PySem.W.Looks M h (typeOf (.ref e)) oe.cls := by
  intro A Q E s k z
  unfold typeOf
  exact wpAny_bind (wpAny_loadPart (k _ _ q) (wpAny_pure z))
theorem aloft_is {N : Addr → Prop} {h : Heap} {e : Addr} {C : Value} {dx : Option Addr} {fl : Value} (a : Aloft N h e C dx fl) : ExcIs e C dx h := by
  obtain ⟨oe, vs, q0, q1, q2, q3, _⟩ := a
  exact ⟨oe, vs, q0, q1, q2, q3⟩
theorem Inv.trackE {X : Cx} {pins : List (Addr × Obj)} {σ : St} {H : Hp} {s : Shared} {a : Addr} {o : HO} (I : Inv X pins σ H s) (hn : H a = none) (n0 : X.s₀.heap.get? a = none) (n1 : a ≠ X.env.locals) (n2 : ∀ x c, X.env.cells.lookup x = some c → c ≠ a) (n3 : ∀ p ∈ X.pn ++ pins, p.1 ≠ a)
    (new : ObjOk X.prog X.w (upd H a o) s.heap a o) : Inv X pins σ (upd H a o) s := by
  have ne : ∀ b u, H b = some u → b ≠ a := fun b u q z => by rw [z, hn] at q; cases q
  refine ⟨I.ok, I.os, I.bare, ⟨I.base.keep, I.base.slot, fun b u q n hx => ?_, I.base.there, fun b xs q => ?_, fun b u xs q => ?_, fun b ps q => ?_⟩, I.loc, I.cell, ?_, fun y c q => ?_, fun p hp => ?_, fun b u q => ?_, I.len⟩
  · rw [upd_ne (fun z => by rw [z, n0] at q; cases q)]; exact I.base.free b u q n hx
  · rw [upd_ne (ne _ _ (I.base.tups b xs q))]; exact I.base.tups b xs q
  · rw [upd_ne (ne _ _ (I.base.frzs b u xs q))]; exact I.base.frzs b u xs q
  · obtain ⟨m, r⟩ := I.base.tbls b ps q
    exact ⟨m, by rw [upd_ne (ne _ _ r)]; exact r⟩
  · rw [upd_ne (Ne.symm n1)]; exact I.free
  · rw [upd_ne (n2 y c q)]; exact I.freeC y c q
  · obtain ⟨q, n, r⟩ := I.pin p hp
    exact ⟨q, by rw [upd_ne (n3 p hp)]; exact n, r⟩
  · by_cases hb : b = a
    · subst hb; rw [upd_same] at q; cases q; exact new
    · rw [upd_ne hb] at q
      exact (I.hok b u q).stay (fun c v _ r => r) (fun c r => by rw [upd_ne (ne _ _ r)]; exact r) fun c xs r => by rw [upd_ne (ne _ _ r)]; exact r
section
variable {X : Cx} {b₀ : Stmt} {body suite : List Stmt} {c x : Str} {p hp pos : Pos} {B : Addr} {i : Nat} {tb : (St → XK) → TS} {ts : TS}
theorem ps_try (hN : X.N.Nodup) (hi : X.N[i]? = some x) (hx : X.env.scope.names.lookup x = some .local) (hg : Gl X c) (hm : X.mg c = some (.ref B)) (hst : X.stack = X.env :: X.outer) (hfr : X.env.frame = some X.env.locals) (hex : X.ex = [])
    (hb : ∀ (xe' : Value → Shared → Prop) (pn' : List (Addr × Obj)) (XR : St → XK), Px (X.tr xe' pn') XR → PSs (X.tr xe' pn') body (tb XR)) (hs : ∀ e : Addr, PSs (X.su e) (b₀ :: suite) ts) (hdb : (c == ("__debug__" : Str)) = false) :
    PS X (.Try body [.ExceptHandler (some (.Name c p)) (some x) (b₀ :: suite) hp] [] [] pos) (tTry X.K B i tb ts) := by
  intro pins s σ H D I h
  refine wpAny_Try_except ?_
  refine wpAny_mono (hb _ pins _ ?_ [] s σ H D I.tr h) (fun f s1 q => ?_) (fun e s1 q => q)
  · intro pins' σ1 H1 s1 ev s2 I1 hq
    obtain ⟨a, C, dx, H2, rfl, o1, b1, un, hok, na, al, hm1, hk⟩ := hq
    have J := I1.cx1 un o1 b1 hok
    have un' : Un (frs X.stack) [] H1 H2 s1.heap s2.heap := un
    show wpAny (model X.prog X.w) X.A (noteFrame (.ref a) X.env) (fun _ s₂ => wpAny (model X.prog X.w) X.A (setFlight (.ref a) none) (fun _ s₃ => wpAny (model X.prog X.w) X.A (handleBy (.ref a) X.env [.ExceptHandler (some (.Name c p)) (some x) (b₀ :: suite) hp]) (SP X pins D) X.xe s₃) X.xe s₂) X.xe s2
    have Jst : s2.heap.FunFrames X.base (X.env :: X.outer) := by rw [← hst]; exact J.stack
    have nf : ∀ b ∈ frs (X.env :: X.outer), b ≠ a ∧ ¬ Since s1.heap H2 b := by rw [← hst]; exact I1.nfr na.1
    refine note_on (N := Since s1.heap H2) (base := X.base) (outer := X.outer) (L := X.env.locals) (by rw [← hst]; exact I.ok.frames) Jst hfr (since_of un hok) nf al fun h3 al3 st3 ff3 => ?_
    refine land (s := { s2 with heap := h3 }) (fs := frs (X.env :: X.outer)) ff3 al3 fun h4 al4 st4 ff4 => ?_
    have st34 := st3.trans st4
    -- the state ahead of the handler
    have mk : ∀ {h5 : Heap} {t5 : Nat}, Stn (Since s1.heap H2) (frs (X.env :: X.outer)) a s2.heap h5 → Inv (X.tr (X.tr X.xe []).xe pins) pins' σ1 H2 { s2 with heap := h5, toks := t5 } := fun {h5 t5} st => by
      have st' : Stn (Since s1.heap H2) (frs X.stack) a s2.heap h5 := by rw [hst]; exact st
      have z := J.stn (s₁ := s1) (H₁ := H1) (N := Since s1.heap H2) st' (fun b z => ⟨z.2, z.1⟩) ⟨na.2, na.1⟩ I1 un
      have z2 := z.tok t5
      exact ⟨I.ok.tr, z2.os, z2.bare, z2.base, z2.loc, z2.cell, z2.free, z2.freeC, z2.pin, z2.hok, z2.len⟩
    have I4 : Inv X pins σ1 H2 { s2 with heap := h4 } := (mk (t5 := s2.toks) st34).untr I.ok
    refine wpAny_handleBy_cons (codeAny_handlers_test ?_) (by intro q; cases q)
    refine ld_glob (I4.su (e := a)) hg hm ?_ hdb
    obtain ⟨oe, vs, q0, q1, q2, q3, _⟩ := id al4
    refine (PySem.W.exm_one (K := X.K) I4.kIn (by rw [← q1]; exact looks_cls q0) hm1).here ?_
    show codeAny _ _ _ _ _
    refine codeAny_handlers_suite_as ?_
    refine land (s := { s2 with heap := h4 }) (fs := frs (X.env :: X.outer)) ff4 al4 fun h5 al5 st5 ff5 => ?_
    have I5 : Inv X pins σ1 H2 { s2 with heap := h5 } := (mk (t5 := s2.toks) (st34.trans st5)).untr I.ok
    have n1 : a ≠ X.env.locals := fun z => by
      obtain ⟨m, ⟨o, _, _, ho, _⟩, _⟩ := I1.loc
      have ho' : s1.heap.get? X.env.locals = some o := ho
      rw [← z, na.1] at ho'; cases ho'
    have I6 : Inv X pins σ1 (upd H2 a (.ext (ExcIs a C dx))) { s2 with heap := h5 } := by
      refine I5.trackE na.2 ?_ n1 (fun y e hc z => ?_) (fun q hq z => ?_) (aloft_is al5).ok
      · cases r : X.s₀.heap.get? a with
        | none => rfl
        | some o =>
          obtain ⟨o', r'⟩ := I1.base.there a o r (by show a ∉ X.ex; rw [hex]; simp)
          rw [na.1] at r'; cases r'
      · obtain ⟨v, o, ho, _⟩ := I1.cell y e hc
        rw [z, na.1] at ho; cases ho
      · have r := (I1.pin q (List.mem_append_left _ hq)).1
        rw [z, na.1] at r; cases r
    refine store_ok (X := X.su a) (s := { s2 with heap := h5 }) (I6.su (e := a)) hN hi (.inl hx) (v := .ref a) rfl (fun s7 I7 => ?_) (.inr hx)
    refine wpAny_mono (hs a pins s7 _ _ (D.un i) I7 (hk a na.2)) (fun f s8 q8 => ?_) (fun _ _ z => z.elim)
    have fin : ∀ {σ8 : St} {H8 : Hp} {Q : Unit → Shared → Prop}, Inv (X.su a) pins σ8 H8 s8 → (∀ s9, Inv X pins (σ8.set i none) H8 s9 → Q () s9) → wpAny (model X.prog X.w) X.A (do bindName X.env x .none; unbindBehindTheSuite X.env x hp) Q X.xe s8 := fun {σ8 H8 Q} I8 k => by
      obtain ⟨m, hn, hl⟩ := id I8.loc
      refine wpAny_nameGoes_keeps hx hn (by rw [I.ok.kind]; rfl) fun h' v hn' sb => k _ ?_
      exact (I8.unsu I.ok).gone hN hi hn hl hn' sb
    cases f with
    | next => obtain ⟨σ8, H8, I8, q⟩ := q8; exact fin I8 fun s9 I9 => ⟨_, _, I9, q⟩
    | brk => obtain ⟨σ8, H8, I8, q⟩ := q8; exact fin I8 fun s9 I9 => ⟨_, _, I9, q⟩
    | cont => obtain ⟨σ8, H8, I8, q⟩ := q8; exact fin I8 fun s9 I9 => ⟨_, _, I9, q⟩
    | ret u => obtain ⟨v, σ8, H8, I8, r, q⟩ := q8; exact fin I8 fun s9 I9 => ⟨v, _, _, I9, r, q⟩
  · cases f with
    | next =>
      obtain ⟨σ', H', I', q⟩ := q
      exact wpAny_execs_nil ⟨σ', H', I'.untr I.ok, q⟩
    | brk => obtain ⟨σ', H', I', q⟩ := q; exact ⟨σ', H', I'.untr I.ok, q⟩
    | cont => obtain ⟨σ', H', I', q⟩ := q; exact ⟨σ', H', I'.untr I.ok, q⟩
    | ret u => obtain ⟨v, σ', H', I', r, q⟩ := q; exact ⟨v, σ', H', I'.untr I.ok, r, q⟩
end
end L2

set_option maxRecDepth 100000
namespace L2
open PySem PySem.Spec PyProof.Rows
noncomputable abbrev bmV : List Value := [.type "ValueError", .type "Exception", .type "BaseException", .type "object"]
noncomputable def xcIn (K : PySem.W.Frag) (C : Addr) (init : Option Value) : Bool := match K.lookup C with
  | some ⟨.type "type", _, .cls cd, sl⟩ => (match cd.mro, sl.toList with
    | .ref C' :: bm, [_, _, _, _, some (.builtin n), _] => C' == C && (n == "ValueError.__new__" && (!cd.hasDel && (cd.hasDict && (PySem.W.tailIn K bmV bm && (PySem.W.nsOkIn K cd.ns && PySem.W.nsIn K cd.ns "__init__" == some init)))))
    | _, _ => false)
  | _ => false
structure XAt (h : Heap) (C : Addr) (init : Option Value) : Prop where
  out : ∃ nm q N bs bm sn sub ab col dd k0 k1 k2 k3 k5 mN, h.get? C = some (excClassObj nm q C N bs bm true sn sub ab col dd k0 k1 k2 k3 k5 "ValueError.__new__") ∧ h.Ns N mN ∧ mN "__init__" = init ∧ OwnTail h bmV bm
theorem ns_of_in {K : PySem.W.Frag} {h : Heap} {N : Addr} {mg : Str → Option Value} {n : Str} {r : Option Value} (X : K.In h) (G : h.Ns N mg) (e : PySem.W.nsIn K N n = some r) : mg n = r := by
  obtain ⟨o, es, ep, ho, hd, _, hf⟩ := G
  unfold PySem.W.nsIn at e
  split at e
  · rename_i c d es' n' sl q
    have z := X _ _ q
    rw [ho] at z
    cases z
    cases hd
    rw [← hf]
    unfold nsFind findBy
    rw [← Array.find?_toList]
    split at e
    · rename_i he
      rw [he]
      cases e
      rfl
    · rename_i he
      rw [he]
      split at e
      · cases e
      · cases e
        rfl
  · cases e
theorem xc_at {K : PySem.W.Frag} {h : Heap} {C : Addr} {init : Option Value} (X : K.In h) (q : xcIn K C init = true) : XAt h C init := by
  unfold xcIn at q
  split at q
  · rename_i dd cd sl ho
    split at q
    · rename_i C' bm k0 k1 k2 k3 n k5 hm hs
      simp only [Bool.and_eq_true, beq_iff_eq, Bool.not_eq_true'] at q
      obtain ⟨rfl, rfl, d, hd', t, o, i⟩ := q
      obtain ⟨nm, bs, mro, ns, qn, hd, sn, sub, ab, col, del⟩ := cd
      dsimp only at hm d o i hd'
      subst hm d hd'
      obtain ⟨l⟩ := sl
      simp only at hs
      subst hs
      have G : h.Ns ns (h.nsMap ns) := .of_isNs (PySem.W.isNs_of_in X o)
      exact ⟨_, _, _, _, _, _, _, _, _, _, _, _, _, _, _, _, X _ _ ho, G, ns_of_in X G i, PySem.W.tail_of_in X t⟩
    · cases q
  · cases q
section
variable {M : Model} {A : Around} {E : Value → Shared → Prop} {s : Shared} {env : Env} {C : Addr} {init : Option Value}
theorem raise_made {x : Sem Value} {Q : Flow → Shared → Prop} (hh : A.handled = none)
    (h : wpAny M A x (fun v s₁ => ∃ e oe vs, v = .ref e ∧ XAt s₁.heap C init ∧ s₁.heap.get? e = some oe ∧ oe.cls = .ref C ∧ oe.data = .fields vs ∧ vs[1]? = some .none ∧ E (.ref e) s₁) E s) :
    wpAny M A (raiseStmt env (some x) none) Q E s := by
  unfold raiseStmt
  refine wpAny_bind (wpAny_mono h (fun v s₁ h₁ => ?_) fun _ _ x => x)
  obtain ⟨e, oe, vs, rfl, ⟨nm, q, N, bs, bm, sn, sub, ab, col, dd, k0, k1, k2, k3, k5, mN, hC, _, _, T⟩, he, hc, hd, h1, hE⟩ := h₁
  have hbm : (Value.ref C :: bm).contains (.type "BaseException") = true := by rw [List.contains_cons, T.hasType (X := "BaseException") (b := true) (by decide +kernel), Bool.or_true]
  obtain ⟨hp, g, d, tk, os⟩ := s₁
  obtain ⟨oc, od, odt, osl⟩ := oe
  dsimp only at hc hd
  subst hc hd
  have hfld : ∀ {Q' : Value → Shared → Prop} {A' : Around}, Q' .none ⟨hp, g, d, tk, os⟩ → wpAny M A' (field (.ref e) 1) Q' E ⟨hp, g, d, tk, os⟩ := fun z => wpAny_field (s := ⟨hp, g, d, tk, os⟩) he rfl h1 z
  repeat (first | with_reducible refine wpAny_loadPart_at he ?_ | with_reducible refine wpAny_loadPart_at hC ?_ | (with_reducible refine wpAny_isSubtype_exc hC ?_; rw [hbm]) | with_reducible refine hfld ?_ | wp_step)
  exact wpAny_raiseNew_none hh hE
end

theorem XAt.keeps {h h' : Heap} {C : Addr} {init : Option Value} (x : XAt h C init) (k : ∀ b o, h.get? b = some o → h'.get? b = some o) : XAt h' C init := by
  obtain ⟨nm, q, N, bs, bm, sn, sub, ab, col, dd, k0, k1, k2, k3, k5, mN, hC, hN, hi, T⟩ := x.out
  exact ⟨nm, q, N, bs, bm, sn, sub, ab, col, dd, k0, k1, k2, k3, k5, mN, k _ _ hC, hN.keeps k, hi, T.keeps k⟩

theorem ObjOk.there {P : Program} {w : World} {H : Hp} {h : Heap} {a : Addr} {o : HO} (x : ObjOk P w H h a o) : ∃ ob, h.get? a = some ob := by
  induction o with
  | lst xs => obtain ⟨_, _, _, _, e⟩ := x; exact ⟨_, e⟩
  | tup xs => obtain ⟨_, _, _, ob, e, _⟩ := x; exact ⟨_, e⟩
  | dK kvs => obtain ⟨_, _, _, _, o, _, _, e, _⟩ := x; exact ⟨_, e⟩
  | dT kvs => obtain ⟨_, _, _, _, o, _, _, e, _⟩ := x; exact ⟨_, e⟩
  | set S n => obtain ⟨o, _, _, _, e, _⟩ := x; exact ⟨_, e⟩
  | ins C dx fs => obtain ⟨_, _, _, e, _⟩ := x; exact ⟨_, e⟩
  | own y => exact x
  | xd fs => obtain ⟨_, ⟨_, _, _, e, _⟩, _⟩ := x; exact ⟨_, e⟩
  | rng lo hi => obtain ⟨_, _, _, e⟩ := x; exact ⟨_, e⟩
  | frz ob u ih => exact ⟨ob, x.1⟩
  | tbl ps => exact ⟨_, x⟩
  | met f y => exact ⟨_, x⟩
  | ext φ => exact x.2.1
theorem HOk.none {P : Program} {w : World} {H : Hp} {h : Heap} {a : Addr} (x : HOk P w H h) (e : h.get? a = none) : H a = none := by
  cases r : H a with
  | none => rfl
  | some o =>
    obtain ⟨ob, q⟩ := (x a o r).there
    rw [e] at q; cases q

noncomputable def tRaise0 (C : Addr) (XR : St → XK) : TS := fun _ σ H => XR σ (.ref C) none H
section
variable {X : Cx} {C : Addr} {XR : St → XK} {x : Str} {np cpos pos : Pos}
end
end L2

set_option maxRecDepth 100000
namespace L2
open PySem PySem.Spec PyProof.Rows PySem.W
theorem slot_wget : Slot "wrapper_descriptor" "__get__" "wrapper_descriptor.__get__" := .of (owner := "wrapper_descriptor") (n := "__get__") (by rw [typeLookup_type, builtinLookup_eq_fast]; kernel_rfl) (by decide +kernel) (by decide +kernel) (by decide +kernel)
  (by first | exact .inl (by decide +kernel) | exact .inr (by decide +kernel)) (by rw [isSubtype_type]; kernel_rfl)
theorem entry_wget : entryFor table "wrapper_descriptor.__get__" = some Builtin.«wrapper_descriptor.__get__» := entryFor_of_tree (by kernel_rfl)
theorem args_wget (a b c : Value) : argsOk "wrapper_descriptor.__get__" ⟨[a, b, c], []⟩ := by unfold argsOk; kernel_rfl
theorem type_vinit : typeOf (.builtin "ValueError.__init__") = pure (.type "wrapper_descriptor") := by kernel_rfl
section
variable {prog : Program} {w : World} {A : Around} {E : Value → Shared → Prop} {h : Heap} {g : Array GenState} {d : Drawn} {t : Nat} {os : OsState}
theorem run_wget {x C : Addr} {Q : Fin → Shared → Prop} (hi : Looks (model prog w) h (isInstance (.ref x) (.type "ValueError")) true)
    (hq : Q (.done (.ret (.ref h.objs.size))) ⟨h.push { cls := .type "method-wrapper", data := .fields #[.builtin "ValueError.__init__", .ref x] }, g, d, t, os⟩) :
    wpAny (model prog w) A (Builtin.«wrapper_descriptor.__get__» ⟨[.builtin "ValueError.__init__", .ref x, .ref C], []⟩) Q E ⟨h, g, d, t, os⟩ := by
  unfold Builtin.«wrapper_descriptor.__get__»
  refine wpAny_bind (wpAny_of_eq (a := (.builtin "ValueError.__init__", some (.ref x), some (.ref C))) rfl ?_)
  dsimp only
  refine wpAny_bind ?_
  refine wpAny_bind (wpAny_of_eq (a := (("__init__" : Str), Value.type "ValueError")) (by kernel_rfl) ?_)
  dsimp only
  refine wpAny_bind (hi.here ?_)
  rw [if_neg (by decide)]
  refine wpAny_pure ?_
  exact wpAny_bind (wpAny_newObj_type (wpAny_pure hq))
theorem xs_ga {so D x C : Addr} {l₀ l : List Value} {K : Frag} {tk : Tok} {Q : Fin → Shared → Prop}
    (hso : h.get? so = some { cls := .type "super", dict := none, data := .fields #[.ref D, .ref x, .ref C], slots := #[] }) (hno : Looks (model prog w) h (opaqueClassAbove (.ref C)) none)
    (hC : Looks (model prog w) h (mroOf (.ref C)) l₀) (hl : (l₀.dropWhile (· != .ref D)).drop 1 = l) (X : K.In h) (hf : alongIn K "__init__" l = some (some (.builtin "ValueError.__init__")))
    (hxC : x ≠ C) (hi : Looks (model prog w) h (isInstance (.ref x) (.type "ValueError")) true)
    (hq : Q (.done (.ret (.ref h.objs.size))) ⟨h.push { cls := .type "method-wrapper", data := .fields #[.builtin "ValueError.__init__", .ref x] }, g, d, t, os⟩) :
    wpAny (model prog w) A (Builtin.«super.__getattribute__» ⟨[.ref so, .str "__init__" tk], []⟩) Q E ⟨h, g, d, t, os⟩ := by
  have lk := slot_wget.lookup
  have ne : (Value.ref x == Value.ref C) = false := by simp [hxC]
  have dt : ({ cls := .type "super", dict := none, data := .fields #[.ref D, .ref x, .ref C], slots := #[] } : Obj).data = .fields #[.ref D, .ref x, .ref C] := rfl
  have z0 : (#[.ref D, .ref x, .ref C] : Array Value)[0]? = some (.ref D) := rfl
  have z1 : (#[.ref D, .ref x, .ref C] : Array Value)[1]? = some (.ref x) := rfl
  have z2 : (#[.ref D, .ref x, .ref C] : Array Value)[2]? = some (.ref C) := rfl
  have tv : (⟨h, g, d, t, os⟩ : Shared).TypeIs (.builtin "ValueError.__init__") "wrapper_descriptor" := type_vinit
  have nc : (("__init__" : Str) == ("__class__" : Str)) = false := by decide +kernel
  unfold Builtin.«super.__getattribute__»
  repeat (first
    | (with_reducible refine wpAny_field hso dt z0 ?_) | (with_reducible refine wpAny_field hso dt z1 ?_) | (with_reducible refine wpAny_field hso dt z2 ?_)
    | (with_reducible refine ks_wpAny_notOpaque hno ?_)
    | (with_reducible refine Looks.at hC ?_; rw [hl])
    | (refine ks_forIn_along X (fun _ _ => rfl) rfl ?_ hf)
    | (with_reducible refine wpAny_of_eq type_vinit ?_)
    | (with_reducible refine wpAny_call_entry slot_wget tv entry_wget ?_ (args_wget _ _ _))
    | (with_reducible refine run_wget hi ?_)
    | (with_reducible refine ⟨_, rfl, ?_⟩)
    | (simp only [nc, ne, Bool.or_false, Bool.false_eq_true, if_false])
    | wp_step
    | dsimp only)
  all_goals exact hq
theorem xs_getm {so D x C : Addr} {l₀ l : List Value} {K : Frag} {pl : Sem Bool} {Q : Value × List Value → Shared → Prop}
    (hso : h.get? so = some { cls := .type "super", dict := none, data := .fields #[.ref D, .ref x, .ref C], slots := #[] }) (hno : Looks (model prog w) h (opaqueClassAbove (.ref C)) none)
    (hC : Looks (model prog w) h (mroOf (.ref C)) l₀) (hl : (l₀.dropWhile (· != .ref D)).drop 1 = l) (X : K.In h) (hf : alongIn K "__init__" l = some (some (.builtin "ValueError.__init__")))
    (hxC : x ≠ C) (hi : Looks (model prog w) h (isInstance (.ref x) (.type "ValueError")) true)
    (hq : Q (.ref h.objs.size, []) ⟨h.push { cls := .type "method-wrapper", data := .fields #[.builtin "ValueError.__init__", .ref x] }, g, d, t + 1, os⟩) :
    wpAny (model prog w) A (getMethod (.ref so) "__init__" pl) Q E ⟨h, g, d, t, os⟩ := by
  have lk := F.ks_slot_super_ga.lookup
  have ty : ∀ t', (⟨h, g, d, t', os⟩ : Shared).TypeIs (.ref so) "super" := fun _ => ⟨_, hso, rfl⟩
  unfold getMethod
  refine wpAny_bind (wpAny_specialOf (ty _) lk ?_)
  show wpAny _ _ (if (Manifest.canonical "super.__getattribute__" != "object.__getattribute__") = true then _ else _) _ _ _
  rw [if_pos F.ks_canon_super_ga]
  unfold getAttr getAttrBy
  refine wpAny_bind (wpAny_bind (wpAny_mkText (wpAny_holding (wpAny_bind (wpAny_typeOf (ty _) (wpAny_bind (wpAny_of_eq lk ?_)))))))
  show wpAny _ _ (getAttrByItsOwn (.ref so) (.str "__init__" t) (.type "super") (.builtin "super.__getattribute__") true false) _ _ _
  unfold getAttrByItsOwn hookBefore callGetattribute boundAndCalled
  refine wpAny_bind (wpAny_of_eq (a := none) rfl ?_)
  refine wpAny_bind (wpAny_attempt (wpAny_holding ?_))
  refine wpAny_bind (wpAny_of_eq (F.ks_slot_super_ga.bind _) ?_)
  refine wpAny_mono (E := fun _ _ => False) (wpAny_call_entry F.ks_slot_super_ga (ty _) F.ks_entry_super_ga (xs_ga (Q := fun fin s' => ∃ v, fin = .done (.ret v) ∧ (v = .ref h.objs.size ∧ s' = ⟨h.push { cls := .type "method-wrapper", data := .fields #[.builtin "ValueError.__init__", .ref x] }, g, d, t + 1, os⟩)) hso hno hC hl X hf hxC hi ⟨_, rfl, rfl, rfl⟩) (F.ks_gaArgs_super _ _)) (fun v s' hv => ?_) fun _ _ z => z.elim
  obtain ⟨rfl, rfl⟩ := hv
  exact wpAny_pure (wpAny_pure hq)
end
end L2

set_option maxRecDepth 100000
namespace L2
open PySem PySem.Spec PyProof.Rows PySem.W
section
variable {prog : Program} {w : World} {A : Around} {E : Value → Shared → Prop} {h : Heap} {g : Array GenState} {d : Drawn} {t : Nat} {os : OsState}
theorem check_vi {M : Model} {nm q : Str} {C N : Addr} {bs bm : List Value} {hdct : Bool} {sn : List Str} {sub : List Value} {ab : Bool} {col : Option Bool} {dd : Option Addr} {k0 k1 k2 k3 k5 : Option Value} {newId : String} {x : Addr} {oe : Obj} {a : Str} {tk : Tok} {Q : Unit → Shared → Prop}
    (hC : h.get? C = some (excClassObj nm q C N bs bm hdct sn sub ab col dd k0 k1 k2 k3 k5 newId)) (he : h.get? x = some oe) (hc : oe.cls = .ref C) (hq : Q () ⟨h, g, d, t, os⟩) :
    wpAny M A (checkBoundCall "ValueError.__init__" ⟨[.ref x, .str a tk], []⟩) Q E ⟨h, g, d, t, os⟩ := by
  have F := PySem.F.excBase_ValueError
  have hshort := F.noStar
  simp only [checkBoundCall, F.initKind, F.initRow]
  rw [if_pos (by decide)]
  repeat (first | (with_reducible refine wpAny_loadPart_at he ?_; rw [hc]) | with_reducible refine wpAny_loadPart_at hC ?_ | wp_step)
  exact hq
theorem fld_at {M : Model} {e : Addr} {o : Obj} {vs : Array Value} {i : Nat} {v : Value} {Q : Value → Shared → Prop} (ho : h.get? e = some o) (hd : o.data = .fields vs) (hi : vs[i]? = some v) (hq : Q v ⟨h, g, d, t, os⟩) : wpAny M A (field (.ref e) i) Q E ⟨h, g, d, t, os⟩ := wpAny_field ho hd hi hq
theorem sfl_at {M : Model} {e : Addr} {o : Obj} {vs : Array Value} {i : Nat} {v : Value} {Q : Unit → Shared → Prop} (ho : h.get? e = some o) (hd : o.data = .fields vs) (hi : i < vs.size) (hq : Q () ⟨h.update e (Obj.mapFields (·.setIfInBounds i v)), g, d, t, os⟩) : wpAny M A (setField (.ref e) i v) Q E ⟨h, g, d, t, os⟩ := wpAny_setField (s := ⟨h, g, d, t, os⟩) ho hd hi hq
theorem xs_run {mw x t0 : Addr} {a : Str} {tk : Tok} {oe : Obj} {vs : Array Value} {Q : Value → Shared → Prop} (hmw : h.get? mw = some { cls := .type "method-wrapper", data := .fields #[.builtin "ValueError.__init__", .ref x] })
    {C : Addr} {init : Option Value} (xa : XAt h C init) (hc : oe.cls = .ref C) (hx : h.get? x = some oe) (hd : oe.data = .fields vs) (h0 : vs[0]? = some (.ref t0))
    (hq : ∀ h' T, h.objs.size ≤ T → h'.get? x = some (oe.mapFields (·.setIfInBounds 0 (.ref T))) → (∀ b o, b ≠ x → h.get? b = some o → h'.get? b = some o) → Q .none ⟨h', g, d, t, os⟩) :
    wpAny (model prog w) A (call (.ref mw) [.str a tk]) Q E ⟨h, g, d, t, os⟩ := by
  refine wpAny_call (codeAny_of_tree ?_)
  show wpAny _ _ (callAny (.ref mw) _) _ _ _
  unfold callAny
  refine wpAny_bind (wpAny_load hmw ?_)
  dsimp only
  rw [if_pos (by decide)]
  simp only [show (#[Value.builtin "ValueError.__init__", Value.ref x] : Array Value)[0]? = some (.builtin "ValueError.__init__") from rfl, show (#[Value.builtin "ValueError.__init__", Value.ref x] : Array Value)[1]? = some (.ref x) from rfl]
  rw [if_pos (by decide)]
  obtain ⟨nm, qn, N, bs, bm, sn, sub, ab, col, dd, k0, k1, k2, k3, k5, mN, hC, _, _, _⟩ := xa.out
  refine wpAny_bind (check_vi hC hx hc ?_)
  refine wpAny_pure ?_
  refine ⟨Code.quiet_builtin _ (by decide +kernel), codeAny_builtin PySem.F.excBase_ValueError.initEntry ?_⟩
  have h1 := Heap.get?_push_of_some { cls := Value.type "tuple", data := Data.seq #[Value.str a tk] } hx
  have z0 : 0 < vs.size := (Array.getElem?_eq_some_iff.mp h0).1
  unfold Builtin.«BaseException.__init__» Builtin.BaseException.bexcPut
  repeat (first | (with_reducible refine fld_at h1 hd h0 ?_) | (with_reducible refine sfl_at h1 hd z0 ?_) | wp_step)
  exact hq _ h.objs.size (Nat.le_refl _) (Heap.get?_update_self _ h1 (Obj.isFreed_of_fields (Obj.data_mapFields hd _))) fun b o nb q => (Heap.get?_update_other _ _ (Ne.symm nb)).trans (Heap.get?_push_of_some _ q)
end
end L2

set_option maxRecDepth 100000
namespace L2
open PySem PySem.Spec PyProof.Rows PySem.W
open Builtin Builtin.ObjectAttr
section
variable {prog : Program} {w : World} {A : Around} {E : Value → Shared → Prop} {h : Heap} {g : Array GenState} {d : Drawn} {t : Nat} {os : OsState}
variable {x C LE : Addr} {o : Obj} {name : Str} {v : Value} {vs : Array Value}
structure StoreAt (M : Model) (h : Heap) (C LE : Addr) (name : Str) : Prop where
  mro : Looks M h (mroOf (.ref C)) (.ref C :: .ref LE :: bmV)
  no : Looks M h (typeLookup (.ref C) name) none
  sa : Looks M h (typeLookup (.ref C) "__setattr__") (some (.builtin "object.__setattr__"))
  ob : Looks M h (isSubtype (.ref C) (.type "object")) true
  at_ : ∃ init, XAt h C init
theorem xs_sa {tk : Tok} {Q : Fin → Shared → Prop} (S : StoreAt (model prog w) h C LE name) (hx : h.get? x = some o) (hc : o.cls = .ref C) (hn : o.dict = none) (hd : o.data = .fields vs)
    (hq : ∀ h' tk' dx, h.objs.size ≤ dx → h'.get? x = some { o with dict := some dx } → h'.Ns1 dx (fun y => if y = name then some v else none) → (∀ b u, b ≠ x → h.get? b = some u → h'.get? b = some u) → Q (.done (.ret .none)) ⟨h', g, d, tk', os⟩) :
    wpAny (model prog w) A (Builtin.«object.__setattr__» ⟨[.ref x, .str name tk, v], []⟩) Q E ⟨h, g, d, t, os⟩ := by
  have ps := PySem.F.store_ValueError.passes (.ref x)
  obtain ⟨init, xa⟩ := S.at_
  obtain ⟨nm, qn, N, bs, bm, sn, sub, ab, col, dd, k0, k1, k2, k3, k5, mN, hC, _, _, _⟩ := xa.out
  unfold Builtin.«object.__setattr__»
  repeat (first | rw [refuse_eq] | (with_reducible refine wpAny_loadPart_at hx ?_; rw [hc]) | (with_reducible refine Looks.at S.mro ?_; rw [refuseLoop_ref, refuseLoop_ref, ps]) | (with_reducible refine Looks.at S.no ?_) | (with_reducible refine wpAny_loadPart_at hC ?_) | wp_step)
  rw [hn, hd]
  dsimp only
  rw [if_neg (by simp [typeHasDict])]
  have x1 : (h.push { cls := .type "dict", data := .dict #[] }).get? x = some o := Heap.get?_push_of_some _ hx
  have nx : x ≠ h.objs.size := Nat.ne_of_lt (Heap.lt_size hx)
  have fr : ({ cls := o.cls, dict := some h.objs.size, data := o.data, slots := o.slots } : Obj).isFreed = false := by
    obtain ⟨oc, od, odt, osl⟩ := o
    dsimp only at hd
    subst hd
    rfl
  refine wpAny_bind (wpAny_alloc' (wpAny_bind (wpAny_update' x1 (wpAny_pure ?_))))
  have x2 := Heap.get?_update_self (fun o => { cls := o.cls, dict := some h.objs.size, data := o.data, slots := o.slots }) x1 fr
  have d2 : ((h.push { cls := .type "dict", data := .dict #[] }).update x fun o => { cls := o.cls, dict := some h.objs.size, data := o.data, slots := o.slots }).get? h.objs.size = some { cls := .type "dict", data := .dict #[] } :=
    (Heap.get?_update_other _ _ nx).trans (Heap.get?_push_at rfl rfl)
  generalize hg : ((h.push { cls := .type "dict", data := .dict #[] }).update x fun o => { cls := o.cls, dict := some h.objs.size, data := o.data, slots := o.slots }) = h2 at x2 d2 ⊢
  have old : ∀ b u, b ≠ x → h.get? b = some u → h2.get? b = some u := fun b u nb q => by
    rw [← hg]
    exact (Heap.get?_update_other _ _ (Ne.symm nb)).trans (Heap.get?_push_of_some _ q)
  have n2 : h2.Ns h.objs.size (fun _ => none) := ⟨_, #[], _, d2, rfl, fun e z => absurd z (by simp), fun _ => rfl⟩
  show wpAny _ _ (storeInDict h.objs.size (.str name tk) name v) _ _ _
  unfold storeInDict newKeyGuard
  refine wpAny_bind (wpAny_pure (wpAny_bind (wpAny_nsSet1 (Heap.Ns1.of_empty n2) fun h3 n3 s3 => ?_)))
  obtain ⟨oD, eD, pD, q1, q2, q3⟩ := n3.count (Within.cons name v Within.nil)
  refine wpAny_bind (wpAny_lookBehind q1 (by rw [q2]; exact pastItsLine_dict (Nat.le_trans q3 (by rw [List.length_cons, List.length_nil, sizeLine_eq]; omega))) ?_)
  wp_walk
  exact hq h3 _ h.objs.size (Nat.le_refl _) ((s3.2 x nx).trans x2) n3 fun b u nb q => (s3.2 b (Nat.ne_of_lt (Heap.lt_size q))).trans (old b u nb q)

theorem xs_chk {M : Model} {n : Value} {Q : Unit → Shared → Prop} (ob : Looks M h (isSubtype (.ref C) (.type "object")) true) (hx : h.get? x = some o) (hc : o.cls = .ref C) (hq : Q () ⟨h, g, d, t, os⟩) :
    wpAny M A (checkBuiltinCall "object.__setattr__" ⟨[.ref x, n, v], []⟩) Q E ⟨h, g, d, t, os⟩ := by
  have SF := PySem.F.store_ValueError
  simp only [checkBuiltinCall, SF.kind, SF.split]
  refine wpAny_bind ?_
  unfold isInstance
  repeat (first | (with_reducible refine wpAny_loadPart_at hx ?_; rw [hc]) | (with_reducible refine Looks.at ob ?_) | wp_step)
  exact hq
theorem xs_set {Q : Unit → Shared → Prop} (S : StoreAt (model prog w) h C LE name) (hx : h.get? x = some o) (hc : o.cls = .ref C) (hn : o.dict = none) (hd : o.data = .fields vs)
    (hq : ∀ h' tk' dx, h.objs.size ≤ dx → h'.get? x = some { o with dict := some dx } → h'.Ns1 dx (fun y => if y = name then some v else none) → (∀ b u, b ≠ x → h.get? b = some u → h'.get? b = some u) → Q () ⟨h', g, d, tk', os⟩) :
    wpAny (model prog w) A (setAttr (.ref x) name v) Q E ⟨h, g, d, t, os⟩ := by
  have SF := PySem.F.store_ValueError
  have bd := SF.slot.bind (.ref x)
  unfold setAttr callSpecial? specialOf
  repeat (any_goals (first | assumption | (with_reducible refine wpAny_loadPart_at hx ?_; rw [hc]) | (with_reducible refine Looks.at S.sa ?_) | wp_step))
  refine codeAny_call_builtin SF.slot.plain SF.entry (xs_chk (S.ob) hx hc ?_)
  refine xs_sa (t := t + 1) S hx hc hn hd fun h' tk' dx z1 z2 z3 z4 => ?_
  repeat (any_goals (first | assumption | wp_step))
  exact hq h' tk' dx z1 z2 z3 z4
end
end L2

set_option maxRecDepth 100000
namespace L2
open PySem PySem.Spec PyProof.Rows PySem.W
structure XK1 (K : Frag) (C LE : Addr) (fld : Str) : Prop where
  mro : (clsIn K C).map (·.mro) = some (.ref C :: .ref LE :: bmV)
  no : findIn K (.ref C) fld = some none
  sa : findIn K (.ref C) "__setattr__" = some (some (.builtin "object.__setattr__"))
  ini : alongIn K "__init__" (.ref LE :: bmV) = some (some (.builtin "ValueError.__init__"))
  opq : nsIn K cStatics "thirdparty.any" = some none
theorem XK1.subs {K : Frag} {C LE : Addr} {fld : Str} {M : Model} {h : Heap} {b : Value} (x : XK1 K C LE fld) (X : K.In h) (hb : (Value.ref C :: .ref LE :: bmV).contains b = true) : Looks M h (isSubtype (.ref C) b) true := by
  obtain ⟨cd, e, z⟩ := Option.map_eq_some_iff.mp x.mro
  refine looks_mroIn X ?_
  unfold mroIn
  rw [e]
  show (if cd.mro.isEmpty = true then none else some (cd.mro.contains b)) = some true
  rw [z, hb]; rfl
theorem XK1.mroL {K : Frag} {C LE : Addr} {fld : Str} {M : Model} {h : Heap} (x : XK1 K C LE fld) (X : K.In h) : Looks M h (mroOf (.ref C)) (.ref C :: .ref LE :: bmV) := by
  obtain ⟨cd, e, z⟩ := Option.map_eq_some_iff.mp x.mro
  rw [← z]
  exact (looks_clsIn X e).andThen .now
theorem XK1.store {K : Frag} {C LE : Addr} {fld : Str} {M : Model} {h : Heap} {init : Option Value} (x : XK1 K C LE fld) (X : K.In h) (q : xcIn K C init = true) : StoreAt M h C LE fld :=
  ⟨x.mroL X, looks_findIn X x.no, looks_findIn X x.sa, x.subs X (by simp [bmV]), init, xc_at X q⟩
section
variable {prog : Program} {w : World} {A : Around} {E : Value → Shared → Prop} {s : Shared}
theorem callWith_mw {pos : Pos} {env : Env} {mw : Addr} {fn x : Value} {msg : Str} {kd : Nat} {p4 : Pos} {Q : Value → Shared → Prop} (hmw : s.heap.get? mw = some { cls := .type "method-wrapper", data := .fields #[fn, x] })
    (k : ∀ tk, wpAny (model prog w) A (call (.ref mw) [.str msg tk]) Q E { s with toks := s.toks + 1 }) :
    wpAny (model prog w) A (callWith pos (.ref mw) [] (backTo pos (starEach [.Constant (.str msg) kd p4] env)) []) Q E s := by
  unfold callWith
  refine wpAny_bind (wpAny_holding (wpAny_mono (Q := fun (a : Args) s₁ => ∃ tk, a = ⟨[.str msg tk], []⟩ ∧ s₁ = { s with toks := s.toks + 1 }) ?_ (fun a s₁ ⟨tk, ha, hs⟩ => wpAny_bind (wpAny_standAt ?_)) fun _ _ z => z))
  · show wpAny (model prog w) A (evalArgs (.ref mw) true ((false, eval (.Constant (.str msg) kd p4) env) :: []) []) _ _ _
    refine Calls.evalArgs_plain (Calls.spliced_cons (Calls.Constant_str (k := kd) (pos := p4) ?_))
    exact Calls.spliced_nil ⟨_, rfl, rfl⟩
  · subst ha hs
    simp only [stars_any (es := [.Constant (.str msg) kd p4]) rfl, List.any_nil, Bool.or_false]
    refine wpAny_bind (m := keeperOf (.ref mw)) ?_
    unfold keeperOf
    refine wpAny_bind (wpAny_load hmw ?_)
    dsimp only
    rw [if_pos (by decide)]
    refine wpAny_pure ?_
    rw [if_pos (by decide)]
    exact wpAny_bind (wpAny_mono (k tk) (fun r s₂ z => wpAny_bind (wpAny_holding (wpAny_point (wpAny_pure z)))) fun _ _ z => z)
end
end L2

set_option maxRecDepth 100000
namespace L2
open PySem PySem.Spec PyProof.Rows PySem.W
structure ISc (sc : Scope) (par : Str) : Prop where
  su : sc.names.lookup ("super" : Str) = some .globalImplicit
  cl : sc.names.lookup ("__class__" : Str) = some .free
  se : sc.names.lookup ("self" : Str) = some .local
  pa : sc.names.lookup par = some .local
  nc : ∀ x ∈ sc.names, x.2 ≠ .cell
  co : sc.isCoroutine = false
  ge : sc.isGenerator = false
  ki : sc.kind = .function
  ns : (("self" : Str) == par) = false
  db : (par == ("__debug__" : Str)) = false
section
variable {prog : Program} {w : World} {A : Around} {R : Result → Shared → Prop} {h : Heap} {g : Array GenState} {d : Drawn} {t : Nat} {os : OsState}
variable {K : Frag} {mg : Str → Option Value} {base : Heap} {f C LE e cda cc : Addr} {fld par nm qual msg file : Str} {ps : Arguments} {body : List Stmt} {sc : Scope} {kV doc pm ct oc ccl cl u : Value} {an od cdd cld : Option Addr} {osl ccs csl : Array (Option Value)} {cvs vs : Array Value} {tf : Tok} {init : Option Value} {oe : Obj} {t0 : Addr} {ar : Arg}
  {a1 a2 a3 a4 a5 a6 b1 b2 b3 b4 : Pos} {kd : Nat} {pl : Env → Sem Bool}
theorem xs_init (B : Mod K mg base) (kb : ∀ b o, base.get? b = some o → h.get? b = some o) (nb : base.get? e = none) (x1 : XK1 K C LE fld) (q : xcIn K C init = true) (hroom : A.depth < recursionLimit)
    (lk : K.lookup f = some ⟨oc, od, .func (ksFn nm qual ps body sc .none kV doc pm an (.ref cda) ct cc), osl⟩) (hcd : codeIn K (.ref cda) qual = true) (hcode : K.lookup cda = some ⟨ccl, cdd, .fields cvs, ccs⟩) (hvs : cvs[2]? = some (.str file tf)) (hfile : ((prog.main.file : Str) == file) = true)
    (hcell : K.lookup cc = some ⟨cl, cld, .cell (some (.ref C)), csl⟩) (hsu : mg "super" = none) (htop : (prog.main.scope.names.lookup ("super" : Str)).isSome = false) (hboot : bootBuiltins "super" = some (.type "super"))
    (S : ISc sc par) (hp : (ps.posonlyargs ++ ps.args).head? = some ar) (har : ar.arg = "self") (hbind : bindArgs (ksFn nm qual ps body sc .none kV doc pm an (.ref cda) ct cc) ⟨[.ref e, u], []⟩ = pure [(("self" : Str), .ref e), (par, u)])
    (hb : body = [.Expr (.Call (.Attribute (.Call (.Name "super" a1) [] [] a2) "__init__" a3) [.Constant (.str msg) kd a4] [] a5) a6, .Assign [.Attribute (.Name "self" b1) fld b2] (.Name par b3) b4])
    (hev : ∀ env, eval (.Call (.Attribute (.Call (.Name "super" a1) [] [] a2) "__init__" a3) [.Constant (.str msg) kd a4] [] a5) env = (do
      let ov ← attributeBase (.Call (.Name "super" a1) [] [] a2) "__init__" env (eval (.Call (.Name "super" a1) [] [] a2) env)
      standAt a3.atName
      let (f, first) ← holding [ov] (getMethod ov "__init__" (pl env))
      callWith a5 f first (backTo a5 (starEach [.Constant (.str msg) kd a4] env)) []))
    (he : h.get? e = some oe) (hec : oe.cls = .ref C) (hed : oe.dict = none) (hef : oe.data = .fields vs) (h0 : vs[0]? = some (.ref t0))
    (hq : ∀ h' t' dx T, h'.get? e = some { cls := .ref C, dict := some dx, data := .fields (vs.setIfInBounds 0 (.ref T)), slots := oe.slots } → h.objs.size ≤ dx → h'.Ns1 dx (fun y => if y = fld then some u else none) → (∀ b o, b ≠ e → h.get? b = some o → h'.get? b = some o) → R (.ok (.ret .none)) ⟨h', g, d, t', os⟩) :
    codeAny (model prog w) A (.call (.ref f) ⟨[.ref e, u], []⟩) R ⟨h, g, d, t, os⟩ := by
  have X : K.In h := B.kin.keeps kb
  refine ks_codeAny_call_defAt (s := ⟨h, g, d, t, os⟩) (binds := [(("self" : Str), .ref e), (par, u)]) hroom (X _ _ lk) rfl (B.nolimit.keeps kb) (codeRec_of X hcd) rfl (.of_eq hbind) S.nc (fun y hy => ?_) (fun h₀ hn k0 => ?_) S.co S.ge S.ki
  · simp only [List.mem_cons, List.mem_nil_iff, or_false] at hy
    rcases hy with rfl | rfl
    · exact S.se
    · exact S.pa
  have kb0 : ∀ b o, base.get? b = some o → h₀.get? b = some o := fun b o z => k0 _ _ (kb _ _ z)
  have X0 : K.In h₀ := B.kin.keeps kb0
  have e0 := k0 _ _ he
  have ms : (fun x => ([("self", .ref e), (par, u)] : List (Str × Value)).reverse.lookup x) ("self" : Str) = some (.ref e) := by
    show ([(par, u), ("self", .ref e)] : List (Str × Value)).lookup ("self" : Str) = _
    rw [List.lookup_cons, S.ns]; rfl
  have mp : (fun x => ([("self", .ref e), (par, u)] : List (Str × Value)).reverse.lookup x) par = some u := by
    show ([(par, u), ("self", .ref e)] : List (Str × Value)).lookup par = _
    rw [List.lookup_cons, beq_self_eq_true]
  obtain ⟨mb, hb1, hb2⟩ := B.blt
  obtain ⟨nmC, qnC, NC, bsC, bmC, snC, subC, abC, colC, ddC, k0C, k1C, k2C, k3C, k5C, mNC, hC, _, _, _⟩ := (xc_at X0 q).out
  have nfe : ∀ c, oe.data ≠ .cls c := fun c z => by rw [hef] at z; cases z
  have neC : e ≠ C := fun z => by
    subst z
    rw [e0] at hC; cases hC
    cases hef
  subst hb
  dsimp only
  generalize hE : (fun (e : Value) (s' : Shared) => wpAny (model prog w) _ (leaving _ e) (fun _ s'' => R (Except.error e) s'') (fun e' s'' => R (Except.error e') s'') s') = EX
  refine ks_wpAt_execs_cons ?_
  refine ks_wpAt_Expr_any ?_ (by show (sc.kind == .module && _) = false; rw [S.ki]; rfl) rfl
  refine ks_wpAt_MethodCall ?_ (hev _)
  refine ks_wpAt_super_base (env := ksEnv qual sc h.objs.size f (.ref cda) cc) (file := file) (tf := tf) S.su S.cl (by decide +kernel) rfl (X0 _ _ lk) rfl hp rfl (X0 _ _ hcode) rfl hvs hfile htop ?_
  refine ks_loadName_global S.ki S.su (Calls.loadGlobal_builtin (B.glob.keeps kb0) hsu (hb1.keeps kb0) ((hb2 _ (by decide +kernel)).trans hboot) ⟨rfl, ?_⟩)
  refine wpAny_loadName_free S.ki S.cl rfl ⟨_, X0 _ _ hcell, rfl⟩ ?_
  rw [har]
  refine wpAny_loadName_local S.ki S.se hn ms ?_
  refine ks_wpAny_isType_cls hC rfl ⟨rfl, ?_⟩
  refine ks_wpAny_call_super hC rfl e0 hec nfe (x1.subs X0 (by simp)) (fun h1 hso k1 => ?_)
  have kb1 : ∀ b o, base.get? b = some o → h1.get? b = some o := fun b o z => k1 _ _ (kb0 _ _ z)
  have X1 : K.In h1 := B.kin.keeps kb1
  have e1 := k1 _ _ e0
  have inst : Looks (model prog w) h1 (isInstance (.ref e) (.type "ValueError")) true := by
    unfold isInstance
    refine (looks_cls e1).andThen ?_
    rw [hec]
    exact x1.subs X1 (by simp [bmV])
  refine xs_getm (l := .ref LE :: bmV) hso (looks_opaque X1 x1.opq) (x1.mroL X1) (by simp [List.dropWhile]) X1 x1.ini neC inst ?_
  generalize hmo : ({ cls := .type "method-wrapper", data := .fields #[.builtin "ValueError.__init__", .ref e] } : Obj) = mo
  have m2 : (h1.push mo).get? h1.objs.size = some mo := Heap.get?_push_size _ (by rw [← hmo]; rfl)
  have k2 : ∀ b o, h.get? b = some o → (h1.push mo).get? b = some o := fun b o z => Heap.get?_push_of_some _ (k1 _ _ (k0 _ _ z))
  have e2 := k2 _ _ he
  have X2 : K.In (h1.push mo) := B.kin.keeps fun b o z => Heap.get?_push_of_some _ (kb1 _ _ z)
  refine callWith_mw (mw := h1.objs.size) (fn := .builtin "ValueError.__init__") (x := .ref e) (by rw [hmo]; exact m2) fun tk => ?_
  refine xs_run (by rw [hmo]; exact m2) (xc_at X2 q) hec e2 hef h0 fun h3 T zT z1 z2 => ?_
  have kb3 : ∀ b o, base.get? b = some o → h3.get? b = some o := fun b o z => z2 _ _ (fun y => by rw [y, nb] at z; cases z) (Heap.get?_push_of_some _ (kb1 _ _ z))
  have X3 : K.In h3 := B.kin.keeps kb3
  have hn3 : h3.Ns h.objs.size (fun x => ([("self", .ref e), (par, u)] : List (Str × Value)).reverse.lookup x) := by
    obtain ⟨o, es, ep, ho, r⟩ := hn
    refine ⟨o, es, ep, z2 _ _ (fun y => ?_) (Heap.get?_push_of_some _ (k1 _ _ ho)), r⟩
    have z := Heap.lt_size he
    rw [← y] at z
    exact absurd z (Nat.lt_irrefl _)
  show PySem.wpAt _ _ _ (execs [.Assign [.Attribute (.Name "self" b1) fld b2] (.Name par b3) b4] _) _ _ _
  refine ks_wpAt_execs_cons (ks_wpAt_Assign_Attr (wpAt_of_wpAny (wpAny_Name (wpAny_loadName_local S.ki S.pa hn3 mp ?_) S.db)) rfl)
  refine wpAny_Name (wpAny_loadName_local S.ki S.se hn3 ms ?_) (by decide +kernel)
  have dm := Obj.data_mapFields hef (·.setIfInBounds 0 (Value.ref T))
  refine xs_set (x1.store X3 q) z1 ((Obj.cls_mapFields _ _).trans hec) ((dict_mapF _ _).trans hed) dm fun h4 t4 dx y1 y2 y3 y4 => ?_
  refine wpAt_of_wpAny (wpAny_execs_nil ?_)
  have y2' : h4.get? e = some { cls := .ref C, dict := some dx, data := .fields (vs.setIfInBounds 0 (.ref T)), slots := oe.slots } := by
    rw [y2, Obj.cls_mapFields, hec, dm]
    obtain ⟨oc', od', odt', osl'⟩ := oe
    cases odt' <;> rfl
  exact hq h4 t4 dx T y2' (Nat.le_trans (Nat.le_of_lt hn3.lt) y1) y3 fun b o nb' z => y4 _ _ nb' (z2 _ _ nb' (k2 _ _ z))
end
end L2

set_option maxRecDepth 100000
namespace L2
open PySem PySem.Spec PyProof.Rows PySem.W
section
variable {prog : Program} {w : World} {A : Around} {E : Value → Shared → Prop} {h : Heap} {g : Array GenState} {d : Drawn} {t : Nat} {os : OsState} {C fI : Addr} {oI : Obj} {u : Value}
theorem xs_tcall {Q : Fin → Shared → Prop} (xa : XAt h C (some (.ref fI))) (hf : h.get? fI = some oI) (hfc : oI.cls = .type "function")
    (hq : ∀ h' e, Heap.MadeExcOf h h' e (.ref C) [u] → wpAny (model prog w) A (call (.ref fI) [.ref e, u]) (fun r s' => r = .none ∧ Q (.done (.ret (.ref e))) s') E ⟨h', g, d, t, os⟩) :
    wpAny (model prog w) A (Builtin.«type.__call__» ⟨[.ref C, u], []⟩) Q E ⟨h, g, d, t, os⟩ := by
  obtain ⟨nm, qn, N, bs, bm, sn, sub, ab, col, dd, k0, k1, k2, k3, k5, mN, hC, hN, hi, T⟩ := xa.out
  have F := PySem.F.excBase_ValueError
  repeat (first | with_reducible refine wpAny_loadPart_at hC ?_ | with_reducible refine wpAny_madeBy_exc hC ?_ | wp_step)
  refine codeAny_call_builtin_code (Code.quiet_builtin _ F.quiet) (wpAny_check_new_subU F (by decide +kernel) T hC ?_)
  refine codeAny_exc_new_subU (rest := [u]) F (by decide +kernel) F T hC ?_ (by show 1 ≤ sizeLine; decide)
  show wpAny _ _ _ _ _ _
  generalize hh : (h.push { cls := .type "tuple", data := .seq [u].toArray }).push { cls := .ref C, data := .fields #[.ref h.objs.size, .none, .none, .none, .bool false, .none] } = h2
  have up : ∀ b o, h.get? b = some o → h2.get? b = some o := fun b o z => by rw [← hh]; exact Heap.get?_push_of_some _ (Heap.get?_push_of_some _ z)
  have ge : h2.get? (h.objs.size + 1) = some { cls := .ref C, data := .fields #[.ref h.objs.size, .none, .none, .none, .bool false, .none] } := by rw [← hh]; heap_get
  have gt : h2.get? h.objs.size = some { cls := .type "tuple", data := .seq [u].toArray } := by rw [← hh]; exact Heap.get?_push_of_some _ (Heap.get?_push_at rfl rfl)
  have cC : (Value.ref C :: bm).contains (.ref C) = true := by simp
  have C2 := up _ _ hC
  unfold isInstance
  repeat (first | with_reducible refine wpAny_loadPart_at ge ?_ | (with_reducible refine wpAny_isSubtype_exc C2 ?_; rw [cC]) | wp_step)
  show wpAny _ _ (typeLookup (.ref C) _) _ _ _
  refine wpAny_typeLookup_tail C2 (hN.keeps up) (T.keeps up) F.mroIs F.init.lookup ?_
  rw [hi]
  refine wpAny_holding (wpAny_bind ?_)
  unfold bindSpecial
  refine wpAny_bind (wpAny_typeOf (T := "function") ⟨_, up _ _ hf, hfc⟩ ?_)
  rw [if_pos (by decide)]
  refine wpAny_pure (wpAny_bind (wpAny_mono (hq h2 (h.objs.size + 1) ⟨up, Heap.get?_none_of_le (Nat.le_succ _), h.objs.size, ge, Heap.get?_none_of_le (Nat.le_refl _), gt⟩) (fun r s' z => ?_) fun _ _ z => z))
  obtain ⟨rfl, z⟩ := z
  wp_walk
  exact z
theorem xs_call {Q : Value → Shared → Prop} (xa : XAt h C (some (.ref fI))) (hf : h.get? fI = some oI) (hfc : oI.cls = .type "function")
    (hq : ∀ h' e, Heap.MadeExcOf h h' e (.ref C) [u] → wpAny (model prog w) (A.under (.builtin "type.__call__" ⟨[.ref C, u], []⟩)) (call (.ref fI) [.ref e, u]) (fun r s' => r = .none ∧ Q (.ref e) s') E ⟨h', g, d, t, os⟩) :
    wpAny (model prog w) A (call (.ref C) [u]) Q E ⟨h, g, d, t, os⟩ := by
  obtain ⟨nm, qn, N, bs, bm, sn, sub, ab, col, dd, k0, k1, k2, k3, k5, mN, hC, _, _, _⟩ := xa.out
  have f1 := tc_lookup
  have f2 := tc_bind (.ref C)
  have ty : (⟨h, g, d, t, os⟩ : Shared).TypeIs (.ref C) "type" := ⟨_, hC, rfl⟩
  refine wpAny_call (codeAny_of_tree ?_)
  show wpAny _ _ (callAny (.ref C) _) _ _ _
  repeat (any_goals (first | assumption | with_reducible refine wpAny_loadPart_at hC ?_ | wp_step))
  refine ⟨rfl, ?_⟩
  exact codeAny_call_builtin_at (Code.quiet_builtin _ (by decide +kernel)) entry_typeCall (wpAny_check_type_call_sub hC (xs_tcall xa hf hfc fun h' e me => hq h' e me))
end
end L2

set_option maxRecDepth 100000
namespace L2
open PySem PySem.Spec PyProof.Rows PySem.W
structure XIni (prog : Program) (K : Frag) (C LE fI : Addr) (fld : Str) : Prop where
  x1 : XK1 K C LE fld
  xc : xcIn K C (some (.ref fI)) = true
  kp : keepIn K (.ref C) = true
  su : nsIn K mainGlobals "super" = some none
  top : (prog.main.scope.names.lookup ("super" : Str)).isSome = false
  ex : ∃ (nm qual par msg file : Str) (ps : Arguments) (body : List Stmt) (sc : Scope) (kV doc pm ct ccl cl : Value) (an od cdd cld : Option Addr) (osl ccs csl : Array (Option Value)) (cvs : Array Value) (tf : Tok) (ar : Arg) (cda cc : Addr)
    (a1 a2 a3 a4 a5 a6 b1 b2 b3 b4 : Pos) (kd : Nat) (pl : Env → Sem Bool),
    K.lookup fI = some ⟨.type "function", od, .func (ksFn nm qual ps body sc .none kV doc pm an (.ref cda) ct cc), osl⟩ ∧ codeIn K (.ref cda) qual = true ∧ K.lookup cda = some ⟨ccl, cdd, .fields cvs, ccs⟩ ∧ cvs[2]? = some (.str file tf) ∧ ((prog.main.file : Str) == file) = true ∧
    K.lookup cc = some ⟨cl, cld, .cell (some (.ref C)), csl⟩ ∧ ISc sc par ∧ (ps.posonlyargs ++ ps.args).head? = some ar ∧ ar.arg = "self" ∧ (∀ e u : Value, bindArgs (ksFn nm qual ps body sc .none kV doc pm an (.ref cda) ct cc) ⟨[e, u], []⟩ = pure [(("self" : Str), e), (par, u)]) ∧
    body = [.Expr (.Call (.Attribute (.Call (.Name "super" a1) [] [] a2) "__init__" a3) [.Constant (.str msg) kd a4] [] a5) a6, .Assign [.Attribute (.Name "self" b1) fld b2] (.Name par b3) b4] ∧
    ∀ env, eval (.Call (.Attribute (.Call (.Name "super" a1) [] [] a2) "__init__" a3) [.Constant (.str msg) kd a4] [] a5) env = (do
      let ov ← attributeBase (.Call (.Name "super" a1) [] [] a2) "__init__" env (eval (.Call (.Name "super" a1) [] [] a2) env)
      standAt a3.atName
      let (f, first) ← holding [ov] (getMethod ov "__init__" (pl env))
      callWith a5 f first (backTo a5 (starEach [.Constant (.str msg) kd a4] env)) [])
noncomputable def tRaise1 (C : Addr) (fld : Str) (XR : St → XK) (t : TA) : TS := fun _ σ H => t σ H fun vs H1 => ∃ v, vs = [v] ∧ ∀ dx, H1 dx = none → XR σ (.ref C) (some dx) (upd H1 dx (.xd [(fld, v)]))
section
variable {X : Cx} {C LE fI : Addr} {fld x : Str} {XR : St → XK} {np cpos pos : Pos} {e : Expr} {t : TA}
theorem qs_raise1 (hx : Px X XR) (hc : X.calm = true) (hr : Room 2 X.A) (hg : Gl X x) (hm : X.mg x = some (.ref C)) (Z : XIni X.prog X.K C LE fI fld) (ha : PAs X [e] t) (hst : notStar e = true) (hdb : (x == ("__debug__" : Str)) = false) :
    PSw X (.Raise (some (.Call (.Name x np) [e] [] cpos)) none pos) (tRaise1 C fld XR t) := by
  refine ⟨fun pins s σ H D I h => ?_⟩
  rw [arm_exec_Raise]
  simp only [evalOpt, Option.map]
  refine wpAny_bind (wpAny_standAt (raise_made (C := C) (init := some (.ref fI)) (I.ok.hd hc) ?_))
  refine wpAny_bind (wpAny_mono (Q := fun v s₁ => ∃ e oe vs, v = .ref e ∧ XAt s₁.heap C (some (.ref fI)) ∧ s₁.heap.get? e = some oe ∧ oe.cls = .ref C ∧ oe.data = .fields vs ∧ vs[1]? = some .none ∧ X.xe (.ref e) s₁) ?_ (fun v s₃ h₃ => wpAny_bind (wpAny_standAt (wpAny_pure h₃))) fun _ _ z => z)
  refine wpAny_Call_Name_kw (ld_glob I hg hm ?_ hdb)
  refine callWith_K (h₀ := X.base) I.ok.mod.kin Z.kp (thn (ha.run cpos pins s σ H _ I h) fun us s1 ⟨vs, H1, I1, r, v, hv, q⟩ => ⟨I1.kIn, ?_⟩) (star_ne hst) rfl
  subst hv
  obtain ⟨u, rfl, rv⟩ : ∃ u, us = [u] ∧ RelV v u := by
    cases r with
    | cons a b => cases b; exact ⟨_, rfl, a⟩
  obtain ⟨nm, qual, par, msg, file, ps, body, sc, kV, doc, pm, ct, ccl, cl, an, od, cdd, cld, osl, ccs, csl, cvs, tf, ar, cda, cc, a1, a2, a3, a4, a5, a6, b1, b2, b3, b4, kd, pl, z1, z2, z3, z4, z5, z6, z7, z8, z9, z10, z11, z12⟩ := Z.ex
  obtain ⟨hh, g, d, t1, os⟩ := s1
  have hk : ∀ b o, X.base.get? b = some o → hh.get? b = some o := I1.bk
  refine xs_call (xc_at I1.kIn Z.xc) (I1.kIn _ _ z1) rfl fun h1 e1 me => ?_
  obtain ⟨tp, q1, q2, q3⟩ := me.there
  have nb : X.base.get? e1 = none := by
    cases zz : X.base.get? e1 with
    | none => rfl
    | some o => have := hk _ _ zz; rw [me.new] at this; cases this
  have hsu : X.mg "super" = none := mg_none_of I1.ok.mod.kin I1.ok.mod.glob Z.su
  refine wpAny_call (codeAny_mono (R := fun r s' => r = .ok (.ret .none) ∧ ∃ e oe vs, Value.ref e1 = .ref e ∧ XAt s'.heap C (some (.ref fI)) ∧ s'.heap.get? e = some oe ∧ oe.cls = .ref C ∧ oe.data = .fields vs ∧ vs[1]? = some .none ∧ X.xe (.ref e) s') (xs_init (base := X.base) (par := par) (fld := fld) (LE := LE) (C := C) I1.ok.mod (fun b o z => me.keeps _ _ (hk _ _ z)) nb Z.x1 Z.xc (hr.make C [u] []).depth z1 z2 z3 z4 z5 z6 hsu Z.top (by decide +kernel) z7 z8 z9 (z10 _ _) z11 z12 q1 rfl rfl rfl rfl fun h2 t2 dx T y1 y2 y3 y4 => ⟨rfl, e1, _, _, rfl, ?_, y1, rfl, rfl, rfl, ?_⟩) ?_)
  · exact (xc_at I1.kIn Z.xc).keeps fun b o z => y4 _ _ (fun y => by rw [y] at z; rw [me.new] at z; cases z) (me.keeps _ _ z)
  · have kk : ∀ b o, hh.get? b = some o → h2.get? b = some o := fun b o z => y4 _ _ (fun y => by rw [y, me.new] at z; cases z) (me.keeps _ _ z)
    have d1 : h1.get? dx = none := Heap.get?_none_of_le y2
    have d0 : hh.get? dx = none := by
      cases zz : hh.get? dx with
      | none => rfl
      | some o => have := me.keeps _ _ zz; rw [d1] at this; cases this
    have Hd : H1 dx = none := I1.hok.none d0
    have He : H1 e1 = none := I1.hok.none me.new
    have ed : e1 ≠ dx := fun y => by rw [← y, q1] at d1; cases d1
    have ne : ∀ b o, H1 b = some o → b ≠ dx := fun b o z y => by rw [y, Hd] at z; cases z
    have hun : Un (frs X.stack) [] H1 (upd H1 dx (.xd [(fld, v)])) hh h2 := by
      refine ⟨fun b o z _ _ _ => kk b o z, fun b o z _ _ _ => ⟨o.slots, kk b o z⟩, fun b o z n _ => ?_, fun b o z _ => ⟨o, kk b o z⟩, fun b xs z => ?_, fun b o xs z => ?_, fun b ps z => ⟨#[], ?_⟩⟩
      · rw [upd_ne (fun y => by rw [y, d0] at z; cases z)]; exact n
      · rw [upd_ne (ne _ _ z)]; exact z
      · rw [upd_ne (ne _ _ z)]; exact z
      · rw [upd_ne (ne _ _ z), z]; simp
    have hho : HOk X.prog X.w (upd H1 dx (.xd [(fld, v)])) h2 := fun b o z => by
      by_cases hb : b = dx
      · subst hb
        rw [upd_same] at z
        cases z
        refine ⟨_, y3, fun f => ?_⟩
        show RelO (([(fld, v)] : List (Str × V)).lookup f) _
        rw [List.lookup_cons]
        by_cases hf : f = fld
        · subst hf; simp only [beq_self_eq_true, if_true]; exact rv
        · have : (f == fld) = false := by simpa using hf
          rw [this, if_neg hf]; exact trivial
      · rw [upd_ne hb] at z
        exact (I1.hok b o z).stay (fun c w' _ y => kk c w' y) (fun c y => by rw [upd_ne (ne _ _ y)]; exact y) fun c xs y => by rw [upd_ne (ne _ _ y)]; exact y
    exact hx pins σ H1 ⟨hh, g, d, t1, os⟩ (.ref e1) ⟨h2, g, d, t2, os⟩ I1 ⟨e1, .ref C, some dx, _, rfl, rfl, I1.bare, hun, hho, ⟨me.new, by rw [upd_ne ed]; exact He⟩, ⟨_, _, y1, rfl, rfl, rfl, by simp, .inl ⟨rfl, rfl⟩⟩, q dx Hd⟩
  · rintro _ s' ⟨rfl, z⟩
    exact ⟨rfl, z⟩
end
end L2

set_option maxRecDepth 100000
namespace L2
open PySem PySem.Spec PyProof.Rows PySem.W
section
variable {prog : Program} {w : World} {A : Around} {E : Value → Shared → Prop} {h : Heap} {g : Array GenState} {d : Drawn} {t : Nat} {os : OsState} {a C LE dx : Addr} {o : Obj} {vs : Array Value} {name : Str} {v : Value} {mA : Str → Option Value}
theorem ld_at {M : Model} {Q : Obj → Shared → Prop} (ho : h.get? a = some o) (hq : Q o ⟨h, g, d, t, os⟩) : wpAny M A (load a) Q E ⟨h, g, d, t, os⟩ := wpAny_load ho hq
theorem nsg_at {M : Model} {Q : Option Value → Shared → Prop} (hn : h.Ns1 dx mA) (hm : mA name = some v) (hq : Q (some v) ⟨h, g, d, t, os⟩) : wpAny M A (nsGet dx name) Q E ⟨h, g, d, t, os⟩ := wpAny_nsGet hn.ns (by rw [hm]; exact hq)
theorem xa_entry {init : Option Value} {tk : Tok} {Q : Fin → Shared → Prop} (xa : XAt h C init) (no : Looks (model prog w) h (typeLookup (.ref C) name) none) (hx : h.get? a = some o) (hc : o.cls = .ref C) (hd : o.data = .fields vs) (hdx : o.dict = some dx) (hn : h.Ns1 dx mA) (hm : mA name = some v)
    (hq : Q (.done (.ret v)) ⟨h, g, d, t, os⟩) : wpAny (model prog w) A (Builtin.«object.__getattribute__» ⟨[.ref a, .str name tk], []⟩) Q E ⟨h, g, d, t, os⟩ := by
  obtain ⟨oc, od, odt, osl⟩ := o
  dsimp only at hc hd hdx
  subst hc hd hdx
  obtain ⟨nm, qn, N, bs, bm, sn, sub, ab, col, dd, k0, k1, k2, k3, k5, mN, hC, _, _, _⟩ := xa.out
  repeat (any_goals (first | assumption | (with_reducible refine wpAny_loadPart_at hx ?_) | (with_reducible refine ld_at hC ?_) | (with_reducible refine nsg_at hn hm ?_) | (with_reducible refine Looks.at no ?_) | wp_step))
structure GetAt (M : Model) (h : Heap) (C : Addr) : Prop where
  ga : Looks M h (typeLookup (.ref C) "__getattribute__") (some (.builtin "BaseException.__getattribute__"))
  gn : Looks M h (typeLookup (.ref C) "__getattr__") none
  be : Looks M h (isSubtype (.ref C) (.type "BaseException")) true
  ob : Looks M h (isSubtype (.ref C) (.type "object")) true
  kc : Looks M h (typeLookup (.ref C) "__class__") (some (.builtin "object.__class__"))
theorem xa_chk {M : Model} {n : Value} {Q : Unit → Shared → Prop} (G : GetAt M h C) (hx : h.get? a = some o) (hc : o.cls = .ref C) (hq : Q () ⟨h, g, d, t, os⟩) : wpAny M A (checkBuiltinCall "BaseException.__getattribute__" ⟨[.ref a, n], []⟩) Q E ⟨h, g, d, t, os⟩ := by
  have kd : builtinKind "BaseException.__getattribute__" = some .slot := by decide +kernel
  have sp : splitId "BaseException.__getattribute__" = some ("BaseException", "__getattribute__") := by decide +kernel
  have be := G.be
  simp only [checkBuiltinCall, kd, sp]
  refine wpAny_bind ?_
  unfold isInstance
  repeat (first | (with_reducible refine wpAny_loadPart_at hx ?_; rw [hc]) | (with_reducible refine Looks.at be ?_) | wp_step)
  exact hq
theorem xa_by {tk : Tok} {fill expr : Bool} {Q : Value → Shared → Prop} (hv : handedOut v = pure v) (G : GetAt (model prog w) h C) (hx : h.get? a = some o) (hc : o.cls = .ref C)
    (hq : ∀ A', codeAny (model prog w) A' (.call (.builtin "BaseException.__getattribute__") ⟨[.ref a, .str name tk], []⟩) (fun r s' => r = .ok (.ret v) ∧ Q v s') ⟨h, g, d, t, os⟩) :
    wpAny (model prog w) A (getAttrBy (.ref a) (.str name tk) fill expr) Q E ⟨h, g, d, t, os⟩ := by
  have FB := PySem.F.attr_ValueError
  have f3 := FB.ga.bind (.ref a)
  have z0 : (expr && onTheHeap (Value.builtin "BaseException.__getattribute__")) = false := by cases expr <;> rfl
  have z2 : (Value.builtin "BaseException.__getattribute__" == Value.builtin "object.__getattribute__") = false := by decide +kernel
  have z1 : (onTheHeap (Value.ref C) && Value.builtin "BaseException.__getattribute__" == Value.builtin "object.__getattribute__") = false := by rw [z2]; rfl
  have ga := G.ga
  have gn := G.gn
  repeat (any_goals (first | assumption | (with_reducible refine wpAny_loadPart_at hx ?_; rw [hc]) | (with_reducible refine Looks.at ga ?_) | (with_reducible refine Looks.at gn ?_) | wp_step))
  refine codeAny_mono (hq _) fun r s' ⟨z, q⟩ => ?_
  subst z
  show wpAny _ _ (handedOut v) _ _ _
  rw [hv]
  exact wpAny_pure q
theorem xa_fld {init : Option Value} {expr : Bool} {Q : Value → Shared → Prop} (hv : handedOut v = pure v) (G : GetAt (model prog w) h C) (xa : XAt h C init) (no : Looks (model prog w) h (typeLookup (.ref C) name) none) (hx : h.get? a = some o) (hc : o.cls = .ref C) (hd : o.data = .fields vs) (hdx : o.dict = some dx) (hn : h.Ns1 dx mA) (hm : mA name = some v)
    (hq : Q v ⟨h, g, d, t + 1, os⟩) : wpAny (model prog w) A (getAttr (.ref a) name expr) Q E ⟨h, g, d, t, os⟩ := by
  unfold getAttr
  refine wpAny_bind (wpAny_mkText ?_)
  refine xa_by (v := v) hv G hx hc fun A' => ?_
  exact codeAny_call_builtin PySem.F.attr_ValueError.ga.plain PySem.F.entry_bexc_ga (xa_chk G hx hc (xa_entry xa no hx hc hd hdx hn hm ⟨rfl, hq⟩))
theorem xa_ce {tk : Tok} {Q : Fin → Shared → Prop} (G : GetAt (model prog w) h C) (hx : h.get? a = some o) (hc : o.cls = .ref C) (hd : o.data = .fields vs)
    (hq : Q (.done (.ret (.ref C))) ⟨h, g, d, t, os⟩) : wpAny (model prog w) A (Builtin.«object.__getattribute__» ⟨[.ref a, .str "__class__" tk], []⟩) Q E ⟨h, g, d, t, os⟩ := by
  have ty : (⟨h, g, d, t, os⟩ : Shared).TypeIs (.builtin "object.__class__") "getset_descriptor" := PySem.F.typeOf_object_class
  have f5 := PySem.F.typeOf_object_class
  have f6 := PySem.F.slot_gs_get.lookup
  have f7 := PySem.F.slot_gs_set.lookup
  have kc := G.kc
  repeat (any_goals (first | assumption | (with_reducible refine wpAny_loadPart_at hx ?_; rw [hc]) | (with_reducible refine Looks.at kc ?_) | wp_step))
  have ow : (".".intercalate ("object.__class__".cutAt '.').dropLast) = "object" := by kernel_rfl
  have ob := G.ob
  rw [← ow] at ob
  refine codeAny_call_builtin PySem.F.slot_gs_get.plain PySem.F.entry_gs_get (PySem.F.slot_gs_get.check _ _ _ _ _ _ _ _ ty (PySem.F.args_gs_get _ _ _) ?_)
  repeat (any_goals (first | assumption | (with_reducible refine wpAny_loadPart_at hx ?_; rw [hc]) | (with_reducible refine Looks.at ob ?_) | wp_step))
  refine ⟨Code.quiet_builtin _ (by decide +kernel), codeAny_builtin PySem.F.entry_object_class ?_⟩
  unfold Builtin.«object.__class__»
  repeat (any_goals (first | assumption | (with_reducible refine wpAny_loadPart_at hx ?_; rw [hc]) | wp_step))
theorem xa_cls {Q : Option Value → Shared → Prop} (G : GetAt (model prog w) h C) (hx : h.get? a = some o) (hc : o.cls = .ref C) (hd : o.data = .fields vs) (hq : Q (some (.ref C)) ⟨h, g, d, t + 1, os⟩) :
    wpAny (model prog w) A (getAttr? (.ref a) "__class__") Q E ⟨h, g, d, t, os⟩ := by
  unfold getAttr? getAttrBy?
  refine wpAny_bind (wpAny_mkText (wpAny_bind (wpAny_attempt ?_)))
  refine xa_by (v := .ref C) rfl G hx hc fun A' => ?_
  exact codeAny_call_builtin PySem.F.attr_ValueError.ga.plain PySem.F.entry_bexc_ga (xa_chk G hx hc (xa_ce G hx hc hd ⟨rfl, wpAny_pure hq⟩))
end
end L2

set_option maxRecDepth 100000
namespace L2
open PySem PySem.Spec PyProof.Rows PySem.W
structure XG (K : Frag) (C : Addr) : Prop where
  cl : ∃ cd, clsIn K C = some cd
  ga : findIn K (.ref C) "__getattribute__" = some (some (.builtin "BaseException.__getattribute__"))
  gn : findIn K (.ref C) "__getattr__" = some none
  kc : findIn K (.ref C) "__class__" = some (some (.builtin "object.__class__"))
  be : mroIn K C (.type "BaseException") = some true
  ob : mroIn K C (.type "object") = some true
theorem XG.at_ {K : Frag} {C : Addr} {M : Model} {h : Heap} (x : XG K C) (X : K.In h) : GetAt M h C := ⟨looks_findIn X x.ga, looks_findIn X x.gn, looks_mroIn X x.be, looks_mroIn X x.ob, looks_findIn X x.kc⟩
theorem kitx_exc {K : Frag} {a C : Addr} {dx : Option Addr} (x : XG K C) : KitX K (.ref a) (.ref C) (ExcIs a (.ref C) dx) where
  ty := fun M h X ⟨oe, vs, q, c, _⟩ => by rw [← c]; exact looks_cls q
  it := fun M h X _ => by
    obtain ⟨cd, e⟩ := x.cl
    unfold clsIn at e
    split at e
    · rename_i ho
      intro A' Q' E' s' k q
      unfold isType loadHead
      exact wpAny_bind (wpAny_loadPart (k _ _ (X _ _ ho)) (wpAny_pure q))
    · cases e
  ne := fun h tp dd its n sl X htp => by
    obtain ⟨cd, e⟩ := x.cl
    refine Bool.eq_false_iff.mpr fun q => ?_
    have z : C = tp := Value.ref.inj (beq_iff_eq.mp q)
    subst z
    unfold clsIn at e
    split at e
    · rename_i ho
      have z := (X _ _ ho).symm.trans htp
      cases z
    · cases e
  ca := fun {_ _ _ _ _ s} X ⟨oe, vs, q, c, _, f⟩ k => by
    obtain ⟨h, g, d, t, os⟩ := s
    exact xa_cls (x.at_ X) q c f k
inductive TyX (K : Frag) (H : Hp) : V → Value → Prop
  | std {x : V} {T : String} (h : TyS K H x T) : TyX K H x (.type T)
  | exc {a C : Addr} {dx : Option Addr} (h : H a = some (.ext (ExcIs a (.ref C) dx))) (g : XG K C) : TyX K H (.ref a) (.ref C)
noncomputable def cV : V → Option Value
  | .ty n => some (.type n)
  | .ref C => some (.ref C)
  | _ => none
noncomputable def rIsiX (K : Frag) : List V → Hp → VK → Prop := fun xs H Q => ∃ x c tv cv b, xs = [x, c] ∧ TyX K H x tv ∧ cV c = some cv ∧ kitOne K tv cv = some b ∧ Q (.bl b) H
section
variable {X : Cx}
theorem cn_isiX : CallR X (.builtin "isinstance") (rIsiX X.K) := by
  intro pins s σ H xs us Q I r h
  obtain ⟨x, c, tv, cv, b, rfl, ty, hc, e, q⟩ := h
  obtain ⟨u, w, rfl, ru, rw_⟩ := vals2 r
  obtain rfl : w = cv := by
    cases c with
    | ty n => cases hc; exact rw_
    | ref C => cases hc; exact rw_
    | _ => cases hc
  have fin : ∀ tk, EP X pins σ Q (.bool b) { s with toks := tk } := fun tk => ⟨.bl b, H, I.tok tk, rfl, q⟩
  cases ty with
  | std ty =>
    cases ty with
    | non => cases ru; exact kia_one kitx_none I.kIn True.intro e (fun z => nomatch z) fin
    | bl y => cases ru; exact kia_one kitx_bool I.kIn True.intro e (fun z => nomatch z) fin
    | int i => obtain ⟨t, rfl⟩ := ru; exact kia_one kitx_int I.kIn True.intro e (fun z => nomatch z) fin
    | str y => obtain ⟨t, rfl⟩ := ru; exact kia_one kitx_str I.kIn True.intro e (fun z => nomatch z) fin
    | lst hq =>
      cases ru
      obtain ⟨its, _, ⟨o, nn, e1, e2, _⟩, _⟩ := I.list hq
      exact kia_one kitx_list I.kIn ⟨o, e1, e2⟩ e (fun z => nomatch z) fin
    | tup hq =>
      cases ru
      obtain ⟨its, _, ⟨o, e1, e2, _⟩, _⟩ := I.tuple hq
      exact kia_one kitx_tuple I.kIn ⟨o, e1, e2⟩ e (fun z => nomatch z) fin
    | @dk a kvs hq =>
      cases ru
      obtain ⟨_, _, vs, _, o, es, ep, h1, h2, _⟩ := (show ObjOk X.prog X.w H s.heap a (.dK kvs) from I.hok a _ hq)
      exact kia_one kitx_dict I.kIn ⟨o, h1, h2.1⟩ e (fun z => nomatch z) fin
  | @exc a C dx hq g =>
    cases ru
    have z : ExcIs a (.ref C) dx s.heap := (I.hok a _ hq).1
    exact kia_one (kitx_exc g) I.kIn z e (fun z => nomatch z) fin
noncomputable def tXAt (K : Frag) (ta : TE) (f : Str) : TE := fun σ H Q => ta σ H fun x H1 => ∃ a C dx fs v init, x = .ref a ∧ H1 a = some (.ext (ExcIs a (.ref C) (some dx))) ∧ XG K C ∧ xcIn K C init = true ∧ findIn K (.ref C) f = some none ∧ H1 dx = some (.xd fs) ∧ fs.lookup f = some v ∧ Q v H1
variable {e : Expr} {ta : TE} {f : Str} {pos : Pos}
theorem handed_rel {v : V} {u : Value} (r : RelV v u) : handedOut u = pure u := by
  cases v with
  | non => cases r; rfl
  | bl b => cases r; rfl
  | int i => obtain ⟨t, rfl⟩ := r; rfl
  | str x => obtain ⟨t, rfl⟩ := r; rfl
  | byt b => obtain ⟨t, rfl⟩ := r; rfl
  | flt b => obtain ⟨t, rfl⟩ := r; rfl
  | ref a => cases r; rfl
  | ty n => cases r; rfl
theorem pe_xat (he : PE X e ta) (hb : attributeBase e f X.env (eval e X.env) = eval e X.env) : PE X (.Attribute e f pos) (tXAt X.K ta f) := by
  intro pins s σ H Q I h
  refine attr_of hb (thn (he pins s σ H _ I h) fun u s1 ⟨x, H1, I1, rx, a, C, dx, fs, v, init, ex, ea, g, xc, nf, ed, l, q⟩ => ?_)
  subst ex
  obtain rfl : u = Value.ref a := rx
  obtain ⟨oe, vs, q0, q1, q2, q3⟩ := (I1.hok a _ ea).1
  obtain ⟨mA, n1, rel⟩ : ∃ mA, s1.heap.Ns1 dx mA ∧ ∀ f, RelO (fs.lookup f) (mA f) := I1.hok dx _ ed
  have rf := rel f
  rw [l] at rf
  cases hm : mA f with
  | none => rw [hm] at rf; exact rf.elim
  | some uv =>
    rw [hm] at rf
    have rf' : RelV v uv := rf
    obtain ⟨hh, gg, d, t, os⟩ := s1
    exact xa_fld (handed_rel rf') (g.at_ I1.kIn) (xc_at I1.kIn xc) (looks_findIn I1.kIn nf) q0 q1 q3 q2 n1 hm ⟨v, H1, I1.tok _, rf', q⟩
end
end L2

set_option maxRecDepth 100000
namespace L2
open PySem PySem.Spec PyProof.Rows PySem.W
noncomputable def xgIn (K : Frag) (C : Addr) : Bool := (clsIn K C).isSome && (findIn K (.ref C) "__getattribute__" == some (some (.builtin "BaseException.__getattribute__")) && (findIn K (.ref C) "__getattr__" == some none && (findIn K (.ref C) "__class__" == some (some (.builtin "object.__class__")) && (mroIn K C (.type "BaseException") == some true && mroIn K C (.type "object") == some true))))
theorem xg_of {K : Frag} {C : Addr} (h : xgIn K C = true) : XG K C := by
  unfold xgIn at h
  simp only [Bool.and_eq_true, beq_iff_eq] at h
  obtain ⟨a, b, c, d, e, f⟩ := h
  exact ⟨Option.isSome_iff_exists.mp a, b, c, d, e, f⟩
noncomputable def xk1In (K : Frag) (C LE : Addr) (fld : Str) : Bool := (clsIn K C).map (·.mro) == some (.ref C :: .ref LE :: bmV) && (findIn K (.ref C) fld == some none && (findIn K (.ref C) "__setattr__" == some (some (.builtin "object.__setattr__")) && (alongIn K "__init__" (.ref LE :: bmV) == some (some (.builtin "ValueError.__init__")) && nsIn K cStatics "thirdparty.any" == some none)))
theorem xk1_of {K : Frag} {C LE : Addr} {fld : Str} (h : xk1In K C LE fld = true) : XK1 K C LE fld := by
  unfold xk1In at h
  simp only [Bool.and_eq_true, beq_iff_eq] at h
  obtain ⟨a, b, c, d, e⟩ := h
  exact ⟨a, b, c, d, e⟩
structure IBody (st : Stmt) (fld par : Str) : Prop where
  sc : ISc (defScope st) par
  se : ∃ ar, ((defArgs st).posonlyargs ++ (defArgs st).args).head? = some ar ∧ ar.arg = "self"
  bd : ∀ (nm qual : Str) (kV doc pm : Value) (an : Option Addr) (cda : Value) (ct : Value) (cc : Addr) (e u : Value), bindArgs (ksFn nm qual (defArgs st) (defBody st) (defScope st) .none kV doc pm an cda ct cc) ⟨[e, u], []⟩ = pure [(("self" : Str), e), (par, u)]
  tx : ∃ (msg : Str) (a1 a2 a3 a4 a5 a6 b1 b2 b3 b4 : Pos) (kd : Nat) (pl : Env → Sem Bool), defBody st = [.Expr (.Call (.Attribute (.Call (.Name "super" a1) [] [] a2) "__init__" a3) [.Constant (.str msg) kd a4] [] a5) a6, .Assign [.Attribute (.Name "self" b1) fld b2] (.Name par b3) b4] ∧
    ∀ env, eval (.Call (.Attribute (.Call (.Name "super" a1) [] [] a2) "__init__" a3) [.Constant (.str msg) kd a4] [] a5) env = (do
      let ov ← attributeBase (.Call (.Name "super" a1) [] [] a2) "__init__" env (eval (.Call (.Name "super" a1) [] [] a2) env)
      standAt a3.atName
      let (f, first) ← holding [ov] (getMethod ov "__init__" (pl env))
      callWith a5 f first (backTo a5 (starEach [.Constant (.str msg) kd a4] env)) [])
theorem xini_mk {prog : Program} {K : Frag} {C LE fI cda cc : Addr} {fld par nm qual file : Str} {st : Stmt} {kV doc pm ct ccl cl : Value} {an od cdd cld : Option Addr} {osl ccs csl : Array (Option Value)} {cvs : Array Value} {tf : Tok}
    (T : IBody st fld par) (x1 : xk1In K C LE fld = true) (xc : xcIn K C (some (.ref fI)) = true) (kp : keepIn K (.ref C) = true) (su : nsIn K mainGlobals "super" = some none) (top : (prog.main.scope.names.lookup ("super" : Str)).isSome = false)
    (lk : K.lookup fI = some ⟨.type "function", od, .func (ksFn nm qual (defArgs st) (defBody st) (defScope st) .none kV doc pm an (.ref cda) ct cc), osl⟩) (cd : codeIn K (.ref cda) qual = true) (hcode : K.lookup cda = some ⟨ccl, cdd, .fields cvs, ccs⟩) (hvs : cvs[2]? = some (.str file tf)) (hfile : ((prog.main.file : Str) == file) = true)
    (hcell : K.lookup cc = some ⟨cl, cld, .cell (some (.ref C)), csl⟩) : XIni prog K C LE fI fld := by
  obtain ⟨ar, s1, s2⟩ := T.se
  obtain ⟨msg, a1, a2, a3, a4, a5, a6, b1, b2, b3, b4, kd, pl, t1, t2⟩ := T.tx
  exact ⟨xk1_of x1, xc, kp, su, top, nm, qual, par, msg, file, _, _, _, kV, doc, pm, ct, ccl, cl, an, od, cdd, cld, osl, ccs, csl, cvs, tf, ar, cda, cc, a1, a2, a3, a4, a5, a6, b1, b2, b3, b4, kd, pl, lk, cd, hcode, hvs, hfile, hcell, T.sc, s1, s2, T.bd nm qual kV doc pm an (.ref cda) ct cc, t1, t2⟩
theorem px0 {X : Cx} : Px X (fun _ => E0) := fun _ _ _ _ _ _ _ h => by
  obtain ⟨a, C, dx, H', _, _, _, _, _, _, _, q⟩ := h
  exact q.elim
section
variable {X : Cx} {b₀ : Stmt} {body suite : List Stmt} {c x : Str} {p hp pos : Pos} {B : Addr} {i : Nat} {tb : (St → XK) → TS} {ts : TS}
theorem qs_try (hN : X.N.Nodup) (hi : X.N[i]? = some x) (hx : X.env.scope.names.lookup x = some .local) (hg : Gl X c) (hm : X.mg c = some (.ref B)) (hst : X.stack = X.env :: X.outer) (hfr : X.env.frame = some X.env.locals) (hex : X.ex = [])
    (hb : ∀ (xe' : Value → Shared → Prop) (pn' : List (Addr × Obj)) (XR : St → XK), Px (X.tr xe' pn') XR → PSsw (X.tr xe' pn') body (tb XR)) (hs : ∀ e : Addr, PSsw (X.su e) (b₀ :: suite) ts) (hdb : (c == ("__debug__" : Str)) = false) :
    PSw X (.Try body [.ExceptHandler (some (.Name c p)) (some x) (b₀ :: suite) hp] [] [] pos) (tTry X.K B i tb ts) := ⟨ps_try hN hi hx hg hm hst hfr hex (fun xe' pn' XR h => (hb xe' pn' XR h).run) (fun e => (hs e).run) hdb⟩
end
section
variable {σ : St} {H : Hp} {D : Ends} {Q : VK}
theorem rd_callX {sp : Sp} {dvs : List V} {XR : St → XK} {t : TA} (h : t σ H fun vs H1 => sp (vs ++ dvs) H1 Q (XR σ)) : tCallX sp dvs XR t σ H Q := h
theorem rd_raise0 {C : Addr} {XR : St → XK} (h : XR σ (.ref C) none H) : tRaise0 C XR D σ H := h
theorem rd_raise1 {C : Addr} {fld : Str} {XR : St → XK} {t : TA} (h : t σ H fun vs H1 => ∃ v, vs = [v] ∧ ∀ dx, H1 dx = none → XR σ (.ref C) (some dx) (upd H1 dx (.xd [(fld, v)]))) : tRaise1 C fld XR t D σ H := h
theorem rd_try {K : Frag} {B : Addr} {i : Nat} {tb : (St → XK) → TS} {ts : TS}
    (h : tb (fun σ' C dx H' => exmOne K C (.ref B) = some true ∧ ∀ a, H' a = none → ts (D.un i) (σ'.set i (some (.ref a))) (upd H' a (.ext (ExcIs a C dx)))) D σ H) : tTry K B i tb ts D σ H := h
theorem rd_unx {i : Nat} (h : D.nx (σ.set i none) H) : (D.un i).nx σ H := h
theorem rd_xat {K : Frag} {ta : TE} {f : Str} (h : ta σ H fun x H1 => ∃ a C dx fs v init, x = .ref a ∧ H1 a = some (.ext (ExcIs a (.ref C) (some dx))) ∧ XG K C ∧ xcIn K C init = true ∧ findIn K (.ref C) f = some none ∧ H1 dx = some (.xd fs) ∧ fs.lookup f = some v ∧ Q v H1) : tXAt K ta f σ H Q := h
theorem rd_isiX {K : Frag} {x c : V} {tv cv : Value} {b : Bool} (ty : TyX K H x tv) (hc : cV c = some cv) (e : kitOne K tv cv = some b) (h : Q (.bl b) H) : rIsiX K [x, c] H Q := ⟨x, c, tv, cv, b, rfl, ty, hc, e, h⟩
end
end L2

set_option maxRecDepth 100000
namespace L2
open PySem PySem.Spec PyProof.Rows PySem.W
structure ISc0 (sc : Scope) : Prop where
  su : sc.names.lookup ("super" : Str) = some .globalImplicit
  cl : sc.names.lookup ("__class__" : Str) = some .free
  se : sc.names.lookup ("self" : Str) = some .local
  nc : ∀ x ∈ sc.names, x.2 ≠ .cell
  co : sc.isCoroutine = false
  ge : sc.isGenerator = false
  ki : sc.kind = .function
section
variable {prog : Program} {w : World} {A : Around} {R : Result → Shared → Prop} {h : Heap} {g : Array GenState} {d : Drawn} {t : Nat} {os : OsState}
variable {K : Frag} {mg : Str → Option Value} {base : Heap} {f C LE e cda cc : Addr} {fld nm qual msg file : Str} {ps : Arguments} {body : List Stmt} {sc : Scope} {kV doc pm ct oc ccl cl : Value} {an od cdd cld : Option Addr} {osl ccs csl : Array (Option Value)} {cvs vs : Array Value} {tf : Tok} {init : Option Value} {oe : Obj} {t0 : Addr} {ar : Arg}
  {a1 a2 a3 a4 a5 a6 : Pos} {kd : Nat} {pl : Env → Sem Bool}
theorem xs_init0 (B : Mod K mg base) (kb : ∀ b o, base.get? b = some o → h.get? b = some o) (nb : base.get? e = none) (x1 : XK1 K C LE fld) (q : xcIn K C init = true) (hroom : A.depth < recursionLimit)
    (lk : K.lookup f = some ⟨oc, od, .func (ksFn nm qual ps body sc .none kV doc pm an (.ref cda) ct cc), osl⟩) (hcd : codeIn K (.ref cda) qual = true) (hcode : K.lookup cda = some ⟨ccl, cdd, .fields cvs, ccs⟩) (hvs : cvs[2]? = some (.str file tf)) (hfile : ((prog.main.file : Str) == file) = true)
    (hcell : K.lookup cc = some ⟨cl, cld, .cell (some (.ref C)), csl⟩) (hsu : mg "super" = none) (htop : (prog.main.scope.names.lookup ("super" : Str)).isSome = false) (hboot : bootBuiltins "super" = some (.type "super"))
    (S : ISc0 sc) (hp : (ps.posonlyargs ++ ps.args).head? = some ar) (har : ar.arg = "self") (hbind : bindArgs (ksFn nm qual ps body sc .none kV doc pm an (.ref cda) ct cc) ⟨[.ref e], []⟩ = pure [(("self" : Str), .ref e)])
    (hb : body = [.Expr (.Call (.Attribute (.Call (.Name "super" a1) [] [] a2) "__init__" a3) [.Constant (.str msg) kd a4] [] a5) a6])
    (hev : ∀ env, eval (.Call (.Attribute (.Call (.Name "super" a1) [] [] a2) "__init__" a3) [.Constant (.str msg) kd a4] [] a5) env = (do
      let ov ← attributeBase (.Call (.Name "super" a1) [] [] a2) "__init__" env (eval (.Call (.Name "super" a1) [] [] a2) env)
      standAt a3.atName
      let (f, first) ← holding [ov] (getMethod ov "__init__" (pl env))
      callWith a5 f first (backTo a5 (starEach [.Constant (.str msg) kd a4] env)) []))
    (he : h.get? e = some oe) (hec : oe.cls = .ref C) (hed : oe.dict = none) (hef : oe.data = .fields vs) (h0 : vs[0]? = some (.ref t0))
    (hq : ∀ h' t' T, h'.get? e = some { cls := .ref C, dict := none, data := .fields (vs.setIfInBounds 0 (.ref T)), slots := oe.slots } → (∀ b o, b ≠ e → h.get? b = some o → h'.get? b = some o) → R (.ok (.ret .none)) ⟨h', g, d, t', os⟩) :
    codeAny (model prog w) A (.call (.ref f) ⟨[.ref e], []⟩) R ⟨h, g, d, t, os⟩ := by
  have X : K.In h := B.kin.keeps kb
  refine ks_codeAny_call_defAt (s := ⟨h, g, d, t, os⟩) (binds := [(("self" : Str), .ref e)]) hroom (X _ _ lk) rfl (B.nolimit.keeps kb) (codeRec_of X hcd) rfl (.of_eq hbind) S.nc (fun y hy => ?_) (fun h₀ hn k0 => ?_) S.co S.ge S.ki
  · simp only [List.mem_cons, List.mem_nil_iff, or_false] at hy
    subst hy
    exact S.se
  have kb0 : ∀ b o, base.get? b = some o → h₀.get? b = some o := fun b o z => k0 _ _ (kb _ _ z)
  have X0 : K.In h₀ := B.kin.keeps kb0
  have e0 := k0 _ _ he
  have ms : (fun x => ([("self", .ref e)] : List (Str × Value)).reverse.lookup x) ("self" : Str) = some (.ref e) := rfl
  obtain ⟨mb, hb1, hb2⟩ := B.blt
  obtain ⟨nmC, qnC, NC, bsC, bmC, snC, subC, abC, colC, ddC, k0C, k1C, k2C, k3C, k5C, mNC, hC, _, _, _⟩ := (xc_at X0 q).out
  have nfe : ∀ c, oe.data ≠ .cls c := fun c z => by rw [hef] at z; cases z
  have neC : e ≠ C := fun z => by
    subst z
    rw [e0] at hC; cases hC
    cases hef
  subst hb
  dsimp only
  generalize hE : (fun (e : Value) (s' : Shared) => wpAny (model prog w) _ (leaving _ e) (fun _ s'' => R (Except.error e) s'') (fun e' s'' => R (Except.error e') s'') s') = EX
  refine ks_wpAt_execs_cons ?_
  refine ks_wpAt_Expr_any ?_ (by show (sc.kind == .module && _) = false; rw [S.ki]; rfl) rfl
  refine ks_wpAt_MethodCall ?_ (hev _)
  refine ks_wpAt_super_base (env := ksEnv qual sc h.objs.size f (.ref cda) cc) (file := file) (tf := tf) S.su S.cl (by decide +kernel) rfl (X0 _ _ lk) rfl hp rfl (X0 _ _ hcode) rfl hvs hfile htop ?_
  refine ks_loadName_global S.ki S.su (Calls.loadGlobal_builtin (B.glob.keeps kb0) hsu (hb1.keeps kb0) ((hb2 _ (by decide +kernel)).trans hboot) ⟨rfl, ?_⟩)
  refine wpAny_loadName_free S.ki S.cl rfl ⟨_, X0 _ _ hcell, rfl⟩ ?_
  rw [har]
  refine wpAny_loadName_local S.ki S.se hn ms ?_
  refine ks_wpAny_isType_cls hC rfl ⟨rfl, ?_⟩
  refine ks_wpAny_call_super hC rfl e0 hec nfe (x1.subs X0 (by simp)) (fun h1 hso k1 => ?_)
  have kb1 : ∀ b o, base.get? b = some o → h1.get? b = some o := fun b o z => k1 _ _ (kb0 _ _ z)
  have X1 : K.In h1 := B.kin.keeps kb1
  have e1 := k1 _ _ e0
  have inst : Looks (model prog w) h1 (isInstance (.ref e) (.type "ValueError")) true := by
    unfold isInstance
    refine (looks_cls e1).andThen ?_
    rw [hec]
    exact x1.subs X1 (by simp [bmV])
  refine xs_getm (l := .ref LE :: bmV) hso (looks_opaque X1 x1.opq) (x1.mroL X1) (by simp [List.dropWhile]) X1 x1.ini neC inst ?_
  generalize hmo : ({ cls := .type "method-wrapper", data := .fields #[.builtin "ValueError.__init__", .ref e] } : Obj) = mo
  have m2 : (h1.push mo).get? h1.objs.size = some mo := Heap.get?_push_size _ (by rw [← hmo]; rfl)
  have k2 : ∀ b o, h.get? b = some o → (h1.push mo).get? b = some o := fun b o z => Heap.get?_push_of_some _ (k1 _ _ (k0 _ _ z))
  have e2 := k2 _ _ he
  have X2 : K.In (h1.push mo) := B.kin.keeps fun b o z => Heap.get?_push_of_some _ (kb1 _ _ z)
  refine callWith_mw (mw := h1.objs.size) (fn := .builtin "ValueError.__init__") (x := .ref e) (by rw [hmo]; exact m2) fun tk => ?_
  refine xs_run (by rw [hmo]; exact m2) (xc_at X2 q) hec e2 hef h0 fun h3 T zT z1 z2 => ?_
  have dm := Obj.data_mapFields hef (·.setIfInBounds 0 (Value.ref T))
  refine wpAt_of_wpAny (wpAny_execs_nil ?_)
  have y2' : h3.get? e = some { cls := .ref C, dict := none, data := .fields (vs.setIfInBounds 0 (.ref T)), slots := oe.slots } := by
    rw [z1]
    obtain ⟨oc', od', odt', osl'⟩ := oe
    dsimp only at hec hed hef
    subst hec hed hef
    rfl
  exact hq h3 _ T y2' fun b o nb' z => z2 _ _ nb' (k2 _ _ z)
end
section
variable {prog : Program} {w : World} {A : Around} {E : Value → Shared → Prop} {h : Heap} {g : Array GenState} {d : Drawn} {t : Nat} {os : OsState} {C fI : Addr} {oI : Obj}
theorem xs_tcall0 {Q : Fin → Shared → Prop} (xa : XAt h C (some (.ref fI))) (hf : h.get? fI = some oI) (hfc : oI.cls = .type "function")
    (hq : ∀ h' e, Heap.MadeExcOf h h' e (.ref C) [] → wpAny (model prog w) A (call (.ref fI) [.ref e]) (fun r s' => r = .none ∧ Q (.done (.ret (.ref e))) s') E ⟨h', g, d, t, os⟩) :
    wpAny (model prog w) A (Builtin.«type.__call__» ⟨[.ref C], []⟩) Q E ⟨h, g, d, t, os⟩ := by
  obtain ⟨nm, qn, N, bs, bm, sn, sub, ab, col, dd, k0, k1, k2, k3, k5, mN, hC, hN, hi, T⟩ := xa.out
  have F := PySem.F.excBase_ValueError
  repeat (first | with_reducible refine wpAny_loadPart_at hC ?_ | with_reducible refine wpAny_madeBy_exc hC ?_ | wp_step)
  refine codeAny_call_builtin_code (Code.quiet_builtin _ F.quiet) (wpAny_check_new_subU F (by decide +kernel) T hC ?_)
  refine codeAny_exc_new_subU (rest := []) F (by decide +kernel) F T hC ?_ (by show 0 ≤ sizeLine; exact Nat.zero_le _)
  show wpAny _ _ _ _ _ _
  generalize hh : (h.push { cls := .type "tuple", data := .seq ([] : List Value).toArray }).push { cls := .ref C, data := .fields #[.ref h.objs.size, .none, .none, .none, .bool false, .none] } = h2
  have up : ∀ b o, h.get? b = some o → h2.get? b = some o := fun b o z => by rw [← hh]; exact Heap.get?_push_of_some _ (Heap.get?_push_of_some _ z)
  have ge : h2.get? (h.objs.size + 1) = some { cls := .ref C, data := .fields #[.ref h.objs.size, .none, .none, .none, .bool false, .none] } := by rw [← hh]; heap_get
  have gt : h2.get? h.objs.size = some { cls := .type "tuple", data := .seq ([] : List Value).toArray } := by rw [← hh]; exact Heap.get?_push_of_some _ (Heap.get?_push_at rfl rfl)
  have cC : (Value.ref C :: bm).contains (.ref C) = true := by simp
  have C2 := up _ _ hC
  unfold isInstance
  repeat (first | with_reducible refine wpAny_loadPart_at ge ?_ | (with_reducible refine wpAny_isSubtype_exc C2 ?_; rw [cC]) | wp_step)
  show wpAny _ _ (typeLookup (.ref C) _) _ _ _
  refine wpAny_typeLookup_tail C2 (hN.keeps up) (T.keeps up) F.mroIs F.init.lookup ?_
  rw [hi]
  refine wpAny_holding (wpAny_bind ?_)
  unfold bindSpecial
  refine wpAny_bind (wpAny_typeOf (T := "function") ⟨_, up _ _ hf, hfc⟩ ?_)
  rw [if_pos (by decide)]
  refine wpAny_pure (wpAny_bind (wpAny_mono (hq h2 (h.objs.size + 1) ⟨up, Heap.get?_none_of_le (Nat.le_succ _), h.objs.size, ge, Heap.get?_none_of_le (Nat.le_refl _), gt⟩) (fun r s' z => ?_) fun _ _ z => z))
  obtain ⟨rfl, z⟩ := z
  wp_walk
  exact z
theorem xs_call0 {Q : Value → Shared → Prop} (xa : XAt h C (some (.ref fI))) (hf : h.get? fI = some oI) (hfc : oI.cls = .type "function")
    (hq : ∀ h' e, Heap.MadeExcOf h h' e (.ref C) [] → wpAny (model prog w) (A.under (.builtin "type.__call__" ⟨[.ref C], []⟩)) (call (.ref fI) [.ref e]) (fun r s' => r = .none ∧ Q (.ref e) s') E ⟨h', g, d, t, os⟩) :
    wpAny (model prog w) A (call (.ref C) []) Q E ⟨h, g, d, t, os⟩ := by
  obtain ⟨nm, qn, N, bs, bm, sn, sub, ab, col, dd, k0, k1, k2, k3, k5, mN, hC, _, _, _⟩ := xa.out
  have f1 := tc_lookup
  have f2 := tc_bind (.ref C)
  have ty : (⟨h, g, d, t, os⟩ : Shared).TypeIs (.ref C) "type" := ⟨_, hC, rfl⟩
  refine wpAny_call (codeAny_of_tree ?_)
  show wpAny _ _ (callAny (.ref C) _) _ _ _
  repeat (any_goals (first | assumption | with_reducible refine wpAny_loadPart_at hC ?_ | wp_step))
  refine ⟨rfl, ?_⟩
  exact codeAny_call_builtin_at (Code.quiet_builtin _ (by decide +kernel)) entry_typeCall (wpAny_check_type_call_sub hC (xs_tcall0 xa hf hfc fun h' e me => hq h' e me))
end
structure XIni0 (prog : Program) (K : Frag) (C LE fI : Addr) (fld : Str) : Prop where
  x1 : XK1 K C LE fld
  xc : xcIn K C (some (.ref fI)) = true
  kp : keepIn K (.ref C) = true
  su : nsIn K mainGlobals "super" = some none
  top : (prog.main.scope.names.lookup ("super" : Str)).isSome = false
  ex : ∃ (nm qual msg file : Str) (ps : Arguments) (body : List Stmt) (sc : Scope) (kV doc pm ct ccl cl : Value) (an od cdd cld : Option Addr) (osl ccs csl : Array (Option Value)) (cvs : Array Value) (tf : Tok) (ar : Arg) (cda cc : Addr)
    (a1 a2 a3 a4 a5 a6 : Pos) (kd : Nat) (pl : Env → Sem Bool),
    K.lookup fI = some ⟨.type "function", od, .func (ksFn nm qual ps body sc .none kV doc pm an (.ref cda) ct cc), osl⟩ ∧ codeIn K (.ref cda) qual = true ∧ K.lookup cda = some ⟨ccl, cdd, .fields cvs, ccs⟩ ∧ cvs[2]? = some (.str file tf) ∧ ((prog.main.file : Str) == file) = true ∧
    K.lookup cc = some ⟨cl, cld, .cell (some (.ref C)), csl⟩ ∧ ISc0 sc ∧ (ps.posonlyargs ++ ps.args).head? = some ar ∧ ar.arg = "self" ∧ (∀ e : Value, bindArgs (ksFn nm qual ps body sc .none kV doc pm an (.ref cda) ct cc) ⟨[e], []⟩ = pure [(("self" : Str), e)]) ∧
    body = [.Expr (.Call (.Attribute (.Call (.Name "super" a1) [] [] a2) "__init__" a3) [.Constant (.str msg) kd a4] [] a5) a6] ∧
    ∀ env, eval (.Call (.Attribute (.Call (.Name "super" a1) [] [] a2) "__init__" a3) [.Constant (.str msg) kd a4] [] a5) env = (do
      let ov ← attributeBase (.Call (.Name "super" a1) [] [] a2) "__init__" env (eval (.Call (.Name "super" a1) [] [] a2) env)
      standAt a3.atName
      let (f, first) ← holding [ov] (getMethod ov "__init__" (pl env))
      callWith a5 f first (backTo a5 (starEach [.Constant (.str msg) kd a4] env)) [])
section
variable {X : Cx} {C LE fI : Addr} {fld x : Str} {XR : St → XK} {np cpos pos : Pos}
theorem qs_raise0i (hx : Px X XR) (hc : X.calm = true) (hr : Room 2 X.A) (hg : Gl X x) (hm : X.mg x = some (.ref C)) (Z : XIni0 X.prog X.K C LE fI fld) (hdb : (x == ("__debug__" : Str)) = false) :
    PSw X (.Raise (some (.Call (.Name x np) [] [] cpos)) none pos) (tRaise0 C XR) := by
  refine ⟨fun pins s σ H D I h => ?_⟩
  rw [arm_exec_Raise]
  simp only [evalOpt, Option.map]
  refine wpAny_bind (wpAny_standAt (raise_made (C := C) (init := some (.ref fI)) (I.ok.hd hc) ?_))
  refine wpAny_bind (wpAny_mono (Q := fun v s₁ => ∃ e oe vs, v = .ref e ∧ XAt s₁.heap C (some (.ref fI)) ∧ s₁.heap.get? e = some oe ∧ oe.cls = .ref C ∧ oe.data = .fields vs ∧ vs[1]? = some .none ∧ X.xe (.ref e) s₁) ?_ (fun v s₃ h₃ => wpAny_bind (wpAny_standAt (wpAny_pure h₃))) fun _ _ z => z)
  refine wpAny_Call_Name_kw (ld_glob I hg hm ?_ hdb)
  refine PySem.W.callWith_K0 I.kIn Z.kp ?_
  obtain ⟨nm, qual, msg, file, ps, body, sc, kV, doc, pm, ct, ccl, cl, an, od, cdd, cld, osl, ccs, csl, cvs, tf, ar, cda, cc, a1, a2, a3, a4, a5, a6, kd, pl, z1, z2, z3, z4, z5, z6, z7, z8, z9, z10, z11, z12⟩ := Z.ex
  obtain ⟨hh, g, d, t1, os⟩ := s
  have hk : ∀ b o, X.base.get? b = some o → hh.get? b = some o := I.bk
  refine xs_call0 (xc_at I.kIn Z.xc) (I.kIn _ _ z1) rfl fun h1 e1 me => ?_
  obtain ⟨tp, q1, q2, q3⟩ := me.there
  have nb : X.base.get? e1 = none := by
    cases zz : X.base.get? e1 with
    | none => rfl
    | some o => have := hk _ _ zz; rw [me.new] at this; cases this
  have hsu : X.mg "super" = none := mg_none_of I.ok.mod.kin I.ok.mod.glob Z.su
  refine wpAny_call (codeAny_mono (R := fun r s' => r = .ok (.ret .none) ∧ ∃ e oe vs, Value.ref e1 = .ref e ∧ XAt s'.heap C (some (.ref fI)) ∧ s'.heap.get? e = some oe ∧ oe.cls = .ref C ∧ oe.data = .fields vs ∧ vs[1]? = some .none ∧ X.xe (.ref e) s') (xs_init0 (base := X.base) (fld := fld) (LE := LE) (C := C) I.ok.mod (fun b o z => me.keeps _ _ (hk _ _ z)) nb Z.x1 Z.xc (hr.make C [] []).depth z1 z2 z3 z4 z5 z6 hsu Z.top (by decide +kernel) z7 z8 z9 (z10 _) z11 z12 q1 rfl rfl rfl rfl fun h2 t2 T y1 y4 => ⟨rfl, e1, _, _, rfl, ?_, y1, rfl, rfl, rfl, ?_⟩) ?_)
  · exact (xc_at I.kIn Z.xc).keeps fun b o z => y4 _ _ (fun y => by rw [y] at z; rw [me.new] at z; cases z) (me.keeps _ _ z)
  · have kk : ∀ b o, hh.get? b = some o → h2.get? b = some o := fun b o z => y4 _ _ (fun y => by rw [y, me.new] at z; cases z) (me.keeps _ _ z)
    have hne : H e1 = none := I.hok.none me.new
    exact hx pins σ H ⟨hh, g, d, t1, os⟩ (.ref e1) ⟨h2, g, d, t2, os⟩ I ⟨e1, .ref C, none, H, rfl, rfl, I.bare, Un.kept kk, I.hok.kept kk, ⟨me.new, hne⟩, ⟨_, _, y1, rfl, rfl, rfl, by simp, .inl ⟨rfl, rfl⟩⟩, h⟩
  · rintro _ s' ⟨rfl, z⟩
    exact ⟨rfl, z⟩
end
structure IBody0 (st : Stmt) : Prop where
  sc : ISc0 (defScope st)
  se : ∃ ar, ((defArgs st).posonlyargs ++ (defArgs st).args).head? = some ar ∧ ar.arg = "self"
  bd : ∀ (nm qual : Str) (kV doc pm : Value) (an : Option Addr) (cda : Value) (ct : Value) (cc : Addr) (e : Value), bindArgs (ksFn nm qual (defArgs st) (defBody st) (defScope st) .none kV doc pm an cda ct cc) ⟨[e], []⟩ = pure [(("self" : Str), e)]
  tx : ∃ (msg : Str) (a1 a2 a3 a4 a5 a6 : Pos) (kd : Nat) (pl : Env → Sem Bool), defBody st = [.Expr (.Call (.Attribute (.Call (.Name "super" a1) [] [] a2) "__init__" a3) [.Constant (.str msg) kd a4] [] a5) a6] ∧
    ∀ env, eval (.Call (.Attribute (.Call (.Name "super" a1) [] [] a2) "__init__" a3) [.Constant (.str msg) kd a4] [] a5) env = (do
      let ov ← attributeBase (.Call (.Name "super" a1) [] [] a2) "__init__" env (eval (.Call (.Name "super" a1) [] [] a2) env)
      standAt a3.atName
      let (f, first) ← holding [ov] (getMethod ov "__init__" (pl env))
      callWith a5 f first (backTo a5 (starEach [.Constant (.str msg) kd a4] env)) [])
theorem xini0_mk {prog : Program} {K : Frag} {C LE fI cda cc : Addr} {fld nm qual file : Str} {st : Stmt} {kV doc pm ct ccl cl : Value} {an od cdd cld : Option Addr} {osl ccs csl : Array (Option Value)} {cvs : Array Value} {tf : Tok}
    (T : IBody0 st) (x1 : xk1In K C LE fld = true) (xc : xcIn K C (some (.ref fI)) = true) (kp : keepIn K (.ref C) = true) (su : nsIn K mainGlobals "super" = some none) (top : (prog.main.scope.names.lookup ("super" : Str)).isSome = false)
    (lk : K.lookup fI = some ⟨.type "function", od, .func (ksFn nm qual (defArgs st) (defBody st) (defScope st) .none kV doc pm an (.ref cda) ct cc), osl⟩) (cd : codeIn K (.ref cda) qual = true) (hcode : K.lookup cda = some ⟨ccl, cdd, .fields cvs, ccs⟩) (hvs : cvs[2]? = some (.str file tf)) (hfile : ((prog.main.file : Str) == file) = true)
    (hcell : K.lookup cc = some ⟨cl, cld, .cell (some (.ref C)), csl⟩) : XIni0 prog K C LE fI fld := by
  obtain ⟨ar, s1, s2⟩ := T.se
  obtain ⟨msg, a1, a2, a3, a4, a5, a6, kd, pl, t1, t2⟩ := T.tx
  exact ⟨xk1_of x1, xc, kp, su, top, nm, qual, msg, file, _, _, _, kV, doc, pm, ct, ccl, cl, an, od, cdd, cld, osl, ccs, csl, cvs, tf, ar, cda, cc, a1, a2, a3, a4, a5, a6, kd, pl, lk, cd, hcode, hvs, hfile, hcell, T.sc, s1, s2, T.bd nm qual kV doc pm an (.ref cda) ct cc, t1, t2⟩
end L2

namespace Mt
open PySem L2
theorem chk_last : ∀ {r : List (Int × Int)} {l f : Int} {q : Int × Int}, chk l f (r.map pr ++ [pr q]) = true → l < q.1
  | [], l, f, q, h => by
    have h' : (decide (l < q.1) && decide (q.1 ≤ 1000000000) && decide (f ≤ q.2) && decide (q.2 ≤ 1000000) && chk q.1 q.2 []) = true := h
    simp only [Bool.and_eq_true, decide_eq_true_eq] at h'
    exact h'.1.1.1.1
  | p :: r, l, f, q, h => by
    have h' : (decide (l < p.1) && decide (p.1 ≤ 1000000000) && decide (f ≤ p.2) && decide (p.2 ≤ 1000000) && chk p.1 p.2 (r.map pr ++ [pr q])) = true := h
    simp only [Bool.and_eq_true, decide_eq_true_eq] at h'
    have := chk_last h'.2
    omega
theorem twice_not (p : Int × Int) (r : List (Int × Int)) : histD (.tuple ((p :: r).map pr ++ [pr p])) = false := by
  cases h : histD (.tuple ((p :: r).map pr ++ [pr p])) with
  | false => rfl
  | true =>
    have h' : (decide (1 ≤ ((p :: r).map pr ++ [pr p]).length) && decide (((p :: r).map pr ++ [pr p]).length ≤ 60) && chk (-1) 0 ((p :: r).map pr ++ [pr p]) && first0 ((p :: r).map pr ++ [pr p])) = true := h
    simp only [Bool.and_eq_true] at h'
    have h2 : (decide (-1 < p.1) && decide (p.1 ≤ 1000000000) && decide (0 ≤ p.2) && decide (p.2 ≤ 1000000) && chk p.1 p.2 (r.map pr ++ [pr p])) = true := h'.1.2
    simp only [Bool.and_eq_true] at h2
    have := chk_last h2.2
    omega
theorem cut1 (d : PyData) (r : List PyData) : cutD (d :: r) none (some 1) = [d] := by
  unfold cutD
  have h1 : HT.sIx (d :: r).length 0 none = 0 := rfl
  have h2 : HT.sIx (d :: r).length (d :: r).length (some 1) = 1 := by
    simp [HT.sIx]
  rw [h1, h2]
  rfl
end Mt
namespace Mt
open PySem L2
theorem map_tupOnly : ∀ (hs : List (Int × Int)), tupOnlyAll (hs.map pr) = true
  | [] => rfl
  | p :: r => by
    rw [List.map_cons]
    simp only [tupOnlyAll, map_tupOnly r, Bool.and_true]
    rfl
theorem map_depth : ∀ (hs : List (Int × Int)), PyData.depthAll (hs.map pr) ≤ 1
  | [] => Nat.zero_le _
  | p :: r => by
    rw [List.map_cons]
    simp only [PyData.depthAll]
    exact Nat.max_le.mpr ⟨Nat.le_refl _, map_depth r⟩
theorem alike_map (hs : List (Int × Int)) : alikeD (.tuple (hs.map pr)) (.tuple (hs.map pr)) = true := by
  have : alikeAll (hs.map pr) (hs.map pr) = true := by
    refine alikeAll_true rfl fun i d e h1 h2 => ?_
    rw [h1] at h2; cases h2
    rw [List.getElem?_map] at h1
    obtain ⟨p, _, rfl⟩ := Option.map_eq_some_iff.mp h1
    show alikeD (.tuple [.int p.1, .int p.2]) (.tuple [.int p.1, .int p.2]) = true
    rw [alike_pair]; simp
  simp only [alikeD, subs, this]
end Mt

set_option maxRecDepth 100000
namespace Zt
open PySem PySem.Spec
theorem srcL (i t : Addr) (hne : t ≠ i) (its : Array Value) : Src i [i, t] (fun k h => h.IsListIter i t k ∧ h.IsList t its) (fun k => its[k]?) where
  mem := List.mem_cons_self
  stay := by
    rintro k h h' ⟨⟨o, e, r⟩, ⟨o2, e2, r2⟩⟩ hk
    exact ⟨⟨o, hk i (by simp) o e, r⟩, ⟨o2, hk t (by simp) o2 e2, r2⟩⟩
  obj := by
    rintro k h ⟨⟨o, e, c, d⟩, _⟩
    exact ⟨o, e, fun v z => by rw [d] at z; cases z⟩
  item := by
    rintro prog w A E s Q k x ⟨hit, ht⟩ hx hQ
    exact wpAny_nextOf_list_item hit ht hx fun h' z sb => hQ h' ⟨z, ht.extBut sb.extBut hne⟩ sb
  fin := by
    rintro prog w A E s Q k hh ⟨hit, ht⟩ hx hE
    exact wpAny_nextOf_list_end hh hit ht hx hE
theorem plainL_is {h : Heap} {a : Addr} {its : Array Value} (x : PySem.PlainL h a its) : h.IsList a its := by
  obtain ⟨o, n, e, c, _, d⟩ := x
  exact ⟨o, e, c, n, d⟩
noncomputable abbrev gl1 (h : Heap) (l1 : Addr) : Heap := h.push { cls := .type "list_iterator", data := .fields #[.ref l1, .int 0 0] }
noncomputable abbrev gl2 (h : Heap) (l1 l2 : Addr) : Heap := (gl1 h l1).push { cls := .type "list_iterator", data := .fields #[.ref l2, .int 0 0] }
noncomputable abbrev gl3 (h : Heap) (l1 l2 : Addr) : Heap := (gl2 h l1 l2).push { cls := .type "tuple", data := .seq #[.ref h.objs.size, .ref (gl1 h l1).objs.size] }
noncomputable abbrev gl4 (h : Heap) (l1 l2 : Addr) : Heap := (gl3 h l1 l2).push { cls := .type "tuple", data := .seq #[.none, .none] }
noncomputable abbrev gl5 (h : Heap) (l1 l2 : Addr) : Heap := (gl4 h l1 l2).push { cls := .type "zip", data := .fields #[.none, .bool false, .bool false, .ref (gl2 h l1 l2).objs.size, .ref (gl3 h l1 l2).objs.size] }

theorem meets_newL (l1 l2 : Addr) (xs ys : Array Value) :
    Meets (Builtin.«zip.__new__» ⟨[.type "zip", .ref l1, .ref l2], []⟩) (fun _ R s => s.heap.IsList l1 xs ∧ s.heap.IsList l2 ys ∧
      R (.ok (.ret (.ref (gl4 s.heap l1 l2).objs.size))) { s with heap := gl5 s.heap l1 l2 }) :=
  .of_wp fun prog w A R s h => by
    obtain ⟨hp, g, d, tk, os⟩ := s; obtain ⟨hl1, hl2, h⟩ := h
    have hsub := sub_zip
    have hL1 : Heap.IsList (Shared.heap ⟨hp, g, d, tk, os⟩) l1 xs := hl1
    have hL2 : Heap.IsList (Shared.heap ⟨hp.push { cls := .type "list_iterator", data := .fields #[.ref l1, .int 0 0] }, g, d, tk, os⟩) l2 ys := Heap.IsList.push hl2 _
    wp_walk using wpAny_pyIter_list hL1, wpAny_pyIter_list hL2
    exact ⟨_, rfl, h⟩

theorem call_zipL {prog : Program} {w : World} {A : Around} {E : Value → Shared → Prop} {s : Shared} {l1 l2 : Addr} {xs ys : Array Value} {Q : Value → Shared → Prop} (hl1 : s.heap.IsList l1 xs) (hl2 : s.heap.IsList l2 ys)
    (h : ∀ h', IsZip h' (s.heap.objs.size + 4) (s.heap.objs.size + 2) (s.heap.objs.size + 3) .none → IsPair h' (s.heap.objs.size + 2) (.ref s.heap.objs.size) (.ref (s.heap.objs.size + 1)) →
      IsPair h' (s.heap.objs.size + 3) .none .none → h'.IsListIter s.heap.objs.size l1 0 → h'.IsListIter (s.heap.objs.size + 1) l2 0 →
      (∀ c o, s.heap.get? c = some o → h'.get? c = some o) → Q (.ref (s.heap.objs.size + 4)) { s with heap := h' }) :
    wpAny (model prog w) A (call (.type "zip") [.ref l1, .ref l2]) Q E s := by
  refine callType_new F.called_zip (by decide) (F.typeCall_zip_2 _ _) (F.newCall_zip_2 _ _) (fun obj => F.args_object_init_3 obj _ _) F.entry_zip_new (meets_newL l1 l2 xs ys) ⟨hl1, hl2, ?_⟩
  have z1 : (gl1 s.heap l1).objs.size = s.heap.objs.size + 1 := Heap.size_push ..
  have z2 : (gl2 s.heap l1 l2).objs.size = s.heap.objs.size + 2 := by rw [Heap.size_push, z1]
  have z3 : (gl3 s.heap l1 l2).objs.size = s.heap.objs.size + 3 := by rw [Heap.size_push, z2]
  have z4 : (gl4 s.heap l1 l2).objs.size = s.heap.objs.size + 4 := by rw [Heap.size_push, z3]
  have q5 : (gl5 s.heap l1 l2).get? (gl4 s.heap l1 l2).objs.size = some _ := Heap.get?_push_size _ rfl
  have q4 : (gl5 s.heap l1 l2).get? (gl3 s.heap l1 l2).objs.size = some _ := Heap.get?_push_of_some _ (Heap.get?_push_size _ rfl)
  have q3 : (gl5 s.heap l1 l2).get? (gl2 s.heap l1 l2).objs.size = some _ := Heap.get?_push_of_some _ (Heap.get?_push_of_some _ (Heap.get?_push_size _ rfl))
  have q2 : (gl5 s.heap l1 l2).get? (gl1 s.heap l1).objs.size = some _ := Heap.get?_push_of_some _ (Heap.get?_push_of_some _ (Heap.get?_push_of_some _ (Heap.get?_push_size _ rfl)))
  have q1 : (gl5 s.heap l1 l2).get? s.heap.objs.size = some _ := Heap.get?_push_of_some _ (Heap.get?_push_of_some _ (Heap.get?_push_of_some _ (Heap.get?_push_of_some _ (Heap.get?_push_size _ rfl))))
  show _ ∧ _
  rw [z2, z3, z4] at q5; rw [z1, z2] at q3; rw [z3] at q4; rw [z1] at q2; rw [z4]
  exact ⟨⟨_, q5, rfl⟩, h _ q5 q3 q4 ⟨_, q1, rfl, rfl⟩ ⟨_, q2, rfl, rfl⟩ fun c o x =>
    Heap.get?_push_of_some _ (Heap.get?_push_of_some _ (Heap.get?_push_of_some _ (Heap.get?_push_of_some _ (Heap.get?_push_of_some _ x))))⟩
end Zt


namespace L2
open PySem PySem.Spec PyProof.Rows
noncomputable def ItzL (K : PySem.W.Frag) (a b : Addr) : It :=
  ⟨fun i H => ∃ xs ys x y, SqL K H a xs ∧ SqL K H b ys ∧ xs[i]? = some x ∧ ys[i]? = some y,
   fun i H v H' => ∃ p x y, H p = none ∧ (∀ xs, SqL K H a xs → xs[i]? = some x) ∧ (∀ ys, SqL K H b ys → ys[i]? = some y) ∧ v = .ref p ∧ H' = upd H p (.tup [x, y]),
   fun i H => ∃ xs ys, SqL K H a xs ∧ SqL K H b ys ∧ (xs.length ≤ i ∨ ys.length ≤ i)⟩
theorem turn_zipL {P : Program} {w : World} {K : PySem.W.Frag} {es : List Expr} {k : Nat} {ps : Pos} {z TI TO i1 i2 a b : Addr}
    (na : a ≠ i1) (nb : b ≠ i2) (D : Zt.Apart z TI TO i1 i2 [i1, a] [i2, b]) :
    Turn P w K (.Tuple es k ps) (ItzL K a b) [z, TI, TO, i1, i2] z (fun n h => IsZip h z TI TO .none ∧ IsPair h TI (.ref i1) (.ref i2) ∧ (∃ u v, IsPair h TO u v) ∧ h.IsListIter i1 a n ∧ h.IsListIter i2 b n) where
  mem := by simp
  obj := by
    rintro n h ⟨hz, hTI, ⟨u, v, hTO⟩, ⟨o1, e1, c1, d1⟩, ⟨o2, e2, c2, d2⟩⟩ c hc
    simp only [List.mem_cons, List.not_mem_nil, or_false] at hc
    rcases hc with rfl | rfl | rfl | rfl | rfl
    · exact ⟨_, hz, fun v q => nomatch q⟩
    · exact ⟨_, hTI, fun v q => nomatch q⟩
    · exact ⟨_, hTO, fun v q => nomatch q⟩
    · exact ⟨o1, e1, fun v q => by rw [d1] at q; cases q⟩
    · exact ⟨o2, e2, fun v q => by rw [d2] at q; cases q⟩
  keep := by
    rintro n h h' ⟨hz, hTI, ⟨u, v, hTO⟩, ⟨o1, e1, r1⟩, ⟨o2, e2, r2⟩⟩ kp
    exact ⟨kp z (by simp) _ hz, kp TI (by simp) _ hTI, ⟨u, v, kp TO (by simp) _ hTO⟩, ⟨o1, kp i1 (by simp) _ e1, r1⟩, ⟨o2, kp i2 (by simp) _ e2, r2⟩⟩
  item := by
    intro X hP hw hK hc i pins s σ H E I hf st hg
    subst hP hw hK
    obtain ⟨hz, hTI, ⟨u, v, hTO⟩, hi1, hi2⟩ := st
    obtain ⟨xs, ys, x, y, qx, qy, hx, hy⟩ := hg
    obtain ⟨us, rx, px, zx⟩ := I.list qx
    obtain ⟨ws, ry, py, zy⟩ := I.list qy
    obtain ⟨ux, hux, rux⟩ := rx.get hx
    obtain ⟨uy, huy, ruy⟩ := ry.get hy
    refine Zt.py_item (Zt.srcL i1 a na us.toArray) (Zt.srcL i2 b nb ws.toArray) D hz hTI hTO ⟨hi1, Zt.plainL_is px⟩ ⟨hi2, Zt.plainL_is py⟩ (x := ux) (y := uy) (by simpa using hux) (by simpa using huy) fun h' z1 t1 s1 s2 t2 kp => ⟨_, rfl, ?_⟩
    refine wpAny_letOwnedTupleGo_zip (s := { s with heap := h' }) z1 fun h'' z2 sb => ?_
    have kp2 : ∀ c o, c ∉ [z, TI, TO, i1, i2] → s.heap.get? c = some o → h''.get? c = some o := fun c o hc e => by
      simp only [List.mem_cons, List.not_mem_nil, or_false, not_or] at hc
      exact sb.extBut _ _ hc.1 (kp c o hc.1 hc.2.2.1 hc.2.2.2.1 hc.2.2.2.2 e)
    have nz : s.heap.objs.size ≠ z := Nat.ne_of_gt (Heap.lt_size hz)
    have J : Inv X pins σ H { s with heap := h'' } := I.spun (t' := s.toks) hf kp2
    have t3 : IsPair h'' s.heap.objs.size ux uy := sb.extBut _ _ nz t2
    refine ⟨.ref s.heap.objs.size, upd H s.heap.objs.size (.tup [x, y]), I.track J (Nat.le_refl _) ⟨by show 2 ≤ sizeLine; decide, [ux, uy], .cons rux (.cons ruy .nil), ⟨_, t3, rfl, _, rfl⟩⟩, rfl, ⟨_, x, y, I.hok.fresh (Nat.le_refl _), fun zs h => ?_, fun zs h => ?_, rfl, rfl⟩, ?_, fun c hc => ?_⟩
    · rw [I.list_inj h qx]; exact hx
    · rw [I.list_inj h qy]; exact hy
    · exact ⟨z2, sb.extBut _ _ D.TIz (kp TI _ D.TIz D.TITO D.TIi1 D.TIi2 hTI), ⟨ux, uy, sb.extBut _ _ D.TOz t1⟩, s1.1.extBut sb.extBut D.i1z, s2.1.extBut sb.extBut D.i2z⟩
    · have e : c ≠ s.heap.objs.size := by
        simp only [List.mem_cons, List.not_mem_nil, or_false] at hc
        obtain ⟨o1, e1, _⟩ := hi1; obtain ⟨o2, e2, _⟩ := hi2
        rcases hc with rfl | rfl | rfl | rfl | rfl
        · exact Nat.ne_of_lt (Heap.lt_size hz)
        · exact Nat.ne_of_lt (Heap.lt_size hTI)
        · exact Nat.ne_of_lt (Heap.lt_size hTO)
        · exact Nat.ne_of_lt (Heap.lt_size e1)
        · exact Nat.ne_of_lt (Heap.lt_size e2)
      rw [upd_ne e]; exact (hf c hc).1
  done := by
    intro X hP hw hK hc i pins s σ H E I hf st hg
    subst hP hw hK
    obtain ⟨hz, hTI, ⟨u, v, hTO⟩, hi1, hi2⟩ := st
    obtain ⟨xs, ys, qx, qy, hend⟩ := hg
    obtain ⟨us, rx, px, zx⟩ := I.list qx
    obtain ⟨ws, ry, py, zy⟩ := I.list qy
    have lx := rx.length
    have ly := ry.length
    refine Zt.py_end (I.ok.hd hc) (Zt.srcL i1 a na us.toArray) (Zt.srcL i2 b nb ws.toArray) D hz hTI hTO ⟨hi1, Zt.plainL_is px⟩ ⟨hi2, Zt.plainL_is py⟩ (k1 := i) (k2 := i) (hend.imp (fun h => by simp; omega) (fun h => by simp; omega)) fun h' kp => ⟨rfl, ?_⟩
    refine I.spun (t' := s.toks) hf fun c o hc e => ?_
    simp only [List.mem_cons, List.not_mem_nil, or_false, not_or] at hc
    exact kp c o hc.1 hc.2.2.1 hc.2.2.2.1 hc.2.2.2.2 e
  self := by
    rintro A n s Q E ⟨hz, _⟩ h
    exact wpAny_pyIter_zip hz h
noncomputable def iZipL (K : PySem.W.Frag) (ta : TA) : TI := fun σ H R => ta σ H fun vs H1 => ∃ a b, vs = [.ref a, .ref b] ∧ (∃ xs, SqL K H1 a xs) ∧ (∃ ys, SqL K H1 b ys) ∧ R (ItzL K a b) H1
theorem pi_zipL {X : Cx} {es : List Expr} {k : Nat} {ps p pos : Pos} {e1 e2 : Expr} {ta : TA} (hg : Gl X "zip") (hm : X.mg "zip" = none) (ha : PA X [e1, e2] ta)
    (hs : starEach [e1, e2] X.env = [(false, eval e1 X.env), (false, eval e2 X.env)] := by rfl) (hs2 : starEach [e2] X.env = [(false, eval e2 X.env)] := by rfl) (hv : bootBuiltins "zip" = some (.type "zip") := by decide +kernel) :
    PI X (.Tuple es k ps) (.Call (.Name "zip" p) [e1, e2] [] pos) (iZipL X.K ta) := by
  intro pins s σ H R I h
  refine Call_ (ld_blt I hg hm hv (PyProof.Rows.callWith_type1 (thn (ha pos pins s σ H _ I h) fun us s1 ⟨vs, H1, I1, r1, q1⟩ => ?_) (by rw [hs, hs2]) (by rw [hs2]; rfl)))
  obtain ⟨a, b, e, ⟨xs, qx⟩, ⟨ys, qy⟩, q⟩ := q1
  subst e
  obtain ⟨u, v, rfl, ra, rb⟩ := vals2 r1
  cases ra
  cases rb
  obtain ⟨us, rx, px, zx⟩ := I1.list qx
  obtain ⟨ws, ry, py, zy⟩ := I1.list qy
  refine Zt.call_zipL (xs := us.toArray) (ys := ws.toArray) (Zt.plainL_is px) (Zt.plainL_is py) fun h' hz hTI hTO h1 h2 kp => ?_
  refine wpAny_pyIter_zip (s := { s1 with heap := h' }) hz ?_
  have la : a < s1.heap.objs.size := by obtain ⟨o, _, e, _⟩ := px; exact Heap.lt_size e
  have lb : b < s1.heap.objs.size := by obtain ⟨o, _, e, _⟩ := py; exact Heap.lt_size e
  have J : Inv X pins σ H1 { s1 with heap := h' } := I1.kept (t' := s1.toks) kp
  refine ⟨_, [s1.heap.objs.size + 4, s1.heap.objs.size + 2, s1.heap.objs.size + 3, s1.heap.objs.size, s1.heap.objs.size + 1], _, ItzL X.K a b, H1, rfl, J, turn_zipL (a := a) (b := b) (Nat.ne_of_lt la) (Nat.ne_of_lt (Nat.lt_succ_of_lt lb)) ?_, ⟨hz, hTI, ⟨_, _, hTO⟩, h1, h2⟩, fun c hc => ?_, q⟩
  · generalize s1.heap.objs.size = n at la lb
    constructor <;> (try simp only [List.mem_cons, List.not_mem_nil, or_false, not_or, ne_eq]) <;> (unfold Addr at *; omega)
  · have le : s1.heap.objs.size ≤ c := by
      simp only [List.mem_cons, List.not_mem_nil, or_false] at hc
      rcases hc with rfl | rfl | rfl | rfl | rfl
      · exact Nat.le_add_right _ _
      · exact Nat.le_add_right _ _
      · exact Nat.le_add_right _ _
      · exact Nat.le_refl _
      · exact Nat.le_add_right _ _
    exact I1.fpOk le (I1.hok.fresh le)
end L2

set_option maxRecDepth 100000
namespace L2
open PySem PySem.Spec PyProof.Rows PySem.W
noncomputable def tCallV (i : Nat) (f : Addr) (sp : Sp) (dvs : List V) (XR : St → XK) (t : TA) : TE := fun σ H Q => σ[i]? = some (some (.ref f)) ∧ t σ H fun vs H1 => sp (vs ++ dvs) H1 Q (XR σ)
noncomputable def tStar (K : Frag) (te : TE) (t : TA) : TA := fun σ H Q => te σ H fun v H1 => ∃ a xs, v = .ref a ∧ SqT K H1 a xs ∧ t σ H1 fun vs H2 => Q (xs ++ vs) H2
section
variable {X : Cx} {e : Expr} {es : List Expr} {te : TE} {t : TA} {pos p : Pos} {k i : Nat} {f : Addr} {fd : FuncData} {ps : List Str} {sp : Sp} {dvs : List V} {ds : List Value} {XR : St → XK} {x : Str}
theorem qe_callV (F : FnOk X.prog X.w X.K X.mg X.base (CX1 X.prog X.w) k f fd ps sp) (hr : Room k X.A) (hN : X.N[i]? = some x) (hv : Vis X.env.scope x) (hk : keepIn X.K (.ref f) = true) (hb : Binds X.K fd ps ds) (hd : Vals dvs ds) (hx : Px X XR)
    (ha : PAs X (e :: es) t) (hdb : (x == ("__debug__" : Str)) = false) (hcd : (x == ("__classdict__" : Str)) = false) (h1 : notStar e = true) (h2 : noStars es = true) : PE X (.Call (.Name x p) (e :: es) [] pos) (tCallV i f sp dvs XR t) := by
  intro pins s σ H Q I h
  obtain ⟨hi, h⟩ := h
  refine wpAny_Call_Name_kw (thn (pe_var hN hv hdb hcd pins s σ H (fun v H' => v = .ref f ∧ H' = H) I ⟨_, hi, rfl, rfl⟩) fun u s1 ⟨v, H1, I1, r, ev, eh⟩ => ?_)
  subst ev eh
  obtain rfl : u = Value.ref f := r
  refine callWith_K (h₀ := X.base) I1.ok.mod.kin hk (thn (ha.run pos pins s1 σ H1 _ I1 h) fun us s2 ⟨vs, H2, I2, r2, q⟩ => ⟨I2.kIn, ?_⟩) (star_ne h1) (stars_any h2)
  exact run_fnX F hr hb hd hx I2 r2 q
theorem qa_star (ha : PE X e te) (hr : PAs X es t) : PAs X (.Starred e p :: es) (tStar X.K te t) := by
  refine ⟨fun pos pins s σ H Q I h => ?_⟩
  refine items_star (thn (ha pins s σ H _ I h) fun u s1 ⟨v, H1, I1, r, a, xs, ev, hq, q⟩ => ?_)
  subst ev
  obtain rfl : u = Value.ref a := r
  obtain ⟨us, rx, ⟨o, e1, e2, n, e3⟩, zx⟩ := I1.tuple hq
  have ty : s1.TypeIs (.ref a) "tuple" := ⟨o, e1, e2⟩
  unfold StarOf notIterableAtAll
  refine wpAny_bind (wpAny_specialOf ty PySem.F.slot_tuple_iter.lookup (wpAny_pure ⟨rfl, ?_⟩))
  refine wpAny_collect_seq a (.inr rfl) e1 e2 e3 (fun h' hk => ?_) (by have := rx.length; simpa using (by omega))
  have I2 : Inv X pins σ H1 { s1 with heap := h' } := I1.kept (t' := s1.toks) hk
  refine thn (hr.run pos pins _ σ H1 _ I2 q) fun ws s3 ⟨vs, H3, I3, r3, q3⟩ => ?_
  exact ⟨xs ++ vs, H3, I3, by simpa using rx.append r3, q3⟩
variable {tg a b : Expr} {ta : TA}
theorem qi_zipL {es : List Expr} {k : Nat} {ps : Pos} (hg : Gl X "zip") (hm : X.mg "zip" = none) (ha : PAs X [a, b] ta) (h1 : notStar a = true) (h2 : notStar b = true) : PI X (.Tuple es k ps) (.Call (.Name "zip" p) [a, b] [] pos) (iZipL X.K ta) :=
  pi_zipL hg hm ha.run (by rw [star_ne h1, star_ne h2]; rfl) (by rw [star_ne h2]; rfl) (by decide +kernel)
end
section
variable {σ : St} {H : Hp} {Q : VK}
theorem rd_star {K : Frag} {te : TE} {t : TA} {R : List V → Hp → Prop} (h : te σ H fun v H1 => ∃ a xs, v = .ref a ∧ SqT K H1 a xs ∧ t σ H1 fun vs H2 => R (xs ++ vs) H2) : tStar K te t σ H R := h
theorem rd_izipL {K : Frag} {ta : TA} {R : It → Hp → Prop} (h : ta σ H fun vs H1 => ∃ a b, vs = [.ref a, .ref b] ∧ (∃ xs, SqL K H1 a xs) ∧ (∃ ys, SqL K H1 b ys) ∧ R (ItzL K a b) H1) : iZipL K ta σ H R := h
theorem rd_callV {i : Nat} {f : Addr} {sp : Sp} {dvs : List V} {XR : St → XK} {t : TA} (hi : σ[i]? = some (some (.ref f))) (h : t σ H fun vs H1 => sp (vs ++ dvs) H1 Q (XR σ)) : tCallV i f sp dvs XR t σ H Q := ⟨hi, h⟩
end
theorem comp_byF {J : It} {H1 : Hp} {acc : Addr} {σ0 : St} {g : TG} {tt : TT} {te : TE} {Q : VK} (n : Nat) (hn : n < sizeLine) (Pv : Nat → List V → St → Hp → Prop) (h0 : Pv 0 [] σ0 (upd H1 acc (.lst [])))
    (hgo : ∀ i vs σc H, i < n → vs.length ≤ i → H acc = some (.lst vs) → Pv i vs σc H → J.go i H ∧ ∀ x H', J.yld i H x H' → ∀ (R : St → V → Hp → Prop) (S : St → Hp → Prop),
      (∀ σ2 v H4, H4 acc = some (.lst vs) → Pv (i + 1) (vs ++ [v]) σ2 (upd H4 acc (.lst (vs ++ [v]))) → R σ2 v H4) → (∀ σ2 H4, H4 acc = some (.lst vs) → Pv (i + 1) vs σ2 H4 → S σ2 H4) →
      g x σc H' fun σ2 H2 => tt σ2 H2 fun b H3 => if b = true then te σ2 H3 (R σ2) else S σ2 H3)
    (hst : ∀ vs σc H, vs.length ≤ n → H acc = some (.lst vs) → Pv n vs σc H → J.stop n H ∧ Q (.ref acc) H) : CompW σ0 J H1 acc g tt te Q := by
  refine ⟨fun i m σc H => m = n - i ∧ i ≤ n ∧ ∃ vs, vs.length ≤ i ∧ H acc = some (.lst vs) ∧ Pv i vs σc H, ⟨n, by simp, Nat.zero_le _, [], Nat.le_refl _, upd_same, h0⟩, ?_⟩
  rintro i m σc H ⟨rfl, hi, vs, hl, ha, hp⟩
  by_cases hlt : i < n
  · obtain ⟨g1, g2⟩ := hgo i vs σc H hlt hl ha hp
    refine .inr ⟨g1, fun σ' H' => i + 1 ≤ n ∧ ∃ vs, vs.length ≤ i + 1 ∧ H' acc = some (.lst vs) ∧ Pv (i + 1) vs σ' H', fun σ' H' q => ⟨n - (i + 1), by omega, rfl, q⟩, fun x H' y => ?_⟩
    exact g2 x H' y (fun σ2 v H4 => ∃ xs, H4 acc = some (.lst xs) ∧ xs.length < sizeLine ∧ (i + 1 ≤ n ∧ ∃ vs, vs.length ≤ i + 1 ∧ (upd H4 acc (.lst (xs ++ [v]))) acc = some (.lst vs) ∧ Pv (i + 1) vs σ2 (upd H4 acc (.lst (xs ++ [v])))))
      (fun σ2 H4 => i + 1 ≤ n ∧ ∃ vs, vs.length ≤ i + 1 ∧ H4 acc = some (.lst vs) ∧ Pv (i + 1) vs σ2 H4)
      (fun σ2 v H4 q1 q2 => ⟨vs, q1, by omega, hlt, vs ++ [v], by simp; omega, upd_same, q2⟩) fun σ2 H4 q1 q2 => ⟨hlt, vs, by omega, q1, q2⟩
  · have e : i = n := by omega
    subst e
    exact .inl (hst vs σc H hl ha hp)
theorem qss_never {X : Cx} {sts : List Stmt} : PSsw X sts tNever := ⟨pss_never⟩
end L2

set_option maxRecDepth 100000
set_option maxHeartbeats 1000000
local macro_rules | `(tactic| walk_at "vis") => `(tactic| first | exact Or.inl rfl | exact Or.inr (Or.inl rfl) | exact Or.inr (Or.inr rfl))
local macro_rules | `(tactic| walk_at "cond") => `(tactic| first | assumption | decide | omega | (simp only [L2.CDiv, L2.CMul, L2.CPow]; first | decide | omega))
local macro_rules | `(tactic| walk_at "sq") => `(tactic| first | assumption | exact L2.SqL.of (by assumption) | exact L2.SqT.of (by assumption) | exact L2.SqL.of L2.upd_same | exact L2.SqT.of L2.upd_same)
local macro_rules | `(tactic| walk_at "lk") => `(tactic| first | assumption | exact L2.upd_same)
local macro_rules | `(tactic| walk_at "ty") => `(tactic| first | assumption | exact L2.TyS.non | exact L2.TyS.bl _ | exact L2.TyS.int _ | exact L2.TyS.str _ | exact L2.TyS.tup (by assumption) | exact L2.TyS.lst (by assumption))
local macro_rules | `(tactic| walk_at "rs") => `(tactic| repeat (first
  | with_reducible refine L2.rd_if ?_ | with_reducible refine L2.rd_asg ?_ | with_reducible refine L2.rd_drop ?_ | with_reducible refine L2.rd_ret ?_ | with_reducible refine L2.rd_next ?_
  | with_reducible refine L2.rd_op ?_ | with_reducible refine L2.rd_un ?_ | ((with_reducible apply L2.rd_var); (case e => exact rfl)) | with_reducible refine L2.rd_c ?_
  | with_reducible refine L2.rd_I0 ?_ | ((with_reducible apply L2.rd_I); (case hc => walk_at "cond")) | with_reducible refine L2.rd_U ?_
  | with_reducible refine L2.rd_test ?_ | with_reducible refine L2.rd_tB ?_ | with_reducible refine L2.rd_bl' ?_ | ((with_reducible apply L2.rd_eq); (case hs => exact rfl)) | ((with_reducible apply L2.rd_ne); (case hs => exact rfl))
  | ((with_reducible apply L2.rd_ixL); (case hq => walk_at "sq"); (case ha => exact rfl)) | ((with_reducible apply L2.rd_ixT); (case hq => walk_at "sq"); (case ha => exact rfl))
  | with_reducible refine L2.rd_name ?_ | with_reducible refine L2.rd_sub ?_ | ((with_reducible apply L2.rd_setL); (case hp => walk_at "lk"); (case hi => exact rfl))
  | with_reducible refine L2.rd_CB ?_ | with_reducible refine L2.rd_nil ?_ | with_reducible refine L2.rd_cons ?_ | with_reducible refine L2.rd_and ?_ | with_reducible refine L2.rd_or ?_ | with_reducible refine L2.rd_not ?_
  | with_reducible refine L2.rd_andV ?_ | with_reducible refine L2.rd_orV ?_ | with_reducible refine L2.rd_notV ?_ | with_reducible refine L2.rd_ifE ?_ | with_reducible refine L2.rd_call ?_ | with_reducible refine L2.rd_callX ?_ | with_reducible refine L2.rd_raise0 ?_ | with_reducible refine L2.rd_raise1 ?_ | with_reducible refine L2.rd_try ?_ | with_reducible refine L2.rd_xat ?_ | with_reducible refine L2.rd_unx ?_ | with_reducible refine L2.rd_star ?_ | with_reducible refine L2.rd_izipL ?_ | ((with_reducible apply L2.rd_callV); (case hi => exact rfl))
  | with_reducible refine L2.rd_tup ?_ | with_reducible refine L2.rd_tupA ?_ | with_reducible refine L2.rd_lstA ?_ | with_reducible refine L2.rd_dnewA ?_ | with_reducible refine L2.rd_lst ?_ | with_reducible refine L2.rd_chain ?_ | with_reducible refine L2.rd_sl ?_ | with_reducible refine L2.rd_nopart ?_ | with_reducible refine L2.rd_part ?_ | with_reducible refine L2.rd_int ?_
  | ((with_reducible apply L2.rd_slL); (case hq => walk_at "sq")) | ((with_reducible apply L2.rd_slG); (case hq => walk_at "sq"))
  | with_reducible refine L2.rd_gnil ?_ | with_reducible refine L2.rd_gcons ?_ | ((with_reducible apply L2.rd_tupT); (case hq => walk_at "sq"); (case hl => exact rfl)) | with_reducible refine L2.rd_BM ?_ | with_reducible refine L2.rd_for ?_ | with_reducible refine L2.rd_rng1 ?_ | with_reducible refine L2.rd_rngV ?_ | with_reducible refine L2.rd_ilist ?_ | with_reducible refine L2.rd_itup ?_ | with_reducible refine L2.rd_comp ?_ | with_reducible refine L2.rd_izip ?_
  | ((with_reducible apply L2.rd_slA); (case hq => walk_at "sq")) | ((with_reducible apply L2.rd_listAL); (case hq => walk_at "sq")) | ((with_reducible apply L2.rd_listAT); (case hq => walk_at "sq")) | ((with_reducible apply L2.rd_tupleAL); (case hq => walk_at "sq")) | ((with_reducible apply L2.rd_lenL); (case hq => walk_at "sq")) | ((with_reducible apply L2.rd_lenT); (case hq => walk_at "sq")) | ((with_reducible apply L2.rd_listFT); (case hq => walk_at "sq")) | ((with_reducible apply L2.rd_listFL); (case hq => walk_at "sq")) | ((with_reducible apply L2.rd_listL); (case hq => walk_at "sq")) | ((with_reducible apply L2.rd_listT); (case hq => walk_at "sq"))
  | ((with_reducible apply L2.rd_tupleL); (case hq => walk_at "sq")) | ((with_reducible apply L2.rd_isiTup); (case hd => assumption)) | ((with_reducible apply L2.rd_isiInt); (case hd => assumption)) | ((with_reducible apply L2.rd_isiBool); (case hd => assumption)) | ((with_reducible apply L2.rd_isiStr); (case hd => assumption)) | ((with_reducible apply L2.rd_isiList); (case hd => assumption)) | with_reducible refine L2.rd_min ?_ | with_reducible refine L2.rd_max ?_ | refine L2.rd_iteT ?_ | refine L2.rd_iteF ?_ | with_reducible refine L2.rd_isN ?_ | with_reducible refine L2.rd_isnB ?_ | with_reducible refine L2.rd_isB ?_ | with_reducible refine L2.rd_notN ?_ | ((with_reducible apply L2.rd_str); (case hl => walk_at "cond")) | dsimp only))
local macro_rules | `(tactic| walk_at "rd") => `(tactic| repeat (first
  | with_reducible refine L2.rd_seq ?_ | with_reducible refine L2.rd_if ?_ | with_reducible refine L2.rd_asg ?_ | with_reducible refine L2.rd_drop ?_ | with_reducible refine L2.rd_ret ?_ | with_reducible refine L2.rd_next ?_
  | with_reducible refine L2.rd_op ?_ | with_reducible refine L2.rd_un ?_ | ((with_reducible apply L2.rd_var); (case e => exact rfl)) | with_reducible refine L2.rd_c ?_
  | with_reducible refine L2.rd_I0 ?_ | ((with_reducible apply L2.rd_I); (case hc => walk_at "cond")) | with_reducible refine L2.rd_U ?_
  | with_reducible refine L2.rd_test ?_ | with_reducible refine L2.rd_tB ?_ | with_reducible refine L2.rd_bl' ?_ | ((with_reducible apply L2.rd_eq); (case hs => exact rfl)) | ((with_reducible apply L2.rd_ne); (case hs => exact rfl))
  | ((with_reducible apply L2.rd_ixL); (case hq => walk_at "sq"); (case ha => exact rfl)) | ((with_reducible apply L2.rd_ixT); (case hq => walk_at "sq"); (case ha => exact rfl))
  | with_reducible refine L2.rd_name ?_ | with_reducible refine L2.rd_sub ?_ | ((with_reducible apply L2.rd_setL); (case hp => walk_at "lk"); (case hi => exact rfl))
  | with_reducible refine L2.rd_CB ?_ | with_reducible refine L2.rd_nil ?_ | with_reducible refine L2.rd_cons ?_ | with_reducible refine L2.rd_and ?_ | with_reducible refine L2.rd_or ?_ | with_reducible refine L2.rd_not ?_
  | with_reducible refine L2.rd_andV ?_ | with_reducible refine L2.rd_orV ?_ | with_reducible refine L2.rd_notV ?_ | with_reducible refine L2.rd_ifE ?_ | with_reducible refine L2.rd_call ?_ | with_reducible refine L2.rd_callX ?_ | with_reducible refine L2.rd_raise0 ?_ | with_reducible refine L2.rd_raise1 ?_ | with_reducible refine L2.rd_try ?_ | with_reducible refine L2.rd_xat ?_ | with_reducible refine L2.rd_unx ?_ | with_reducible refine L2.rd_star ?_ | with_reducible refine L2.rd_izipL ?_ | ((with_reducible apply L2.rd_callV); (case hi => exact rfl))
  | with_reducible refine L2.rd_tup ?_ | with_reducible refine L2.rd_tupA ?_ | with_reducible refine L2.rd_lstA ?_ | with_reducible refine L2.rd_dnewA ?_ | with_reducible refine L2.rd_lst ?_ | with_reducible refine L2.rd_chain ?_ | with_reducible refine L2.rd_sl ?_ | with_reducible refine L2.rd_nopart ?_ | with_reducible refine L2.rd_part ?_ | with_reducible refine L2.rd_int ?_
  | ((with_reducible apply L2.rd_slL); (case hq => walk_at "sq")) | ((with_reducible apply L2.rd_slG); (case hq => walk_at "sq"))
  | with_reducible refine L2.rd_gnil ?_ | with_reducible refine L2.rd_gcons ?_ | ((with_reducible apply L2.rd_tupT); (case hq => walk_at "sq"); (case hl => exact rfl)) | with_reducible refine L2.rd_BM ?_ | with_reducible refine L2.rd_for ?_ | with_reducible refine L2.rd_rng1 ?_ | with_reducible refine L2.rd_rngV ?_ | with_reducible refine L2.rd_ilist ?_ | with_reducible refine L2.rd_itup ?_ | with_reducible refine L2.rd_comp ?_ | with_reducible refine L2.rd_izip ?_
  | ((with_reducible apply L2.rd_slA); (case hq => walk_at "sq")) | ((with_reducible apply L2.rd_listAL); (case hq => walk_at "sq")) | ((with_reducible apply L2.rd_listAT); (case hq => walk_at "sq")) | ((with_reducible apply L2.rd_tupleAL); (case hq => walk_at "sq")) | ((with_reducible apply L2.rd_lenL); (case hq => walk_at "sq")) | ((with_reducible apply L2.rd_lenT); (case hq => walk_at "sq")) | ((with_reducible apply L2.rd_listFT); (case hq => walk_at "sq")) | ((with_reducible apply L2.rd_listFL); (case hq => walk_at "sq")) | ((with_reducible apply L2.rd_listL); (case hq => walk_at "sq")) | ((with_reducible apply L2.rd_listT); (case hq => walk_at "sq"))
  | ((with_reducible apply L2.rd_tupleL); (case hq => walk_at "sq")) | ((with_reducible apply L2.rd_isiTup); (case hd => assumption)) | ((with_reducible apply L2.rd_isiInt); (case hd => assumption)) | ((with_reducible apply L2.rd_isiBool); (case hd => assumption)) | ((with_reducible apply L2.rd_isiStr); (case hd => assumption)) | ((with_reducible apply L2.rd_isiList); (case hd => assumption)) | with_reducible refine L2.rd_min ?_ | with_reducible refine L2.rd_max ?_ | refine L2.rd_iteT ?_ | refine L2.rd_iteF ?_ | with_reducible refine L2.rd_isN ?_ | with_reducible refine L2.rd_isnB ?_ | with_reducible refine L2.rd_isB ?_ | with_reducible refine L2.rd_notN ?_ | ((with_reducible apply L2.rd_str); (case hl => walk_at "cond")) | dsimp only))
local macro_rules | `(tactic| walk_at "rq") => `(tactic| repeat (first
  | with_reducible refine L2.rd_seq ?_ | with_reducible refine L2.rd_if ?_ | with_reducible refine L2.rd_asg ?_ | with_reducible refine L2.rd_drop ?_ | with_reducible refine L2.rd_ret ?_ | with_reducible refine L2.rd_next ?_
  | with_reducible refine L2.rd_op ?_ | with_reducible refine L2.rd_un ?_ | ((with_reducible apply L2.rd_var); (case e => exact rfl)) | with_reducible refine L2.rd_c ?_
  | with_reducible refine L2.rd_I0 ?_ | ((with_reducible apply L2.rd_I); (case hc => walk_at "cond")) | with_reducible refine L2.rd_U ?_
  | with_reducible refine L2.rd_test ?_ | with_reducible refine L2.rd_tB ?_ | with_reducible refine L2.rd_bl' ?_ | ((with_reducible apply L2.rd_eq); (case hs => exact rfl)) | ((with_reducible apply L2.rd_ne); (case hs => exact rfl))
  | ((with_reducible apply L2.rd_ixL); (case hq => walk_at "sq"); (case ha => exact rfl)) | ((with_reducible apply L2.rd_ixT); (case hq => walk_at "sq"); (case ha => exact rfl))
  | with_reducible refine L2.rd_name ?_ | with_reducible refine L2.rd_sub ?_ | ((with_reducible apply L2.rd_setL); (case hp => walk_at "lk"); (case hi => exact rfl))
  | with_reducible refine L2.rd_CB ?_ | with_reducible refine L2.rd_nil ?_ | with_reducible refine L2.rd_cons ?_ | with_reducible refine L2.rd_and ?_ | with_reducible refine L2.rd_or ?_ | with_reducible refine L2.rd_not ?_
  | with_reducible refine L2.rd_andV ?_ | with_reducible refine L2.rd_orV ?_ | with_reducible refine L2.rd_notV ?_ | with_reducible refine L2.rd_ifE ?_ | with_reducible refine L2.rd_call ?_ | with_reducible refine L2.rd_callX ?_ | with_reducible refine L2.rd_raise0 ?_ | with_reducible refine L2.rd_raise1 ?_ | with_reducible refine L2.rd_try ?_ | with_reducible refine L2.rd_xat ?_ | with_reducible refine L2.rd_unx ?_ | with_reducible refine L2.rd_star ?_ | with_reducible refine L2.rd_izipL ?_ | ((with_reducible apply L2.rd_callV); (case hi => exact rfl))
  | with_reducible refine L2.rd_tup ?_ | with_reducible refine L2.rd_tupA ?_ | with_reducible refine L2.rd_lstA ?_ | with_reducible refine L2.rd_dnewA ?_ | with_reducible refine L2.rd_lst ?_ | with_reducible refine L2.rd_chain ?_ | with_reducible refine L2.rd_sl ?_ | with_reducible refine L2.rd_nopart ?_ | with_reducible refine L2.rd_part ?_ | with_reducible refine L2.rd_int ?_
  | ((with_reducible apply L2.rd_slL); (case hq => walk_at "sq")) | ((with_reducible apply L2.rd_slG); (case hq => walk_at "sq"))
  | with_reducible refine L2.rd_gnil ?_ | with_reducible refine L2.rd_gcons ?_ | ((with_reducible apply L2.rd_tupT); (case hq => walk_at "sq"); (case hl => exact rfl)) | with_reducible refine L2.rd_BM ?_ | with_reducible refine L2.rd_for ?_ | with_reducible refine L2.rd_rng1 ?_ | with_reducible refine L2.rd_rngV ?_ | with_reducible refine L2.rd_ilist ?_ | with_reducible refine L2.rd_itup ?_ | with_reducible refine L2.rd_comp ?_ | with_reducible refine L2.rd_izip ?_
  | ((with_reducible apply L2.rd_slA); (case hq => walk_at "sq")) | ((with_reducible apply L2.rd_listAL); (case hq => walk_at "sq")) | ((with_reducible apply L2.rd_listAT); (case hq => walk_at "sq")) | ((with_reducible apply L2.rd_tupleAL); (case hq => walk_at "sq")) | ((with_reducible apply L2.rd_lenL); (case hq => walk_at "sq")) | ((with_reducible apply L2.rd_lenT); (case hq => walk_at "sq")) | ((with_reducible apply L2.rd_listFT); (case hq => walk_at "sq")) | ((with_reducible apply L2.rd_listFL); (case hq => walk_at "sq")) | ((with_reducible apply L2.rd_listL); (case hq => walk_at "sq")) | ((with_reducible apply L2.rd_listT); (case hq => walk_at "sq"))
  | ((with_reducible apply L2.rd_tupleL); (case hq => walk_at "sq")) | ((with_reducible apply L2.rd_isiTup); (case hd => assumption)) | ((with_reducible apply L2.rd_isiInt); (case hd => assumption)) | ((with_reducible apply L2.rd_isiBool); (case hd => assumption)) | ((with_reducible apply L2.rd_isiStr); (case hd => assumption)) | ((with_reducible apply L2.rd_isiList); (case hd => assumption)) | with_reducible refine L2.rd_min ?_ | with_reducible refine L2.rd_max ?_ | ((with_reducible refine L2.rd_iteG ?_); first | refine L2.rd_iteT ?_ | refine L2.rd_iteF ?_) | with_reducible refine L2.rd_isN ?_ | with_reducible refine L2.rd_isnB ?_ | with_reducible refine L2.rd_isB ?_ | with_reducible refine L2.rd_notN ?_ | ((with_reducible apply L2.rd_str); (case hl => walk_at "cond")) | dsimp only))
namespace My
open PySem L2
noncomputable abbrev s_is_number : Stmt := top 13
noncomputable abbrev s_is_within : Stmt := top 14
noncomputable abbrev s_is_place : Stmt := top 15
noncomputable abbrev s_is_line : Stmt := top 19
noncomputable abbrev s_is_line_and_place : Stmt := top 20
noncomputable abbrev s_is_history : Stmt := top 21
noncomputable abbrev s_require_history : Stmt := top 22
noncomputable abbrev s_extended : Stmt := top 23
noncomputable abbrev s_law_state : Stmt := top 25
noncomputable abbrev s_law_next : Stmt := top 26
noncomputable abbrev s_law_history : Stmt := top 27
noncomputable abbrev s_law_alike : Stmt := top 28
noncomputable abbrev s_law_error : Stmt := top 29
noncomputable abbrev s_law_names : Stmt := top 30
noncomputable abbrev s_law_refused : Stmt := top 31
noncomputable abbrev s_law_due : Stmt := top 32
noncomputable abbrev s_law_right : Stmt := top 33
noncomputable abbrev s_law : Stmt := top 34
theorem sc_is_number : FnScope ["thing"] ["thing"] (defScope s_is_number) := ⟨rfl, rfl, rfl, by decide +kernel, rfl, by decide +kernel, by decide +kernel⟩
theorem sc_is_within : FnScope ["thing", "least", "most"] ["thing", "least", "most"] (defScope s_is_within) := ⟨rfl, rfl, rfl, by decide +kernel, rfl, by decide +kernel, by decide +kernel⟩
theorem sc_is_place : FnScope ["thing"] ["thing"] (defScope s_is_place) := ⟨rfl, rfl, rfl, by decide +kernel, rfl, by decide +kernel, by decide +kernel⟩
theorem sc_is_line : FnScope ["thing"] ["thing"] (defScope s_is_line) := ⟨rfl, rfl, rfl, by decide +kernel, rfl, by decide +kernel, by decide +kernel⟩
theorem sc_is_line_and_place : FnScope ["thing"] ["thing"] (defScope s_is_line_and_place) := ⟨rfl, rfl, rfl, by decide +kernel, rfl, by decide +kernel, by decide +kernel⟩
theorem sc_is_history : FnScope ["thing"] ["thing"] (defScope s_is_history) := ⟨rfl, rfl, rfl, by decide +kernel, rfl, by decide +kernel, by decide +kernel⟩
theorem sc_require_history : FnScope ["thing"] ["thing"] (defScope s_require_history) := ⟨rfl, rfl, rfl, by decide +kernel, rfl, by decide +kernel, by decide +kernel⟩
theorem sc_extended : FnScope ["history", "line", "fork", "last_line", "last_fork"] ["history", "line", "fork"] (defScope s_extended) := ⟨rfl, rfl, rfl, by decide +kernel, rfl, by decide +kernel, by decide +kernel⟩
theorem sc_law_state : FnScope ["_law_script", "_law_cells"] ["_law_script"] (defScope s_law_state) := ⟨rfl, rfl, rfl, by decide +kernel, rfl, by decide +kernel, by decide +kernel⟩
theorem sc_law_next : FnScope ["_law_state_here", "_law_below", "_law_found", "_law_cells", "_law_cell"] ["_law_state_here", "_law_below"] (defScope s_law_next) := ⟨rfl, rfl, rfl, by decide +kernel, rfl, by decide +kernel, by decide +kernel⟩
theorem sc_law_history : FnScope ["_law_state_here", "_law_many", "_law_wide", "_law_line", "_law_found", "_law_k"] ["_law_state_here"] (defScope s_law_history) := ⟨rfl, rfl, rfl, by decide +kernel, rfl, by decide +kernel, by decide +kernel⟩
theorem sc_law_alike : FnScope ["_law_found", "_law_due_here", "_law_one", "_law_other"] ["_law_found", "_law_due_here"] (defScope s_law_alike) := ⟨rfl, rfl, rfl, by decide +kernel, rfl, by decide +kernel, by decide +kernel⟩
theorem sc_law_error : FnScope ["_law_call", "_law_handed", "_law_caught", "_law_error_here"] ["_law_call", "_law_handed"] (defScope s_law_error) := ⟨rfl, rfl, rfl, by decide +kernel, rfl, by decide +kernel, by decide +kernel⟩
theorem sc_law_names : FnScope ["_law_error_here", "_law_said", "_law_names_here"] ["_law_error_here"] (defScope s_law_names) := ⟨rfl, rfl, rfl, by decide +kernel, rfl, by decide +kernel, by decide +kernel⟩
theorem sc_law_refused : FnScope ["_law_call", "_law_handed", "_law_name", "_law_caught", "_law_turn"] ["_law_call", "_law_handed", "_law_name"] (defScope s_law_refused) := ⟨rfl, rfl, rfl, by decide +kernel, rfl, by decide +kernel, by decide +kernel⟩
theorem sc_law_due : FnScope ["_law_history_here", "_law_line", "_law_fork", "_law_odd_line", "_law_odd_fork"] ["_law_history_here", "_law_line", "_law_fork", "_law_odd_line", "_law_odd_fork"] (defScope s_law_due) := ⟨rfl, rfl, rfl, by decide +kernel, rfl, by decide +kernel, by decide +kernel⟩
theorem sc_law_right : FnScope ["_law_history_here", "_law_line", "_law_fork", "_law_odd_line", "_law_odd_fork", "_law_due_here", "_law_error_here"] ["_law_history_here", "_law_line", "_law_fork", "_law_odd_line", "_law_odd_fork"] (defScope s_law_right) := ⟨rfl, rfl, rfl, by decide +kernel, rfl, by decide +kernel, by decide +kernel⟩
theorem sc_law : FnScope ["_law_script", "_law_state_here", "_law_odd", "_law_turn", "_law_history_here", "_law_last", "_law_ahead", "_law_lines", "_law_forks", "_law_line", "_law_fork", "_law_strange", "_law_none"] ["_law_script"] (defScope s_law) := ⟨rfl, rfl, rfl, by decide +kernel, rfl, by decide +kernel, by decide +kernel⟩
noncomputable abbrev t_Full : Stmt := inClass (top 9) 0
noncomputable abbrev t_NoCount : Stmt := inClass (top 10) 0
noncomputable abbrev t_NoHistory : Stmt := inClass (top 3) 0
theorem ib_NoHistory : IBody0 t_NoHistory := ⟨⟨rfl, rfl, rfl, by decide +kernel, rfl, rfl, rfl⟩, ⟨_, rfl, rfl⟩, fun _ _ _ _ _ _ _ _ _ _ => rfl, ⟨_, _, _, _, _, _, _, _, _, rfl, fun _ => rfl⟩⟩
theorem ib_Full : IBody t_Full "what" "what" := ⟨⟨rfl, rfl, rfl, rfl, by decide +kernel, rfl, rfl, rfl, by decide +kernel, by decide +kernel⟩, ⟨_, rfl, rfl⟩, fun _ _ _ _ _ _ _ _ _ _ _ => rfl, ⟨_, _, _, _, _, _, _, _, _, _, _, _, _, rfl, fun _ => rfl⟩⟩
theorem ib_NoCount : IBody t_NoCount "what" "what" := ⟨⟨rfl, rfl, rfl, rfl, by decide +kernel, rfl, rfl, rfl, by decide +kernel, by decide +kernel⟩, ⟨_, rfl, rfl⟩, fun _ _ _ _ _ _ _ _ _ _ _ => rfl, ⟨_, _, _, _, _, _, _, _, _, _, _, _, _, rfl, fun _ => rfl⟩⟩
set_option genInjectivity false in
set_option genSizeOfSpec false in
structure Adr where
  f_is_number : Addr
  d_is_number : FuncData
  f_is_within : Addr
  d_is_within : FuncData
  f_is_place : Addr
  d_is_place : FuncData
  f_is_line : Addr
  d_is_line : FuncData
  f_is_line_and_place : Addr
  d_is_line_and_place : FuncData
  f_is_history : Addr
  d_is_history : FuncData
  f_require_history : Addr
  d_require_history : FuncData
  f_extended : Addr
  d_extended : FuncData
  f_law_state : Addr
  d_law_state : FuncData
  f_law_next : Addr
  d_law_next : FuncData
  f_law_history : Addr
  d_law_history : FuncData
  f_law_alike : Addr
  d_law_alike : FuncData
  f_law_error : Addr
  d_law_error : FuncData
  f_law_names : Addr
  d_law_names : FuncData
  f_law_refused : Addr
  d_law_refused : FuncData
  f_law_due : Addr
  d_law_due : FuncData
  f_law_right : Addr
  d_law_right : FuncData
  f_law : Addr
  d_law : FuncData
  u_LAST_LINE : Value
  u_LAST_PLACE : Value
  u_LINES : Value
  C_Elder : Addr
  C_Full : Addr
  C_Gap : Addr
  C_LineError : Addr
  C_NoCount : Addr
  C_NoHistory : Addr
  C_NoPlace : Addr
  C_NoRow : Addr
  C_TooEarly : Addr
  C_TooOld : Addr
  I_Full : Addr
  I_NoCount : Addr
  I_NoHistory : Addr
set_option genInjectivity false in
set_option genSizeOfSpec false in
structure Txt (P : Program) (K : PySem.W.Frag) (mg : Str → Option Value) (a : Adr) : Prop where
  mC_Elder : mg "Elder" = some (.ref a.C_Elder)
  mC_Full : mg "Full" = some (.ref a.C_Full)
  mC_Gap : mg "Gap" = some (.ref a.C_Gap)
  mC_LineError : mg "LineError" = some (.ref a.C_LineError)
  mC_NoCount : mg "NoCount" = some (.ref a.C_NoCount)
  mC_NoHistory : mg "NoHistory" = some (.ref a.C_NoHistory)
  mC_NoPlace : mg "NoPlace" = some (.ref a.C_NoPlace)
  mC_NoRow : mg "NoRow" = some (.ref a.C_NoRow)
  mC_TooEarly : mg "TooEarly" = some (.ref a.C_TooEarly)
  mC_TooOld : mg "TooOld" = some (.ref a.C_TooOld)
  Z_Full : XIni P K a.C_Full a.C_LineError a.I_Full "what"
  Z_NoCount : XIni P K a.C_NoCount a.C_LineError a.I_NoCount "what"
  Z_NoHistory : XIni0 P K a.C_NoHistory a.C_LineError a.I_NoHistory "zzplace"
  xg_Full : XG K a.C_Full
  ex_Full_LineError : PySem.W.exmOne K (.ref a.C_Full) (.ref a.C_LineError) = some true
  is_Full_Elder : PySem.W.kitOne K (.ref a.C_Full) (.ref a.C_Elder) = some false
  is_Full_Full : PySem.W.kitOne K (.ref a.C_Full) (.ref a.C_Full) = some true
  is_Full_Gap : PySem.W.kitOne K (.ref a.C_Full) (.ref a.C_Gap) = some false
  is_Full_NoCount : PySem.W.kitOne K (.ref a.C_Full) (.ref a.C_NoCount) = some false
  is_Full_NoHistory : PySem.W.kitOne K (.ref a.C_Full) (.ref a.C_NoHistory) = some false
  is_Full_NoPlace : PySem.W.kitOne K (.ref a.C_Full) (.ref a.C_NoPlace) = some false
  is_Full_NoRow : PySem.W.kitOne K (.ref a.C_Full) (.ref a.C_NoRow) = some false
  is_Full_TooEarly : PySem.W.kitOne K (.ref a.C_Full) (.ref a.C_TooEarly) = some false
  is_Full_TooOld : PySem.W.kitOne K (.ref a.C_Full) (.ref a.C_TooOld) = some false
  is_Full_ValueError : PySem.W.kitOne K (.ref a.C_Full) (.type "ValueError") = some true
  xg_NoCount : XG K a.C_NoCount
  ex_NoCount_LineError : PySem.W.exmOne K (.ref a.C_NoCount) (.ref a.C_LineError) = some true
  is_NoCount_Elder : PySem.W.kitOne K (.ref a.C_NoCount) (.ref a.C_Elder) = some false
  is_NoCount_Full : PySem.W.kitOne K (.ref a.C_NoCount) (.ref a.C_Full) = some false
  is_NoCount_Gap : PySem.W.kitOne K (.ref a.C_NoCount) (.ref a.C_Gap) = some false
  is_NoCount_NoCount : PySem.W.kitOne K (.ref a.C_NoCount) (.ref a.C_NoCount) = some true
  is_NoCount_NoHistory : PySem.W.kitOne K (.ref a.C_NoCount) (.ref a.C_NoHistory) = some false
  is_NoCount_NoPlace : PySem.W.kitOne K (.ref a.C_NoCount) (.ref a.C_NoPlace) = some false
  is_NoCount_NoRow : PySem.W.kitOne K (.ref a.C_NoCount) (.ref a.C_NoRow) = some false
  is_NoCount_TooEarly : PySem.W.kitOne K (.ref a.C_NoCount) (.ref a.C_TooEarly) = some false
  is_NoCount_TooOld : PySem.W.kitOne K (.ref a.C_NoCount) (.ref a.C_TooOld) = some false
  is_NoCount_ValueError : PySem.W.kitOne K (.ref a.C_NoCount) (.type "ValueError") = some true
  xg_NoHistory : XG K a.C_NoHistory
  ex_NoHistory_LineError : PySem.W.exmOne K (.ref a.C_NoHistory) (.ref a.C_LineError) = some true
  is_NoHistory_Elder : PySem.W.kitOne K (.ref a.C_NoHistory) (.ref a.C_Elder) = some false
  is_NoHistory_Full : PySem.W.kitOne K (.ref a.C_NoHistory) (.ref a.C_Full) = some false
  is_NoHistory_Gap : PySem.W.kitOne K (.ref a.C_NoHistory) (.ref a.C_Gap) = some false
  is_NoHistory_NoCount : PySem.W.kitOne K (.ref a.C_NoHistory) (.ref a.C_NoCount) = some false
  is_NoHistory_NoHistory : PySem.W.kitOne K (.ref a.C_NoHistory) (.ref a.C_NoHistory) = some true
  is_NoHistory_NoPlace : PySem.W.kitOne K (.ref a.C_NoHistory) (.ref a.C_NoPlace) = some false
  is_NoHistory_NoRow : PySem.W.kitOne K (.ref a.C_NoHistory) (.ref a.C_NoRow) = some false
  is_NoHistory_TooEarly : PySem.W.kitOne K (.ref a.C_NoHistory) (.ref a.C_TooEarly) = some false
  is_NoHistory_TooOld : PySem.W.kitOne K (.ref a.C_NoHistory) (.ref a.C_TooOld) = some false
  is_NoHistory_ValueError : PySem.W.kitOne K (.ref a.C_NoHistory) (.type "ValueError") = some true
  c_LAST_LINE : mg "LAST_LINE" = some a.u_LAST_LINE ∧ RelV (.int 1000000000) a.u_LAST_LINE
  c_LAST_PLACE : mg "LAST_PLACE" = some a.u_LAST_PLACE ∧ RelV (.int 1000000) a.u_LAST_PLACE
  c_LINES : mg "LINES" = some a.u_LINES ∧ RelV (.int 60) a.u_LINES
  b_ValueError : mg "ValueError" = none
  b_all : mg "all" = none
  b_bool : mg "bool" = none
  b_int : mg "int" = none
  b_isinstance : mg "isinstance" = none
  b_len : mg "len" = none
  b_list : mg "list" = none
  b_min : mg "min" = none
  b_range : mg "range" = none
  b_str : mg "str" = none
  b_tuple : mg "tuple" = none
  b_zip : mg "zip" = none
  F_is_number : Fun K "is_number" "is_number" s_is_number a.f_is_number a.d_is_number
  m_is_number : mg "is_number" = some (.ref a.f_is_number)
  k_is_number : PySem.W.keepIn K (.ref a.f_is_number) = true
  bd_is_number : Binds K a.d_is_number ["thing"] []
  F_is_within : Fun K "is_within" "is_within" s_is_within a.f_is_within a.d_is_within
  m_is_within : mg "is_within" = some (.ref a.f_is_within)
  k_is_within : PySem.W.keepIn K (.ref a.f_is_within) = true
  bd_is_within : Binds K a.d_is_within ["thing", "least", "most"] []
  F_is_place : Fun K "is_place" "is_place" s_is_place a.f_is_place a.d_is_place
  m_is_place : mg "is_place" = some (.ref a.f_is_place)
  k_is_place : PySem.W.keepIn K (.ref a.f_is_place) = true
  bd_is_place : Binds K a.d_is_place ["thing"] []
  F_is_line : Fun K "is_line" "is_line" s_is_line a.f_is_line a.d_is_line
  m_is_line : mg "is_line" = some (.ref a.f_is_line)
  k_is_line : PySem.W.keepIn K (.ref a.f_is_line) = true
  bd_is_line : Binds K a.d_is_line ["thing"] []
  F_is_line_and_place : Fun K "is_line_and_place" "is_line_and_place" s_is_line_and_place a.f_is_line_and_place a.d_is_line_and_place
  m_is_line_and_place : mg "is_line_and_place" = some (.ref a.f_is_line_and_place)
  k_is_line_and_place : PySem.W.keepIn K (.ref a.f_is_line_and_place) = true
  bd_is_line_and_place : Binds K a.d_is_line_and_place ["thing"] []
  F_is_history : Fun K "is_history" "is_history" s_is_history a.f_is_history a.d_is_history
  m_is_history : mg "is_history" = some (.ref a.f_is_history)
  k_is_history : PySem.W.keepIn K (.ref a.f_is_history) = true
  bd_is_history : Binds K a.d_is_history ["thing"] []
  F_require_history : Fun K "require_history" "require_history" s_require_history a.f_require_history a.d_require_history
  m_require_history : mg "require_history" = some (.ref a.f_require_history)
  k_require_history : PySem.W.keepIn K (.ref a.f_require_history) = true
  bd_require_history : Binds K a.d_require_history ["thing"] []
  F_extended : Fun K "extended" "extended" s_extended a.f_extended a.d_extended
  m_extended : mg "extended" = some (.ref a.f_extended)
  k_extended : PySem.W.keepIn K (.ref a.f_extended) = true
  bd_extended : Binds K a.d_extended ["history", "line", "fork"] []
  F_law_state : Fun K "_law_state" "_law_state" s_law_state a.f_law_state a.d_law_state
  m__law_state : mg "_law_state" = some (.ref a.f_law_state)
  k__law_state : PySem.W.keepIn K (.ref a.f_law_state) = true
  bd__law_state : Binds K a.d_law_state ["_law_script"] []
  F_law_next : Fun K "_law_next" "_law_next" s_law_next a.f_law_next a.d_law_next
  m__law_next : mg "_law_next" = some (.ref a.f_law_next)
  k__law_next : PySem.W.keepIn K (.ref a.f_law_next) = true
  bd__law_next : Binds K a.d_law_next ["_law_state_here", "_law_below"] []
  F_law_history : Fun K "_law_history" "_law_history" s_law_history a.f_law_history a.d_law_history
  m__law_history : mg "_law_history" = some (.ref a.f_law_history)
  k__law_history : PySem.W.keepIn K (.ref a.f_law_history) = true
  bd__law_history : Binds K a.d_law_history ["_law_state_here"] []
  F_law_alike : Fun K "_law_alike" "_law_alike" s_law_alike a.f_law_alike a.d_law_alike
  m__law_alike : mg "_law_alike" = some (.ref a.f_law_alike)
  k__law_alike : PySem.W.keepIn K (.ref a.f_law_alike) = true
  bd__law_alike : Binds K a.d_law_alike ["_law_found", "_law_due_here"] []
  F_law_error : Fun K "_law_error" "_law_error" s_law_error a.f_law_error a.d_law_error
  m__law_error : mg "_law_error" = some (.ref a.f_law_error)
  k__law_error : PySem.W.keepIn K (.ref a.f_law_error) = true
  bd__law_error : Binds K a.d_law_error ["_law_call", "_law_handed"] []
  F_law_names : Fun K "_law_names" "_law_names" s_law_names a.f_law_names a.d_law_names
  m__law_names : mg "_law_names" = some (.ref a.f_law_names)
  k__law_names : PySem.W.keepIn K (.ref a.f_law_names) = true
  bd__law_names : Binds K a.d_law_names ["_law_error_here"] []
  F_law_refused : Fun K "_law_refused" "_law_refused" s_law_refused a.f_law_refused a.d_law_refused
  m__law_refused : mg "_law_refused" = some (.ref a.f_law_refused)
  k__law_refused : PySem.W.keepIn K (.ref a.f_law_refused) = true
  bd__law_refused : Binds K a.d_law_refused ["_law_call", "_law_handed", "_law_name"] []
  F_law_due : Fun K "_law_due" "_law_due" s_law_due a.f_law_due a.d_law_due
  m__law_due : mg "_law_due" = some (.ref a.f_law_due)
  k__law_due : PySem.W.keepIn K (.ref a.f_law_due) = true
  bd__law_due : Binds K a.d_law_due ["_law_history_here", "_law_line", "_law_fork", "_law_odd_line", "_law_odd_fork"] []
  F_law_right : Fun K "_law_right" "_law_right" s_law_right a.f_law_right a.d_law_right
  m__law_right : mg "_law_right" = some (.ref a.f_law_right)
  k__law_right : PySem.W.keepIn K (.ref a.f_law_right) = true
  bd__law_right : Binds K a.d_law_right ["_law_history_here", "_law_line", "_law_fork", "_law_odd_line", "_law_odd_fork"] []
  F_law : Fun K "law" "law" s_law a.f_law a.d_law
  m_law : mg "law" = some (.ref a.f_law)
  k_law : PySem.W.keepIn K (.ref a.f_law) = true
  bd_law : Binds K a.d_law ["_law_script"] []
  bl_law : ∀ (s : Shared) (u : Value), BindsTo s a.d_law ⟨[u], []⟩ [("_law_script", u)]
section
variable {P : Program} {w : World} {K : PySem.W.Frag} {mg : Str → Option Value} {base : Heap} {a : Adr}
noncomputable def sp_is_number (K : PySem.W.Frag) : Sp := fun vs H Q _ => ∃ (N : List Addr) (x : V) (d : PyData), vs = [x] ∧ Dt K N H x d ∧ Q (.bl (Mt.numD d)) H
theorem ok_is_number (T : Txt P K mg a)  : FnOk P w K mg base CX0 1 a.f_is_number a.d_is_number ["thing"] (sp_is_number K) := by
  refine T.F_is_number.ok sc_is_number (fun vs H Q E h => ?_) (fun cdv A outer s H vs Q E hr h => ?_)
  · obtain ⟨N, x, d, rfl, _⟩ := h; rfl
  · obtain ⟨N, x, d, rfl, hd, k⟩ := h
    refine exW ⟨_, (qss_one (qs_ret (pe_and (qe_callB cn_isi (by rfl) T.b_isinstance (by decide +kernel) (qa (pv 0 (by rfl) (by walk_at "vis") (by decide) (by decide)) (qa (pe_bltn (by rfl) T.b_int (by decide +kernel) (v := .ty "int") rfl (by decide) (by decide)) qa_nil (by rfl)) (by rfl)) (by decide) (by decide) (by rfl) (by rfl)) (pe_one (pe_not (qe_callB cn_isi (by rfl) T.b_isinstance (by decide +kernel) (qa (pv 0 (by rfl) (by walk_at "vis") (by decide) (by decide)) (qa (pe_bltn (by rfl) T.b_bool (by decide +kernel) (v := .ty "bool") rfl (by decide) (by decide)) qa_nil (by rfl)) (by rfl)) (by decide) (by decide) (by rfl) (by rfl))))))), ?_⟩
    try dsimp only [cxOf]
    walk_at "rd"
    cases d with
    | int i => dsimp only [isIntD]; walk_at "rd"; dsimp only [isBoolD]; walk_at "rd"; exact k
    | bool b => dsimp only [isIntD]; walk_at "rd"; dsimp only [isBoolD]; walk_at "rd"; exact k
    | _ => dsimp only [isIntD]; walk_at "rd"; exact k

noncomputable def sp_is_within (K : PySem.W.Frag) : Sp := fun vs H Q _ => ∃ (N : List Addr) (x : V) (d : PyData) (lo hi : Int), vs = [x, .int lo, .int hi] ∧ Dt K N H x d ∧ Q (.bl (Mt.withinD lo hi d)) H
theorem ok_is_within (T : Txt P K mg a) (G_is_number : FnOk P w K mg base CX0 1 a.f_is_number a.d_is_number ["thing"] (sp_is_number K)) : FnOk P w K mg base CX0 2 a.f_is_within a.d_is_within ["thing", "least", "most"] (sp_is_within K) := by
  refine T.F_is_within.ok sc_is_within (fun vs H Q E h => ?_) (fun cdv A outer s H vs Q E hr h => ?_)
  · obtain ⟨N, x, d, lo, hi, rfl, _⟩ := h; rfl
  · obtain ⟨N, x, d, lo, hi, rfl, hd, k⟩ := h
    refine exW ⟨_, (qss_one (qs_ret (pe_and (qe_call G_is_number (hr.mono (by decide)) (by rfl) T.m_is_number T.k_is_number T.bd_is_number .nil pass0 (qa (pv 0 (by rfl) (by walk_at "vis") (by decide) (by decide)) qa_nil (by rfl)) (by decide) (by rfl) (by rfl)) (pe_one (pe_chain op_le op_le (pv 1 (by rfl) (by walk_at "vis") (by decide) (by decide)) (pv 0 (by rfl) (by walk_at "vis") (by decide) (by decide)) (pv 2 (by rfl) (by walk_at "vis") (by decide) (by decide)) (by with_unfolding_all rfl)))))), ?_⟩
    try dsimp only [cxOf]
    walk_at "rd"
    refine ⟨N, x, d, rfl, hd, rd_bl' ?_⟩
    cases hd with
    | int i =>
      dsimp only [Mt.numD]
      walk_at "rd"
      refine rd_ite2 (fun hc => ?_) (fun hc => ?_)
      · walk_at "rd"
        simpa only [Mt.withinD, hc, Bool.true_and] using k
      · simpa only [Mt.withinD, hc, Bool.false_and] using k
    | _ => dsimp only [Mt.numD]; walk_at "rd"; exact k

noncomputable def sp_is_place (K : PySem.W.Frag) : Sp := fun vs H Q _ => ∃ (N : List Addr) (x : V) (d : PyData), vs = [x] ∧ Dt K N H x d ∧ Q (.bl (Mt.withinD 0 1000000 d)) H
theorem ok_is_place (T : Txt P K mg a) (G_is_within : FnOk P w K mg base CX0 2 a.f_is_within a.d_is_within ["thing", "least", "most"] (sp_is_within K)) : FnOk P w K mg base CX0 3 a.f_is_place a.d_is_place ["thing"] (sp_is_place K) := by
  refine T.F_is_place.ok sc_is_place (fun vs H Q E h => ?_) (fun cdv A outer s H vs Q E hr h => ?_)
  · obtain ⟨N, x, d, rfl, _⟩ := h; rfl
  · obtain ⟨N, x, d, rfl, hd, k⟩ := h
    refine exW ⟨_, (qss_one (qs_ret (qe_call G_is_within (hr.mono (by decide)) (by rfl) T.m_is_within T.k_is_within T.bd_is_within .nil pass0 (qa (pv 0 (by rfl) (by walk_at "vis") (by decide) (by decide)) (qa pe_int (qa (pe_glob (by rfl) T.c_LAST_PLACE.1 T.c_LAST_PLACE.2 (by decide)) qa_nil (by rfl)) (by rfl)) (by rfl)) (by decide) (by rfl) (by rfl)))), ?_⟩
    try dsimp only [cxOf]
    walk_at "rd"
    exact ⟨N, x, d, 0, 1000000, rfl, hd, k⟩

noncomputable def sp_is_line (K : PySem.W.Frag) : Sp := fun vs H Q _ => ∃ (N : List Addr) (x : V) (d : PyData), vs = [x] ∧ Dt K N H x d ∧ Q (.bl (Mt.withinD 0 1000000000 d)) H
theorem ok_is_line (T : Txt P K mg a) (G_is_within : FnOk P w K mg base CX0 2 a.f_is_within a.d_is_within ["thing", "least", "most"] (sp_is_within K)) : FnOk P w K mg base CX0 3 a.f_is_line a.d_is_line ["thing"] (sp_is_line K) := by
  refine T.F_is_line.ok sc_is_line (fun vs H Q E h => ?_) (fun cdv A outer s H vs Q E hr h => ?_)
  · obtain ⟨N, x, d, rfl, _⟩ := h; rfl
  · obtain ⟨N, x, d, rfl, hd, k⟩ := h
    refine exW ⟨_, (qss_one (qs_ret (qe_call G_is_within (hr.mono (by decide)) (by rfl) T.m_is_within T.k_is_within T.bd_is_within .nil pass0 (qa (pv 0 (by rfl) (by walk_at "vis") (by decide) (by decide)) (qa pe_int (qa (pe_glob (by rfl) T.c_LAST_LINE.1 T.c_LAST_LINE.2 (by decide)) qa_nil (by rfl)) (by rfl)) (by rfl)) (by decide) (by rfl) (by rfl)))), ?_⟩
    try dsimp only [cxOf]
    walk_at "rd"
    exact ⟨N, x, d, 0, 1000000000, rfl, hd, k⟩

noncomputable def sp_is_line_and_place (K : PySem.W.Frag) : Sp := fun vs H Q _ => ∃ (N : List Addr) (x : V) (d : PyData), vs = [x] ∧ Dt K N H x d ∧ Q (.bl (Mt.begunD d)) H
theorem ok_is_line_and_place (T : Txt P K mg a) (G_is_line : FnOk P w K mg base CX0 3 a.f_is_line a.d_is_line ["thing"] (sp_is_line K)) (G_is_place : FnOk P w K mg base CX0 3 a.f_is_place a.d_is_place ["thing"] (sp_is_place K)) : FnOk P w K mg base CX0 4 a.f_is_line_and_place a.d_is_line_and_place ["thing"] (sp_is_line_and_place K) := by
  refine T.F_is_line_and_place.ok sc_is_line_and_place (fun vs H Q E h => ?_) (fun cdv A outer s H vs Q E hr h => ?_)
  · obtain ⟨N, x, d, rfl, _⟩ := h; rfl
  · obtain ⟨N, x, d, rfl, hd, k⟩ := h
    refine exW ⟨_, (qss_one (qs_ret (pe_and (qe_callB cn_isi (by rfl) T.b_isinstance (by decide +kernel) (qa (pv 0 (by rfl) (by walk_at "vis") (by decide) (by decide)) (qa (pe_bltn (by rfl) T.b_tuple (by decide +kernel) (v := .ty "tuple") rfl (by decide) (by decide)) qa_nil (by rfl)) (by rfl)) (by decide) (by decide) (by rfl) (by rfl)) (pe_and (pe_cmpR op_eq (qe_callB cn_len (by rfl) T.b_len (by decide +kernel) (qa (pv 0 (by rfl) (by walk_at "vis") (by decide) (by decide)) qa_nil (by rfl)) (by decide) (by decide) (by rfl) (by rfl)) pe_int (nomark _)) (pe_and (qe_call G_is_line (hr.mono (by decide)) (by rfl) T.m_is_line T.k_is_line T.bd_is_line .nil pass0 (qa (pe_ix ix_tup (pv 0 (by rfl) (by walk_at "vis") (by decide) (by decide)) pe_int (fun _ _ => rfl)) qa_nil (by rfl)) (by decide) (by rfl) (by rfl)) (pe_one (qe_call G_is_place (hr.mono (by decide)) (by rfl) T.m_is_place T.k_is_place T.bd_is_place .nil pass0 (qa (pe_ix ix_tup (pv 0 (by rfl) (by walk_at "vis") (by decide) (by decide)) pe_int (fun _ _ => rfl)) qa_nil (by rfl)) (by decide) (by rfl) (by rfl)))))))), ?_⟩
    try dsimp only [cxOf]
    walk_at "rd"
    cases hd with
    | tup hq hn hr =>
      rename_i p xs ds
      dsimp only [isTupD]
      walk_at "rd"
      have hlen := hr.length
      refine rd_ite2 (fun hc => ?_) (fun hc => ?_)
      · have e2 : ds.length = 2 := by
          have := of_decide_eq_true hc
          injection this with this
          omega
        cases hr with
        | nil => simp at e2
        | cons q1 hr => cases hr with
          | nil => simp at e2
          | cons q2 hr => cases hr with
            | cons q3 hr => simp at e2
            | nil =>
              rename_i d1 x1 d2 x2
              walk_at "rd"
              refine ⟨N, _, _, rfl, q1, rd_bl' ?_⟩
              refine rd_ite2 (fun h1 => ?_) (fun h1 => ?_)
              · walk_at "rd"
                refine ⟨N, _, _, rfl, q2, ?_⟩
                simpa only [Mt.begunD, h1, Bool.true_and] using k
              · simpa only [Mt.begunD, h1, Bool.false_and] using k
      · have e2 : ds.length ≠ 2 := by
          intro e
          rw [hlen, e] at hc
          simp at hc
        have : Mt.begunD (.tuple ds) = false := by
          unfold Mt.begunD
          split
          · rename_i heq; cases heq; simp at e2
          · rfl
        rw [this] at k
        exact k
    | _ => dsimp only [isTupD]; walk_at "rd"; exact k

noncomputable def sp_is_history (K : PySem.W.Frag) : Sp := fun vs H Q _ => ∃ (N : List Addr) (x : V) (d : PyData), vs = [x] ∧ Dt K N H x d ∧ ∀ H', Same H H' → Q (.bl (Mt.histD d)) H'
theorem ok_is_history (T : Txt P K mg a) (G_is_line_and_place : FnOk P w K mg base CX0 4 a.f_is_line_and_place a.d_is_line_and_place ["thing"] (sp_is_line_and_place K)) : FnOk P w K mg base CX0 5 a.f_is_history a.d_is_history ["thing"] (sp_is_history K) := by
  refine T.F_is_history.ok sc_is_history (fun vs H Q E h => ?_) (fun cdv A outer s H vs Q E hr h => ?_)
  · obtain ⟨N, x, d, rfl, _⟩ := h; rfl
  · obtain ⟨N, x, d, rfl, hd, k⟩ := h
    refine exW ⟨_, (qss_cons (qs_if (pw_or (pt_not (pt_val (qe_callB cn_isi (by rfl) T.b_isinstance (by decide +kernel) (qa (pv 0 (by rfl) (by walk_at "vis") (by decide) (by decide)) (qa (pe_bltn (by rfl) T.b_tuple (by decide +kernel) (v := .ty "tuple") rfl (by decide) (by decide)) qa_nil (by rfl)) (by rfl)) (by decide) (by decide) (by rfl) (by rfl)) (by intro _; rfl))) (pw_or1 (pt_not (pt_chain op_le op_le pe_int (qe_callB cn_len (by rfl) T.b_len (by decide +kernel) (qa (pv 0 (by rfl) (by walk_at "vis") (by decide) (by decide)) qa_nil (by rfl)) (by decide) (by decide) (by rfl) (by rfl)) (pe_glob (by rfl) T.c_LINES.1 T.c_LINES.2 (by decide)) (by with_unfolding_all rfl))))).pt
        (qss_one (qs_ret pe_bl))
        qss_nil)
      (qss_cons (qs_if (pw_or (pt_not (pt_val (qe_callB (cn_all (by rfl)) (by rfl) T.b_all (by decide +kernel) (qa (by
        refine' pe_comp (NC := ["pair"]) (fr := [none]) ?B1 rfl ?hi1 ?hg1 ?ht1 ?he1 (by intro _; rfl)
        case B1 => exact ⟨rfl, rfl, by decide +kernel, by decide +kernel, rfl, ⟨trivial, trivial⟩⟩
        case hi1 => exact (pi_tup (pv 0 (by rfl) (by walk_at "vis") (by decide) (by decide)))
        case hg1 => intro _ _ _; exact (pg_name (i := 0) (show (["pair"] : List Str).Nodup by decide +kernel) rfl (Or.inl rfl) (by first | exact Or.inl rfl | exact Or.inr rfl))
        case ht1 => intro _ _ _; exact pf_nil
        case he1 => intro _ _ _; exact (qe_call G_is_line_and_place (hr.mono (by decide)) (by rfl) T.m_is_line_and_place T.k_is_line_and_place T.bd_is_line_and_place .nil pass0 (qa (pv 0 (by rfl) (by walk_at "vis") (by decide) (by decide)) qa_nil (by rfl)) (by decide) (by rfl) (by rfl))) qa_nil (by rfl)) (by decide) (by decide) (by rfl) (by rfl)) (by intro _; rfl))) (pw_or1 (pt_cmpR op_ne (pe_ix ix_tup (pe_ix ix_tup (pv 0 (by rfl) (by walk_at "vis") (by decide) (by decide)) pe_int (fun _ _ => rfl)) pe_int (fun _ _ => rfl)) pe_int (nomark _)))).pt
        (qss_one (qs_ret pe_bl))
        qss_nil)
      (qss_one (qs_ret (qe_callB (cn_all (by rfl)) (by rfl) T.b_all (by decide +kernel) (qa (by
        refine' pe_comp (NC := ["ahead", "behind"]) (fr := [none, none]) ?B2 rfl ?hi2 ?hg2 ?ht2 ?he2 (by intro _; rfl)
        case B2 => exact ⟨rfl, rfl, by decide +kernel, by decide +kernel, rfl, ⟨trivial, trivial, trivial⟩⟩
        case hi2 => exact (qi_zip (by rfl) T.b_zip (qa (pv 0 (by rfl) (by walk_at "vis") (by decide) (by decide)) (qa (pe_slice sl_tupG (pv 0 (by rfl) (by walk_at "vis") (by decide) (by decide)) (po_some pe_int) po_none) qa_nil (by rfl)) (by rfl)) (by rfl) (by rfl))
        case hg2 => intro _ _ _; exact (pg_tupK (K := K) (n := 2) (by rfl) rfl (pgs_cons (pg_name (i := 0) (show (["ahead", "behind"] : List Str).Nodup by decide +kernel) rfl (Or.inl rfl) (by first | exact Or.inl rfl | exact Or.inr rfl)) (pgs_cons (pg_name (i := 1) (show (["ahead", "behind"] : List Str).Nodup by decide +kernel) rfl (Or.inl rfl) (by first | exact Or.inl rfl | exact Or.inr rfl)) pgs_nil (by rfl)) (by rfl)) (by rfl) (by rfl))
        case ht2 => intro _ _ _; exact pf_nil
        case he2 => intro _ _ _; exact (pe_and (pe_cmpR op_lt (pe_ix (ix_tupK (K := K) (by rfl)) (pv 0 (by rfl) (by walk_at "vis") (by decide) (by decide)) pe_int (fun _ _ => rfl)) (pe_ix (ix_tupK (K := K) (by rfl)) (pv 1 (by rfl) (by walk_at "vis") (by decide) (by decide)) pe_int (fun _ _ => rfl)) (nomark _)) (pe_one (pe_cmpR op_le (pe_ix (ix_tupK (K := K) (by rfl)) (pv 0 (by rfl) (by walk_at "vis") (by decide) (by decide)) pe_int (fun _ _ => rfl)) (pe_ix (ix_tupK (K := K) (by rfl)) (pv 1 (by rfl) (by walk_at "vis") (by decide) (by decide)) pe_int (fun _ _ => rfl)) (nomark _))))) qa_nil (by rfl)) (by decide) (by decide) (by rfl) (by rfl)))))), ?_⟩
    try dsimp only [cxOf]
    walk_at "rd"
    cases hd with
    | tup hq hn hr =>
      rename_i p xs ds
      have hlen := hr.length
      dsimp only [isTupD]
      walk_at "rd"
      have short : ¬ (1 ≤ ds.length ∧ ds.length ≤ 60) → Q (.bl false) H := fun hs => by
        have e : Mt.histD (.tuple ds) = false := by
          simp only [Mt.histD, Bool.and_eq_false_iff, decide_eq_false_iff_not]
          omega
        have := k H (Same.refl H)
        rwa [e] at this
      refine rd_ite2 (fun h1 => ?_) (fun h1 => ?_)
      · walk_at "rd"
        refine rd_ite2 (fun h2 => ?_) (fun h2 => ?_)
        · have h2' := h2
          simp only [Bool.not_eq_true', decide_eq_false_iff_not] at h2'
          walk_at "rd"
          exact short (by omega)
        · have g1 := of_decide_eq_true h1
          simp only [Bool.not_eq_false', decide_eq_true_eq] at h2
          have l1 : 1 ≤ ds.length := by omega
          have l2 : ds.length ≤ 60 := by omega
          walk_at "rd"
          refine ⟨p, rfl, ⟨xs, hq⟩, ?_⟩
          intro acc hacc nka
          refine comp_by ds.length ?_ (fun i vs σc H' => Same H H' ∧ (∃ o, σc = [o]) ∧ vs = (ds.take i).map fun d => V.bl (Mt.begunD d)) ?_ ?_ ?_
          · have : sizeLine = 16777216 := rfl
            omega
          · exact ⟨(Same.refl H).upd2 hacc, ⟨none, rfl⟩, by simp⟩
          · rintro i vs σc H' hi hl ha ⟨sm, ⟨o, rfl⟩, rfl⟩
            obtain ⟨v, d, e1, e2, e3⟩ := hr.at hi
            refine ⟨⟨xs, v, sm.tupS hq, e1⟩, ?_⟩
            rintro x H2 ⟨rfl, hx⟩ R hR
            have ex := hx xs (sm.tupS hq)
            rw [e1] at ex; cases ex
            walk_at "rd"
            refine ⟨N, v, d, rfl, e3.ext (Ext.same sm), hR _ _ _ ha ⟨sm.upd2 hacc, ⟨some v, rfl⟩, ?_⟩⟩
            rw [List.take_add_one, e2]
            simp
          · rintro vs σc H' hl ha ⟨sm, _, rfl⟩
            refine ⟨⟨xs, sm.tupS hq, by omega⟩, ?_⟩
            rw [List.take_length] at ha
            have hbs : SqL K H' acc ((ds.map Mt.begunD).map V.bl) := SqL.of (by rw [ha, List.map_map]; rfl)
            walk_at "rd"
            refine rd_all hbs ?_
            have eall : (ds.map Mt.begunD).all id = ds.all Mt.begunD := by rw [List.all_map]; rfl
            rw [eall]
            walk_at "rd"
            have no : Mt.histD (.tuple ds) = false → ∀ H2, Same H H2 → Q (.bl false) H2 := fun e H2 s2 => by
              have := k H2 s2
              rwa [e] at this
            refine rd_ite2 (fun hb => ?_) (fun hb => ?_)
            · simp only [Bool.not_eq_true'] at hb
              walk_at "rd"
              exact no (Mt.hist_not_begun hb) _ sm
            · simp only [Bool.not_eq_false'] at hb
              have pairs : ∀ i, i < ds.length → ∃ v a b, xs[i]? = some v ∧ ds[i]? = some (.tuple [.int a, .int b]) ∧ ∃ q, v = .ref q ∧ SqT K H q [.int a, .int b] := fun i hi => by
                obtain ⟨v, d, e1, e2, e3⟩ := hr.at hi
                obtain ⟨a, b, rfl, _⟩ := Mt.begun_shape (List.all_eq_true.mp hb d (List.mem_of_getElem? e2))
                obtain ⟨q, rfl, hq2, _⟩ := e3.pair
                exact ⟨_, a, b, e1, e2, q, rfl, hq2⟩
              obtain ⟨v0, a0, b0, e1, e2, q0, rfl, hq0⟩ := pairs 0 (by omega)
              walk_at "rd"
              refine rd_ixT (sm.tupS hq) (atI_nat (j := 0) e1) ?_
              refine rd_c ?_
              refine rd_ixT (sm.tupS hq0) (atI_nat (j := 1) rfl) ?_
              walk_at "rd"
              have f0 : Mt.first0 ds = decide (b0 = 0) := by
                cases ds with
                | nil => simp at l1
                | cons d r => simp only [List.getElem?_cons_zero, Option.some.injEq] at e2; subst e2; rfl
              refine rd_ite2 (fun hz => ?_) (fun hz => ?_)
              · walk_at "rd"
                refine no ?_ _ sm
                have : Mt.first0 ds = false := by
                  rw [f0]
                  simpa using hz
                simp only [Mt.histD, this, Bool.and_false]
              · have hf : Mt.first0 ds = true := by
                  rw [f0]
                  simpa using hz
                walk_at "rd"
                refine rd_slG (sm.tupS hq) ?_
                intro q H2 _ s2 hq2
                rw [cutV_tail] at hq2
                walk_at "rd"
                have sm2 : Same H H2 := sm.trans s2
                refine ⟨p, q, rfl, ⟨xs, sm2.tupS hq⟩, ⟨xs.drop 1, hq2⟩, ?_⟩
                intro ac2 hac2 nka2
                refine comp_by (ds.length - 1) ?_ (fun i vs σc H' => Same H2 H' ∧ (∃ o1 o2, σc = [o1, o2]) ∧ vs = (List.range i).map fun j => V.bl (Mt.rise ds j)) ?_ ?_ ?_
                · have : sizeLine = 16777216 := rfl
                  omega
                · exact ⟨(Same.refl H2).upd2 hac2, ⟨none, none, rfl⟩, by simp⟩
                · rintro i vs σc H3 hi hl3 ha3 ⟨s3, ⟨o1, o2, rfl⟩, rfl⟩
                  obtain ⟨v1, a1, b1, f1, f2, r1, rfl, g1'⟩ := pairs i (by omega)
                  obtain ⟨v2, a2, b2, f3, f4, r2, rfl, g2'⟩ := pairs (i + 1) (by omega)
                  have f3' : (xs.drop 1)[i]? = some (.ref r2) := by rw [List.getElem?_drop, Nat.add_comm]; exact f3
                  have m3 : Same H H3 := sm2.trans s3
                  refine ⟨⟨xs, xs.drop 1, _, _, m3.tupS hq, s3.tupS hq2, f1, f3'⟩, ?_⟩
                  rintro x H4 ⟨t, y1, y2, ht, hy1, hy2, rfl, rfl⟩ R hR
                  have ey1 := hy1 xs (m3.tupS hq)
                  have ey2 := hy2 _ (s3.tupS hq2)
                  rw [f1] at ey1; cases ey1
                  rw [f3'] at ey2; cases ey2
                  have m4 : Same H (upd H3 t (.tup [.ref r1, .ref r2])) := m3.trans (Same.upd ht)
                  have k1 := m4.tupS g1'
                  have k2 := m4.tupS g2'
                  have nt : ac2 ≠ t := fun z => by rw [z, ht] at ha3; cases ha3
                  have ris : Mt.rise ds i = (decide (a1 < a2) && decide (b1 ≤ b2)) := by simp only [Mt.rise, f2, f4]
                  have fin : ∀ b : Bool, Mt.rise ds i = b → R [some (.ref r1), some (.ref r2)] (.bl b) (upd H3 t (.tup [.ref r1, .ref r2])) := fun b e => by
                    refine hR _ _ _ (by rw [upd_ne nt]; exact ha3) ⟨?_, ⟨_, _, rfl⟩, ?_⟩
                    · exact (s3.trans (Same.upd ht)).upd2 hac2
                    · rw [List.range_succ, List.map_append, ← e]; rfl
                  walk_at "rd"
                  refine rd_ite2 (fun hx => ?_) (fun hx => ?_)
                  · walk_at "rd"
                    exact fin _ (by rw [ris, hx, Bool.true_and])
                  · exact fin _ (by rw [ris, hx, Bool.false_and])
                · rintro vs σc H3 hl3 ha3 ⟨s3, _, rfl⟩
                  have m3 : Same H H3 := sm2.trans s3
                  refine ⟨⟨xs, xs.drop 1, m3.tupS hq, s3.tupS hq2, .inr (by rw [List.length_drop]; omega)⟩, ?_⟩
                  walk_at "rd"
                  have hbs2 : SqL K H3 ac2 (((List.range (ds.length - 1)).map (Mt.rise ds)).map V.bl) := SqL.of (by rw [ha3, List.map_map]; rfl)
                  refine rd_all hbs2 ?_
                  have := k H3 m3
                  rw [Mt.hist_of_begun l1 l2 hb hf] at this
                  rw [List.all_map]
                  exact this
      · walk_at "rd"
        simp only [decide_eq_false_iff_not] at h1
        exact short (by omega)
    | _ => dsimp only [isTupD]; walk_at "rd"; exact k H (Same.refl H)

noncomputable def sp_require_history (K : PySem.W.Frag) (a : Adr) : Sp := fun vs H Q E => ∃ (N : List Addr) (x : V) (d : PyData), vs = [x] ∧ Dt K N H x d ∧ (Mt.histD d = true → ∀ H', Same H H' → Q .non H') ∧ (Mt.histD d = false → ∀ H', Same H H' → E (.ref a.C_NoHistory) none H')
theorem ok_require_history (T : Txt P K mg a) (G_is_history : FnOk P w K mg base CX0 5 a.f_is_history a.d_is_history ["thing"] (sp_is_history K)) : FnOk P w K mg base (CX1 P w) 6 a.f_require_history a.d_require_history ["thing"] (sp_require_history K a) := by
  refine T.F_require_history.okX sc_require_history (fun vs H Q E h => ?_) (fun cdv A outer s H vs Q E hr h => ?_)
  · obtain ⟨N, x, d, rfl, _⟩ := h; rfl
  · obtain ⟨N, x, d, rfl, hd, k1, k2⟩ := h
    refine exW ⟨_, (qss_one (qs_if (pt_not (pt_val (qe_call G_is_history (hr.mono (by decide)) (by rfl) T.m_is_history T.k_is_history T.bd_is_history .nil pass0 (qa (pv 0 (by rfl) (by walk_at "vis") (by decide) (by decide)) qa_nil (by rfl)) (by decide) (by rfl) (by rfl)) (by intro _; rfl)))
        (qss_one (qs_raise0i px1 (by rfl) (hr.mono (by decide)) (by rfl) T.mC_NoHistory T.Z_NoHistory (by decide)))
        qss_nil)), ?_⟩
    try dsimp only [cxOf]
    walk_at "rd"
    refine ⟨N, x, d, rfl, hd, fun H1 s1 => ?_⟩
    cases hh : Mt.histD d with
    | true =>
      walk_at "rd"
      exact k1 hh _ s1
    | false =>
      walk_at "rd"
      exact k2 hh _ s1

inductive Ref (a : Adr) (ll lf : Int) (n : Nat) (e g : PyData) : Addr → Str → Prop
  | line (h1 : Mt.withinD (ll + 1) 1000000000 e = false) : Ref a ll lf n e g a.C_NoCount "line"
  | fork (h1 : Mt.withinD (ll + 1) 1000000000 e = true) (h2 : Mt.withinD lf 1000000 g = false) : Ref a ll lf n e g a.C_NoCount "fork"
  | full (h1 : Mt.withinD (ll + 1) 1000000000 e = true) (h2 : Mt.withinD lf 1000000 g = true) (h3 : n = 60) : Ref a ll lf n e g a.C_Full "lines"
noncomputable def sp_extended (K : PySem.W.Frag) (a : Adr) : Sp := fun vs H Q E => ∃ (N : List Addr) (v u w : V) (d e g : PyData), vs = [v, u, w] ∧ Dt K N H v d ∧ Dt K N H u e ∧ Dt K N H w g ∧
  ((Mt.histD d = false ∧ ∀ H', Same H H' → E (.ref a.C_NoHistory) none H') ∨
   (∃ (hs : List (Int × Int)) (ll lf : Int), d = .tuple ((hs ++ [(ll, lf)]).map Mt.pr) ∧ Mt.HOK (hs ++ [(ll, lf)]) ∧
     ((∃ C s, Ref a ll lf (hs.length + 1) e g C s ∧ ∀ H', Same H H' → ∀ dx, H' dx = none → E (.ref C) (some dx) (upd H' dx (.xd [("what", .str s)]))) ∨
      (Mt.withinD (ll + 1) 1000000000 e = true ∧ Mt.withinD lf 1000000 g = true ∧ hs.length + 1 ≠ 60 ∧
        ∀ q H', Same H H' → Dt K [] H' (.ref q) (.tuple ((hs ++ [(ll, lf)]).map Mt.pr ++ [.tuple [e, g]])) → Q (.ref q) H'))))
theorem ok_extended (T : Txt P K mg a) (G_is_within : FnOk P w K mg base CX0 2 a.f_is_within a.d_is_within ["thing", "least", "most"] (sp_is_within K)) (G_require_history : FnOk P w K mg base (CX1 P w) 6 a.f_require_history a.d_require_history ["thing"] (sp_require_history K a)) : FnOk P w K mg base (CX1 P w) 7 a.f_extended a.d_extended ["history", "line", "fork"] (sp_extended K a) := by
  refine T.F_extended.okX sc_extended (fun vs H Q E h => ?_) (fun cdv A outer s H vs Q E hr h => ?_)
  · obtain ⟨N, v, u, w, d, e, g, rfl, _⟩ := h; rfl
  · obtain ⟨N, v, u, w', d, e, g, rfl, hd, he, hg, k⟩ := h
    refine exW ⟨_, (qss_cons (qs_expr (qe_callX G_require_history (hr.mono (by decide)) (by rfl) T.m_require_history T.k_require_history T.bd_require_history .nil px1 (qa (pv 0 (by rfl) (by walk_at "vis") (by decide) (by decide)) qa_nil (by rfl)) (by decide) (by rfl) (by rfl)) (by rfl))
      (qss_cons (qs_asg (pe_ix ix_tup (pv 0 (by rfl) (by walk_at "vis") (by decide) (by decide)) (pe_un un_neg pe_int) (fun _ _ => rfl)) (pg_tup (n := 2) rfl (pgs_cons (pg_name (i := 3) (show (["history", "line", "fork", "last_line", "last_fork"] : List Str).Nodup by decide +kernel) rfl (Or.inl rfl) (by first | exact Or.inl rfl | exact Or.inr rfl)) (pgs_cons (pg_name (i := 4) (show (["history", "line", "fork", "last_line", "last_fork"] : List Str).Nodup by decide +kernel) rfl (Or.inl rfl) (by first | exact Or.inl rfl | exact Or.inr rfl)) pgs_nil (by rfl)) (by rfl)) (by rfl) (by rfl)) (by rfl) (by rfl) (by rfl))
      (qss_cons (qs_if (pt_not (pt_val (qe_call G_is_within (hr.mono (by decide)) (by rfl) T.m_is_within T.k_is_within T.bd_is_within .nil pass0 (qa (pv 1 (by rfl) (by walk_at "vis") (by decide) (by decide)) (qa (pe_op op_add (pv 3 (by rfl) (by walk_at "vis") (by decide) (by decide)) pe_int) (qa (pe_glob (by rfl) T.c_LAST_LINE.1 T.c_LAST_LINE.2 (by decide)) qa_nil (by rfl)) (by rfl)) (by rfl)) (by decide) (by rfl) (by rfl)) (by intro _; rfl)))
        (qss_one (qs_raise1 px1 (by rfl) (hr.mono (by decide)) (by rfl) T.mC_NoCount T.Z_NoCount (qa pe_str qa_nil (by rfl)) (by rfl) (by decide)))
        qss_nil)
      (qss_cons (qs_if (pt_not (pt_val (qe_call G_is_within (hr.mono (by decide)) (by rfl) T.m_is_within T.k_is_within T.bd_is_within .nil pass0 (qa (pv 2 (by rfl) (by walk_at "vis") (by decide) (by decide)) (qa (pv 4 (by rfl) (by walk_at "vis") (by decide) (by decide)) (qa (pe_glob (by rfl) T.c_LAST_PLACE.1 T.c_LAST_PLACE.2 (by decide)) qa_nil (by rfl)) (by rfl)) (by rfl)) (by decide) (by rfl) (by rfl)) (by intro _; rfl)))
        (qss_one (qs_raise1 px1 (by rfl) (hr.mono (by decide)) (by rfl) T.mC_NoCount T.Z_NoCount (qa pe_str qa_nil (by rfl)) (by rfl) (by decide)))
        qss_nil)
      (qss_cons (qs_if (pt_cmpR op_eq (qe_callB cn_len (by rfl) T.b_len (by decide +kernel) (qa (pv 0 (by rfl) (by walk_at "vis") (by decide) (by decide)) qa_nil (by rfl)) (by decide) (by decide) (by rfl) (by rfl)) (pe_glob (by rfl) T.c_LINES.1 T.c_LINES.2 (by decide)) (nomark _))
        (qss_one (qs_raise1 px1 (by rfl) (hr.mono (by decide)) (by rfl) T.mC_Full T.Z_Full (qa pe_str qa_nil (by rfl)) (by rfl) (by decide)))
        qss_nil)
      (qss_one (qs_ret (qe_tupA (qa_star (pv 0 (by rfl) (by walk_at "vis") (by decide) (by decide)) (qa (qe_tupA (qa (pv 1 (by rfl) (by walk_at "vis") (by decide) (by decide)) (qa (pv 2 (by rfl) (by walk_at "vis") (by decide) (by decide)) qa_nil (by rfl)) (by rfl))) qa_nil (by rfl))))))))))), ?_⟩
    try dsimp only [cxOf]
    walk_at "rd"
    rcases k with ⟨hh, k⟩ | ⟨hs, ll, lf, rfl, ho, k⟩
    · exact ⟨N, v, d, rfl, hd, fun z => (by rw [hh] at z; cases z), fun _ H1 s1 => k _ s1⟩
    · refine ⟨N, v, _, rfl, hd, fun _ H1 s1 => ?_, fun z => (by rw [ho.hist] at z; cases z)⟩
      have hd1 := hd.ext (Ext.same s1)
      have he1 := he.ext (Ext.same s1)
      have hg1 := hg.ext (Ext.same s1)
      have hb := ho.bound (ll, lf) (by simp)
      dsimp only at hb
      cases hd1 with
      | @tup hp xs _ hq hn hr =>
        have hr' := hr
        rw [List.map_append, List.map_cons, List.map_nil] at hr'
        obtain ⟨ws, y, rfl, r1, r2⟩ := DtAll.snoc hr'
        obtain ⟨q, rfl, hq2, _⟩ := Dt.pair r2
        have hl := r1.length
        rw [List.length_map] at hl
        walk_at "rd"
        refine rd_ixT hq (atI_last ws _) ?_
        walk_at "rd"
        refine ⟨N, u, e, ll + 1, 1000000000, rfl, he1, ?_⟩
        cases h1 : Mt.withinD (ll + 1) 1000000000 e with
        | false =>
          walk_at "rd"
          refine ⟨_, rfl, ?_⟩
          rcases k with ⟨C, s, r, k⟩ | ⟨z, _⟩
          · cases r with
            | line _ => exact k _ s1
            | fork z _ => rw [h1] at z; cases z
            | full z _ _ => rw [h1] at z; cases z
          · rw [h1] at z; cases z
        | true =>
          walk_at "rd"
          refine ⟨N, w', g, lf, 1000000, rfl, hg1, ?_⟩
          cases h2 : Mt.withinD lf 1000000 g with
          | false =>
            walk_at "rd"
            refine ⟨_, rfl, ?_⟩
            rcases k with ⟨C, s, r, k⟩ | ⟨_, z, _⟩
            · cases r with
              | line z => rw [h1] at z; cases z
              | fork _ _ => exact k _ s1
              | full _ z _ => rw [h2] at z; cases z
            · rw [h2] at z; cases z
          | true =>
            walk_at "rd"
            have el : (ws ++ [V.ref q]).length = hs.length + 1 := by simp [hl]
            refine rd_ite2 (fun c1 => ?_) (fun c1 => ?_)
            · have c1' : hs.length + 1 = 60 := by
                have z := V.int.inj (of_decide_eq_true c1)
                rw [el] at z
                omega
              walk_at "rd"
              refine ⟨_, rfl, ?_⟩
              rcases k with ⟨C, s, r, k⟩ | ⟨_, _, z, _⟩
              · cases r with
                | line z => rw [h1] at z; cases z
                | fork _ z => rw [h2] at z; cases z
                | full _ _ _ => exact k _ s1
              · exact absurd c1' z
            · have c1' : hs.length + 1 ≠ 60 := by
                intro z
                apply of_decide_eq_false c1
                rw [el, z]
                rfl
              walk_at "rd"
              refine ⟨hp, _, rfl, hq, ?_⟩
              walk_at "rd"
              refine ⟨sz (by simp), fun p1 H2 n2 s2 e2 => ?_⟩
              walk_at "rd"
              have l60 := ho.len2
              have l61 : hs.length + 1 ≤ 60 := by simpa using l60
              refine ⟨sz (by simp only [List.length_append, List.length_cons, List.length_nil]; omega), fun p2 H3 n3 s3 e3 => ?_⟩
              rcases k with ⟨C, s, r, k⟩ | ⟨_, _, _, k⟩
              · cases r with
                | line z => rw [h1] at z; cases z
                | fork _ z => rw [h2] at z; cases z
                | full _ _ z => exact absurd z c1'
              · have s13 := s2.trans s3
                refine k p2 H3 (s1.trans s13) (.tup (SqT.of e3) (by simp) (DtAll.append ((hr.ext (Ext.same s13)).weaken (fun b hb => by simp at hb)) (.cons (.tup (SqT.of (s3 _ _ e2)) (by simp) (.cons ((he1.ext (Ext.same s13)).weaken (fun b hb => by simp at hb)) (.cons ((hg1.ext (Ext.same s13)).weaken (fun b hb => by simp at hb)) .nil))) .nil)))

noncomputable def sp_law_state (K : PySem.W.Frag) : Sp := fun vs H Q _ => ∃ (p : Addr) (ns : List Int), vs = [.ref p] ∧ SqL K H p (ns.map V.int) ∧ ns.length ≤ 63 ∧ ∀ (st : Addr) (H' : Hp), StOk K H' st → Same H H' → H st = none → Q (.ref st) H'
theorem ok_law_state (T : Txt P K mg a)  : FnOk P w K mg base CX0 1 a.f_law_state a.d_law_state ["_law_script"] (sp_law_state K) := by
  refine T.F_law_state.ok sc_law_state (fun vs H Q E h => ?_) (fun cdv A outer s H vs Q E hr h => ?_)
  · obtain ⟨p, ns, rfl, _⟩ := h; rfl
  · obtain ⟨p, ns, rfl, hq, hl, k⟩ := h
    refine exW ⟨_, (qss_cons (qs_set (i := 1) sc_law_state.nd rfl (Or.inl rfl) (qe_callTy cn_list (by rfl) T.b_list (by decide +kernel) (qa (pe_slice sl_list (pv 0 (by rfl) (by walk_at "vis") (by decide) (by decide)) po_none (po_some pe_int)) qa_nil (by rfl)) (by decide) (by decide) (by rfl) (by rfl)) (by rfl) (by first | exact Or.inl rfl | exact Or.inr rfl))
      (qss_cons (qs_if (pt_cmpR op_eq (qe_callB cn_len (by rfl) T.b_len (by decide +kernel) (qa (pv 1 (by rfl) (by walk_at "vis") (by decide) (by decide)) qa_nil (by rfl)) (by decide) (by decide) (by rfl) (by rfl)) pe_int (nomark _))
        (qss_one (qs_set (i := 1) sc_law_state.nd rfl (Or.inl rfl) (qe_lst (qa pe_int qa_nil (by rfl))) (by rfl) (by first | exact Or.inl rfl | exact Or.inr rfl)))
        qss_nil)
      (qss_one (qs_ret (qe_lst (qa (pv 1 (by rfl) (by walk_at "vis") (by decide) (by decide)) (qa pe_int (qa pe_int (qa pe_int qa_nil (by rfl)) (by rfl)) (by rfl)) (by rfl))))))), ?_⟩
    try dsimp only [cxOf]
    walk_at "rd"
    intro l1 n1
    have e1 : cutV (ns.map V.int) none (some 63) = ns.map V.int := by
      unfold cutV
      have e : HT.sIx (ns.map V.int).length (ns.map V.int).length (some 63) = min 63 (ns.map V.int).length := HT.sIx_nat _ _ 63
      rw [e, HT.sIx_none, List.length_map, Nat.min_eq_right hl, List.drop_zero, Nat.sub_zero, ← List.length_map (f := V.int), List.take_length]
    rw [e1]
    walk_at "rd"
    intro l2 n2
    have n1' : H l2 = none := (Same.upd n1).free n2
    walk_at "rd"
    have s2 : Same H (upd (upd H l1 (.lst (ns.map V.int))) l2 (.lst (ns.map V.int))) := (Same.upd n1).trans (Same.upd n2)
    have fin : ∀ (c : Addr) (cs : List Int) (H2 : Hp), Same H H2 → H2 c = some (.lst (cs.map V.int)) → 1 ≤ cs.length → cs.length ≤ 63 → ∀ q, H2 q = none → Q (.ref q) (upd H2 q (.lst [.ref c, .int 0, .int 0, .int 91])) := fun c cs H2 s hc g1 g2 q hq => by
      have nc : c ≠ q := ne_of_none hc hq
      exact k q _ ⟨c, cs, 0, 0, 91, upd_same, by rw [upd_ne nc]; exact hc, nc, g1, g2, by decide, by decide, by decide, by decide⟩ (s.trans (Same.upd hq)) (s.free hq)
    refine rd_ite2 (fun hc => ?_) (fun hc => ?_)
    · walk_at "rd"
      refine ⟨sz (by simp), fun l3 n3 => ?_⟩
      walk_at "rd"
      refine ⟨sz (by simp), fun l4 n4 => ?_⟩
      exact fin l3 [0] _ (s2.trans (Same.upd n3)) upd_same (by decide) (by decide) l4 n4
    · walk_at "rd"
      refine ⟨sz (by simp), fun l4 n4 => ?_⟩
      have hne : ns.length ≠ 0 := fun z => by
        rw [List.length_map, z] at hc
        simp at hc
      exact fin l2 ns _ s2 upd_same (by omega) hl l4 n4

noncomputable def sp_law_next (K : PySem.W.Frag) : Sp := fun vs H Q _ => ∃ (st : Addr) (b : Int), vs = [.ref st, .int b] ∧ StOk K H st ∧ 0 < b ∧ b < 1073741824 ∧
  ∀ (v : Int) (H' : Hp), 0 ≤ v → v < b → StOk K H' st → Ext [st] H H' → Q (.int v) H'
theorem ok_law_next (T : Txt P K mg a)  : FnOk P w K mg base CX0 1 a.f_law_next a.d_law_next ["_law_state_here", "_law_below"] (sp_law_next K) := by
  refine T.F_law_next.ok sc_law_next (fun vs H Q E h => ?_) (fun cdv A outer s H vs Q E hr h => ?_)
  · obtain ⟨st, b, rfl, _⟩ := h; rfl
  · obtain ⟨st, b, rfl, S, hb0, hb1, k⟩ := h
    obtain ⟨c, cs, p, q, r, h1, h2h, h3, h4, h5, h6, h7, h8, h9⟩ := S.ex
    have h2 : SqL K H c (cs.map V.int) := SqL.of h2h
    refine exW ⟨_, (qss_cons (qs_if (pt_cmpR op_gt (pe_ix ix_list (pv 0 (by rfl) (by walk_at "vis") (by decide) (by decide)) pe_int (fun _ _ => rfl)) pe_int (nomark _))
        (qss_cons (qs_set (i := 2) sc_law_next.nd rfl (Or.inl rfl) (pe_op op_mod (pe_ix ix_list (pv 0 (by rfl) (by walk_at "vis") (by decide) (by decide)) pe_int (fun _ _ => rfl)) (pv 1 (by rfl) (by walk_at "vis") (by decide) (by decide))) (by rfl) (by first | exact Or.inl rfl | exact Or.inr rfl))
        (qss_cons (qs_asg (pe_op op_fdiv (pe_ix ix_list (pv 0 (by rfl) (by walk_at "vis") (by decide) (by decide)) pe_int (fun _ _ => rfl)) (pv 1 (by rfl) (by walk_at "vis") (by decide) (by decide))) (pg_sub (pv 0 (by rfl) (by walk_at "vis") (by decide) (by decide)) pe_int set_list (by intro _; rfl)) (by rfl) (by rfl) (by rfl))
        (qss_one (qs_ret (pv 2 (by rfl) (by walk_at "vis") (by decide) (by decide))))))
        qss_nil)
      (qss_cons (qs_set (i := 3) sc_law_next.nd rfl (Or.inl rfl) (pe_ix ix_list (pv 0 (by rfl) (by walk_at "vis") (by decide) (by decide)) pe_int (fun _ _ => rfl)) (by rfl) (by first | exact Or.inl rfl | exact Or.inr rfl))
      (qss_cons (qs_set (i := 4) sc_law_next.nd rfl (Or.inl rfl) (pe_ix ix_list (pv 3 (by rfl) (by walk_at "vis") (by decide) (by decide)) (pe_op op_mod (pe_ix ix_list (pv 0 (by rfl) (by walk_at "vis") (by decide) (by decide)) pe_int (fun _ _ => rfl)) (qe_callB cn_len (by rfl) T.b_len (by decide +kernel) (qa (pv 3 (by rfl) (by walk_at "vis") (by decide) (by decide)) qa_nil (by rfl)) (by decide) (by decide) (by rfl) (by rfl))) (fun _ _ => rfl)) (by rfl) (by first | exact Or.inl rfl | exact Or.inr rfl))
      (qss_cons (qs_asg (pe_op op_add (pe_ix ix_list (pv 0 (by rfl) (by walk_at "vis") (by decide) (by decide)) pe_int (fun _ _ => rfl)) pe_int) (pg_sub (pv 0 (by rfl) (by walk_at "vis") (by decide) (by decide)) pe_int set_list (by intro _; rfl)) (by rfl) (by rfl) (by rfl))
      (qss_cons (qs_if (pw_and (pt_cmpR op_ge (pv 4 (by rfl) (by walk_at "vis") (by decide) (by decide)) (pe_op op_pow pe_int pe_int) (nomark _)) (pw_and1 (pt_cmpR op_le (pe_ix ix_list (pv 0 (by rfl) (by walk_at "vis") (by decide) (by decide)) pe_int (fun _ _ => rfl)) (qe_callB cn_len (by rfl) T.b_len (by decide +kernel) (qa (pv 3 (by rfl) (by walk_at "vis") (by decide) (by decide)) qa_nil (by rfl)) (by decide) (by decide) (by rfl) (by rfl)) (nomark _)))).pt
        (qss_cons (qs_asg (pe_op op_fdiv (pv 4 (by rfl) (by walk_at "vis") (by decide) (by decide)) (pv 1 (by rfl) (by walk_at "vis") (by decide) (by decide))) (pg_sub (pv 0 (by rfl) (by walk_at "vis") (by decide) (by decide)) pe_int set_list (by intro _; rfl)) (by rfl) (by rfl) (by rfl))
        (qss_one (qs_ret (pe_op op_mod (pv 4 (by rfl) (by walk_at "vis") (by decide) (by decide)) (pv 1 (by rfl) (by walk_at "vis") (by decide) (by decide))))))
        qss_nil)
      (qss_cons (qs_asg (pe_op op_mod (pe_op op_add (pe_op op_add (pe_op op_mul (pe_ix ix_list (pv 0 (by rfl) (by walk_at "vis") (by decide) (by decide)) pe_int (fun _ _ => rfl)) pe_int) (pe_op op_mod (pv 4 (by rfl) (by walk_at "vis") (by decide) (by decide)) pe_int)) (pe_op op_mul pe_int (pe_ix ix_list (pv 0 (by rfl) (by walk_at "vis") (by decide) (by decide)) pe_int (fun _ _ => rfl)))) pe_int) (pg_sub (pv 0 (by rfl) (by walk_at "vis") (by decide) (by decide)) pe_int set_list (by intro _; rfl)) (by rfl) (by rfl) (by rfl))
      (qss_one (qs_ret (pe_op op_mod (pe_op op_fdiv (pe_op op_mod (pe_op op_mul (pe_ix ix_list (pv 0 (by rfl) (by walk_at "vis") (by decide) (by decide)) pe_int (fun _ _ => rfl)) pe_int) pe_int) pe_int) (pv 1 (by rfl) (by walk_at "vis") (by decide) (by decide))))))))))), ?_⟩
    try dsimp only [cxOf]
    walk_at "rd"
    have fin : ∀ (v p' q' r' : Int) (H' : Hp), H' = upd H st (.lst [.ref c, .int p', .int q', .int r']) → 0 ≤ v → v < b → 0 ≤ p' → 0 ≤ q' → 0 ≤ r' → r' < 2147483647 → Q (.int v) H' := by
      rintro v p' q' r' H' rfl g1 g2 g3 g4 g5 g6
      have e : Ext [st] H (upd H st (.lst [.ref c, .int p', .int q', .int r'])) := Ext.at (by simp)
      exact k v _ g1 g2 ⟨c, cs, p', q', r', upd_same, e _ _ h2h (by simpa using h3), h3, h4, h5, g3, g4, g5, g6⟩ e
    refine rd_ite2 (fun hc => ?_) (fun hc => ?_)
    · have hq : 0 < q := of_decide_eq_true hc
      walk_at "rd"
      exact fin _ p (q / b) r _ rfl (Int.emod_nonneg _ (by omega)) (Int.emod_lt_of_pos _ hb0) h6 (Int.ediv_nonneg h7 (by omega)) h8 h9
    · have hlm : ((cs.map V.int).length : Int) = cs.length := by rw [List.length_map]
      have hl0 : (0 : Int) < (cs.map V.int).length := by omega
      walk_at "rd"
      obtain ⟨x, hx, _⟩ := atI_ints (ns := cs) (i := p % ((cs.map V.int).length : Int)) (Int.emod_nonneg _ (by omega)) (by rw [hlm]; exact Int.emod_lt_of_pos _ (by omega))
      refine rd_ixL h2 hx ?_
      walk_at "rd"
      have h2' : SqL K (upd H st (.lst [.ref c, .int (p + 1), .int q, .int r])) c (cs.map V.int) := (Ext.at (N := [st]) (by simp)).lst h2 (by simpa using h3)
      refine rd_ite2 (fun hg => ?_) (fun hg => ?_)
      · walk_at "rd"
        have hx0 : (0 : Int) ≤ x := by
          have := of_decide_eq_true hg
          have e : (0 : Int) ≤ 10 ^ (18 : Int).toNat := by decide
          omega
        refine rd_ite2 (fun hj => ?_) (fun hj => ?_)
        · walk_at "rd"
          exact fin _ (p + 1) (x / b) r _ (upd_upd.trans rfl) (Int.emod_nonneg _ (by omega)) (Int.emod_lt_of_pos _ hb0) (by omega) (Int.ediv_nonneg hx0 (by omega)) h8 h9
        · walk_at "rd"
          exact fin _ (p + 1) q _ _ (upd_upd.trans rfl) (Int.emod_nonneg _ (by omega)) (Int.emod_lt_of_pos _ hb0) (by omega) h7 (Int.emod_nonneg _ (by omega)) (Int.emod_lt_of_pos _ (by omega))
      · walk_at "rd"
        exact fin _ (p + 1) q _ _ (upd_upd.trans rfl) (Int.emod_nonneg _ (by omega)) (Int.emod_lt_of_pos _ hb0) (by omega) h7 (Int.emod_nonneg _ (by omega)) (Int.emod_lt_of_pos _ (by omega))

noncomputable def sp_law_history (K : PySem.W.Frag) : Sp := fun vs H Q _ => ∃ (st : Addr), vs = [.ref st] ∧ StOk K H st ∧ ∀ (p : Addr) (hs : List (Int × Int)) (H' : Hp), Mt.HOK hs → (∀ p ∈ hs, p.1 ≤ 60000000) → Dt K [st] H' (.ref p) (.tuple (hs.map Mt.pr)) → StOk K H' st → Ext [st] H H' → Q (.ref p) H'
theorem ok_law_history (T : Txt P K mg a) (G__law_next : FnOk P w K mg base CX0 1 a.f_law_next a.d_law_next ["_law_state_here", "_law_below"] (sp_law_next K)) : FnOk P w K mg base CX0 2 a.f_law_history a.d_law_history ["_law_state_here"] (sp_law_history K) := by
  refine T.F_law_history.ok sc_law_history (fun vs H Q E h => ?_) (fun cdv A outer s H vs Q E hr h => ?_)
  · obtain ⟨st, rfl, _⟩ := h; rfl
  · obtain ⟨st, rfl, S, k⟩ := h
    refine exW ⟨_, (qss_cons (qs_set (i := 1) sc_law_history.nd rfl (Or.inl rfl) (pe_op op_add pe_int (qe_call G__law_next (hr.mono (by decide)) (by rfl) T.m__law_next T.k__law_next T.bd__law_next .nil pass0 (qa (pv 0 (by rfl) (by walk_at "vis") (by decide) (by decide)) (qa pe_int qa_nil (by rfl)) (by rfl)) (by decide) (by rfl) (by rfl))) (by rfl) (by first | exact Or.inl rfl | exact Or.inr rfl))
      (qss_cons (qs_if (pt_cmpR op_eq (qe_call G__law_next (hr.mono (by decide)) (by rfl) T.m__law_next T.k__law_next T.bd__law_next .nil pass0 (qa (pv 0 (by rfl) (by walk_at "vis") (by decide) (by decide)) (qa pe_int qa_nil (by rfl)) (by rfl)) (by decide) (by rfl) (by rfl)) pe_int (nomark _))
        (qss_one (qs_set (i := 1) sc_law_history.nd rfl (Or.inl rfl) (pe_op op_sub pe_int (pe_op op_mul (qe_call G__law_next (hr.mono (by decide)) (by rfl) T.m__law_next T.k__law_next T.bd__law_next .nil pass0 (qa (pv 0 (by rfl) (by walk_at "vis") (by decide) (by decide)) (qa pe_int qa_nil (by rfl)) (by rfl)) (by decide) (by rfl) (by rfl)) (qe_call G__law_next (hr.mono (by decide)) (by rfl) T.m__law_next T.k__law_next T.bd__law_next .nil pass0 (qa (pv 0 (by rfl) (by walk_at "vis") (by decide) (by decide)) (qa pe_int qa_nil (by rfl)) (by rfl)) (by decide) (by rfl) (by rfl)))) (by rfl) (by first | exact Or.inl rfl | exact Or.inr rfl)))
        qss_nil)
      (qss_cons (qs_set (i := 2) sc_law_history.nd rfl (Or.inl rfl) (pe_ix ix_list (qe_lst (qa pe_int (qa pe_int (qa pe_int qa_nil (by rfl)) (by rfl)) (by rfl))) (qe_call G__law_next (hr.mono (by decide)) (by rfl) T.m__law_next T.k__law_next T.bd__law_next .nil pass0 (qa (pv 0 (by rfl) (by walk_at "vis") (by decide) (by decide)) (qa pe_int qa_nil (by rfl)) (by rfl)) (by decide) (by rfl) (by rfl)) (fun _ _ => rfl)) (by rfl) (by first | exact Or.inl rfl | exact Or.inr rfl))
      (qss_cons (qs_set (i := 3) sc_law_history.nd rfl (Or.inl rfl) (pe_op op_mul (qe_call G__law_next (hr.mono (by decide)) (by rfl) T.m__law_next T.k__law_next T.bd__law_next .nil pass0 (qa (pv 0 (by rfl) (by walk_at "vis") (by decide) (by decide)) (qa pe_int qa_nil (by rfl)) (by rfl)) (by decide) (by rfl) (by rfl)) (qe_call G__law_next (hr.mono (by decide)) (by rfl) T.m__law_next T.k__law_next T.bd__law_next .nil pass0 (qa (pv 0 (by rfl) (by walk_at "vis") (by decide) (by decide)) (qa pe_int qa_nil (by rfl)) (by rfl)) (by decide) (by rfl) (by rfl))) (by rfl) (by first | exact Or.inl rfl | exact Or.inr rfl))
      (qss_cons (qs_set (i := 4) sc_law_history.nd rfl (Or.inl rfl) (qe_lst (qa (qe_tup (qa (pv 3 (by rfl) (by walk_at "vis") (by decide) (by decide)) (qa pe_int qa_nil (by rfl)) (by rfl))) qa_nil (by rfl))) (by rfl) (by first | exact Or.inl rfl | exact Or.inr rfl))
      (qss_cons (qs_for PassesOwn.never rfl (qi_range1 (by rfl) T.b_range (qa (pe_op op_sub (pv 1 (by rfl) (by walk_at "vis") (by decide) (by decide)) pe_int) qa_nil (by rfl)) (by rfl)) (pg_name (i := 5) sc_law_history.nd rfl (Or.inl rfl) (by first | exact Or.inl rfl | exact Or.inr rfl))
        (qss_cons (qs_set (i := 3) sc_law_history.nd rfl (Or.inl rfl) (pe_op op_add (pe_op op_add (pv 3 (by rfl) (by walk_at "vis") (by decide) (by decide)) pe_int) (qe_call G__law_next (hr.mono (by decide)) (by rfl) T.m__law_next T.k__law_next T.bd__law_next .nil pass0 (qa (pv 0 (by rfl) (by walk_at "vis") (by decide) (by decide)) (qa (pe_ix ix_list (qe_lst (qa pe_int (qa pe_int (qa (pe_op op_pow pe_int pe_int) qa_nil (by rfl)) (by rfl)) (by rfl))) (qe_call G__law_next (hr.mono (by decide)) (by rfl) T.m__law_next T.k__law_next T.bd__law_next .nil pass0 (qa (pv 0 (by rfl) (by walk_at "vis") (by decide) (by decide)) (qa pe_int qa_nil (by rfl)) (by rfl)) (by decide) (by rfl) (by rfl)) (fun _ _ => rfl)) qa_nil (by rfl)) (by rfl)) (by decide) (by rfl) (by rfl))) (by rfl) (by first | exact Or.inl rfl | exact Or.inr rfl))
        (qss_one (qs_expr (qe_append (pv 4 (by rfl) (by walk_at "vis") (by decide) (by decide)) (qa (qe_tup (qa (pv 3 (by rfl) (by walk_at "vis") (by decide) (by decide)) (qa (qe_callB (cn_min (by rfl)) (by rfl) T.b_min (by decide +kernel) (qa (pe_op op_pow pe_int pe_int) (qa (pe_op op_add (pe_ix ix_tup (pe_ix ix_list (pv 4 (by rfl) (by walk_at "vis") (by decide) (by decide)) (pe_un un_neg pe_int) (fun _ _ => rfl)) pe_int (fun _ _ => rfl)) (qe_call G__law_next (hr.mono (by decide)) (by rfl) T.m__law_next T.k__law_next T.bd__law_next .nil pass0 (qa (pv 0 (by rfl) (by walk_at "vis") (by decide) (by decide)) (qa (pv 2 (by rfl) (by walk_at "vis") (by decide) (by decide)) qa_nil (by rfl)) (by rfl)) (by decide) (by rfl) (by rfl))) qa_nil (by rfl)) (by rfl)) (by decide) (by decide) (by rfl) (by rfl)) qa_nil (by rfl)) (by rfl))) qa_nil (by rfl)) (by rfl) (by rfl) (by rfl) (by rfl) (by rfl)) (by rfl)))) (by intro _; rfl))
      (qss_one (qs_ret (qe_callTy cn_tuple (by rfl) T.b_tuple (by decide +kernel) (qa (pv 4 (by rfl) (by walk_at "vis") (by decide) (by decide)) qa_nil (by rfl)) (by decide) (by decide) (by rfl) (by rfl)))))))))), ?_⟩
    try dsimp only [cxOf]
    walk_at "rd"
    refine ⟨st, 6, rfl, S, by decide, by decide, ?_⟩
    intro v1 H1 a1 b1 S1 x1
    walk_at "rs"
    refine rd_seqK (fun σ' H' => ∃ many : Int, σ' = [some (.ref st), some (.int many), none, none, none, none] ∧ 1 ≤ many ∧ many ≤ 60 ∧ StOk K H' st ∧ Ext [st] H H') ?_ ?_
    · rintro σ' H2 ⟨many, rfl, m1, m2, S2, x2⟩
      walk_at "rd"
      refine ⟨sz (by simp), fun l1 n1 => ?_⟩
      walk_at "rd"
      refine ⟨st, 3, rfl, S2.new n1, by decide, by decide, ?_⟩
      intro v3 H3 a3 b3 S3 x3
      obtain ⟨wide, e3, w3⟩ := at3 (a := 3) (b := 9) (c := 16000) a3 b3
      refine rd_ixL (x3.lst (SqL.of upd_same) (by simpa using S2.ne n1)) e3 ?_
      have xx3 : Ext [st] H H3 := (x2.trans (Ext.new n1)).trans x3
      walk_at "rd"
      refine ⟨st, 3, rfl, S3, by decide, by decide, ?_⟩
      intro v4 H4 a4 b4 S4 x4
      walk_at "rd"
      refine ⟨st, 50, rfl, S4, by decide, by decide, ?_⟩
      intro v5 H5 a5 b5 S5 x5
      have xx5 : Ext [st] H H5 := (xx3.trans x4).trans x5
      obtain ⟨ml0, ml1⟩ := mul_le (m := 2) (n := 49) a4 (by omega) a5 (by omega)
      generalize hline : v4 * v5 = line0 at ml0 ml1
      walk_at "rd"
      rw [hline]
      walk_at "rd"
      refine ⟨sz (by simp), fun t0 n6 => ?_⟩
      walk_at "rd"
      refine ⟨sz (by simp), fun fl n7 => ?_⟩
      walk_at "rd"
      refine ⟨by omega, by omega, ?_⟩
      have w3' : 1 ≤ wide ∧ wide ≤ 16000 := by omega
      have S6 := (S5.new (o := .tup [.int line0, .int 0]) n6).new (o := .lst [.ref t0]) n7
      have nft : t0 ≠ fl := ne_of_none (upd_same (H := H5) (a := t0) (o := .tup [.int line0, .int 0])) n7
      have nfs : fl ≠ st := (S5.new (o := .tup [.int line0, .int 0]) n6).ne n7
      have nts : t0 ≠ st := S5.ne n6
      have n7' : H fl = none := (xx5.trans (Ext.new n6)).free n7 (by simpa using nfs)
      have xx6 : Ext [st] H (upd (upd H5 t0 (.tup [.int line0, .int 0])) fl (.lst [.ref t0])) := (xx5.trans (Ext.new n6)).trans (Ext.new n7)
      refine for_rangeW (fun i σ' H' => ∃ (o : Option V) (line fork : Int) (ini : List (Int × Int)) (vs : List V), σ' = [some (.ref st), some (.int many), some (.int wide), some (.int line), some (.ref fl), o] ∧ StOk K H' st ∧ Ext [st] H H' ∧ H' fl = some (.lst vs) ∧
        DtAll K [st, fl] H' vs ((ini ++ [(line, fork)]).map Mt.pr) ∧ Mt.okP (-1) 0 (ini ++ [(line, fork)]) ∧ (∃ a r, ini ++ [(line, fork)] = (a, 0) :: r) ∧ ini.length = i ∧ 0 ≤ line ∧ line ≤ 98 + 1000000 * i ∧ 0 ≤ fork ∧ fork ≤ 1000000) ?_ ?_ ?_
      · refine ⟨none, line0, 0, [], [.ref t0], rfl, S6, xx6, upd_same, ?_, ⟨by omega, by omega, by decide, by decide, trivial⟩, ⟨line0, [], rfl⟩, rfl, ml0, by omega, by decide, by decide⟩
        refine .cons (.tup (SqT.of (by rw [upd_ne nft]; exact upd_same)) ?_ (.cons (.int _) (.cons (.int _) .nil))) .nil
        simp only [List.mem_cons, List.not_mem_nil, or_false, not_or]
        exact ⟨nts, nft⟩
      · rintro i σ' H6 hi ⟨o, line, fork, ini, vs, rfl, S7, x7, hfl, hda, hok, hz, hil, hl0, hl1, hf0, hf1⟩
        walk_at "rd"
        refine ⟨sz (by simp), fun l2 n8 => ?_⟩
        walk_at "rd"
        refine ⟨st, 3, rfl, S7.new n8, by decide, by decide, ?_⟩
        intro v6 H7 a6 b6 S8 x8
        rw [Mt.p6] at x8
        obtain ⟨bb, e6, w6⟩ := at3 (a := 1) (b := 5) (c := 1000000) a6 b6
        refine rd_ixL (x8.lst (SqL.of upd_same) (by simpa using S7.ne n8)) e6 ?_
        walk_at "rd"
        have w6' : 1 ≤ bb ∧ bb ≤ 1000000 := by omega
        refine ⟨st, bb, rfl, S8, by omega, by omega, ?_⟩
        intro v7 H8 a7 b7 S9 x9
        have hx8 : Ext [st] H6 H8 := ((Ext.new n8).trans x8).trans x9
        walk_at "rd"
        have hfl8 : H8 fl = some (.lst vs) := hx8 _ _ hfl (by simpa using nfs)
        refine ⟨.inl ⟨rfl, _, SqL.of hfl8⟩, ?_⟩
        walk_at "rd"
        obtain ⟨ws, v, rfl, hd1, hd2⟩ := DtAll.snoc (by rw [List.map_append] at hda; exact hda)
        obtain ⟨q, rfl, hq, hqn⟩ := hd2.pair
        refine rd_ixL (SqL.of hfl8) (atI_last ws _) ?_
        refine rd_c ?_
        have hqs : q ∉ [st] := fun z => hqn (by simp only [List.mem_cons, List.not_mem_nil, or_false] at z ⊢; exact .inl z)
        refine rd_ixT (hx8.tup hq hqs) (atI_nat (j := 1) rfl) ?_
        walk_at "rd"
        refine ⟨st, wide, rfl, S9, by omega, by omega, ?_⟩
        intro v8 H9 a8 b8 S10 x10
        have hx9 : Ext [st] H6 H9 := hx8.trans x10
        walk_at "rd"
        rw [Mt.p6]
        have hfork : ∃ fork' : Int, (if fork + v8 < 1000000 then fork + v8 else 1000000) = fork' ∧ fork ≤ fork' ∧ fork' ≤ 1000000 := by
          refine ⟨_, rfl, ?_, ?_⟩ <;> split <;> omega
        obtain ⟨fork', hfe, hf2, hf3⟩ := hfork
        rw [hfe]
        walk_at "rd"
        refine ⟨sz (by simp), fun t n9 => ?_⟩
        have hfl9 : H9 fl = some (.lst (ws ++ [.ref q])) := hx9 _ _ hfl (by simpa using nfs)
        have ntf : fl ≠ t := ne_of_none hfl9 n9
        walk_at "rd"
        have hfa : (upd H9 t (.tup [.int (line + 1 + v7), .int fork'])) fl = some (.lst (ws ++ [.ref q])) := by rw [upd_ne ntf]; exact hfl9
        refine rd_append hfa ?_ ?_
        · have e := hda.length
          simp only [List.length_map, List.length_append, List.length_singleton] at e ⊢
          have : sizeLine = 16777216 := rfl
          omega
        · have nst : st ≠ fl := Ne.symm nfs
          have nts2 : t ≠ st := S10.ne n9
          have S11 := S10.new (o := .tup [.int (line + 1 + v7), .int fork']) n9
          have n7'' : ∀ o, (upd H9 t o) fl = some (.lst (ws ++ [.ref q])) := fun o => by rw [upd_ne ntf]; exact hfl9
          refine ⟨_, line + 1 + v7, fork', ini ++ [(line, fork)], _, rfl, ?_, ?_, upd_same, ?_, Mt.okP_snoc hok (by omega) (by omega) hf2 hf3, ?_, by simp [hil], by omega, by omega, by omega, hf3⟩
          · obtain ⟨c, cs, p1, q1, r1, h1, h2, h3⟩ := S11.ex
            refine ⟨c, cs, p1, q1, r1, by rw [upd_ne nst]; exact h1, ?_, h3⟩
            have ncf : c ≠ fl := fun z => by
              subst z
              rw [n7''] at h2
              have h2' := congrArg (fun o => match o with | some (HO.lst l) => l.getLast? | _ => none) h2
              simp only [List.getLast?_append, List.getLast?_singleton, Option.some_or] at h2'
              have : (V.ref q) ∈ cs.map V.int := List.mem_of_getLast? h2'.symm
              simp at this
            rw [upd_ne ncf]; exact h2
          · exact ((x7.trans hx9).trans (Ext.new n9)).upd2 n7'
          · rw [List.map_append, List.map_append]
            have up : Ext [st, fl] H6 (upd (upd H9 t (.tup [.int (line + 1 + v7), .int fork'])) fl (.lst (ws ++ [.ref q] ++ [.ref t]))) := fun b u e n => by
              simp only [List.mem_cons, List.not_mem_nil, or_false, not_or] at n
              rw [upd_ne n.2, upd_ne (ne_of_none (hx9 b u e (by simpa using n.1)) n9)]
              exact hx9 b u e (by simpa using n.1)
            have hda' : DtAll K [st, fl] H6 (ws ++ [.ref q]) (ini.map Mt.pr ++ [Mt.pr (line, fork)]) := by rw [List.map_append] at hda; exact hda
            refine (hda'.ext up).append (.cons (.tup (SqT.of (by rw [upd_ne (Ne.symm ntf)]; exact upd_same)) ?_ (.cons (.int _) (.cons (.int _) .nil))) .nil)
            simp only [List.mem_cons, List.not_mem_nil, or_false, not_or]
            exact ⟨nts2, Ne.symm ntf⟩
          · obtain ⟨a9, r9, e9⟩ := hz
            exact ⟨a9, r9 ++ [(line + 1 + v7, fork')], by rw [e9]; rfl⟩
      · rintro σ' H6 ⟨o, line, fork, ini, vs, rfl, S7, x7, hfl, hda, hok, hz, hil, hl0, hl1, hf0, hf1⟩
        walk_at "rd"
        intro p np
        have hlen : ini.length + 1 ≤ 60 := by omega
        refine k p (ini ++ [(line, fork)]) _ ⟨by simp, by simp; omega, hok, hz⟩ (fun p9 h9 => Int.le_trans (Mt.okP_last hok p9 h9) (by omega)) (.tup (SqT.of upd_same) (by simpa using S7.ne np) ?_) (S7.new np) (x7.trans (Ext.new np))
        exact (hda.weaken (by simp)).ext (Ext.new np)
    · intro hrest
      walk_at "rs"
      refine ⟨st, 10, rfl, S1, by decide, by decide, ?_⟩
      intro v2 H2 a2 b2 S2 x2
      walk_at "rs"
      refine rd_ite2 (fun hc => ?_) (fun hc => ?_)
      · walk_at "rs"
        refine ⟨st, 2, rfl, S2, by decide, by decide, ?_⟩
        intro v3 H3 a3 b3 S3 x3
        walk_at "rs"
        refine ⟨st, 50, rfl, S3, by decide, by decide, ?_⟩
        intro v4 H4 a4 b4 S4 x4
        obtain ⟨ml0, ml1⟩ := mul_le (m := 1) (n := 49) a3 (by omega) a4 (by omega)
        walk_at "rs"
        exact hrest _ _ ⟨_, rfl, by omega, by omega, S4, ((x1.trans x2).trans x3).trans x4⟩
      · walk_at "rs"
        exact hrest _ _ ⟨_, rfl, by omega, by omega, S2, x1.trans x2⟩

noncomputable def spr_law_alike (K : PySem.W.Frag) (m : Nat) : Sp := fun vs H Q _ => ∃ (N : List Addr) (x y : V) (d e : PyData), vs = [x, y] ∧ Dt K N H x d ∧ Dt K N H y e ∧ Mt.tupOnly e = true ∧ e.depth < m ∧ ∀ H', Same H H' → Q (.bl (Mt.alikeD e d)) H'
theorem spr_law_alike_zero {K : PySem.W.Frag} {vs : List V} {H : Hp} {Q : VK} {E : XK} : ¬ spr_law_alike K 0 vs H Q E := fun ⟨_, _, _, _, _, _, _, _, _, h, _⟩ => absurd h (Nat.not_lt_zero _)
noncomputable def sp_law_alike (K : PySem.W.Frag) : Sp := spr_law_alike K 3
theorem okr_law_alike (T : Txt P K mg a) {k m : Nat} (G__law_alike : FnOk P w K mg base CX0 k a.f_law_alike a.d_law_alike ["_law_found", "_law_due_here"] (spr_law_alike K m))  : FnOk P w K mg base CX0 (k + 1) a.f_law_alike a.d_law_alike ["_law_found", "_law_due_here"] (spr_law_alike K (m + 1)) := by
  refine T.F_law_alike.ok sc_law_alike (fun vs H Q E h => ?_) (fun cdv A outer s H vs Q E hr h => ?_)
  · obtain ⟨N, x, y, d, e, rfl, _⟩ := h; rfl
  · obtain ⟨N, x, y, d, e, rfl, hx, hy, ht, hm, k⟩ := h
    refine exW ⟨_, (qss_cons (qs_if (pt_cmpR on_isN (pv 1 (by rfl) (by walk_at "vis") (by decide) (by decide)) pe_non (nomark _))
        (qss_one (qs_ret (pe_cmpR on_isN (pv 0 (by rfl) (by walk_at "vis") (by decide) (by decide)) pe_non (nomark _))))
        qss_nil)
      (qss_cons (qs_if (pt_val (qe_callB cn_isi (by rfl) T.b_isinstance (by decide +kernel) (qa (pv 1 (by rfl) (by walk_at "vis") (by decide) (by decide)) (qa (pe_bltn (by rfl) T.b_int (by decide +kernel) (v := .ty "int") rfl (by decide) (by decide)) qa_nil (by rfl)) (by rfl)) (by decide) (by decide) (by rfl) (by rfl)) (by intro _; rfl))
        (qss_one (qs_ret (pe_and (qe_callB cn_isi (by rfl) T.b_isinstance (by decide +kernel) (qa (pv 0 (by rfl) (by walk_at "vis") (by decide) (by decide)) (qa (pe_bltn (by rfl) T.b_int (by decide +kernel) (v := .ty "int") rfl (by decide) (by decide)) qa_nil (by rfl)) (by rfl)) (by decide) (by decide) (by rfl) (by rfl)) (pe_and (pe_not (qe_callB cn_isi (by rfl) T.b_isinstance (by decide +kernel) (qa (pv 0 (by rfl) (by walk_at "vis") (by decide) (by decide)) (qa (pe_bltn (by rfl) T.b_bool (by decide +kernel) (v := .ty "bool") rfl (by decide) (by decide)) qa_nil (by rfl)) (by rfl)) (by decide) (by decide) (by rfl) (by rfl))) (pe_one (pe_cmpR op_eq (pv 0 (by rfl) (by walk_at "vis") (by decide) (by decide)) (pv 1 (by rfl) (by walk_at "vis") (by decide) (by decide)) (nomark _)))))))
        qss_nil)
      (qss_cons (qs_if (pt_val (qe_callB cn_isi (by rfl) T.b_isinstance (by decide +kernel) (qa (pv 1 (by rfl) (by walk_at "vis") (by decide) (by decide)) (qa (pe_bltn (by rfl) T.b_str (by decide +kernel) (v := .ty "str") rfl (by decide) (by decide)) qa_nil (by rfl)) (by rfl)) (by decide) (by decide) (by rfl) (by rfl)) (by intro _; rfl))
        (qss_one (qs_ret (pe_and (qe_callB cn_isi (by rfl) T.b_isinstance (by decide +kernel) (qa (pv 0 (by rfl) (by walk_at "vis") (by decide) (by decide)) (qa (pe_bltn (by rfl) T.b_str (by decide +kernel) (v := .ty "str") rfl (by decide) (by decide)) qa_nil (by rfl)) (by rfl)) (by decide) (by decide) (by rfl) (by rfl)) (pe_one (pe_cmpR op_eq (pv 0 (by rfl) (by walk_at "vis") (by decide) (by decide)) (pv 1 (by rfl) (by walk_at "vis") (by decide) (by decide)) (nomark _))))))
        qss_nil)
      (qss_cons (qs_if (pw_and (pt_val (qe_callB cn_isi (by rfl) T.b_isinstance (by decide +kernel) (qa (pv 1 (by rfl) (by walk_at "vis") (by decide) (by decide)) (qa (pe_bltn (by rfl) T.b_list (by decide +kernel) (v := .ty "list") rfl (by decide) (by decide)) qa_nil (by rfl)) (by rfl)) (by decide) (by decide) (by rfl) (by rfl)) (by intro _; rfl)) (pw_and1 (pt_not (pt_val (qe_callB cn_isi (by rfl) T.b_isinstance (by decide +kernel) (qa (pv 0 (by rfl) (by walk_at "vis") (by decide) (by decide)) (qa (pe_bltn (by rfl) T.b_list (by decide +kernel) (v := .ty "list") rfl (by decide) (by decide)) qa_nil (by rfl)) (by rfl)) (by decide) (by decide) (by rfl) (by rfl)) (by intro _; rfl))))).pt
        (qss_one (qs_ret pe_bl))
        qss_nil)
      (qss_cons (qs_if (pw_and (pt_val (qe_callB cn_isi (by rfl) T.b_isinstance (by decide +kernel) (qa (pv 1 (by rfl) (by walk_at "vis") (by decide) (by decide)) (qa (pe_bltn (by rfl) T.b_tuple (by decide +kernel) (v := .ty "tuple") rfl (by decide) (by decide)) qa_nil (by rfl)) (by rfl)) (by decide) (by decide) (by rfl) (by rfl)) (by intro _; rfl)) (pw_and1 (pt_not (pt_val (qe_callB cn_isi (by rfl) T.b_isinstance (by decide +kernel) (qa (pv 0 (by rfl) (by walk_at "vis") (by decide) (by decide)) (qa (pe_bltn (by rfl) T.b_tuple (by decide +kernel) (v := .ty "tuple") rfl (by decide) (by decide)) qa_nil (by rfl)) (by rfl)) (by decide) (by decide) (by rfl) (by rfl)) (by intro _; rfl))))).pt
        (qss_one (qs_ret pe_bl))
        qss_nil)
      (qss_cons (qs_if (pt_cmpR op_ne (qe_callB cn_len (by rfl) T.b_len (by decide +kernel) (qa (pv 0 (by rfl) (by walk_at "vis") (by decide) (by decide)) qa_nil (by rfl)) (by decide) (by decide) (by rfl) (by rfl)) (qe_callB cn_len (by rfl) T.b_len (by decide +kernel) (qa (pv 1 (by rfl) (by walk_at "vis") (by decide) (by decide)) qa_nil (by rfl)) (by decide) (by decide) (by rfl) (by rfl)) (nomark _))
        (qss_one (qs_ret pe_bl))
        qss_nil)
      (qss_cons (qs_for PassesOwn.never rfl (qi_zip (by rfl) T.b_zip (qa (pv 0 (by rfl) (by walk_at "vis") (by decide) (by decide)) (qa (pv 1 (by rfl) (by walk_at "vis") (by decide) (by decide)) qa_nil (by rfl)) (by rfl)) (by rfl) (by rfl)) (pg_tup (n := 2) rfl (pgs_cons (pg_name (i := 2) (show (["_law_found", "_law_due_here", "_law_one", "_law_other"] : List Str).Nodup by decide +kernel) rfl (Or.inl rfl) (by first | exact Or.inl rfl | exact Or.inr rfl)) (pgs_cons (pg_name (i := 3) (show (["_law_found", "_law_due_here", "_law_one", "_law_other"] : List Str).Nodup by decide +kernel) rfl (Or.inl rfl) (by first | exact Or.inl rfl | exact Or.inr rfl)) pgs_nil (by rfl)) (by rfl)) (by rfl) (by rfl))
        (qss_one (qs_if (pt_not (pt_val (qe_call G__law_alike (hr.mono (Nat.le_refl _)) (by rfl) T.m__law_alike T.k__law_alike T.bd__law_alike .nil pass0 (qa (pv 2 (by rfl) (by walk_at "vis") (by decide) (by decide)) (qa (pv 3 (by rfl) (by walk_at "vis") (by decide) (by decide)) qa_nil (by rfl)) (by rfl)) (by decide) (by rfl) (by rfl)) (by intro _; rfl)))
          (qss_one (qs_ret pe_bl))
          qss_nil)) (by intro _; rfl))
      (qss_one (qs_ret pe_bl))))))))), ?_⟩
    try dsimp only [cxOf]
    have hx0 := hx
    have hy0 := hy
    have r0 := Same.refl H
    cases hy with
    | non =>
      walk_at "rd"
      have e : (decide (x = V.non)) = Mt.alikeD .none d := by cases hx <;> simp [Mt.alikeD, Mt.isNoneD]
      rw [e]
      exact k _ r0
    | int j =>
      cases hx with
      | int i =>
        walk_at "rd"
        have e : (decide (V.int i = V.int j)) = Mt.alikeD (.int j) (.int i) := by simp [Mt.alikeD, Mt.intEq]
        rw [e]
        exact k _ r0
      | non =>
        walk_at "rd"
        exact k _ r0
      | bl b =>
        walk_at "rd"
        exact k _ r0
      | str t =>
        walk_at "rd"
        exact k _ r0
      | tup q n r =>
        walk_at "rd"
        exact k _ r0
      | lst q n r =>
        walk_at "rd"
        exact k _ r0
      | dk0 q n =>
        walk_at "rd"
        exact k _ r0
      | dk1 q n r =>
        walk_at "rd"
        exact k _ r0
    | str t =>
      cases hx with
      | str u =>
        walk_at "rd"
        have e : (decide (V.str u = V.str t)) = Mt.alikeD (.str t) (.str u) := by simp [Mt.alikeD, Mt.strEq]
        rw [e]
        exact k _ r0
      | non =>
        walk_at "rd"
        exact k _ r0
      | bl b =>
        walk_at "rd"
        exact k _ r0
      | int i =>
        walk_at "rd"
        exact k _ r0
      | tup q n r =>
        walk_at "rd"
        exact k _ r0
      | lst q n r =>
        walk_at "rd"
        exact k _ r0
      | dk0 q n =>
        walk_at "rd"
        exact k _ r0
      | dk1 q n r =>
        walk_at "rd"
        exact k _ r0
    | tup q n r =>
      rename_i b ys es
      cases hx with
      | tup q2 n2 r2 =>
        rename_i a2 xs ds
        have lx := r2.length
        have ly := r.length
        walk_at "rd"
        refine rd_ite2 (fun c1 => ?_) (fun c1 => ?_)
        · walk_at "rd"
          have e : Mt.alikeD (.tuple es) (.tuple ds) = false := by
            cases h : Mt.alikeD (.tuple es) (.tuple ds) with
            | false => rfl
            | true =>
              have h2 : Mt.alikeAll es ds = true := by simpa [Mt.alikeD, Mt.subs] using h
              have h3 := Mt.alikeAll_len h2
              have h4 : xs.length = ys.length := by omega
              rw [h4] at c1
              simp at c1
          rw [← e]
          exact k _ r0
        · have hl : xs.length = ys.length := by
            have h4 : V.int xs.length = V.int ys.length := by simpa using c1
            injection h4 with h5
            omega
          walk_at "rd"
          refine ⟨_, _, rfl, ⟨xs, q2⟩, ⟨ys, q⟩, ?_⟩
          have hall : Mt.tupOnlyAll es = true := by simpa [Mt.tupOnly] using ht
          have hdep : PyData.depthAll es < m := by
            have : (PyData.tuple es).depth = PyData.depthAll es + 1 := rfl
            omega
          have ea : Mt.alikeD (.tuple es) (.tuple ds) = Mt.alikeAll es ds := by simp [Mt.alikeD, Mt.subs]
          refine for_zipW (xs := xs) (ys := ys) hl (fun i σ' H' => ∃ o2 o3 : Option V, σ' = [some (.ref a2), some (.ref b), o2, o3] ∧ Same H H' ∧ ∀ (j : Nat) (d e : PyData), j < i → ds[j]? = some d → es[j]? = some e → Mt.alikeD e d = true) ?_ ?_ ?_ ?_
          · exact ⟨none, none, rfl, r0, fun j d e h => absurd h (Nat.not_lt_zero _)⟩
          · rintro i σ' H1 hi ⟨o2, o3, rfl, s1, _⟩
            exact ⟨s1.tupS q2, s1.tupS q⟩
          · rintro i x1 y1 p σ' H1 h1 h2 hn ⟨o2, o3, rfl, s1, al⟩
            obtain ⟨d1, f1, f2⟩ := r2.get h1
            obtain ⟨e1, g1, g2⟩ := r.get h2
            have s2 : Same H (upd H1 p (.tup [x1, y1])) := s1.trans (Same.upd hn)
            have me := List.mem_of_getElem? g1
            walk_at "rd"
            refine ⟨N, x1, y1, d1, e1, rfl, f2.ext (Ext.same s2), g2.ext (Ext.same s2), Mt.tupOnly_at hall me, Nat.lt_of_le_of_lt (Mt.depth_at (Nat.le_refl _) me) hdep, fun H2 s3 => ?_⟩
            cases hal : Mt.alikeD e1 d1 with
            | false =>
              walk_at "rd"
              have e : Mt.alikeD (.tuple es) (.tuple ds) = false := ea.trans (Mt.alikeAll_false f1 g1 hal)
              rw [← e]
              exact k _ (s2.trans s3)
            | true =>
              walk_at "rd"
              refine ⟨some x1, some y1, rfl, s2.trans s3, fun j d e hj h3 h4 => ?_⟩
              by_cases hji : j = i
              · subst hji
                rw [f1] at h3; rw [g1] at h4
                cases h3; cases h4
                exact hal
              · exact al j d e (by omega) h3 h4
          · rintro σ' H1 ⟨o2, o3, rfl, s1, al⟩
            walk_at "rd"
            have e : Mt.alikeD (.tuple es) (.tuple ds) = true := ea.trans (Mt.alikeAll_true (by omega) fun i d e h1 h2 => al i d e (by
              have := (List.getElem?_eq_some_iff.mp h1).1
              omega) h1 h2)
            rw [← e]
            exact k _ s1
      | non =>
        walk_at "rd"
        exact k _ r0
      | bl b =>
        walk_at "rd"
        exact k _ r0
      | int i =>
        walk_at "rd"
        exact k _ r0
      | str t =>
        walk_at "rd"
        exact k _ r0
      | lst q n r =>
        walk_at "rd"
        exact k _ r0
      | dk0 q n =>
        walk_at "rd"
        exact k _ r0
      | dk1 q n r =>
        walk_at "rd"
        exact k _ r0
    | bl b => cases ht
    | lst q n r => cases ht
    | dk0 q n => cases ht
    | dk1 q n r => cases ht

theorem rec_law_alike (T : Txt P K mg a) : ∀ m, FnOk P w K mg base CX0 m a.f_law_alike a.d_law_alike ["_law_found", "_law_due_here"] (spr_law_alike K m)
  | 0 => ⟨fun vs H Q E h => absurd h (spr_law_alike_zero), fun A outer s H args us vs Q E _ _ _ _ h => absurd h (spr_law_alike_zero)⟩
  | m + 1 => okr_law_alike T (rec_law_alike T m)
theorem ok_law_alike (T : Txt P K mg a) : FnOk P w K mg base CX0 3 a.f_law_alike a.d_law_alike ["_law_found", "_law_due_here"] (sp_law_alike K) := rec_law_alike T 3
noncomputable def sp_law_error (K : PySem.W.Frag) (a : Adr) : Sp := fun vs H Q _ => ∃ (N : List Addr) (hl : Addr) (v u w : V) (d e g : PyData), vs = [.ref a.f_extended, .ref hl] ∧ H hl = some (.lst [v, u, w]) ∧ Dt K N H v d ∧ Dt K N H u e ∧ Dt K N H w g ∧
  ((Mt.histD d = false ∧ ∀ x H', Same H H' → H' x = some (.ext (ExcIs x (.ref a.C_NoHistory) none)) → Q (.ref x) H') ∨
   (∃ (hs : List (Int × Int)) (ll lf : Int) (C : Addr) (s : Str), d = .tuple ((hs ++ [(ll, lf)]).map Mt.pr) ∧ Mt.HOK (hs ++ [(ll, lf)]) ∧ Ref a ll lf (hs.length + 1) e g C s ∧
     ∀ x dx H', Same H H' → H' x = some (.ext (ExcIs x (.ref C) (some dx))) → H' dx = some (.xd [("what", .str s)]) → Q (.ref x) H'))
theorem ok_law_error (T : Txt P K mg a) (G_extended : FnOk P w K mg base (CX1 P w) 7 a.f_extended a.d_extended ["history", "line", "fork"] (sp_extended K a)) : FnOk P w K mg base CX0 8 a.f_law_error a.d_law_error ["_law_call", "_law_handed"] (sp_law_error K a) := by
  refine T.F_law_error.ok sc_law_error (fun vs H Q E h => ?_) (fun cdv A outer s H vs Q E hr h => ?_)
  · obtain ⟨N, hl, v, u, w, d, e, g, rfl, _⟩ := h; rfl
  · obtain ⟨N, hl, v, u, w', d, e, g, rfl, hq, hd, he, hg, k⟩ := h
    refine exW ⟨_, (qss_cons (qs_set (i := 2) sc_law_error.nd rfl (Or.inl rfl) pe_non (by rfl) (by first | exact Or.inl rfl | exact Or.inr rfl))
      (qss_cons (qs_try (i := 3) (c := "LineError") sc_law_error.nd rfl rfl (by rfl) T.mC_LineError rfl rfl rfl (fun _ _ XR hx =>
        (qss_one (qs_if (pt_cmpR op_eq (qe_callB (cn_lenK (K := K) (by rfl)) (by rfl) T.b_len (by decide +kernel) (qa (pv 1 (by rfl) (by walk_at "vis") (by decide) (by decide)) qa_nil (by rfl)) (by decide) (by decide) (by rfl) (by rfl)) pe_int (nomark _))
          qss_never
          (qss_one (qs_if (pt_cmpR op_eq (qe_callB (cn_lenK (K := K) (by rfl)) (by rfl) T.b_len (by decide +kernel) (qa (pv 1 (by rfl) (by walk_at "vis") (by decide) (by decide)) qa_nil (by rfl)) (by decide) (by decide) (by rfl) (by rfl)) pe_int (nomark _))
            qss_never
            (qss_one (qs_if (pt_cmpR op_eq (qe_callB (cn_lenK (K := K) (by rfl)) (by rfl) T.b_len (by decide +kernel) (qa (pv 1 (by rfl) (by walk_at "vis") (by decide) (by decide)) qa_nil (by rfl)) (by decide) (by decide) (by rfl) (by rfl)) pe_int (nomark _))
              (qss_one (qs_expr (qe_callV (i := 0) G_extended (hr.mono (by decide)) (by rfl) (by walk_at "vis") T.k_extended T.bd_extended .nil hx (qa (pe_ix (ix_listK (K := K) (by rfl)) (pv 1 (by rfl) (by walk_at "vis") (by decide) (by decide)) pe_int (fun _ _ => rfl)) (qa (pe_ix (ix_listK (K := K) (by rfl)) (pv 1 (by rfl) (by walk_at "vis") (by decide) (by decide)) pe_int (fun _ _ => rfl)) (qa (pe_ix (ix_listK (K := K) (by rfl)) (pv 1 (by rfl) (by walk_at "vis") (by decide) (by decide)) pe_int (fun _ _ => rfl)) qa_nil (by rfl)) (by rfl)) (by rfl)) (by decide) (by decide) (by rfl) (by rfl)) (by rfl)))
              (qss_one (qs_if (pt_cmpR op_eq (qe_callB (cn_lenK (K := K) (by rfl)) (by rfl) T.b_len (by decide +kernel) (qa (pv 1 (by rfl) (by walk_at "vis") (by decide) (by decide)) qa_nil (by rfl)) (by decide) (by decide) (by rfl) (by rfl)) pe_int (nomark _))
                qss_never
                qss_never))))))))) (fun _ =>
        (qss_one (qs_set (i := 2) sc_law_error.nd rfl (Or.inl rfl) (pv 3 (by rfl) (by walk_at "vis") (by decide) (by decide)) (by rfl) (by first | exact Or.inl rfl | exact Or.inr rfl)))) (by decide))
      (qss_one (qs_ret (pv 2 (by rfl) (by walk_at "vis") (by decide) (by decide)))))), ?_⟩
    try dsimp only [cxOf]
    have hq' : SqL K H hl [v, u, w'] := SqL.of hq
    walk_at "rd"
    rcases k with ⟨hh, k⟩ | ⟨hs, ll, lf, C, s', rfl, ho, r, k⟩
    · refine ⟨N, v, u, w', d, e, g, rfl, hd, he, hg, .inl ⟨hh, fun H1 s1 => ⟨T.ex_NoHistory_LineError, fun x hx => ?_⟩⟩⟩
      walk_at "rd"
      exact k x _ (s1.trans (Same.upd hx)) upd_same
    · have ex : PySem.W.exmOne K (.ref C) (.ref a.C_LineError) = some true := by
        cases r with
        | line _ => exact T.ex_NoCount_LineError
        | fork _ _ => exact T.ex_NoCount_LineError
        | full _ _ _ => exact T.ex_Full_LineError
      refine ⟨N, v, u, w', _, e, g, rfl, hd, he, hg, .inr ⟨hs, ll, lf, rfl, ho, .inl ⟨C, s', r, fun H1 s1 dx hdx => ⟨ex, fun x hx => ?_⟩⟩⟩⟩
      have nx : dx ≠ x := fun z => by rw [z, upd_same] at hx; cases hx
      walk_at "rd"
      exact k x dx _ ((s1.trans (Same.upd hdx)).trans (Same.upd hx)) upd_same (by rw [upd_ne nx]; exact upd_same)

noncomputable def sp_law_names (K : PySem.W.Frag) (a : Adr) : Sp := fun vs H Q _ => ∃ (x C : Addr) (dx : Option Addr) (nm : Str), vs = [.ref x] ∧ H x = some (.ext (ExcIs x (.ref C) dx)) ∧ ((C = a.C_NoHistory ∧ nm = "NoHistory") ∨ (C = a.C_NoCount ∧ nm = "NoCount") ∨ (C = a.C_Full ∧ nm = "Full")) ∧
  ∀ l H', Same H H' → H' l = some (.lst [.str nm]) → Q (.ref l) H'
theorem ok_law_names (T : Txt P K mg a)  : FnOk P w K mg base CX0 1 a.f_law_names a.d_law_names ["_law_error_here"] (sp_law_names K a) := by
  refine T.F_law_names.ok sc_law_names (fun vs H Q E h => ?_) (fun cdv A outer s H vs Q E hr h => ?_)
  · obtain ⟨x, C, dx, nm, rfl, _⟩ := h; rfl
  · obtain ⟨x, C, dx, nm, rfl, ex, c, k⟩ := h
    refine exW ⟨_, (qss_cons (qs_set (i := 1) sc_law_names.nd rfl (Or.inl rfl) (qe_lstA (qa (qe_callB cn_isiX (by rfl) T.b_isinstance (by decide +kernel) (qa (pv 0 (by rfl) (by walk_at "vis") (by decide) (by decide)) (qa (pe_glob (v := .ref a.C_NoHistory) (by rfl) T.mC_NoHistory rfl (by decide)) qa_nil (by rfl)) (by rfl)) (by decide) (by decide) (by rfl) (by rfl)) (qa (qe_callB cn_isiX (by rfl) T.b_isinstance (by decide +kernel) (qa (pv 0 (by rfl) (by walk_at "vis") (by decide) (by decide)) (qa (pe_glob (v := .ref a.C_NoPlace) (by rfl) T.mC_NoPlace rfl (by decide)) qa_nil (by rfl)) (by rfl)) (by decide) (by decide) (by rfl) (by rfl)) (qa (qe_callB cn_isiX (by rfl) T.b_isinstance (by decide +kernel) (qa (pv 0 (by rfl) (by walk_at "vis") (by decide) (by decide)) (qa (pe_glob (v := .ref a.C_NoCount) (by rfl) T.mC_NoCount rfl (by decide)) qa_nil (by rfl)) (by rfl)) (by decide) (by decide) (by rfl) (by rfl)) qa_nil (by rfl)) (by rfl)) (by rfl))) (by rfl) (by first | exact Or.inl rfl | exact Or.inr rfl))
      (qss_cons (qs_set (i := 1) sc_law_names.nd rfl (Or.inl rfl) (pe_op op_catA (pv 1 (by rfl) (by walk_at "vis") (by decide) (by decide)) (qe_lstA (qa (qe_callB cn_isiX (by rfl) T.b_isinstance (by decide +kernel) (qa (pv 0 (by rfl) (by walk_at "vis") (by decide) (by decide)) (qa (pe_glob (v := .ref a.C_Full) (by rfl) T.mC_Full rfl (by decide)) qa_nil (by rfl)) (by rfl)) (by decide) (by decide) (by rfl) (by rfl)) (qa (qe_callB cn_isiX (by rfl) T.b_isinstance (by decide +kernel) (qa (pv 0 (by rfl) (by walk_at "vis") (by decide) (by decide)) (qa (pe_glob (v := .ref a.C_TooEarly) (by rfl) T.mC_TooEarly rfl (by decide)) qa_nil (by rfl)) (by rfl)) (by decide) (by decide) (by rfl) (by rfl)) (qa (qe_callB cn_isiX (by rfl) T.b_isinstance (by decide +kernel) (qa (pv 0 (by rfl) (by walk_at "vis") (by decide) (by decide)) (qa (pe_glob (v := .ref a.C_TooOld) (by rfl) T.mC_TooOld rfl (by decide)) qa_nil (by rfl)) (by rfl)) (by decide) (by decide) (by rfl) (by rfl)) qa_nil (by rfl)) (by rfl)) (by rfl)))) (by rfl) (by first | exact Or.inl rfl | exact Or.inr rfl))
      (qss_cons (qs_set (i := 1) sc_law_names.nd rfl (Or.inl rfl) (pe_op op_catA (pv 1 (by rfl) (by walk_at "vis") (by decide) (by decide)) (qe_lstA (qa (qe_callB cn_isiX (by rfl) T.b_isinstance (by decide +kernel) (qa (pv 0 (by rfl) (by walk_at "vis") (by decide) (by decide)) (qa (pe_glob (v := .ref a.C_Gap) (by rfl) T.mC_Gap rfl (by decide)) qa_nil (by rfl)) (by rfl)) (by decide) (by decide) (by rfl) (by rfl)) (qa (qe_callB cn_isiX (by rfl) T.b_isinstance (by decide +kernel) (qa (pv 0 (by rfl) (by walk_at "vis") (by decide) (by decide)) (qa (pe_glob (v := .ref a.C_NoRow) (by rfl) T.mC_NoRow rfl (by decide)) qa_nil (by rfl)) (by rfl)) (by decide) (by decide) (by rfl) (by rfl)) (qa (qe_callB cn_isiX (by rfl) T.b_isinstance (by decide +kernel) (qa (pv 0 (by rfl) (by walk_at "vis") (by decide) (by decide)) (qa (pe_glob (v := .ref a.C_Elder) (by rfl) T.mC_Elder rfl (by decide)) qa_nil (by rfl)) (by rfl)) (by decide) (by decide) (by rfl) (by rfl)) qa_nil (by rfl)) (by rfl)) (by rfl)))) (by rfl) (by first | exact Or.inl rfl | exact Or.inr rfl))
      (qss_cons (qs_setLA (i := 2) sc_law_names.nd rfl (Or.inl rfl) (qa pe_str (qa pe_str (qa pe_str (qa pe_str (qa pe_str (qa pe_str (qa pe_str (qa pe_str (qa pe_str qa_nil (by rfl)) (by rfl)) (by rfl)) (by rfl)) (by rfl)) (by rfl)) (by rfl)) (by rfl)) (by rfl)) (by first | exact Or.inl rfl | exact Or.inr rfl))
      (qss_one (qs_ret (by
        refine' pe_comp (NC := ["_law_name", "_law_so"]) (fr := [none, none]) ?B3 rfl ?hi3 ?hg3 ?ht3 ?he3 (by intro _; rfl)
        case B3 => exact ⟨rfl, rfl, by decide +kernel, by decide +kernel, rfl, ⟨trivial, trivial, trivial⟩⟩
        case hi3 => exact (qi_zipL (by rfl) T.b_zip (qa (pv 2 (by rfl) (by walk_at "vis") (by decide) (by decide)) (qa (pv 1 (by rfl) (by walk_at "vis") (by decide) (by decide)) qa_nil (by rfl)) (by rfl)) (by rfl) (by rfl))
        case hg3 => intro _ _ _; exact (pg_tupK (K := K) (n := 2) (by rfl) rfl (pgs_cons (pg_name (i := 0) (show (["_law_name", "_law_so"] : List Str).Nodup by decide +kernel) rfl (Or.inl rfl) (by first | exact Or.inl rfl | exact Or.inr rfl)) (pgs_cons (pg_name (i := 1) (show (["_law_name", "_law_so"] : List Str).Nodup by decide +kernel) rfl (Or.inl rfl) (by first | exact Or.inl rfl | exact Or.inr rfl)) pgs_nil (by rfl)) (by rfl)) (by rfl) (by rfl))
        case ht3 => intro _ _ _; exact (pf_one (pt_val (pv 1 (by rfl) (by walk_at "vis") (by decide) (by decide)) (by intro _; rfl)))
        case he3 => intro _ _ _; exact (pv 0 (by rfl) (by walk_at "vis") (by decide) (by decide))))))))), ?_⟩
    try dsimp only [cxOf]
    obtain ⟨b1, b2, b3, b4, b5, b6, b7, b8, b9, g, i1, i2, i3, i4, i5, i6, i7, i8, i9, hbs⟩ : ∃ b1 b2 b3 b4 b5 b6 b7 b8 b9 : Bool, XG K C ∧ PySem.W.kitOne K (.ref C) (.ref a.C_NoHistory) = some b1 ∧ PySem.W.kitOne K (.ref C) (.ref a.C_NoPlace) = some b2 ∧ PySem.W.kitOne K (.ref C) (.ref a.C_NoCount) = some b3 ∧ PySem.W.kitOne K (.ref C) (.ref a.C_Full) = some b4 ∧ PySem.W.kitOne K (.ref C) (.ref a.C_TooEarly) = some b5 ∧ PySem.W.kitOne K (.ref C) (.ref a.C_TooOld) = some b6 ∧ PySem.W.kitOne K (.ref C) (.ref a.C_Gap) = some b7 ∧ PySem.W.kitOne K (.ref C) (.ref a.C_NoRow) = some b8 ∧ PySem.W.kitOne K (.ref C) (.ref a.C_Elder) = some b9 ∧
        ((nm = "NoHistory" ∧ [b1, b2, b3, b4, b5, b6, b7, b8, b9] = [true, false, false, false, false, false, false, false, false]) ∨ (nm = "NoCount" ∧ [b1, b2, b3, b4, b5, b6, b7, b8, b9] = [false, false, true, false, false, false, false, false, false]) ∨ (nm = "Full" ∧ [b1, b2, b3, b4, b5, b6, b7, b8, b9] = [false, false, false, true, false, false, false, false, false])) := by
      rcases c with ⟨rfl, rfl⟩ | ⟨rfl, rfl⟩ | ⟨rfl, rfl⟩
      · exact ⟨_, _, _, _, _, _, _, _, _, T.xg_NoHistory, T.is_NoHistory_NoHistory, T.is_NoHistory_NoPlace, T.is_NoHistory_NoCount, T.is_NoHistory_Full, T.is_NoHistory_TooEarly, T.is_NoHistory_TooOld, T.is_NoHistory_Gap, T.is_NoHistory_NoRow, T.is_NoHistory_Elder, .inl ⟨rfl, rfl⟩⟩
      · exact ⟨_, _, _, _, _, _, _, _, _, T.xg_NoCount, T.is_NoCount_NoHistory, T.is_NoCount_NoPlace, T.is_NoCount_NoCount, T.is_NoCount_Full, T.is_NoCount_TooEarly, T.is_NoCount_TooOld, T.is_NoCount_Gap, T.is_NoCount_NoRow, T.is_NoCount_Elder, .inr (.inl ⟨rfl, rfl⟩)⟩
      · exact ⟨_, _, _, _, _, _, _, _, _, T.xg_Full, T.is_Full_NoHistory, T.is_Full_NoPlace, T.is_Full_NoCount, T.is_Full_Full, T.is_Full_TooEarly, T.is_Full_TooOld, T.is_Full_Gap, T.is_Full_NoRow, T.is_Full_Elder, .inr (.inr ⟨rfl, rfl⟩)⟩
    have ty : ∀ {H' : Hp}, Same H H' → TyX K H' (.ref x) (.ref C) := fun s => .exc (s _ _ ex) g
    walk_at "rd"
    refine rd_isiX (ty (Same.refl _)) rfl i1 ?_
    walk_at "rd"
    refine rd_isiX (ty (Same.refl _)) rfl i2 ?_
    walk_at "rd"
    refine rd_isiX (ty (Same.refl _)) rfl i3 ?_
    walk_at "rd"
    refine ⟨sz (by simp), fun l1 H1 n1 s1 e1 => ?_⟩
    walk_at "rd"
    refine rd_isiX (ty s1) rfl i4 ?_
    walk_at "rd"
    refine rd_isiX (ty s1) rfl i5 ?_
    walk_at "rd"
    refine rd_isiX (ty s1) rfl i6 ?_
    walk_at "rd"
    refine ⟨sz (by simp), fun l2 H2 n2 s2 e2 => ?_⟩
    refine rd_catA (s2 _ _ e1) e2 (sz (by simp)) fun l3 H3 n3 s3 e3 => ?_
    have t3 := (s1.trans s2).trans s3
    walk_at "rd"
    refine rd_isiX (ty t3) rfl i7 ?_
    walk_at "rd"
    refine rd_isiX (ty t3) rfl i8 ?_
    walk_at "rd"
    refine rd_isiX (ty t3) rfl i9 ?_
    walk_at "rd"
    refine ⟨sz (by simp), fun l4 H4 n4 s4 e4 => ?_⟩
    refine rd_catA (s4 _ _ e3) e4 (sz (by simp)) fun l5 H5 n5 s5 e5 => ?_
    walk_at "rd"
    refine ⟨sz (by simp), fun l6 H6 n6 s6 e6 => ?_⟩
    have e5' := s6 _ _ e5
    walk_at "rd"
    refine ⟨l6, l5, rfl, ⟨_, SqL.of e6⟩, ⟨_, SqL.of e5'⟩, ?_⟩
    intro acc hacc nka
    have t6 : Same H H6 := ((t3.trans s4).trans s5).trans s6
    have nac6 : l6 ≠ acc := fun z => by rw [← z, e6] at hacc; cases hacc
    have nac5 : l5 ≠ acc := fun z => by rw [← z, e5'] at hacc; cases hacc
    refine comp_byF 9 (by decide) (fun i vs σc H' => Same H6 H' ∧ (∃ o1 o2, σc = [o1, o2]) ∧ vs = ((["NoHistory", "NoPlace", "NoCount", "Full", "TooEarly", "TooOld", "Gap", "NoRow", "Elder"].zip [b1, b2, b3, b4, b5, b6, b7, b8, b9]).take i).filterMap fun p => if p.2 then some (V.str (Str.ofString p.1)) else none) ?_ ?_ ?_
    · exact ⟨(Same.refl H6).upd2 hacc, ⟨none, none, rfl⟩, by simp⟩
    · rintro i vs σc H7 hi hl7 ha7 ⟨s7, ⟨o1, o2, rfl⟩, rfl⟩
      have q6 := SqL.of (K := K) (s7 _ _ e6)
      have q5 := SqL.of (K := K) (s7 _ _ e5')
      generalize hss : ["NoHistory", "NoPlace", "NoCount", "Full", "TooEarly", "TooOld", "Gap", "NoRow", "Elder"] = ss at *
      generalize hbl : [b1, b2, b3, b4, b5, b6, b7, b8, b9] = bs at *
      have w6 : SqL K H7 l6 (ss.map fun s => V.str (Str.ofString s)) := by rw [← hss]; exact q6
      have w5 : SqL K H7 l5 (bs.map V.bl) := by rw [← hbl]; exact q5
      obtain ⟨s', hs'⟩ : ∃ s', ss[i]? = some s' := ⟨_, List.getElem?_eq_getElem (by rw [← hss]; exact hi)⟩
      obtain ⟨b', hb'⟩ : ∃ b', bs[i]? = some b' := ⟨_, List.getElem?_eq_getElem (by rw [← hbl]; exact hi)⟩
      have hz : (ss.zip bs)[i]? = some (s', b') := by rw [List.getElem?_zip_eq_some]; exact ⟨hs', hb'⟩
      have tk : (ss.zip bs).take (i + 1) = (ss.zip bs).take i ++ [(s', b')] := by rw [List.take_succ, hz]; rfl
      have g6 : (ss.map fun s => V.str (Str.ofString s))[i]? = some (V.str (Str.ofString s')) := by rw [List.getElem?_map, hs']; rfl
      have g5 : (bs.map V.bl)[i]? = some (V.bl b') := by rw [List.getElem?_map, hb']; rfl
      refine ⟨⟨_, _, _, _, w6, w5, g6, g5⟩, ?_⟩
      rintro y H8 ⟨t, y1, y2, ht, hy1, hy2, rfl, rfl⟩ R S hR hS
      have ey1 := hy1 _ w6
      have ey2 := hy2 _ w5
      rw [g6] at ey1; cases ey1
      rw [g5] at ey2; cases ey2
      have nt : acc ≠ t := fun z => by rw [z, ht] at ha7; cases ha7
      have s78 : Same H7 (upd H7 t (.tup [.str (Str.ofString s'), .bl b'])) := Same.upd ht
      walk_at "rd"
      cases b' with
      | true =>
        walk_at "rd"
        refine hR _ _ _ (by rw [upd_ne nt]; exact ha7) ⟨(s7.trans s78).upd2 hacc, ⟨_, _, rfl⟩, ?_⟩
        rw [tk, List.filterMap_append]; rfl
      | false =>
        walk_at "rd"
        refine hS _ _ (by rw [upd_ne nt]; exact ha7) ⟨s7.trans s78, ⟨_, _, rfl⟩, ?_⟩
        rw [tk, List.filterMap_append]; simp
    · rintro vs σc H7 hl7 ha7 ⟨s7, _, rfl⟩
      refine ⟨⟨_, _, SqL.of (s7 _ _ e6), SqL.of (s7 _ _ e5'), .inl (by simp)⟩, ?_⟩
      walk_at "rd"
      refine k acc H7 (t6.trans s7) ?_
      rw [ha7]
      rcases hbs with ⟨rfl, z⟩ | ⟨rfl, z⟩ | ⟨rfl, z⟩ <;> (simp only [List.cons.injEq, and_true] at z; obtain ⟨rfl, rfl, rfl, rfl, rfl, rfl, rfl, rfl, rfl⟩ := z; rfl)

noncomputable def sp_law_refused (K : PySem.W.Frag) (a : Adr) : Sp := fun vs H Q _ => ∃ (N : List Addr) (hl : Addr) (v u w : V) (d e g : PyData) (nm : Str), vs = [.ref a.f_extended, .ref hl, .str nm] ∧ H hl = some (.lst [v, u, w]) ∧ Dt K N H v d ∧ Dt K N H u e ∧ Dt K N H w g ∧
  ((Mt.histD d = false ∧ nm = "NoHistory" ∧ ∀ x H', Same H H' → Q (.ref x) H') ∨
   (∃ (hs : List (Int × Int)) (ll lf : Int) (C : Addr) (s : Str), d = .tuple ((hs ++ [(ll, lf)]).map Mt.pr) ∧ Mt.HOK (hs ++ [(ll, lf)]) ∧ Ref a ll lf (hs.length + 1) e g C s ∧ ((C = a.C_NoCount ∧ nm = "NoCount") ∨ (C = a.C_Full ∧ nm = "Full")) ∧
     ∀ x dx H', Same H H' → H' x = some (.ext (ExcIs x (.ref C) (some dx))) → H' dx = some (.xd [("what", .str s)]) → Q (.ref x) H'))
theorem ok_law_refused (T : Txt P K mg a) (G__law_error : FnOk P w K mg base CX0 8 a.f_law_error a.d_law_error ["_law_call", "_law_handed"] (sp_law_error K a)) (G__law_names : FnOk P w K mg base CX0 1 a.f_law_names a.d_law_names ["_law_error_here"] (sp_law_names K a)) : FnOk P w K mg base CX0 9 a.f_law_refused a.d_law_refused ["_law_call", "_law_handed", "_law_name"] (sp_law_refused K a) := by
  refine T.F_law_refused.ok sc_law_refused (fun vs H Q E h => ?_) (fun cdv A outer s H vs Q E hr h => ?_)
  · obtain ⟨N, hl, v, u, w, d, e, g, nm, rfl, _⟩ := h; rfl
  · obtain ⟨N, hl, v, u, w', d, e, g, nm, rfl, hq, hd, he, hg, k⟩ := h
    refine exW ⟨_, (qss_cons (qs_set (i := 3) sc_law_refused.nd rfl (Or.inl rfl) pe_non (by rfl) (by first | exact Or.inl rfl | exact Or.inr rfl))
      (qss_cons (qs_for PassesOwn.never rfl (qi_range1 (by rfl) T.b_range (qa pe_int qa_nil (by rfl)) (by rfl)) (pg_name (i := 4) sc_law_refused.nd rfl (Or.inl rfl) (by first | exact Or.inl rfl | exact Or.inr rfl))
        (qss_cons (qs_set (i := 3) sc_law_refused.nd rfl (Or.inl rfl) (qe_call G__law_error (hr.mono (by decide)) (by rfl) T.m__law_error T.k__law_error T.bd__law_error .nil pass0 (qa (pv 0 (by rfl) (by walk_at "vis") (by decide) (by decide)) (qa (pv 1 (by rfl) (by walk_at "vis") (by decide) (by decide)) qa_nil (by rfl)) (by rfl)) (by decide) (by rfl) (by rfl)) (by rfl) (by first | exact Or.inl rfl | exact Or.inr rfl))
        (qss_one (qs_if (pw_or (pt_cmpR on_isN (pv 3 (by rfl) (by walk_at "vis") (by decide) (by decide)) pe_non (nomark _)) (pw_or (pt_not (pt_val (qe_callB cn_isiX (by rfl) T.b_isinstance (by decide +kernel) (qa (pv 3 (by rfl) (by walk_at "vis") (by decide) (by decide)) (qa (pe_bltn (by rfl) T.b_ValueError (by decide +kernel) (v := .ty "ValueError") rfl (by decide) (by decide)) qa_nil (by rfl)) (by rfl)) (by decide) (by decide) (by rfl) (by rfl)) (by intro _; rfl))) (pw_or1 (pt_cmpR (on_neD hr) (qe_call G__law_names (hr.mono (by decide)) (by rfl) T.m__law_names T.k__law_names T.bd__law_names .nil pass0 (qa (pv 3 (by rfl) (by walk_at "vis") (by decide) (by decide)) qa_nil (by rfl)) (by decide) (by rfl) (by rfl)) (qe_lstA (qa (pv 2 (by rfl) (by walk_at "vis") (by decide) (by decide)) qa_nil (by rfl))) (nomark _))))).pt
          (qss_one (qs_ret pe_non))
          qss_nil))) (by intro _; rfl))
      (qss_one (qs_ret (pv 3 (by rfl) (by walk_at "vis") (by decide) (by decide)))))), ?_⟩
    try dsimp only [cxOf]
    have one : ∀ {H' : Hp} {p : Addr} {s : Str}, H' p = some (.lst [.str s]) → Dt K [] H' (.ref p) (.list [.str s]) := fun z => .lst (SqL.of z) (by simp) (.cons (.str _) .nil)
    have shp : SeqAt.shaped (.list [.str (Str.ofString "NoHistory")]) = true ∧ SeqAt.shaped (.list [.str (Str.ofString "NoCount")]) = true ∧ SeqAt.shaped (.list [.str (Str.ofString "Full")]) = true := by decide +kernel
    have same1 : ∀ s : Str, PyData.eqv (.list [.str s]) (.list [.str s]) = true := fun s => by simp [PyData.eqv, PyData.eqvAll]
    walk_at "rd"
    refine ⟨by decide, by decide, ?_⟩
    rcases k with ⟨hh, rfl, k⟩ | ⟨hs, ll, lf, C, s', rfl, ho, r, hn, k⟩
    · refine for_rangeW (fun i σ' H' => ∃ oc ot : Option V, σ' = [some (.ref a.f_extended), some (.ref hl), some (.str "NoHistory"), oc, ot] ∧ Same H H' ∧ (0 < i → ∃ x, oc = some (.ref x))) ?_ ?_ ?_
      · exact ⟨_, none, rfl, Same.refl _, fun z => absurd z (Nat.lt_irrefl _)⟩
      · rintro i0 σ' H1 hi ⟨oc, ot, rfl, s1, _⟩
        walk_at "rd"
        refine ⟨N, hl, v, u, w', d, e, g, rfl, s1 _ _ hq, hd.ext (Ext.same s1), he.ext (Ext.same s1), hg.ext (Ext.same s1), .inl ⟨hh, fun x H2 s2 ex => ?_⟩⟩
        walk_at "rd"
        refine rd_isiX (.exc ex T.xg_NoHistory) rfl T.is_NoHistory_ValueError ?_
        walk_at "rd"
        refine ⟨x, _, _, _, rfl, ex, .inl ⟨rfl, rfl⟩, fun l H3 s3 e3 => ?_⟩
        walk_at "rd"
        refine ⟨sz (by simp), fun l4 H4 n4 s4 e4 => ?_⟩
        refine rd_neD (N := []) (one (s4 _ _ e3)) (one e4) shp.1 shp.1 ?_
        rw [same1]
        walk_at "rd"
        exact ⟨_, _, rfl, ((s1.trans s2).trans s3).trans s4, fun _ => ⟨x, rfl⟩⟩
      · rintro σ' H1 ⟨oc, ot, rfl, s1, hx⟩
        obtain ⟨x, rfl⟩ := hx (by decide)
        walk_at "rd"
        exact k x _ s1
    · have g0 : XG K C ∧ PySem.W.kitOne K (.ref C) (.type "ValueError") = some true := by
        rcases hn with ⟨rfl, _⟩ | ⟨rfl, _⟩
        · exact ⟨T.xg_NoCount, T.is_NoCount_ValueError⟩
        · exact ⟨T.xg_Full, T.is_Full_ValueError⟩
      have sn : SeqAt.shaped (.list [.str nm]) = true := by
        rcases hn with ⟨_, rfl⟩ | ⟨_, rfl⟩
        · exact shp.2.1
        · exact shp.2.2
      refine for_rangeW (fun i σ' H' => ∃ oc ot : Option V, σ' = [some (.ref a.f_extended), some (.ref hl), some (.str nm), oc, ot] ∧ Same H H' ∧ (0 < i → ∃ x dx, oc = some (.ref x) ∧ H' x = some (.ext (ExcIs x (.ref C) (some dx))) ∧ H' dx = some (.xd [("what", .str s')]))) ?_ ?_ ?_
      · exact ⟨_, none, rfl, Same.refl _, fun z => absurd z (Nat.lt_irrefl _)⟩
      · rintro i0 σ' H1 hi ⟨oc, ot, rfl, s1, _⟩
        walk_at "rd"
        refine ⟨N, hl, v, u, w', _, e, g, rfl, s1 _ _ hq, hd.ext (Ext.same s1), he.ext (Ext.same s1), hg.ext (Ext.same s1), .inr ⟨hs, ll, lf, C, s', rfl, ho, r, fun x dx H2 s2 ex ed => ?_⟩⟩
        walk_at "rd"
        refine rd_isiX (.exc ex g0.1) rfl g0.2 ?_
        walk_at "rd"
        refine ⟨x, _, _, _, rfl, ex, .inr hn, fun l H3 s3 e3 => ?_⟩
        walk_at "rd"
        refine ⟨sz (by simp), fun l4 H4 n4 s4 e4 => ?_⟩
        refine rd_neD (N := []) (one (s4 _ _ e3)) (one e4) sn sn ?_
        rw [same1]
        walk_at "rd"
        exact ⟨_, _, rfl, ((s1.trans s2).trans s3).trans s4, fun _ => ⟨x, dx, rfl, (s3.trans s4) _ _ ex, (s3.trans s4) _ _ ed⟩⟩
      · rintro σ' H1 ⟨oc, ot, rfl, s1, hx⟩
        obtain ⟨x, dx, rfl, ex, ed⟩ := hx (by decide)
        walk_at "rd"
        exact k x dx _ s1 ex ed

noncomputable def due15 (ll lf : Int) (n : Nat) (e g : PyData) : List Str :=
  if Mt.withinD (ll + 1) 1000000000 e = false then ["NoCount", "line"] else if Mt.withinD lf 1000000 g = false then ["NoCount", "fork"] else if n = 60 then ["Full", "lines"] else []
noncomputable def sp_law_due (K : PySem.W.Frag) : Sp := fun vs H Q _ => ∃ (N : List Addr) (hp : Addr) (u w : V) (bu bw : Bool) (hs : List (Int × Int)) (ll lf : Int) (e g : PyData), vs = [.ref hp, u, w, .bl bu, .bl bw] ∧ Dt K N H (.ref hp) (.tuple ((hs ++ [(ll, lf)]).map Mt.pr)) ∧ Mt.HOK (hs ++ [(ll, lf)]) ∧
  Dt K N H u e ∧ Dt K N H w g ∧ (bu = true → Mt.numD e = false) ∧ (bu = false → ∃ i, e = .int i) ∧ (bw = true → Mt.numD g = false) ∧ (bw = false → ∃ i, g = .int i) ∧
  ∀ l H', Same H H' → H' l = some (.lst ((due15 ll lf (hs.length + 1) e g).map V.str)) → Q (.ref l) H'
theorem ok_law_due (T : Txt P K mg a)  : FnOk P w K mg base CX0 1 a.f_law_due a.d_law_due ["_law_history_here", "_law_line", "_law_fork", "_law_odd_line", "_law_odd_fork"] (sp_law_due K) := by
  refine T.F_law_due.ok sc_law_due (fun vs H Q E h => ?_) (fun cdv A outer s H vs Q E hr h => ?_)
  · obtain ⟨N, hp, u, w, bu, bw, hs, ll, lf, e, g, rfl, _⟩ := h; rfl
  · obtain ⟨N, hp, u, w', bu, bw, hs, ll, lf, e, g, rfl, hd, ho, he, hg, u1, u2, w1, w2, k⟩ := h
    refine exW ⟨_, (qss_cons (qs_if (pw_or (pt_val (pv 3 (by rfl) (by walk_at "vis") (by decide) (by decide)) (by intro _; rfl)) (pw_or (pt_cmpR op_le (pv 1 (by rfl) (by walk_at "vis") (by decide) (by decide)) (pe_ix ix_tup (pe_ix ix_tup (pv 0 (by rfl) (by walk_at "vis") (by decide) (by decide)) (pe_un un_neg pe_int) (fun _ _ => rfl)) pe_int (fun _ _ => rfl)) (nomark _)) (pw_or1 (pt_cmpR op_gt (pv 1 (by rfl) (by walk_at "vis") (by decide) (by decide)) (pe_op op_pow pe_int pe_int) (nomark _))))).pt
        (qss_one (qs_ret (qe_lstA (qa pe_str (qa pe_str qa_nil (by rfl)) (by rfl)))))
        qss_nil)
      (qss_cons (qs_if (pw_or (pt_val (pv 4 (by rfl) (by walk_at "vis") (by decide) (by decide)) (by intro _; rfl)) (pw_or (pt_cmpR op_lt (pv 2 (by rfl) (by walk_at "vis") (by decide) (by decide)) (pe_ix ix_tup (pe_ix ix_tup (pv 0 (by rfl) (by walk_at "vis") (by decide) (by decide)) (pe_un un_neg pe_int) (fun _ _ => rfl)) pe_int (fun _ _ => rfl)) (nomark _)) (pw_or1 (pt_cmpR op_gt (pv 2 (by rfl) (by walk_at "vis") (by decide) (by decide)) (pe_op op_pow pe_int pe_int) (nomark _))))).pt
        (qss_one (qs_ret (qe_lstA (qa pe_str (qa pe_str qa_nil (by rfl)) (by rfl)))))
        qss_nil)
      (qss_cons (qs_if (pt_cmpR op_eq (qe_callB cn_len (by rfl) T.b_len (by decide +kernel) (qa (pv 0 (by rfl) (by walk_at "vis") (by decide) (by decide)) qa_nil (by rfl)) (by decide) (by decide) (by rfl) (by rfl)) pe_int (nomark _))
        (qss_one (qs_ret (qe_lstA (qa pe_str (qa pe_str qa_nil (by rfl)) (by rfl)))))
        qss_nil)
      (qss_one (qs_ret (qe_lstA qa_nil)))))), ?_⟩
    try dsimp only [cxOf]
    cases hd with
    | @tup _ xs _ hq hn hr =>
      rw [List.map_append, List.map_cons, List.map_nil] at hr
      obtain ⟨ws, y, rfl, r1, r2⟩ := DtAll.snoc hr
      obtain ⟨q, rfl, hq2, _⟩ := Dt.pair r2
      have hl := r1.length
      rw [List.length_map] at hl
      have el : (ws ++ [V.ref q]).length = hs.length + 1 := by simp [hl]
      have nw : ∀ {d : PyData} {x y : Int}, Mt.numD d = false → Mt.withinD x y d = false := fun {d x y} z => by
        cases d <;> first | rfl | (simp [Mt.numD] at z)
      have fin1 : Mt.withinD (ll + 1) 1000000000 e = false → ∀ l H', Same H H' → H' l = some (.lst [.str "NoCount", .str "line"]) → Q (.ref l) H' := fun z l H' s' e' => k l H' s' (by rw [due15, if_pos z]; exact e')
      have fin2 : Mt.withinD (ll + 1) 1000000000 e = true → Mt.withinD lf 1000000 g = false → ∀ l H', Same H H' → H' l = some (.lst [.str "NoCount", .str "fork"]) → Q (.ref l) H' := fun z z2 l H' s' e' => k l H' s' (by rw [due15, if_neg (by rw [z]; decide), if_pos z2]; exact e')
      have q9 := Mt.p9
      have q6 := Mt.p6
      have k3 : Mt.withinD (ll + 1) 1000000000 e = true → Mt.withinD lf 1000000 g = true → ∀ l H', Same H H' → H' l = some (.lst ((if hs.length + 1 = 60 then (["Full", "lines"] : List Str) else []).map V.str)) → Q (.ref l) H' := fun z z2 l H' s' e' => k l H' s' (by rw [due15, if_neg (by rw [z]; decide), if_neg (by rw [z2]; decide)]; exact e')
      refine rd_seqK (fun σ' H' => σ' = start ["_law_history_here", "_law_line", "_law_fork", "_law_odd_line", "_law_odd_fork"] [.ref hp, u, w', .bl bu, .bl bw] ∧ H' = H ∧ Mt.withinD (ll + 1) 1000000000 e = true) ?_ ?_
      · rintro σ' H2 ⟨rfl, rfl, h1⟩
        refine rd_seqK (fun σ' H' => σ' = start ["_law_history_here", "_law_line", "_law_fork", "_law_odd_line", "_law_odd_fork"] [.ref hp, u, w', .bl bu, .bl bw] ∧ H' = H2 ∧ Mt.withinD lf 1000000 g = true) ?_ ?_
        · rintro σ' H' ⟨rfl, rfl, h2⟩
          walk_at "rd"
          refine rd_ite2 (fun c1 => ?_) (fun c1 => ?_)
          · walk_at "rd"
            refine ⟨sz (by simp), fun l H1 n1 s1 e1 => k3 h1 h2 l H1 s1 ?_⟩
            have z := V.int.inj (of_decide_eq_true c1)
            rw [el] at z
            rw [if_pos (by omega)]; exact e1
          · walk_at "rd"
            refine ⟨sz (by simp), fun l H1 n1 s1 e1 => k3 h1 h2 l H1 s1 ?_⟩
            rw [if_neg (fun z => of_decide_eq_false c1 (by rw [el, z]; rfl))]; exact e1
        · intro hu
          walk_at "rs"
          cases bw with
          | true =>
            walk_at "rs"
            refine ⟨sz (by simp), fun l H1 n1 s1 e1 => fin2 h1 (nw (w1 rfl)) l H1 s1 e1⟩
          | false =>
            obtain ⟨i, rfl⟩ := w2 rfl
            cases hg
            walk_at "rs"
            refine rd_ixT hq (atI_last ws _) ?_
            walk_at "rs"
            refine rd_ite2 (fun c1 => ?_) (fun c1 => ?_)
            · walk_at "rs"
              refine ⟨sz (by simp), fun l H1 n1 s1 e1 => fin2 h1 ?_ l H1 s1 e1⟩
              have := of_decide_eq_true c1
              simp only [Mt.withinD]
              rw [decide_eq_false (by omega)]; rfl
            · walk_at "rs"
              have c1' := of_decide_eq_false c1
              refine rd_ite2 (fun c2 => ?_) (fun c2 => ?_)
              · walk_at "rs"
                refine ⟨sz (by simp), fun l H1 n1 s1 e1 => fin2 h1 ?_ l H1 s1 e1⟩
                have := of_decide_eq_true c2
                simp only [Mt.withinD]
                rw [decide_eq_false (show ¬ (i ≤ 1000000) by omega), Bool.and_false]
              · walk_at "rs"
                have := of_decide_eq_false c2
                refine hu _ _ ⟨rfl, rfl, ?_⟩
                simp only [Mt.withinD, Bool.and_eq_true, decide_eq_true_eq]
                omega
      · intro hu
        walk_at "rs"
        cases bu with
        | true =>
          walk_at "rs"
          refine ⟨sz (by simp), fun l H1 n1 s1 e1 => fin1 (nw (u1 rfl)) l H1 s1 e1⟩
        | false =>
          obtain ⟨i, rfl⟩ := u2 rfl
          cases he
          walk_at "rs"
          refine rd_ixT hq (atI_last ws _) ?_
          walk_at "rs"
          refine rd_ite2 (fun c1 => ?_) (fun c1 => ?_)
          · walk_at "rs"
            refine ⟨sz (by simp), fun l H1 n1 s1 e1 => fin1 ?_ l H1 s1 e1⟩
            have := of_decide_eq_true c1
            simp only [Mt.withinD]
            rw [decide_eq_false (by omega)]; rfl
          · walk_at "rs"
            have c1' := of_decide_eq_false c1
            refine rd_ite2 (fun c2 => ?_) (fun c2 => ?_)
            · walk_at "rs"
              refine ⟨sz (by simp), fun l H1 n1 s1 e1 => fin1 ?_ l H1 s1 e1⟩
              have := of_decide_eq_true c2
              simp only [Mt.withinD]
              rw [decide_eq_false (show ¬ (i ≤ 1000000000) by omega), Bool.and_false]
            · walk_at "rs"
              have := of_decide_eq_false c2
              refine hu _ _ ⟨rfl, rfl, ?_⟩
              simp only [Mt.withinD, Bool.and_eq_true, decide_eq_true_eq]
              omega

noncomputable def sp_law_right (K : PySem.W.Frag) (a : Adr) : Sp := fun vs H Q _ => ∃ (N : List Addr) (hp : Addr) (u w : V) (bu bw : Bool) (hs : List (Int × Int)) (ll lf : Int) (e g : PyData), vs = [.ref hp, u, w, .bl bu, .bl bw] ∧ Dt K N H (.ref hp) (.tuple ((hs ++ [(ll, lf)]).map Mt.pr)) ∧ Mt.HOK (hs ++ [(ll, lf)]) ∧
  Dt K N H u e ∧ Dt K N H w g ∧ (bu = true → Mt.numD e = false) ∧ (bu = false → ∃ i, e = .int i) ∧ (bw = true → Mt.numD g = false) ∧ (bw = false → ∃ i, g = .int i) ∧
  ∀ H', Same H H' → Q (.bl true) H'
theorem ok_law_right (T : Txt P K mg a) (G__law_alike : FnOk P w K mg base CX0 3 a.f_law_alike a.d_law_alike ["_law_found", "_law_due_here"] (sp_law_alike K)) (G__law_due : FnOk P w K mg base CX0 1 a.f_law_due a.d_law_due ["_law_history_here", "_law_line", "_law_fork", "_law_odd_line", "_law_odd_fork"] (sp_law_due K)) (G__law_refused : FnOk P w K mg base CX0 9 a.f_law_refused a.d_law_refused ["_law_call", "_law_handed", "_law_name"] (sp_law_refused K a)) (G_extended : FnOk P w K mg base (CX1 P w) 7 a.f_extended a.d_extended ["history", "line", "fork"] (sp_extended K a)) : FnOk P w K mg base CX0 10 a.f_law_right a.d_law_right ["_law_history_here", "_law_line", "_law_fork", "_law_odd_line", "_law_odd_fork"] (sp_law_right K a) := by
  refine T.F_law_right.ok sc_law_right (fun vs H Q E h => ?_) (fun cdv A outer s H vs Q E hr h => ?_)
  · obtain ⟨N, hp, u, w, bu, bw, hs, ll, lf, e, g, rfl, _⟩ := h; rfl
  · obtain ⟨N, hp, u, w', bu, bw, hs, ll, lf, e, g, rfl, hd, ho, he, hg, u1, u2, w1, w2, k⟩ := h
    refine exW ⟨_, (qss_cons (qs_set (i := 5) sc_law_right.nd rfl (Or.inl rfl) (qe_call G__law_due (hr.mono (by decide)) (by rfl) T.m__law_due T.k__law_due T.bd__law_due .nil pass0 (qa (pv 0 (by rfl) (by walk_at "vis") (by decide) (by decide)) (qa (pv 1 (by rfl) (by walk_at "vis") (by decide) (by decide)) (qa (pv 2 (by rfl) (by walk_at "vis") (by decide) (by decide)) (qa (pv 3 (by rfl) (by walk_at "vis") (by decide) (by decide)) (qa (pv 4 (by rfl) (by walk_at "vis") (by decide) (by decide)) qa_nil (by rfl)) (by rfl)) (by rfl)) (by rfl)) (by rfl)) (by decide) (by rfl) (by rfl)) (by rfl) (by first | exact Or.inl rfl | exact Or.inr rfl))
      (qss_cons (qs_if (pt_cmpR (on_eqD hr) (pv 5 (by rfl) (by walk_at "vis") (by decide) (by decide)) (qe_lstA qa_nil) (nomark _))
        (qss_one (qs_ret (qe_call G__law_alike (hr.mono (by decide)) (by rfl) T.m__law_alike T.k__law_alike T.bd__law_alike .nil pass0 (qa (qe_callX G_extended (hr.mono (by decide)) (by rfl) T.m_extended T.k_extended T.bd_extended .nil px0 (qa (pv 0 (by rfl) (by walk_at "vis") (by decide) (by decide)) (qa (pv 1 (by rfl) (by walk_at "vis") (by decide) (by decide)) (qa (pv 2 (by rfl) (by walk_at "vis") (by decide) (by decide)) qa_nil (by rfl)) (by rfl)) (by rfl)) (by decide) (by rfl) (by rfl)) (qa (pe_op op_catG (pv 0 (by rfl) (by walk_at "vis") (by decide) (by decide)) (qe_tupA (qa (qe_tupA (qa (pv 1 (by rfl) (by walk_at "vis") (by decide) (by decide)) (qa (pv 2 (by rfl) (by walk_at "vis") (by decide) (by decide)) qa_nil (by rfl)) (by rfl))) qa_nil (by rfl)))) qa_nil (by rfl)) (by rfl)) (by decide) (by rfl) (by rfl))))
        qss_nil)
      (qss_cons (qs_set (i := 6) sc_law_right.nd rfl (Or.inl rfl) (qe_call G__law_refused (hr.mono (by decide)) (by rfl) T.m__law_refused T.k__law_refused T.bd__law_refused .nil pass0 (qa (pe_glob (v := .ref a.f_extended) (by rfl) T.m_extended rfl (by decide)) (qa (qe_lstA (qa (pv 0 (by rfl) (by walk_at "vis") (by decide) (by decide)) (qa (pv 1 (by rfl) (by walk_at "vis") (by decide) (by decide)) (qa (pv 2 (by rfl) (by walk_at "vis") (by decide) (by decide)) qa_nil (by rfl)) (by rfl)) (by rfl))) (qa (pe_ix ix_list (pv 5 (by rfl) (by walk_at "vis") (by decide) (by decide)) pe_int (fun _ _ => rfl)) qa_nil (by rfl)) (by rfl)) (by rfl)) (by decide) (by rfl) (by rfl)) (by rfl) (by first | exact Or.inl rfl | exact Or.inr rfl))
      (qss_one (qs_ret (pe_and (pe_cmpR on_notN (pv 6 (by rfl) (by walk_at "vis") (by decide) (by decide)) pe_non (nomark _)) (pe_and (qe_callB cn_isi (by rfl) T.b_isinstance (by decide +kernel) (qa (pe_xat (pv 6 (by rfl) (by walk_at "vis") (by decide) (by decide)) (by rfl)) (qa (pe_bltn (by rfl) T.b_str (by decide +kernel) (v := .ty "str") rfl (by decide) (by decide)) qa_nil (by rfl)) (by rfl)) (by decide) (by decide) (by rfl) (by rfl)) (pe_one (pe_cmpR op_eq (pe_xat (pv 6 (by rfl) (by walk_at "vis") (by decide) (by decide)) (by rfl)) (pe_ix ix_list (pv 5 (by rfl) (by walk_at "vis") (by decide) (by decide)) pe_int (fun _ _ => rfl)) (nomark _)))))))))), ?_⟩
    try dsimp only [cxOf]
    walk_at "rq"
    refine ⟨N, hp, u, w', bu, bw, hs, ll, lf, e, g, rfl, hd, ho, he, hg, u1, u2, w1, w2, fun dl H1 s1 e1 => ?_⟩
    walk_at "rq"
    refine ⟨sz (by simp), fun l2 H2 n2 s2 e2 => ?_⟩
    have e1' := s2 _ _ e1
    have t2 := s1.trans s2
    have hd2 := hd.ext (Ext.same t2)
    have he2 := he.ext (Ext.same t2)
    have hg2 := hg.ext (Ext.same t2)
    have emp : Dt K [] H2 (.ref l2) (.list []) := .lst (SqL.of e2) (by simp) .nil
    have alt : (∃ (C : Addr) (nm s' : Str), Ref a ll lf (hs.length + 1) e g C s' ∧ ((C = a.C_NoCount ∧ nm = "NoCount") ∨ (C = a.C_Full ∧ nm = "Full")) ∧ due15 ll lf (hs.length + 1) e g = [nm, s'] ∧ SeqAt.shaped (.list [.str nm, .str s']) = true) ∨
        (Mt.withinD (ll + 1) 1000000000 e = true ∧ Mt.withinD lf 1000000 g = true ∧ hs.length + 1 ≠ 60 ∧ due15 ll lf (hs.length + 1) e g = []) := by
      cases c1 : Mt.withinD (ll + 1) 1000000000 e with
      | false => exact .inl ⟨_, _, _, .line c1, .inl ⟨rfl, rfl⟩, by rw [due15, if_pos c1], by decide +kernel⟩
      | true =>
        cases c2 : Mt.withinD lf 1000000 g with
        | false => exact .inl ⟨_, _, _, .fork c1 c2, .inl ⟨rfl, rfl⟩, by rw [due15, if_neg (by rw [c1]; decide), if_pos c2], by decide +kernel⟩
        | true =>
          by_cases c3 : hs.length + 1 = 60
          · exact .inl ⟨_, _, _, .full c1 c2 c3, .inr ⟨rfl, rfl⟩, by rw [due15, if_neg (by rw [c1]; decide), if_neg (by rw [c2]; decide), if_pos c3], by decide +kernel⟩
          · exact .inr ⟨rfl, rfl, c3, by rw [due15, if_neg (by rw [c1]; decide), if_neg (by rw [c2]; decide), if_neg c3]⟩
    rcases alt with ⟨C, nm, s', r, hn, ed, shp⟩ | ⟨c1, c2, c3, ed⟩
    · rw [ed] at e1'
      have e1s : H2 dl = some (.lst [.str nm, .str s']) := e1'
      refine rd_eqD (N := []) (d := .list [.str nm, .str s']) (.lst (SqL.of e1s) (by simp) (.cons (.str _) (.cons (.str _) .nil))) emp shp rfl ?_
      rw [show PyData.eqv (.list [.str nm, .str s']) (.list []) = false from rfl]
      walk_at "rq"
      refine ⟨sz (by simp), fun hl H3 n3 s3 e3 => ?_⟩
      have q3 : SqL K H3 dl [.str nm, .str s'] := SqL.of (s3 _ _ e1s)
      walk_at "rq"
      refine ⟨N, hl, .ref hp, u, w', _, e, g, nm, rfl, e3, hd2.ext (Ext.same s3), he2.ext (Ext.same s3), hg2.ext (Ext.same s3), .inr ⟨hs, ll, lf, C, s', rfl, ho, r, hn, fun x dx H4 s4 ex ed4 => ?_⟩⟩
      have q4 : SqL K H4 dl [.str nm, .str s'] := SqL.of (s4 _ _ (s3 _ _ e1s))
      obtain ⟨g1, init, g2, g3⟩ : XG K C ∧ ∃ init, xcIn K C init = true ∧ PySem.W.findIn K (.ref C) "what" = some none := by
        rcases hn with ⟨rfl, _⟩ | ⟨rfl, _⟩
        · exact ⟨T.xg_NoCount, _, T.Z_NoCount.xc, T.Z_NoCount.x1.no⟩
        · exact ⟨T.xg_Full, _, T.Z_Full.xc, T.Z_Full.x1.no⟩
      walk_at "rq"
      refine ⟨x, C, dx, _, .str s', init, rfl, ex, g1, g2, g3, ed4, rfl, ?_⟩
      walk_at "rq"
      refine rd_isiStr (N := []) (.str s') ?_
      walk_at "rq"
      refine ⟨x, C, dx, _, .str s', init, rfl, ex, g1, g2, g3, ed4, rfl, ?_⟩
      walk_at "rq"
      rw [show decide (V.str s' = V.str s') = true from decide_eq_true rfl]
      exact k _ ((t2.trans s3).trans s4)
    · rw [ed] at e1'
      have e1s : H2 dl = some (.lst []) := e1'
      refine rd_eqD (N := []) (d := .list []) (.lst (SqL.of e1s) (by simp) .nil) emp rfl rfl ?_
      rw [show PyData.eqv (.list []) (.list []) = true from rfl]
      walk_at "rq"
      obtain ⟨i, rfl⟩ : ∃ i, e = .int i := by cases e <;> first | exact ⟨_, rfl⟩ | cases c1
      obtain ⟨j, rfl⟩ : ∃ j, g = .int j := by cases g <;> first | exact ⟨_, rfl⟩ | cases c2
      refine ⟨N, .ref hp, u, w', _, _, _, rfl, hd2, he2, hg2, .inr ⟨hs, ll, lf, rfl, ho, .inr ⟨c1, c2, c3, fun q H3 s3 dq => ?_⟩⟩⟩
      walk_at "rq"
      refine ⟨sz (by simp), fun p1 H4 n4 s4 e4 => ?_⟩
      walk_at "rq"
      refine ⟨sz (by simp), fun p2 H5 n5 s5 e5 => ?_⟩
      have s25 := (s3.trans s4).trans s5
      have hd5 := (hd2.ext (Ext.same s25)).weaken (N' := []) (fun b hb => by simp at hb)
      have l60 := ho.len2
      cases hd5 with
      | @tup _ xs _ hq hnn hr =>
        have hl := hr.length
        rw [List.length_map] at hl
        refine rd_catG hq (SqT.of e5) (sz (by simp; omega)) fun r H6 hr6 s6 q6 => ?_
        walk_at "rq"
        have e5b : DtAll K [] H6 (xs ++ [.ref p1]) ((hs ++ [(ll, lf)]).map Mt.pr ++ [PyData.tuple [.int i, .int j]]) := (hr.ext (Ext.same s6)).append (.cons (.tup (SqT.of ((s5.trans s6) _ _ e4)) (by simp) (.cons (((he2.ext (Ext.same s25)).ext (Ext.same s6)).weaken (fun b hb => by simp at hb)) (.cons (((hg2.ext (Ext.same s25)).ext (Ext.same s6)).weaken (fun b hb => by simp at hb)) .nil))) .nil)
        have data : (hs ++ [(ll, lf)]).map Mt.pr ++ [PyData.tuple [.int i, .int j]] = (hs ++ [(ll, lf)] ++ [(i, j)]).map Mt.pr := by simp [Mt.pr]
        rw [data] at e5b dq
        refine ⟨[], .ref q, .ref r, _, _, rfl, dq.ext (Ext.same ((s4.trans s5).trans s6)), .tup q6 (by simp) e5b, ?_, ?_, fun H7 s7 => ?_⟩
        · simp only [Mt.tupOnly]; exact Mt.map_tupOnly _
        · have z := Mt.map_depth (hs ++ [(ll, lf)] ++ [(i, j)])
          simp only [PyData.depth]; omega
        · rw [Mt.alike_map]
          walk_at "rq"
          exact k _ (((t2.trans s25).trans s6).trans s7)

noncomputable def sp_law (K : PySem.W.Frag) : Sp := fun vs H Q _ => ∃ (p : Addr) (ns : List Int), vs = [.ref p] ∧ SqL K H p (ns.map V.int) ∧ ns.length ≤ 63 ∧ ∀ H', Q (.bl true) H'
theorem ok_law (T : Txt P K mg a) (G__law_history : FnOk P w K mg base CX0 2 a.f_law_history a.d_law_history ["_law_state_here"] (sp_law_history K)) (G__law_next : FnOk P w K mg base CX0 1 a.f_law_next a.d_law_next ["_law_state_here", "_law_below"] (sp_law_next K)) (G__law_refused : FnOk P w K mg base CX0 9 a.f_law_refused a.d_law_refused ["_law_call", "_law_handed", "_law_name"] (sp_law_refused K a)) (G__law_right : FnOk P w K mg base CX0 10 a.f_law_right a.d_law_right ["_law_history_here", "_law_line", "_law_fork", "_law_odd_line", "_law_odd_fork"] (sp_law_right K a)) (G__law_state : FnOk P w K mg base CX0 1 a.f_law_state a.d_law_state ["_law_script"] (sp_law_state K)) : FnOk P w K mg base CX0 11 a.f_law a.d_law ["_law_script"] (sp_law K) := by
  refine T.F_law.ok sc_law (fun vs H Q E h => ?_) (fun cdv A outer s H vs Q E hr h => ?_)
  · obtain ⟨p, ns, rfl, _⟩ := h; rfl
  · obtain ⟨p, ns, rfl, hq, hl, k⟩ := h
    refine exW ⟨_, (qss_cons (qs_set (i := 1) sc_law.nd rfl (Or.inl rfl) (qe_call G__law_state (hr.mono (by decide)) (by rfl) T.m__law_state T.k__law_state T.bd__law_state .nil pass0 (qa (pv 0 (by rfl) (by walk_at "vis") (by decide) (by decide)) qa_nil (by rfl)) (by decide) (by rfl) (by rfl)) (by rfl) (by first | exact Or.inl rfl | exact Or.inr rfl))
      (qss_cons (qs_setLA (i := 2) sc_law.nd rfl (Or.inl rfl) (qa pe_bl (qa pe_bl (qa pe_non (qa pe_str (qa (by exact (qe_tupA (qa pe_int qa_nil (by rfl)))) (qa (by exact (qe_lstA (qa pe_int qa_nil (by rfl)))) (qa pe_dnewA qa_nil (by rfl)) (by rfl)) (by rfl)) (by rfl)) (by rfl)) (by rfl)) (by rfl)) (by first | exact Or.inl rfl | exact Or.inr rfl))
      (qss_cons (qs_for PassesOwn.never rfl (qi_range1 (by rfl) T.b_range (qa pe_int qa_nil (by rfl)) (by rfl)) (pg_name (i := 3) sc_law.nd rfl (Or.inl rfl) (by first | exact Or.inl rfl | exact Or.inr rfl))
        (qss_cons (qs_set (i := 4) sc_law.nd rfl (Or.inl rfl) (qe_call G__law_history (hr.mono (by decide)) (by rfl) T.m__law_history T.k__law_history T.bd__law_history .nil pass0 (qa (pv 1 (by rfl) (by walk_at "vis") (by decide) (by decide)) qa_nil (by rfl)) (by decide) (by rfl) (by rfl)) (by rfl) (by first | exact Or.inl rfl | exact Or.inr rfl))
        (qss_cons (qs_asg (pe_ix ix_tup (pv 4 (by rfl) (by walk_at "vis") (by decide) (by decide)) (pe_un un_neg pe_int) (fun _ _ => rfl)) (pg_tup (n := 2) rfl (pgs_cons (pg_name (i := 5) (show (["_law_script", "_law_state_here", "_law_odd", "_law_turn", "_law_history_here", "_law_last", "_law_ahead", "_law_lines", "_law_forks", "_law_line", "_law_fork", "_law_strange", "_law_none"] : List Str).Nodup by decide +kernel) rfl (Or.inl rfl) (by first | exact Or.inl rfl | exact Or.inr rfl)) (pgs_cons (pg_name (i := 6) (show (["_law_script", "_law_state_here", "_law_odd", "_law_turn", "_law_history_here", "_law_last", "_law_ahead", "_law_lines", "_law_forks", "_law_line", "_law_fork", "_law_strange", "_law_none"] : List Str).Nodup by decide +kernel) rfl (Or.inl rfl) (by first | exact Or.inl rfl | exact Or.inr rfl)) pgs_nil (by rfl)) (by rfl)) (by rfl) (by rfl)) (by rfl) (by rfl) (by rfl))
        (qss_cons (qs_setLA (i := 7) sc_law.nd rfl (Or.inl rfl) (qa (by exact (pe_op op_add (pv 5 (by rfl) (by walk_at "vis") (by decide) (by decide)) pe_int)) (qa (by exact (pe_op op_add (pe_op op_add (pv 5 (by rfl) (by walk_at "vis") (by decide) (by decide)) pe_int) (qe_call G__law_next (hr.mono (by decide)) (by rfl) T.m__law_next T.k__law_next T.bd__law_next .nil pass0 (qa (pv 1 (by rfl) (by walk_at "vis") (by decide) (by decide)) (qa pe_int qa_nil (by rfl)) (by rfl)) (by decide) (by rfl) (by rfl)))) (qa (pv 5 (by rfl) (by walk_at "vis") (by decide) (by decide)) (qa (by exact (pe_op op_sub (pe_op op_sub (pv 5 (by rfl) (by walk_at "vis") (by decide) (by decide)) pe_int) (qe_call G__law_next (hr.mono (by decide)) (by rfl) T.m__law_next T.k__law_next T.bd__law_next .nil pass0 (qa (pv 1 (by rfl) (by walk_at "vis") (by decide) (by decide)) (qa pe_int qa_nil (by rfl)) (by rfl)) (by decide) (by rfl) (by rfl)))) (qa (by exact (pe_op op_pow pe_int pe_int)) (qa (by exact (pe_op op_add (pe_op op_pow pe_int pe_int) pe_int)) qa_nil (by rfl)) (by rfl)) (by rfl)) (by rfl)) (by rfl)) (by rfl)) (by first | exact Or.inl rfl | exact Or.inr rfl))
        (qss_cons (qs_setLA (i := 8) sc_law.nd rfl (Or.inl rfl) (qa (pv 6 (by rfl) (by walk_at "vis") (by decide) (by decide)) (qa (by exact (pe_op op_add (pv 6 (by rfl) (by walk_at "vis") (by decide) (by decide)) (qe_call G__law_next (hr.mono (by decide)) (by rfl) T.m__law_next T.k__law_next T.bd__law_next .nil pass0 (qa (pv 1 (by rfl) (by walk_at "vis") (by decide) (by decide)) (qa pe_int qa_nil (by rfl)) (by rfl)) (by decide) (by rfl) (by rfl)))) (qa (by exact (pe_op op_sub (pv 6 (by rfl) (by walk_at "vis") (by decide) (by decide)) pe_int)) (qa (by exact (pe_un un_neg pe_int)) (qa (by exact (pe_op op_pow pe_int pe_int)) (qa (by exact (pe_op op_add (pe_op op_pow pe_int pe_int) pe_int)) (qa (by exact (pe_op op_pow pe_int pe_int)) qa_nil (by rfl)) (by rfl)) (by rfl)) (by rfl)) (by rfl)) (by rfl)) (by rfl)) (by first | exact Or.inl rfl | exact Or.inr rfl))
        (qss_cons (qs_set (i := 9) sc_law.nd rfl (Or.inl rfl) (pe_ix ix_list (pv 7 (by rfl) (by walk_at "vis") (by decide) (by decide)) (qe_call G__law_next (hr.mono (by decide)) (by rfl) T.m__law_next T.k__law_next T.bd__law_next .nil pass0 (qa (pv 1 (by rfl) (by walk_at "vis") (by decide) (by decide)) (qa pe_int qa_nil (by rfl)) (by rfl)) (by decide) (by rfl) (by rfl)) (fun _ _ => rfl)) (by rfl) (by first | exact Or.inl rfl | exact Or.inr rfl))
        (qss_cons (qs_set (i := 10) sc_law.nd rfl (Or.inl rfl) (pe_ix ix_list (pv 8 (by rfl) (by walk_at "vis") (by decide) (by decide)) (qe_call G__law_next (hr.mono (by decide)) (by rfl) T.m__law_next T.k__law_next T.bd__law_next .nil pass0 (qa (pv 1 (by rfl) (by walk_at "vis") (by decide) (by decide)) (qa pe_int qa_nil (by rfl)) (by rfl)) (by decide) (by rfl) (by rfl)) (fun _ _ => rfl)) (by rfl) (by first | exact Or.inl rfl | exact Or.inr rfl))
        (qss_cons (qs_set (i := 11) sc_law.nd rfl (Or.inl rfl) (pe_ix ix_list (pv 2 (by rfl) (by walk_at "vis") (by decide) (by decide)) (qe_call G__law_next (hr.mono (by decide)) (by rfl) T.m__law_next T.k__law_next T.bd__law_next .nil pass0 (qa (pv 1 (by rfl) (by walk_at "vis") (by decide) (by decide)) (qa pe_int qa_nil (by rfl)) (by rfl)) (by decide) (by rfl) (by rfl)) (fun _ _ => rfl)) (by rfl) (by first | exact Or.inl rfl | exact Or.inr rfl))
        (qss_cons (qs_if (pt_not (pt_val (qe_call G__law_right (hr.mono (by decide)) (by rfl) T.m__law_right T.k__law_right T.bd__law_right .nil pass0 (qa (pv 4 (by rfl) (by walk_at "vis") (by decide) (by decide)) (qa (pv 9 (by rfl) (by walk_at "vis") (by decide) (by decide)) (qa (pv 10 (by rfl) (by walk_at "vis") (by decide) (by decide)) (qa pe_bl (qa pe_bl qa_nil (by rfl)) (by rfl)) (by rfl)) (by rfl)) (by rfl)) (by decide) (by rfl) (by rfl)) (by intro _; rfl)))
          (qss_one (qs_ret pe_bl))
          qss_nil)
        (qss_cons (qs_if (pt_not (pt_val (qe_call G__law_right (hr.mono (by decide)) (by rfl) T.m__law_right T.k__law_right T.bd__law_right .nil pass0 (qa (pv 4 (by rfl) (by walk_at "vis") (by decide) (by decide)) (qa (by exact (pe_ix ix_list (pv 7 (by rfl) (by walk_at "vis") (by decide) (by decide)) pe_int (fun _ _ => rfl))) (qa (by exact (pe_ix ix_list (pv 8 (by rfl) (by walk_at "vis") (by decide) (by decide)) pe_int (fun _ _ => rfl))) (qa pe_bl (qa pe_bl qa_nil (by rfl)) (by rfl)) (by rfl)) (by rfl)) (by rfl)) (by decide) (by rfl) (by rfl)) (by intro _; rfl)))
          (qss_one (qs_ret pe_bl))
          qss_nil)
        (qss_cons (qs_if (pw_or (pt_not (pt_val (qe_call G__law_right (hr.mono (by decide)) (by rfl) T.m__law_right T.k__law_right T.bd__law_right .nil pass0 (qa (pv 4 (by rfl) (by walk_at "vis") (by decide) (by decide)) (qa (pv 11 (by rfl) (by walk_at "vis") (by decide) (by decide)) (qa (pv 10 (by rfl) (by walk_at "vis") (by decide) (by decide)) (qa pe_bl (qa pe_bl qa_nil (by rfl)) (by rfl)) (by rfl)) (by rfl)) (by rfl)) (by decide) (by rfl) (by rfl)) (by intro _; rfl))) (pw_or1 (pt_not (pt_val (qe_call G__law_right (hr.mono (by decide)) (by rfl) T.m__law_right T.k__law_right T.bd__law_right .nil pass0 (qa (pv 4 (by rfl) (by walk_at "vis") (by decide) (by decide)) (qa (pv 9 (by rfl) (by walk_at "vis") (by decide) (by decide)) (qa (pv 11 (by rfl) (by walk_at "vis") (by decide) (by decide)) (qa pe_bl (qa pe_bl qa_nil (by rfl)) (by rfl)) (by rfl)) (by rfl)) (by rfl)) (by decide) (by rfl) (by rfl)) (by intro _; rfl))))).pt
          (qss_one (qs_ret pe_bl))
          qss_nil)
        (qss_cons (qs_if (pt_not (pt_val (qe_call G__law_right (hr.mono (by decide)) (by rfl) T.m__law_right T.k__law_right T.bd__law_right .nil pass0 (qa (pv 4 (by rfl) (by walk_at "vis") (by decide) (by decide)) (qa (pv 11 (by rfl) (by walk_at "vis") (by decide) (by decide)) (qa (pv 11 (by rfl) (by walk_at "vis") (by decide) (by decide)) (qa pe_bl (qa pe_bl qa_nil (by rfl)) (by rfl)) (by rfl)) (by rfl)) (by rfl)) (by decide) (by rfl) (by rfl)) (by intro _; rfl)))
          (qss_one (qs_ret pe_bl))
          qss_nil)
        (qss_cons (qs_set (i := 12) sc_law.nd rfl (Or.inl rfl) (pe_ix ix_list (qe_lstA (qa (by exact (pe_op op_catG (pv 4 (by rfl) (by walk_at "vis") (by decide) (by decide)) (pe_slice sl_tupG (pv 4 (by rfl) (by walk_at "vis") (by decide) (by decide)) po_none (po_some pe_int)))) (qa (by exact (qe_callTy (cn_listA (K := K) (by rfl)) (by rfl) T.b_list (by decide +kernel) (qa (pv 4 (by rfl) (by walk_at "vis") (by decide) (by decide)) qa_nil (by rfl)) (by decide) (by decide) (by rfl) (by rfl))) (qa pe_non (qa (by exact (qe_tupA qa_nil)) (qa (by exact (qe_tupA (qa (qe_tupA (qa pe_int (qa pe_int qa_nil (by rfl)) (by rfl))) qa_nil (by rfl)))) qa_nil (by rfl)) (by rfl)) (by rfl)) (by rfl)) (by rfl))) (qe_call G__law_next (hr.mono (by decide)) (by rfl) T.m__law_next T.k__law_next T.bd__law_next .nil pass0 (qa (pv 1 (by rfl) (by walk_at "vis") (by decide) (by decide)) (qa pe_int qa_nil (by rfl)) (by rfl)) (by decide) (by rfl) (by rfl)) (fun _ _ => rfl)) (by rfl) (by first | exact Or.inl rfl | exact Or.inr rfl))
        (qss_cons (qs_if (pt_cmpR on_isN (qe_call G__law_refused (hr.mono (by decide)) (by rfl) T.m__law_refused T.k__law_refused T.bd__law_refused .nil pass0 (qa (pe_glob (v := .ref a.f_extended) (by rfl) T.m_extended rfl (by decide)) (qa (qe_lstA (qa (pv 12 (by rfl) (by walk_at "vis") (by decide) (by decide)) (qa (pv 9 (by rfl) (by walk_at "vis") (by decide) (by decide)) (qa (pv 10 (by rfl) (by walk_at "vis") (by decide) (by decide)) qa_nil (by rfl)) (by rfl)) (by rfl))) (qa pe_str qa_nil (by rfl)) (by rfl)) (by rfl)) (by decide) (by rfl) (by rfl)) pe_non (nomark _))
          (qss_one (qs_ret pe_bl))
          qss_nil)
        (qss_one (qs_if (pt_cmpR on_isN (qe_call G__law_refused (hr.mono (by decide)) (by rfl) T.m__law_refused T.k__law_refused T.bd__law_refused .nil pass0 (qa (pe_glob (v := .ref a.f_extended) (by rfl) T.m_extended rfl (by decide)) (qa (qe_lstA (qa (pv 12 (by rfl) (by walk_at "vis") (by decide) (by decide)) (qa (pv 11 (by rfl) (by walk_at "vis") (by decide) (by decide)) (qa (pv 11 (by rfl) (by walk_at "vis") (by decide) (by decide)) qa_nil (by rfl)) (by rfl)) (by rfl))) (qa pe_str qa_nil (by rfl)) (by rfl)) (by rfl)) (by decide) (by rfl) (by rfl)) pe_non (nomark _))
          (qss_one (qs_ret pe_bl))
          qss_nil))))))))))))))) (by intro _; rfl))
      (qss_one (qs_ret pe_bl))))), ?_⟩
    try dsimp only [cxOf]
    walk_at "rq"
    refine ⟨p, ns, rfl, hq, hl, fun st H1 S1 s1 n1 => ?_⟩
    walk_at "rq"
    refine ⟨sz (by simp), fun t1 H2 n2 s2 e2 => ?_⟩
    walk_at "rq"
    refine ⟨sz (by simp), fun t2 H3 n3 s3 e3 => ?_⟩
    walk_at "rq"
    intro t3 H4 n4 s4 e4
    walk_at "rq"
    refine ⟨sz (by simp), fun lo H5 n5 s5 e5 => ?_⟩
    have S2 := S1.same s2
    have S3 := S2.same s3
    have S4 := S3.same s4
    have S5 := S4.same s5
    have m1 : t1 ∉ [st] := by simpa using S1.ne n2
    have m2 : t2 ∉ [st] := by simpa using S2.ne n3
    have m3 : t3 ∉ [st] := by simpa using S3.ne n4
    have ml : lo ∉ [st] := by simpa using S4.ne n5
    have dodd : DtAll K [st] H5 _ [.bool true, .bool false, .none, .str (Str.ofString "7"), .tuple [.int 7], .list [.int 7], .dict []] :=
      .cons (.bl true) (.cons (.bl false) (.cons .non (.cons (.str _) (.cons (.tup (SqT.of (((s3.trans s4).trans s5) _ _ e2)) m1 (.cons (.int 7) .nil)) (.cons (.lst (SqL.of ((s4.trans s5) _ _ e3)) m2 (.cons (.int 7) .nil)) (.cons (.dk0 (s5 _ _ e4) m3) .nil))))))
    have tr : ∀ {H' : Hp}, StOk K H' st → Trk K [st] H' st := fun s => Trk.one s
    walk_at "rq"
    refine ⟨by decide, by decide, ?_⟩
    refine for_rangeW (fun i σ' H' => ∃ o3 o4 o5 o6 o7 o8 o9 o10 o11 o12 : Option V, σ' = [some (.ref p), some (.ref st), some (.ref lo), o3, o4, o5, o6, o7, o8, o9, o10, o11, o12] ∧ StOk K H' st ∧ Ext [st] H5 H') ?_ ?_ ?_
    · exact ⟨none, none, none, none, none, none, none, none, none, none, rfl, S5, Ext.refl _⟩
    · rintro i0 σ' H6 hi ⟨o3, o4, o5, o6, o7, o8, o9, o10, o11, o12, rfl, S6, x6⟩
      walk_at "rq"
      refine ⟨st, rfl, S6, fun hp hs0 H7 ho0 hsm hd0 S7 x7 => ?_⟩
      obtain ⟨hs, ⟨ll, lf⟩, rfl⟩ := Mt.snoc_of ho0.len1
      have hdc := hd0
      have hb := ho0.bound (ll, lf) (by simp)
      dsimp only at hb
      cases hdc with
      | @tup _ xs _ hq hn hr =>
        have hr' := hr
        rw [List.map_append, List.map_cons, List.map_nil] at hr'
        obtain ⟨ws, y, rfl, r1, r2⟩ := DtAll.snoc hr'
        obtain ⟨q, rfl, hq2, _⟩ := Dt.pair r2
        walk_at "rq"
        refine rd_ixT hq (atI_last ws _) ?_
        walk_at "rq"
        refine ⟨st, 9, rfl, S7, by decide, by decide, ?_⟩
        intro w1 H8 a1 b1 S8 x8
        walk_at "rq"
        refine ⟨st, 9, rfl, S8, by decide, by decide, ?_⟩
        intro w2 H9 a2 b2 S9 x9
        walk_at "rq"
        refine ⟨sz (by simp), fun ln H10 n10 s10 e10 => ?_⟩
        have S10 := S9.same s10
        walk_at "rq"
        refine ⟨st, 9, rfl, S10, by decide, by decide, ?_⟩
        intro w3 H11 a3 b3 S11 x11
        walk_at "rq"
        refine ⟨sz (by simp), fun fk H12 n12 s12 e12 => ?_⟩
        have S12 := S11.same s12
        have kln : ln ∉ [st] := by simpa using S9.ne n10
        have kfk : fk ∉ [st] := by simpa using S11.ne n12
        walk_at "rq"
        refine ⟨st, 6, rfl, S12, by decide, by decide, ?_⟩
        intro w4 H13 a4 b4 S13 x13
        have x1012 : Ext [st] H10 H12 := x11.trans (Ext.same s12)
        have x1013 := x1012.trans x13
        have dln : DtAll K [st] H13 [.int (ll + 1), .int (ll + 1 + w1), .int ll, .int (ll - 1 - w2), .int (10 ^ (9 : Int).toNat), .int (10 ^ (9 : Int).toNat + 1)] [.int (ll + 1), .int (ll + 1 + w1), .int ll, .int (ll - 1 - w2), .int (10 ^ (9 : Int).toNat), .int (10 ^ (9 : Int).toNat + 1)] :=
          .cons (.int _) (.cons (.int _) (.cons (.int _) (.cons (.int _) (.cons (.int _) (.cons (.int _) .nil)))))
        obtain ⟨vl, el, f1, f2, f3⟩ := dln.atI (i := w4) a4 (by simpa using b4)
        have il : ∃ i, el = .int i := by
          simp only [List.mem_cons, List.not_mem_nil, or_false] at f2
          rcases f2 with rfl | rfl | rfl | rfl | rfl | rfl <;> exact ⟨_, rfl⟩
        refine rd_ixL (x1013.lst (SqL.of e10) kln) f1 ?_
        walk_at "rq"
        refine ⟨st, 7, rfl, S13, by decide, by decide, ?_⟩
        intro w5 H14 a5 b5 S14 x14
        have dfk : DtAll K [st] H14 [.int lf, .int (lf + w3), .int (lf - 1), .int (-1), .int (10 ^ (6 : Int).toNat), .int (10 ^ (6 : Int).toNat + 1), .int (10 ^ (40 : Int).toNat)] [.int lf, .int (lf + w3), .int (lf - 1), .int (-1), .int (10 ^ (6 : Int).toNat), .int (10 ^ (6 : Int).toNat + 1), .int (10 ^ (40 : Int).toNat)] :=
          .cons (.int _) (.cons (.int _) (.cons (.int _) (.cons (.int _) (.cons (.int _) (.cons (.int _) (.cons (.int _) .nil))))))
        obtain ⟨vf, ef, g1, g2, g3⟩ := dfk.atI (i := w5) a5 (by simpa using b5)
        have jf : ∃ i, ef = .int i := by
          simp only [List.mem_cons, List.not_mem_nil, or_false] at g2
          rcases g2 with rfl | rfl | rfl | rfl | rfl | rfl | rfl <;> exact ⟨_, rfl⟩
        have x1214 := x13.trans x14
        refine rd_ixL (x1214.lst (SqL.of e12) kfk) g1 ?_
        walk_at "rq"
        refine ⟨st, 7, rfl, S14, by decide, by decide, ?_⟩
        intro w6 H15 a6 b6 S15 x15
        have x0514 : Ext [st] H5 H15 := ((((x6.trans x7).trans (x8.trans x9)).trans (Ext.same s10)).trans x1012).trans (x1214.trans x15)
        obtain ⟨vs, es, h1, h2, h3⟩ := (dodd.ext x0514).atI (i := w6) a6 (by simpa using b6)
        have ns : Mt.numD es = false := by
          simp only [List.mem_cons, List.not_mem_nil, or_false] at h2
          rcases h2 with rfl | rfl | rfl | rfl | rfl | rfl | rfl <;> rfl
        refine rd_ixL (x0514.lst (SqL.of e5) ml) h1 ?_
        have x0715 : Ext [st] H7 H15 := (((x8.trans x9).trans (Ext.same s10)).trans x1012).trans (x1214.trans x15)
        have hd15 := hd0.ext x0715
        have f15 := f3.ext (x14.trans x15)
        have g15 := g3.ext x15
        walk_at "rq"
        have no : ∀ {P : Prop}, false = true → P := fun z => by cases z
        have no' : ∀ {P : Prop}, true = false → P := fun z => by cases z
        refine ⟨[st], hp, vl, vf, false, false, hs, ll, lf, el, ef, rfl, hd15, ho0, f15, g15, no, fun _ => il, no, fun _ => jf, fun H16 s16 => ?_⟩
        have x1016 : Ext [st] H10 H16 := ((x1013.trans x14).trans x15).trans (Ext.same s16)
        have x1216 : Ext [st] H12 H16 := (x1214.trans x15).trans (Ext.same s16)
        have ql := x1016.lst (SqL.of (K := K) e10) kln
        have qf := x1216.lst (SqL.of (K := K) e12) kfk
        walk_at "rq"
        refine ⟨[st], hp, _, _, false, false, hs, ll, lf, _, _, rfl, hd15.ext (Ext.same s16), ho0, .int _, .int _, no, fun _ => ⟨_, rfl⟩, no, fun _ => ⟨_, rfl⟩, fun H17 s17 => ?_⟩
        have t17 := s16.trans s17
        walk_at "rq"
        refine ⟨[st], hp, vs, vf, true, false, hs, ll, lf, es, ef, rfl, hd15.ext (Ext.same t17), ho0, h3.ext (Ext.same t17), g15.ext (Ext.same t17), fun _ => ns, no', no, fun _ => jf, fun H18 s18 => ?_⟩
        have t18 := t17.trans s18
        walk_at "rq"
        refine ⟨[st], hp, vl, vs, false, true, hs, ll, lf, el, es, rfl, hd15.ext (Ext.same t18), ho0, f15.ext (Ext.same t18), h3.ext (Ext.same t18), no, fun _ => il, fun _ => ns, no', fun H19 s19 => ?_⟩
        have t19 := t18.trans s19
        walk_at "rq"
        refine ⟨[st], hp, vs, vs, true, true, hs, ll, lf, es, es, rfl, hd15.ext (Ext.same t19), ho0, h3.ext (Ext.same t19), h3.ext (Ext.same t19), fun _ => ns, no', fun _ => ns, no', fun H20 s20 => ?_⟩
        have t20 := t19.trans s20
        have S20 := S15.same t20
        have hd20 := hd15.ext (Ext.same t20)
        have g60 := ho0.len2
        cases hd20 with
        | @tup _ xz _ hqz hnz hrz =>
          have hlz := hrz.length
          rw [List.length_map] at hlz
          walk_at "rq"
          intro c1 H21 hc1 s21 q21
          have lc := cutV_length xz none (some 1)
          have hqz21 := s21.tupS hqz
          refine rd_catG hqz21 q21 (sz (by omega)) fun r1 H22 hr1 s22 q22 => ?_
          have hqz22 := s22.tupS hqz21
          walk_at "rq"
          intro r2 H23 n23 s23 e23
          walk_at "rq"
          refine ⟨sz (by simp), fun r3 H24 n24 s24 e24 => ?_⟩
          walk_at "rq"
          refine ⟨sz (by simp), fun r4 H25 n25 s25 e25 => ?_⟩
          walk_at "rq"
          refine ⟨sz (by simp), fun r5 H26 n26 s26 e26 => ?_⟩
          walk_at "rq"
          refine ⟨sz (by simp), fun l3 H27 n27 s27 e27 => ?_⟩
          have S21 := S20.same s21
          have S22 := S21.same s22
          have S23 := S22.same s23
          have S24 := S23.same s24
          have S25 := S24.same s25
          have S26 := S25.same s26
          have S27 := S26.same s27
          have kc : c1 ∉ [st] := by
            rcases hc1 with rfl | z
            · exact hnz
            · simpa using S20.ne z
          have k1 : r1 ∉ [st] := by
            rcases hr1 with rfl | rfl | z
            · exact hnz
            · exact kc
            · simpa using S21.ne z
          have k2 : r2 ∉ [st] := by simpa using S22.ne n23
          have k3 : r3 ∉ [st] := by simpa using S23.ne n24
          have k4 : r4 ∉ [st] := by simpa using S24.ne n25
          have k5 : r5 ∉ [st] := by simpa using S25.ne n26
          have kl : l3 ∉ [st] := by simpa using S26.ne n27
          have u24 := (s25.trans s26).trans s27
          have u23 := s24.trans u24
          have u22 := s23.trans u23
          have u20 := (s21.trans s22).trans u22
          have hr27 := hrz.ext (Ext.same u20)
          have dal2 : DtAll K [st] H27 _ [.tuple ((hs ++ [(ll, lf)]).map Mt.pr ++ cutD ((hs ++ [(ll, lf)]).map Mt.pr) none (some 1)), .list ((hs ++ [(ll, lf)]).map Mt.pr), .none, .tuple [], .tuple [.tuple [.int 1, .int 1]]] :=
            .cons (.tup (u22.tupS q22) k1 (hr27.append (hr27.cut none (some 1)))) (.cons (.lst (SqL.of (u23 _ _ e23)) k2 hr27) (.cons .non (.cons (.tup (SqT.of (u24 _ _ e24)) k3 .nil) (.cons (.tup (SqT.of (s27 _ _ e26)) k5 (.cons (.tup (SqT.of ((s26.trans s27) _ _ e25)) k4 (.cons (.int 1) (.cons (.int 1) .nil))) .nil)) .nil))))
          walk_at "rq"
          refine ⟨st, 5, rfl, S27, by decide, by decide, ?_⟩
          intro w7 H28 a7 b7 S28 x28
          obtain ⟨v, dd, j1, j2, j3⟩ := (dal2.ext x28).atI (i := w7) a7 (by simpa using b7)
          refine rd_ixL (x28.lst (SqL.of e27) kl) j1 ?_
          have hno : Mt.histD dd = false := by
            simp only [List.mem_cons, List.not_mem_nil, or_false] at j2
            rcases j2 with rfl | rfl | rfl | rfl | rfl
            · obtain ⟨a0, r0, hz⟩ := ho0.zero
              rw [hz, List.map_cons, Mt.cut1]
              exact Mt.twice_not (a0, 0) r0
            · rfl
            · rfl
            · rfl
            · rfl
          have x1528 : Ext [st] H15 H28 := (Ext.same (t20.trans u20)).trans x28
          walk_at "rq"
          refine ⟨sz (by simp), fun h4 H29 n29 s29 e29 => ?_⟩
          have x1529 := x1528.trans (Ext.same s29)
          walk_at "rq"
          refine ⟨[st], h4, v, vl, vf, dd, el, ef, _, rfl, e29, j3.ext (Ext.same s29), f15.ext x1529, g15.ext x1529, .inl ⟨hno, rfl, fun x H30 s30 => ?_⟩⟩
          walk_at "rq"
          refine ⟨sz (by simp), fun h5 H31 n31 s31 e31 => ?_⟩
          have t31 := (s29.trans s30).trans s31
          have x1531 := x1528.trans (Ext.same t31)
          walk_at "rq"
          refine ⟨[st], h5, v, vs, vs, dd, es, es, _, rfl, e31, j3.ext (Ext.same t31), h3.ext x1531, h3.ext x1531, .inl ⟨hno, rfl, fun x2 H32 s32 => ?_⟩⟩
          walk_at "rq"
          exact ⟨_, _, _, _, _, _, _, _, _, _, rfl, S28.same (t31.trans s32), (x0514.trans x1531).trans (Ext.same s32)⟩
    · rintro σ' H4 ⟨o3, o4, o5, o6, o7, o8, o9, o10, o11, o12, rfl, S4, _⟩
      walk_at "rq"
      exact k _

end
theorem txt_mk {P : Program} {K : PySem.W.Frag} {h : Heap} {mg : Str → Option Value} (X : K.In h) (G : h.Ns mainGlobals mg)
    {f_is_number : Addr} {od_is_number an_is_number : Option Addr} {sl_is_number : Array (Option Value)} {oc_is_number kV_is_number dc_is_number pm_is_number cd_is_number ct_is_number : Value}
    {f_is_within : Addr} {od_is_within an_is_within : Option Addr} {sl_is_within : Array (Option Value)} {oc_is_within kV_is_within dc_is_within pm_is_within cd_is_within ct_is_within : Value}
    {f_is_place : Addr} {od_is_place an_is_place : Option Addr} {sl_is_place : Array (Option Value)} {oc_is_place kV_is_place dc_is_place pm_is_place cd_is_place ct_is_place : Value}
    {f_is_line : Addr} {od_is_line an_is_line : Option Addr} {sl_is_line : Array (Option Value)} {oc_is_line kV_is_line dc_is_line pm_is_line cd_is_line ct_is_line : Value}
    {f_is_line_and_place : Addr} {od_is_line_and_place an_is_line_and_place : Option Addr} {sl_is_line_and_place : Array (Option Value)} {oc_is_line_and_place kV_is_line_and_place dc_is_line_and_place pm_is_line_and_place cd_is_line_and_place ct_is_line_and_place : Value}
    {f_is_history : Addr} {od_is_history an_is_history : Option Addr} {sl_is_history : Array (Option Value)} {oc_is_history kV_is_history dc_is_history pm_is_history cd_is_history ct_is_history : Value}
    {f_require_history : Addr} {od_require_history an_require_history : Option Addr} {sl_require_history : Array (Option Value)} {oc_require_history kV_require_history dc_require_history pm_require_history cd_require_history ct_require_history : Value}
    {f_extended : Addr} {od_extended an_extended : Option Addr} {sl_extended : Array (Option Value)} {oc_extended kV_extended dc_extended pm_extended cd_extended ct_extended : Value}
    {f_law_state : Addr} {od_law_state an_law_state : Option Addr} {sl_law_state : Array (Option Value)} {oc_law_state kV_law_state dc_law_state pm_law_state cd_law_state ct_law_state : Value}
    {f_law_next : Addr} {od_law_next an_law_next : Option Addr} {sl_law_next : Array (Option Value)} {oc_law_next kV_law_next dc_law_next pm_law_next cd_law_next ct_law_next : Value}
    {f_law_history : Addr} {od_law_history an_law_history : Option Addr} {sl_law_history : Array (Option Value)} {oc_law_history kV_law_history dc_law_history pm_law_history cd_law_history ct_law_history : Value}
    {f_law_alike : Addr} {od_law_alike an_law_alike : Option Addr} {sl_law_alike : Array (Option Value)} {oc_law_alike kV_law_alike dc_law_alike pm_law_alike cd_law_alike ct_law_alike : Value}
    {f_law_error : Addr} {od_law_error an_law_error : Option Addr} {sl_law_error : Array (Option Value)} {oc_law_error kV_law_error dc_law_error pm_law_error cd_law_error ct_law_error : Value}
    {f_law_names : Addr} {od_law_names an_law_names : Option Addr} {sl_law_names : Array (Option Value)} {oc_law_names kV_law_names dc_law_names pm_law_names cd_law_names ct_law_names : Value}
    {f_law_refused : Addr} {od_law_refused an_law_refused : Option Addr} {sl_law_refused : Array (Option Value)} {oc_law_refused kV_law_refused dc_law_refused pm_law_refused cd_law_refused ct_law_refused : Value}
    {f_law_due : Addr} {od_law_due an_law_due : Option Addr} {sl_law_due : Array (Option Value)} {oc_law_due kV_law_due dc_law_due pm_law_due cd_law_due ct_law_due : Value}
    {f_law_right : Addr} {od_law_right an_law_right : Option Addr} {sl_law_right : Array (Option Value)} {oc_law_right kV_law_right dc_law_right pm_law_right cd_law_right ct_law_right : Value}
    {f_law : Addr} {od_law an_law : Option Addr} {sl_law : Array (Option Value)} {oc_law kV_law dc_law pm_law cd_law ct_law : Value}
    {C_Elder : Addr}
    {C_Full : Addr}
    {C_Gap : Addr}
    {C_LineError : Addr}
    {C_NoCount : Addr}
    {C_NoHistory : Addr}
    {C_NoPlace : Addr}
    {C_NoRow : Addr}
    {C_TooEarly : Addr}
    {C_TooOld : Addr}
    {I_Full cda_Full cc_Full : Addr} {oJ_Full aJ_Full oK_Full oL_Full : Option Addr} {sJ_Full sK_Full sL_Full : Array (Option Value)} {kJ_Full dJ_Full pJ_Full tJ_Full cK_Full cL_Full : Value} {vK_Full : Array Value} {fi_Full : Str} {ti_Full : Tok}
    {I_NoCount cda_NoCount cc_NoCount : Addr} {oJ_NoCount aJ_NoCount oK_NoCount oL_NoCount : Option Addr} {sJ_NoCount sK_NoCount sL_NoCount : Array (Option Value)} {kJ_NoCount dJ_NoCount pJ_NoCount tJ_NoCount cK_NoCount cL_NoCount : Value} {vK_NoCount : Array Value} {fi_NoCount : Str} {ti_NoCount : Tok}
    {I_NoHistory cda_NoHistory cc_NoHistory : Addr} {oJ_NoHistory aJ_NoHistory oK_NoHistory oL_NoHistory : Option Addr} {sJ_NoHistory sK_NoHistory sL_NoHistory : Array (Option Value)} {kJ_NoHistory dJ_NoHistory pJ_NoHistory tJ_NoHistory cK_NoHistory cL_NoHistory : Value} {vK_NoHistory : Array Value} {fi_NoHistory : Str} {ti_NoHistory : Tok}
    {u_LAST_LINE : Value}
    {u_LAST_PLACE : Value}
    {u_LINES : Value}
    (a_is_number : PySem.W.nsIn K mainGlobals "is_number" = some (some (.ref f_is_number)))
    (l_is_number : K.lookup f_is_number = some ⟨oc_is_number, od_is_number, .func (PySem.W.fnOf "is_number" "is_number" (defArgs s_is_number) (defBody s_is_number) (defScope s_is_number) .none kV_is_number dc_is_number pm_is_number an_is_number cd_is_number ct_is_number), sl_is_number⟩)
    (c_is_number : PySem.W.codeIn K cd_is_number "is_number" = true)
    (k_is_number : PySem.W.keepIn K (.ref f_is_number) = true)
    (a_is_within : PySem.W.nsIn K mainGlobals "is_within" = some (some (.ref f_is_within)))
    (l_is_within : K.lookup f_is_within = some ⟨oc_is_within, od_is_within, .func (PySem.W.fnOf "is_within" "is_within" (defArgs s_is_within) (defBody s_is_within) (defScope s_is_within) .none kV_is_within dc_is_within pm_is_within an_is_within cd_is_within ct_is_within), sl_is_within⟩)
    (c_is_within : PySem.W.codeIn K cd_is_within "is_within" = true)
    (k_is_within : PySem.W.keepIn K (.ref f_is_within) = true)
    (a_is_place : PySem.W.nsIn K mainGlobals "is_place" = some (some (.ref f_is_place)))
    (l_is_place : K.lookup f_is_place = some ⟨oc_is_place, od_is_place, .func (PySem.W.fnOf "is_place" "is_place" (defArgs s_is_place) (defBody s_is_place) (defScope s_is_place) .none kV_is_place dc_is_place pm_is_place an_is_place cd_is_place ct_is_place), sl_is_place⟩)
    (c_is_place : PySem.W.codeIn K cd_is_place "is_place" = true)
    (k_is_place : PySem.W.keepIn K (.ref f_is_place) = true)
    (a_is_line : PySem.W.nsIn K mainGlobals "is_line" = some (some (.ref f_is_line)))
    (l_is_line : K.lookup f_is_line = some ⟨oc_is_line, od_is_line, .func (PySem.W.fnOf "is_line" "is_line" (defArgs s_is_line) (defBody s_is_line) (defScope s_is_line) .none kV_is_line dc_is_line pm_is_line an_is_line cd_is_line ct_is_line), sl_is_line⟩)
    (c_is_line : PySem.W.codeIn K cd_is_line "is_line" = true)
    (k_is_line : PySem.W.keepIn K (.ref f_is_line) = true)
    (a_is_line_and_place : PySem.W.nsIn K mainGlobals "is_line_and_place" = some (some (.ref f_is_line_and_place)))
    (l_is_line_and_place : K.lookup f_is_line_and_place = some ⟨oc_is_line_and_place, od_is_line_and_place, .func (PySem.W.fnOf "is_line_and_place" "is_line_and_place" (defArgs s_is_line_and_place) (defBody s_is_line_and_place) (defScope s_is_line_and_place) .none kV_is_line_and_place dc_is_line_and_place pm_is_line_and_place an_is_line_and_place cd_is_line_and_place ct_is_line_and_place), sl_is_line_and_place⟩)
    (c_is_line_and_place : PySem.W.codeIn K cd_is_line_and_place "is_line_and_place" = true)
    (k_is_line_and_place : PySem.W.keepIn K (.ref f_is_line_and_place) = true)
    (a_is_history : PySem.W.nsIn K mainGlobals "is_history" = some (some (.ref f_is_history)))
    (l_is_history : K.lookup f_is_history = some ⟨oc_is_history, od_is_history, .func (PySem.W.fnOf "is_history" "is_history" (defArgs s_is_history) (defBody s_is_history) (defScope s_is_history) .none kV_is_history dc_is_history pm_is_history an_is_history cd_is_history ct_is_history), sl_is_history⟩)
    (c_is_history : PySem.W.codeIn K cd_is_history "is_history" = true)
    (k_is_history : PySem.W.keepIn K (.ref f_is_history) = true)
    (a_require_history : PySem.W.nsIn K mainGlobals "require_history" = some (some (.ref f_require_history)))
    (l_require_history : K.lookup f_require_history = some ⟨oc_require_history, od_require_history, .func (PySem.W.fnOf "require_history" "require_history" (defArgs s_require_history) (defBody s_require_history) (defScope s_require_history) .none kV_require_history dc_require_history pm_require_history an_require_history cd_require_history ct_require_history), sl_require_history⟩)
    (c_require_history : PySem.W.codeIn K cd_require_history "require_history" = true)
    (k_require_history : PySem.W.keepIn K (.ref f_require_history) = true)
    (a_extended : PySem.W.nsIn K mainGlobals "extended" = some (some (.ref f_extended)))
    (l_extended : K.lookup f_extended = some ⟨oc_extended, od_extended, .func (PySem.W.fnOf "extended" "extended" (defArgs s_extended) (defBody s_extended) (defScope s_extended) .none kV_extended dc_extended pm_extended an_extended cd_extended ct_extended), sl_extended⟩)
    (c_extended : PySem.W.codeIn K cd_extended "extended" = true)
    (k_extended : PySem.W.keepIn K (.ref f_extended) = true)
    (a_law_state : PySem.W.nsIn K mainGlobals "_law_state" = some (some (.ref f_law_state)))
    (l_law_state : K.lookup f_law_state = some ⟨oc_law_state, od_law_state, .func (PySem.W.fnOf "_law_state" "_law_state" (defArgs s_law_state) (defBody s_law_state) (defScope s_law_state) .none kV_law_state dc_law_state pm_law_state an_law_state cd_law_state ct_law_state), sl_law_state⟩)
    (c_law_state : PySem.W.codeIn K cd_law_state "_law_state" = true)
    (k_law_state : PySem.W.keepIn K (.ref f_law_state) = true)
    (a_law_next : PySem.W.nsIn K mainGlobals "_law_next" = some (some (.ref f_law_next)))
    (l_law_next : K.lookup f_law_next = some ⟨oc_law_next, od_law_next, .func (PySem.W.fnOf "_law_next" "_law_next" (defArgs s_law_next) (defBody s_law_next) (defScope s_law_next) .none kV_law_next dc_law_next pm_law_next an_law_next cd_law_next ct_law_next), sl_law_next⟩)
    (c_law_next : PySem.W.codeIn K cd_law_next "_law_next" = true)
    (k_law_next : PySem.W.keepIn K (.ref f_law_next) = true)
    (a_law_history : PySem.W.nsIn K mainGlobals "_law_history" = some (some (.ref f_law_history)))
    (l_law_history : K.lookup f_law_history = some ⟨oc_law_history, od_law_history, .func (PySem.W.fnOf "_law_history" "_law_history" (defArgs s_law_history) (defBody s_law_history) (defScope s_law_history) .none kV_law_history dc_law_history pm_law_history an_law_history cd_law_history ct_law_history), sl_law_history⟩)
    (c_law_history : PySem.W.codeIn K cd_law_history "_law_history" = true)
    (k_law_history : PySem.W.keepIn K (.ref f_law_history) = true)
    (a_law_alike : PySem.W.nsIn K mainGlobals "_law_alike" = some (some (.ref f_law_alike)))
    (l_law_alike : K.lookup f_law_alike = some ⟨oc_law_alike, od_law_alike, .func (PySem.W.fnOf "_law_alike" "_law_alike" (defArgs s_law_alike) (defBody s_law_alike) (defScope s_law_alike) .none kV_law_alike dc_law_alike pm_law_alike an_law_alike cd_law_alike ct_law_alike), sl_law_alike⟩)
    (c_law_alike : PySem.W.codeIn K cd_law_alike "_law_alike" = true)
    (k_law_alike : PySem.W.keepIn K (.ref f_law_alike) = true)
    (a_law_error : PySem.W.nsIn K mainGlobals "_law_error" = some (some (.ref f_law_error)))
    (l_law_error : K.lookup f_law_error = some ⟨oc_law_error, od_law_error, .func (PySem.W.fnOf "_law_error" "_law_error" (defArgs s_law_error) (defBody s_law_error) (defScope s_law_error) .none kV_law_error dc_law_error pm_law_error an_law_error cd_law_error ct_law_error), sl_law_error⟩)
    (c_law_error : PySem.W.codeIn K cd_law_error "_law_error" = true)
    (k_law_error : PySem.W.keepIn K (.ref f_law_error) = true)
    (a_law_names : PySem.W.nsIn K mainGlobals "_law_names" = some (some (.ref f_law_names)))
    (l_law_names : K.lookup f_law_names = some ⟨oc_law_names, od_law_names, .func (PySem.W.fnOf "_law_names" "_law_names" (defArgs s_law_names) (defBody s_law_names) (defScope s_law_names) .none kV_law_names dc_law_names pm_law_names an_law_names cd_law_names ct_law_names), sl_law_names⟩)
    (c_law_names : PySem.W.codeIn K cd_law_names "_law_names" = true)
    (k_law_names : PySem.W.keepIn K (.ref f_law_names) = true)
    (a_law_refused : PySem.W.nsIn K mainGlobals "_law_refused" = some (some (.ref f_law_refused)))
    (l_law_refused : K.lookup f_law_refused = some ⟨oc_law_refused, od_law_refused, .func (PySem.W.fnOf "_law_refused" "_law_refused" (defArgs s_law_refused) (defBody s_law_refused) (defScope s_law_refused) .none kV_law_refused dc_law_refused pm_law_refused an_law_refused cd_law_refused ct_law_refused), sl_law_refused⟩)
    (c_law_refused : PySem.W.codeIn K cd_law_refused "_law_refused" = true)
    (k_law_refused : PySem.W.keepIn K (.ref f_law_refused) = true)
    (a_law_due : PySem.W.nsIn K mainGlobals "_law_due" = some (some (.ref f_law_due)))
    (l_law_due : K.lookup f_law_due = some ⟨oc_law_due, od_law_due, .func (PySem.W.fnOf "_law_due" "_law_due" (defArgs s_law_due) (defBody s_law_due) (defScope s_law_due) .none kV_law_due dc_law_due pm_law_due an_law_due cd_law_due ct_law_due), sl_law_due⟩)
    (c_law_due : PySem.W.codeIn K cd_law_due "_law_due" = true)
    (k_law_due : PySem.W.keepIn K (.ref f_law_due) = true)
    (a_law_right : PySem.W.nsIn K mainGlobals "_law_right" = some (some (.ref f_law_right)))
    (l_law_right : K.lookup f_law_right = some ⟨oc_law_right, od_law_right, .func (PySem.W.fnOf "_law_right" "_law_right" (defArgs s_law_right) (defBody s_law_right) (defScope s_law_right) .none kV_law_right dc_law_right pm_law_right an_law_right cd_law_right ct_law_right), sl_law_right⟩)
    (c_law_right : PySem.W.codeIn K cd_law_right "_law_right" = true)
    (k_law_right : PySem.W.keepIn K (.ref f_law_right) = true)
    (a_law : PySem.W.nsIn K mainGlobals "law" = some (some (.ref f_law)))
    (l_law : K.lookup f_law = some ⟨oc_law, od_law, .func (PySem.W.fnOf "law" "law" (defArgs s_law) (defBody s_law) (defScope s_law) .none kV_law dc_law pm_law an_law cd_law ct_law), sl_law⟩)
    (c_law : PySem.W.codeIn K cd_law "law" = true)
    (k_law : PySem.W.keepIn K (.ref f_law) = true)
    (z_ValueError : PySem.W.nsIn K mainGlobals "ValueError" = some none)
    (z_all : PySem.W.nsIn K mainGlobals "all" = some none)
    (z_bool : PySem.W.nsIn K mainGlobals "bool" = some none)
    (z_int : PySem.W.nsIn K mainGlobals "int" = some none)
    (z_isinstance : PySem.W.nsIn K mainGlobals "isinstance" = some none)
    (z_len : PySem.W.nsIn K mainGlobals "len" = some none)
    (z_list : PySem.W.nsIn K mainGlobals "list" = some none)
    (z_min : PySem.W.nsIn K mainGlobals "min" = some none)
    (z_range : PySem.W.nsIn K mainGlobals "range" = some none)
    (z_str : PySem.W.nsIn K mainGlobals "str" = some none)
    (z_tuple : PySem.W.nsIn K mainGlobals "tuple" = some none)
    (z_zip : PySem.W.nsIn K mainGlobals "zip" = some none)
    (vC_Elder : PySem.W.nsIn K mainGlobals "Elder" = some (some (.ref C_Elder)))
    (vC_Full : PySem.W.nsIn K mainGlobals "Full" = some (some (.ref C_Full)))
    (vC_Gap : PySem.W.nsIn K mainGlobals "Gap" = some (some (.ref C_Gap)))
    (vC_LineError : PySem.W.nsIn K mainGlobals "LineError" = some (some (.ref C_LineError)))
    (vC_NoCount : PySem.W.nsIn K mainGlobals "NoCount" = some (some (.ref C_NoCount)))
    (vC_NoHistory : PySem.W.nsIn K mainGlobals "NoHistory" = some (some (.ref C_NoHistory)))
    (vC_NoPlace : PySem.W.nsIn K mainGlobals "NoPlace" = some (some (.ref C_NoPlace)))
    (vC_NoRow : PySem.W.nsIn K mainGlobals "NoRow" = some (some (.ref C_NoRow)))
    (vC_TooEarly : PySem.W.nsIn K mainGlobals "TooEarly" = some (some (.ref C_TooEarly)))
    (vC_TooOld : PySem.W.nsIn K mainGlobals "TooOld" = some (some (.ref C_TooOld)))
    (zsu : PySem.W.nsIn K mainGlobals "super" = some none)
    (ztp : (P.main.scope.names.lookup ("super" : Str)).isSome = false)
    (fI_Full : PySem.W.findIn K (.ref C_Full) "__init__" = some (some (.ref I_Full)))
    (lI_Full : K.lookup I_Full = some ⟨.type "function", oJ_Full, .func (PySem.W.ksFn "__init__" "Full.__init__" (defArgs t_Full) (defBody t_Full) (defScope t_Full) .none kJ_Full dJ_Full pJ_Full aJ_Full (.ref cda_Full) tJ_Full cc_Full), sJ_Full⟩)
    (cI_Full : PySem.W.codeIn K (.ref cda_Full) "Full.__init__" = true)
    (hI_Full : K.lookup cda_Full = some ⟨cK_Full, oK_Full, .fields vK_Full, sK_Full⟩)
    (vI_Full : vK_Full[2]? = some (.str fi_Full ti_Full))
    (eI_Full : ((P.main.file : Str) == fi_Full) = true)
    (gI_Full : K.lookup cc_Full = some ⟨cL_Full, oL_Full, .cell (some (.ref C_Full)), sL_Full⟩)
    (xk_Full : xk1In K C_Full C_LineError "what" = true)
    (xi_Full : xcIn K C_Full (some (.ref I_Full)) = true)
    (kC_Full : PySem.W.keepIn K (.ref C_Full) = true)
    (fI_NoCount : PySem.W.findIn K (.ref C_NoCount) "__init__" = some (some (.ref I_NoCount)))
    (lI_NoCount : K.lookup I_NoCount = some ⟨.type "function", oJ_NoCount, .func (PySem.W.ksFn "__init__" "NoCount.__init__" (defArgs t_NoCount) (defBody t_NoCount) (defScope t_NoCount) .none kJ_NoCount dJ_NoCount pJ_NoCount aJ_NoCount (.ref cda_NoCount) tJ_NoCount cc_NoCount), sJ_NoCount⟩)
    (cI_NoCount : PySem.W.codeIn K (.ref cda_NoCount) "NoCount.__init__" = true)
    (hI_NoCount : K.lookup cda_NoCount = some ⟨cK_NoCount, oK_NoCount, .fields vK_NoCount, sK_NoCount⟩)
    (vI_NoCount : vK_NoCount[2]? = some (.str fi_NoCount ti_NoCount))
    (eI_NoCount : ((P.main.file : Str) == fi_NoCount) = true)
    (gI_NoCount : K.lookup cc_NoCount = some ⟨cL_NoCount, oL_NoCount, .cell (some (.ref C_NoCount)), sL_NoCount⟩)
    (xk_NoCount : xk1In K C_NoCount C_LineError "what" = true)
    (xi_NoCount : xcIn K C_NoCount (some (.ref I_NoCount)) = true)
    (kC_NoCount : PySem.W.keepIn K (.ref C_NoCount) = true)
    (fI_NoHistory : PySem.W.findIn K (.ref C_NoHistory) "__init__" = some (some (.ref I_NoHistory)))
    (lI_NoHistory : K.lookup I_NoHistory = some ⟨.type "function", oJ_NoHistory, .func (PySem.W.ksFn "__init__" "NoHistory.__init__" (defArgs t_NoHistory) (defBody t_NoHistory) (defScope t_NoHistory) .none kJ_NoHistory dJ_NoHistory pJ_NoHistory aJ_NoHistory (.ref cda_NoHistory) tJ_NoHistory cc_NoHistory), sJ_NoHistory⟩)
    (cI_NoHistory : PySem.W.codeIn K (.ref cda_NoHistory) "NoHistory.__init__" = true)
    (hI_NoHistory : K.lookup cda_NoHistory = some ⟨cK_NoHistory, oK_NoHistory, .fields vK_NoHistory, sK_NoHistory⟩)
    (vI_NoHistory : vK_NoHistory[2]? = some (.str fi_NoHistory ti_NoHistory))
    (eI_NoHistory : ((P.main.file : Str) == fi_NoHistory) = true)
    (gI_NoHistory : K.lookup cc_NoHistory = some ⟨cL_NoHistory, oL_NoHistory, .cell (some (.ref C_NoHistory)), sL_NoHistory⟩)
    (xk_NoHistory : xk1In K C_NoHistory C_LineError "zzplace" = true)
    (xi_NoHistory : xcIn K C_NoHistory (some (.ref I_NoHistory)) = true)
    (kC_NoHistory : PySem.W.keepIn K (.ref C_NoHistory) = true)
    (xg_Full : xgIn K C_Full = true)
    (ex_Full_LineError : PySem.W.exmOne K (.ref C_Full) (.ref C_LineError) = some true)
    (is_Full_Elder : PySem.W.kitOne K (.ref C_Full) (.ref C_Elder) = some false)
    (is_Full_Full : PySem.W.kitOne K (.ref C_Full) (.ref C_Full) = some true)
    (is_Full_Gap : PySem.W.kitOne K (.ref C_Full) (.ref C_Gap) = some false)
    (is_Full_NoCount : PySem.W.kitOne K (.ref C_Full) (.ref C_NoCount) = some false)
    (is_Full_NoHistory : PySem.W.kitOne K (.ref C_Full) (.ref C_NoHistory) = some false)
    (is_Full_NoPlace : PySem.W.kitOne K (.ref C_Full) (.ref C_NoPlace) = some false)
    (is_Full_NoRow : PySem.W.kitOne K (.ref C_Full) (.ref C_NoRow) = some false)
    (is_Full_TooEarly : PySem.W.kitOne K (.ref C_Full) (.ref C_TooEarly) = some false)
    (is_Full_TooOld : PySem.W.kitOne K (.ref C_Full) (.ref C_TooOld) = some false)
    (is_Full_ValueError : PySem.W.kitOne K (.ref C_Full) (.type "ValueError") = some true)
    (xg_NoCount : xgIn K C_NoCount = true)
    (ex_NoCount_LineError : PySem.W.exmOne K (.ref C_NoCount) (.ref C_LineError) = some true)
    (is_NoCount_Elder : PySem.W.kitOne K (.ref C_NoCount) (.ref C_Elder) = some false)
    (is_NoCount_Full : PySem.W.kitOne K (.ref C_NoCount) (.ref C_Full) = some false)
    (is_NoCount_Gap : PySem.W.kitOne K (.ref C_NoCount) (.ref C_Gap) = some false)
    (is_NoCount_NoCount : PySem.W.kitOne K (.ref C_NoCount) (.ref C_NoCount) = some true)
    (is_NoCount_NoHistory : PySem.W.kitOne K (.ref C_NoCount) (.ref C_NoHistory) = some false)
    (is_NoCount_NoPlace : PySem.W.kitOne K (.ref C_NoCount) (.ref C_NoPlace) = some false)
    (is_NoCount_NoRow : PySem.W.kitOne K (.ref C_NoCount) (.ref C_NoRow) = some false)
    (is_NoCount_TooEarly : PySem.W.kitOne K (.ref C_NoCount) (.ref C_TooEarly) = some false)
    (is_NoCount_TooOld : PySem.W.kitOne K (.ref C_NoCount) (.ref C_TooOld) = some false)
    (is_NoCount_ValueError : PySem.W.kitOne K (.ref C_NoCount) (.type "ValueError") = some true)
    (xg_NoHistory : xgIn K C_NoHistory = true)
    (ex_NoHistory_LineError : PySem.W.exmOne K (.ref C_NoHistory) (.ref C_LineError) = some true)
    (is_NoHistory_Elder : PySem.W.kitOne K (.ref C_NoHistory) (.ref C_Elder) = some false)
    (is_NoHistory_Full : PySem.W.kitOne K (.ref C_NoHistory) (.ref C_Full) = some false)
    (is_NoHistory_Gap : PySem.W.kitOne K (.ref C_NoHistory) (.ref C_Gap) = some false)
    (is_NoHistory_NoCount : PySem.W.kitOne K (.ref C_NoHistory) (.ref C_NoCount) = some false)
    (is_NoHistory_NoHistory : PySem.W.kitOne K (.ref C_NoHistory) (.ref C_NoHistory) = some true)
    (is_NoHistory_NoPlace : PySem.W.kitOne K (.ref C_NoHistory) (.ref C_NoPlace) = some false)
    (is_NoHistory_NoRow : PySem.W.kitOne K (.ref C_NoHistory) (.ref C_NoRow) = some false)
    (is_NoHistory_TooEarly : PySem.W.kitOne K (.ref C_NoHistory) (.ref C_TooEarly) = some false)
    (is_NoHistory_TooOld : PySem.W.kitOne K (.ref C_NoHistory) (.ref C_TooOld) = some false)
    (is_NoHistory_ValueError : PySem.W.kitOne K (.ref C_NoHistory) (.type "ValueError") = some true)
    (v_LAST_LINE : PySem.W.nsIn K mainGlobals "LAST_LINE" = some (some u_LAST_LINE))
    (r_LAST_LINE : RelV (.int 1000000000) u_LAST_LINE)
    (v_LAST_PLACE : PySem.W.nsIn K mainGlobals "LAST_PLACE" = some (some u_LAST_PLACE))
    (r_LAST_PLACE : RelV (.int 1000000) u_LAST_PLACE)
    (v_LINES : PySem.W.nsIn K mainGlobals "LINES" = some (some u_LINES))
    (r_LINES : RelV (.int 60) u_LINES) :
    ∃ a, Txt P K mg a := by
  exact ⟨⟨f_is_number, PySem.W.fnOf "is_number" "is_number" (defArgs s_is_number) (defBody s_is_number) (defScope s_is_number) .none kV_is_number dc_is_number pm_is_number an_is_number cd_is_number ct_is_number, f_is_within, PySem.W.fnOf "is_within" "is_within" (defArgs s_is_within) (defBody s_is_within) (defScope s_is_within) .none kV_is_within dc_is_within pm_is_within an_is_within cd_is_within ct_is_within, f_is_place, PySem.W.fnOf "is_place" "is_place" (defArgs s_is_place) (defBody s_is_place) (defScope s_is_place) .none kV_is_place dc_is_place pm_is_place an_is_place cd_is_place ct_is_place, f_is_line, PySem.W.fnOf "is_line" "is_line" (defArgs s_is_line) (defBody s_is_line) (defScope s_is_line) .none kV_is_line dc_is_line pm_is_line an_is_line cd_is_line ct_is_line, f_is_line_and_place, PySem.W.fnOf "is_line_and_place" "is_line_and_place" (defArgs s_is_line_and_place) (defBody s_is_line_and_place) (defScope s_is_line_and_place) .none kV_is_line_and_place dc_is_line_and_place pm_is_line_and_place an_is_line_and_place cd_is_line_and_place ct_is_line_and_place, f_is_history, PySem.W.fnOf "is_history" "is_history" (defArgs s_is_history) (defBody s_is_history) (defScope s_is_history) .none kV_is_history dc_is_history pm_is_history an_is_history cd_is_history ct_is_history, f_require_history, PySem.W.fnOf "require_history" "require_history" (defArgs s_require_history) (defBody s_require_history) (defScope s_require_history) .none kV_require_history dc_require_history pm_require_history an_require_history cd_require_history ct_require_history, f_extended, PySem.W.fnOf "extended" "extended" (defArgs s_extended) (defBody s_extended) (defScope s_extended) .none kV_extended dc_extended pm_extended an_extended cd_extended ct_extended, f_law_state, PySem.W.fnOf "_law_state" "_law_state" (defArgs s_law_state) (defBody s_law_state) (defScope s_law_state) .none kV_law_state dc_law_state pm_law_state an_law_state cd_law_state ct_law_state, f_law_next, PySem.W.fnOf "_law_next" "_law_next" (defArgs s_law_next) (defBody s_law_next) (defScope s_law_next) .none kV_law_next dc_law_next pm_law_next an_law_next cd_law_next ct_law_next, f_law_history, PySem.W.fnOf "_law_history" "_law_history" (defArgs s_law_history) (defBody s_law_history) (defScope s_law_history) .none kV_law_history dc_law_history pm_law_history an_law_history cd_law_history ct_law_history, f_law_alike, PySem.W.fnOf "_law_alike" "_law_alike" (defArgs s_law_alike) (defBody s_law_alike) (defScope s_law_alike) .none kV_law_alike dc_law_alike pm_law_alike an_law_alike cd_law_alike ct_law_alike, f_law_error, PySem.W.fnOf "_law_error" "_law_error" (defArgs s_law_error) (defBody s_law_error) (defScope s_law_error) .none kV_law_error dc_law_error pm_law_error an_law_error cd_law_error ct_law_error, f_law_names, PySem.W.fnOf "_law_names" "_law_names" (defArgs s_law_names) (defBody s_law_names) (defScope s_law_names) .none kV_law_names dc_law_names pm_law_names an_law_names cd_law_names ct_law_names, f_law_refused, PySem.W.fnOf "_law_refused" "_law_refused" (defArgs s_law_refused) (defBody s_law_refused) (defScope s_law_refused) .none kV_law_refused dc_law_refused pm_law_refused an_law_refused cd_law_refused ct_law_refused, f_law_due, PySem.W.fnOf "_law_due" "_law_due" (defArgs s_law_due) (defBody s_law_due) (defScope s_law_due) .none kV_law_due dc_law_due pm_law_due an_law_due cd_law_due ct_law_due, f_law_right, PySem.W.fnOf "_law_right" "_law_right" (defArgs s_law_right) (defBody s_law_right) (defScope s_law_right) .none kV_law_right dc_law_right pm_law_right an_law_right cd_law_right ct_law_right, f_law, PySem.W.fnOf "law" "law" (defArgs s_law) (defBody s_law) (defScope s_law) .none kV_law dc_law pm_law an_law cd_law ct_law, u_LAST_LINE, u_LAST_PLACE, u_LINES, C_Elder, C_Full, C_Gap, C_LineError, C_NoCount, C_NoHistory, C_NoPlace, C_NoRow, C_TooEarly, C_TooOld, I_Full, I_NoCount, I_NoHistory⟩,
    ⟨PySem.W.mg_of X G vC_Elder,
     PySem.W.mg_of X G vC_Full,
     PySem.W.mg_of X G vC_Gap,
     PySem.W.mg_of X G vC_LineError,
     PySem.W.mg_of X G vC_NoCount,
     PySem.W.mg_of X G vC_NoHistory,
     PySem.W.mg_of X G vC_NoPlace,
     PySem.W.mg_of X G vC_NoRow,
     PySem.W.mg_of X G vC_TooEarly,
     PySem.W.mg_of X G vC_TooOld,
     xini_mk ib_Full xk_Full xi_Full kC_Full zsu ztp lI_Full cI_Full hI_Full vI_Full eI_Full gI_Full,
     xini_mk ib_NoCount xk_NoCount xi_NoCount kC_NoCount zsu ztp lI_NoCount cI_NoCount hI_NoCount vI_NoCount eI_NoCount gI_NoCount,
     xini0_mk ib_NoHistory xk_NoHistory xi_NoHistory kC_NoHistory zsu ztp lI_NoHistory cI_NoHistory hI_NoHistory vI_NoHistory eI_NoHistory gI_NoHistory,
     xg_of xg_Full,
     ex_Full_LineError,
     is_Full_Elder,
     is_Full_Full,
     is_Full_Gap,
     is_Full_NoCount,
     is_Full_NoHistory,
     is_Full_NoPlace,
     is_Full_NoRow,
     is_Full_TooEarly,
     is_Full_TooOld,
     is_Full_ValueError,
     xg_of xg_NoCount,
     ex_NoCount_LineError,
     is_NoCount_Elder,
     is_NoCount_Full,
     is_NoCount_Gap,
     is_NoCount_NoCount,
     is_NoCount_NoHistory,
     is_NoCount_NoPlace,
     is_NoCount_NoRow,
     is_NoCount_TooEarly,
     is_NoCount_TooOld,
     is_NoCount_ValueError,
     xg_of xg_NoHistory,
     ex_NoHistory_LineError,
     is_NoHistory_Elder,
     is_NoHistory_Full,
     is_NoHistory_Gap,
     is_NoHistory_NoCount,
     is_NoHistory_NoHistory,
     is_NoHistory_NoPlace,
     is_NoHistory_NoRow,
     is_NoHistory_TooEarly,
     is_NoHistory_TooOld,
     is_NoHistory_ValueError,
     ⟨PySem.W.mg_of X G v_LAST_LINE, r_LAST_LINE⟩,
     ⟨PySem.W.mg_of X G v_LAST_PLACE, r_LAST_PLACE⟩,
     ⟨PySem.W.mg_of X G v_LINES, r_LINES⟩,
     PySem.W.mg_none_of X G z_ValueError,
     PySem.W.mg_none_of X G z_all,
     PySem.W.mg_none_of X G z_bool,
     PySem.W.mg_none_of X G z_int,
     PySem.W.mg_none_of X G z_isinstance,
     PySem.W.mg_none_of X G z_len,
     PySem.W.mg_none_of X G z_list,
     PySem.W.mg_none_of X G z_min,
     PySem.W.mg_none_of X G z_range,
     PySem.W.mg_none_of X G z_str,
     PySem.W.mg_none_of X G z_tuple,
     PySem.W.mg_none_of X G z_zip,
     fun_mk (st := s_is_number) l_is_number c_is_number k_is_number,
     PySem.W.mg_of X G a_is_number,
     k_is_number,
     (fun_mk (st := s_is_number) l_is_number c_is_number k_is_number).binds (ps := ["thing"]) fun _ _ _ _ _ _ us hl => match us, hl with | [_], _ => rfl,
     fun_mk (st := s_is_within) l_is_within c_is_within k_is_within,
     PySem.W.mg_of X G a_is_within,
     k_is_within,
     (fun_mk (st := s_is_within) l_is_within c_is_within k_is_within).binds (ps := ["thing", "least", "most"]) fun _ _ _ _ _ _ us hl => match us, hl with | [_, _, _], _ => rfl,
     fun_mk (st := s_is_place) l_is_place c_is_place k_is_place,
     PySem.W.mg_of X G a_is_place,
     k_is_place,
     (fun_mk (st := s_is_place) l_is_place c_is_place k_is_place).binds (ps := ["thing"]) fun _ _ _ _ _ _ us hl => match us, hl with | [_], _ => rfl,
     fun_mk (st := s_is_line) l_is_line c_is_line k_is_line,
     PySem.W.mg_of X G a_is_line,
     k_is_line,
     (fun_mk (st := s_is_line) l_is_line c_is_line k_is_line).binds (ps := ["thing"]) fun _ _ _ _ _ _ us hl => match us, hl with | [_], _ => rfl,
     fun_mk (st := s_is_line_and_place) l_is_line_and_place c_is_line_and_place k_is_line_and_place,
     PySem.W.mg_of X G a_is_line_and_place,
     k_is_line_and_place,
     (fun_mk (st := s_is_line_and_place) l_is_line_and_place c_is_line_and_place k_is_line_and_place).binds (ps := ["thing"]) fun _ _ _ _ _ _ us hl => match us, hl with | [_], _ => rfl,
     fun_mk (st := s_is_history) l_is_history c_is_history k_is_history,
     PySem.W.mg_of X G a_is_history,
     k_is_history,
     (fun_mk (st := s_is_history) l_is_history c_is_history k_is_history).binds (ps := ["thing"]) fun _ _ _ _ _ _ us hl => match us, hl with | [_], _ => rfl,
     fun_mk (st := s_require_history) l_require_history c_require_history k_require_history,
     PySem.W.mg_of X G a_require_history,
     k_require_history,
     (fun_mk (st := s_require_history) l_require_history c_require_history k_require_history).binds (ps := ["thing"]) fun _ _ _ _ _ _ us hl => match us, hl with | [_], _ => rfl,
     fun_mk (st := s_extended) l_extended c_extended k_extended,
     PySem.W.mg_of X G a_extended,
     k_extended,
     (fun_mk (st := s_extended) l_extended c_extended k_extended).binds (ps := ["history", "line", "fork"]) fun _ _ _ _ _ _ us hl => match us, hl with | [_, _, _], _ => rfl,
     fun_mk (st := s_law_state) l_law_state c_law_state k_law_state,
     PySem.W.mg_of X G a_law_state,
     k_law_state,
     (fun_mk (st := s_law_state) l_law_state c_law_state k_law_state).binds (ps := ["_law_script"]) fun _ _ _ _ _ _ us hl => match us, hl with | [_], _ => rfl,
     fun_mk (st := s_law_next) l_law_next c_law_next k_law_next,
     PySem.W.mg_of X G a_law_next,
     k_law_next,
     (fun_mk (st := s_law_next) l_law_next c_law_next k_law_next).binds (ps := ["_law_state_here", "_law_below"]) fun _ _ _ _ _ _ us hl => match us, hl with | [_, _], _ => rfl,
     fun_mk (st := s_law_history) l_law_history c_law_history k_law_history,
     PySem.W.mg_of X G a_law_history,
     k_law_history,
     (fun_mk (st := s_law_history) l_law_history c_law_history k_law_history).binds (ps := ["_law_state_here"]) fun _ _ _ _ _ _ us hl => match us, hl with | [_], _ => rfl,
     fun_mk (st := s_law_alike) l_law_alike c_law_alike k_law_alike,
     PySem.W.mg_of X G a_law_alike,
     k_law_alike,
     (fun_mk (st := s_law_alike) l_law_alike c_law_alike k_law_alike).binds (ps := ["_law_found", "_law_due_here"]) fun _ _ _ _ _ _ us hl => match us, hl with | [_, _], _ => rfl,
     fun_mk (st := s_law_error) l_law_error c_law_error k_law_error,
     PySem.W.mg_of X G a_law_error,
     k_law_error,
     (fun_mk (st := s_law_error) l_law_error c_law_error k_law_error).binds (ps := ["_law_call", "_law_handed"]) fun _ _ _ _ _ _ us hl => match us, hl with | [_, _], _ => rfl,
     fun_mk (st := s_law_names) l_law_names c_law_names k_law_names,
     PySem.W.mg_of X G a_law_names,
     k_law_names,
     (fun_mk (st := s_law_names) l_law_names c_law_names k_law_names).binds (ps := ["_law_error_here"]) fun _ _ _ _ _ _ us hl => match us, hl with | [_], _ => rfl,
     fun_mk (st := s_law_refused) l_law_refused c_law_refused k_law_refused,
     PySem.W.mg_of X G a_law_refused,
     k_law_refused,
     (fun_mk (st := s_law_refused) l_law_refused c_law_refused k_law_refused).binds (ps := ["_law_call", "_law_handed", "_law_name"]) fun _ _ _ _ _ _ us hl => match us, hl with | [_, _, _], _ => rfl,
     fun_mk (st := s_law_due) l_law_due c_law_due k_law_due,
     PySem.W.mg_of X G a_law_due,
     k_law_due,
     (fun_mk (st := s_law_due) l_law_due c_law_due k_law_due).binds (ps := ["_law_history_here", "_law_line", "_law_fork", "_law_odd_line", "_law_odd_fork"]) fun _ _ _ _ _ _ us hl => match us, hl with | [_, _, _, _, _], _ => rfl,
     fun_mk (st := s_law_right) l_law_right c_law_right k_law_right,
     PySem.W.mg_of X G a_law_right,
     k_law_right,
     (fun_mk (st := s_law_right) l_law_right c_law_right k_law_right).binds (ps := ["_law_history_here", "_law_line", "_law_fork", "_law_odd_line", "_law_odd_fork"]) fun _ _ _ _ _ _ us hl => match us, hl with | [_, _, _, _, _], _ => rfl,
     fun_mk (st := s_law) l_law c_law k_law,
     PySem.W.mg_of X G a_law,
     k_law,
     (fun_mk (st := s_law) l_law c_law k_law).binds (ps := ["_law_script"]) fun _ _ _ _ _ _ us hl => match us, hl with | [_], _ => rfl,
     fun s u => .of_eq rfl⟩⟩
theorem all_ok {P : Program} {w : World} {K : PySem.W.Frag} {mg : Str → Option Value} {base : Heap} {a : Adr} (T : Txt P K mg a) : FnOk P w K mg base CX0 11 a.f_law a.d_law ["_law_script"] (sp_law K) := by
  have G_is_number : FnOk P w K mg base CX0 1 a.f_is_number a.d_is_number ["thing"] (sp_is_number K) := ok_is_number T 
  have G__law_state : FnOk P w K mg base CX0 1 a.f_law_state a.d_law_state ["_law_script"] (sp_law_state K) := ok_law_state T 
  have G__law_next : FnOk P w K mg base CX0 1 a.f_law_next a.d_law_next ["_law_state_here", "_law_below"] (sp_law_next K) := ok_law_next T 
  have G__law_names : FnOk P w K mg base CX0 1 a.f_law_names a.d_law_names ["_law_error_here"] (sp_law_names K a) := ok_law_names T 
  have G__law_due : FnOk P w K mg base CX0 1 a.f_law_due a.d_law_due ["_law_history_here", "_law_line", "_law_fork", "_law_odd_line", "_law_odd_fork"] (sp_law_due K) := ok_law_due T 
  have G_is_within : FnOk P w K mg base CX0 2 a.f_is_within a.d_is_within ["thing", "least", "most"] (sp_is_within K) := ok_is_within T G_is_number
  have G__law_history : FnOk P w K mg base CX0 2 a.f_law_history a.d_law_history ["_law_state_here"] (sp_law_history K) := ok_law_history T G__law_next
  have G_is_place : FnOk P w K mg base CX0 3 a.f_is_place a.d_is_place ["thing"] (sp_is_place K) := ok_is_place T G_is_within
  have G_is_line : FnOk P w K mg base CX0 3 a.f_is_line a.d_is_line ["thing"] (sp_is_line K) := ok_is_line T G_is_within
  have G__law_alike : FnOk P w K mg base CX0 3 a.f_law_alike a.d_law_alike ["_law_found", "_law_due_here"] (sp_law_alike K) := ok_law_alike T 
  have G_is_line_and_place : FnOk P w K mg base CX0 4 a.f_is_line_and_place a.d_is_line_and_place ["thing"] (sp_is_line_and_place K) := ok_is_line_and_place T G_is_line G_is_place
  have G_is_history : FnOk P w K mg base CX0 5 a.f_is_history a.d_is_history ["thing"] (sp_is_history K) := ok_is_history T G_is_line_and_place
  have G_require_history : FnOk P w K mg base (CX1 P w) 6 a.f_require_history a.d_require_history ["thing"] (sp_require_history K a) := ok_require_history T G_is_history
  have G_extended : FnOk P w K mg base (CX1 P w) 7 a.f_extended a.d_extended ["history", "line", "fork"] (sp_extended K a) := ok_extended T G_is_within G_require_history
  have G__law_error : FnOk P w K mg base CX0 8 a.f_law_error a.d_law_error ["_law_call", "_law_handed"] (sp_law_error K a) := ok_law_error T G_extended
  have G__law_refused : FnOk P w K mg base CX0 9 a.f_law_refused a.d_law_refused ["_law_call", "_law_handed", "_law_name"] (sp_law_refused K a) := ok_law_refused T G__law_error G__law_names
  have G__law_right : FnOk P w K mg base CX0 10 a.f_law_right a.d_law_right ["_law_history_here", "_law_line", "_law_fork", "_law_odd_line", "_law_odd_fork"] (sp_law_right K a) := ok_law_right T G__law_alike G__law_due G__law_refused G_extended
  have G_law : FnOk P w K mg base CX0 11 a.f_law a.d_law ["_law_script"] (sp_law K) := ok_law T G__law_history G__law_next G__law_refused G__law_right G__law_state
  exact G_law
end My
open PySem PySem.W PyProof.Rows
set_option maxRecDepth 100000 in
set_option maxHeartbeats 0 in
theorem PySem.Challenge.cw_laterline_k15_histories_extended_holds : PySem.Challenge.rw_laterline_k15_histories_extended.Holds := by
  w_on; o_law
  refine PySem.W.holds_open (q := My.vw) (loose := My.lo) (Xt := My.xt) (XP := PySem.W.XL My.vw My.lv) (Yf := (PySem.W.kHook My.KF My.KA My.ke).obs) (Ya := (PySem.W.kHook My.KF My.KA My.ke).val) (YP := (PySem.W.kHook My.KF My.KA My.ke).says) (N := 6466) My.left (PySem.W.kHook My.KF My.KA My.ke).of (PySem.W.kHook My.KF My.KA My.ke).keeps (fun s e => PySem.W.xl_of s (Bool.and_eq_true_iff.mp e).1) PySem.W.XL.keeps (by rfl) (by rfl) (by rfl) (fun s e => PySem.W.recFacts_of (Bool.and_eq_true_iff.mp e).2) (by rfl) (by first | assumption | decide +kernel) (by decide +kernel) ⟨rfl, rfl, rfl, rfl, rfl, by decide +kernel⟩ ?hw ?hc
  case hw => w_witness2
  k_fill
  refine L2.walk_ofK (l := PySem.Challenge.rw_laterline_k15_histories_extended) (n := 63) (k := 11) (x := "_law_script") (CX := L2.CX0) (sp := My.sp_law) rfl (by decide) rfl ⟨rfl, by decide, by decide, rfl⟩ (fun w h Y => PySem.W.kIn_of Y) ?F ?S ?C
  case F =>
    intro w mg fa h KX G hmg
    have T : ∃ a, My.Txt (PySem.Challenge.rw_laterline_k15_histories_extended).prog (L2.KOf KX) mg a := by
      dsimp only [L2.KOf]
      refine' My.txt_mk KX G ?a_is_number ?l_is_number ?c_is_number ?k_is_number ?a_is_within ?l_is_within ?c_is_within ?k_is_within ?a_is_place ?l_is_place ?c_is_place ?k_is_place ?a_is_line ?l_is_line ?c_is_line ?k_is_line ?a_is_line_and_place ?l_is_line_and_place ?c_is_line_and_place ?k_is_line_and_place ?a_is_history ?l_is_history ?c_is_history ?k_is_history ?a_require_history ?l_require_history ?c_require_history ?k_require_history ?a_extended ?l_extended ?c_extended ?k_extended ?a_law_state ?l_law_state ?c_law_state ?k_law_state ?a_law_next ?l_law_next ?c_law_next ?k_law_next ?a_law_history ?l_law_history ?c_law_history ?k_law_history ?a_law_alike ?l_law_alike ?c_law_alike ?k_law_alike ?a_law_error ?l_law_error ?c_law_error ?k_law_error ?a_law_names ?l_law_names ?c_law_names ?k_law_names ?a_law_refused ?l_law_refused ?c_law_refused ?k_law_refused ?a_law_due ?l_law_due ?c_law_due ?k_law_due ?a_law_right ?l_law_right ?c_law_right ?k_law_right ?a_law ?l_law ?c_law ?k_law ?z_ValueError ?z_all ?z_bool ?z_int ?z_isinstance ?z_len ?z_list ?z_min ?z_range ?z_str ?z_tuple ?z_zip ?vC_Elder ?vC_Full ?vC_Gap ?vC_LineError ?vC_NoCount ?vC_NoHistory ?vC_NoPlace ?vC_NoRow ?vC_TooEarly ?vC_TooOld ?zsu ?rr_ztp ?fI_Full ?lI_Full ?cI_Full ?hI_Full ?rf_vI_Full ?rr_eI_Full ?gI_Full ?rr_xk_Full ?rr_xi_Full ?kC_Full ?fI_NoCount ?lI_NoCount ?cI_NoCount ?hI_NoCount ?rf_vI_NoCount ?rr_eI_NoCount ?gI_NoCount ?rr_xk_NoCount ?rr_xi_NoCount ?kC_NoCount ?fI_NoHistory ?lI_NoHistory ?cI_NoHistory ?hI_NoHistory ?rf_vI_NoHistory ?rr_eI_NoHistory ?gI_NoHistory ?rr_xk_NoHistory ?rr_xi_NoHistory ?kC_NoHistory ?rr_xg_Full ?rr_ex_Full_LineError ?rr_is_Full_Elder ?rr_is_Full_Full ?rr_is_Full_Gap ?rr_is_Full_NoCount ?rr_is_Full_NoHistory ?rr_is_Full_NoPlace ?rr_is_Full_NoRow ?rr_is_Full_TooEarly ?rr_is_Full_TooOld ?rr_is_Full_ValueError ?rr_xg_NoCount ?rr_ex_NoCount_LineError ?rr_is_NoCount_Elder ?rr_is_NoCount_Full ?rr_is_NoCount_Gap ?rr_is_NoCount_NoCount ?rr_is_NoCount_NoHistory ?rr_is_NoCount_NoPlace ?rr_is_NoCount_NoRow ?rr_is_NoCount_TooEarly ?rr_is_NoCount_TooOld ?rr_is_NoCount_ValueError ?rr_xg_NoHistory ?rr_ex_NoHistory_LineError ?rr_is_NoHistory_Elder ?rr_is_NoHistory_Full ?rr_is_NoHistory_Gap ?rr_is_NoHistory_NoCount ?rr_is_NoHistory_NoHistory ?rr_is_NoHistory_NoPlace ?rr_is_NoHistory_NoRow ?rr_is_NoHistory_TooEarly ?rr_is_NoHistory_TooOld ?rr_is_NoHistory_ValueError ?v_LAST_LINE ?r_LAST_LINE ?v_LAST_PLACE ?r_LAST_PLACE ?v_LINES ?r_LINES
      (case vC_Elder => k_is)
      (case vC_Full => k_is)
      (case vC_Gap => k_is)
      (case vC_LineError => k_is)
      (case vC_NoCount => k_is)
      (case vC_NoHistory => k_is)
      (case vC_NoPlace => k_is)
      (case vC_NoRow => k_is)
      (case vC_TooEarly => k_is)
      (case vC_TooOld => k_is)
      (case a_is_number => k_is)
      (case l_is_number => k_is)
      (case c_is_number => k_is)
      (case k_is_number => k_is)
      (case a_is_within => k_is)
      (case l_is_within => k_is)
      (case c_is_within => k_is)
      (case k_is_within => k_is)
      (case a_is_place => k_is)
      (case l_is_place => k_is)
      (case c_is_place => k_is)
      (case k_is_place => k_is)
      (case a_is_line => k_is)
      (case l_is_line => k_is)
      (case c_is_line => k_is)
      (case k_is_line => k_is)
      (case a_is_line_and_place => k_is)
      (case l_is_line_and_place => k_is)
      (case c_is_line_and_place => k_is)
      (case k_is_line_and_place => k_is)
      (case a_is_history => k_is)
      (case l_is_history => k_is)
      (case c_is_history => k_is)
      (case k_is_history => k_is)
      (case a_require_history => k_is)
      (case l_require_history => k_is)
      (case c_require_history => k_is)
      (case k_require_history => k_is)
      (case a_extended => k_is)
      (case l_extended => k_is)
      (case c_extended => k_is)
      (case k_extended => k_is)
      (case a_law_state => k_is)
      (case l_law_state => k_is)
      (case c_law_state => k_is)
      (case k_law_state => k_is)
      (case a_law_next => k_is)
      (case l_law_next => k_is)
      (case c_law_next => k_is)
      (case k_law_next => k_is)
      (case a_law_history => k_is)
      (case l_law_history => k_is)
      (case c_law_history => k_is)
      (case k_law_history => k_is)
      (case a_law_alike => k_is)
      (case l_law_alike => k_is)
      (case c_law_alike => k_is)
      (case k_law_alike => k_is)
      (case a_law_error => k_is)
      (case l_law_error => k_is)
      (case c_law_error => k_is)
      (case k_law_error => k_is)
      (case a_law_names => k_is)
      (case l_law_names => k_is)
      (case c_law_names => k_is)
      (case k_law_names => k_is)
      (case a_law_refused => k_is)
      (case l_law_refused => k_is)
      (case c_law_refused => k_is)
      (case k_law_refused => k_is)
      (case a_law_due => k_is)
      (case l_law_due => k_is)
      (case c_law_due => k_is)
      (case k_law_due => k_is)
      (case a_law_right => k_is)
      (case l_law_right => k_is)
      (case c_law_right => k_is)
      (case k_law_right => k_is)
      (case a_law => k_is)
      (case l_law => k_is)
      (case c_law => k_is)
      (case k_law => k_is)
      (case z_ValueError => k_is)
      (case z_all => k_is)
      (case z_bool => k_is)
      (case z_int => k_is)
      (case z_isinstance => k_is)
      (case z_len => k_is)
      (case z_list => k_is)
      (case z_min => k_is)
      (case z_range => k_is)
      (case z_str => k_is)
      (case z_tuple => k_is)
      (case z_zip => k_is)
      (case zsu => k_is)
      (case rr_ztp => kernel_rfl)
      (case fI_Full => k_is)
      (case lI_Full => k_is)
      (case cI_Full => k_is)
      (case hI_Full => k_is)
      (case rf_vI_Full => exact rfl)
      (case rr_eI_Full => kernel_rfl)
      (case gI_Full => k_is)
      (case rr_xk_Full => kernel_rfl)
      (case rr_xi_Full => kernel_rfl)
      (case kC_Full => k_is)
      (case fI_NoCount => k_is)
      (case lI_NoCount => k_is)
      (case cI_NoCount => k_is)
      (case hI_NoCount => k_is)
      (case rf_vI_NoCount => exact rfl)
      (case rr_eI_NoCount => kernel_rfl)
      (case gI_NoCount => k_is)
      (case rr_xk_NoCount => kernel_rfl)
      (case rr_xi_NoCount => kernel_rfl)
      (case kC_NoCount => k_is)
      (case fI_NoHistory => k_is)
      (case lI_NoHistory => k_is)
      (case cI_NoHistory => k_is)
      (case hI_NoHistory => k_is)
      (case rf_vI_NoHistory => exact rfl)
      (case rr_eI_NoHistory => kernel_rfl)
      (case gI_NoHistory => k_is)
      (case rr_xk_NoHistory => kernel_rfl)
      (case rr_xi_NoHistory => kernel_rfl)
      (case kC_NoHistory => k_is)
      (case rr_xg_Full => kernel_rfl)
      (case rr_ex_Full_LineError => kernel_rfl)
      (case rr_is_Full_Elder => kernel_rfl)
      (case rr_is_Full_Full => kernel_rfl)
      (case rr_is_Full_Gap => kernel_rfl)
      (case rr_is_Full_NoCount => kernel_rfl)
      (case rr_is_Full_NoHistory => kernel_rfl)
      (case rr_is_Full_NoPlace => kernel_rfl)
      (case rr_is_Full_NoRow => kernel_rfl)
      (case rr_is_Full_TooEarly => kernel_rfl)
      (case rr_is_Full_TooOld => kernel_rfl)
      (case rr_is_Full_ValueError => kernel_rfl)
      (case rr_xg_NoCount => kernel_rfl)
      (case rr_ex_NoCount_LineError => kernel_rfl)
      (case rr_is_NoCount_Elder => kernel_rfl)
      (case rr_is_NoCount_Full => kernel_rfl)
      (case rr_is_NoCount_Gap => kernel_rfl)
      (case rr_is_NoCount_NoCount => kernel_rfl)
      (case rr_is_NoCount_NoHistory => kernel_rfl)
      (case rr_is_NoCount_NoPlace => kernel_rfl)
      (case rr_is_NoCount_NoRow => kernel_rfl)
      (case rr_is_NoCount_TooEarly => kernel_rfl)
      (case rr_is_NoCount_TooOld => kernel_rfl)
      (case rr_is_NoCount_ValueError => kernel_rfl)
      (case rr_xg_NoHistory => kernel_rfl)
      (case rr_ex_NoHistory_LineError => kernel_rfl)
      (case rr_is_NoHistory_Elder => kernel_rfl)
      (case rr_is_NoHistory_Full => kernel_rfl)
      (case rr_is_NoHistory_Gap => kernel_rfl)
      (case rr_is_NoHistory_NoCount => kernel_rfl)
      (case rr_is_NoHistory_NoHistory => kernel_rfl)
      (case rr_is_NoHistory_NoPlace => kernel_rfl)
      (case rr_is_NoHistory_NoRow => kernel_rfl)
      (case rr_is_NoHistory_TooEarly => kernel_rfl)
      (case rr_is_NoHistory_TooOld => kernel_rfl)
      (case rr_is_NoHistory_ValueError => kernel_rfl)
      (case v_LAST_LINE => k_is)
      (case r_LAST_LINE => exact ⟨_, rfl⟩)
      (case v_LAST_PLACE => k_is)
      (case r_LAST_PLACE => exact ⟨_, rfl⟩)
      (case v_LINES => k_is)
      (case r_LINES => exact ⟨_, rfl⟩)
    obtain ⟨a, T⟩ := T
    have e0 := hmg.symm.trans T.m_law
    cases e0
    exact ⟨_, T.bl_law, fun base kb nb => My.all_ok T⟩
  case S => exact fun K H a ns hl hO hS => ⟨a, ns, rfl, hS, hl, fun _ => rfl⟩
  case C => exact fun _ _ _ _ z => z
